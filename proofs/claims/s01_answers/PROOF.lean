import PyProof.Rows.All
import Wide.All
import OpenK.AllK
import Wide.FinOn
import PyProof.EqAt
import PyProof.EqKinds
import PyProof.TupleCall
import KE.BitLaws
import Open.SpecLaws
import KE.OsHead
import KE.OsGo
import PySem.Challenge.RW_toldforms_s01_answers
import VaflxmSpec
import PyVaflxm
set_option Elab.async false
set_option compiler.extract_closed false
set_option linter.all false
set_option maxRecDepth 100000
namespace L2
open PySem PySem.Spec PyProof.Rows
abbrev Key := Sum Int Str
def keyIs : Key → Value → Bool
 | .inl k, v => Value.isInt k v
 | .inr x, v => Value.isStrOf x v
def keyH (w : World) : Key → Int
 | .inl k => hashInt k
 | .inr x => hashStr w x
theorem keyIs_shape : ∀ {k : Key} {v : Value}, keyIs k v = true → (∃ i t, k = Sum.inl i ∧ v = Value.int i t) ∨ (∃ x t, k = Sum.inr x ∧ v = Value.str x t)
 | .inl i, v, h => by
  obtain ⟨t, e⟩ := Value.isInt_shape (k := i) (v := v) h
  exact .inl ⟨i, t, rfl, e⟩
 | .inr x, v, h => by
  obtain ⟨t, e⟩ := Value.isStrOf_shape (x := x) (v := v) h
  exact .inr ⟨x, t, rfl, e⟩
theorem keyIs_int (i : Int) (t : Tok) : keyIs (.inl i) (.int i t) = true := by simp [keyIs, Value.isInt]
theorem keyIs_str (x : Str) (t : Tok) : keyIs (.inr x) (.str x t) = true := by simp [keyIs, Value.isStrOf]
theorem key_ll (a b : Int) : decide ((Sum.inl a : Key) = Sum.inl b) = (a == b) := by
 by_cases e : a = b
 ·subst e; simp
 ·have h : ¬ (Sum.inl a : Key) = Sum.inl b := fun q => e (Sum.inl.inj q)
  rw [decide_eq_false h]
  exact (beq_eq_false_iff_ne.mpr e).symm
theorem key_rr (a b : Str) : decide ((Sum.inr a : Key) = Sum.inr b) = decide (a = b) := by
 by_cases e : a = b
 ·subst e; simp
 ·have h : ¬ (Sum.inr a : Key) = Sum.inr b := fun q => e (Sum.inr.inj q)
  rw [decide_eq_false h, decide_eq_false e]
theorem key_lr (a : Int) (b : Str) : decide ((Sum.inl a : Key) = Sum.inr b) = false := decide_eq_false (fun q => nomatch q)
theorem key_rl (a : Str) (b : Int) : decide ((Sum.inr a : Key) = Sum.inl b) = false := decide_eq_false (fun q => nomatch q)
def mixKind (prog : Program) (w : World) : PySem.KeyKind prog w Key where
 is := keyIs
 hash := keyH w
 inj := fun v a b ha hb => by
  rcases keyIs_shape ha with ⟨i, t, rfl, rfl⟩ | ⟨x, t, rfl, rfl⟩
  ·rcases keyIs_shape hb with ⟨j, u, rfl, e⟩ | ⟨y, u, rfl, e⟩
   ·injection e with e1 _; rw [e1]
   ·exact nomatch e
  ·rcases keyIs_shape hb with ⟨j, u, rfl, e⟩ | ⟨y, u, rfl, e⟩
   ·exact nomatch e
   ·injection e with e1 _; rw [e1]
 byValue := fun k v h => by
  rcases keyIs_shape h with ⟨i, t, rfl, rfl⟩ | ⟨x, t, rfl, rfl⟩ <;> rfl
 pyHash := fun hv h => by
  rcases keyIs_shape hv with ⟨i, t, rfl, rfl⟩ | ⟨x, t, rfl, rfl⟩
  ·exact wpAny_pyHash_int h
  ·exact wpAny_pyHash_str h
 eqBool := fun hu hv h => by
  rcases keyIs_shape hu with ⟨i, t, rfl, rfl⟩ | ⟨x, t, rfl, rfl⟩
  ·rcases keyIs_shape hv with ⟨j, u, rfl, rfl⟩ | ⟨y, u, rfl, rfl⟩
   ·rw [key_ll] at h; exact wpAny_eqBool_int h
   ·rw [key_lr] at h; exact SeqAt.EqAt.int_str i t y u _ _ _ _ h
  ·rcases keyIs_shape hv with ⟨j, u, rfl, rfl⟩ | ⟨y, u, rfl, rfl⟩
   ·rw [key_rl] at h; exact SeqAt.EqAt.str_int x t j u _ _ _ _ h
   ·rw [key_rr] at h; exact wpAny_eqBool_str h
 «strs» := fun k x t v h => by
  rcases keyIs_shape h with ⟨i, u, rfl, e⟩ | ⟨y, u, rfl, e⟩
  ·exact nomatch e
  ·injection e with e1 _
   subst e1
   cases v <;> rfl
theorem mixKind_int (prog : Program) (w : World) (i : Int) (t : Tok) : (mixKind prog w).is (.inl i) (.int i t) = true := keyIs_int i t
theorem mixKind_str (prog : Program) (w : World) (x : Str) (t : Tok) : (mixKind prog w).is (.inr x) (.str x t) = true := keyIs_str x t
end L2
namespace L2
open PySem PySem.Spec PyProof.Rows
inductive V where
 | non | bl (b : Bool) | int (i : Int) | str (x : Str) | byt (b : Array UInt8) | flt (b : UInt64) | ref (a : Addr) | ty (n : String)
 deriving DecidableEq
def RelV : V → Value → Prop
 | .non, u => u = Value.none
 | .bl b, u => u = Value.bool b
 | .int i, u => ∃ t, u = Value.int i t
 | .str x, u => ∃ t, u = Value.str x t
 | .byt b, u => ∃ t, u = Value.bytes b t
 | .flt b, u => ∃ t, u = Value.float b t
 | .ref a, u => u = Value.ref a
 | .ty n, u => u = Value.type n
abbrev Vals : List V → List Value → Prop := Paired RelV
theorem Vals.length {xs : List V} {us : List Value} (r : Vals xs us) : xs.length = us.length := Paired.length r
theorem Vals.get : ∀ {xs : List V} {us : List Value} {i : Nat} {x : V}, Vals xs us → xs[i]? = some x → ∃ u, us[i]? = some u ∧ RelV x u
 | _, _, _, _, .nil, e => by simp at e
 | _, _, 0, _, .cons r _, e => by simp at e; subst e; exact ⟨_, rfl, r⟩
 | _, _, i + 1, x, .cons _ t, e => by
  obtain ⟨u, h1, h2⟩ := Vals.get (i := i) (x := x) t (by simpa using e)
  exact ⟨u, by simpa using h1, h2⟩
theorem Vals.set {x : V} {u : Value} (r : RelV x u) : ∀ {xs : List V} {us : List Value} (i : Nat), Vals xs us → Vals (xs.set i x) (us.set i u)
 | _, _, _, .nil => .nil
 | _, _, 0, .cons _ t => .cons r t
 | _, _, i + 1, .cons q t => .cons q (Vals.set r i t)
theorem Vals.append : ∀ {xs ys : List V} {us ws : List Value}, Vals xs us → Vals ys ws → Vals (xs ++ ys) (us ++ ws)
 | _, _, _, _, .nil, s => s
 | _, _, _, _, .cons r t, s => .cons r (Vals.append t s)
theorem Vals.take : ∀ {xs : List V} {us : List Value} (n : Nat), Vals xs us → Vals (xs.take n) (us.take n)
 | _, _, 0, _ => .nil
 | _, _, _ + 1, .nil => .nil
 | _, _, n + 1, .cons r t => .cons r (Vals.take n t)
theorem Vals.drop : ∀ {xs : List V} {us : List Value} (n : Nat), Vals xs us → Vals (xs.drop n) (us.drop n)
 | _, _, 0, r => r
 | _, _, _ + 1, .nil => .nil
 | _, _, n + 1, .cons _ t => Vals.drop n t
def RelO : Option V → Option Value → Prop
 | some v, some u => RelV v u
 | none, none => True
 | _, _ => False
def KV {κ : Type} : List (κ × V) → List (κ × Value) → Prop := Paired fun (p : κ × V) (q : κ × Value) => p.1 = q.1 ∧ RelV p.2 q.2
def kV : Key → V
 | .inl i => .int i
 | .inr x => .str x
inductive HO where
 | lst (xs : List V)
 | tup (xs : List V)
 | dK (kvs : List (Key × V)) | dT (kvs : List (List Key × V))
 | set (S : Int → Bool) (n : Nat)
 | ins (C dx : Addr) (fs : List (Str × V))
 | own (x : Addr)
 | xd (fs : List (Str × V))
 | met (f x : Addr)
 | rng (lo hi : Int)
 | frz (o : Obj) (u : HO)
 | tbl (ps : Array Value)
 | ext (φ : Heap → Prop)
abbrev Hp := Addr → Option HO
def upd (H : Hp) (a : Addr) (o : HO) : Hp := fun b => if b = a then some o else H b
theorem upd_same {H : Hp} {a : Addr} {o : HO} : upd H a o a = some o := by unfold upd; rw [if_pos rfl]
theorem upd_ne {H : Hp} {a b : Addr} {o : HO} (h : b ≠ a) : upd H a o b = H b := by unfold upd; rw [if_neg h]
theorem upd_upd {H : Hp} {a : Addr} {o u : HO} : upd (upd H a o) a u = upd H a u := by
 funext b; unfold upd; split <;> rfl
theorem ne_of {H : Hp} {a b : Addr} {o u : HO} (h : H a = some o) (h' : H b = some u) (d : o ≠ u) : a ≠ b := by
 intro e; subst e; rw [h] at h'; exact d (Option.some.inj h')
theorem ne_of_none {H : Hp} {a b : Addr} {o : HO} (h : H a = some o) (h' : H b = none) : a ≠ b := by
 intro e; subst e; rw [h] at h'; cases h'
section
variable (P : Program) (w : World)
def ObjOk (H : Hp) (h : Heap) (a : Addr) : HO → Prop
 | .lst xs => xs.length ≤ sizeLine ∧ ∃ (its : List Value) (n : Nat), Vals xs its ∧ h.get? a = some { cls := .type "list", data := .seq its.toArray n }
 | .tup xs => xs.length ≤ sizeLine ∧ ∃ its : List Value, Vals xs its ∧ IsTup h a its.toArray
 | .dK kvs => kvs.length ≤ sizeLine ∧ (a == sysModules) = false ∧ ∃ vs, KV kvs vs ∧ h.DictOf (mixKind P w) a vs
 | .dT kvs => kvs.length ≤ sizeLine ∧ (a == sysModules) = false ∧ ∃ xs : List (List Key × Addr × Value),
   Paired (fun (p : List Key × V) (q : List Key × Addr × Value) => p.1 = q.1 ∧ H q.2.1 = some (.tup (p.1.map kV)) ∧ RelV p.2 q.2.2) kvs xs ∧
   ∃ o es ep, h.get? a = some o ∧ o.ExactDict ∧ o.data = .dict es ep ∧ es.toList = xs.map (entryOfKey (tupleKind (mixKind P w))) ∧ (xs.map (·.1)).Nodup
 | .set S n => h.SetOf (intKind P w) a S n
 | .ins C dx fs => H dx = some (.own a) ∧ fs.length ≤ 1000 ∧ dx ≠ a ∧ h.get? a = some (PySem.W.instObj C dx) ∧
   ∃ mA, h.Ns1 dx mA ∧ (∀ f, RelO (fs.lookup f) (mA f)) ∧ PySem.Within mA (fs.map (·.1))
 | .own _ => ∃ o, h.get? a = some o
 | .xd fs => ∃ mA, h.Ns1 a mA ∧ ∀ f, RelO (fs.lookup f) (mA f)
 | .rng lo hi => ∃ t u v, h.get? a = some { cls := .type "range", data := .fields #[.int lo t, .int hi u, .int 1 v] }
 | .frz o u => h.get? a = some o ∧ ObjOk H h a u
 | .tbl ps => h.get? a = some { cls := .none, data := .fields ps }
 | .met f x => h.get? a = some (PySem.W.methodObj (.ref f) (.ref x))
 | .ext φ => φ h ∧ (∃ o, h.get? a = some o) ∧ ∀ h1 h2 : Heap, φ h1 → (∀ o, h1.get? a = some o → h2.get? a = some o) → φ h2
def HOk (H : Hp) (h : Heap) : Prop := ∀ a o, H a = some o → ObjOk P w H h a o
end
section
variable {P : Program} {w : World} {H H' : Hp} {h h' : Heap} {a : Addr} {o : HO}
theorem ObjOk.lt (x : ObjOk P w H h a o) : a < h.objs.size := by
 cases o with
 | lst xs => obtain ⟨_, _, _, _, e⟩ := x; exact Heap.lt_size e
 | tup xs => obtain ⟨_, _, _, p⟩ := x; exact p.lt
 | dK kvs => obtain ⟨_, _, _, _, o, _, _, e, _⟩ := x; exact Heap.lt_size e
 | dT kvs => obtain ⟨_, _, _, _, o, _, _, e, _⟩ := x; exact Heap.lt_size e
 | set S n => obtain ⟨o, _, _, _, e, _⟩ := x; exact Heap.lt_size e
 | ins C dx fs => obtain ⟨_, _, _, e, _⟩ := x; exact Heap.lt_size e
 | own y => obtain ⟨_, e⟩ := x; exact Heap.lt_size e
 | xd fs => obtain ⟨_, ⟨_, _, _, e, _⟩, _⟩ := x; exact Heap.lt_size e
 | rng lo hi => obtain ⟨_, _, _, e⟩ := x; exact Heap.lt_size e
 | frz ob u => obtain ⟨e, _⟩ := x; exact Heap.lt_size e
 | tbl ps => exact Heap.lt_size (show h.get? a = some _ from x)
 | met f y => exact Heap.lt_size (show h.get? a = some _ from x)
 | ext φ => obtain ⟨_, ⟨_, e⟩, _⟩ := x; exact Heap.lt_size e
theorem Paired.mapP {α β : Type} {F G : α → β → Prop} : ∀ {l₁ : List α} {l₂ : List β}, Paired F l₁ l₂ → (∀ a b, F a b → G a b) → Paired G l₁ l₂
 | _, _, .nil, _ => .nil
 | _, _, .cons r t, f => .cons (f _ _ r) (Paired.mapP t f)
theorem ObjOk.stay (x : ObjOk P w H h a o) (k : ∀ b u, (b = a ∨ H b = some (.own a)) → h.get? b = some u → h'.get? b = some u)
  (ho : ∀ b, H b = some (.own a) → H' b = some (.own a)) (ht : ∀ b xs, H b = some (.tup xs) → H' b = some (.tup xs)) : ObjOk P w H' h' a o := by
 induction o with
 | lst xs => obtain ⟨z, its, n, r, e⟩ := x; exact ⟨z, its, n, r, k _ _ (.inl rfl) e⟩
 | tup xs => obtain ⟨z, its, r, ob, e, c⟩ := x; exact ⟨z, its, r, ob, k _ _ (.inl rfl) e, c⟩
 | dK kvs => obtain ⟨z, y, vs, r, ob, es, ep, e, c⟩ := x; exact ⟨z, y, vs, r, ob, es, ep, k _ _ (.inl rfl) e, c⟩
 | dT kvs =>
  obtain ⟨z, y, xs, r, ob, es, ep, e, c⟩ := x
  exact ⟨z, y, xs, Paired.mapP r fun p q z => ⟨z.1, ht _ _ z.2.1, z.2.2⟩, ob, es, ep, k _ _ (.inl rfl) e, c⟩
 | set S n => obtain ⟨ob, es, ep, t, e, c⟩ := x; exact ⟨ob, es, ep, t, k _ _ (.inl rfl) e, c⟩
 | ins C dx fs =>
  obtain ⟨d, z, ne, e, mA, ⟨od, es, ep, e2, c⟩, r⟩ := x
  exact ⟨ho _ d, z, ne, k _ _ (.inl rfl) e, mA, ⟨od, es, ep, k _ _ (.inr d) e2, c⟩, r⟩
 | own y => obtain ⟨ob, e⟩ := x; exact ⟨ob, k _ _ (.inl rfl) e⟩
 | xd fs => obtain ⟨mA, ⟨od, es, ep, e, c⟩, r⟩ := x; exact ⟨mA, ⟨od, es, ep, k _ _ (.inl rfl) e, c⟩, r⟩
 | rng lo hi => obtain ⟨t, u, v, e⟩ := x; exact ⟨t, u, v, k _ _ (.inl rfl) e⟩
 | frz ob u ih => obtain ⟨e, q⟩ := x; exact ⟨k _ _ (.inl rfl) e, ih q⟩
 | tbl ps =>
  have e : h.get? a = some { cls := .none, data := .fields ps } := x
  show h'.get? a = some { cls := .none, data := .fields ps }
  exact k a _ (.inl rfl) e
 | met f y =>
  have e : h.get? a = some (PySem.W.methodObj (.ref f) (.ref y)) := x
  show h'.get? a = some (PySem.W.methodObj (.ref f) (.ref y))
  exact k a _ (.inl rfl) e
 | ext φ => obtain ⟨p, ⟨o, e⟩, st⟩ := x; exact ⟨st _ _ p fun o q => k _ _ (.inl rfl) q, ⟨o, k _ _ (.inl rfl) e⟩, st⟩
theorem HOk.lt (x : HOk P w H h) (e : H a = some o) : a < h.objs.size := (x a o e).lt
theorem HOk.fresh (x : HOk P w H h) (e : h.objs.size ≤ a) : H a = none := by
 cases q : H a with
 | none => rfl
 | some u => exact absurd (Nat.lt_of_lt_of_le (x.lt q) e) (Nat.lt_irrefl _)
theorem HOk.kept (x : HOk P w H h) (k : ∀ b u, h.get? b = some u → h'.get? b = some u) : HOk P w H h' := fun a o e =>
 (x a o e).stay (fun b u _ q => k b u q) (fun _ q => q) fun _ _ q => q
theorem HOk.laid (x : HOk P w H h) (k : ∀ b u, h.get? b = some u → h'.get? b = some u) (hp : h.objs.size ≤ a) (new : ObjOk P w (upd H a o) h' a o) : HOk P w (upd H a o) h' := fun b u e => by
 have hn := x.fresh hp
 by_cases hb : b = a
 ·subst hb; rw [upd_same] at e; cases e; exact new
 ·rw [upd_ne hb] at e
  exact (x b u e).stay (fun c v _ q => k c v q) (fun c q => by rw [upd_ne (ne_of_none q hn)]; exact q) fun c xs q => by rw [upd_ne (ne_of_none q hn)]; exact q
end
def Rd (H : Hp) (a : Addr) (u : HO) : Prop := H a = some u ∨ ∃ o, H a = some (.frz o u)
theorem Rd.ok {P : Program} {w : World} {H : Hp} {h : Heap} {a : Addr} {u : HO} (r : Rd H a u) (x : HOk P w H h) : ObjOk P w H h a u := by
 rcases r with r | ⟨o, r⟩
 ·exact x a u r
 ·obtain ⟨_, q⟩ := x a _ r
  exact q
def Mut : Option HO → Prop
 | some (.lst _) => True
 | some (.dK _) => True
 | some (.dT _) => True
 | some (.set _ _) => True
 | some (.ins _ _ _) => True
 | some (.ext _) => True
 | _ => False
section
variable {P : Program} {w : World} {H : Hp} {h h' : Heap} {x e : Addr} {o' : HO}
theorem HOk.write (ok : HOk P w H h) (mu : Mut (H x)) (he : e = x ∨ H e = some (.own x)) (k : ∀ b u, b ≠ e → h.get? b = some u → h'.get? b = some u) (heo : ∃ u, h'.get? e = some u)
  (new : ObjOk P w (upd H x o') h' x o') : HOk P w (upd H x o') h' := fun b u q => by
 have nown : ∀ c y, H c = some (.own y) → c ≠ x := fun c y r z => by subst z; rw [r] at mu; exact mu
 have ntup : ∀ c xs, H c = some (.tup xs) → c ≠ x := fun c xs r z => by subst z; rw [r] at mu; exact mu
 by_cases hb : b = x
 ·subst hb; rw [upd_same] at q; cases q; exact new
 ·rw [upd_ne hb] at q
  by_cases hbe : b = e
  ·have q' : H b = some (.own x) := by
    rcases he with z | z
    ·exact absurd (hbe.trans z) hb
    ·rw [hbe]; exact z
   rw [q] at q'; cases q'
   obtain ⟨v, hv⟩ := heo
   exact ⟨v, by rw [hbe]; exact hv⟩
  ·refine (ok b u q).stay (fun c v hc r => k c v ?_ r) (fun c r => by rw [upd_ne (nown c b r)]; exact r) fun c xs r => by rw [upd_ne (ntup c xs r)]; exact r
   rcases hc with rfl | hc
   ·exact hbe
   ·rintro rfl
    rcases he with z | z
    ·exact nown c b hc z
    ·rw [hc] at z; cases z; exact hb rfl
end
structure Un (fs ex : List Addr) (H H' : Hp) (h h' : Heap) : Prop where
 keep : ∀ b o, h.get? b = some o → H b = none → b ∉ fs → b ∉ ex → h'.get? b = some o
 slot : ∀ b o, h.get? b = some o → H b = none → b ∈ fs → b ∉ ex → ∃ sl, h'.get? b = some { o with slots := sl }
 free : ∀ b o, h.get? b = some o → H b = none → b ∉ ex → H' b = none
 there : ∀ b o, h.get? b = some o → b ∉ ex → ∃ o', h'.get? b = some o'
 tups : ∀ b xs, H b = some (.tup xs) → H' b = some (.tup xs)
 frzs : ∀ b o u, H b = some (.frz o u) → H' b = some (.frz o u)
 tbls : ∀ b ps, H b = some (.tbl ps) → ∃ more, H' b = some (.tbl (ps ++ more))
section
variable {fs fs' ex ex' : List Addr} {H H1 H2 : Hp} {h h1 h2 h' : Heap} {a x e : Addr} {o : HO}
theorem Un.any (u : Un fs ex H H1 h h1) {b : Addr} {ob : Obj} (q : h.get? b = some ob) (n : H b = none) (hx : b ∉ ex) : ∃ sl, h1.get? b = some { ob with slots := sl } := by
 by_cases hb : b ∈ fs
 ·exact u.slot b ob q n hb hx
 ·exact ⟨ob.slots, u.keep b ob q n hb hx⟩
theorem Un.kept (k : ∀ b u, h.get? b = some u → h'.get? b = some u) : Un fs ex H H h h' :=
 ⟨fun b ob q _ _ _ => k b ob q, fun b ob q _ _ _ => ⟨ob.slots, k b ob q⟩, fun _ _ _ n _ => n, fun b ob q _ => ⟨ob, k b ob q⟩, fun _ _ q => q, fun _ _ _ q => q, fun _ ps q => ⟨#[], by rw [q]; simp⟩⟩
theorem Un.refl : Un fs ex H H h h := Un.kept fun _ _ q => q
theorem Un.laid (k : ∀ b u, h.get? b = some u → h'.get? b = some u) (hp : h.objs.size ≤ a) (hn : H a = none) : Un fs ex H (upd H a o) h h' where
 keep := fun b u q _ _ _ => k b u q
 slot := fun b u q _ _ _ => ⟨u.slots, k b u q⟩
 free := fun b u q n _ => by rw [upd_ne (Nat.ne_of_lt (Nat.lt_of_lt_of_le (Heap.lt_size q) hp))]; exact n
 there := fun b u q _ => ⟨u, k b u q⟩
 tups := fun b xs q => by rw [upd_ne (ne_of_none q hn)]; exact q
 frzs := fun b u xs q => by rw [upd_ne (ne_of_none q hn)]; exact q
 tbls := fun b ps q => ⟨#[], by rw [upd_ne (ne_of_none q hn), q]; simp⟩
theorem Un.write (mu : Mut (H x)) (he : e = x ∨ H e = some (.own x)) (k : ∀ b u, b ≠ e → h.get? b = some u → h'.get? b = some u) (heo : ∃ u, h'.get? e = some u) : Un fs ex H (upd H x o) h h' := by
 have hx : ∀ b, H b = none → b ≠ x := fun b n z => by subst z; rw [n] at mu; exact mu
 have hb : ∀ b, H b = none → b ≠ e := fun b n z => by
  subst z
  rcases he with r | r
  ·exact hx b n r
  ·rw [n] at r; cases r
 have hm : ∀ b u, H b = some u → ¬ Mut (some u) → b ≠ x := fun b u q nm z => by subst z; rw [q] at mu; exact nm mu
 refine ⟨fun b u q n _ _ => k b u (hb b n) q, fun b u q n _ _ => ⟨u.slots, k b u (hb b n) q⟩, fun b u q n _ => by rw [upd_ne (hx b n)]; exact n, fun b u q _ => ?_,
  fun b xs q => by rw [upd_ne (hm b _ q fun z => z)]; exact q, fun b u xs q => by rw [upd_ne (hm b _ q fun z => z)]; exact q, fun b ps q => ⟨#[], by rw [upd_ne (hm b _ q fun z => z), q]; simp⟩⟩
 by_cases hbe : b = e
 ·subst hbe; exact heo
 ·exact ⟨u, k b u hbe q⟩
end
def trk (h : Heap) (H : Hp) : List Addr := (List.range h.objs.size).filter fun a => (H a).isSome
def hidT (h : Heap) (H : Hp) : Heap := PySem.W.hideAll h (trk h H)
theorem hidT_size (h : Heap) (H : Hp) : (hidT h H).objs.size = h.objs.size := PySem.W.hideAll_size _ _
theorem hidT_get {h : Heap} {H : Hp} {b : Addr} {o : Obj} (e : h.get? b = some o) (n : H b = none) : (hidT h H).get? b = some o :=
 PySem.W.hideAll_get _ e fun hm => by
  have q : (H b).isSome = true := (List.mem_filter.mp hm).2
  rw [n] at q; simp at q
theorem of_hidT {h : Heap} {H : Hp} {b : Addr} {o : Obj} (e : (hidT h H).get? b = some o) : h.get? b = some o ∧ H b = none := by
 have e' : h.get? b = some o := PySem.W.of_hideAll (trk h H) e
 refine ⟨e', ?_⟩
 cases q : H b with
 | none => rfl
 | some x =>
  have hm : b ∈ trk h H := List.mem_filter.mpr ⟨List.mem_range.mpr (Heap.lt_size e'), by simp [q]⟩
  have z : (hidT h H).get? b = none := PySem.W.hideAll_none (trk h H) hm
  rw [z] at e; cases e
def allNews (g h : Heap) (L : Addr) : List (Addr × Obj) := (List.range h.objs.size).filterMap fun a => if a = L ∨ (g.get? a).isSome = true then none else (h.get? a).map fun o => (a, o)
def rest (g h : Heap) (L d : Addr) : List (Addr × Obj) := (allNews g h L).filter fun p => decide (p.1 ≠ d)
end L2
namespace L2
open PySem PySem.Spec PyProof.Rows
structure Mod (K : PySem.W.Frag) (mg : Str → Option Value) (base : Heap) : Prop where
 kin : K.In base
 glob : base.Ns mainGlobals mg
 blt : ∃ mb, base.Ns builtinsNs mb ∧ ∀ x : Str, x ≠ "__name__" → mb x = bootBuiltins x
 nolimit : base.NoLimit
structure Cx where
 prog : Program
 w : World
 K : PySem.W.Frag
 mg : Str → Option Value
 base : Heap
 A : Around
 N : List Str
 s_0 : Shared
 H_0 : Hp
 env : Env
 outer : List Env
 stack : List Env
 ex : List Addr
 fn : Str → Bool
 calm : Bool
 pn : List (Addr × Obj)
 xe : Value → Shared → Prop
def frs (l : List Env) : List Addr := l.filterMap (·.frame)
abbrev Cx.fs (X : Cx) : List Addr := frs X.outer
def Vis (sc : Scope) (x : Str) : Prop := sc.names.lookup x = some .local ∨ sc.names.lookup x = some .cell ∨ sc.names.lookup x = some .free
def Loc (sc : Scope) (x : Str) : Prop := sc.names.lookup x = some .local ∨ sc.names.lookup x = some .cell
def Look (env : Env) (h : Heap) (m : Str → Option Value) (x : Str) (u : Value) : Prop :=
 (env.kindOf x = some .local ∧ m x = some u) ∨ ((env.kindOf x = some .cell ∨ env.kindOf x = some .free) ∧ ∃ c, env.cells.lookup x = some c ∧ h.IsCell c (some u))
structure Cx.Ok (X : Cx) : Prop where
 mod : Mod X.K X.mg X.base
 kind : X.env.scope.kind = .function
 glob : X.env.globals = mainGlobals
 blt : X.env.builtins = builtinsNs
 above : X.s_0.heap.objs.size ≤ X.env.locals
 inj : ∀ x y c, X.env.cells.lookup x = some c → X.env.cells.lookup y = some c → x = y
 has : ∀ x, (X.env.kindOf x = some .cell ∨ X.env.kindOf x = some .free) → ∃ c, X.env.cells.lookup x = some c
 cab : ∀ x c, X.fn x = true → X.env.cells.lookup x = some c → X.s_0.heap.objs.size ≤ c
 hd : X.calm = true → X.A.handled = none
 frames : X.A.frames = some X.stack
 stk : X.stack = X.outer ∨ (X.stack = X.env :: X.outer ∧ X.env.frame = some X.env.locals)
 exf : ∀ b ∈ X.ex, b ≠ X.env.locals ∧ ∀ x c, X.env.cells.lookup x = some c → c ≠ b
 bs : ∀ b o, X.base.get? b = some o → X.s_0.heap.get? b = some o ∧ X.H_0 b = none
 bsz : X.base.objs.size ≤ X.s_0.heap.objs.size
 noex : ∀ b o, X.base.get? b = some o → b ∉ X.ex
 exfs : ∀ b ∈ X.ex, b ∉ X.fs
 funs : X.s_0.heap.FunFrames X.base X.outer
 frf : ∀ b ∈ X.fs, X.H_0 b = none
structure Inv (X : Cx) (pins : List (Addr × Obj)) (σ : List (Option V)) (H : Hp) (s : Shared) : Prop where
 ok : X.Ok
 os : s.os = X.s_0.os
 bare : AllBare s.gens
 base : Un X.fs X.ex X.H_0 H X.s_0.heap s.heap
 loc : ∃ m, s.heap.Ns X.env.locals m ∧ ∀ (i : Nat) (x : Str) (v : V), X.N[i]? = some x → σ[i]? = some (some v) → Vis X.env.scope x → ∃ u, RelV v u ∧ Look X.env s.heap m x u
 cell : ∀ x c, X.env.cells.lookup x = some c → ∃ v, s.heap.IsCell c v
 free : H X.env.locals = none
 freeC : ∀ x c, X.env.cells.lookup x = some c → H c = none
 pin : ∀ p ∈ X.pn ++ pins, s.heap.get? p.1 = some p.2 ∧ H p.1 = none ∧ p.1 ≠ X.env.locals ∧ p.1 ∉ X.fs ∧ ∀ v, p.2.data ≠ .cell v
 hok : HOk X.prog X.w H s.heap
 len : σ.length = X.N.length
section
variable {X : Cx} {pins : List (Addr × Obj)} {σ : List (Option V)} {H H' : Hp} {s : Shared} {h' : Heap}
theorem Cx.Ok.nofr (ok : X.Ok) {b : Addr} {o : Obj} (e : X.base.get? b = some o) : b ∉ X.fs := fun hb => by
 have := (ok.funs.mem hb).1
 rw [e] at this; cases this
theorem Inv.bs (I : Inv X pins σ H s) : ∀ b o, X.base.get? b = some o → s.heap.get? b = some o ∧ H b = none := fun b o e =>
 ⟨I.base.keep b o (I.ok.bs b o e).1 (I.ok.bs b o e).2 (I.ok.nofr e) (I.ok.noex b o e), I.base.free b o (I.ok.bs b o e).1 (I.ok.bs b o e).2 (I.ok.noex b o e)⟩
theorem Inv.bk (I : Inv X pins σ H s) : ∀ b o, X.base.get? b = some o → s.heap.get? b = some o := fun b o e => (I.bs b o e).1
theorem Inv.mod (I : Inv X pins σ H s) : Mod X.K X.mg X.base := I.ok.mod
theorem Inv.kIn (I : Inv X pins σ H s) : X.K.In s.heap := I.ok.mod.kin.keeps I.bk
theorem Inv.fr (I : Inv X pins σ H s) : ∃ m, Fr X.base X.env.locals s.heap m :=
 let ⟨m, hn, _⟩ := I.loc
 ⟨m, hn, I.bk, Nat.le_trans I.ok.bsz I.ok.above⟩
theorem Inv.lt (I : Inv X pins σ H s) : X.env.locals < s.heap.objs.size := let ⟨_, hn, _⟩ := I.loc; hn.lt
theorem Inv.sz (I : Inv X pins σ H s) : X.s_0.heap.objs.size ≤ s.heap.objs.size := Nat.le_trans I.ok.above (Nat.le_of_lt I.lt)
theorem Inv.nofs (I : Inv X pins σ H s) {a : Addr} (h : s.heap.objs.size ≤ a) : a ∉ X.fs := fun hb => by
 obtain ⟨_, o, ho, _⟩ := I.ok.funs.mem hb
 exact absurd (Nat.lt_of_lt_of_le (Heap.lt_size ho) (Nat.le_trans I.sz h)) (Nat.lt_irrefl _)
theorem Inv.cne (I : Inv X pins σ H s) : ∀ x c, X.env.cells.lookup x = some c → c ≠ X.env.locals := fun x c e z => by
 obtain ⟨v, o, ho, hd⟩ := I.cell x c e
 obtain ⟨m, ⟨o', es, ep, ho', hd', _⟩, _⟩ := I.loc
 rw [z, ho'] at ho; cases ho; rw [hd'] at hd; cases hd
theorem Inv.funs (I : Inv X pins σ H s) : s.heap.FunFrames X.base X.outer := by
 have all : ∀ (l : List Env), (∀ b ∈ frs l, b ∈ X.fs) → X.s_0.heap.FunFrames X.base l → s.heap.FunFrames X.base l := by
  intro l
  induction l with
  | nil => intro _ _; trivial
  | cons env r ih =>
   intro hs hl
   obtain ⟨hk, ⟨L, o, hf, hn, ho, hd⟩, hr⟩ := hl
   have hL : L ∈ X.fs := hs L (by unfold frs; rw [List.filterMap_cons, hf]; exact List.mem_cons_self)
   obtain ⟨sl, e⟩ := I.base.slot L o ho (I.ok.frf L hL) hL fun z => I.ok.exfs L z hL
   exact ⟨hk, ⟨L, _, hf, hn, e, hd⟩, ih (fun b hb => hs b (by unfold frs; rw [List.filterMap_cons, hf]; exact List.mem_cons_of_mem _ hb)) hr⟩
 exact all X.outer (fun _ hb => hb) I.ok.funs
theorem Inv.stack (I : Inv X pins σ H s) : s.heap.FunFrames X.base X.stack := by
 rcases I.ok.stk with e | ⟨e, hf⟩
 ·rw [e]; exact I.funs
 ·rw [e]
  obtain ⟨m, hn, _⟩ := I.loc
  refine .cons (by rw [I.ok.kind]; decide) hf hn ?_ I.funs
  exact Heap.get?_none_of_le (Nat.le_trans I.ok.bsz I.ok.above)
theorem Inv.stkSub (I : Inv X pins σ H s) : ∀ b ∈ frs X.stack, b ∈ X.env.locals :: X.fs := fun b hb => by
 rcases I.ok.stk with e | ⟨e, hf⟩
 ·rw [e] at hb; exact List.mem_cons_of_mem _ hb
 ·rw [e] at hb
  unfold frs at hb
  rw [List.filterMap_cons, hf] at hb
  exact hb
theorem Inv.stkFree (I : Inv X pins σ H s) : ∀ b ∈ frs X.stack, H b = none := fun b hb => by
 rcases List.mem_cons.mp (I.stkSub b hb) with e | hb
 ·rw [e]; exact I.free
 ·obtain ⟨_, o, ho, _⟩ := I.ok.funs.mem hb
  exact I.base.free b o ho (I.ok.frf b hb) fun z => I.ok.exfs b z hb
theorem Inv.step {g' : Array GenState} {t' : Nat} {d' : Drawn} {ch : List Addr} (I : Inv X pins σ H s)
  (hch : ∀ b ∈ ch, (b ∈ X.ex ∨ X.s_0.heap.objs.size ≤ b) ∧ b ≠ X.env.locals ∧ (∀ x c, X.env.cells.lookup x = some c → c ≠ b) ∧ ∀ p ∈ X.pn ++ pins, p.1 ≠ b)
  (keep : ∀ b o, b ≠ X.env.locals → b ∉ X.fs → b ∉ ch → s.heap.get? b = some o → H b = none → h'.get? b = some o)
  (slot : ∀ b o, b ≠ X.env.locals → b ∈ X.fs → b ∉ ch → s.heap.get? b = some o → H b = none → ∃ sl, h'.get? b = some { o with slots := sl }) (free : ∀ b o, b ∉ ch → s.heap.get? b = some o → H b = none → H' b = none)
  (there : ∀ b o, b ∉ ch → s.heap.get? b = some o → ∃ o', h'.get? b = some o')
  (tups : ∀ b xs, H b = some (.tup xs) → H' b = some (.tup xs)) (frzs : ∀ b o u, H b = some (.frz o u) → H' b = some (.frz o u)) (tbls : ∀ b ps, H b = some (.tbl ps) → ∃ more, H' b = some (.tbl (ps ++ more)))
  (ns : ∀ m, s.heap.Ns X.env.locals m → h'.Ns X.env.locals m) (hok : HOk X.prog X.w H' h') (hg : AllBare g') :
  Inv X pins σ H' { s with heap := h', gens := g', drawn := d', toks := t' } := by
 have neL : ∀ b o, X.s_0.heap.get? b = some o → b ≠ X.env.locals := fun b o e => Nat.ne_of_lt (Nat.lt_of_lt_of_le (Heap.lt_size e) I.ok.above)
 have neC : ∀ b o, X.s_0.heap.get? b = some o → b ∉ X.ex → b ∉ ch := fun b o e hx hb => by
  rcases (hch b hb).1 with z | z
  ·exact hx z
  ·exact absurd (Nat.lt_of_lt_of_le (Heap.lt_size e) z) (Nat.lt_irrefl _)
 have cellK : ∀ x c, X.env.cells.lookup x = some c → ∀ v, s.heap.IsCell c v → h'.IsCell c v := fun x c e v ⟨o, ho, hd⟩ => by
  have nch : c ∉ ch := fun z => (hch c z).2.2.1 x c e rfl
  by_cases hc : c ∈ X.fs
  ·obtain ⟨sl, q⟩ := slot c o (I.cne x c e) hc nch ho (I.freeC x c e)
   exact ⟨_, q, hd⟩
  ·exact ⟨o, keep c o (I.cne x c e) hc nch ho (I.freeC x c e), hd⟩
 refine ⟨I.ok, I.os, hg, ⟨fun b o e n hb hx => ?_, fun b o e n hb hx => ?_, fun b o e n hx => ?_, fun b o e hx => ?_, fun b xs e => tups b xs (I.base.tups b xs e), fun b o xs e => frzs b o xs (I.base.frzs b o xs e), fun b ps e => ?_⟩, ?_, fun x c e => ?_, ?_, fun x c e => ?_, fun p hp => ?_, hok, I.len⟩
 ·exact keep b o (neL b o e) hb (neC b o e hx) (I.base.keep b o e n hb hx) (I.base.free b o e n hx)
 ·obtain ⟨sl, e1⟩ := I.base.slot b o e n hb hx
  obtain ⟨sl', e2⟩ := slot b _ (neL b o e) hb (neC b o e hx) e1 (I.base.free b o e n hx)
  exact ⟨sl', e2⟩
 ·obtain ⟨o', e1⟩ := I.base.there b o e hx
  exact free b o' (neC b o e hx) e1 (I.base.free b o e n hx)
 ·obtain ⟨o', e1⟩ := I.base.there b o e hx
  exact there b o' (neC b o e hx) e1
 ·obtain ⟨m1, e1⟩ := I.base.tbls b ps e
  obtain ⟨m2, e2⟩ := tbls b _ e1
  exact ⟨m1 ++ m2, by rw [e2, Array.append_assoc]⟩
 ·obtain ⟨m, hn, hl⟩ := I.loc
  refine ⟨m, ns m hn, fun i x v e1 e2 e3 => ?_⟩
  obtain ⟨u, r, l⟩ := hl i x v e1 e2 e3
  refine ⟨u, r, ?_⟩
  rcases l with l | ⟨k, c, e, z⟩
  ·exact .inl l
  ·exact .inr ⟨k, c, e, cellK x c e _ z⟩
 ·obtain ⟨v, z⟩ := I.cell x c e
  exact ⟨v, cellK x c e v z⟩
 ·obtain ⟨m, ⟨o, _, _, ho, _⟩, _⟩ := I.loc
  exact free _ o (fun z => (hch _ z).2.1 rfl) ho I.free
 ·obtain ⟨v, o, ho, hd⟩ := I.cell x c e
  exact free c o (fun z => (hch c z).2.2.1 x c e rfl) ho (I.freeC x c e)
 ·obtain ⟨e, n, ne, nf, d⟩ := I.pin p hp
  have nch : p.1 ∉ ch := fun z => (hch p.1 z).2.2.2 p hp rfl
  exact ⟨keep p.1 p.2 ne nf nch e n, free p.1 p.2 nch e n, ne, nf, d⟩
theorem Inv.un {t' : Nat} (I : Inv X pins σ H s) (u : Un X.fs [] H H' s.heap h') (hok : HOk X.prog X.w H' h') : Inv X pins σ H' { s with heap := h', toks := t' } := by
 obtain ⟨m, ⟨o, es, ep, ho, r⟩, _⟩ := id I.loc
 obtain ⟨sl, hL⟩ := u.any ho I.free (by simp)
 exact I.step (g' := s.gens) (d' := s.drawn) (ch := []) (fun _ z => nomatch z) (fun b o _ hb _ e n => u.keep b o e n hb (by simp)) (fun b o _ hb _ e n => u.slot b o e n hb (by simp)) (fun b o _ e n => u.free b o e n (by simp)) (fun b o _ e => u.there b o e (by simp)) u.tups u.frzs u.tbls (fun m' hm => by
  obtain ⟨o', es', ep', ho', r'⟩ := hm
  rw [ho] at ho'; cases ho'
  exact ⟨_, es', ep', hL, r'⟩) hok I.bare
theorem Inv.call {g' : Array GenState} {t' : Nat} {d' : Drawn} {ch : List Addr} (I : Inv X pins σ H s) (u : Un (frs X.stack) ch H H' s.heap h') (hok : HOk X.prog X.w H' h') (hg : AllBare g')
  (hch : ∀ b ∈ ch, (b ∈ X.ex ∨ X.s_0.heap.objs.size ≤ b) ∧ b ≠ X.env.locals ∧ (∀ x c, X.env.cells.lookup x = some c → c ≠ b) ∧ ∀ p ∈ X.pn ++ pins, p.1 ≠ b) :
  Inv X pins σ H' { s with heap := h', gens := g', drawn := d', toks := t' } := by
 obtain ⟨m, ⟨o, es, ep, ho, r⟩, _⟩ := id I.loc
 obtain ⟨sl, hL⟩ := u.any ho I.free fun z => (hch _ z).2.1 rfl
 exact I.step (ch := ch) hch (fun b o hL hb hc e n => u.keep b o e n (fun z => (List.mem_cons.mp (I.stkSub b z)).elim hL hb) hc) (fun b o _ _ hc e n => u.any e n hc) (fun b o hc e n => u.free b o e n hc) (fun b o hc e => u.there b o e hc) u.tups u.frzs u.tbls (fun m' hm => by
  obtain ⟨o', es', ep', ho', r'⟩ := hm
  rw [ho] at ho'; cases ho'
  exact ⟨_, es', ep', hL, r'⟩) hok hg
theorem Inv.turned {t' : Nat} {it : Addr} (I : Inv X pins σ H s) (k : ∀ b o, b ≠ it → s.heap.get? b = some o → h'.get? b = some o) (hn : H it = none) (hL : it ≠ X.env.locals)
  (h1 : it ∈ X.ex ∨ X.s_0.heap.objs.size ≤ it) (h2 : ∀ x c, X.env.cells.lookup x = some c → c ≠ it) (h3 : ∀ p ∈ X.pn ++ pins, p.1 ≠ it) : Inv X pins σ H { s with heap := h', toks := t' } := by
 have nit : ∀ b u, H b = some u → b ≠ it := fun b u e z => by rw [z, hn] at e; cases e
 refine I.step (g' := s.gens) (d' := s.drawn) (ch := [it]) (fun b hb => ?_) (fun b o _ _ hc e _ => k b o (fun z => hc (by simp [z])) e) (fun b o _ _ hc e _ => ⟨o.slots, k b o (fun z => hc (by simp [z])) e⟩) (fun _ _ _ _ n => n)
  (fun b o hc e => ⟨o, k b o (fun z => hc (by simp [z])) e⟩) (fun _ _ e => e) (fun _ _ _ e => e) (fun b ps e => ⟨#[], by rw [e]; simp⟩) (fun m hm => ?_) (fun b u e => ?_) I.bare
 ·have e : b = it := by simpa using hb
  subst e
  exact ⟨h1, hL, h2, h3⟩
 ·obtain ⟨o, es, ep, ho, r⟩ := hm
  exact ⟨o, es, ep, k _ o (Ne.symm hL) ho, r⟩
 ·refine (I.hok b u e).stay (fun c v hc q => k c v ?_ q) (fun _ q => q) fun _ _ q => q
  rcases hc with z | z
  ·rw [z]; exact nit b u e
  ·exact nit c _ z
theorem Inv.tok (I : Inv X pins σ H s) (t : Nat) : Inv X pins σ H { s with toks := t } := I.un (h' := s.heap) (t' := t) Un.refl I.hok
theorem Inv.kept {t' : Nat} (I : Inv X pins σ H s) (k : ∀ b u, s.heap.get? b = some u → h'.get? b = some u) : Inv X pins σ H { s with heap := h', toks := t' } := I.un (Un.kept k) (I.hok.kept k)
theorem Inv.laid {a : Addr} {o : HO} {t' : Nat} (I : Inv X pins σ H s) (k : ∀ b u, s.heap.get? b = some u → h'.get? b = some u) (hp : s.heap.objs.size ≤ a) (new : ObjOk X.prog X.w (upd H a o) h' a o) :
  Inv X pins σ (upd H a o) { s with heap := h', toks := t' } := I.un (Un.laid k hp (I.hok.fresh hp)) (I.hok.laid k hp new)
theorem Inv.write {x e : Addr} {o : HO} {t' : Nat} (I : Inv X pins σ H s) (mu : Mut (H x)) (he : e = x ∨ H e = some (.own x)) (k : ∀ b u, b ≠ e → s.heap.get? b = some u → h'.get? b = some u) (heo : ∃ u, h'.get? e = some u)
  (new : ObjOk X.prog X.w (upd H x o) h' x o) : Inv X pins σ (upd H x o) { s with heap := h', toks := t' } := I.un (Un.write mu he k heo) (I.hok.write mu he k heo new)
theorem Inv.weak {σ' : List (Option V)} (I : Inv X pins σ H s) (hl : σ'.length = σ.length) (w : ∀ (i : Nat) v, σ'[i]? = some (some v) → σ[i]? = some (some v)) : Inv X pins σ' H s :=
 ⟨I.ok, I.os, I.bare, I.base, let ⟨m, hn, hl'⟩ := I.loc; ⟨m, hn, fun i x v e1 e2 e3 => hl' i x v e1 (w i v e2) e3⟩, I.cell, I.free, I.freeC, I.pin, I.hok, hl.trans I.len⟩
theorem Inv.pins_of {pins' : List (Addr × Obj)} (I : Inv X pins σ H s) (h : ∀ p ∈ pins', s.heap.get? p.1 = some p.2 ∧ H p.1 = none ∧ p.1 ≠ X.env.locals ∧ p.1 ∉ X.fs ∧ ∀ v, p.2.data ≠ .cell v) : Inv X pins' σ H s :=
 ⟨I.ok, I.os, I.bare, I.base, I.loc, I.cell, I.free, I.freeC, fun p hp => (List.mem_append.mp hp).elim (fun z => I.pin p (List.mem_append_left _ z)) (h p), I.hok, I.len⟩
theorem nodup_ix {N : List Str} (hN : N.Nodup) {i j : Nat} {x : Str} (a : N[i]? = some x) (b : N[j]? = some x) : i = j := by
 obtain ⟨h1, e1⟩ := List.getElem?_eq_some_iff.mp a
 obtain ⟨h2, e2⟩ := List.getElem?_eq_some_iff.mp b
 exact (List.getElem_inj hN).mp (e1.trans e2.symm)
theorem store_ok2 {M : Model} {A : Around} {E : Value → Shared → Prop} {i : Nat} {x : Str} {v : V} {u : Value} {Q : Unit → Shared → Prop} (I : Inv X pins σ H s) (hN : X.N.Nodup) (hi : X.N[i]? = some x) (hx : Loc X.env.scope x) (r : RelV v u)
  (h : ∀ s', Inv X pins (σ.set i (some v)) H s' → (∃ a, Heap.SameBut a s.heap s'.heap ∧ (a = X.env.locals ∨ X.env.cells.lookup x = some a)) → Q () s') (hf : X.fn x = true ∨ X.env.scope.names.lookup x = some .local := by first | exact .inl rfl | exact .inr rfl | assumption) : wpAny M A (storeName X.env x u) Q E s := by
 obtain ⟨m, hn, hl⟩ := id I.loc
 have hcls : (X.env.scope.kind == .class || (X.env.scope.kind == .module && X.env.locals != X.env.globals)) = false := by rw [I.ok.kind]; rfl
 have hiσ : i < σ.length := by rw [I.len]; exact (List.getElem?_eq_some_iff.mp hi).1
 have cne := I.cne
 have tracked : ∀ {a : Addr} {h' : Heap}, (∃ o, s.heap.get? a = some o ∧ H a = none) → Heap.SameBut a s.heap h' → HOk X.prog X.w H h' := fun {a h'} ha hs b ob e => by
  obtain ⟨_, _, hfree⟩ := ha
  refine (I.hok b ob e).stay (fun c w' hc q => (hs.2 c ?_).trans q) (fun _ q => q) fun _ _ q => q
  rintro rfl
  rcases hc with rfl | hc
  ·rw [hfree] at e; cases e
  ·rw [hfree] at hc; cases hc
 rcases hx with hk | hk
 ·refine wpAny_storeName_local hk hn (fun h' hn' hs => ?_) hcls
  obtain ⟨oL, _, _, hoL, _⟩ := id hn
  refine h _ ⟨I.ok, I.os, I.bare, ⟨fun b o e n hb hx => ?_, fun b o e n hb hx => ?_, I.base.free, fun b o e hx => ?_, I.base.tups, I.base.frzs, I.base.tbls⟩, ⟨_, hn', fun j y v' e1 e2 e3 => ?_⟩, fun y c e => ?_, I.free, I.freeC, fun p hp => ?_, tracked ⟨oL, hoL, I.free⟩ hs, by simpa using I.len⟩ ⟨_, hs, .inl rfl⟩
  ·exact (hs.2 b (Nat.ne_of_lt (Nat.lt_of_lt_of_le (Heap.lt_size e) I.ok.above))).trans (I.base.keep b o e n hb hx)
  ·obtain ⟨sl, e1⟩ := I.base.slot b o e n hb hx
   exact ⟨sl, (hs.2 b (Nat.ne_of_lt (Nat.lt_of_lt_of_le (Heap.lt_size e) I.ok.above))).trans e1⟩
  ·obtain ⟨o', e1⟩ := I.base.there b o e hx
   exact ⟨o', (hs.2 b (Nat.ne_of_lt (Nat.lt_of_lt_of_le (Heap.lt_size e) I.ok.above))).trans e1⟩
  ·by_cases hj : j = i
   ·subst hj
    rw [hi] at e1; cases e1
    rw [List.getElem?_set_self hiσ] at e2
    cases e2
    exact ⟨u, r, .inl ⟨hk, by simp⟩⟩
   ·rw [List.getElem?_set_ne (Ne.symm hj)] at e2
    obtain ⟨u', r', q⟩ := hl j y v' e1 e2 e3
    refine ⟨u', r', ?_⟩
    rcases q with ⟨k, e⟩ | ⟨k, c, e, z⟩
    ·refine .inl ⟨k, ?_⟩
     have : y ≠ x := fun e => hj (nodup_ix hN e1 (e ▸ hi))
     simp [this, e]
    ·exact .inr ⟨k, c, e, z.sameBut hs (cne y c e)⟩
  ·obtain ⟨w', z⟩ := I.cell y c e
   exact ⟨w', z.sameBut hs (cne y c e)⟩
  ·obtain ⟨e, n, ne, nf, d⟩ := I.pin p hp
   exact ⟨(hs.2 p.1 ne).trans e, n, ne, nf, d⟩
 ·have hfn : X.fn x = true := by
   rcases hf with z | z
   ·exact z
   ·rw [z] at hk; cases hk
  obtain ⟨c, hc⟩ := I.ok.has x (.inl hk)
  obtain ⟨w', z⟩ := I.cell x c hc
  refine wpAny_storeName_cell I.ok.kind hk hc z (fun h' hc' hs => ?_)
  obtain ⟨oc, hoc, hocd⟩ := id z
  refine h { s with heap := h' } ⟨I.ok, I.os, I.bare, ⟨fun b o e n hb hx => ?_, fun b o e n hb hx => ?_, I.base.free, fun b o e hx => ?_, I.base.tups, I.base.frzs, I.base.tbls⟩, ⟨m, hn.sameBut hs (Ne.symm (cne x c hc)), fun j y v' e1 e2 e3 => ?_⟩, fun y c' e => ?_, I.free, I.freeC, fun p hp => ?_, tracked ⟨oc, hoc, I.freeC x c hc⟩ hs, by simpa using I.len⟩ ⟨c, hs, .inr hc⟩
  ·exact (hs.2 b (Nat.ne_of_lt (Nat.lt_of_lt_of_le (Heap.lt_size e) (I.ok.cab x c hfn hc)))).trans (I.base.keep b o e n hb hx)
  ·obtain ⟨sl, e1⟩ := I.base.slot b o e n hb hx
   exact ⟨sl, (hs.2 b (Nat.ne_of_lt (Nat.lt_of_lt_of_le (Heap.lt_size e) (I.ok.cab x c hfn hc)))).trans e1⟩
  ·obtain ⟨o', e1⟩ := I.base.there b o e hx
   exact ⟨o', (hs.2 b (Nat.ne_of_lt (Nat.lt_of_lt_of_le (Heap.lt_size e) (I.ok.cab x c hfn hc)))).trans e1⟩
  ·by_cases hj : j = i
   ·subst hj
    rw [hi] at e1; cases e1
    rw [List.getElem?_set_self hiσ] at e2
    cases e2
    exact ⟨u, r, .inr ⟨.inl hk, c, hc, hc'⟩⟩
   ·rw [List.getElem?_set_ne (Ne.symm hj)] at e2
    obtain ⟨u', r', q⟩ := hl j y v' e1 e2 e3
    refine ⟨u', r', ?_⟩
    rcases q with q | ⟨k, c', e, z'⟩
    ·exact .inl q
    ·refine .inr ⟨k, c', e, z'.sameBut hs ?_⟩
     rintro rfl
     exact hj (nodup_ix hN e1 (I.ok.inj _ _ _ e hc ▸ hi))
  ·by_cases hcc : c' = c
   ·subst hcc; exact ⟨_, hc'⟩
   ·obtain ⟨w2, z2⟩ := I.cell y c' e
    exact ⟨w2, z2.sameBut hs hcc⟩
  ·obtain ⟨e, n, ne, nf, d⟩ := I.pin p hp
   refine ⟨(hs.2 p.1 ?_).trans e, n, ne, nf, d⟩
   intro q
   rw [q, hoc] at e
   have q' : oc = p.2 := Option.some.inj e
   exact d w' (by rw [← q']; exact hocd)
theorem store_ok {M : Model} {A : Around} {E : Value → Shared → Prop} {i : Nat} {x : Str} {v : V} {u : Value} {Q : Unit → Shared → Prop} (I : Inv X pins σ H s) (hN : X.N.Nodup) (hi : X.N[i]? = some x) (hx : Loc X.env.scope x) (r : RelV v u)
  (h : ∀ s', Inv X pins (σ.set i (some v)) H s' → Q () s') (hf : X.fn x = true ∨ X.env.scope.names.lookup x = some .local := by first | exact .inl rfl | exact .inr rfl | assumption) : wpAny M A (storeName X.env x u) Q E s :=
 store_ok2 I hN hi hx r (fun s' I' _ => h s' I') hf
theorem Inv.call' {s' : Shared} {ch : List Addr} (I : Inv X pins σ H s) (ho : s'.os = s.os) (u : Un (frs X.stack) ch H H' s.heap s'.heap) (hok : HOk X.prog X.w H' s'.heap) (hg : AllBare s'.gens)
  (hch : ∀ b ∈ ch, (b ∈ X.ex ∨ X.s_0.heap.objs.size ≤ b) ∧ b ≠ X.env.locals ∧ (∀ x c, X.env.cells.lookup x = some c → c ≠ b) ∧ ∀ p ∈ X.pn ++ pins, p.1 ≠ b) : Inv X pins σ H' s' := by
 obtain ⟨h', g', d', t', o'⟩ := s'
 have e : o' = s.os := ho
 subst e
 exact I.call (g' := g') (t' := t') (d' := d') u hok hg hch
end
abbrev XK := Value → Option Addr → Hp → Prop
abbrev St := List (Option V)
abbrev VK := V → Hp → Prop
abbrev TE := St → Hp → VK → Prop
abbrev TT := St → Hp → (Bool → Hp → Prop) → Prop
abbrev TA := St → Hp → (List V → Hp → Prop) → Prop
structure Ends where
 nx : St → Hp → Prop
 rt : VK
 bk : St → Hp → Prop := fun _ _ => False
 ct : St → Hp → Prop := fun _ _ => False
abbrev TS := Ends → St → Hp → Prop
def EP (X : Cx) (pins : List (Addr × Obj)) (σ : St) (Q : VK) (u : Value) (s' : Shared) : Prop := ∃ v H', Inv X pins σ H' s' ∧ RelV v u ∧ Q v H'
def TP (X : Cx) (pins : List (Addr × Obj)) (σ : St) (Q : Bool → Hp → Prop) (b : Bool) (s' : Shared) : Prop := ∃ H', Inv X pins σ H' s' ∧ Q b H'
def AP (X : Cx) (pins : List (Addr × Obj)) (σ : St) (Q : List V → Hp → Prop) (us : List Value) (s' : Shared) : Prop := ∃ vs H', Inv X pins σ H' s' ∧ Vals vs us ∧ Q vs H'
def SP (X : Cx) (pins : List (Addr × Obj)) (D : Ends) (f : Flow) (s' : Shared) : Prop :=
 match f with
 | .next => ∃ σ' H', Inv X pins σ' H' s' ∧ D.nx σ' H'
 | .brk => ∃ σ' H', Inv X pins σ' H' s' ∧ D.bk σ' H'
 | .cont => ∃ σ' H', Inv X pins σ' H' s' ∧ D.ct σ' H'
 | .ret u => ∃ v σ' H', Inv X pins σ' H' s' ∧ RelV v u ∧ D.rt v H'
def PE (X : Cx) (e : Expr) (t : TE) : Prop :=
 ∀ (pins : List (Addr × Obj)) (s : Shared) (σ : St) (H : Hp) (Q : VK), Inv X pins σ H s → t σ H Q → wpAny (model X.prog X.w) X.A (eval e X.env) (EP X pins σ Q) X.xe s
def PT (X : Cx) (e : Expr) (t : TT) : Prop :=
 ∀ (pins : List (Addr × Obj)) (s : Shared) (σ : St) (H : Hp) (Q : Bool → Hp → Prop), Inv X pins σ H s → t σ H Q → wpAny (model X.prog X.w) X.A (isTrue e X.env (eval e X.env)) (TP X pins σ Q) X.xe s
def PW (X : Cx) (e : Expr) (t : TT) : Prop :=
 ∀ (whole : Sem Value) (pins : List (Addr × Obj)) (s : Shared) (σ : St) (H : Hp) (Q : Bool → Hp → Prop), Inv X pins σ H s → t σ H Q → wpAny (model X.prog X.w) X.A (isTrue e X.env whole) (TP X pins σ Q) X.xe s
theorem PW.pt {X : Cx} {e : Expr} {t : TT} (h : PW X e t) : PT X e t := h _
def PA (X : Cx) (es : List Expr) (t : TA) : Prop :=
 ∀ (pos : Pos) (pins : List (Addr × Obj)) (s : Shared) (σ : St) (H : Hp) (Q : List V → Hp → Prop), Inv X pins σ H s → t σ H Q → wpAny (model X.prog X.w) X.A (spliced (backTo pos (starEach es X.env))) (AP X pins σ Q) X.xe s
def PS (X : Cx) (st : Stmt) (t : TS) : Prop :=
 ∀ (pins : List (Addr × Obj)) (s : Shared) (σ : St) (H : Hp) (D : Ends), Inv X pins σ H s → t D σ H → wpAny (model X.prog X.w) X.A (exec st X.env) (SP X pins D) X.xe s
def PSs (X : Cx) (st : List Stmt) (t : TS) : Prop :=
 ∀ (pins : List (Addr × Obj)) (s : Shared) (σ : St) (H : Hp) (D : Ends), Inv X pins σ H s → t D σ H → wpAny (model X.prog X.w) X.A (execs st X.env) (SP X pins D) X.xe s
theorem thn {α : Type} {t : Sem α} {Q Q' : α → Shared → Prop} {M : Model} {A : Around} {E : Value → Shared → Prop} {s : Shared} (h : wpAny M A t Q E s) (hQ : ∀ a s, Q a s → Q' a s) : wpAny M A t Q' E s := wpAny_mono h hQ fun _ _ x => x
end L2
namespace L2
open PySem PySem.Spec PyProof.Rows
section
variable {X : Cx}
theorem bin {a b : Expr} {ta tb : TE} (ha : PE X a ta) (hb : PE X b tb) {pins : List (Addr × Obj)} {s : Shared} {σ : St} {H : Hp} {R : V → V → Hp → Prop} (I : Inv X pins σ H s) (h : ta σ H fun x H1 => tb σ H1 fun y H2 => R x y H2)
  {α : Type} {Q : α → Shared → Prop} {f : Value → Value → Sem α}
  (hf : ∀ v u s2 x y H2, Inv X pins σ H2 s2 → RelV x v → RelV y u → R x y H2 → wpAny (model X.prog X.w) X.A (f v u) Q X.xe s2) :
  wpAny (model X.prog X.w) X.A (eval a X.env) (fun v s₁ => wpAny (model X.prog X.w) X.A (eval b X.env) (fun u s₂ => wpAny (model X.prog X.w) X.A (f v u) Q X.xe s₂) X.xe s₁) X.xe s := by
 refine thn (ha pins s σ H _ I h) fun v s1 ⟨x, H1, I1, r1, q1⟩ => ?_
 refine thn (hb pins s1 σ H1 _ I1 q1) fun u s2 ⟨y, H2, I2, r2, q2⟩ => ?_
 exact hf v u s2 x y H2 I2 r1 r2 q2
def tVar (i : Nat) : TE := fun σ H Q => ∃ v, σ[i]? = some (some v) ∧ Q v H
def tC (v : V) : TE := fun _ H Q => Q v H
theorem pe_var {i : Nat} {x : Str} {pos : Pos} (hN : X.N[i]? = some x) (hv : Vis X.env.scope x) (hd : (x == ("__debug__" : Str)) = false := by decide) (hcd : (x == ("__classdict__" : Str)) = false := by decide) : PE X (.Name x pos) (tVar i) := by
 intro pins s σ H Q I h
 obtain ⟨v, e, h⟩ := h
 obtain ⟨m, hn, hl⟩ := I.loc
 obtain ⟨u, r, l⟩ := hl i x v hN e hv
 have fin : EP X pins σ Q u s := ⟨v, H, I, r, h⟩
 rcases l with ⟨hk, hm⟩ | ⟨hk, c, hc, hcell⟩
 ·exact wpAny_Name (wpAny_loadName_local I.ok.kind hk hn hm fin) hd
 ·rcases hk with hk | hk
  ·exact wpAny_Name (wpAny_loadName_cell I.ok.kind hk hc hcell fin) hd
  ·exact wpAny_Name (wpAny_loadName_free I.ok.kind hk hc hcell fin hcd) hd
theorem pe_int {i j pos} : PE X (.Constant (.int i) j pos) (tC (.int i)) := fun _ _ _ H _ I h => wpAny_Constant_int ⟨.int i, H, I.tok _, ⟨_, rfl⟩, h⟩
theorem pe_bl {b j pos} : PE X (.Constant (.bool b) j pos) (tC (.bl b)) := fun _ _ _ H _ I h => Constant_bool ⟨.bl b, H, I, rfl, h⟩
theorem pe_non {j pos} : PE X (.Constant .none j pos) (tC .non) := fun _ _ _ H _ I h => Constant_none ⟨.non, H, I, rfl, h⟩
def Gl (X : Cx) (x : Str) : Prop := X.env.kindOf x = some .globalImplicit
theorem ld_glob {E : Value → Shared → Prop} {pins : List (Addr × Obj)} {s : Shared} {σ : St} {H : Hp} {x : Str} {u : Value} {pos : Pos} {Q : Value → Shared → Prop} (I : Inv X pins σ H s) (hg : Gl X x) (hm : X.mg x = some u) (h : Q u s)
  (hd : (x == ("__debug__" : Str)) = false := by decide) : wpAny (model X.prog X.w) X.A (eval (.Name x pos) X.env) Q E s :=
 Calls.Name_function_global I.ok.kind hg (Calls.loadGlobal_global (by rw [I.ok.glob]; exact I.mod.glob.keeps I.bk) hm h) hd
theorem ld_blt {E : Value → Shared → Prop} {pins : List (Addr × Obj)} {s : Shared} {σ : St} {H : Hp} {x : Str} {u : Value} {pos : Pos} {Q : Value → Shared → Prop} (I : Inv X pins σ H s) (hg : Gl X x) (hm : X.mg x = none) (hv : bootBuiltins x = some u) (h : Q u s)
  (hn : x ≠ "__name__" := by decide) (hd : (x == ("__debug__" : Str)) = false := by decide) : wpAny (model X.prog X.w) X.A (eval (.Name x pos) X.env) Q E s := by
 obtain ⟨mb, h1, h2⟩ := I.mod.blt
 exact Calls.Name_function_global I.ok.kind hg (Calls.loadGlobal_builtin (by rw [I.ok.glob]; exact I.mod.glob.keeps I.bk) hm (by rw [I.ok.blt]; exact h1.keeps I.bk) ((h2 x hn).trans hv) h) hd
theorem pe_glob {x : Str} {v : V} {u : Value} {pos : Pos} (hg : Gl X x) (hm : X.mg x = some u) (r : RelV v u) (hd : (x == ("__debug__" : Str)) = false := by decide) : PE X (.Name x pos) (tC v) :=
 fun _ _ _ H _ I h => ld_glob I hg hm ⟨v, H, I, r, h⟩ hd
variable {a b : Expr} {ta tb : TE} {pos : Pos}
def PC (X : Cx) (op : CmpOp) (a b : Expr) (t : TE) : Prop :=
 ∀ (pins : List (Addr × Obj)) (s : Shared) (σ : St) (H : Hp) (Q : VK), Inv X pins σ H s → t σ H Q →
  wpAny (model X.prog X.w) X.A (eval a X.env) (fun v s₁ => wpAny (model X.prog X.w) X.A (eval b X.env) (fun u s₂ => wpAny (model X.prog X.w) X.A (compareOp op v u) (EP X pins σ Q) X.xe s₂) X.xe s₁) X.xe s
theorem nobehind (b : Expr) {op : CmpOp} (h : op ≠ .In) (h2 : op ≠ .NotIn) : behindInMarks op b = false := by
 have e1 : (op == CmpOp.In) = false := by cases op <;> first | rfl | exact absurd rfl h
 have e2 : (op == CmpOp.NotIn) = false := by cases op <;> first | rfl | exact absurd rfl h2
 cases b <;> simp [behindInMarks, e1, e2]
def tB (t : TE) : TT := fun σ H Q => t σ H fun x H1 => ∃ c, x = .bl c ∧ Q c H1
theorem pt_cmp {op : CmpOp} {t : TE} (h : PC X op a b t) (h1 : behindInMarks op b = false := by first | exact nobehind _ (by decide) (by decide) | rfl) : PT X (.Compare a [op] [b] pos) (tB t) := by
 intro pins s σ H Q I hw
 refine wpAny_isTrue_Compare1 (thn (h pins s σ H _ I hw) fun v s1 h1 => thn h1 fun u s2 h2 => thn h2 fun c s3 ⟨x, H1, I1, r1, q1⟩ => ?_) h1
 obtain ⟨d, rfl, q⟩ := q1
 cases r1
 exact wpAny_truthy_bool ⟨H1, I1, q⟩
theorem pt_val {e : Expr} {t : TE} (h : PE X e t) (he : ∀ whole, isTrue e X.env whole = (do let v ← whole; standAt e.pos; holding [v] (truthy v)) := by intro _; rfl) : PT X e (tB t) := by
 intro pins s σ H Q I hw
 refine isTrue_plain (thn (h pins s σ H _ I hw) fun v s1 ⟨x, H1, I1, r1, q1⟩ => ?_) (he _)
 obtain ⟨d, rfl, q⟩ := q1
 cases r1
 exact wpAny_truthy_bool ⟨H1, I1, q⟩
variable {tA tB' : TT} {rest : List Expr}
def tAnd (t u : TT) : TT := fun σ H Q => t σ H fun c H1 => if c = true then u σ H1 Q else Q false H1
def tOr (t u : TT) : TT := fun σ H Q => t σ H fun c H1 => if c = true then Q true H1 else u σ H1 Q
def tNot (t : TT) : TT := fun σ H Q => t σ H fun c H1 => Q (!c) H1
theorem pw_and1 (ha : PT X a tA) : PW X (.BoolOp .And [a] pos) tA := by
 intro wh pins s σ H Q I h
 refine isTrue_and (thn (ha pins s σ H Q I h) fun c s1 e => ?_)
 cases c with
 | true => exact isTrue_and_nil e
 | false => exact e
theorem pw_or1 (ha : PT X a tA) : PW X (.BoolOp .Or [a] pos) tA := by
 intro wh pins s σ H Q I h
 refine isTrue_or (thn (ha pins s σ H Q I h) fun c s1 e => ?_)
 cases c with
 | false => exact isTrue_or_nil e
 | true => exact e
theorem pw_and (ha : PT X a tA) (hb : PW X (.BoolOp .And (b :: rest) pos) tB') : PW X (.BoolOp .And (a :: b :: rest) pos) (tAnd tA tB') := by
 intro wh pins s σ H Q I h
 refine isTrue_and (thn (ha pins s σ H _ I h) fun c s1 ⟨H1, I1, q1⟩ => ?_)
 cases c with
 | true => exact hb wh pins s1 σ H1 Q I1 q1
 | false => exact ⟨H1, I1, q1⟩
theorem pw_or (ha : PT X a tA) (hb : PW X (.BoolOp .Or (b :: rest) pos) tB') : PW X (.BoolOp .Or (a :: b :: rest) pos) (tOr tA tB') := by
 intro wh pins s σ H Q I h
 refine isTrue_or (thn (ha pins s σ H _ I h) fun c s1 ⟨H1, I1, q1⟩ => ?_)
 cases c with
 | true => exact ⟨H1, I1, q1⟩
 | false => exact hb wh pins s1 σ H1 Q I1 q1
theorem pt_not (ha : PT X a tA) : PT X (.UnaryOp .Not a pos) (tNot tA) := by
 intro pins s σ H Q I h
 exact isTrue_not (ha pins s σ H (fun c H1 => Q (!c) H1) I h)
def tAndV (ta tb : TE) : TE := fun σ H Q => ta σ H fun x H1 => ∃ c, x = .bl c ∧ if c = true then tb σ H1 Q else Q (.bl false) H1
def tOrV (ta tb : TE) : TE := fun σ H Q => ta σ H fun x H1 => ∃ c, x = .bl c ∧ if c = true then Q (.bl true) H1 else tb σ H1 Q
def tNotV (ta : TE) : TE := fun σ H Q => ta σ H fun x H1 => ∃ c, x = .bl c ∧ Q (.bl (!c)) H1
theorem pe_one {op} {t : TE} (h : PE X a t) : PE X (.BoolOp op [a] pos) t := fun pins s σ H Q I hw => BoolOp_one (h pins s σ H Q I hw)
theorem pe_and (ha : PE X a ta) (hb : PE X (.BoolOp .And (b :: rest) pos) tb) : PE X (.BoolOp .And (a :: b :: rest) pos) (tAndV ta tb) := by
 intro pins s σ H Q I h
 refine BoolOp_and (thn (ha pins s σ H _ I h) fun v s1 ⟨x, H1, I1, r1, q1⟩ => ?_)
 obtain ⟨c, rfl, q1⟩ := q1
 cases r1
 refine wpAny_truthy_bool ?_
 cases c with
 | true => exact hb pins s1 σ H1 Q I1 q1
 | false => exact ⟨.bl false, H1, I1, rfl, q1⟩
def tIf (t : TT) (ta tb : TE) : TE := fun σ H Q => t σ H fun c H1 => if c = true then ta σ H1 Q else tb σ H1 Q
theorem pe_ifExp {c : Expr} (hc : PT X c tA) (ha : PE X a ta) (hb : PE X b tb) : PE X (.IfExp c a b pos) (tIf tA ta tb) := by
 intro pins s σ H Q I h
 refine wpAny_IfExp (thn (hc pins s σ H _ I h) fun d s1 ⟨H1, I1, q1⟩ => ?_)
 cases d with
 | true => exact ha pins s1 σ H1 Q I1 q1
 | false => exact hb pins s1 σ H1 Q I1 q1
end
end L2
namespace L2
open PySem PySem.Spec PyProof.Rows
def SqL (K : PySem.W.Frag) (H : Hp) (a : Addr) (xs : List V) : Prop :=
 Rd H a (.lst xs) ∨
  ∃ (o : Obj) (its : Array Value) (n : Nat), K.lookup a = some o ∧ o.cls = .type "list" ∧ o.dict = none ∧ o.data = .seq its n ∧ its.size ≤ sizeLine ∧ Vals xs its.toList
def SqT (K : PySem.W.Frag) (H : Hp) (a : Addr) (xs : List V) : Prop :=
 Rd H a (.tup xs) ∨
  ∃ (o : Obj) (its : Array Value) (n : Nat), K.lookup a = some o ∧ o.cls = .type "tuple" ∧ o.data = .seq its n ∧ its.size ≤ sizeLine ∧ Vals xs its.toList
def absV : Value → Option V
 | .none => some .non
 | .bool b => some (.bl b)
 | .int i _ => some (.int i)
 | .str x _ => some (.str x)
 | .bytes b _ => some (.byt b)
 | .float b _ => some (.flt b)
 | .ref a => some (.ref a)
 | .type n => some (.ty n)
 | _ => none
theorem RelV.abs {x : V} {u : Value} (r : RelV x u) : absV u = some x := by
 cases x with
 | non => cases r; rfl
 | bl _ => cases r; rfl
 | int _ => obtain ⟨t, rfl⟩ := r; rfl
 | str _ => obtain ⟨t, rfl⟩ := r; rfl
 | byt _ => obtain ⟨t, rfl⟩ := r; rfl
 | flt _ => obtain ⟨t, rfl⟩ := r; rfl
 | ref _ => cases r; rfl
 | ty _ => cases r; rfl
theorem RelV.inj {x y : V} {u : Value} (r : RelV x u) (q : RelV y u) : x = y := Option.some.inj (r.abs.symm.trans q.abs)
theorem Vals.inj : ∀ {xs ys : List V} {us : List Value}, Vals xs us → Vals ys us → xs = ys
 | _, _, _, .nil, .nil => rfl
 | _, _, _, .cons r t, .cons r' t' => by rw [r.inj r', Vals.inj t t']
section
variable {X : Cx} {pins : List (Addr × Obj)} {σ : St} {H : Hp} {s : Shared} {a : Addr} {xs ys : List V}
theorem SqL.of {K : PySem.W.Frag} (h : H a = some (.lst xs)) : SqL K H a xs := .inl (.inl h)
theorem Inv.list (I : Inv X pins σ H s) (h : SqL X.K H a xs) : ∃ its : List Value, Vals xs its ∧ PlainL s.heap a its.toArray ∧ xs.length ≤ sizeLine := by
 rcases h with h | ⟨o, its, n, hk, hc, hd, hs, hz, r⟩
 ·obtain ⟨z, its, n, r, e⟩ := h.ok I.hok
  exact ⟨its, r, ⟨_, n, e, rfl, rfl, rfl⟩, z⟩
 ·refine ⟨its.toList, r, ⟨o, n, I.kIn a o hk, hc, hd, by simpa using hs⟩, ?_⟩
  have e := r.length
  simp only [Array.length_toList] at e
  omega
theorem Inv.tuple (I : Inv X pins σ H s) (h : SqT X.K H a xs) : ∃ its : List Value, Vals xs its ∧ IsTup s.heap a its.toArray ∧ xs.length ≤ sizeLine := by
 rcases h with h | ⟨o, its, n, hk, hc, hs, hz, r⟩
 ·obtain ⟨z, its, r, p⟩ := h.ok I.hok
  exact ⟨its, r, p, z⟩
 ·refine ⟨its.toList, r, ⟨o, I.kIn a o hk, hc, n, by simpa using hs⟩, ?_⟩
  have e := r.length
  simp only [Array.length_toList] at e
  omega
theorem Inv.list_inj (I : Inv X pins σ H s) (h : SqL X.K H a xs) (h' : SqL X.K H a ys) : xs = ys := by
 obtain ⟨its, r, ⟨o, n, e, _, _, d⟩, _⟩ := I.list h
 obtain ⟨its', r', ⟨o', n', e', _, _, d'⟩, _⟩ := I.list h'
 rw [e] at e'; cases e'
 rw [d] at d'
 injection d' with d1 _
 have : its = its' := by simpa using congrArg Array.toList d1
 subst this
 exact r.inj r'
theorem Inv.tuple_inj (I : Inv X pins σ H s) (h : SqT X.K H a xs) (h' : SqT X.K H a ys) : xs = ys := by
 obtain ⟨its, r, ⟨o, e, _, n, d⟩, _⟩ := I.tuple h
 obtain ⟨its', r', ⟨o', e', _, n', d'⟩, _⟩ := I.tuple h'
 rw [e] at e'; cases e'
 rw [d] at d'
 injection d' with d1 _
 have : its = its' := by simpa using congrArg Array.toList d1
 subst this
 exact r.inj r'
end
abbrev Cx.wish (X : Cx) (E : Value → Shared → Prop) : Cx := { X with xe := E }
abbrev Cx.nox (X : Cx) : Cx := X.wish fun _ _ => False
theorem Cx.Ok.wish {X : Cx} (ok : X.Ok) (E : Value → Shared → Prop) : (X.wish E).Ok :=
 ⟨ok.mod, ok.kind, ok.glob, ok.blt, ok.above, ok.inj, ok.has, ok.cab, ok.hd, ok.frames, ok.stk, ok.exf, ok.bs, ok.bsz, ok.noex, ok.exfs, ok.funs, ok.frf⟩
theorem Cx.Ok.unwish {X : Cx} {E : Value → Shared → Prop} (ok : (X.wish E).Ok) : X.Ok :=
 ⟨ok.mod, ok.kind, ok.glob, ok.blt, ok.above, ok.inj, ok.has, ok.cab, ok.hd, ok.frames, ok.stk, ok.exf, ok.bs, ok.bsz, ok.noex, ok.exfs, ok.funs, ok.frf⟩
section
variable {X : Cx} {pins : List (Addr × Obj)} {σ : St} {H : Hp} {s : Shared} {E : Value → Shared → Prop}
theorem Inv.wish (I : Inv X pins σ H s) (E : Value → Shared → Prop) : Inv (X.wish E) pins σ H s := ⟨I.ok.wish E, I.os, I.bare, I.base, I.loc, I.cell, I.free, I.freeC, I.pin, I.hok, I.len⟩
theorem Inv.unwish (I : Inv (X.wish E) pins σ H s) : Inv X pins σ H s := ⟨I.ok.unwish, I.os, I.bare, I.base, I.loc, I.cell, I.free, I.freeC, I.pin, I.hok, I.len⟩
theorem SP.unwish {D : Ends} {f : Flow} {s' : Shared} (h : SP (X.wish E) pins D f s') : SP X pins D f s' := by
 cases f with
 | next => obtain ⟨σ', H', I, q⟩ := h; exact ⟨σ', H', I.unwish, q⟩
 | brk => obtain ⟨σ', H', I, q⟩ := h; exact ⟨σ', H', I.unwish, q⟩
 | cont => obtain ⟨σ', H', I, q⟩ := h; exact ⟨σ', H', I.unwish, q⟩
 | ret u => obtain ⟨v, σ', H', I, r, q⟩ := h; exact ⟨v, σ', H', I.unwish, r, q⟩
theorem PSs.nox {st : List Stmt} {t : TS} (h : PSs X.nox st t) : PSs X st t := fun pins s σ H D I hw =>
 wpAny_mono (h pins s σ H D (I.wish _) hw) (fun _ _ q => q.unwish) fun _ _ z => False.elim z
end
section
variable {X : Cx} {st : Stmt} {rest : List Stmt} {t u : TS} {e : Expr} {te : TE} {pos : Pos}
def tNext : TS := fun D σ H => D.nx σ H
def tSeq (t u : TS) : TS := fun D σ H => t { D with nx := u D } σ H
theorem pss_nil : PSs X [] tNext := fun _ _ σ H _ I h => wpAny_execs_nil ⟨σ, H, I, h⟩
theorem pss_cons (h1 : PS X st t) (h2 : PSs X rest u) : PSs X (st :: rest) (tSeq t u) := by
 intro pins s σ H D I h
 refine wpAny_execs_cons (thn (h1 pins s σ H { D with nx := u D } I h) fun f s1 q => ?_)
 cases f with
 | next =>
  obtain ⟨σ', H', I', q⟩ := q
  exact h2 pins s1 σ' H' D I' q
 | ret v => exact q
 | brk => exact q
 | cont => exact q
theorem pss_one (h1 : PS X st t) : PSs X [st] t := by
 intro pins s σ H D I h
 refine wpAny_execs_cons (thn (h1 pins s σ H D I h) fun f s1 q => ?_)
 cases f with
 | next => exact wpAny_execs_nil q
 | ret v => exact q
 | brk => exact q
 | cont => exact q
theorem Inv.quiet {pins : List (Addr × Obj)} {σ : St} {H : Hp} {s : Shared} (I : Inv X pins σ H s) : interactive X.env = false := by simp [interactive, I.ok.kind]
def tDrop (te : TE) : TS := fun D σ H => te σ H fun _ H1 => D.nx σ H1
theorem ps_expr (he : PE X e te) (hs : swapsWith e none pos.line X.env = pure false := by rfl) : PS X (.Expr e pos) (tDrop te) := by
 intro pins s σ H D I h
 exact wpAny_Expr_any (thn (he pins s σ H _ I h) fun v s1 ⟨x, H1, I1, r1, q1⟩ => ⟨σ, H1, I1, q1⟩) I.quiet hs
def tRet (te : TE) : TS := fun D σ H => te σ H D.rt
theorem ps_ret (he : PE X e te) : PS X (.Return (some e) pos) (tRet te) := by
 intro pins s σ H D I h
 exact wpAny_Return_some (thn (he pins s σ H _ I h) fun v s1 ⟨x, H1, I1, r1, q1⟩ => ⟨x, σ, H1, I1, r1, q1⟩)
def tRetN : TS := fun D _ H => D.rt .non H
def tIfS (c : TT) (t u : TS) : TS := fun D σ H => c σ H fun b H1 => if b = true then t D σ H1 else u D σ H1
theorem ps_if {c : Expr} {a b : List Stmt} {tc : TT} (hc : PT X c tc) (ha : PSs X a t) (hb : PSs X b u) : PS X (.If c a b pos) (tIfS tc t u) := by
 intro pins s σ H D I h
 refine wpAny_If (thn (hc pins s σ H _ I h) fun d s1 ⟨H1, I1, q1⟩ => ?_)
 cases d with
 | true => exact ha pins s1 σ H1 D I1 q1
 | false => exact hb pins s1 σ H1 D I1 q1
end
abbrev TG := V → St → Hp → (St → Hp → Prop) → Prop
abbrev TGs := List V → St → Hp → (St → Hp → Prop) → Prop
def PG (X : Cx) (target : Expr) (t : TG) : Prop :=
 ∀ (pins : List (Addr × Obj)) (s : Shared) (σ : St) (H : Hp) (v : V) (u : Value) (Q : St → Hp → Prop), Inv X pins σ H s → RelV v u → t v σ H Q →
  wpAny (model X.prog X.w) X.A (assign target X.env u) (fun _ s' => ∃ σ' H', Inv X pins σ' H' s' ∧ Q σ' H') X.xe s
def PGs (X : Cx) (ts : List Expr) (t : TGs) : Prop :=
 ∀ (pins : List (Addr × Obj)) (s : Shared) (σ : St) (H : Hp) (vs : List V) (us : List Value) (Q : St → Hp → Prop), Inv X pins σ H s → Vals vs us → t vs σ H Q →
  wpAny (model X.prog X.w) X.A (assignInOrder ((assignEach ts X.env).map (·.2)) us) (fun _ s' => ∃ σ' H', Inv X pins σ' H' s' ∧ Q σ' H') X.xe s
section
variable {X : Cx} {pos : Pos}
def gName (i : Nat) : TG := fun v σ H Q => Q (σ.set i (some v)) H
theorem pg_name {i : Nat} {x : Str} (hN : X.N.Nodup) (hi : X.N[i]? = some x) (hx : Loc X.env.scope x) (hf : X.fn x = true ∨ X.env.scope.names.lookup x = some .local := by first | exact .inl rfl | exact .inr rfl | assumption) : PG X (.Name x pos) (gName i) := by
 intro pins s σ H v u Q I r h
 exact wpAny_assign_Name (store_ok I hN hi hx r (fun s' I' => ⟨_, H, I', h⟩) hf)
def gNil : TGs := fun vs σ H Q => vs = [] ∧ Q σ H
def gCons (t : TG) (u : TGs) : TGs := fun vs σ H Q => ∃ v r, vs = v :: r ∧ t v σ H fun σ' H' => u r σ' H' Q
theorem pgs_nil : PGs X [] gNil := by
 intro pins s σ H vs us Q I r h
 obtain ⟨e, h⟩ := h
 subst e
 cases r
 exact assignInOrder_nil ⟨σ, H, I, h⟩
theorem pgs_cons {e : Expr} {es : List Expr} {t : TG} {u : TGs} (h1 : PG X e t) (h2 : PGs X es u)
  (hs : (assignEach (e :: es) X.env).map (·.2) = assign e X.env :: (assignEach es X.env).map (·.2) := by rfl) : PGs X (e :: es) (gCons t u) := by
 intro pins s σ H vs us Q I r h
 obtain ⟨v, vr, e1, h⟩ := h
 subst e1
 cases r with
 | cons r rr =>
  rw [hs]
  refine assignInOrder_cons (thn (h1 pins s σ H _ _ _ I r h) fun _ s1 ⟨σ1, H1, I1, q1⟩ => ?_)
  exact h2 pins s1 σ1 H1 _ _ Q I1 rr q1
def gTup (K : PySem.W.Frag) (n : Nat) (t : TGs) : TG := fun v σ H Q => ∃ a xs, v = .ref a ∧ SqT K H a xs ∧ xs.length = n ∧ t xs σ H Q
theorem pg_tup {es : List Expr} {k : Nat} {t : TGs} {n : Nat} (hc : X.calm = true) (h : PGs X es t)
  (hn : (assignEach es X.env).length = n := by rfl) (hst : (assignEach es X.env).findIdx? (·.1) = none := by rfl) : PG X (.Tuple es k pos) (gTup X.K n t) := by
 intro pins s σ H v u Q I r hw
 obtain ⟨a, xs, e1, hq, hl, hw⟩ := hw
 subst e1
 cases r
 obtain ⟨its, rv, ht, hz⟩ := I.tuple hq
 refine assign_Tuple_tuple (I.ok.hd hc) ht (by simp [hn, ← hl, rv.length]) hst fun h' hx => ?_
 have I1 : Inv X pins σ H { s with heap := h' } := I.kept (t' := s.toks) fun b o e => hx b o (Nat.ne_of_lt (Heap.lt_size e)) e
 exact h pins _ σ H xs _ Q I1 (by simpa using rv) hw
def tAsg (te : TE) (g : TG) : TS := fun D σ H => te σ H fun x H1 => g x σ H1 D.nx
theorem ps_set {i : Nat} {x : Str} {e : Expr} {te : TE} {pos' : Pos} (hN : X.N.Nodup) (hi : X.N[i]? = some x) (hx : Loc X.env.scope x) (he : PE X e te) (hs : swapsWith e (some (.Name x pos')) pos.line X.env = pure false := by rfl) (hf : X.fn x = true ∨ X.env.scope.names.lookup x = some .local := by first | exact .inl rfl | exact .inr rfl | assumption) :
  PS X (.Assign [.Name x pos'] e pos) (tAsg te (gName i)) := by
 intro pins s σ H D I h
 refine wpAny_Assign_Name (thn (he pins s σ H _ I h) fun v s1 ⟨y, H1, I1, r1, q1⟩ => ?_) hs
 exact store_ok I1 hN hi hx r1 (fun s2 I2 => ⟨_, H1, I2, q1⟩) hf
end
section
variable {X : Cx} {pos : Pos}
def tWhile (c : TT) (tb : TS) : TS := fun D σ H => ∃ W : Nat → St → Hp → Prop, (∃ m, W m σ H) ∧ ∀ m σ H, W m σ H →
 c σ H fun b H1 => if b = true then ∃ N : St → Hp → Prop, (∀ σ' H', N σ' H' → ∃ m', m' < m ∧ W m' σ' H') ∧ tb { D with nx := N, ct := N, bk := D.nx } σ H1 else D.nx σ H1
theorem ps_while {c : Expr} {body : List Stmt} {tc : TT} {tb : TS} (hp : PassesOwn (model X.prog X.w) X.A X.env X.xe) (hc : PT X c tc) (hb : PSs X body tb) : PS X (.While c body [] pos) (tWhile tc tb) := by
 intro pins s σ H D I h
 obtain ⟨W, ⟨m0, w0⟩, turn⟩ := h
 refine wpAny_While (codeAny_whileLoop (fun n s' => ∃ σ' H', Inv X pins σ' H' s' ∧ W n σ' H') ?_ m0 ⟨σ, H, I, w0⟩)
 rintro n s1 ⟨σ1, H1, I1, w1⟩
 refine wpAny_passesOwn hp (thn (hc pins s1 σ1 H1 _ I1 (turn n σ1 H1 w1)) fun b s2 ⟨H2, I2, q2⟩ => ?_)
 cases b with
 | true =>
  obtain ⟨N, hN, q2⟩ := q2
  rw [if_pos rfl]
  refine wpAny_passesOwn hp (thn (hb pins s2 σ1 H2 _ I2 q2) fun f s3 q3 => ?_)
  cases f with
  | next =>
   obtain ⟨σ3, H3, I3, n3⟩ := q3
   obtain ⟨m', hm, w3⟩ := hN σ3 H3 n3
   exact ⟨m', hm, σ3, H3, I3, w3⟩
  | cont =>
   obtain ⟨σ3, H3, I3, n3⟩ := q3
   obtain ⟨m', hm, w3⟩ := hN σ3 H3 n3
   exact ⟨m', hm, σ3, H3, I3, w3⟩
  | brk => exact q3
  | ret v => exact q3
 | false =>
  rw [if_neg Bool.false_ne_true]
  exact wpAny_execs_nil ⟨σ1, H2, I2, q2⟩
end
structure It where
 go : Nat → Hp → Prop
 yld : Nat → Hp → V → Hp → Prop
 stop : Nat → Hp → Prop
def FpOk (X : Cx) (pins : List (Addr × Obj)) (H : Hp) (b : Addr) : Prop :=
 H b = none ∧ b ≠ X.env.locals ∧ b ∉ X.fs ∧ (b ∈ X.ex ∨ X.s_0.heap.objs.size ≤ b) ∧ (∀ x c, X.env.cells.lookup x = some c → c ≠ b) ∧ ∀ p ∈ X.pn ++ pins, p.1 ≠ b
theorem Inv.fpOk {X : Cx} {pins : List (Addr × Obj)} {σ : St} {H H' : Hp} {s : Shared} {b : Addr} (I : Inv X pins σ H s) (hb : s.heap.objs.size ≤ b) (hn : H' b = none) : FpOk X pins H' b := by
 refine ⟨hn, Nat.ne_of_gt (Nat.lt_of_lt_of_le I.lt hb), I.nofs hb, .inr (Nat.le_trans I.sz hb), fun x c e z => ?_, fun p hp z => ?_⟩
 ·obtain ⟨v, q⟩ := I.cell x c e
  exact absurd (Nat.lt_of_lt_of_le q.lt (by rw [z]; exact hb)) (Nat.lt_irrefl _)
 ·exact absurd (Nat.lt_of_lt_of_le (Heap.lt_size (I.pin p hp).1) (by rw [z]; exact hb)) (Nat.lt_irrefl _)
structure Turn (P : Program) (w : World) (K : PySem.W.Frag) (tg : Expr) (J : It) (fp : List Addr) (it : Addr) (tn : Nat → Heap → Prop) : Prop where
 mem : it ∈ fp
 obj : ∀ i h, tn i h → ∀ b ∈ fp, ∃ o, h.get? b = some o ∧ ∀ v, o.data ≠ .cell v
 keep : ∀ i h h', tn i h → (∀ b ∈ fp, ∀ o, h.get? b = some o → h'.get? b = some o) → tn i h'
 item : ∀ (X : Cx), X.prog = P → X.w = w → X.K = K → X.calm = true → ∀ (i : Nat) (pins : List (Addr × Obj)) (s : Shared) (σ : St) (H : Hp) (E : Value → Shared → Prop), Inv X pins σ H s → (∀ b ∈ fp, FpOk X pins H b) → tn i s.heap → J.go i H →
  wpAny (model P w) X.A (pyNext (.ref it)) (fun r s1 => ∃ u, r = some u ∧
   wpAny (model P w) X.A (letOwnedTupleGo tg (.ref it) u) (fun _ s2 => ∃ x H', Inv X pins σ H' s2 ∧ RelV x u ∧ J.yld i H x H' ∧ tn (i + 1) s2.heap ∧ ∀ b ∈ fp, H' b = none) E s1) E s
 done : ∀ (X : Cx), X.prog = P → X.w = w → X.K = K → X.calm = true → ∀ (i : Nat) (pins : List (Addr × Obj)) (s : Shared) (σ : St) (H : Hp) (E : Value → Shared → Prop), Inv X pins σ H s → (∀ b ∈ fp, FpOk X pins H b) → tn i s.heap → J.stop i H →
  wpAny (model P w) X.A (pyNext (.ref it)) (fun r s1 => r = none ∧ Inv X pins σ H s1) E s
 self : ∀ (A : Around) (i : Nat) (s : Shared) (Q : Value → Shared → Prop) (E : Value → Shared → Prop), tn i s.heap → Q (.ref it) s → wpAny (model P w) A (pyIter (.ref it)) Q E s
abbrev TI := St → Hp → (It → Hp → Prop) → Prop
def PIE (X : Cx) (pins : List (Addr × Obj)) (σ : St) (tg : Expr) (R : It → Hp → Prop) (itv : Value) (s2 : Shared) : Prop :=
 ∃ (it : Addr) (fp : List Addr) (tn : Nat → Heap → Prop) (J : It) (H' : Hp), itv = .ref it ∧ Inv X pins σ H' s2 ∧ Turn X.prog X.w X.K tg J fp it tn ∧ tn 0 s2.heap ∧ (∀ b ∈ fp, FpOk X pins H' b) ∧ R J H'
def PI (X : Cx) (tg iter : Expr) (wi : TI) : Prop :=
 ∀ (pins : List (Addr × Obj)) (s : Shared) (σ : St) (H : Hp) (R : It → Hp → Prop), Inv X pins σ H s → wi σ H R →
  wpAny (model X.prog X.w) X.A (eval iter X.env) (fun v s1 => wpAny (model X.prog X.w) X.A (pyIter v) (PIE X pins σ tg R) X.xe s1) X.xe s
theorem go_of {M : Model} {A : Around} {E : Value → Shared → Prop} {s : Shared} {tg : Expr} {it : Addr} {u : Value} {o : Obj} {n : String} {vs : Array Value} {Q : Unit → Shared → Prop} (ho : s.heap.get? it = some o) (hc : o.cls = .type n) (hd : o.data = .fields vs)
    (hn : ["enumerate", "zip", "dict_itemiterator", "dict_reverseitemiterator", "odict_iterator", "itertools.zip_longest", "itertools.pairwise"].contains n = false) (hQ : Q () s) : wpAny M A (letOwnedTupleGo tg (.ref it) u) Q E s := by
  unfold letOwnedTupleGo
  cases tg <;> first
    | exact wpAny_pure hQ
    | (cases u <;> first
        | exact wpAny_pure hQ
        | (refine wpAny_bind (wpAny_load ho ?_)
           rw [hc, hd]
           show wpAny M A (if (["enumerate", "zip", "dict_itemiterator", "dict_reverseitemiterator", "odict_iterator", "itertools.zip_longest", "itertools.pairwise"].contains n && vs[0]? == some (rawInt _)) = true then _ else _) Q E s
           rw [if_neg (by intro h; rw [hn, Bool.false_and] at h; cases h)]
           exact wpAny_pure hQ))
def Itl (K : PySem.W.Frag) (a : Addr) : It :=
 ⟨fun i H => ∃ xs x, SqL K H a xs ∧ xs[i]? = some x, fun i H x H' => H' = H ∧ ∀ xs, SqL K H a xs → xs[i]? = some x, fun i H => ∃ xs, SqL K H a xs ∧ xs.length ≤ i⟩
def Itt (K : PySem.W.Frag) (a : Addr) : It :=
 ⟨fun i H => ∃ xs x, SqT K H a xs ∧ xs[i]? = some x, fun i H x H' => H' = H ∧ ∀ xs, SqT K H a xs → xs[i]? = some x, fun i H => ∃ xs, SqT K H a xs ∧ xs.length ≤ i⟩
def Itr (lo : Int) (n : Nat) : It := ⟨fun i _ => i < n, fun i H x H' => H' = H ∧ x = .int (lo + i), fun i _ => n ≤ i⟩
theorem turn_list {P : Program} {w : World} {K : PySem.W.Frag} {tg : Expr} (a it : Addr) : Turn P w K tg (Itl K a) [it] it (fun i h => h.IsListIter it a i) where
 mem := by simp
 obj := fun i h st b hb => by
  have e : b = it := by simpa using hb
  subst e
  obtain ⟨o, e, c, d⟩ := st
  exact ⟨o, e, fun v z => by rw [d] at z; cases z⟩
 keep := fun i h h' st k => st.at fun o e => k it (by simp) o e
 item := by
  intro X hP hw hK hc i pins s σ H E I hf st hg
  subst hP hw hK
  obtain ⟨xs, x, hq, hx⟩ := hg
  obtain ⟨its, rv, p, hz⟩ := I.list hq
  obtain ⟨u, hu, ru⟩ := rv.get hx
  obtain ⟨f0, f1, f2, f3, f4, f5⟩ := hf it (by simp)
  refine wpAny_pyNext_list_item st p.isList (x := u) (by simpa using hu) fun h' st' sb => ?_
  have I1 : Inv X pins σ H { s with heap := h' } := I.turned (t' := s.toks) (fun b o hb e => (sb.2 b hb).trans e) f0 f1 f3 f4 f5
  obtain ⟨o, e, c, d⟩ := id st'
  exact ⟨u, rfl, go_of (s := { s with heap := h' }) e c d (by decide) ⟨x, H, I1, ru, ⟨rfl, fun ys hy => by rw [I.list_inj hy hq]; exact hx⟩, st', fun b hb => (hf b hb).1⟩⟩
 done := by
  intro X hP hw hK hc i pins s σ H E I hf st hg
  subst hP hw hK
  obtain ⟨xs, hq, hx⟩ := hg
  obtain ⟨its, rv, p, hz⟩ := I.list hq
  obtain ⟨f0, f1, f2, f3, f4, f5⟩ := hf it (by simp)
  have hl := rv.length
  exact wpAny_pyNext_list_end (I.ok.hd hc) st p.isList (by simp; omega) fun h' eb => ⟨rfl, I.turned (t' := s.toks) (fun b o hb e => eb b o hb e) f0 f1 f3 f4 f5⟩
 self := fun _ _ _ _ _ st h => wpAny_pyIter_listiter st h
theorem turn_tuple {P : Program} {w : World} {K : PySem.W.Frag} {tg : Expr} (a it : Addr) : Turn P w K tg (Itt K a) [it] it (fun i h => h.IsTupleIter it a i) where
 mem := by simp
 obj := fun i h st b hb => by
  have e : b = it := by simpa using hb
  subst e
  obtain ⟨o, e, c, d⟩ := st
  exact ⟨o, e, fun v z => by rw [d] at z; cases z⟩
 keep := fun i h h' st k => st.at fun o e => k it (by simp) o e
 item := by
  intro X hP hw hK hc i pins s σ H E I hf st hg
  subst hP hw hK
  obtain ⟨xs, x, hq, hx⟩ := hg
  obtain ⟨its, rv, p, hz⟩ := I.tuple hq
  obtain ⟨u, hu, ru⟩ := rv.get hx
  obtain ⟨f0, f1, f2, f3, f4, f5⟩ := hf it (by simp)
  refine wpAny_pyNext_tuple_item st (show s.heap.IsTuple a its.toArray from p) (x := u) (by simpa using hu) fun h' st' sb => ?_
  have I1 : Inv X pins σ H { s with heap := h' } := I.turned (t' := s.toks) (fun b o hb e => (sb.2 b hb).trans e) f0 f1 f3 f4 f5
  obtain ⟨o, e, c, d⟩ := id st'
  exact ⟨u, rfl, go_of (s := { s with heap := h' }) e c d (by decide) ⟨x, H, I1, ru, ⟨rfl, fun ys hy => by rw [I.tuple_inj hy hq]; exact hx⟩, st', fun b hb => (hf b hb).1⟩⟩
 done := by
  intro X hP hw hK hc i pins s σ H E I hf st hg
  subst hP hw hK
  obtain ⟨xs, hq, hx⟩ := hg
  obtain ⟨its, rv, p, hz⟩ := I.tuple hq
  obtain ⟨f0, f1, f2, f3, f4, f5⟩ := hf it (by simp)
  have hl := rv.length
  exact wpAny_pyNext_tuple_end (I.ok.hd hc) st (show s.heap.IsTuple a its.toArray from p) (by simp; omega) fun h' eb => ⟨rfl, I.turned (t' := s.toks) (fun b o hb e => eb b o hb e) f0 f1 f3 f4 f5⟩
 self := fun _ _ _ _ _ st h => wpAny_pyIter_tupleiter st h
theorem turn_range {P : Program} {w : World} {K : PySem.W.Frag} {tg : Expr} (it : Addr) (lo : Int) (n : Nat) : Turn P w K tg (Itr lo n) [it] it (fun i h => IsRangeIter h it (lo + (i : Nat) * 1) ((n : Int) - (i : Nat)) 1) where
 mem := by simp
 obj := fun i h st b hb => by
  have e : b = it := by simpa using hb
  subst e
  exact ⟨_, st, fun v z => by
   have z' : Data.fields _ = Data.cell v := z
   cases z'⟩
 keep := fun i h h' st k => k it (by simp) _ st
 item := by
  intro X hP hw hK hc i pins s σ H E I hf st hg
  subst hP hw hK
  obtain ⟨f0, f1, f2, f3, f4, f5⟩ := hf it (by simp)
  have W := Walks.range (prog := X.prog) (w := X.w) (I.ok.hd hc) it lo 1 n
  refine W.item i s _ _ hg st fun v h' tk hv st' kk => ?_
  obtain ⟨t, rfl⟩ := hv
  have I1 : Inv X pins σ H { s with heap := h', toks := tk } := I.turned (fun b o hb e => kk b o (by simpa using hb) e) f0 f1 f3 f4 f5
  refine ⟨_, rfl, go_of (s := { s with heap := h', toks := tk }) (n := "range_iterator") st' rfl rfl (by decide) ⟨.int (lo + i), H, I1, ⟨t, ?_⟩, ⟨rfl, rfl⟩, st', fun b hb => (hf b hb).1⟩⟩
  rw [Int.mul_one]
 done := by
  intro X hP hw hK hc i pins s σ H E I hf st hg
  subst hP hw hK
  obtain ⟨f0, f1, f2, f3, f4, f5⟩ := hf it (by simp)
  exact wpAny_pyNext_range_end (I.ok.hd hc) st (by have : n ≤ i := hg; omega) fun h' eb => ⟨rfl, I.turned (t' := s.toks) (fun b o hb e => eb b o hb e) f0 f1 f3 f4 f5⟩
 self := fun _ _ _ _ _ st h => wpAny_pyIter_rangeiter st h
end L2
namespace L2
open PySem PySem.Spec PyProof.Rows
section
variable {X : Cx} {tg : Expr}
def iList (K : PySem.W.Frag) (tl : TE) : TI := fun σ H R => tl σ H fun x H1 => ∃ a, x = .ref a ∧ (∃ xs, SqL K H1 a xs) ∧ R (Itl K a) H1
def iTup (K : PySem.W.Frag) (tl : TE) : TI := fun σ H R => tl σ H fun x H1 => ∃ a, x = .ref a ∧ (∃ xs, SqT K H1 a xs) ∧ R (Itt K a) H1
theorem pi_list {l : Expr} {tl : TE} (hl : PE X l tl) : PI X tg l (iList X.K tl) := by
 intro pins s σ H R I h
 refine thn (hl pins s σ H _ I h) fun v s1 ⟨x, H1, I1, r1, q1⟩ => ?_
 obtain ⟨a, e, ⟨xs, hq⟩, q⟩ := q1
 subst e
 cases r1
 obtain ⟨its, rv, p, hz⟩ := I1.list hq
 refine wpAny_pyIter_list p.isList ?_
 refine ⟨s1.heap.objs.size, [s1.heap.objs.size], _, _, H1, rfl, I1.kept (t' := s1.toks) fun b o e => Heap.get?_push_of_some _ e, turn_list a _, ⟨_, Heap.get?_push_size _ rfl, rfl, rfl⟩, fun b hb => ?_, q⟩
 have e : b = s1.heap.objs.size := by simpa using hb
 subst e
 exact I1.fpOk (Nat.le_refl _) (I1.hok.fresh (Nat.le_refl _))
theorem pi_tup {l : Expr} {tl : TE} (hl : PE X l tl) : PI X tg l (iTup X.K tl) := by
 intro pins s σ H R I h
 refine thn (hl pins s σ H _ I h) fun v s1 ⟨x, H1, I1, r1, q1⟩ => ?_
 obtain ⟨a, e, ⟨xs, hq⟩, q⟩ := q1
 subst e
 cases r1
 obtain ⟨its, rv, p, hz⟩ := I1.tuple hq
 refine wpAny_pyIter_tuple (show s1.heap.IsTuple a its.toArray from p) ?_
 refine ⟨s1.heap.objs.size, [s1.heap.objs.size], _, _, H1, rfl, I1.kept (t' := s1.toks) fun b o e => Heap.get?_push_of_some _ e, turn_tuple a _, ⟨_, Heap.get?_push_size _ rfl, rfl, rfl⟩, fun b hb => ?_, q⟩
 have e : b = s1.heap.objs.size := by simpa using hb
 subst e
 exact I1.fpOk (Nat.le_refl _) (I1.hok.fresh (Nat.le_refl _))
theorem range_it {pins : List (Addr × Obj)} {σ : St} {H : Hp} {s : Shared} {R : It → Hp → Prop} {E : Value → Shared → Prop} {lo hi : Int} {t u v : Tok} {tk : Nat} (I : Inv X pins σ H s) (h1 : -(2 ^ 62) ≤ lo) (h2 : lo < 2 ^ 62) (h3 : -(2 ^ 62) ≤ hi) (h4 : hi < 2 ^ 62)
  (q : R (Itr lo (hi - lo).toNat) H) : wpAny (model X.prog X.w) X.A (pyIter (.ref s.heap.objs.size)) (PIE X pins σ tg R) E { s with heap := s.heap.push { cls := .type "range", data := .fields #[.int lo t, .int hi u, .int 1 v] }, toks := tk } := by
 refine wpAny_pyIter_range (IsRange.new ..) (small_one h1 h2 h3 h4) ?_
 have I1 : Inv X pins σ H { s with heap := s.heap.push { cls := .type "range", data := .fields #[.int lo t, .int hi u, .int 1 v] }, toks := tk } := I.kept fun b o e => Heap.get?_push_of_some _ e
 refine ⟨(s.heap.push { cls := .type "range", data := .fields #[.int lo t, .int hi u, .int 1 v] }).objs.size, [(s.heap.push { cls := .type "range", data := .fields #[.int lo t, .int hi u, .int 1 v] }).objs.size], _, _, H, rfl,
  I1.kept (t' := tk) fun b o e => Heap.get?_push_of_some _ e, turn_range _ lo (hi - lo).toNat, ?_, fun b hb => ?_, q⟩
 ·have e1 : lo + ((0 : Nat) : Int) * 1 = lo := by simp
  have e2 : (((hi - lo).toNat : Nat) : Int) - ((0 : Nat) : Int) = Builtin.Range.rangeSize lo hi 1 := by rw [rangeSize_one]; split <;> omega
  show IsRangeIter _ _ (lo + ((0 : Nat) : Int) * 1) ((((hi - lo).toNat : Nat) : Int) - ((0 : Nat) : Int)) 1
  rw [e1, e2]
  exact Heap.get?_push_size _ rfl
 ·have e : b = (s.heap.push { cls := .type "range", data := .fields #[.int lo t, .int hi u, .int 1 v] }).objs.size := by simpa using hb
  subst e
  exact I1.fpOk (Nat.le_refl _) (I1.hok.fresh (Nat.le_refl _))
def iRng1 (ta : TA) : TI := fun σ H R => ta σ H fun vs H1 => ∃ j : Int, vs = [.int j] ∧ -(2 ^ 62) ≤ j ∧ j < 2 ^ 62 ∧ R (Itr 0 j.toNat) H1
def iRng2 (ta : TA) : TI := fun σ H R => ta σ H fun vs H1 => ∃ i j : Int, vs = [.int i, .int j] ∧ (-(2 ^ 62) ≤ i ∧ i < 2 ^ 62 ∧ -(2 ^ 62) ≤ j ∧ j < 2 ^ 62) ∧ R (Itr i (j - i).toNat) H1
theorem pi_range1 {a : Expr} {ta : TA} {p pos : Pos} (hg : Gl X "range") (hm : X.mg "range" = none) (ha : PA X [a] ta) (hs : starEach [a] X.env = [(false, eval a X.env)] := by rfl) : PI X tg (.Call (.Name "range" p) [a] [] pos) (iRng1 ta) := by
 intro pins s σ H R I h
 refine Call_ (ld_blt I hg hm boot_range (PyProof.Rows.callWith_type1 (thn (ha pos pins s σ H _ I h) fun us s1 ⟨vs, H1, I1, r1, q1⟩ => ?_) hs rfl))
 obtain ⟨j, e, q1, q2, q⟩ := q1
 subst e
 cases r1 with
 | cons r rr =>
  cases rr
  obtain ⟨t, rfl⟩ := r
  exact call_range_1 (range_it I1 (by omega) (by omega) q1 q2 (by simpa using q))
theorem pi_range2 {a b : Expr} {ta : TA} {p pos : Pos} (hg : Gl X "range") (hm : X.mg "range" = none) (ha : PA X [a, b] ta) (hs : starEach [a, b] X.env = [(false, eval a X.env), (false, eval b X.env)] := by rfl) (hs2 : starEach [b] X.env = [(false, eval b X.env)] := by rfl) :
  PI X tg (.Call (.Name "range" p) [a, b] [] pos) (iRng2 ta) := by
 intro pins s σ H R I h
 refine Call_ (ld_blt I hg hm boot_range (PyProof.Rows.callWith_type1 (thn (ha pos pins s σ H _ I h) fun us s1 ⟨vs, H1, I1, r1, q1⟩ => ?_) (by rw [hs, hs2]) (by rw [hs2]; rfl)))
 obtain ⟨i, j, e, ⟨q1, q2, q3, q4⟩, q⟩ := q1
 subst e
 cases r1 with
 | cons r rr =>
  cases rr with
  | cons r' rr =>
   cases rr
   obtain ⟨t, rfl⟩ := r
   obtain ⟨t', rfl⟩ := r'
   exact call_range_2 (range_it I1 q1 q2 q3 q4 q)
def tFor (wi : TI) (g : TG) (tb : TS) : TS := fun D σ H => wi σ H fun J H1 => ∃ W : Nat → Nat → St → Hp → Prop, (∃ m, W 0 m σ H1) ∧ ∀ i m σ H, W i m σ H →
 (J.stop i H ∧ D.nx σ H) ∨ (J.go i H ∧ ∃ N : St → Hp → Prop, (∀ σ' H', N σ' H' → ∃ m', m' < m ∧ W (i + 1) m' σ' H') ∧ ∀ x H', J.yld i H x H' → g x σ H' fun σ2 H2 => tb { D with nx := N, ct := N, bk := D.nx } σ2 H2)
def pinsAt (fp : List Addr) (h : Heap) : List (Addr × Obj) := fp.filterMap fun b => (h.get? b).map fun o => (b, o)
theorem mem_pinsAt {fp : List Addr} {h : Heap} {b : Addr} {o : Obj} (hb : b ∈ fp) (e : h.get? b = some o) : (b, o) ∈ pinsAt fp h := List.mem_filterMap.mpr ⟨b, hb, by rw [e]; rfl⟩
theorem of_pinsAt {fp : List Addr} {h : Heap} {p : Addr × Obj} (hp : p ∈ pinsAt fp h) : p.1 ∈ fp ∧ h.get? p.1 = some p.2 := by
 obtain ⟨b, hb, e⟩ := List.mem_filterMap.mp hp
 cases q : h.get? b with
 | none => rw [q] at e; cases e
 | some o =>
  rw [q] at e
  have e' : (b, o) = p := Option.some.inj e
  subst e'
  exact ⟨hb, q⟩
theorem Inv.pinned {pins : List (Addr × Obj)} {σ : St} {H : Hp} {s : Shared} {fp : List Addr} (I : Inv X pins σ H s) (hf : ∀ b ∈ fp, FpOk X pins H b) (ho : ∀ b ∈ fp, ∃ o, s.heap.get? b = some o ∧ ∀ v, o.data ≠ .cell v) : Inv X (pins ++ pinsAt fp s.heap) σ H s :=
 I.pins_of fun p hp => (List.mem_append.mp hp).elim (fun z => I.pin p (List.mem_append_right _ z)) fun z => by
  obtain ⟨hb, e⟩ := of_pinsAt z
  obtain ⟨f0, f1, f2, _⟩ := hf p.1 hb
  obtain ⟨o, e', d⟩ := ho p.1 hb
  rw [e] at e'; cases e'
  exact ⟨e, f0, f1, f2, d⟩
theorem Inv.unpinned {pins pl : List (Addr × Obj)} {σ : St} {H : Hp} {s : Shared} (I : Inv X (pins ++ pl) σ H s) : Inv X pins σ H s := I.pins_of fun p hp => I.pin p (List.mem_append_right _ (List.mem_append_left _ hp))
theorem ps_for {iter : Expr} {body : List Stmt} {wi : TI} {g : TG} {tb : TS} {pos : Pos} (hp : PassesOwn (model X.prog X.w) X.A X.env X.xe) (hc : X.calm = true) (hi : PI X tg iter wi) (hg : PG X tg g) (hb : PSs X body tb)
  (hs : ∀ x, foldedSetIterable iter X.env x = pure x := by intro _; rfl) : PS X (.For tg iter body [] pos) (tFor wi g tb) := by
 intro pins s σ H D I h
 refine wpAny_For (thn (hi pins s σ H _ I h) fun v s1 h1 => thn h1 fun itv s2 h2 => ?_) hs
 obtain ⟨it, fp, tn, J, H2, e, I2, T, st2, f2, W, ⟨m0, w0⟩, turn⟩ := h2
 subst e
 have stat : ∀ {H' : Hp}, (∀ b ∈ fp, H' b = none) → ∀ b ∈ fp, FpOk X pins H' b := fun hn b hb => ⟨hn b hb, (f2 b hb).2⟩
 refine codeAny_forLoop_any (fun n s' => ∃ i σ' H', Inv X pins σ' H' s' ∧ tn i s'.heap ∧ (∀ b ∈ fp, H' b = none) ∧ W i n σ' H') ?_ m0 ⟨0, σ, H2, I2, st2, fun b hb => (f2 b hb).1, w0⟩
 rintro n s3 ⟨i, σ3, H3, I3, st3, fr3, w3⟩
 rcases turn i n σ3 H3 w3 with ⟨stop, qn⟩ | ⟨go, N, hN, step⟩
 ·refine wpAny_passesOwn hp (thn (T.done X rfl rfl rfl hc i pins s3 σ3 H3 X.xe I3 (stat fr3) st3 stop) fun r s4 ⟨hr, I4⟩ => ?_)
  subst hr
  exact wpAny_execs_nil ⟨σ3, H3, I4, qn⟩
 ·refine wpAny_passesOwn hp (thn (T.item X rfl rfl rfl hc i pins s3 σ3 H3 X.xe I3 (stat fr3) st3 go) fun r s4 ⟨u, hr, h4⟩ => ?_)
  subst hr
  refine wpAny_passesOwn hp (thn h4 fun _ s5 ⟨x, H5, I5, r5, y5, st5, fr5⟩ => ?_)
  have I5' := I5.pinned (stat fr5) (T.obj _ _ st5)
  refine wpAny_passesOwn hp (thn (hg _ s5 σ3 H5 x u _ I5' r5 (step x H5 y5)) fun _ s6 ⟨σ6, H6, I6, q6⟩ => ?_)
  refine wpAny_passesOwn hp (thn (hb _ s6 σ6 H6 _ I6 q6) fun f s7 q7 => ?_)
  have again : ∀ {σ7 : St} {H7 : Hp}, Inv X (pins ++ pinsAt fp s5.heap) σ7 H7 s7 → N σ7 H7 → ∃ m, m < n ∧ ∃ i σ' H', Inv X pins σ' H' s7 ∧ tn i s7.heap ∧ (∀ b ∈ fp, H' b = none) ∧ W i m σ' H' := fun {σ7 H7} I7 n7 => by
   obtain ⟨m', hm, w7⟩ := hN σ7 H7 n7
   refine ⟨m', hm, i + 1, σ7, H7, I7.unpinned, T.keep _ _ _ st5 fun b hb o e => (I7.pin (b, o) (List.mem_append_right _ (List.mem_append_right _ (mem_pinsAt hb e)))).1, fun b hb => ?_, w7⟩
   obtain ⟨o, e, d⟩ := T.obj _ _ st5 b hb
   exact (I7.pin (b, o) (List.mem_append_right _ (List.mem_append_right _ (mem_pinsAt hb e)))).2.1
  cases f with
  | next => obtain ⟨σ7, H7, I7, n7⟩ := q7; exact again I7 n7
  | cont => obtain ⟨σ7, H7, I7, n7⟩ := q7; exact again I7 n7
  | brk => obtain ⟨σ7, H7, I7, q7⟩ := q7; exact ⟨σ7, H7, I7.unpinned, q7⟩
  | ret v => obtain ⟨x7, σ7, H7, I7, r7, q7⟩ := q7; exact ⟨x7, σ7, H7, I7.unpinned, r7, q7⟩
end
theorem for_range {lo : Int} {n : Nat} {g : TG} {tb : TS} {D : Ends} {σ : St} {H : Hp} (Pv : Nat → St → Hp → Prop) (h0 : Pv 0 σ H)
  (hs : ∀ i σ H, i < n → Pv i σ H → g (.int (lo + i)) σ H fun σ2 H2 => tb { D with nx := Pv (i + 1), ct := Pv (i + 1), bk := D.nx } σ2 H2) (hd : ∀ σ H, Pv n σ H → D.nx σ H) :
  ∃ W : Nat → Nat → St → Hp → Prop, (∃ m, W 0 m σ H) ∧ ∀ i m σ H, W i m σ H →
   ((Itr lo n).stop i H ∧ D.nx σ H) ∨ ((Itr lo n).go i H ∧ ∃ N : St → Hp → Prop, (∀ σ' H', N σ' H' → ∃ m', m' < m ∧ W (i + 1) m' σ' H') ∧ ∀ x H', (Itr lo n).yld i H x H' → g x σ H' fun σ2 H2 => tb { D with nx := N, ct := N, bk := D.nx } σ2 H2) := by
 refine ⟨fun i m σ H => m = n - i ∧ i ≤ n ∧ Pv i σ H, ⟨n, by simp, Nat.zero_le _, h0⟩, ?_⟩
 rintro i m σ H ⟨rfl, hi, p⟩
 by_cases hlt : i < n
 ·refine .inr ⟨hlt, Pv (i + 1), fun σ' H' p' => ⟨n - (i + 1), by omega, rfl, hlt, p'⟩, fun x H' y => ?_⟩
  obtain ⟨e, y⟩ := y
  subst e y
  exact hs i σ _ hlt p
 ·have e : i = n := by omega
  subst e
  exact .inl ⟨Nat.le_refl _, hd σ H p⟩
end L2
namespace L2
open PySem PySem.Spec PyProof.Rows
abbrev R2 := V → V → Hp → VK → Prop
def OpR (X : Cx) (f : Value → Value → Sem Value) (r : R2) : Prop :=
 ∀ (pins : List (Addr × Obj)) (s : Shared) (σ : St) (H : Hp) (x y : V) (v u : Value) (Q : VK), Inv X pins σ H s → RelV x v → RelV y u → r x y H Q →
  wpAny (model X.prog X.w) X.A (f v u) (EP X pins σ Q) X.xe s
def UnR (X : Cx) (f : Value → Sem Value) (r : V → Hp → VK → Prop) : Prop :=
 ∀ (pins : List (Addr × Obj)) (s : Shared) (σ : St) (H : Hp) (x : V) (v : Value) (Q : VK), Inv X pins σ H s → RelV x v → r x H Q →
  wpAny (model X.prog X.w) X.A (f v) (EP X pins σ Q) X.xe s
def CallR (X : Cx) (f : Value) (r : List V → Hp → VK → Prop) : Prop :=
 ∀ (pins : List (Addr × Obj)) (s : Shared) (σ : St) (H : Hp) (xs : List V) (us : List Value) (Q : VK), Inv X pins σ H s → Vals xs us → r xs H Q →
  wpAny (model X.prog X.w) X.A (call f us) (EP X pins σ Q) X.xe s
def tOp (r : R2) (ta tb : TE) : TE := fun σ H Q => ta σ H fun x H1 => tb σ H1 fun y H2 => r x y H2 Q
def tUn (r : V → Hp → VK → Prop) (ta : TE) : TE := fun σ H Q => ta σ H fun x H1 => r x H1 Q
def rI (C : Int → Int → Prop) (g : Int → Int → V) : R2 := fun x y H Q => ∃ i j, x = .int i ∧ y = .int j ∧ C i j ∧ Q (g i j) H
def rI0 (g : Int → Int → V) : R2 := fun x y H Q => ∃ i j, x = .int i ∧ y = .int j ∧ Q (g i j) H
def rU (g : Int → V) : V → Hp → VK → Prop := fun x H Q => ∃ i, x = .int i ∧ Q (g i) H
section
variable {X : Cx} {a b c : Expr} {ta tb tc : TE} {pos : Pos}
theorem binT (ha : PE X a ta) (hb : PE X b tb) {pins : List (Addr × Obj)} {s : Shared} {σ : St} {H : Hp} {R : V → V → Hp → Prop} (I : Inv X pins σ H s)
  (h : ta σ H fun x H1 => tb σ H1 fun y H2 => R x y H2) {Q : Value → Shared → Prop} {f : Value → Value → Sem Value}
  (hf : ∀ v u s2 x y H2, Inv X pins σ H2 s2 → RelV x v → RelV y u → R x y H2 → wpAny (model X.prog X.w) X.A (f v u) Q X.xe s2) :
  wpAny (model X.prog X.w) X.A (eval a X.env) (fun v s₁ => wpAny (model X.prog X.w) X.A (eval b X.env) (fun u s₂ => wpAny (model X.prog X.w) X.A (f v u) Q X.xe s₂) X.xe s₁) X.xe s := by
 refine thn (ha pins s σ H _ I h) fun v s1 ⟨x, H1, I1, r1, q1⟩ => ?_
 refine thn (hb pins s1 σ H1 _ I1 q1) fun u s2 ⟨y, H2, I2, r2, q2⟩ => ?_
 exact hf v u s2 x y H2 I2 r1 r2 q2
theorem pe_op {op : Operator} {r : R2} (ho : OpR X (binaryOp op) r) (ha : PE X a ta) (hb : PE X b tb) : PE X (.BinOp a op b pos) (tOp r ta tb) := by
 intro pins s σ H Q I h
 exact wpAny_BinOp (binT ha hb I h fun v u s2 x y H2 I2 rx ry q => ho pins s2 σ H2 x y v u Q I2 rx ry q)
theorem pe_un {op : UnaryOp} {r : V → Hp → VK → Prop} (ho : UnR X (unaryOp op) r) (ha : PE X a ta) : PE X (.UnaryOp op a pos) (tUn r ta) := by
 intro pins s σ H Q I h
 exact UnaryOp_ (thn (ha pins s σ H _ I h) fun v s1 ⟨x, H1, I1, r1, q1⟩ => ho pins s1 σ H1 x v Q I1 r1 q1)
theorem opI {f : Value → Value → Sem Value} {C : Int → Int → Prop} {g : Int → Int → Int}
  (rule : ∀ (i j : Int) (t u : Tok) (s : Shared) (Q : Value → Shared → Prop) (E : Value → Shared → Prop), C i j → Q (.int (g i j) s.toks) { s with toks := s.toks + 1 } → wpAny (model X.prog X.w) X.A (f (.int i t) (.int j u)) Q E s) :
  OpR X f (rI C fun i j => .int (g i j)) := by
 intro pins s σ H x y v u Q I rx ry h
 obtain ⟨i, j, rfl, rfl, hc, q⟩ := h
 obtain ⟨t, rfl⟩ := rx
 obtain ⟨t', rfl⟩ := ry
 exact rule i j t t' s _ _ hc ⟨.int (g i j), H, I.tok _, ⟨_, rfl⟩, q⟩
theorem opI0 {f : Value → Value → Sem Value} {g : Int → Int → Int}
  (rule : ∀ (i j : Int) (t u : Tok) (s : Shared) (Q : Value → Shared → Prop) (E : Value → Shared → Prop), Q (.int (g i j) s.toks) { s with toks := s.toks + 1 } → wpAny (model X.prog X.w) X.A (f (.int i t) (.int j u)) Q E s) :
  OpR X f (rI0 fun i j => .int (g i j)) := by
 intro pins s σ H x y v u Q I rx ry h
 obtain ⟨i, j, rfl, rfl, q⟩ := h
 obtain ⟨t, rfl⟩ := rx
 obtain ⟨t', rfl⟩ := ry
 exact rule i j t t' s _ _ ⟨.int (g i j), H, I.tok _, ⟨_, rfl⟩, q⟩
theorem opB0 {f : Value → Value → Sem Value} {g : Int → Int → Bool}
  (rule : ∀ (i j : Int) (t u : Tok) (s : Shared) (Q : Value → Shared → Prop) (E : Value → Shared → Prop), Q (.bool (g i j)) s → wpAny (model X.prog X.w) X.A (f (.int i t) (.int j u)) Q E s) :
  OpR X f (rI0 fun i j => .bl (g i j)) := by
 intro pins s σ H x y v u Q I rx ry h
 obtain ⟨i, j, rfl, rfl, q⟩ := h
 obtain ⟨t, rfl⟩ := rx
 obtain ⟨t', rfl⟩ := ry
 exact rule i j t t' s _ _ ⟨.bl (g i j), H, I, rfl, q⟩
def CDiv (i j : Int) : Prop := 0 < j ∧ j < 1073741824
def CMul (i j : Int) : Prop := (-(2 ^ 64) < i ∧ i < 2 ^ 64) ∨ (-(2 ^ 64) < j ∧ j < 2 ^ 64)
theorem CMul.ok {i j : Int} (h : CMul i j) : IntMulOk i j := by
 rcases h with ⟨h1, h2⟩ | ⟨h1, h2⟩
 ·exact .of_left (intBits_le_64 h1 h2)
 ·exact .of_right (intBits_le_64 h1 h2)
theorem op_add : OpR X (binaryOp .Add) (rI0 fun i j => .int (i + j)) := opI0 fun _ _ _ _ _ _ _ q => add_int q
theorem op_sub : OpR X (binaryOp .Sub) (rI0 fun i j => .int (i - j)) := opI0 fun _ _ _ _ _ _ _ q => sub_int q
theorem op_mul : OpR X (binaryOp .Mult) (rI CMul fun i j => .int (i * j)) := opI fun _ _ _ _ _ _ _ hc q => mul_int q hc.ok
theorem op_fdiv : OpR X (binaryOp .FloorDiv) (rI CDiv fun i j => .int (i / j)) := opI fun i j _ _ _ _ _ hc q => by
 have h1 : (0 : Int) < j := hc.1
 have h2 : j < 1073741824 := hc.2
 exact floordiv_int (by omega) (by rw [Int.fdiv_eq_ediv_of_nonneg i (by omega)]; exact q) (.inl (PyProof.noPylong_small (by omega)))
theorem op_mod : OpR X (binaryOp .Mod) (rI (fun _ j => 0 < j) fun i j => .int (i % j)) := opI fun i j _ _ _ _ _ hc q => by
 have h1 : (0 : Int) < j := hc
 exact mod_int' (by omega) (by rw [Int.fmod_eq_emod_of_nonneg i (by omega)]; exact q)
theorem unI {f : Value → Sem Value} {g : Int → Int}
  (rule : ∀ (i : Int) (t : Tok) (s : Shared) (Q : Value → Shared → Prop) (E : Value → Shared → Prop), Q (.int (g i) s.toks) { s with toks := s.toks + 1 } → wpAny (model X.prog X.w) X.A (f (.int i t)) Q E s) :
  UnR X f (rU fun i => .int (g i)) := by
 intro pins s σ H x v Q I rx h
 obtain ⟨i, rfl, q⟩ := h
 obtain ⟨t, rfl⟩ := rx
 exact rule i t s _ _ ⟨.int (g i), H, I.tok _, ⟨_, rfl⟩, q⟩
theorem un_neg : UnR X (unaryOp .USub) (rU fun i => .int (-i)) := unI fun _ _ _ _ _ q => neg_int q
end
def scal : V → V → Bool
 | .non, .non => true | .non, .int _ => true | .int _, .non => true | .non, .bl _ => true | .bl _, .non => true | .non, .str _ => true | .str _, .non => true
 | .int _, .int _ => true | .bl _, .bl _ => true | .str _, .str _ => true | .byt _, .byt _ => true
 | .int _, .str _ => true | .str _, .int _ => true | .bl _, .str _ => true | .str _, .bl _ => true
 | _, _ => false
def rEq : R2 := fun x y H Q => scal x y = true ∧ Q (.bl (decide (x = y))) H
def rNe : R2 := fun x y H Q => scal x y = true ∧ Q (.bl (!decide (x = y))) H
theorem dec_int {i j : Int} : decide (V.int i = V.int j) = (i == j) := by
 rw [Bool.eq_iff_iff]
 simp
theorem dec_bl {i j : Bool} : decide (V.bl i = V.bl j) = (i == j) := by
 rw [Bool.eq_iff_iff]
 simp
theorem dec_str {i j : Str} : decide (V.str i = V.str j) = (i == j) := by
 rw [Bool.eq_iff_iff]
 simp
theorem dec_byt {i j : Array UInt8} : decide (V.byt i = V.byt j) = (i.toList == j.toList) := by
 rw [Bool.eq_iff_iff]
 cases i
 cases j
 simp
section
variable {X : Cx} {a b c : Expr} {ta tb tc : TE} {pos : Pos}
theorem fin_bl {pins : List (Addr × Obj)} {σ : St} {H : Hp} {s : Shared} {Q : VK} {k k' : Bool} (I : Inv X pins σ H s) (q : Q (.bl k) H) (e : k = k') : EP X pins σ Q (.bool k') s := by
 subst e
 exact ⟨.bl k, H, I, rfl, q⟩
theorem op_eq : OpR X (compareOp .Eq) rEq := by
 intro pins s σ H x y v u Q I rx ry h
 obtain ⟨hs, q⟩ := h
 cases x with
 | non =>
  cases rx
  cases y with
  | non => cases ry; exact PySem.EqNone.eq_none_none (fin_bl I q (by simp))
  | bl j => cases ry; exact PySem.EqNone.eq_none_bool (fin_bl I q (by simp))
  | int j => obtain ⟨t', rfl⟩ := ry; exact PySem.EqNone.eq_none_int (fin_bl I q (by simp))
  | str j => obtain ⟨t', rfl⟩ := ry; exact PySem.EqNone.eq_none_str (fin_bl I q (by simp))
  | _ => exact absurd (show false = true from hs) Bool.false_ne_true
 | bl i =>
  cases rx
  cases y with
  | non => cases ry; exact PySem.EqNone.eq_bool_none (fin_bl I q (by simp))
  | bl j => cases ry; exact eq_bool (fin_bl I q dec_bl)
  | str j => obtain ⟨t', rfl⟩ := ry; exact PySem.EqMixed.eq_bool_str (fin_bl I q (by simp))
  | _ => exact absurd (show false = true from hs) Bool.false_ne_true
 | int i =>
  obtain ⟨t, rfl⟩ := rx
  cases y with
  | non => cases ry; exact PySem.EqNone.eq_int_none (fin_bl I q (by simp))
  | int j => obtain ⟨t', rfl⟩ := ry; exact eq_int (fin_bl I q dec_int)
  | str j => obtain ⟨t', rfl⟩ := ry; exact PySem.EqMixed.eq_int_str (fin_bl I q (by simp))
  | _ => exact absurd (show false = true from hs) Bool.false_ne_true
 | str i =>
  obtain ⟨t, rfl⟩ := rx
  cases y with
  | non => cases ry; exact PySem.EqNone.eq_str_none (fin_bl I q (by simp))
  | bl j => cases ry; exact PySem.EqMixed.eq_str_bool (fin_bl I q (by simp))
  | int j => obtain ⟨t', rfl⟩ := ry; exact PySem.EqMixed.eq_str_int (fin_bl I q (by simp))
  | str j => obtain ⟨t', rfl⟩ := ry; exact eq_str (fin_bl I q dec_str)
  | _ => exact absurd (show false = true from hs) Bool.false_ne_true
 | byt i =>
  obtain ⟨t, rfl⟩ := rx
  cases y with
  | byt j => obtain ⟨t', rfl⟩ := ry; exact PySem.W.eq_bytes (fin_bl I q dec_byt)
  | _ => exact absurd (show false = true from hs) Bool.false_ne_true
 | _ => cases y <;> exact absurd (show false = true from hs) Bool.false_ne_true
theorem op_ne : OpR X (compareOp .NotEq) rNe := by
 intro pins s σ H x y v u Q I rx ry h
 obtain ⟨hs, q⟩ := h
 cases x with
 | non =>
  cases rx
  cases y with
  | non => cases ry; exact PySem.EqNone.ne_none_none (fin_bl I q (by simp))
  | bl j => cases ry; exact PySem.EqNone.ne_none_bool (fin_bl I q (by simp))
  | int j => obtain ⟨t', rfl⟩ := ry; exact PySem.EqNone.ne_none_int (fin_bl I q (by simp))
  | str j => obtain ⟨t', rfl⟩ := ry; exact PySem.EqNone.ne_none_str (fin_bl I q (by simp))
  | _ => exact absurd (show false = true from hs) Bool.false_ne_true
 | bl i =>
  cases rx
  cases y with
  | non => cases ry; exact PySem.EqNone.ne_bool_none (fin_bl I q (by simp))
  | bl j => cases ry; exact ne_bool (fin_bl I q (congrArg not dec_bl))
  | str j => obtain ⟨t', rfl⟩ := ry; exact PySem.EqMixed.ne_bool_str (fin_bl I q (by simp))
  | _ => exact absurd (show false = true from hs) Bool.false_ne_true
 | int i =>
  obtain ⟨t, rfl⟩ := rx
  cases y with
  | non => cases ry; exact PySem.EqNone.ne_int_none (fin_bl I q (by simp))
  | int j => obtain ⟨t', rfl⟩ := ry; exact ne_int (fin_bl I q (congrArg not dec_int))
  | str j => obtain ⟨t', rfl⟩ := ry; exact PySem.EqMixed.ne_int_str (fin_bl I q (by simp))
  | _ => exact absurd (show false = true from hs) Bool.false_ne_true
 | str i =>
  obtain ⟨t, rfl⟩ := rx
  cases y with
  | non => cases ry; exact PySem.EqNone.ne_str_none (fin_bl I q (by simp))
  | bl j => cases ry; exact PySem.EqMixed.ne_str_bool (fin_bl I q (by simp))
  | int j => obtain ⟨t', rfl⟩ := ry; exact PySem.EqMixed.ne_str_int (fin_bl I q (by simp))
  | str j => obtain ⟨t', rfl⟩ := ry; exact ne_str (fin_bl I q (congrArg not dec_str))
  | _ => exact absurd (show false = true from hs) Bool.false_ne_true
 | byt i =>
  obtain ⟨t, rfl⟩ := rx
  cases y with
  | byt j => obtain ⟨t', rfl⟩ := ry; exact PySem.W.ne_bytes (fin_bl I q (congrArg not dec_byt))
  | _ => exact absurd (show false = true from hs) Bool.false_ne_true
 | _ => cases y <;> exact absurd (show false = true from hs) Bool.false_ne_true
theorem op_lt : OpR X (compareOp .Lt) (rI0 fun i j => .bl (decide (i < j))) := opB0 fun _ _ _ _ _ _ _ q => lt_int q
theorem op_le : OpR X (compareOp .LtE) (rI0 fun i j => .bl (decide (i ≤ j))) := opB0 fun _ _ _ _ _ _ _ q => le_int q
theorem op_gt : OpR X (compareOp .Gt) (rI0 fun i j => .bl (decide (j < i))) := opB0 fun _ _ _ _ _ _ _ q => gt_int q
theorem op_ge : OpR X (compareOp .GtE) (rI0 fun i j => .bl (decide (j ≤ i))) := opB0 fun _ _ _ _ _ _ _ q => ge_int q
theorem op_isN : OpR X (compareOp .Is) (fun x y H Q => y = .non ∧ Q (.bl (decide (x = .non))) H) := by
 intro pins s σ H x y v u Q I rx ry h
 obtain ⟨rfl, q⟩ := h
 cases ry
 refine is_none_gen (fin_bl I q ?_)
 cases x <;> first
  | (cases rx; rfl)
  | (obtain ⟨t, rfl⟩ := rx; rfl)
theorem op_notN : OpR X (compareOp .IsNot) (fun x y H Q => y = .non ∧ Q (.bl (!decide (x = .non))) H) := by
 intro pins s σ H x y v u Q I rx ry h
 obtain ⟨rfl, q⟩ := h
 cases ry
 refine isnot_none_gen (fin_bl I q ?_)
 cases x <;> first
  | (cases rx; rfl)
  | (obtain ⟨t, rfl⟩ := rx; rfl)
theorem nomark (b : Expr) {op : CmpOp} (h : op ≠ .In := by decide) (h2 : op ≠ .NotIn := by decide) : behindInMarks op b = false := by
 have e1 : (op == CmpOp.In) = false := by cases op <;> first | rfl | exact absurd rfl h
 have e2 : (op == CmpOp.NotIn) = false := by cases op <;> first | rfl | exact absurd rfl h2
 cases b <;> simp [behindInMarks, e1, e2]
theorem pe_cmpR {op : CmpOp} {r : R2} (ho : OpR X (compareOp op) r) (ha : PE X a ta) (hb : PE X b tb) (hm : behindInMarks op b = false) : PE X (.Compare a [op] [b] pos) (tOp r ta tb) := by
 intro pins s σ H Q I h
 exact wpAny_Compare1 (binT ha hb I h fun v u s2 x y H2 I2 rx ry q => ho pins s2 σ H2 x y v u Q I2 rx ry q) hm
def tTest (t : TE) : TT := fun σ H Q => t σ H fun x H' => ∃ k, x = .bl k ∧ Q k H'
theorem pt_cmpR {op : CmpOp} {r : R2} (ho : OpR X (compareOp op) r) (ha : PE X a ta) (hb : PE X b tb) (hm : behindInMarks op b = false) : PT X (.Compare a [op] [b] pos) (tTest (tOp r ta tb)) := by
 intro pins s σ H Q I h
 refine wpAny_isTrue_Compare1 (thn (ha pins s σ H _ I h) fun v s1 ⟨x, H1, I1, r1, q1⟩ => thn (hb pins s1 σ H1 _ I1 q1) fun u s2 ⟨y, H2, I2, r2, q2⟩ =>
  thn (ho pins s2 σ H2 x y v u _ I2 r1 r2 q2) fun c s3 ⟨z, H3, I3, r3, k, e, q3⟩ => ?_) hm
 subst e
 cases r3
 exact wpAny_truthy_bool ⟨H3, I3, q3⟩
def tChain (r r' : R2) (ta tb tc : TE) : TE := fun σ H Q => ta σ H fun x H1 => tb σ H1 fun y H2 => r x y H2 fun z H3 => ∃ k, z = .bl k ∧
 (if k = true then tc σ H3 fun w' H4 => r' y w' H4 Q else Q (.bl false) H3)
theorem pe_chain {op op' : CmpOp} {r r' : R2} (ho : OpR X (compareOp op) r) (ho' : OpR X (compareOp op') r') (ha : PE X a ta) (hb : PE X b tb) (hc : PE X c tc)
  (hm : lastMarks [op, op'] [b, c] = false := by with_unfolding_all rfl) : PE X (.Compare a [op, op'] [b, c] pos) (tChain r r' ta tb tc) := by
 intro pins s σ H Q I h
 refine Compare_chain (thn (ha pins s σ H _ I h) fun v s1 ⟨x, H1, I1, r1, q1⟩ => chain_link (thn (hb pins s1 σ H1 _ I1 q1) fun u s2 ⟨y, H2, I2, r2, q2⟩ =>
  thn (ho pins s2 σ H2 x y v u _ I2 r1 r2 q2) fun d s3 ⟨z, H3, I3, r3, k, e, q3⟩ => ?_)) hm
 subst e
 cases r3
 refine wpAny_truthy_bool ?_
 cases k with
 | false => exact ite_ff ⟨.bl false, H3, I3, rfl, q3⟩
 | true => exact ite_tt (chain_last (thn (hc pins s3 σ H3 _ I3 q3) fun w' s4 ⟨z', H4, I4, r4, q4⟩ => ho' pins s4 σ H4 y z' u w' Q I4 r2 r4 q4))
theorem pt_chain {op op' : CmpOp} {r r' : R2} (ho : OpR X (compareOp op) r) (ho' : OpR X (compareOp op') r') (ha : PE X a ta) (hb : PE X b tb) (hc : PE X c tc)
  (hm : lastMarks [op, op'] [b, c] = false := by with_unfolding_all rfl) : PT X (.Compare a [op, op'] [b, c] pos) (tTest (tChain r r' ta tb tc)) := by
 intro pins s σ H Q I h
 refine isTrue_chain (thn (ha pins s σ H _ I h) fun v s1 ⟨x, H1, I1, r1, q1⟩ => test_link (thn (hb pins s1 σ H1 _ I1 q1) fun u s2 ⟨y, H2, I2, r2, q2⟩ =>
  thn (ho pins s2 σ H2 x y v u _ I2 r1 r2 q2) fun d s3 ⟨z, H3, I3, r3, k, e, q3⟩ => ?_)) hm
 subst e
 cases r3
 refine wpAny_truthy_bool ?_
 cases k with
 | false =>
  obtain ⟨k', e', q'⟩ := q3
  cases e'
  exact ite_ff ⟨H3, I3, q'⟩
 | true =>
  refine ite_tt (test_last (thn (hc pins s3 σ H3 _ I3 q3) fun w' s4 ⟨z', H4, I4, r4, q4⟩ => thn (ho' pins s4 σ H4 y z' u w' _ I4 r2 r4 q4) fun d' s5 ⟨z2, H5, I5, r5, k2, e2, q5⟩ => ?_))
  subst e2
  cases r5
  exact wpAny_truthy_bool ⟨H5, I5, q5⟩
theorem line63 : (sizeLine : Nat) < 2 ^ 63 := by rw [sizeLine_eq]; decide
theorem vals1 {x : V} {us : List Value} (r : Vals [x] us) : ∃ u, us = [u] ∧ RelV x u := by
 cases r with
 | cons r1 r2 => cases r2; exact ⟨_, rfl, r1⟩
theorem vals2 {x y : V} {us : List Value} (r : Vals [x, y] us) : ∃ u w', us = [u, w'] ∧ RelV x u ∧ RelV y w' := by
 cases r with
 | cons r1 r2 =>
  cases r2 with
  | cons r3 r4 => cases r4; exact ⟨_, _, rfl, r1, r3⟩
theorem call_abs : CallR X (.builtin "abs") (fun xs H Q => ∃ i, xs = [.int i] ∧ Q (.int (if i < 0 then -i else i)) H) := by
 intro pins s σ H xs us Q I r h
 obtain ⟨i, rfl, q⟩ := h
 obtain ⟨u, rfl, t, rfl⟩ := vals1 r
 exact call_abs_int fun u tk => ⟨.int (if i < 0 then -i else i), H, I.tok _, ⟨_, rfl⟩, q⟩
theorem call_max2 (hc : X.calm = true) : CallR X (.builtin "max") (fun xs H Q => ∃ i j, xs = [.int i, .int j] ∧ Q (.int (if j > i then j else i)) H) := by
 intro pins s σ H xs us Q I r h
 obtain ⟨i, j, rfl, q⟩ := h
 obtain ⟨u, w', rfl, ⟨t, rfl⟩, ⟨t', rfl⟩⟩ := vals2 r
 refine max_two_ints (I.ok.hd hc) fun h' tk k => ⟨_, H, I.kept k, ?_, q⟩
 by_cases hj : j > i
 ·rw [if_pos hj, if_pos hj]; exact ⟨_, rfl⟩
 ·rw [if_neg hj, if_neg hj]; exact ⟨_, rfl⟩
theorem call_str_int : CallR X (.type "str") (fun xs H Q => ∃ i, xs = [.int i] ∧ i.natAbs.log2 < 1920 ∧ Q (.str (toString i)) H) := by
 intro pins s σ H xs us Q I r h
 obtain ⟨i, rfl, hz, q⟩ := h
 obtain ⟨u, rfl, t, rfl⟩ := vals1 r
 exact PySem.P.str_of_int hz ⟨.str _, H, I.tok _, ⟨_, rfl⟩, q⟩
theorem call_ord : CallR X (.builtin "ord") (fun xs H Q => ∃ x, xs = [.str x] ∧ x.length = 1 ∧ Q (.int (x.cps.getD 0 0 : Nat)) H) := by
 intro pins s σ H xs us Q I r h
 obtain ⟨x, rfl, hz, q⟩ := h
 obtain ⟨u, rfl, t, rfl⟩ := vals1 r
 exact ord_of_one hz ⟨.int _, H, I.tok _, ⟨_, rfl⟩, q⟩
end
end L2
namespace L2
open PySem PySem.Spec PyProof.Rows
structure ObjM (h : Heap) (x dx C : Addr) (mA : Str → Option Value) : Prop where
 obj : h.get? x = some (PySem.W.instObj C dx)
 ns : h.Ns1 dx mA
 ne : dx ≠ x
theorem lookIn_ns {h : Heap} {dx : Addr} {mA : Str → Option Value} (n : h.Ns1 dx mA) : ∃ od, h.get? dx = some od ∧ ∀ name, PySem.W.lookIn name od = some (mA name) := by
 obtain ⟨o, es, ep, ho, hd, hk, _, hm⟩ := n
 refine ⟨o, ho, fun name => ?_⟩
 have e := hm name
 unfold nsFind findBy at e
 rw [← Array.find?_toList] at e
 unfold PySem.W.lookIn
 rw [hd]
 dsimp only
 split
 ·rename_i y q
  rw [q] at e
  exact congrArg some e
 ·rename_i q
  rw [q] at e
  have a : es.toList.any (·.refKey) = false := by
   rw [List.any_eq_false]
   intro y hy
   obtain ⟨z, t, hkey⟩ := hk y (Array.mem_toList_iff.mp hy)
   simp [DictEntry.refKey, hkey]
  have a' : ¬ es.toList.any (·.refKey) = true := by rw [a]; exact Bool.false_ne_true
  rw [if_neg a']
  exact congrArg some e
theorem ObjM.look {h : Heap} {x dx C : Addr} {mA : Str → Option Value} (I : ObjM h x dx C mA) : ∃ od, PySem.W.InstAt h x (PySem.W.instObj C dx) C (some od) ∧ ∀ name, PySem.W.lookIn name od = some (mA name) :=
 let ⟨od, ho, hl⟩ := lookIn_ns I.ns
 ⟨od, ⟨I.obj, rfl, rfl, ho⟩, hl⟩
section
variable {prog : Program} {w : World} {A : Around} {E : Value → Shared → Prop} {s : Shared} {K : PySem.W.Frag} {x dx C f : Addr} {mA : Str → Option Value} {name : Str} {v : Value}
theorem get_map {expr : Bool} {Q : Value → Shared → Prop} (X : K.In s.heap) (I : ObjM s.heap x dx C mA) (hg : PySem.W.plainGet K C name = true) (hh : PySem.W.hasDictIn K C = true)
  (ha : PySem.W.findIn K (.ref C) name = some none) (hv : mA name = some v) (hv' : PySem.W.handedIn v = true) (h : Q v { s with toks := s.toks + 1 }) :
  wpAny (model prog w) A (getAttr (.ref x) name expr) Q E s := by
 obtain ⟨od, J, hl⟩ := I.look
 exact PySem.W.get_value X J (PySem.W.plainGet_of hg).1 (PySem.W.findObj_own hh ha rfl (by rw [hl, hv])) hv' h
theorem get_meth {pl : Sem Bool} {Q : Value × List Value → Shared → Prop} (X : K.In s.heap) (I : ObjM s.heap x dx C mA) (hg : PySem.W.plainGet K C name = true)
  (hf : PySem.W.findIn K (.ref C) name = some (some (.ref f))) (ht : PySem.W.isFn K (.ref f) = true) (hv : mA name = none) (h : Q (.ref f, [.ref x]) s) :
  wpAny (model prog w) A (getMethod (.ref x) name pl) Q E s := by
 obtain ⟨od, J, hl⟩ := I.look
 exact PySem.W.method_fn X J (PySem.W.plainGet_of hg).1 (PySem.W.plainGet_of hg).2 hf (beq_iff_eq.mp ht) (by show (PySem.W.lookIn name od).map (·.isSome) = some false; rw [hl, hv]; rfl) h
theorem set_map {ns : List Str} {Q : Unit → Shared → Prop} (X : K.In s.heap) (I : ObjM s.heap x dx C mA)
  (hs : PySem.W.findIn K (.ref C) "__setattr__" = some (some (.builtin "object.__setattr__"))) (hp : PySem.W.plainOver K C = true) (ht : PySem.W.takerIn K C name = some none) (hh : PySem.W.hasDictIn K C = true)
  (hw : PySem.Within mA ns) (hsz : ns.length ≤ sizeLine)
  (h : ∀ h', ObjM h' x dx C (fun y => if y = name then some v else mA y) → Heap.SameBut dx s.heap h' → Q () { s with heap := h', toks := s.toks + 2 }) :
  wpAny (model prog w) A (setAttr (.ref x) name v) Q E s := by
 obtain ⟨od, J, hl⟩ := I.look
 refine PySem.W.set_plain X J hs (PySem.W.osa_open (s := { s with toks := s.toks + 1 }) (r := none) X J hp ht fun b => ?_)
 obtain ⟨cd, hc, hd'⟩ := PySem.W.any_some hh
 have hx : s.heap.get? x = some ⟨.ref C, some dx, .plain, #[]⟩ := I.obj
 refine wpAny_bind (wpAny_pure (wpAny_bind (wpAny_bind (wpAny_loadPart hx (wpAny_bind (PySem.W.Looks.here (s := { s with toks := s.toks + 1 }) (PySem.W.looks_clsIn X hc) ?_))))))
 rw [hd']
 refine wpAny_pure (a := some dx) (wpAny_bind (wpAny_pure (wpAny_bind ?_)))
 refine wpAny_nsSet1 (s := { s with toks := s.toks + 1 }) I.ns fun h' hn2 hs2 => ?_
 obtain ⟨oD, esD, epD, hoD, hdD, hcD⟩ := hn2.count (PySem.Within.cons name v hw)
 refine wpAny_bind (wpAny_lookBehind hoD (by rw [hdD]; exact pastItsLine_dict (Nat.le_trans hcD (by rw [List.length_cons]; omega))) ?_)
 exact wpAny_pure (h _ ⟨(hs2.2 _ (Ne.symm I.ne)).trans I.obj, hn2, I.ne⟩ hs2)
theorem make_map {R : Result → Shared → Prop} {vs : List Value} {kw : List (Str × Value)} (X : K.In s.heap) (hm : PySem.W.makesIn K C = true)
  (hi : PySem.W.findIn K (.ref C) "__init__" = some (some (.ref f))) (hf : PySem.W.typeIn K (.ref f) = some (.type "function"))
  (h : codeAny (model prog w) (A.under (.builtin "type.__call__" ⟨.ref C :: vs, kw⟩)) (.call (.ref f) ⟨.ref (s.heap.objs.size + 1) :: vs, kw⟩) (PySem.W.InitBack (s.heap.objs.size + 1) R)
   { s with heap := (s.heap.push PySem.W.emptyDict).push (PySem.W.instObj C s.heap.objs.size) }) :
  codeAny (model prog w) A (.call (.ref C) ⟨vs, kw⟩) R s := by
 obtain ⟨hh, g, d, t, os⟩ := s
 exact PySem.W.make_core (PySem.W.makes_of X hm) (PySem.W.looks_findIn X hi) (fun self => PySem.W.bind_fn X self hf) (.inl rfl) h
end
def putF (f : Str) (v : V) : List (Str × V) → List (Str × V)
 | [] => [(f, v)]
 | (g, x) :: r => if g = f then (g, v) :: r else (g, x) :: putF f v r
theorem lookup_putF (f g : Str) (v : V) : ∀ fs : List (Str × V), (putF f v fs).lookup g = if g = f then some v else fs.lookup g
 | [] => by
  show List.lookup g [(f, v)] = _
  by_cases h : g = f
  ·have hb : (g == f) = true := beq_iff_eq.mpr h
   simp only [List.lookup, hb, if_pos h]
  ·have hb : (g == f) = false := beq_eq_false_iff_ne.mpr h
   simp only [List.lookup, hb, if_neg h]
 | (k, x) :: r => by
  have ih := lookup_putF f g v r
  rw [show putF f v ((k, x) :: r) = (if k = f then (k, v) :: r else (k, x) :: putF f v r) from rfl]
  by_cases hk : k = f
  ·rw [if_pos hk]
   by_cases h : g = k
   ·have hb : (g == k) = true := beq_iff_eq.mpr h
    simp only [List.lookup, hb, if_pos (h.trans hk)]
   ·have hb : (g == k) = false := beq_eq_false_iff_ne.mpr h
    simp only [List.lookup, hb, if_neg (fun e : g = f => h (e.trans hk.symm))]
  ·rw [if_neg hk]
   by_cases h : g = k
   ·have hb : (g == k) = true := beq_iff_eq.mpr h
    simp only [List.lookup, hb, if_neg (fun e : g = f => hk (h.symm.trans e))]
   ·have hb : (g == k) = false := beq_eq_false_iff_ne.mpr h
    simp only [List.lookup, hb]
    exact ih
theorem keys_putF (f : Str) (v : V) : ∀ fs : List (Str × V), f ∈ (putF f v fs).map (·.1) ∧ ∀ g, g ∈ fs.map (·.1) → g ∈ (putF f v fs).map (·.1)
 | [] => ⟨by simp [putF], fun g h => by simp at h⟩
 | (k, x) :: r => by
  obtain ⟨i1, i2⟩ := keys_putF f v r
  rw [show putF f v ((k, x) :: r) = (if k = f then (k, v) :: r else (k, x) :: putF f v r) from rfl]
  by_cases hk : k = f
  ·rw [if_pos hk]
   subst hk
   exact ⟨by simp, fun g h => by simpa using h⟩
  ·rw [if_neg hk]
   refine ⟨?_, fun g h => ?_⟩
   ·rw [List.map_cons]
    exact List.mem_cons_of_mem _ i1
   ·rw [List.map_cons] at h ⊢
    rcases List.mem_cons.mp h with e | e
    ·exact List.mem_cons.mpr (.inl e)
    ·exact List.mem_cons_of_mem _ (i2 g e)
theorem length_putF (f : Str) (v : V) : ∀ fs : List (Str × V), (putF f v fs).length ≤ fs.length + 1
 | [] => by simp [putF]
 | (k, x) :: r => by
  have ih := length_putF f v r
  rw [show putF f v ((k, x) :: r) = (if k = f then (k, v) :: r else (k, x) :: putF f v r) from rfl]
  by_cases hk : k = f
  ·rw [if_pos hk, List.length_cons, List.length_cons]; omega
  ·rw [if_neg hk, List.length_cons, List.length_cons]; omega
theorem RelO.some_of {v : V} {o : Option Value} (r : RelO (some v) o) : ∃ u, o = some u ∧ RelV v u := by
 cases o with
 | none => exact (show False from r).elim
 | some u => exact ⟨u, rfl, r⟩
theorem RelO.none_of {o : Option Value} (r : RelO none o) : o = none := by
 cases o with
 | none => rfl
 | some u => exact (show False from r).elim
theorem handed_of {v : V} {u : Value} (r : RelV v u) : PySem.W.handedIn u = true := by
 cases v with
 | non => cases (show u = Value.none from r); rfl
 | bl b => cases (show u = Value.bool b from r); rfl
 | int i => obtain ⟨t, e⟩ := (show ∃ t, u = Value.int i t from r); cases e; rfl
 | str x => obtain ⟨t, e⟩ := (show ∃ t, u = Value.str x t from r); cases e; rfl
 | byt b => obtain ⟨t, e⟩ := (show ∃ t, u = Value.bytes b t from r); cases e; rfl
 | flt b => obtain ⟨t, e⟩ := (show ∃ t, u = Value.float b t from r); cases e; rfl
 | ref a => cases (show u = Value.ref a from r); rfl
 | ty n => cases (show u = Value.type n from r); rfl
section
variable {P : Program} {w : World} {H H' : Hp} {h h' : Heap} {a C dx : Addr} {fs fs' : List (Str × V)}
theorem ins_get (hok : HOk P w H h) (e : H a = some (.ins C dx fs)) : ∃ mA, ObjM h a dx C mA ∧ (∀ f, RelO (fs.lookup f) (mA f)) ∧ PySem.Within mA (fs.map (·.1)) ∧ fs.length ≤ 1000 ∧ H dx = some (.own a) := by
 obtain ⟨d, z, ne, ob, mA, n, r, q⟩ := (show ObjOk P w H h a (.ins C dx fs) from hok a _ e)
 exact ⟨mA, ⟨ob, n, ne⟩, r, q, z, d⟩
end
structure Cls (K : PySem.W.Frag) (C : Addr) : Prop where
 pg : PySem.W.plainGet K C Str.empty = true
 hd : PySem.W.hasDictIn K C = true
 po : PySem.W.plainOver K C = true
 sa : PySem.W.findIn K (.ref C) "__setattr__" = some (some (.builtin "object.__setattr__"))
theorem Cls.get {K : PySem.W.Frag} {C : Addr} (c : Cls K C) (f : Str) : PySem.W.plainGet K C f = true := c.pg
def NoAttr (K : PySem.W.Frag) (C : Addr) (f : Str) : Prop := PySem.W.findIn K (.ref C) f = some none
theorem NoAttr.taker {K : PySem.W.Frag} {C : Addr} {f : Str} (n : NoAttr K C f) : PySem.W.takerIn K C f = some none := by
 unfold PySem.W.takerIn
 rw [show PySem.W.findIn K (.ref C) f = some none from n]
 rfl
structure Meth (K : PySem.W.Frag) (C : Addr) (m : Str) (f : Addr) : Prop where
 at_ : PySem.W.findIn K (.ref C) m = some (some (.ref f))
 fn : PySem.W.isFn K (.ref f) = true
 kp : PySem.W.keepIn K (.ref f) = true
section
variable {X : Cx} {pins : List (Addr × Obj)} {σ : St} {H : Hp} {s : Shared} {a C dx : Addr} {fs : List (Str × V)} {f : Str} {v : V} {A : Around} {E : Value → Shared → Prop}
theorem getattr_ok {b : Bool} {Q : Value → Shared → Prop} (I : Inv X pins σ H s) (e : H a = some (.ins C dx fs)) (c : Cls X.K C) (n : NoAttr X.K C f) (l : fs.lookup f = some v)
  (h : ∀ u s', Inv X pins σ H s' → RelV v u → Q u s') : wpAny (model X.prog X.w) A (getAttr (.ref a) f b) Q E s := by
 obtain ⟨mA, O, r, _, _, _⟩ := ins_get I.hok e
 obtain ⟨u, hu, ru⟩ := RelO.some_of (v := v) (o := mA f) (by rw [← l]; exact r f)
 exact get_map I.kIn O (c.get f) c.hd n hu (handed_of ru) (h u _ (I.tok _) ru)
theorem getmeth_ok {m : Str} {g : Addr} {pl : Sem Bool} {Q : Value × List Value → Shared → Prop} (I : Inv X pins σ H s) (e : H a = some (.ins C dx fs)) (c : Cls X.K C) (k : Meth X.K C m g) (l : fs.lookup m = none)
  (h : Q (.ref g, [.ref a]) s) : wpAny (model X.prog X.w) A (getMethod (.ref a) m pl) Q E s := by
 obtain ⟨mA, O, r, _, _, _⟩ := ins_get I.hok e
 have hn : mA m = none := RelO.none_of (by rw [← l]; exact r m)
 exact get_meth I.kIn O (c.get m) k.at_ k.fn hn h
theorem setattr_ok {y : V} {u : Value} {Q : Unit → Shared → Prop} (I : Inv X pins σ H s) (e : H a = some (.ins C dx fs)) (c : Cls X.K C) (n : NoAttr X.K C f) (hl : fs.length < 1000) (ry : RelV y u)
  (h : ∀ s', Inv X pins σ (upd H a (.ins C dx (putF f y fs))) s' → Q () s') : wpAny (model X.prog X.w) A (setAttr (.ref a) f u) Q E s := by
 obtain ⟨mA, O, r, wi, _, ho⟩ := ins_get I.hok e
 have hz : (fs.map (·.1)).length ≤ sizeLine := by rw [List.length_map, sizeLine_eq]; omega
 refine set_map I.kIn O c.sa c.po n.taker c.hd wi hz fun h' O' sb => h _ ?_
 have hd : ∃ o, h'.get? dx = some o := let ⟨o, _, _, e', _⟩ := O'.ns; ⟨o, e'⟩
 refine I.write (x := a) (e := dx) (by rw [e]; exact True.intro) (.inr ho) (fun b q hb z => (sb.2 b hb).trans z) hd ?_
 refine ⟨by rw [upd_ne O.ne]; exact ho, ?_, O.ne, O'.obj, _, O'.ns, fun g => ?_, fun g hg => ?_⟩
 ·have := length_putF f y fs; omega
 ·show RelO ((putF f y fs).lookup g) (if g = f then some u else mA g)
  rw [lookup_putF]
  by_cases q : g = f
  ·rw [if_pos q, if_pos q]; exact ry
  ·rw [if_neg q, if_neg q]; exact r g
 ·by_cases q : g = f
  ·rw [q]; exact (keys_putF f y fs).1
  ·refine (keys_putF f y fs).2 g (wi g fun z => hg ?_)
   show (if g = f then some u else mA g) = none
   rw [if_neg q]; exact z
theorem Inv.made (I : Inv X pins σ H s) : Inv X pins σ (upd (upd H s.heap.objs.size (.own (s.heap.objs.size + 1))) (s.heap.objs.size + 1) (.ins C s.heap.objs.size []))
  { s with heap := (s.heap.push PySem.W.emptyDict).push (PySem.W.instObj C s.heap.objs.size) } := by
 have e1 : (s.heap.push PySem.W.emptyDict).get? s.heap.objs.size = some PySem.W.emptyDict := Heap.get?_push_size s.heap rfl
 have e2 : ((s.heap.push PySem.W.emptyDict).push (PySem.W.instObj C s.heap.objs.size)).get? (s.heap.objs.size + 1) = some (PySem.W.instObj C s.heap.objs.size) := by
  have := Heap.get?_push_size (s.heap.push PySem.W.emptyDict) (o := PySem.W.instObj C s.heap.objs.size) rfl
  rwa [Heap.size_push] at this
 have e3 : (s.heap.push PySem.W.emptyDict).Ns s.heap.objs.size (fun _ => none) := ⟨PySem.W.emptyDict, #[], _, e1, rfl, (fun e he => absurd he (by simp)), fun _ => rfl⟩
 have I1 := I.laid (a := s.heap.objs.size) (o := .own (s.heap.objs.size + 1)) (h' := s.heap.push PySem.W.emptyDict) (t' := s.toks) (fun b u q => Heap.get?_push_of_some _ q) (Nat.le_refl _) ⟨_, e1⟩
 refine I1.laid (a := s.heap.objs.size + 1) (o := .ins C s.heap.objs.size []) (t' := s.toks) (fun b u q => Heap.get?_push_of_some _ q) (Nat.le_of_eq (Heap.size_push _ _)) ?_
 have ne : s.heap.objs.size ≠ s.heap.objs.size + 1 := Nat.ne_of_lt (Nat.lt_succ_self _)
 refine ⟨by rw [upd_ne ne, upd_same], Nat.zero_le _, ne, e2, fun _ => none, (Heap.Ns1.of_empty e3).at fun o q => Heap.get?_push_of_some _ q, fun _ => True.intro, fun y hy => absurd rfl hy⟩
theorem attr_of {prog : Program} {w : World} {env : Env} {e : Expr} {f : Str} {pos : Pos} {s : Shared} {Q : Value → Shared → Prop} (hb : attributeBase e f env (eval e env) = eval e env)
  (h : wpAny (model prog w) A (eval e env) (fun o s₁ => wpAny (model prog w) A (getAttr o f true) Q E s₁) E s) : wpAny (model prog w) A (eval (.Attribute e f pos) env) Q E s :=
 Attribute_any_ h (by rw [arm_eval_Attribute, hb])
end
def tFld (K : PySem.W.Frag) (ta : TE) (f : Str) : TE := fun σ H Q => ta σ H fun x H1 => ∃ a C dx fs v, x = .ref a ∧ H1 a = some (.ins C dx fs) ∧ Cls K C ∧ NoAttr K C f ∧ fs.lookup f = some v ∧ Q v H1
def sFld (K : PySem.W.Frag) (ta tv : TE) (f : Str) : TS := fun D σ H => tv σ H fun y H1 => ta σ H1 fun x H2 => ∃ a C dx fs, x = .ref a ∧ H2 a = some (.ins C dx fs) ∧ Cls K C ∧ NoAttr K C f ∧ fs.length < 1000 ∧
 D.nx σ (upd H2 a (.ins C dx (putF f y fs)))
section
variable {X : Cx} {o e value : Expr} {f : Str} {pos pos' tpos : Pos} {ta tv : TE}
theorem pe_fld (he : PE X e ta) (hb : attributeBase e f X.env (eval e X.env) = eval e X.env) : PE X (.Attribute e f pos) (tFld X.K ta f) := by
 intro pins s σ H Q I h
 refine attr_of hb (thn (he pins s σ H _ I h) fun u s1 ⟨x, H1, I1, rx, a, C, dx, fs, v, ex, ea, c, n, l, q⟩ => ?_)
 subst ex
 obtain rfl : u = Value.ref a := rx
 exact getattr_ok I1 ea c n l fun u' s2 I2 ru => ⟨v, H1, I2, ru, q⟩
theorem ps_fld (ha : PE X o ta) (hv : PE X value tv) (hs : swapsWith value (some (.Attribute o f pos')) pos.line X.env = pure false) : PS X (.Assign [.Attribute o f pos'] value pos) (sFld X.K ta tv f) := by
 intro pins s σ H D I h
 refine plainObj_wpAny_Assign_Attribute (thn (hv pins s σ H _ I h) fun u s1 ⟨y, H1, I1, ry, q⟩ => thn (ha pins s1 σ H1 _ I1 q) fun ov s2 ⟨x, H2, I2, rx, a, C, dx, fs, ex, ea, c, n, l, q2⟩ => ?_) hs
 subst ex
 obtain rfl : ov = Value.ref a := rx
 exact setattr_ok I2 ea c n l ry fun s3 I3 => ⟨σ, _, I3, q2⟩
theorem methcall_of {pl : Sem Bool} {m : Str} {apos : Pos} {args : List Expr} {pins : List (Addr × Obj)} {s : Shared} {σ : St} {H : Hp} {Q : Value → Shared → Prop} {te : TE} (he : PE X e te) (I : Inv X pins σ H s)
  (h : te σ H fun x H1 => ∃ a C dx fs g, x = .ref a ∧ H1 a = some (.ins C dx fs) ∧ Cls X.K C ∧ Meth X.K C m g ∧ fs.lookup m = none ∧
   ∀ s1, Inv X pins σ H1 s1 → wpAny (model X.prog X.w) X.A (callWith pos (.ref g) [.ref a] (backTo pos (starEach args X.env)) (backToKw pos (keywordEach [] X.env))) Q X.xe s1)
  (ht : eval (.Call (.Attribute e m apos) args [] pos) X.env = (do
   let ov ← eval e X.env
   standAt apos.atName
   let (f, first) ← holding [ov] (getMethod ov m pl)
   callWith pos f first (backTo pos (starEach args X.env)) (backToKw pos (keywordEach [] X.env)))) :
  wpAny (model X.prog X.w) X.A (eval (.Call (.Attribute e m apos) args [] pos) X.env) Q X.xe s := by
 refine PySem.W.methodCall_KW (pl := pl) (thn (he pins s σ H _ I h) fun u s1 ⟨x, H1, I1, rx, a, C, dx, fs, g, ex, ea, c, k, l, q⟩ => ?_) ht
 subst ex
 obtain rfl : u = Value.ref a := rx
 exact getmeth_ok I1 ea c k l (q s1 I1)
end
end L2
namespace L2
open PySem PySem.Spec PyProof.Rows
structure Room (k : Nat) (A : Around) : Prop where
 hd : A.handled = none
 dp : A.depth + 3 * k + 5 < recursionLimit
 un : A.units + 16 * k + 200 < cLine
theorem Room.mono {j k : Nat} {A : Around} (r : Room k A) (h : j ≤ k) : Room j A := ⟨r.hd, by have := r.dp; omega, by have := r.un; omega⟩
theorem Room.deeper {k : Nat} {A : Around} (r : Room (k + 1) A) (env : Env) : Room k (A.deeper env) :=
 ⟨r.hd, by have := r.dp; show A.depth + 1 + 3 * k + 5 < _; omega, by have := r.un; show A.units + 3 + 16 * k + 200 < _; omega⟩
theorem make_depth {A : Around} {C : Addr} {us : List Value} {kw : List (Str × Value)} : (A.under (.builtin "type.__call__" ⟨.ref C :: us, kw⟩)).depth = A.depth + 1 := by
 first | rfl | simp [Around.under, Code.weight, Code.isCreation, Code.isGuard, Code.isCaller, Code.frames, Code.isFrame, guardIds]
theorem make_units {A : Around} {C : Addr} {us : List Value} {kw : List (Str × Value)} : (A.under (.builtin "type.__call__" ⟨.ref C :: us, kw⟩)).units = A.units + 1 := by
 first | rfl | simp [Around.under, Code.cUnits, Code.frames, Code.isFrame]
theorem Room.make {k : Nat} {A : Around} (r : Room (k + 1) A) (C : Addr) (us : List Value) (kw : List (Str × Value)) : Room k (A.under (.builtin "type.__call__" ⟨.ref C :: us, kw⟩)) :=
 ⟨r.hd, by have := r.dp; rw [make_depth]; omega, by have := r.un; rw [make_units]; omega⟩
theorem Room.depth {k : Nat} {A : Around} (r : Room k A) : A.depth < recursionLimit := by have := r.dp; omega
theorem Room.units {k : Nat} {A : Around} (r : Room k A) : A.units + 64 < cLine := by have := r.un; omega
def tNil : TA := fun _ H Q => Q [] H
def tCons (ta : TE) (tr : TA) : TA := fun σ H Q => ta σ H fun x H1 => tr σ H1 fun xs H2 => Q (x :: xs) H2
section
variable {X : Cx} {e : Expr} {es : List Expr} {te : TE} {t : TA} {pos : Pos}
theorem pa_nil : PA X [] tNil := fun _ _ _ _ H Q I h => Calls.spliced_nil ⟨[], H, I, .nil, h⟩
theorem pa_cons (ha : PE X e te) (hr : PA X es t) (hs : starEach (e :: es) X.env = (false, eval e X.env) :: starEach es X.env := by rfl) : PA X (e :: es) (tCons te t) := by
 intro pos pins s σ H Q I h
 rw [hs]
 show wpAny _ _ (spliced ((false, eval e X.env) :: backTo pos (starEach es X.env))) _ _ s
 refine Calls.spliced_cons (thn (ha pins s σ H _ I h) fun u s1 ⟨x, H1, I1, r1, q1⟩ => ?_)
 exact thn (hr pos pins s1 σ H1 _ I1 q1) fun us s2 ⟨xs, H2, I2, r2, q2⟩ => ⟨x :: xs, H2, I2, .cons r1 r2, q2⟩
def tTup (t : TA) : TE := fun σ H Q => t σ H fun xs H1 => xs.length ≤ sizeLine ∧ ∀ p, H1 p = none → Q (.ref p) (upd H1 p (.tup xs))
def tLst (t : TA) : TE := fun σ H Q => t σ H fun xs H1 => xs.length ≤ sizeLine ∧ ∀ p, H1 p = none → Q (.ref p) (upd H1 p (.lst xs))
theorem pe_tup {x1} (h : PA X es t) : PE X (.Tuple es x1 pos) (tTup t) := by
 intro pins s σ H Q I hq
 refine wpAny_Tuple_spliced (thn (h pos pins s σ H _ I hq) fun us s1 ⟨xs, H1, I1, r, z, q⟩ => ⟨by rw [← r.length]; exact z, ?_⟩)
 have hf : H1 s1.heap.objs.size = none := I1.hok.fresh (Nat.le_refl _)
 refine ⟨.ref s1.heap.objs.size, upd H1 s1.heap.objs.size (.tup xs), I1.laid (t' := s1.toks) (fun b u e => Heap.get?_push_of_some _ e) (Nat.le_refl _) ?_, rfl, q _ hf⟩
 exact ⟨z, us, r, ⟨_, Heap.get?_push_size _ rfl, rfl, _, rfl⟩⟩
theorem pe_lst (h : PA X es t) : PE X (.List es pos) (tLst t) := by
 intro pins s σ H Q I hq
 refine wpAny_List_spliced (thn (h pos pins s σ H _ I hq) fun us s1 ⟨xs, H1, I1, r, z, q⟩ => ⟨by rw [← r.length]; exact z, ?_⟩)
 have hf : H1 s1.heap.objs.size = none := I1.hok.fresh (Nat.le_refl _)
 refine ⟨.ref s1.heap.objs.size, upd H1 s1.heap.objs.size (.lst xs), I1.laid (t' := s1.toks) (fun b u e => Heap.get?_push_of_some _ e) (Nat.le_refl _) ?_, rfl, q _ hf⟩
 exact ⟨z, us, 0, r, Heap.get?_push_size _ rfl⟩
end
abbrev Sp := List V → Hp → VK → XK → Prop
abbrev CXT := List Env → Hp → Shared → XK → Value → Shared → Prop
structure Env0 (P : Program) (w : World) (K : PySem.W.Frag) (mg : Str → Option Value) (base : Heap) (A : Around) (outer : List Env) (s : Shared) (H : Hp) : Prop where
 frames : A.frames = some outer
 mod : Mod K mg base
 bs : ∀ b o, base.get? b = some o → s.heap.get? b = some o ∧ H b = none
 bsz : base.objs.size ≤ s.heap.objs.size
 funs : s.heap.FunFrames base outer
 frf : ∀ b ∈ frs outer, H b = none
 hok : HOk P w H s.heap
 bare : AllBare s.gens
def CE (outer : List Env) (P : Program) (w : World) (H : Hp) (s : Shared) (Q : VK) (u : Value) (s' : Shared) : Prop :=
 ∃ v H', s'.os = s.os ∧ AllBare s'.gens ∧ Un (frs outer) [] H H' s.heap s'.heap ∧ HOk P w H' s'.heap ∧ RelV v u ∧ Q v H'
def CR (CX : CXT) (outer : List Env) (P : Program) (w : World) (H : Hp) (s : Shared) (Q : VK) (E : XK) (r : Result) (s' : Shared) : Prop :=
 match r with
 | .ok (.ret u) => CE outer P w H s Q u s'
 | .ok _ => False
 | .error e => CX outer H s E e s'
structure FnOk (P : Program) (w : World) (K : PySem.W.Frag) (mg : Str → Option Value) (base : Heap) (CX : CXT) (k : Nat) (f : Addr) (fd : FuncData) (ps : List Str) (sp : Sp) : Prop where
 len : ∀ vs H Q E, sp vs H Q E → vs.length = ps.length
 run : ∀ (A : Around) (outer : List Env) (s : Shared) (H : Hp) (args : Args) (us : List Value) (vs : List V) (Q : VK) (E : XK), Room k A → Env0 P w K mg base A outer s H → BindsTo s fd args (ps.zip us) → Vals vs us → sp vs H Q E →
  codeAny (model P w) A (.call (.ref f) args) (CR CX outer P w H s Q E) s
theorem FnOk.mono {P : Program} {w : World} {K : PySem.W.Frag} {mg : Str → Option Value} {base : Heap} {CX : CXT} {j k : Nat} {f : Addr} {fd : FuncData} {ps : List Str} {sp : Sp} (F : FnOk P w K mg base CX j f fd ps sp) (h : j ≤ k) :
  FnOk P w K mg base CX k f fd ps sp := ⟨F.len, fun A outer s H args us vs Q E hr => F.run A outer s H args us vs Q E (hr.mono h)⟩
theorem Env0.make {P : Program} {w : World} {K : PySem.W.Frag} {mg : Str → Option Value} {base : Heap} {A : Around} {outer : List Env} {s : Shared} {H : Hp} (e : Env0 P w K mg base A outer s H) (C : Addr) (us : List Value) (kw : List (Str × Value)) :
  Env0 P w K mg base (A.under (.builtin "type.__call__" ⟨.ref C :: us, kw⟩)) outer s H := ⟨by first | exact e.frames | (simpa [Around.under, Code.envs, Code.isFrame, pushEnvs] using e.frames), e.mod, e.bs, e.bsz, e.funs, e.frf, e.hok, e.bare⟩
section
variable {X : Cx} {pins : List (Addr × Obj)} {σ : St} {H : Hp} {s s' : Shared}
theorem Inv.env0 (I : Inv X pins σ H s) : Env0 X.prog X.w X.K X.mg X.base X.A X.stack s H :=
 ⟨I.ok.frames, I.ok.mod, I.bs, Nat.le_trans I.ok.bsz I.sz, I.stack, I.stkFree, I.hok, I.bare⟩
theorem Inv.after {Q : VK} {u : Value} (I : Inv X pins σ H s) (h : CE X.stack X.prog X.w H s Q u s') : EP X pins σ Q u s' := by
 obtain ⟨v, H', os, bare, un, hok, r, q⟩ := h
 obtain ⟨hh, g, d, t, os'⟩ := s'
 obtain rfl : os' = s.os := os
 exact ⟨v, H', I.call (h' := hh) (g' := g) (d' := d) (t' := t) (ch := []) un hok bare (fun b z => absurd z (by simp)), r, q⟩
end
def tCall (sp : Sp) (dvs : List V) (E : XK) (t : TA) : TE := fun σ H Q => t σ H fun vs H1 => sp (vs ++ dvs) H1 Q E
def tMeth (C : Addr) (m : Str) (sp : Sp) (dvs : List V) (E : XK) (ta : TE) (t : TA) : TE := fun σ H Q => ta σ H fun x H1 => ∃ a dx fs, x = .ref a ∧ H1 a = some (.ins C dx fs) ∧ fs.lookup m = none ∧
 t σ H1 fun vs H2 => sp (x :: (vs ++ dvs)) H2 Q E
def tMake (C : Addr) (sp : Sp) (dvs : List V) (E : XK) (t : TA) : TE := fun σ H Q => t σ H fun vs H1 => ∀ x dx, H1 x = none → H1 dx = none → dx ≠ x →
 sp (.ref x :: (vs ++ dvs)) (upd (upd H1 dx (.own x)) x (.ins C dx [])) (fun v H2 => v = .non ∧ Q (.ref x) H2) E
def Binds (K : PySem.W.Frag) (fd : FuncData) (ps : List Str) (ds : List Value) : Prop :=
 ∀ (s : Shared) (us : List Value), K.In s.heap → (us ++ ds).length = ps.length → BindsTo s fd ⟨us, []⟩ (ps.zip (us ++ ds))
theorem Binds.all {K : PySem.W.Frag} {fd : FuncData} {ps : List Str} (h : ∀ us : List Value, us.length = ps.length → bindArgs fd ⟨us, []⟩ = pure (ps.zip us)) : Binds K fd ps [] := fun s us _ hl => by
 rw [List.append_nil] at hl ⊢
 exact .of_eq (h us hl)
def Passes (CX : CXT) (X : Cx) (E : XK) : Prop := ∀ (pins : List (Addr × Obj)) (σ : St) (H : Hp) (s : Shared) (e : Value) (s' : Shared), Inv X pins σ H s → CX X.stack H s E e s' → X.xe e s'
section
variable {X : Cx} {CX : CXT} {k : Nat} {f C : Addr} {fd : FuncData} {ps : List Str} {sp : Sp} {dvs : List V} {ds : List Value} {E : XK} {x m : Str} {p pos apos : Pos} {e o : Expr} {es : List Expr} {ta : TE} {t : TA}
theorem run_fn {pins : List (Addr × Obj)} {σ : St} {H : Hp} {s : Shared} {Q : VK} {us : List Value} {vs : List V} (F : FnOk X.prog X.w X.K X.mg X.base CX k f fd ps sp) (hr : Room k X.A) (hb : Binds X.K fd ps ds) (hd : Vals dvs ds) (hx : Passes CX X E)
  (I : Inv X pins σ H s) (r : Vals vs us) (h : sp (vs ++ dvs) H Q E) : wpAny (model X.prog X.w) X.A (call (.ref f) us) (EP X pins σ Q) X.xe s := by
 have r2 : Vals (vs ++ dvs) (us ++ ds) := r.append hd
 have hl : (us ++ ds).length = ps.length := by rw [← r2.length]; exact F.len _ _ _ _ h
 refine wpAny_call (codeAny_mono (F.run X.A X.stack s H ⟨us, []⟩ (us ++ ds) (vs ++ dvs) Q E hr I.env0 (hb s us I.kIn hl) r2 h) fun r s' hq => ?_)
 cases r with
 | error e => exact hx pins σ H s e s' I hq
 | ok fl =>
  cases fl with
  | ret u => exact I.after hq
  | next => exact False.elim hq
  | brk => exact False.elim hq
  | cont => exact False.elim hq
theorem pe_call (F : FnOk X.prog X.w X.K X.mg X.base CX k f fd ps sp) (hr : Room k X.A) (hg : Gl X x) (hm : X.mg x = some (.ref f)) (hk : PySem.W.keepIn X.K (.ref f) = true) (hb : Binds X.K fd ps ds) (hd : Vals dvs ds) (hx : Passes CX X E)
  (ha : PA X (e :: es) t) (hdb : (x == ("__debug__" : Str)) = false := by decide) (he : starEach (e :: es) X.env = (false, eval e X.env) :: starEach es X.env := by rfl) (hpl : (backTo pos (starEach es X.env)).any (·.1) = false := by rfl) :
  PE X (.Call (.Name x p) (e :: es) [] pos) (tCall sp dvs E t) := by
 intro pins s σ H Q I h
 refine wpAny_Call_Name_kw (ld_glob I hg hm ?_ hdb)
 refine PySem.W.callWith_K (h₀ := X.base) I.ok.mod.kin hk (thn (ha pos pins s σ H _ I h) fun us s1 ⟨vs, H1, I1, r, q⟩ => ⟨I1.kIn, ?_⟩) he hpl
 exact run_fn F hr hb hd hx I1 r q
theorem pe_call0 (F : FnOk X.prog X.w X.K X.mg X.base CX k f fd ps sp) (hr : Room k X.A) (hg : Gl X x) (hm : X.mg x = some (.ref f)) (hk : PySem.W.keepIn X.K (.ref f) = true) (hb : Binds X.K fd ps ds) (hd : Vals dvs ds) (hx : Passes CX X E)
  (hdb : (x == ("__debug__" : Str)) = false := by decide) : PE X (.Call (.Name x p) [] [] pos) (tCall sp dvs E tNil) := by
 intro pins s σ H Q I h
 refine wpAny_Call_Name_kw (ld_glob I hg hm ?_ hdb)
 exact PySem.W.callWith_K0 I.kIn hk (run_fn (us := []) F hr hb hd hx I .nil h)
theorem pe_meth {pl : Sem Bool} (he : PE X o ta) (c : Cls X.K C) (hm : Meth X.K C m f) (F : FnOk X.prog X.w X.K X.mg X.base CX k f fd ps sp) (hr : Room k X.A) (hb : Binds X.K fd ps ds) (hd : Vals dvs ds) (hx : Passes CX X E) (ha : PA X (e :: es) t)
  (hst : starEach (e :: es) X.env = (false, eval e X.env) :: starEach es X.env := by rfl) (hpl : (backTo pos (starEach es X.env)).any (·.1) = false := by rfl)
  (ht : eval (.Call (.Attribute o m apos) (e :: es) [] pos) X.env = (do
   let ov ← eval o X.env
   standAt apos.atName
   let (f, first) ← holding [ov] (getMethod ov m pl)
   callWith pos f first (backTo pos (starEach (e :: es) X.env)) (backToKw pos (keywordEach [] X.env))) := by rfl) :
  PE X (.Call (.Attribute o m apos) (e :: es) [] pos) (tMeth C m sp dvs E ta t) := by
 intro pins s σ H Q I h
 refine PySem.W.methodCall_KW (pl := pl) (thn (he pins s σ H _ I h) fun u s1 ⟨x, H1, I1, rx, a, dx, fs, ex, ea, l, q⟩ => ?_) ht
 subst ex
 obtain rfl : u = Value.ref a := rx
 refine getmeth_ok I1 ea c hm l ?_
 refine PySem.W.callWith_K (first := [.ref a]) (h₀ := X.base) I.ok.mod.kin hm.kp (thn (ha pos pins s1 σ H1 _ I1 q) fun us s2 ⟨vs, H2, I2, r, q2⟩ => ⟨I2.kIn, ?_⟩) hst hpl
 exact run_fn (us := .ref a :: us) (vs := .ref a :: vs) F hr hb hd hx I2 (.cons rfl r) q2
theorem pe_meth0 {pl : Sem Bool} (he : PE X o ta) (c : Cls X.K C) (hm : Meth X.K C m f) (F : FnOk X.prog X.w X.K X.mg X.base CX k f fd ps sp) (hr : Room k X.A) (hb : Binds X.K fd ps ds) (hd : Vals dvs ds) (hx : Passes CX X E)
  (ht : eval (.Call (.Attribute o m apos) [] [] pos) X.env = (do
   let ov ← eval o X.env
   standAt apos.atName
   let (f, first) ← holding [ov] (getMethod ov m pl)
   callWith pos f first (backTo pos (starEach [] X.env)) (backToKw pos (keywordEach [] X.env))) := by rfl) :
  PE X (.Call (.Attribute o m apos) [] [] pos) (tMeth C m sp dvs E ta tNil) := by
 intro pins s σ H Q I h
 refine PySem.W.methodCall_KW (pl := pl) (thn (he pins s σ H _ I h) fun u s1 ⟨x, H1, I1, rx, a, dx, fs, ex, ea, l, q⟩ => ?_) ht
 subst ex
 obtain rfl : u = Value.ref a := rx
 refine getmeth_ok I1 ea c hm l ?_
 exact PySem.W.callWith_K0 (first := [.ref a]) I1.kIn hm.kp (run_fn (us := [.ref a]) (vs := [.ref a]) F hr hb hd hx I1 (.cons rfl .nil) q)
structure Mk (K : PySem.W.Frag) (C f : Addr) : Prop where
 makes : PySem.W.makesIn K C = true
 init : PySem.W.findIn K (.ref C) "__init__" = some (some (.ref f))
 fn : PySem.W.isFn K (.ref f) = true
 kp : PySem.W.keepIn K (.ref C) = true
theorem run_make {pins : List (Addr × Obj)} {σ : St} {H : Hp} {s : Shared} {Q : VK} {us : List Value} {vs : List V} (M : Mk X.K C f) (F : FnOk X.prog X.w X.K X.mg X.base CX k f fd ps sp) (hr : Room (k + 1) X.A) (hb : Binds X.K fd ps ds) (hd : Vals dvs ds)
  (hx : Passes CX X E) (I : Inv X pins σ H s) (r : Vals vs us)
  (h : ∀ x dx, H x = none → H dx = none → dx ≠ x → sp (.ref x :: (vs ++ dvs)) (upd (upd H dx (.own x)) x (.ins C dx [])) (fun v H2 => v = .non ∧ Q (.ref x) H2) E) :
  wpAny (model X.prog X.w) X.A (call (.ref C) us) (EP X pins σ Q) X.xe s := by
 have hq := h (s.heap.objs.size + 1) s.heap.objs.size (I.hok.fresh (Nat.le_succ _)) (I.hok.fresh (Nat.le_refl _)) (Nat.ne_of_lt (Nat.lt_succ_self _))
 have I2 := Inv.made (C := C) I
 have r2 : Vals (V.ref (s.heap.objs.size + 1) :: (vs ++ dvs)) (Value.ref (s.heap.objs.size + 1) :: (us ++ ds)) := .cons rfl (r.append hd)
 have hl : (Value.ref (s.heap.objs.size + 1) :: us ++ ds).length = ps.length := by
  have e := r2.length
  rw [F.len _ _ _ _ hq] at e
  exact e.symm
 refine wpAny_call (make_map (f := f) I.kIn M.makes M.init (beq_iff_eq.mp M.fn) (codeAny_mono (F.run _ X.stack _ _ ⟨Value.ref (s.heap.objs.size + 1) :: us, []⟩ (Value.ref (s.heap.objs.size + 1) :: (us ++ ds)) _ _ E (hr.make C us [])
  (I2.env0.make C us []) (hb _ (Value.ref (s.heap.objs.size + 1) :: us) I2.kIn hl) r2 hq) fun r s' hq' => ?_))
 cases r with
 | error e => exact hx pins σ _ _ e s' I2 hq'
 | ok fl =>
  cases fl with
  | ret u =>
   obtain ⟨v, H', I3, rv, ev, q3⟩ := I2.after hq'
   subst ev
   exact ⟨rv, ⟨V.ref (s.heap.objs.size + 1), H', I3, rfl, q3⟩⟩
  | next => exact False.elim hq'
  | brk => exact False.elim hq'
  | cont => exact False.elim hq'
theorem pe_make (M : Mk X.K C f) (F : FnOk X.prog X.w X.K X.mg X.base CX k f fd ps sp) (hr : Room (k + 1) X.A) (hg : Gl X x) (hm : X.mg x = some (.ref C)) (hb : Binds X.K fd ps ds) (hd : Vals dvs ds) (hx : Passes CX X E)
  (ha : PA X (e :: es) t) (hdb : (x == ("__debug__" : Str)) = false := by decide) (he : starEach (e :: es) X.env = (false, eval e X.env) :: starEach es X.env := by rfl) (hpl : (backTo pos (starEach es X.env)).any (·.1) = false := by rfl) :
  PE X (.Call (.Name x p) (e :: es) [] pos) (tMake C sp dvs E t) := by
 intro pins s σ H Q I h
 refine wpAny_Call_Name_kw (ld_glob I hg hm ?_ hdb)
 refine PySem.W.callWith_K (h₀ := X.base) I.ok.mod.kin M.kp (thn (ha pos pins s σ H _ I h) fun us s1 ⟨vs, H1, I1, r, q⟩ => ⟨I1.kIn, ?_⟩) he hpl
 exact run_make M F hr hb hd hx I1 r q
theorem pe_make0 (M : Mk X.K C f) (F : FnOk X.prog X.w X.K X.mg X.base CX k f fd ps sp) (hr : Room (k + 1) X.A) (hg : Gl X x) (hm : X.mg x = some (.ref C)) (hb : Binds X.K fd ps ds) (hd : Vals dvs ds) (hx : Passes CX X E)
  (hdb : (x == ("__debug__" : Str)) = false := by decide) : PE X (.Call (.Name x p) [] [] pos) (tMake C sp dvs E tNil) := by
 intro pins s σ H Q I h
 refine wpAny_Call_Name_kw (ld_glob I hg hm ?_ hdb)
 exact PySem.W.callWith_K0 I.kIn M.kp (run_make (us := []) M F hr hb hd hx I .nil h)
end
structure FnScope (N P : List Str) (sc : Scope) : Prop where
 kind : sc.kind = .function
 co : sc.isCoroutine = false
 gen : sc.isGenerator = false
 nd : N.Nodup
 pre : N.take P.length = P
 par : ∀ x ∈ P, sc.names.lookup x = some .local ∨ sc.names.lookup x = some .cell
 nofree : ∀ y ∈ sc.names, y.2 ≠ .free
theorem bindL_out {kindOf : Str → Option NameKind} {x : Str} : ∀ {binds : List (Str × Value)} {m : Str → Option Value}, (∀ v, (x, v) ∉ binds) → bindL kindOf binds m x = m x
 | [], _, _ => rfl
 | (n, v) :: r, m, h => by
  unfold bindL
  rw [bindL_out fun w hw => h w (List.mem_cons_of_mem _ hw)]
  split
  ·have : x ≠ n := by rintro rfl; exact h v List.mem_cons_self
   simp [this]
  ·rfl
theorem bindC_out {kindOf : Str → Option NameKind} {x : Str} : ∀ {binds : List (Str × Value)} {m : Str → Option Value}, (∀ v, (x, v) ∉ binds) → bindC kindOf binds m x = m x
 | [], _, _ => rfl
 | (n, v) :: r, m, h => by
  unfold bindC
  rw [bindC_out fun w hw => h w (List.mem_cons_of_mem _ hw)]
  split
  ·rfl
  ·have : x ≠ n := by rintro rfl; exact h v List.mem_cons_self
   simp [this]
theorem bindL_get {kindOf : Str → Option NameKind} {x : Str} {v : Value} : ∀ {P : List Str} {vs : List Value} {i : Nat} {m : Str → Option Value}, P.Nodup → P[i]? = some x → vs[i]? = some v → kindOf x = some .local →
  bindL kindOf (P.zip vs) m x = some v
 | [], _, _, _, _, h, _, _ => by simp at h
 | _ :: _, [], _, _, _, _, h, _ => by simp at h
 | p :: P, w :: vs, 0, m, nd, h1, h2, hk => by
  simp at h1 h2; subst h1; subst h2
  show bindL kindOf ((p, w) :: P.zip vs) m p = _
  unfold bindL
  rw [bindL_out fun v hv => (List.nodup_cons.mp nd).1 (List.of_mem_zip hv).1, if_pos hk]
  simp
 | p :: P, w :: vs, i + 1, m, nd, h1, h2, hk => by
  show bindL kindOf ((p, w) :: P.zip vs) m x = _
  unfold bindL
  exact bindL_get (i := i) (List.nodup_cons.mp nd).2 (by simpa using h1) (by simpa using h2) hk
theorem bindC_get {kindOf : Str → Option NameKind} {x : Str} {v : Value} : ∀ {P : List Str} {vs : List Value} {i : Nat} {m : Str → Option Value}, P.Nodup → P[i]? = some x → vs[i]? = some v → kindOf x ≠ some .local →
  bindC kindOf (P.zip vs) m x = some v
 | [], _, _, _, _, h, _, _ => by simp at h
 | _ :: _, [], _, _, _, _, h, _ => by simp at h
 | p :: P, w :: vs, 0, m, nd, h1, h2, hk => by
  simp at h1 h2; subst h1; subst h2
  show bindC kindOf ((p, w) :: P.zip vs) m p = _
  unfold bindC
  rw [bindC_out fun v hv => (List.nodup_cons.mp nd).1 (List.of_mem_zip hv).1, if_neg hk]
  simp
 | p :: P, w :: vs, i + 1, m, nd, h1, h2, hk => by
  show bindC kindOf ((p, w) :: P.zip vs) m x = _
  unfold bindC
  exact bindC_get (i := i) (List.nodup_cons.mp nd).2 (by simpa using h1) (by simpa using h2) hk
def start (N : List Str) (vs : List V) : St := vs.map some ++ List.replicate (N.length - vs.length) none
def cxOf (CX : CXT) (P : Program) (w : World) (K : PySem.W.Frag) (mg : Str → Option Value) (base : Heap) (N : List Str) (qual : Str) (scope : Scope) (f : Addr) (cd : Value) (A : Around) (outer : List Env) (s : Shared) (H : Hp) (E : XK) : Cx where
 prog := P
 w := w
 K := K
 mg := mg
 base := base
 A := A.deeper (envOfC qual scope s.heap.objs.size f cd)
 N := N
 s_0 := s
 H_0 := H
 env := envOfC qual scope s.heap.objs.size f cd
 outer := outer
 stack := envOfC qual scope s.heap.objs.size f cd :: outer
 ex := []
 calm := true
 fn := fun _ => true
 pn := []
 xe := fun e s' => wpAny (model P w) (A.deeper (envOfC qual scope s.heap.objs.size f cd)) (leaving (envOfC qual scope s.heap.objs.size f cd) e) (fun _ s'' => CX outer H s E e s'') (fun e' s'' => CX outer H s E e' s'') s'
theorem cell_has {sc : Scope} {n : Nat} {x : Str} (h : sc.names.lookup x = some .cell) : ∃ c, (cellsFrom n sc.names []).lookup x = some c := by
 have q := PySem.W.cellsFrom_some sc.names n [] (.inl h)
 exact Option.isSome_iff_exists.mp q
theorem inv_start {CX : CXT} {P : Program} {w : World} {K : PySem.W.Frag} {mg : Str → Option Value} {base : Heap} {N ps : List Str} {qual : Str} {scope : Scope} {f : Addr} {cd : Value} {A : Around} {outer : List Env} {s s1 : Shared} {H : Hp} {E : XK} {us : List Value} {vs : List V}
  (S : FnScope N ps scope) (hd : A.handled = none) (e0 : Env0 P w K mg base A outer s H) (hl : vs.length = ps.length) (r : Vals vs us)
  (x : InCallC s s.heap.objs.size (bindL (envOfC qual scope s.heap.objs.size f cd).kindOf (ps.zip us) fun _ => none) (cellsFrom (s.heap.objs.size + 1) scope.names []) (bindC (envOfC qual scope s.heap.objs.size f cd).kindOf (ps.zip us) fun _ => none) s1) :
  Inv (cxOf CX P w K mg base N qual scope f cd A outer s H E) [] (start N vs) H s1 := by
 have hpl : ps.length ≤ N.length := by have := congrArg List.length S.pre; rw [List.length_take] at this; omega
 obtain ⟨h1, tk, rfl, hk⟩ := x.done
 have noA : ∀ b : Addr, b ∉ (cxOf CX P w K mg base N qual scope f cd A outer s H E).ex := fun b z => absurd (show b ∈ ([] : List Addr) from z) (by simp)
 refine ⟨⟨e0.mod, S.kind, rfl, rfl, Nat.le_refl _, fun y z c h1 h2 => ?_, fun y hy => ?_, fun y c _ h => ?_, fun _ => hd, Around.frames_deeper e0.frames, .inr ⟨rfl, rfl⟩, fun b z => absurd z (noA b), e0.bs, e0.bsz, fun b _ _ => noA b, fun b z => absurd z (noA b), e0.funs, e0.frf⟩,
  rfl, e0.bare, Un.kept hk, ⟨_, x.toInCall.ns, fun i y v h1 h2 h3 => ?_⟩, fun y c h => ⟨_, x.cell y c h⟩, e0.hok.fresh (Nat.le_refl _), fun y c h => ?_, fun p hp => absurd (show p ∈ ([] : List (Addr × Obj)) from hp) (by simp), e0.hok.kept hk, ?_⟩
 ·exact name_of_addr x.apart (PySem.mem_of_lookup h1) (PySem.mem_of_lookup h2)
 ·have hy : scope.names.lookup y = some .cell ∨ scope.names.lookup y = some .free := hy
  rcases hy with hy | hy
  ·exact cell_has hy
  ·exact absurd rfl (S.nofree _ (PySem.mem_of_lookup hy))
 ·exact Nat.le_of_lt (x.above y c (PySem.mem_of_lookup h))
 ·have hi : i < vs.length := by
   unfold start at h2
   by_cases hi : i < vs.length
   ·exact hi
   ·rw [List.getElem?_append_right (by simpa using hi)] at h2
    rw [List.getElem?_replicate] at h2
    split at h2 <;> cases h2
  have ha : vs[i]? = some v := by
   unfold start at h2
   rw [List.getElem?_append_left (by simpa using hi), List.getElem?_map] at h2
   cases e : vs[i]? with
   | none => rw [e] at h2; cases h2
   | some a => rw [e] at h2; cases h2; rfl
  obtain ⟨u, hu, rv⟩ := r.get ha
  have hp : ps[i]? = some y := by
   rw [← S.pre, List.getElem?_take_of_lt (by omega)]; exact h1
  have ndP : ps.Nodup := by rw [← S.pre]; exact S.nd.sublist (List.take_sublist _ _)
  refine ⟨u, rv, ?_⟩
  rcases S.par y (List.mem_of_getElem? hp) with k | k
  ·exact .inl ⟨k, bindL_get ndP hp hu k⟩
  ·obtain ⟨c, e⟩ := cell_has (n := s.heap.objs.size + 1) k
   refine .inr ⟨.inl k, c, e, ?_⟩
   have q := x.cell y c e
   rw [bindC_get ndP hp hu (by show scope.names.lookup y ≠ _; rw [k]; decide)] at q
   exact q
 ·exact e0.hok.fresh (Nat.le_of_lt (x.above y c (PySem.mem_of_lookup h)))
 ·unfold start
  show _ = N.length
  rw [List.length_append, List.length_map, List.length_replicate]
  omega
theorem fn_of {CX : CXT} {P : Program} {w : World} {K : PySem.W.Frag} {mg : Str → Option Value} {base : Heap} {k : Nat} {f : Addr} {name qual : Str} {params : Arguments} {body : List Stmt} {scope : Scope} {dV kV doc pm cdv ct oc : Value} {an od : Option Addr}
  {osl : Array (Option Value)} {N ps : List Str} {sp : Sp} (lk : K.lookup f = some ⟨oc, od, .func (PySem.W.fnOf name qual params body scope dV kV doc pm an cdv ct), osl⟩) (hcd : PySem.W.codeIn K cdv qual = true) (S : FnScope N ps scope)
  (len : ∀ vs H Q E, sp vs H Q E → vs.length = ps.length)
  (hbody : ∀ (A : Around) (outer : List Env) (s : Shared) (H : Hp) (vs : List V) (Q : VK) (E : XK), Room k (A.deeper (envOfC qual scope s.heap.objs.size f cdv)) → sp vs H Q E →
   ∃ t, PSs (cxOf CX P w K mg base N qual scope f cdv A outer s H E) body t ∧ t { nx := fun _ H' => Q .non H', rt := Q } (start N vs) H) :
  FnOk P w K mg base CX (k + 1) f (PySem.W.fnOf name qual params body scope dV kV doc pm an cdv ct) ps sp := by
 refine ⟨len, fun A outer s H args us vs Q E hr e0 hb r hsp => ?_⟩
 have hl := len _ _ _ _ hsp
 have KX : K.In s.heap := e0.mod.kin.keeps fun b o e => (e0.bs b o e).1
 have lim : s.heap.NoLimit := e0.mod.nolimit.keeps fun b o e => (e0.bs b o e).1
 have hkind : ∀ y ∈ ps.zip us, scope.names.lookup y.1 = some .local ∨ (scope.names.lookup y.1 = some .cell ∧ ((cellsFrom (s.heap.objs.size + 1) scope.names []).lookup y.1).isSome = true) := fun ⟨n, v⟩ hy => by
  rcases S.par n (List.of_mem_zip hy).1 with q | q
  ·exact .inl q
  ·exact .inr ⟨q, PySem.W.cellsFrom_some _ _ _ (.inl q)⟩
 refine codeAny_call_function hr.depth (KX _ _ lk) rfl S.co S.gen rfl (PySem.W.codeRec_of KX hcd) (hb _ _ _ _ ?_)
 refine wpAny_newFunctionEnv_cells S.kind hkind fun env he s1 x => ?_
 subst he
 refine ⟨lim.keeps x.toInCall.keep, codeAny_func ?_⟩
 obtain ⟨t, ht, hq⟩ := hbody A outer s H vs Q E (hr.deeper _) hsp
 have I : Inv (cxOf CX P w K mg base N qual scope f cdv A outer s H E) [] (start N vs) H s1 := inv_start S hr.hd e0 hl r x
 refine wpAny_mono (ht [] s1 (start N vs) H _ I hq) (fun fl s' hs => ?_) fun e s' hs => hs
 have fin : ∀ {σ' : St} {H' : Hp} {v : V} {u : Value}, Inv (cxOf CX P w K mg base N qual scope f cdv A outer s H E) [] σ' H' s' → RelV v u → Q v H' → CE outer P w H s Q u s' :=
  fun {σ' H' v u} J rv q => ⟨v, H', J.os, J.bare, J.base, J.hok, rv, q⟩
 cases fl with
 | ret u =>
  obtain ⟨v, σ', H', J, rv, q⟩ := hs
  exact fin J rv q
 | next =>
  obtain ⟨σ', H', J, q⟩ := hs
  exact fin (v := V.non) (u := Value.none) J rfl q
 | brk =>
  obtain ⟨_, _, _, q⟩ := hs
  exact False.elim q
 | cont =>
  obtain ⟨_, _, _, q⟩ := hs
  exact False.elim q
end L2
namespace L2
open PySem PySem.Spec PyProof.Rows
section
variable {X : Cx} {x : Str} {p pos : Pos} {e : Expr} {es : List Expr} {t : TA} {id T : String} {r : List V → Hp → VK → Prop}
def tCB (r : List V → Hp → VK → Prop) (t : TA) : TE := fun σ H Q => t σ H fun vs H1 => r vs H1 Q
theorem pe_callB (hc : CallR X (.builtin id) r) (hg : Gl X x) (hm : X.mg x = none) (hv : bootBuiltins x = some (.builtin id)) (ha : PA X (e :: es) t) (hn : x ≠ "__name__" := by decide) (hdb : (x == ("__debug__" : Str)) = false := by decide)
  (he : starEach (e :: es) X.env = (false, eval e X.env) :: starEach es X.env := by rfl) (hpl : (backTo pos (starEach es X.env)).any (·.1) = false := by rfl) : PE X (.Call (.Name x p) (e :: es) [] pos) (tCB r t) := by
 intro pins s σ H Q I h
 refine wpAny_Call_Name_kw (ld_blt I hg hm hv ?_ hn hdb)
 exact PyProof.Rows.callWith_builtin1 (thn (ha pos pins s σ H _ I h) fun us s1 ⟨vs, H1, I1, r1, q1⟩ => hc pins s1 σ H1 vs us Q I1 r1 q1) he hpl
theorem pe_callTy (hc : CallR X (.type T) r) (hg : Gl X x) (hm : X.mg x = none) (hv : bootBuiltins x = some (.type T)) (ha : PA X (e :: es) t) (hn : x ≠ "__name__" := by decide) (hdb : (x == ("__debug__" : Str)) = false := by decide)
  (he : starEach (e :: es) X.env = (false, eval e X.env) :: starEach es X.env := by rfl) (hpl : (backTo pos (starEach es X.env)).any (·.1) = false := by rfl) : PE X (.Call (.Name x p) (e :: es) [] pos) (tCB r t) := by
 intro pins s σ H Q I h
 refine wpAny_Call_Name_kw (ld_blt I hg hm hv ?_ hn hdb)
 exact PyProof.Rows.callWith_type1 (thn (ha pos pins s σ H _ I h) fun us s1 ⟨vs, H1, I1, r1, q1⟩ => hc pins s1 σ H1 vs us Q I1 r1 q1) he hpl
end
end L2
namespace HT
open PySem PyProof.Rows
section
variable {prog : Program} {w : World} {A : Around} {E : Value → Shared → Prop} {s : Shared}
theorem cat_tup {t b : Addr} {vs ws : List Value} {Q : Value → Shared → Prop} (ht : IsTup s.heap t vs.toArray) (hb : IsTup s.heap b ws.toArray) (hv : vs ≠ [])
  (h1 : ws = [] → Q (.ref t) s) (h2 : ws ≠ [] → Q (.ref s.heap.objs.size) { s with heap := s.heap.push { cls := .type "tuple", data := .seq (vs ++ ws).toArray } })
  (hsz : vs.length + ws.length ≤ sizeLine) : wpAny (model prog w) A (binaryOp .Add (.ref t) (.ref b)) Q E s := by
 obtain ⟨⟨cls, dd, data, sl⟩, ho, hc, n, hd⟩ := id ht
 obtain ⟨⟨cls2, dd2, data2, sl2⟩, ho2, hc2, n2, hd2⟩ := id hb
 simp only at hc hd hc2 hd2
 subst hc hd hc2 hd2
 have e : vs.toArray ++ ws.toArray = (vs ++ ws).toArray := by simp
 by_cases hw : ws = []
 ·exact concat_meets ⟨_, ho, rfl⟩ ⟨_, ho2, rfl⟩ noFill_tuple_add seq_tuple_add PySem.F.slot_tuple_add PySem.F.entry_tuple_add (PySem.F.args_tuple_add_2 _ _)
   (tuple_addW1 t b vs.toArray ws.toArray n n2 dd dd2 sl sl2 (by simpa using hv) (by simp [hw])) ⟨ho, ho2, h1 hw⟩
 ·refine concat_meets ⟨_, ho, rfl⟩ ⟨_, ho2, rfl⟩ noFill_tuple_add seq_tuple_add PySem.F.slot_tuple_add PySem.F.entry_tuple_add (PySem.F.args_tuple_add_2 _ _)
   (tuple_addW2 t b vs.toArray ws.toArray n n2 dd dd2 sl sl2 (by simpa using hv) (by simpa using hw) (by rw [List.size_toArray, List.size_toArray]; exact hsz)) ⟨ho, ho2, ?_⟩
  rw [e]
  exact h2 hw
def sIx (n d : Nat) : Option Int → Nat
 | none => d
 | some v => if v < 0 then (v + (n : Int)).toNat else min v.toNat n
theorem sIx_none (n d : Nat) : sIx n d none = d := rfl
theorem sIx_nat (n d k : Nat) : sIx n d (some (k : Int)) = min k n := by
 show (if (k : Int) < 0 then ((k : Int) + (n : Int)).toNat else min (k : Int).toNat n) = min k n
 rw [if_neg (by omega), Int.toNat_natCast]
theorem sIx_le (n d : Nat) (hd : d ≤ n) (o : Option Int) : sIx n d o ≤ n := by
 cases o with
 | none => exact hd
 | some v =>
  show (if v < 0 then (v + (n : Int)).toNat else min v.toNat n) ≤ n
  by_cases hv : v < 0
  ·rw [if_pos hv]; omega
  ·rw [if_neg hv]; exact Nat.min_le_right _ _
end
end HT
namespace L2
open PySem PySem.Spec PyProof.Rows
abbrev TO := St → Hp → (Option Int → Hp → Prop) → Prop
def PO (X : Cx) (e : Option Expr) (t : TO) : Prop :=
 ∀ (pins : List (Addr × Obj)) (s : Shared) (σ : St) (H : Hp) (Q : Option Int → Hp → Prop), Inv X pins σ H s → t σ H Q →
  wpAny (model X.prog X.w) X.A (evalPart e X.env) (fun u s' => ∃ o H', Inv X pins σ H' s' ∧ IsPart u o ∧ Q o H') X.xe s
def tNoPart : TO := fun _ H Q => Q none H
def tPart (t : TE) : TO := fun σ H Q => t σ H fun x H1 => ∃ i, x = .int i ∧ Q (some i) H1
section
variable {X : Cx} {e : Expr} {te : TE} {lo hi : Option Expr} {tl th : TO} {pos p2 : Pos}
theorem po_none : PO X none tNoPart := by
 intro pins s σ H Q I h
 rw [evalPart_none]
 exact wpAny_pure ⟨none, H, I, .none, h⟩
theorem po_some (h : PE X e te) : PO X (some e) (tPart te) := by
 intro pins s σ H Q I hw
 rw [evalPart_some]
 refine thn (h pins s σ H _ I hw) fun u s1 ⟨x, H1, I1, r1, q1⟩ => ?_
 obtain ⟨i, rfl, q⟩ := q1
 obtain ⟨t, rfl⟩ := r1
 exact ⟨some i, H1, I1, .int i t, q⟩
def SlR (X : Cx) (r : V → Option Int → Option Int → Hp → VK → Prop) : Prop :=
 ∀ (pins : List (Addr × Obj)) (s : Shared) (σ : St) (H : Hp) (x : V) (v vl vu : Value) (lo hi : Option Int) (sl : Addr) (Q : VK), Inv X pins σ H s → RelV x v → s.heap.IsSliceOf sl vl vu .none → IsPart vl lo → IsPart vu hi → r x lo hi H Q →
  ∃ T id, typeLookup (.type T) "__getitem__" = pure (some (.builtin id)) ∧ s.TypeIs v T ∧ wpAny (model X.prog X.w) X.A (getItem v (.ref sl)) (EP X pins σ Q) X.xe s
def tSl (r : V → Option Int → Option Int → Hp → VK → Prop) (te : TE) (tl th : TO) : TE := fun σ H Q => te σ H fun x H1 => tl σ H1 fun l H2 => th σ H2 fun u H3 => r x l u H3 Q
theorem pe_slice {r : V → Option Int → Option Int → Hp → VK → Prop} (hr : SlR X r) (he : PE X e te) (hl : PO X lo tl) (hu : PO X hi th) : PE X (.Subscript e (.Slice lo hi none p2) pos) (tSl r te tl th) := by
 intro pins s σ H Q I h
 refine Subscript_ (thn (he pins s σ H _ I h) fun v s1 ⟨x, H1, I1, r1, q1⟩ => ?_)
 refine wpAny_Slice (thn (hl pins s1 σ H1 _ I1 q1) fun vl s2 ⟨l, H2, I2, pl, q2⟩ => thn (hu pins s2 σ H2 _ I2 q2) fun vu s3 ⟨u, H3, I3, pu, q3⟩ => ?_)
 rw [evalPart_none]
 refine wpAny_pure ?_
 have I4 : Inv X pins σ H3 { s3 with heap := s3.heap.push { cls := .type "slice", data := .fields #[vl, vu, .none] } } := I3.kept (t' := s3.toks) fun b ob q => Heap.get?_push_of_some _ q
 obtain ⟨T, id, hT, ht, hg⟩ := hr pins { s3 with heap := s3.heap.push { cls := .type "slice", data := .fields #[vl, vu, .none] } } σ H3 x v vl vu l u s3.heap.objs.size Q I4 r1 (Heap.IsSliceOf.new ..) pl pu q3
 show wpAny (model X.prog X.w) X.A (subscriptTail e (.Slice lo hi none p2) v (.ref s3.heap.objs.size)) (EP X pins σ Q) X.xe { s3 with heap := s3.heap.push { cls := .type "slice", data := .fields #[vl, vu, .none] } }
 exact tail_any (ops := [.ref s3.heap.objs.size, v]) ht hT hg (by with_unfolding_all rfl)
def cutV (xs : List V) (lo hi : Option Int) : List V := (xs.drop (HT.sIx xs.length 0 lo)).take (HT.sIx xs.length xs.length hi - HT.sIx xs.length 0 lo)
theorem cutV_length (xs : List V) (lo hi : Option Int) : (cutV xs lo hi).length ≤ xs.length := by
 unfold cutV
 rw [List.length_take, List.length_drop]
 omega
def rCatT (K : PySem.W.Frag) : R2 := fun x y H Q => ∃ a b xs ys, x = .ref a ∧ y = .ref b ∧ SqT K H a xs ∧ SqT K H b ys ∧ xs ≠ [] ∧ xs.length + ys.length ≤ sizeLine ∧
 (ys = [] → Q (.ref a) H) ∧ (ys ≠ [] → ∀ p, H p = none → Q (.ref p) (upd H p (.tup (xs ++ ys))))
theorem Vals.nil_iff {xs : List V} {us : List Value} (r : Vals xs us) : us = [] ↔ xs = [] := by
 cases r with
 | nil => simp
 | cons _ _ => simp
theorem op_catT : OpR X (binaryOp .Add) (rCatT X.K) := by
 intro pins s σ H x y v u Q I rx ry h
 obtain ⟨a, b, xs, ys, rfl, rfl, ha, hb, hx, hz, q1, q2⟩ := h
 cases rx
 cases ry
 obtain ⟨its, r1, p1, _⟩ := I.tuple ha
 obtain ⟨its2, r2, p2, _⟩ := I.tuple hb
 refine HT.cat_tup p1 p2 (fun z => hx (r1.nil_iff.mp z)) (fun z => ⟨.ref a, H, I, rfl, q1 (r2.nil_iff.mp z)⟩) (fun z => ?_) (by rw [← r1.length, ← r2.length]; exact hz)
 refine ⟨.ref s.heap.objs.size, _, I.laid (t' := s.toks) (o := .tup (xs ++ ys)) (fun b ob q => Heap.get?_push_of_some _ q) (Nat.le_refl _) ?_, rfl, q2 (fun w => z (r2.nil_iff.mpr w)) _ (I.hok.fresh (Nat.le_refl _))⟩
 exact ⟨by rw [List.length_append]; exact hz, _, r1.append r2, IsTup.new _ _⟩
end
end L2
namespace L2
open PySem PySem.Spec PyProof.Rows
def ixN (n : Nat) (i : Int) : Option Nat := if 0 ≤ i then (if i < n then some i.toNat else none) else if -(n : Int) ≤ i then some (i + n).toNat else none
def atI {α : Type} (xs : List α) (i : Int) : Option α := (ixN xs.length i).bind fun j => xs[j]?
theorem ixN_seq {n : Nat} {i : Int} {j : Nat} (h : ixN n i = some j) : seqIndex? i n = some j ∧ j < n ∧ -(n : Int) ≤ i ∧ i < n := by
 unfold ixN at h
 by_cases h0 : 0 ≤ i
 ·rw [if_pos h0] at h
  by_cases h1 : i < n
  ·rw [if_pos h1] at h
   have e : i.toNat = j := Option.some.inj h
   exact ⟨by rw [seqIndex_of h0 h1, e], by omega, by omega, h1⟩
  ·rw [if_neg h1] at h; cases h
 ·rw [if_neg h0] at h
  by_cases h1 : -(n : Int) ≤ i
  ·rw [if_pos h1] at h
   have e : (i + n).toNat = j := Option.some.inj h
   exact ⟨by rw [seqIndex_neg (by omega) h1, e], by omega, h1, by omega⟩
  ·rw [if_neg h1] at h; cases h
theorem atI_get {α : Type} {xs : List α} {i : Int} {v : α} (h : atI xs i = some v) : ∃ j, seqIndex? i xs.length = some j ∧ xs[j]? = some v ∧ j < xs.length ∧ -(xs.length : Int) ≤ i ∧ i < xs.length := by
 unfold atI at h
 cases e : ixN xs.length i with
 | none => rw [e] at h; cases h
 | some j =>
  rw [e] at h
  obtain ⟨h1, h2, h3, h4⟩ := ixN_seq e
  exact ⟨j, h1, h, h2, h3, h4⟩
theorem atI_nat {α : Type} {xs : List α} {j : Nat} {v : α} (h : xs[j]? = some v) : atI xs (j : Int) = some v := by
 have hj : j < xs.length := (List.getElem?_eq_some_iff.mp h).1
 have e : ixN xs.length (j : Int) = some j := by
  unfold ixN
  rw [if_pos (by omega), if_pos (by omega)]; simp
 unfold atI; rw [e]; exact h
def PlainIx (b : Expr) : Prop := ∀ o i, subscripted b false o i = operate [o, i] (getItem o i)
def IxR (X : Cx) (r : R2) : Prop :=
 ∀ (value slice : Expr) (pins : List (Addr × Obj)) (s : Shared) (σ : St) (H : Hp) (x y : V) (v u : Value) (Q : VK), Inv X pins σ H s → RelV x v → RelV y u → r x y H Q →
  subscripted slice false v u = operate [v, u] (getItem v u) → wpAny (model X.prog X.w) X.A (subscriptTail value slice v u) (EP X pins σ Q) X.xe s
def MtR (X : Cx) (id : String) (r : V → List V → Hp → VK → Prop) : Prop :=
 ∀ (pins : List (Addr × Obj)) (s : Shared) (σ : St) (H : Hp) (x : V) (xs : List V) (v : Value) (us : List Value) (Q : VK), Inv X pins σ H s → RelV x v → Vals xs us → r x xs H Q →
  wpAny (model X.prog X.w) X.A (call (.builtin id) (v :: us)) (EP X pins σ Q) X.xe s
section
variable {X : Cx} {a b : Expr} {ta tb : TE} {pos : Pos}
theorem pe_ix {r : R2} (hr : IxR X r) (ha : PE X a ta) (hb : PE X b tb) (hs : PlainIx b) : PE X (.Subscript a b pos) (tOp r ta tb) := by
 intro pins s σ H Q I h
 exact Subscript_ (binT ha hb I h fun v u s2 x y H2 I2 rx ry q => hr a b pins s2 σ H2 x y v u Q I2 rx ry q (hs _ _))
def rIxL (K : PySem.W.Frag) : R2 := fun x y H Q => ∃ p xs i v, x = .ref p ∧ y = .int i ∧ SqL K H p xs ∧ atI xs i = some v ∧ Q v H
def rIxT (K : PySem.W.Frag) : R2 := fun x y H Q => ∃ p xs i v, x = .ref p ∧ y = .int i ∧ SqT K H p xs ∧ atI xs i = some v ∧ Q v H
theorem ix_list : IxR X (rIxL X.K) := by
 intro value slice pins s σ H x y v u Q I rx ry h hs
 obtain ⟨p, xs, i, z, rfl, rfl, hq, he, q⟩ := h
 cases rx
 obtain ⟨t, rfl⟩ := ry
 obtain ⟨its, r, pl, hz⟩ := I.list hq
 obtain ⟨j, h1, h2, h3, h4, h5⟩ := atI_get he
 obtain ⟨w, ew, rw'⟩ := r.get h2
 have hl := r.length
 have hn := line63
 have fin : EP X pins σ Q w s := ⟨z, H, I, rw', q⟩
 by_cases h0 : 0 ≤ i
 ·have hj : i.toNat = j := by
   rw [seqIndex_of h0 h5] at h1
   exact Option.some.inj h1
  exact item_listR pl.isList h0 (by omega) (by rw [hj]; simpa using ew) fin hs
 ·have hj : (i + (its.toArray.size : Int)).toNat = j := by
   rw [seqIndex_neg (by omega) h4] at h1
   rw [List.size_toArray, ← hl]
   exact Option.some.inj h1
  exact subscriptTail_builtinR (x := w) pl.isList.typeIs slot_list_getitem.lookup
   (wpAny_getItem_list_neg (Q := fun r s' => r = w ∧ EP X pins σ Q r s') pl.isList (by omega) (by rw [List.size_toArray] <;> omega) (by omega) (by rw [hj]; simpa using ew) ⟨rfl, fin⟩) hs
theorem ix_tup : IxR X (rIxT X.K) := by
 intro value slice pins s σ H x y v u Q I rx ry h hs
 obtain ⟨p, xs, i, z, rfl, rfl, hq, he, q⟩ := h
 cases rx
 obtain ⟨t, rfl⟩ := ry
 obtain ⟨its, r, pl, hz⟩ := I.tuple hq
 obtain ⟨j, h1, h2, h3, h4, h5⟩ := atI_get he
 obtain ⟨w, ew, rw'⟩ := r.get h2
 have hl := r.length
 have hn := line63
 have fin : EP X pins σ Q w s := ⟨z, H, I, rw', q⟩
 exact subscriptTail_builtinR (x := w) pl.typeIs slot_tuple_getitem.lookup
  (getItem_tuple (j := j) (Q := fun r s' => r = w ∧ EP X pins σ Q r s') pl (by omega) (by omega) (by rw [List.size_toArray, ← hl]; exact h1) (by simpa using ew) ⟨rfl, fin⟩) hs
theorem slice_bounds (lo hi : Option Int) (n : Nat) : (sliceBounds lo hi none n).1 = ((HT.sIx n 0 lo : Nat) : Int) ∧ (sliceBounds lo hi none n).2.1 = ((HT.sIx n n hi : Nat) : Int) ∧ (sliceBounds lo hi none n).2.2 = 1 := by
 refine ⟨?_, ?_, rfl⟩
 ·cases lo with
  | none => simp [sliceBounds, HT.sIx]
  | some i =>
   simp only [sliceBounds, HT.sIx, Option.getD_none, show (1 : Int) > 0 by decide, if_true]
   by_cases h : i < 0
   ·simp only [h, if_true] <;> omega
   ·simp only [h, if_false] <;> omega
 ·cases hi with
  | none => simp [sliceBounds, HT.sIx]
  | some i =>
   simp only [sliceBounds, HT.sIx, Option.getD_none, show (1 : Int) > 0 by decide, if_true]
   by_cases h : i < 0
   ·simp only [h, if_true] <;> omega
   ·simp only [h, if_false] <;> omega
theorem slicePick_cut (its : List Value) (lo hi : Option Int) : slicePick its.toArray lo hi none = ((its.drop (HT.sIx its.length 0 lo)).take (HT.sIx its.length its.length hi - HT.sIx its.length 0 lo)).toArray := by
 obtain ⟨h1, h2, h3⟩ := slice_bounds lo hi its.toArray.size
 unfold slicePick
 rw [h1, h2, h3]
 simp only [sliceRange_one, pick_run, List.size_toArray] <;> rfl
def rSlL (K : PySem.W.Frag) : V → Option Int → Option Int → Hp → VK → Prop := fun x lo hi H Q => ∃ a xs, x = .ref a ∧ SqL K H a xs ∧ ∀ p, H p = none → Q (.ref p) (upd H p (.lst (cutV xs lo hi)))
theorem sl_list : SlR X (rSlL X.K) := by
 intro pins s σ H x v vl vu lo hi sl Q I rx hs pl pu h
 obtain ⟨a, xs, rfl, hx, q⟩ := h
 cases rx
 obtain ⟨its, r, ht, hz⟩ := I.list hx
 have hlen := r.length
 refine ⟨"list", _, slot_list_getitem.lookup, ht.isList.typeIs, ?_⟩
 refine wpAny_getItem_list_slice ht.isList hs pl pu .none (by simp) ?_ (by rw [List.size_toArray] <;> omega)
 rw [slicePick_cut, ← hlen]
 refine ⟨.ref s.heap.objs.size, _, I.laid (t' := s.toks) (o := .lst (cutV xs lo hi)) (fun b ob q => Heap.get?_push_of_some _ q) (Nat.le_refl _) ?_, rfl, q _ (I.hok.fresh (Nat.le_refl _))⟩
 exact ⟨Nat.le_trans (cutV_length xs lo hi) hz, _, 0, (r.drop (HT.sIx xs.length 0 lo)).take (HT.sIx xs.length xs.length hi - HT.sIx xs.length 0 lo), Heap.get?_push_size _ rfl⟩
theorem call_len_seq : CallR X (.builtin "len") (fun xs H Q => ∃ p ys, xs = [.ref p] ∧ (SqL X.K H p ys ∨ SqT X.K H p ys) ∧ Q (.int ys.length) H) := by
 intro pins s σ H xs us Q I r h
 obtain ⟨p, ys, rfl, hq, q⟩ := h
 obtain ⟨u, rfl, rx⟩ := vals1 r
 cases rx
 have hn := line63
 rcases hq with hq | hq
 ·obtain ⟨its, r', pl, hz⟩ := I.list hq
  have hlen := r'.length
  exact Calls.call_len_list pl.isList (by simp only [List.size_toArray] <;> omega) ⟨.int ys.length, H, I.tok _, ⟨s.toks + 1, by rw [List.size_toArray, hlen]⟩, q⟩
 ·obtain ⟨its, r', pl, hz⟩ := I.tuple hq
  have hlen := r'.length
  exact len_tuple pl (by simp only [List.size_toArray] <;> omega) ⟨.int ys.length, H, I.tok _, ⟨s.toks + 1, by rw [List.size_toArray, hlen]⟩, q⟩
theorem call_list_of : CallR X (.type "list") (fun xs H Q => ∃ p ys, xs = [.ref p] ∧ (SqL X.K H p ys ∨ SqT X.K H p ys) ∧ ∀ l, H l = none → Q (.ref l) (upd H l (.lst ys))) := by
 intro pins s σ H xs us Q I r h
 obtain ⟨p, ys, rfl, hq, q⟩ := h
 obtain ⟨u, rfl, rx⟩ := vals1 r
 cases rx
 have fin : ∀ (its : List Value), Vals ys its → ys.length ≤ sizeLine → ∀ (h' : Heap) (c' : Nat), (∀ b o', s.heap.get? b = some o' → h'.get? b = some o') →
   h'.get? s.heap.objs.size = some { cls := .type "list", dict := none, data := .seq its.toArray c', slots := #[] } → EP X pins σ Q (.ref s.heap.objs.size) { s with heap := h' } := fun its r' hz h' c' kp e =>
  ⟨.ref s.heap.objs.size, _, I.laid (t' := s.toks) kp (Nat.le_refl _) (show ObjOk X.prog X.w _ h' _ (.lst ys) from ⟨hz, its, c', r', e⟩), rfl, q _ (I.hok.fresh (Nat.le_refl _))⟩
 rcases hq with hq | hq
 ·obtain ⟨its, r', pl, hz⟩ := I.list hq
  have hlen := r'.length
  obtain ⟨o, ho, hc, n, hd⟩ := pl.isList
  exact call_list_seq p (.inl rfl) ho hc hd (fun h' c' kp e => fin its r' hz h' c' kp e) (by simp only [List.size_toArray] <;> omega)
 ·obtain ⟨its, r', pl, hz⟩ := I.tuple hq
  have hlen := r'.length
  obtain ⟨o, ho, hc, n, hd⟩ := pl
  exact call_list_seq p (.inr rfl) ho hc hd (fun h' c' kp e => fin its r' hz h' c' kp e) (by simp only [List.size_toArray] <;> omega)
theorem call_tuple_of : CallR X (.type "tuple") (fun xs H Q => ∃ p ys, xs = [.ref p] ∧ ((SqL X.K H p ys ∧ ∀ l, H l = none → Q (.ref l) (upd H l (.tup ys))) ∨ (SqT X.K H p ys ∧ Q (.ref p) H))) := by
 intro pins s σ H xs us Q I r h
 obtain ⟨p, ys, rfl, h⟩ := h
 obtain ⟨u, rfl, rx⟩ := vals1 r
 cases rx
 rcases h with ⟨hq, q⟩ | ⟨hq, q⟩
 ·obtain ⟨its, r', pl, hz⟩ := I.list hq
  have hlen := r'.length
  refine call_tuple_list pl.isList (fun h' kp => ?_) (by simp only [List.size_toArray] <;> omega)
  have I1 : Inv X pins σ H { s with heap := h' } := I.kept (t' := s.toks) kp
  have I2 : Inv X pins σ (upd H h'.objs.size (.tup ys)) { s with heap := h'.push { cls := .type "tuple", data := .seq its.toArray } } :=
   I1.laid (t' := s.toks) (fun b o e => Heap.get?_push_of_some _ e) (Nat.le_refl _) (show ObjOk X.prog X.w _ _ _ (.tup ys) from ⟨hz, its, r', IsTup.new _ _⟩)
  exact ⟨.ref h'.objs.size, _, I2, rfl, q _ (I1.hok.fresh (Nat.le_refl _))⟩
 ·obtain ⟨its, r', pl, hz⟩ := I.tuple hq
  exact call_tuple_same pl ⟨.ref p, H, I, rfl, q⟩
def tyV (K : PySem.W.Frag) (T : String) (x : V) (H : Hp) : Prop := match x with
 | .str _ => T = "str"
 | .int _ => T = "int"
 | .ref p => (T = "list" ∧ ∃ xs, SqL K H p xs) ∨ (T = "tuple" ∧ ∃ o, K.lookup p = some o ∧ o.cls = .type "tuple" ∧ o.dict = none) ∨
   (T = "dict" ∧ ((∃ kvs, H p = some (.dK kvs)) ∨ ∃ kvs, H p = some (.dT kvs))) ∨ (T = "set" ∧ ∃ S n, H p = some (.set S n))
 | _ => False
theorem tyV_is {pins : List (Addr × Obj)} {σ : St} {H : Hp} {s : Shared} {T : String} {x : V} {v : Value} (I : Inv X pins σ H s) (r : RelV x v) (ty : tyV X.K T x H) :
  s.TypeIs v T ∧ ∀ a, v = .ref a → ∃ ob, s.heap.get? a = some ob ∧ ob.dict = none := by
 cases x with
 | str z =>
  obtain ⟨t, rfl⟩ := r
  cases (show T = "str" from ty)
  exact ⟨typeIs_str s z t, fun _ e => nomatch e⟩
 | int i =>
  obtain ⟨t, rfl⟩ := r
  cases (show T = "int" from ty)
  exact ⟨typeIs_int s i t, fun _ e => nomatch e⟩
 | ref p =>
  cases r
  rcases ty with ⟨rfl, xs, hq⟩ | ⟨rfl, o, hk, hc, hd⟩ | ⟨rfl, hk⟩ | ⟨rfl, S, n, hk⟩
  ·obtain ⟨its, _, pl, _⟩ := I.list hq
   refine ⟨pl.isList.typeIs, fun a e => ?_⟩
   cases e
   obtain ⟨o, n, e, c, hd, _⟩ := pl
   exact ⟨o, e, hd⟩
  ·refine ⟨⟨o, I.kIn p o hk, hc⟩, fun a e => ?_⟩
   cases e
   exact ⟨o, I.kIn _ o hk, hd⟩
  ·have z : ∃ o, s.heap.get? p = some o ∧ o.ExactDict := by
    rcases hk with ⟨kvs, hk⟩ | ⟨kvs, hk⟩
    ·obtain ⟨_, _, _, _, o, _, _, e, ex, _⟩ := I.hok p _ hk
     exact ⟨o, e, ex⟩
    ·obtain ⟨_, _, _, _, o, _, _, e, ex, _⟩ := I.hok p _ hk
     exact ⟨o, e, ex⟩
   obtain ⟨o, e, ex⟩ := z
   refine ⟨⟨o, e, ex.1⟩, fun a e2 => ?_⟩
   cases e2
   exact ⟨o, e, ex.2.1⟩
  ·obtain ⟨o, _, _, _, e, ex, _⟩ := I.hok p _ hk
   refine ⟨⟨o, e, ex.1⟩, fun a e2 => ?_⟩
   cases e2
   exact ⟨o, e, ex.2.1⟩
 | _ => exact False.elim ty
def tBM0 (K : PySem.W.Frag) (T : String) (r : V → List V → Hp → VK → Prop) (to : TE) : TE := fun σ H Q => to σ H fun x H1 => tyV K T x H1 ∧ r x [] H1 Q
def tBM (K : PySem.W.Frag) (T : String) (r : V → List V → Hp → VK → Prop) (to : TE) (t : TA) : TE := fun σ H Q => to σ H fun x H1 => tyV K T x H1 ∧ t σ H1 fun xs H2 => r x xs H2 Q
variable {o e : Expr} {es : List Expr} {to : TE} {t : TA} {name : Str} {apos cpos : Pos} {T id : String} {r : V → List V → Hp → VK → Prop}
theorem pe_bm (pa : PlainAttrs T) (slot : Slot T name id) (hty : typeOf (.builtin id) = pure (.type "method_descriptor")) (hm : MtR X id r) (ho : PE X o to) (ha : PA X (e :: es) t)
  (hbase : attributeBase o name X.env (eval o X.env) = eval o X.env := by rfl)
  (hfew : ((backTo cpos (starEach (e :: es) X.env)).all (fun x => !x.1) && (backToKw cpos (keywordEach [] X.env)).all (fun x => x.1.isSome)
   && decide ((e :: es).length + ([] : List Keyword).length + (if ([] : List Keyword).isEmpty then 0 else 1) < 30)) = true := by rfl)
  (hline : (apos.endLine == cpos.line) = true := by rfl) (hs : starEach (e :: es) X.env = (false, eval e X.env) :: starEach es X.env := by rfl) (hplain : (backTo cpos (starEach es X.env)).any (·.1) = false := by rfl) :
  PE X (.Call (.Attribute o name apos) (e :: es) [] cpos) (tBM X.K T r to t) := by
 intro pins s σ H Q I h
 refine wpAny_Call_method_late hbase hfew hline rfl (thn (ho pins s σ H _ I h) fun v s1 ⟨x, H1, I1, r1, ty, q1⟩ => ?_)
 obtain ⟨h1, h2⟩ := tyV_is I1 r1 ty
 refine ⟨T, id, pa, slot, hty, h1, h2, ?_⟩
 have hA := ha cpos pins s1 σ H1 _ I1 q1
 rw [hs] at hA ⊢
 refine Calls.callWith_builtin (by show (false || (backTo cpos (starEach es X.env)).any (·.1)) = false; rw [hplain] <;> rfl) (Calls.evalArgs_plain ?_)
 exact thn hA fun us s2 ⟨vs, H2, I2, r2, q2⟩ => hm pins s2 σ H2 x vs v us Q I2 r1 r2 q2
end
end L2
namespace L2
open PySem PySem.Spec PyProof.Rows
def MtM (X : Cx) (id : String) (r : V → List V → Hp → VK → Prop) : Prop :=
 ∀ (pins : List (Addr × Obj)) (s : Shared) (σ : St) (H : Hp) (x : V) (xs : List V) (v : Value) (us : List Value) (Q : VK), Inv X pins σ H s → RelV x v → Vals xs us → r x xs H Q →
  wpAny (model X.prog X.w) X.A (call (.builtin id) (v :: us)) (EP X pins σ Q) X.xe s
theorem Vals.one : ∀ {x : V} {us : List Value}, Vals [x] us → ∃ u, us = [u] ∧ RelV x u
 | _, _, .cons r .nil => ⟨_, rfl, r⟩
theorem Vals.eraseIdx : ∀ {xs : List V} {us : List Value} (i : Nat), Vals xs us → Vals (xs.eraseIdx i) (us.eraseIdx i)
 | _, _, _, .nil => .nil
 | _, _, 0, .cons _ t => t
 | _, _, i + 1, .cons r t => .cons r (Vals.eraseIdx i t)
theorem len_erase {α : Type} : ∀ (l : List α) (i : Nat), (l.eraseIdx i).length ≤ l.length
 | [], _ => Nat.le_refl _
 | _ :: _, 0 => Nat.le_succ _
 | _ :: r, i + 1 => Nat.succ_le_succ (len_erase r i)
section
variable {X : Cx} {pins : List (Addr × Obj)} {σ : St} {H : Hp} {s : Shared} {l b : Addr} {xs ys zs : List V}
theorem Inv.lset {its its' : List Value} {n : Nat} {f : Array Value → Array Value} {t' : Nat} (I : Inv X pins σ H s) (hH : H l = some (.lst xs))
  (e : s.heap.get? l = some { cls := .type "list", data := .seq its.toArray n }) (hf : f its.toArray = its'.toArray) (hv : Vals ys its') (hz : ys.length ≤ sizeLine) :
  Inv X pins σ (upd H l (.lst ys)) { s with heap := s.heap.update l (Obj.mapSeq f), toks := t' } := by
 have q := PySem.IsL.update e f
 rw [hf] at q
 refine I.write (x := l) (e := l) (by rw [hH]; exact trivial) (.inl rfl) (fun b' u hb hu => (Heap.get?_update_other s.heap (Obj.mapSeq f) (Ne.symm hb)).trans hu) ⟨_, q⟩ ?_
 exact ⟨hz, its', _, hv, q⟩
theorem Inv.lnew {its : List Value} {t' : Nat} (I : Inv X pins σ H s) (hv : Vals ys its) (hz : ys.length ≤ sizeLine) :
  Inv X pins σ (upd H s.heap.objs.size (.lst ys)) { s with heap := s.heap.push { cls := .type "list", data := .seq its.toArray }, toks := t' } :=
 I.laid (fun _ _ q => Heap.get?_push_of_some _ q) (Nat.le_refl _) ⟨hz, its, 0, hv, Heap.get?_push_size _ rfl⟩
theorem Inv.fresh (I : Inv X pins σ H s) : H s.heap.objs.size = none := I.hok.fresh (Nat.le_refl _)
theorem Inv.lstM (I : Inv X pins σ H s) (hH : H l = some (.lst xs)) : xs.length ≤ sizeLine ∧ ∃ (its : List Value) (n : Nat), Vals xs its ∧ xs.length = its.length ∧ s.heap.get? l = some { cls := .type "list", data := .seq its.toArray n } := by
 obtain ⟨z, its, n, r, e⟩ := I.hok l _ hH
 exact ⟨z, its, n, r, r.length, e⟩
theorem notLongL {n : Nat} (h : n ≤ sizeLine) : Builtin.List.listTooLong n = false := by
 unfold Builtin.List.listTooLong
 exact decide_eq_false (by omega)
end
section
variable {X : Cx}
def rAppend : V → List V → Hp → VK → Prop := fun x vs H Q => ∃ l xs y, x = .ref l ∧ vs = [y] ∧ H l = some (.lst xs) ∧ xs.length < sizeLine ∧ Q .non (upd H l (.lst (xs ++ [y])))
theorem mt_append : MtM X "list.append" rAppend := by
 intro pins s σ H x vs v us Q I rx rv h
 obtain ⟨l, xs, y, rfl, rfl, hH, hz, q⟩ := h
 cases rx
 obtain ⟨u, rfl, ru⟩ := rv.one
 obtain ⟨z, its, n, r, hl, e⟩ := I.lstM hH
 refine call_meets F.slot_list_append ⟨_, e, rfl⟩ F.entry_list_append (F.args_list_append_2 _ _) (PySem.list_append l its.toArray n u (by rw [List.size_toArray]; omega)) ⟨e, ?_⟩
 refine ⟨.non, _, I.lset (its' := its ++ [u]) hH e (by simp) (r.append (.cons ru .nil)) ?_, rfl, q⟩
 rw [List.length_append, List.length_singleton]
 omega
def rExtend : V → List V → Hp → VK → Prop := fun x vs H Q => ∃ l b xs zs, x = .ref l ∧ vs = [.ref b] ∧ H l = some (.lst xs) ∧ H b = some (.lst zs) ∧ xs.length + zs.length ≤ sizeLine ∧ Q .non (upd H l (.lst (xs ++ zs)))
theorem mt_extend : MtM X "list.extend" rExtend := by
 intro pins s σ H x vs v us Q I rx rv h
 obtain ⟨l, b, xs, zs, rfl, rfl, hH, hB, hz, q⟩ := h
 cases rx
 obtain ⟨u, rfl, ru⟩ := rv.one
 cases ru
 obtain ⟨z, its, n, r, hl, e⟩ := I.lstM hH
 obtain ⟨z2, its2, n2, r2, hl2, e2⟩ := I.lstM hB
 have hsz : its.toArray.size + its2.toArray.size ≤ sizeLine := by rw [List.size_toArray, List.size_toArray]; omega
 have hlong : ¬ (!its.toArray.isEmpty && Builtin.List.listTooLong (its.toArray.size + its2.toArray.size)) = true := by
  rw [notLongL hsz, Bool.and_false]
  exact Bool.false_ne_true
 refine call_meets F.slot_list_extend ⟨_, e, rfl⟩ F.entry_list_extend (F.args_list_extend_2 _ _)
  (AutoSeq1.list_extend_list_list_0 l its.toArray n b its2.toArray n2 hlong (by rw [List.size_toArray]; omega) (by omega)) ⟨e, e2, ?_⟩
 refine ⟨.non, _, I.lset (its' := its ++ its2) hH e (by simp) (r.append r2) ?_, rfl, q⟩
 rw [List.length_append]
 omega
def rPopAt : V → List V → Hp → VK → Prop := fun x vs H Q => ∃ l xs i k y, x = .ref l ∧ vs = [.int i] ∧ H l = some (.lst xs) ∧ -(2 ^ 63) ≤ i ∧ i < 2 ^ 63 ∧ seqIndex? i xs.length = some k ∧ xs[k]? = some y ∧ Q y (upd H l (.lst (xs.eraseIdx k)))
theorem mt_popAt : MtM X "list.pop" rPopAt := by
 intro pins s σ H x vs v us Q I rx rv h
 obtain ⟨l, xs, i, k, y, rfl, rfl, hH, h1, h2, hk, hy, q⟩ := h
 cases rx
 obtain ⟨u, rfl, ru⟩ := rv.one
 obtain ⟨t, rfl⟩ := ru
 obtain ⟨z, its, n, r, hl, e⟩ := I.lstM hH
 obtain ⟨w, hw, rw'⟩ := r.get hy
 refine call_meets F.slot_list_pop ⟨_, e, rfl⟩ F.entry_list_pop (F.args_list_pop_2 _ _)
  (MeetsSeq.list_pop_at l its.toArray n i t k w (fitsIndex_both h1 h2) (by rw [List.size_toArray, ← hl]; exact hk) (by rw [← Array.getElem?_toList]; exact hw) (by rw [List.size_toArray]; omega)) ⟨e, ?_⟩
 refine ⟨y, _, I.lset (its' := its.eraseIdx k) hH e ?_ (r.eraseIdx k) ?_, rw', q⟩
 ·show its.toArray.eraseIdxIfInBounds k = (its.eraseIdx k).toArray
  rw [List.eraseIdxIfInBounds_toArray]
 ·have := len_erase xs k
  omega
def rCat : R2 := fun x y H Q => ∃ l b xs zs, x = .ref l ∧ y = .ref b ∧ H l = some (.lst xs) ∧ H b = some (.lst zs) ∧ xs.length + zs.length ≤ sizeLine ∧ ∀ p, H p = none → Q (.ref p) (upd H p (.lst (xs ++ zs)))
theorem op_cat : OpR X (binaryOp .Add) rCat := by
 intro pins s σ H x y v u Q I rx ry h
 obtain ⟨l, b, xs, zs, rfl, rfl, hH, hB, hz, q⟩ := h
 cases rx
 cases ry
 obtain ⟨z, its, n, r, hl, e⟩ := I.lstM hH
 obtain ⟨z2, its2, n2, r2, hl2, e2⟩ := I.lstM hB
 refine PySem.P.add_list e e2 ?_ (by rw [List.size_toArray, List.size_toArray]; omega)
 have ea : its.toArray ++ its2.toArray = (its ++ its2).toArray := by simp
 rw [ea]
 exact ⟨.ref _, _, I.lnew (t' := s.toks) (r.append r2) (by rw [List.length_append]; omega), rfl, q _ I.fresh⟩
end
end L2
namespace L2
open PySem PySem.Spec PyProof.Rows
theorem Vals.ints : ∀ {ns : List Int} {us : List Value}, Vals (ns.map V.int) us → IntsAre us ns
 | [], us, h => by
  rw [List.map_nil] at h
  cases h
  exact IntsAre.nil
 | n :: ns, us, h => by
  rw [List.map_cons] at h
  cases h with
  | cons r t =>
   obtain ⟨k, rfl⟩ := r
   exact IntsAre.cons n k (Vals.ints t)
theorem Vals.bls : ∀ {bs : List Bool} {us : List Value}, Vals (bs.map V.bl) us → us = bs.map Value.bool
 | [], us, h => by
  rw [List.map_nil] at h
  cases h
  rfl
 | b :: bs, us, h => by
  rw [List.map_cons] at h
  cases h with
  | cons r t =>
   cases r
   rw [Vals.bls t, List.map_cons]
theorem Vals.ref1 {a : Addr} {us : List Value} (r : Vals [V.ref a] us) : us = [Value.ref a] := by
 cases r with
 | cons r t =>
  cases t
  cases r
  rfl
section
variable {prog : Program} {w : World} {A : Around} {E : Value → Shared → Prop} {s : Shared} {l : Addr} {its : List Value} {ns : List Int} {Q : Value → Shared → Prop}
theorem sum_raw (hh : A.handled = none) (hl : s.heap.IsList l its.toArray) (hi : IntsAre its ns)
  (h : ∀ h' tk t', (∀ b o, s.heap.get? b = some o → h'.get? b = some o) → Q (.int ns.sum t') { s with heap := h', toks := tk }) : wpAny (model prog w) A (call (.builtin "sum") [.ref l]) Q E s := by
 obtain ⟨xs, e⟩ := hi.allInts.items
 have hn : numsOf (intItems xs).toList = ns := by rw [← e]; exact hi.numsOf
 rw [nums_intItems] at hn
 rw [e] at hl
 refine PySem.sum_intListG hh hl fun h' tk t' hk => ?_
 have := h h' tk t' hk
 rw [preSum_eq, List.take_of_length_le (by simp), hn]; exact this
end
section
variable {X : Cx}
def rSum (K : PySem.W.Frag) : List V → Hp → VK → Prop := fun vs H Q => ∃ (a : Addr) (ns : List Int), vs = [V.ref a] ∧ SqL K H a (ns.map V.int) ∧ Q (.int ns.sum) H
theorem cr_sum (hc : X.calm = true) : CallR X (.builtin "sum") (rSum X.K) := by
 intro pins s σ H vs us Q I r h
 obtain ⟨a, ns, rfl, hs, q⟩ := h
 obtain ⟨its, rv, hl, _⟩ := I.list hs
 rw [Vals.ref1 r]
 exact sum_raw (I.ok.hd hc) hl.isList rv.ints fun h' tk t' hk => ⟨.int _, H, I.kept hk, ⟨_, rfl⟩, q⟩
end
theorem iter_any {prog : Program} {w : World} {A : Around} {E : Value → Shared → Prop} {s : Shared} {l : Addr} {items : Array Value} {Q : Value → Shared → Prop} (hl : s.heap.IsList l items)
  (h : ∀ s₂ : Shared, s₂ = { s with heap := s.heap.push { cls := .type "list_iterator", data := .fields #[.ref l, .int 0 0] } } →
   (s₂.heap.IsListIter s.heap.objs.size l 0 ∧ s₂.heap.IsList l items) → l ≠ s.heap.objs.size → Q (.ref s.heap.objs.size) s₂) : wpAny (model prog w) A (pyIter (.ref l)) Q E s := by
 have hlt : l < s.heap.objs.size := by obtain ⟨_, e, _⟩ := hl; exact Heap.lt_size e
 exact wpAny_pyIter_list hl (h _ rfl ⟨⟨_, Heap.get?_push_size _ rfl, rfl, rfl⟩, hl.push _⟩ (Nat.ne_of_lt hlt))
theorem truth_bools {prog : Program} {w : World} {A : Around} {bs : List Bool} {its : List Value} (e : its = bs.map Value.bool) :
  TruthOf prog w A (fun i v => its.toArray[i]? = some v) (fun i => bs.getD i false) := fun i v s Q E hv hq => by
 have hv' : its[i]? = some v := by simpa using hv
 rw [e, List.getElem?_map] at hv'
 obtain ⟨b, hb, rfl⟩ := Option.map_eq_some_iff.mp hv'
 have hg : bs.getD i false = b := by rw [List.getD_eq_getElem?_getD, hb] <;> rfl
 have hq' : Q (bs.getD i false) s := hq
 rw [hg] at hq'
 exact wpAny_truthy_bool hq'
theorem any_range : ∀ bs : List Bool, (List.range bs.length).any (fun i => bs.getD i false) = bs.any id
 | [] => rfl
 | b :: bs => by
  rw [List.length_cons, List.range_succ_eq_map, List.any_cons, List.any_map, List.any_cons, ← any_range bs]
  all_goals rfl
theorem all_range : ∀ bs : List Bool, (List.range bs.length).all (fun i => bs.getD i false) = bs.all id
 | [] => rfl
 | b :: bs => by
  rw [List.length_cons, List.range_succ_eq_map, List.all_cons, List.all_map, List.all_cons, ← all_range bs]
  all_goals rfl
section
variable {X : Cx}
def rAll (K : PySem.W.Frag) : List V → Hp → VK → Prop := fun vs H Q => ∃ (a : Addr) (bs : List Bool), vs = [V.ref a] ∧ SqL K H a (bs.map V.bl) ∧ Q (.bl (bs.all id)) H
theorem cr_all (hc : X.calm = true) : CallR X (.builtin "all") (rAll X.K) := by
 intro pins s σ H vs us Q I r h
 obtain ⟨a, bs, rfl, hs, q⟩ := h
 obtain ⟨its, rv, hl, _⟩ := I.list hs
 rw [Vals.ref1 r]
 have hb := rv.bls
 refine call_all_walk (iter_any hl.isList fun s₂ e2 st hne => ?_)
 subst e2
 refine ⟨_, _, _, _, _, _, _, rfl, Walks.list (A := X.A.in1) (I.ok.hd hc) _ a hne its.toArray, st, truth_bools hb, fun h' tk hk => ?_⟩
 refine ⟨.bl _, H, I.kept fun b o eo => hk b o (fun hmem => ?_) (Heap.get?_push_of_some _ eo), ?_, q⟩
 ·rcases List.mem_cons.mp hmem with e1 | hmem
  ·exact absurd (e1 ▸ Heap.lt_size eo) (Nat.lt_irrefl _)
  ·cases hmem
 ·show Value.bool _ = Value.bool _
  rw [← all_range, hb, List.size_toArray, List.length_map]
end
mutual
inductive Dp (K : PySem.W.Frag) (H : Hp) : V → PyData → Prop
 | non : Dp K H .non .none
 | bl (b : Bool) : Dp K H (.bl b) (.bool b)
 | int (i : Int) : Dp K H (.int i) (.int i)
 | str (x : Str) : Dp K H (.str x) (.str x)
 | lst {a : Addr} {xs : List V} {ds : List PyData} : SqL K H a xs → DpAll K H xs ds → Dp K H (.ref a) (.list ds)
 | tup {a : Addr} {xs : List V} {ds : List PyData} : SqT K H a xs → DpAll K H xs ds → Dp K H (.ref a) (.tuple ds)
inductive DpAll (K : PySem.W.Frag) (H : Hp) : List V → List PyData → Prop
 | nil : DpAll K H [] []
 | cons {v : V} {vs : List V} {d : PyData} {ds : List PyData} : Dp K H v d → DpAll K H vs ds → DpAll K H (v :: vs) (d :: ds)
end
section
variable {X : Cx} {pins : List (Addr × Obj)} {σ : St} {H : Hp} {s : Shared}
mutual
theorem Dp.reads (I : Inv X pins σ H s) : ∀ (d : PyData) (v : V) (u : Value), Dp X.K H v d → RelV v u → ∃ as, Reads s.heap u d as
 | .none, _, _, h, r => by
  cases h
  cases r
  exact ⟨_, Reads.none⟩
 | .bool b, _, _, h, r => by
  cases h
  cases r
  exact ⟨_, Reads.bool b⟩
 | .int i, _, _, h, r => by
  cases h
  obtain ⟨t, rfl⟩ := r
  exact ⟨_, Reads.int i t⟩
 | .str x, _, _, h, r => by
  cases h
  obtain ⟨t, rfl⟩ := r
  exact ⟨_, Reads.str x t⟩
 | .list ds, _, _, h, r => by
  cases h with
  | lst hs ha =>
   cases r
   obtain ⟨its, rv, ⟨o, n, ho, hc, _, hd⟩, _⟩ := I.list hs
   obtain ⟨as, hr⟩ := Dp.readsAll I ds _ its ha rv
   exact ⟨_, Reads.list ho hc hd hr⟩
 | .tuple ds, _, _, h, r => by
  cases h with
  | tup hs ha =>
   cases r
   obtain ⟨its, rv, ⟨o, ho, hc, n, hd⟩, _⟩ := I.tuple hs
   obtain ⟨as, hr⟩ := Dp.readsAll I ds _ its ha rv
   exact ⟨_, Reads.tuple ho hc hd hr⟩
 | .dict _, _, _, h, _ => by cases h
theorem Dp.readsAll (I : Inv X pins σ H s) : ∀ (ds : List PyData) (vs : List V) (us : List Value), DpAll X.K H vs ds → Vals vs us → ∃ as, ReadsAll s.heap us ds as
 | [], _, _, h, r => by
  cases h
  cases r
  exact ⟨_, ReadsAll.nil⟩
 | d :: ds, _, _, h, r => by
  cases h with
  | cons h1 h2 =>
   cases r with
   | cons r1 r2 =>
    obtain ⟨as, q1⟩ := Dp.reads I d _ _ h1 r1
    obtain ⟨bs, q2⟩ := Dp.readsAll I ds _ _ h2 r2
    exact ⟨_, ReadsAll.cons q1 q2⟩
end
end
section
variable {X : Cx}
def rEqD (K : PySem.W.Frag) : R2 := fun x y H Q => ∃ d e, Dp K H x d ∧ Dp K H y e ∧ SeqAt.shaped d = true ∧ SeqAt.shaped e = true ∧ Q (.bl (PyData.eqv d e)) H
def rNeD (K : PySem.W.Frag) : R2 := fun x y H Q => ∃ d e, Dp K H x d ∧ Dp K H y e ∧ SeqAt.shaped d = true ∧ SeqAt.shaped e = true ∧ Q (.bl (!PyData.eqv d e)) H
theorem op_eqD (hu : X.A.units + 64 < cLine) : OpR X (compareOp .Eq) (rEqD X.K) := by
 intro pins s σ H x y v u Q I rx ry h
 obtain ⟨d, e, hd, he, sd, se, q⟩ := h
 obtain ⟨as, r1⟩ := Dp.reads I d x v hd rx
 obtain ⟨bs, r2⟩ := Dp.reads I e y u he ry
 exact SeqAt.compareEq_shaped r1 r2 sd se hu ⟨.bl _, H, I, rfl, q⟩
theorem op_neD (hu : X.A.units + 64 < cLine) : OpR X (compareOp .NotEq) (rNeD X.K) := by
 intro pins s σ H x y v u Q I rx ry h
 obtain ⟨d, e, hd, he, sd, se, q⟩ := h
 obtain ⟨as, r1⟩ := Dp.reads I d x v hd rx
 obtain ⟨bs, r2⟩ := Dp.reads I e y u he ry
 exact SeqAt.compareNe_shaped r1 r2 sd se hu ⟨.bl _, H, I, rfl, q⟩
end
end L2
namespace L2
open PySem PySem.Spec PyProof.Rows
abbrev CellAt (h : Heap) (c : Addr) (v : Option Value) : Prop := h.IsCell c v
def relS (scope sc : Scope) : Scope :=
 { scope with names := scope.names.map fun (n, k) => if (k == .free && sc.kind == .function && sc.names.lookup n == some .cell) then (n, .cell) else (n, k) }
def cloFrom (cells : List (Str × Addr)) : List (Str × NameKind) → List (Str × Addr) → List (Str × Addr)
 | [], acc => acc
 | (n, k) :: r, acc => if k == .free then cloFrom cells r ((n, (cells.lookup n).getD 0) :: acc) else cloFrom cells r acc
theorem closure_loop (env : Env) (f : Str × NameKind → List (Str × Addr) → Sem (ForInStep (List (Str × Addr))))
  (hf : ∀ n k c, f (n, k) c = if k == .free then (do let a ← cellOf env n; pure (.yield ((n, a) :: c))) else pure (.yield c)) :
  ∀ (names : List (Str × NameKind)) (acc : List (Str × Addr)), (∀ y ∈ names, y.2 = .free → ∃ c, env.cells.lookup y.1 = some c) → forIn names acc f = pure (cloFrom env.cells names acc)
 | [], acc, _ => by rw [List.forIn_nil]; rfl
 | (n, k) :: r, acc, h => by
  rw [List.forIn_cons, hf]
  have ih := fun acc => closure_loop env f hf r acc fun y hy => h y (List.mem_cons_of_mem _ hy)
  unfold cloFrom
  by_cases hk : (k == NameKind.free) = true
  ·rw [if_pos hk, if_pos hk]
   obtain ⟨c, hc⟩ := h (n, k) List.mem_cons_self (by simpa using hk)
   have e : cellOf env n = pure c := by unfold cellOf; rw [hc]
   rw [e]
   have e2 : (env.cells.lookup n).getD 0 = c := by rw [hc]; rfl
   rw [e2]
   exact ih _
  ·rw [if_neg hk, if_neg hk]
   exact ih _
theorem closure_ok {scope : Scope} {env : Env} (h : ∀ y ∈ scope.names, y.2 = .free → ∃ c, env.cells.lookup y.1 = some c) : closureFor scope env = pure (cloFrom env.cells scope.names []) := by
 simp only [closureFor]
 rw [closure_loop env _ (fun n k c => rfl) scope.names [] h]
 rfl
theorem mem_lookup {α : Type} : ∀ {l : List (Str × α)} {n : Str} {c : α}, (n, c) ∈ l → ∃ c', l.lookup n = some c'
 | (k, v) :: r, n, c, h => by
  rw [List.lookup_cons]
  cases hb : n == k with
  | true => exact ⟨_, rfl⟩
  | false =>
   rcases List.mem_cons.mp h with e | h
   ·cases e; simp at hb
   ·exact mem_lookup h
theorem cloFrom_mem {cells : List (Str × Addr)} : ∀ {names : List (Str × NameKind)} {acc : List (Str × Addr)} {n : Str} {c : Addr}, (n, c) ∈ cloFrom cells names acc → (n, c) ∈ acc ∨ ((n, .free) ∈ names ∧ c = (cells.lookup n).getD 0)
 | [], _, _, _, h => .inl h
 | (m, k) :: r, acc, n, c, h => by
  unfold cloFrom at h
  split at h
  ·rename_i hk
   have hk : k = .free := by simpa using hk
   rcases cloFrom_mem h with h | ⟨h1, h2⟩
   ·rcases List.mem_cons.mp h with e | h
    ·cases e; exact .inr ⟨hk ▸ List.mem_cons_self, rfl⟩
    ·exact .inl h
   ·exact .inr ⟨List.mem_cons_of_mem _ h1, h2⟩
  ·rcases cloFrom_mem h with h | ⟨h1, h2⟩
   ·exact .inl h
   ·exact .inr ⟨List.mem_cons_of_mem _ h1, h2⟩
theorem cloFrom_acc {cells : List (Str × Addr)} : ∀ {names : List (Str × NameKind)} {acc : List (Str × Addr)} {p : Str × Addr}, p ∈ acc → p ∈ cloFrom cells names acc
 | [], _, _, h => h
 | (m, k) :: r, acc, p, h => by
  unfold cloFrom
  split
  ·exact cloFrom_acc (List.mem_cons_of_mem _ h)
  ·exact cloFrom_acc h
theorem cloFrom_has {cells : List (Str × Addr)} : ∀ {names : List (Str × NameKind)} {acc : List (Str × Addr)} {n : Str}, (n, .free) ∈ names → (n, (cells.lookup n).getD 0) ∈ cloFrom cells names acc
 | (m, k) :: r, acc, n, h => by
  unfold cloFrom
  rcases List.mem_cons.mp h with e | h
  ·cases e
   exact cloFrom_acc List.mem_cons_self
  ·split
   ·exact cloFrom_has h
   ·exact cloFrom_has h
theorem cells_mem : ∀ {names : List (Str × NameKind)} {h : Heap} {acc : List (Str × Addr)} {x : Str} {c : Addr}, (x, c) ∈ cellsFrom h.objs.size names acc →
  (x, c) ∈ acc ∨ ((x, .cell) ∈ names ∧ h.objs.size ≤ c ∧ CellAt (pushCells h names) c none)
 | [], _, _, _, _, h => .inl h
 | (n, k) :: r, h, acc, x, c, hm => by
  unfold cellsFrom at hm
  unfold pushCells
  split at hm
  ·rename_i hk
   rw [if_pos hk]
   have hk : k = .cell := by simpa using hk
   rw [← Heap.size_push h { cls := .type "cell", data := .cell none }] at hm
   rcases cells_mem hm with hm | ⟨h1, h2, h3⟩
   ·rcases List.mem_cons.mp hm with e | hm
    ·cases e
     exact .inr ⟨hk ▸ List.mem_cons_self, Nat.le_refl _, _, pushCells_keeps r _ _ _ (Heap.get?_push_size _ rfl), rfl⟩
    ·exact .inl hm
   ·rw [Heap.size_push] at h2
    exact .inr ⟨List.mem_cons_of_mem _ h1, Nat.le_of_succ_le h2, h3⟩
  ·rename_i hk
   rw [if_neg hk]
   rcases cells_mem hm with hm | ⟨h1, h2, h3⟩
   ·exact .inl hm
   ·exact .inr ⟨List.mem_cons_of_mem _ h1, h2, h3⟩
theorem cells_acc : ∀ {names : List (Str × NameKind)} {n : Nat} {acc : List (Str × Addr)} {p : Str × Addr}, p ∈ acc → p ∈ cellsFrom n names acc
 | [], _, _, _, h => h
 | (m, k) :: r, n, acc, p, h => by
  unfold cellsFrom
  split
  ·exact cells_acc (List.mem_cons_of_mem _ h)
  ·exact cells_acc h
theorem cells_has : ∀ {names : List (Str × NameKind)} {n : Nat} {acc : List (Str × Addr)} {x : Str}, (x, .cell) ∈ names → ∃ c, (x, c) ∈ cellsFrom n names acc
 | (m, k) :: r, n, acc, x, h => by
  unfold cellsFrom
  rcases List.mem_cons.mp h with e | h
  ·cases e
   exact ⟨n, cells_acc List.mem_cons_self⟩
  ·split
   ·exact cells_has h
   ·exact cells_has h
theorem cells_inj : ∀ {names : List (Str × NameKind)} {h : Heap} {acc : List (Str × Addr)} {x y : Str} {c : Addr}, (∀ p ∈ acc, p.2 < h.objs.size) → (∀ x y c, (x, c) ∈ acc → (y, c) ∈ acc → x = y) →
  (x, c) ∈ cellsFrom h.objs.size names acc → (y, c) ∈ cellsFrom h.objs.size names acc → x = y
 | [], _, _, _, _, _, _, hi, h1, h2 => hi _ _ _ h1 h2
 | (n, k) :: r, h, acc, x, y, c, hl, hi, h1, h2 => by
  unfold cellsFrom at h1 h2
  split at h1
  ·rename_i hk
   rw [if_pos hk] at h2
   rw [← Heap.size_push h { cls := .type "cell", data := .cell none }] at h1 h2
   refine cells_inj (h := h.push _) (fun p hp => ?_) (fun x y c a b => ?_) h1 h2
   ·rw [Heap.size_push]
    rcases List.mem_cons.mp hp with rfl | hp
    ·exact Nat.lt_succ_self _
    ·exact Nat.lt_succ_of_lt (hl p hp)
   ·rcases List.mem_cons.mp a with e | a <;> rcases List.mem_cons.mp b with e' | b
    ·cases e; cases e'; rfl
    ·cases e; exact absurd (hl _ b) (Nat.lt_irrefl _)
    ·cases e'; exact absurd (hl _ a) (Nat.lt_irrefl _)
    ·exact hi _ _ _ a b
  ·rename_i hk
   rw [if_neg hk] at h2
   exact cells_inj hl hi h1 h2
theorem newEnv_comp {M : Model} {A : Around} {E : Value → Shared → Prop} {s : Shared} {scope : Scope} {globals : Addr} {closure : List (Str × Addr)} {qual : Str} {func : Option Addr} {code : Value} {around : Env} {builtins : Addr} {Q : Env → Shared → Prop}
  (h : Q (newEnv scope s.heap.objs.size globals (cellsFrom (s.heap.objs.size + 1) scope.names closure) qual func code (some around) builtins)
   { s with heap := pushCells (s.heap.push { cls := .type "dict", data := .dict #[] }) scope.names }) :
  wpAny M A (newFunctionEnv scope globals closure [] qual func code (some around) builtins) Q E s := by
 simp only [newFunctionEnv, Option.isSome_some, if_true]
 refine wpAny_bind (wpAny_alloc ?_)
 refine wpAny_bind (wpAny_layCells _ (fun n k c => rfl) scope.names closure _ _ ?_)
 rw [show ({ s with heap := s.heap.push { cls := .type "dict", data := .dict #[] } } : Shared).heap.objs.size = s.heap.objs.size + 1 from Heap.size_push ..]
 rw [List.forIn_nil]
 exact wpAny_bind (wpAny_pure (wpAny_pure h))
theorem lookup_relS {sc : Scope} : ∀ {names : List (Str × NameKind)} {x : Str} {k : NameKind},
  (names.map fun (n, k) => if (k == NameKind.free && sc.kind == .function && sc.names.lookup n == some .cell) then (n, NameKind.cell) else (n, k)).lookup x = some k →
  ∃ k', names.lookup x = some k' ∧ (k = k' ∨ (k' = .free ∧ k = .cell))
 | [], _, _, h => by simp at h
 | (n, k₀) :: r, x, k, h => by
  have ih := @lookup_relS sc r x k
  have h' : List.lookup x ((if (k₀ == NameKind.free && sc.kind == .function && sc.names.lookup n == some .cell) = true then (n, NameKind.cell) else (n, k₀)) :: (r.map _)) = some k := h
  cases hx : x == n with
  | true =>
   simp only [List.lookup_cons, hx]
   by_cases hc : (k₀ == NameKind.free && sc.kind == .function && sc.names.lookup n == some .cell) = true
   ·rw [if_pos hc] at h'
    simp only [List.lookup_cons, hx] at h'
    cases h'
    simp only [Bool.and_eq_true, beq_iff_eq] at hc
    exact ⟨k₀, rfl, .inr ⟨hc.1.1, rfl⟩⟩
   ·rw [if_neg hc] at h'
    simp only [List.lookup_cons, hx] at h'
    cases h'
    exact ⟨_, rfl, .inl rfl⟩
  | false =>
   simp only [List.lookup_cons, hx]
   by_cases hc : (k₀ == NameKind.free && sc.kind == .function && sc.names.lookup n == some .cell) = true
   ·rw [if_pos hc] at h'
    simp only [List.lookup_cons, hx] at h'
    exact ih h'
   ·rw [if_neg hc] at h'
    simp only [List.lookup_cons, hx] at h'
    exact ih h'
structure BlkOk (N : List Str) (sc scope : Scope) (own : List (Str × Nat)) : Prop where
 kind : scope.kind = .function
 uniq : ∀ y ∈ scope.names, scope.names.lookup y.1 = some y.2
 ix : ∀ p ∈ own, N[p.2]? = some p.1
 free : ∀ y ∈ scope.names, y.2 = .free → sc.names.lookup y.1 = some .cell ∨ sc.names.lookup y.1 = some .free
 own : ∀ y ∈ scope.names, y.2 = .local ∨ y.2 = .cell → y.1 ∈ own.map (·.1) ∨ y.1 ∉ N
def wipe (σ : St) : List Nat → St
 | [] => σ
 | v :: vs => (wipe σ vs).set v none
theorem wipe_length (σ : St) : ∀ vs : List Nat, (wipe σ vs).length = σ.length
 | [] => rfl
 | v :: vs => by unfold wipe; rw [List.length_set, wipe_length σ vs]
theorem wipe_some {σ : St} {i : Nat} {x : V} : ∀ {vs : List Nat}, (wipe σ vs)[i]? = some (some x) → σ[i]? = some (some x) ∧ i ∉ vs
 | [], h => ⟨h, by simp⟩
 | v :: vs, h => by
  unfold wipe at h
  by_cases hi : v = i
  ·subst hi
   by_cases hv : v < (wipe σ vs).length
   ·rw [List.getElem?_set_self hv] at h; cases h
   ·rw [List.getElem?_eq_none (by simpa using hv)] at h; cases h
  ·rw [List.getElem?_set_ne hi] at h
   obtain ⟨h1, h2⟩ := wipe_some h
   exact ⟨h1, by simp only [List.mem_cons, not_or]; exact ⟨fun e => hi e.symm, h2⟩⟩
abbrev Cx.blk (X : Cx) (s : Shared) (H : Hp) (scope : Scope) (cenv : Env) (fp : List Addr) : Cx := { X with s_0 := s, H_0 := H, env := cenv, outer := X.stack, ex := fp, fn := fun x => scope.names.lookup x == some .cell, pn := [], xe := fun _ _ => False }
section
variable {X : Cx} {pins : List (Addr × Obj)} {σ : St} {H : Hp} {s : Shared}
theorem block_start {scope : Scope} {own : List (Str × Nat)} {fp : List Addr} (I : Inv X pins σ H s) (ok : BlkOk X.N X.env.scope scope own) (hN : X.N.Nodup) (hfp : ∀ b ∈ fp, FpOk X pins H b ∧ b < s.heap.objs.size) :
  Inv (X.blk s H scope (compEnvC scope (cellsFrom (s.heap.objs.size + 1) scope.names (cloFrom X.env.cells scope.names [])) s.heap.objs.size X.env) fp) [] (wipe σ (own.map (·.2))) H { s with heap := pushCells (s.heap.push { cls := .type "dict", data := .dict #[] }) scope.names } := by
 have hfree : ∀ y ∈ scope.names, y.2 = .free → ∃ c, X.env.cells.lookup y.1 = some c := fun y hy e => by
  rcases ok.free y hy e with k | k
  ·exact I.ok.has _ (.inl k)
  ·exact I.ok.has _ (.inr k)
 generalize hcenv : compEnvC scope (cellsFrom (s.heap.objs.size + 1) scope.names (cloFrom X.env.cells scope.names [])) s.heap.objs.size X.env = cenv
 have kp : ∀ b o, s.heap.get? b = some o → (pushCells (s.heap.push { cls := .type "dict", data := .dict #[] }) scope.names).get? b = some o := fun b o e => pushCells_keeps _ _ _ _ (Heap.get?_push_of_some _ e)
 have hL : cenv.locals = s.heap.objs.size := by rw [← hcenv]; rfl
 have hcl : cenv.cells = cellsFrom (s.heap.objs.size + 1) scope.names (cloFrom X.env.cells scope.names []) := by rw [← hcenv]; rfl
 have hsc : cenv.scope = relS scope X.env.scope := by rw [← hcenv]; rfl
 rw [← Heap.size_push s.heap { cls := .type "dict", data := .dict #[] }] at hcl
 have cm : ∀ {y c}, (y, c) ∈ cloFrom X.env.cells scope.names [] → X.env.cells.lookup y = some c ∧ c < s.heap.objs.size := fun {y c} hm => by
  rcases cloFrom_mem hm with hm | ⟨h1, rfl⟩
  ·cases hm
  ·obtain ⟨c, hc⟩ := hfree _ h1 rfl
   rw [hc]
   obtain ⟨w, z⟩ := I.cell _ _ hc
   exact ⟨rfl, z.lt⟩
 have mem : ∀ {y c}, cenv.cells.lookup y = some c → (X.env.cells.lookup y = some c ∧ c < s.heap.objs.size) ∨ (s.heap.objs.size + 1 ≤ c ∧ CellAt (pushCells (s.heap.push { cls := .type "dict", data := .dict #[] }) scope.names) c none) := fun {y c} e => by
  rw [hcl] at e
  rcases cells_mem (PySem.mem_of_lookup e) with hm | ⟨_, h2, h3⟩
  ·exact .inl (cm hm)
  ·rw [Heap.size_push] at h2; exact .inr ⟨h2, h3⟩
 have look : ∀ {y}, scope.names.lookup y = some .free → ∃ c, cenv.cells.lookup y = some c ∧ X.env.cells.lookup y = some c := fun {y} hl => by
  have hy : (y, NameKind.free) ∈ scope.names := PySem.mem_of_lookup hl
  obtain ⟨c', e'⟩ := mem_lookup (cells_acc (names := scope.names) (n := (s.heap.push { cls := .type "dict", data := .dict #[] }).objs.size) (cloFrom_has (cells := X.env.cells) (acc := []) hy))
  rw [← hcl] at e'
  refine ⟨c', e', ?_⟩
  rw [hcl] at e'
  rcases cells_mem (PySem.mem_of_lookup e') with hm | ⟨h1, _, _⟩
  ·exact (cm hm).1
  ·have := ok.uniq _ h1
   rw [hl] at this; cases this
 have okB : (X.blk s H scope cenv fp).Ok := by
  refine ⟨I.ok.mod, by show cenv.scope.kind = _; rw [hsc]; exact ok.kind, by show cenv.globals = _; rw [← hcenv]; exact I.ok.glob, by show cenv.builtins = _; rw [← hcenv]; exact I.ok.blt, by show s.heap.objs.size ≤ cenv.locals; rw [hL]; exact Nat.le_refl _,
   fun y z c e1 e2 => ?_, fun y hy => ?_, fun y c z e => ?_, I.ok.hd, I.ok.frames, .inl rfl, fun b hb => ⟨?_, fun y c e z => ?_⟩, I.bs, Nat.le_trans I.ok.bsz I.sz, fun b o e hb => ?_, fun b hb z => ?_, I.stack, I.stkFree⟩
  ·have e1 : cenv.cells.lookup y = some c := e1
   have e2 : cenv.cells.lookup z = some c := e2
   rw [hcl] at e1 e2
   refine cells_inj (fun p hp => ?_) (fun y z c a b => I.ok.inj y z c (cm a).1 (cm b).1) (PySem.mem_of_lookup e1) (PySem.mem_of_lookup e2)
   rw [Heap.size_push]
   exact Nat.lt_succ_of_lt (cm (y := p.1) (c := p.2) hp).2
  ·show ∃ c, cenv.cells.lookup y = some c
   have key : ∀ k, cenv.kindOf y = some k → (k = .cell ∨ k = .free) → ∃ c, cenv.cells.lookup y = some c := fun k hk hk' => by
    unfold Env.kindOf at hk
    rw [hsc] at hk
    obtain ⟨k', e, r⟩ := lookup_relS hk
    have : k' = .cell ∨ k' = .free := by
     rcases r with rfl | ⟨rfl, _⟩
     ·exact hk'
     ·exact .inr rfl
    rcases this with rfl | rfl
    ·obtain ⟨c, hm⟩ := cells_has (n := (s.heap.push { cls := .type "dict", data := .dict #[] }).objs.size) (acc := cloFrom X.env.cells scope.names []) (PySem.mem_of_lookup e)
     obtain ⟨c', e'⟩ := mem_lookup hm
     exact ⟨c', by rw [hcl]; exact e'⟩
    ·obtain ⟨c, h1, _⟩ := look e
     exact ⟨c, h1⟩
   rcases hy with hy | hy
   ·exact key _ hy (.inl rfl)
   ·exact key _ hy (.inr rfl)
  ·have z : (scope.names.lookup y == some NameKind.cell) = true := z
   have z : scope.names.lookup y = some .cell := by simpa using z
   have e : cenv.cells.lookup y = some c := e
   rw [hcl] at e
   rcases cells_mem (PySem.mem_of_lookup e) with hm | ⟨_, h2, _⟩
   ·rcases cloFrom_mem hm with hm | ⟨h1, _⟩
    ·cases hm
    ·have q := ok.uniq _ h1
     rw [z] at q; cases q
   ·rw [Heap.size_push] at h2
    exact Nat.le_of_succ_le h2
  ·show b ≠ cenv.locals
   rw [hL]; exact Nat.ne_of_lt (hfp b hb).2
  ·have e : cenv.cells.lookup y = some c := e
   rcases mem e with ⟨h1, _⟩ | ⟨h1, _⟩
   ·exact (hfp b hb).1.2.2.2.2.1 y c h1 z
   ·have h2 : s.heap.objs.size + 1 ≤ b := by rw [← z]; exact h1
    exact absurd (Nat.lt_of_lt_of_le (hfp b hb).2 (Nat.le_of_succ_le h2)) (Nat.lt_irrefl _)
  ·rcases (hfp b hb).1.2.2.2.1 with z | z
   ·exact I.ok.noex b o e z
   ·exact absurd (Nat.lt_of_lt_of_le (Heap.lt_size e) (Nat.le_trans I.ok.bsz z)) (Nat.lt_irrefl _)
  ·rcases List.mem_cons.mp (I.stkSub b z) with z | z
   ·exact (hfp b hb).1.2.1 z
   ·exact (hfp b hb).1.2.2.1 z
 refine ⟨okB, rfl, I.bare, Un.kept kp, ⟨fun _ => none, ?_, fun i y av e1 e2 e3 => ?_⟩, fun y c e => ?_, ?_, fun y c e => ?_, fun p hp => ?_, I.hok.kept kp, by rw [wipe_length]; exact I.len⟩
 ·show Heap.Ns _ cenv.locals _
  rw [hL]
  exact Heap.Ns.keeps (Heap.Ns.new ..) fun b o e => pushCells_keeps _ _ _ _ e
 ·obtain ⟨e2, hne⟩ := wipe_some e2
  have hfr : scope.names.lookup y = some .free ∧ (cenv.kindOf y = some .cell ∨ cenv.kindOf y = some .free) := by
   have key : ∀ k, cenv.scope.names.lookup y = some k → k = .local ∨ k = .cell ∨ k = .free → scope.names.lookup y = some .free ∧ (cenv.kindOf y = some .cell ∨ cenv.kindOf y = some .free) := fun k hk hk' => by
    have hk0 := hk
    rw [hsc] at hk
    obtain ⟨k', e, r⟩ := lookup_relS hk
    have no : ¬ (k' = .local ∨ k' = .cell) := fun hh => by
     rcases ok.own _ (PySem.mem_of_lookup e) hh with e' | e'
     ·obtain ⟨p, hp, hpy⟩ := List.mem_map.mp e'
      have e3 := ok.ix p hp
      have : p.1 = y := hpy
      rw [this] at e3
      exact hne (List.mem_map.mpr ⟨p, hp, nodup_ix hN e3 e1⟩)
     ·exact e' (List.mem_of_getElem? e1)
    rcases r with rfl | ⟨rfl, rfl⟩
    ·rcases hk' with rfl | rfl | rfl
     ·exact absurd (.inl rfl) no
     ·exact absurd (.inr rfl) no
     ·exact ⟨e, .inr hk0⟩
    ·exact ⟨e, .inl hk0⟩
   have e3 : Vis cenv.scope y := e3
   rcases e3 with e3 | e3 | e3
   ·exact key _ e3 (.inl rfl)
   ·exact key _ e3 (.inr (.inl rfl))
   ·exact key _ e3 (.inr (.inr rfl))
  obtain ⟨m, hn, hl⟩ := I.loc
  have hvis : Vis X.env.scope y := (ok.free _ (PySem.mem_of_lookup hfr.1) rfl).elim (fun k => .inr (.inl k)) (fun k => .inr (.inr k))
  obtain ⟨w, r, q⟩ := hl i y av e1 e2 hvis
  refine ⟨w, r, .inr ⟨hfr.2, ?_⟩⟩
  obtain ⟨c, h1, h2⟩ := look hfr.1
  rcases q with ⟨k, _⟩ | ⟨_, c', e', z⟩
  ·have k : X.env.scope.names.lookup y = some .local := k
   rcases ok.free _ (PySem.mem_of_lookup hfr.1) rfl with k' | k' <;> rw [show X.env.scope.names.lookup y = _ from k'] at k <;> cases k
  ·rw [h2] at e'; cases e'
   exact ⟨c, h1, z.keeps kp⟩
 ·have e : cenv.cells.lookup y = some c := e
  rcases mem e with ⟨h1, _⟩ | ⟨_, z⟩
  ·obtain ⟨w, z⟩ := I.cell y c h1
   exact ⟨w, z.keeps kp⟩
  ·exact ⟨_, z⟩
 ·show H cenv.locals = none
  rw [hL]; exact I.hok.fresh (Nat.le_refl _)
 ·have e : cenv.cells.lookup y = some c := e
  rcases mem e with ⟨h1, _⟩ | ⟨h1, _⟩
  ·exact I.freeC y c h1
  ·exact I.hok.fresh (Nat.le_of_succ_le h1)
 ·exact absurd (show p ∈ ([] : List (Addr × Obj)) ++ [] from hp) (by simp)
theorem app_ok {E : Value → Shared → Prop} {D : Addr} {xs : List V} {y : V} {v : Value} {Q : Value → Shared → Prop} (I : Inv X pins σ H s) (hD : H D = some (.lst xs)) (hz : xs.length < sizeLine) (r : RelV y v)
  (h : ∀ s', Inv X pins σ (upd H D (.lst (xs ++ [y]))) s' → Q .none s') : wpAny (model X.prog X.w) X.A (call (.builtin "list.append") [.ref D, v]) Q E s := by
 obtain ⟨hz', its, n, ri, e⟩ := I.hok D _ hD
 have hl := ri.length
 refine append_at (hsz := by rw [List.size_toArray]; omega) e fun h' sb ho' => ?_
 refine h { s with heap := h' } (I.write (t' := s.toks) (by rw [hD]; trivial) (.inl rfl) (fun b u hb q => (sb.2 b hb).trans q) ⟨_, ho'⟩ ⟨by rw [List.length_append]; exact hz, its ++ [v], n + 1, ri.append (.cons r .nil), ?_⟩)
 rw [ho']
 simp
def PTs (X : Cx) (ifs : List Expr) (t : TT) : Prop :=
 ∀ (pins : List (Addr × Obj)) (s : Shared) (σ : St) (H : Hp) (Q : Bool → Hp → Prop), Inv X pins σ H s → t σ H Q →
  wpAny (model X.prog X.w) X.A (forIn ifs true fun c r => if r = true then do let ok ← isTrue c X.env (eval c X.env); pure (ForInStep.yield ok) else pure (ForInStep.yield r)) (TP X pins σ Q) X.xe s
def tYes : TT := fun _ H Q => Q true H
theorem pts_nil : PTs X [] tYes := fun _ _ _ H _ I h => wpAny_tests_nil ⟨H, I, h⟩
end
theorem thnF {α : Type} {t : Sem α} {Q Q' : α → Shared → Prop} {M : Model} {A : Around} {E : Value → Shared → Prop} {s : Shared} (h : wpAny M A t Q (fun _ _ => False) s) (hQ : ∀ a s, Q a s → Q' a s) : wpAny M A t Q' E s := wpAny_mono h hQ fun _ _ z => False.elim z
theorem compLoop_any {prog : Program} {w : World} {A : Around} {R : Result → Shared → Prop} {s : Shared} {elt target iter : Expr} {ifs : List Expr} {scope : Scope} {pos : Pos} {it acc : Value} {env : Env} (I : Nat → Shared → Prop)
  (turn : ∀ n s, I n s → wpAny (model prog w) A (pyNext it) (fun r s₁ => match r with
   | none => R (.ok .next) s₁
   | some v => wpAny (model prog w) A (letOwnedTupleGo target it v) (fun _ s₁' => wpAny (model prog w) A (assign target env v) (fun _ s₂ =>
     wpAny (model prog w) A (forIn ifs true fun c r => if r = true then do let ok ← isTrue c env (eval c env); pure (ForInStep.yield ok) else pure (ForInStep.yield r)) (fun ok s₃ =>
      if ok = true then wpAny (model prog w) A (eval elt env) (fun x s₄ =>
       wpAny (model prog w) A (call (.builtin "list.append") [acc, x]) (fun _ s₅ => ∃ m, m < n ∧ I m s₅) (notedBy (model prog w) A env fun e s' => R (.error e) s') s₄) (notedBy (model prog w) A env fun e s' => R (.error e) s') s₃
      else ∃ m, m < n ∧ I m s₃) (notedBy (model prog w) A env fun e s' => R (.error e) s') s₂) (notedBy (model prog w) A env fun e s' => R (.error e) s') s₁') (notedBy (model prog w) A env fun e s' => R (.error e) s') s₁) (notedBy (model prog w) A env fun e s' => R (.error e) s') s)
  (n : Nat) (h : I n s) :
  codeAny (model prog w) A (.compLoop (.ListComp elt [⟨target, iter, ifs, 0⟩] scope pos) 0 it acc env) R s := by
 refine codeAny_loop rfl I (fun n s hI => ?_) n h
 show wpAny _ A ((compTurn (.ListComp elt [⟨target, iter, ifs, 0⟩] scope pos) 0 it acc env).onRaise (fun x => do noteFrame x env; theTreesLotGoes x)) _ _ s
 refine wpAny_noted ?_
 rw [compTurn_list]
 refine wpAny_bind (wpAny_standAt (wpAny_bind (wpAny_mono (turn n s hI) (fun r s₁ h₁ => ?_) fun _ _ h' => h')))
 cases r with
 | none => exact wpAny_pure h₁
 | some v =>
  refine wpAny_bind (wpAny_mono h₁ (fun _ s₁' h₁' => ?_) fun _ _ h' => h')
  refine wpAny_bind (wpAny_mono h₁' (fun _ s₂ h₂ => wpAny_bind (wpAny_mono h₂ (fun ok s₃ h₃ => ?_) fun _ _ h' => h')) fun _ _ h' => h')
  cases ok with
  | false => exact wpAny_pure ⟨rfl, h₃⟩
  | true =>
   exact wpAny_bind (wpAny_bind (wpAny_mono h₃ (fun x s₄ h₄ => wpAny_bind (wpAny_mono h₄ (fun _ s₅ h₅ => wpAny_pure (wpAny_pure ⟨rfl, h₅⟩)) fun _ _ h' => h')) fun _ _ h' => h'))
section
variable {X : Cx}
def tLc (wi : TI) (g : TG) (tt : TT) (te : TE) (vs : List Nat) : TE := fun σ H Q => wi σ H fun J H1 => ∀ D, H1 D = none → ∃ W : Nat → Nat → Hp → Prop, (∃ m, W 0 m (upd H1 D (.lst []))) ∧ ∀ i m H, W i m H →
 (J.stop i H ∧ Q (.ref D) H) ∨ (J.go i H ∧ ∃ Nx : Hp → Prop, (∀ H', Nx H' → ∃ m', m' < m ∧ W (i + 1) m' H') ∧ ∀ x H', J.yld i H x H' → g x (wipe σ vs) H' fun σ2 H2 => wipe σ2 vs = wipe σ vs ∧ tt σ2 H2 fun b H3 =>
  if b = true then te σ2 H3 fun y H4 => ∃ acc, H4 D = some (.lst acc) ∧ acc.length < sizeLine ∧ Nx (upd H4 D (.lst (acc ++ [y]))) else Nx H3)
theorem lc_core {pins : List (Addr × Obj)} {s : Shared} {σ : St} {H : Hp} {Q : VK} {elt tg iter : Expr} {ifs : List Expr} {scope : Scope} {own : List (Str × Nat)} {pos pos' : Pos} {wi : TI} {g : TG} {tt : TT} {te : TE} {use : Option (Value → Sem Unit)} {Qf : Value → Shared → Prop}
  (hc : X.calm = true) (hN : X.N.Nodup) (I : Inv X pins σ H s) (hi : PI X tg iter wi) (ok : BlkOk X.N X.env.scope scope own)
  (hg : ∀ (s : Shared) (H : Hp) (C : Addr) (cl : List (Str × Addr)) (fp : List Addr), PG (X.blk s H scope (compEnvC scope cl C X.env) fp) tg g) (ht : ∀ (s : Shared) (H : Hp) (C : Addr) (cl : List (Str × Addr)) (fp : List Addr), PTs (X.blk s H scope (compEnvC scope cl C X.env) fp) ifs tt)
  (he : ∀ (s : Shared) (H : Hp) (C : Addr) (cl : List (Str × Addr)) (fp : List Addr), PE (X.blk s H scope (compEnvC scope cl C X.env) fp) elt te) (hs : ∀ x, foldedSetIterable iter X.env x = pure x)
  (h : tLc wi g tt te (own.map (·.2)) σ H Q)
  (hRR : ∀ D C s' m H', Inv X pins σ H' s' → Q (.ref D) H' → s'.heap.Ns C m → FpOk X pins H' C → compPost (model X.prog X.w) X.A X.xe use Qf (.ref D) C (.ok .next) s') :
  wpAny (model X.prog X.w) X.A (comprehension (.ListComp elt [⟨tg, iter, ifs, 0⟩] scope pos) scope X.env pos' (newList []) false (eval iter X.env) use) Qf X.xe s := by
 have hfree : ∀ y ∈ scope.names, y.2 = .free → ∃ c, X.env.cells.lookup y.1 = some c := fun y hy e => by
  rcases ok.free y hy e with k | k
  ·exact I.ok.has _ (.inl k)
  ·exact I.ok.has _ (.inr k)
 refine wpAny_comprehension_free (use := use) rfl hs (closure_ok hfree) ok.kind (fun y hy e => by rw [ok.uniq y hy, e])
  (thn (hi pins s σ H _ I h) fun xv s1 hx => thn hx fun itv s2 h2 => ?_)
 obtain ⟨it, fp, tn, J, H2, e, I2, T, st2, f2, q⟩ := h2
 subst e
 refine wpAny_newObj_type (newEnv_comp ?_) (by show 0 ≤ sizeLine; decide)
 generalize hD : s2.heap.objs.size = D
 have hDn : H2 D = none := I2.hok.fresh (Nat.le_of_eq hD)
 obtain ⟨W, ⟨m0, w0⟩, turn⟩ := q D hDn
 generalize hs3 : ({ s2 with heap := s2.heap.push { cls := .type "list", data := .seq ([] : List Value).toArray } } : Shared) = s3
 have I3 : Inv X pins σ (upd H2 D (.lst [])) s3 := by
  rw [← hs3]
  refine I2.laid (t' := s2.toks) (fun b o e => Heap.get?_push_of_some _ e) (Nat.le_of_eq hD) ⟨Nat.zero_le _, [], 0, .nil, ?_⟩
  rw [← hD]
  exact Heap.get?_push_size _ rfl
 have h3 : s3.heap = s2.heap.push { cls := .type "list", data := .seq ([] : List Value).toArray } := by rw [← hs3]
 have sz : ∀ b ∈ fp, b < s2.heap.objs.size := fun b hb => by
  obtain ⟨o, e, _⟩ := T.obj _ _ st2 b hb
  exact Heap.lt_size e
 have f3 : ∀ b ∈ fp, FpOk X pins (upd H2 D (.lst [])) b ∧ b < s3.heap.objs.size := fun b hb => by
  have hlt := sz b hb
  refine ⟨⟨?_, (f2 b hb).2⟩, by rw [h3, Heap.size_push]; exact Nat.lt_succ_of_lt hlt⟩
  rw [upd_ne (by rw [← hD]; exact Nat.ne_of_lt hlt)]
  exact (f2 b hb).1
 have st3 : tn 0 s3.heap := T.keep _ _ _ st2 fun b _ o e => by rw [h3]; exact Heap.get?_push_of_some _ e
 have I4 := block_start I3 ok hN f3
 have pg := hg s3 (upd H2 D (.lst [])) s3.heap.objs.size (cellsFrom (s3.heap.objs.size + 1) scope.names (cloFrom X.env.cells scope.names [])) fp
 have pt := ht s3 (upd H2 D (.lst [])) s3.heap.objs.size (cellsFrom (s3.heap.objs.size + 1) scope.names (cloFrom X.env.cells scope.names [])) fp
 have pe := he s3 (upd H2 D (.lst [])) s3.heap.objs.size (cellsFrom (s3.heap.objs.size + 1) scope.names (cloFrom X.env.cells scope.names [])) fp
 show codeAny _ _ (.compStart (.ListComp elt [⟨tg, iter, ifs, 0⟩] scope pos) 0 (.ref it) (.ref D) (compEnvC scope (cellsFrom (s3.heap.objs.size + 1) scope.names (cloFrom X.env.cells scope.names [])) s3.heap.objs.size X.env)) (compPost (model X.prog X.w) X.A X.xe use Qf (.ref D) s3.heap.objs.size) { s3 with heap := pushCells (s3.heap.push { cls := .type "dict", data := .dict #[] }) scope.names }
 have nfp : ∀ b ∈ fp, (upd H2 D (.lst [])) b = none := fun b hb => (f3 b hb).1.1
 generalize hce : compEnvC scope (cellsFrom (s3.heap.objs.size + 1) scope.names (cloFrom X.env.cells scope.names [])) s3.heap.objs.size X.env = ce at I4 pg pt pe ⊢
 have cL : ce.locals = s3.heap.objs.size := by subst hce; rfl
 generalize hH3 : upd H2 D (.lst []) = H3 at I3 I4 pg pt pe w0 nfp f3
 generalize hs4 : ({ s3 with heap := pushCells (s3.heap.push { cls := .type "dict", data := .dict #[] }) scope.names } : Shared) = s4 at I4 ⊢
 have st4 : tn 0 s4.heap := T.keep _ _ _ st3 fun b _ o e => by rw [← hs4]; exact pushCells_keeps _ _ _ _ (Heap.get?_push_of_some _ e)
 have stat : ∀ {σ' : St} {H' : Hp} {s' : Shared}, Inv (X.blk s3 H3 scope ce fp) [] σ' H' s' → (∀ b ∈ fp, H' b = none) → ∀ b ∈ fp, FpOk (X.blk s3 H3 scope ce fp) [] H' b := fun {σ' H' s'} I' hn b hb =>
  ⟨hn b hb, (I'.ok.exf b hb).1, I'.ok.exfs b hb, .inl hb, fun x c e => (I'.ok.exf b hb).2 x c e, fun p hp => absurd (show p ∈ ([] : List (Addr × Obj)) ++ [] from hp) (by simp)⟩
 have loop : codeAny (model X.prog X.w) X.A (.compLoop (.ListComp elt [⟨tg, iter, ifs, 0⟩] scope pos) 0 (.ref it) (.ref D) ce) (compPost (model X.prog X.w) X.A X.xe use Qf (.ref D) s3.heap.objs.size) s4 := by
  refine compLoop_any (fun n s' => ∃ i H', Inv (X.blk s3 H3 scope ce fp) [] (wipe σ (own.map (·.2))) H' s' ∧ tn i s'.heap ∧ (∀ b ∈ fp, H' b = none) ∧ W i n H') ?_ m0 ⟨0, H3, I4, st4, nfp, w0⟩
  rintro n s5 ⟨i, H5, I5, st5, n5, w5⟩
  rcases turn i n H5 w5 with ⟨stop, qq⟩ | ⟨go, Nx, hNx, step⟩
  ·have td := T.done (X.blk s3 H3 scope ce fp) rfl rfl rfl hc i [] s5 _ H5 (fun _ _ => False) I5 (stat I5 n5) st5 stop
   refine thnF td fun r s6 ⟨hr, I6⟩ => ?_
   subst hr
   have I7 : Inv X pins σ H5 s6 := I3.call' (ch := fp) I6.os I6.base I6.hok I6.bare fun b hb => ⟨(f3 b hb).1.2.2.2.1, (f3 b hb).1.2.1, (f3 b hb).1.2.2.2.2.1, (f3 b hb).1.2.2.2.2.2⟩
   have nC : H5 s3.heap.objs.size = none := by
    have z : H5 ce.locals = none := I6.free
    rw [cL] at z
    exact z
   obtain ⟨m, hn, _⟩ := I6.loc
   have hn : s6.heap.Ns ce.locals m := hn
   rw [cL] at hn
   exact hRR D s3.heap.objs.size s6 m H5 I7 qq hn (I3.fpOk (Nat.le_refl _) nC)
  ·have ti := T.item (X.blk s3 H3 scope ce fp) rfl rfl rfl hc i [] s5 _ H5 (fun _ _ => False) I5 (stat I5 n5) st5 go
   refine thnF ti fun r s6 ⟨u, hr, h6⟩ => ?_
   subst hr
   refine thnF h6 fun _ s7 ⟨x, H7, I7, r7, y7, st7, n7⟩ => ?_
   have I7' := I7.pinned (stat I7 n7) (T.obj _ _ st7)
   refine thnF (pg _ s7 _ H7 x u _ I7' r7 (step x H7 y7)) fun _ s8 ⟨σ8, H8, I8, hw8, q8⟩ => ?_
   refine thnF (pt _ s8 σ8 H8 _ I8 q8) fun b s9 ⟨H9, I9, q9⟩ => ?_
   have fin : ∀ {s' : Shared} {H' : Hp}, Inv (X.blk s3 H3 scope ce fp) ([] ++ pinsAt fp s7.heap) σ8 H' s' → Nx H' → ∃ m, m < n ∧ ∃ i H', Inv (X.blk s3 H3 scope ce fp) [] (wipe σ (own.map (·.2))) H' s' ∧ tn i s'.heap ∧ (∀ b ∈ fp, H' b = none) ∧ W i m H' := fun {s' H'} I' nx => by
    obtain ⟨m', hm, w'⟩ := hNx H' nx
    have pin' : ∀ b ∈ fp, ∀ o, s7.heap.get? b = some o → s'.heap.get? b = some o ∧ H' b = none := fun b hb o e =>
     let z := I'.pin (b, o) (List.mem_append_right _ (List.mem_append_right _ (mem_pinsAt hb e)))
     ⟨z.1, z.2.1⟩
    have hl : (wipe σ (own.map (·.2))).length = σ8.length := by rw [← hw8, wipe_length]
    refine ⟨m', hm, i + 1, H', (I'.unpinned (pins := [])).weak hl (fun j v e => ?_), T.keep _ _ _ st7 fun b hb o e => (pin' b hb o e).1, fun b hb => ?_, w'⟩
    ·rw [← hw8] at e
     exact (wipe_some e).1
    ·obtain ⟨o, e, _⟩ := T.obj _ _ st7 b hb
     exact (pin' b hb o e).2
   cases b with
   | false =>
    simp only [Bool.false_eq_true, if_false] at q9 ⊢
    exact fin I9 q9
   | true =>
    simp only [if_true] at q9 ⊢
    refine thnF (pe _ s9 σ8 H9 _ I9 q9) fun z s10 ⟨yv, H10, I10, r10, acc, hD10, hz10, nx⟩ => ?_
    exact app_ok (X := X.blk s3 H3 scope ce fp) I10 hD10 hz10 r10 fun s11 I11 => fin I11 nx
 exact codeAny_compStart_list loop (T.self X.A 0 _ _ _ st4 loop)
theorem pe_lc {elt tg iter : Expr} {ifs : List Expr} {scope : Scope} {own : List (Str × Nat)} {pos : Pos} {wi : TI} {g : TG} {tt : TT} {te : TE} (hc : X.calm = true) (hN : X.N.Nodup) (hi : PI X tg iter wi) (ok : BlkOk X.N X.env.scope scope own)
  (hg : ∀ (s : Shared) (H : Hp) (C : Addr) (cl : List (Str × Addr)) (fp : List Addr), PG (X.blk s H scope (compEnvC scope cl C X.env) fp) tg g) (ht : ∀ (s : Shared) (H : Hp) (C : Addr) (cl : List (Str × Addr)) (fp : List Addr), PTs (X.blk s H scope (compEnvC scope cl C X.env) fp) ifs tt)
  (he : ∀ (s : Shared) (H : Hp) (C : Addr) (cl : List (Str × Addr)) (fp : List Addr), PE (X.blk s H scope (compEnvC scope cl C X.env) fp) elt te) (hs : ∀ x, foldedSetIterable iter X.env x = pure x := by intro _; rfl) :
  PE X (.ListComp elt [⟨tg, iter, ifs, 0⟩] scope pos) (tLc wi g tt te (own.map (·.2))) := by
 intro pins s σ H Q I h
 rw [eval_ListComp]
 refine lc_core hc hN I hi ok hg ht he hs h fun D C s' m H' I' q hn f => ⟨m, hn, fun h'' sb => ?_⟩
 obtain ⟨f0, f1, f2, f3, f4, f5⟩ := f
 exact ⟨.ref D, H', I'.turned (t' := s'.toks) (fun b o hb e => (sb.2 b hb).trans e) f0 f1 f3 f4 f5, rfl, q⟩
theorem ps_setLc {i : Nat} {y : Str} {py : Pos} {elt tg iter : Expr} {ifs : List Expr} {scope : Scope} {own : List (Str × Nat)} {pos spos : Pos} {wi : TI} {g : TG} {tt : TT} {te : TE} (hc : X.calm = true) (hN : X.N.Nodup) (hy : X.N[i]? = some y) (hyl : X.env.scope.names.lookup y = some .local)
  (hsw : swapsWith (.ListComp elt [⟨tg, iter, ifs, 0⟩] scope pos) (some (.Name y py)) spos.line X.env = pure true) (hi : PI X tg iter wi) (ok : BlkOk X.N X.env.scope scope own)
  (hg : ∀ (s : Shared) (H : Hp) (C : Addr) (cl : List (Str × Addr)) (fp : List Addr), PG (X.blk s H scope (compEnvC scope cl C X.env) fp) tg g) (ht : ∀ (s : Shared) (H : Hp) (C : Addr) (cl : List (Str × Addr)) (fp : List Addr), PTs (X.blk s H scope (compEnvC scope cl C X.env) fp) ifs tt)
  (he : ∀ (s : Shared) (H : Hp) (C : Addr) (cl : List (Str × Addr)) (fp : List Addr), PE (X.blk s H scope (compEnvC scope cl C X.env) fp) elt te) (hs : ∀ x, foldedSetIterable iter X.env x = pure x := by intro _; rfl) :
  PS X (.Assign [.Name y py] (.ListComp elt [⟨tg, iter, ifs, 0⟩] scope pos) spos) (tAsg (tLc wi g tt te (own.map (·.2))) (gName i)) := by
 intro pins s σ H D I h
 rw [exec_Assign_Name_used _ _ _ _ hsw]
 refine wpAny_bind (wpAny_standAt (wpAny_bind ?_))
 show wpAny _ X.A (do let _ ← comprehension (.ListComp elt [⟨tg, iter, ifs, 0⟩] scope pos) scope X.env (firstIterPos [⟨tg, iter, ifs, 0⟩] pos) (newList []) false (eval iter X.env) (some (assign (.Name y py) X.env))) _ _ s
 have h : tLc wi g tt te (own.map (·.2)) σ H (fun x H1 => gName i x σ H1 D.nx) := h
 refine wpAny_bind (thn (lc_core (Qf := fun _ s' => SP X pins D .next s') hc hN I hi ok hg ht he hs h fun L C s' m H' I' q hn f => ?_) fun _ s' hq => wpAny_pure (wpAny_pure hq))
 show wpAny _ _ (assign (.Name y py) X.env (.ref L)) _ _ _
 refine wpAny_assign_Name (store_ok2 (v := V.ref L) I' hN hy (.inl hyl) rfl (fun s2 I2 ⟨a, sb, ha⟩ => ?_) (.inr hyl))
 obtain ⟨f0, f1, f2, f3, f4, f5⟩ := f
 have haC : C ≠ a := by
  rcases ha with z | z
  ·rw [z]; exact f1
  ·exact fun e => f4 y a z e.symm
 refine ⟨m, hn.sameBut sb haC, fun h3 sb3 => ?_⟩
 exact ⟨_, H', I2.turned (t' := s2.toks) (fun b o hb e => (sb3.2 b hb).trans e) f0 f1 f3 f4 f5, q⟩
theorem sw_true {elt : Expr} {gs : List Comprehension} {scope : Scope} {pos py : Pos} {y : Str} {l : Nat} {env : Env} (hk : env.scope.kind = .function) (hy : env.scope.names.lookup y = some .local) (hl : (py.line == pos.line) = true)
  (ha : (scope.names.any fun (n, k) => n == y && (k == .local || k == .cell)) = false) : swapsWith (.ListComp elt gs scope pos) (some (.Name y py)) l env = pure true := by
 have ky : env.kindOf y = some .local := hy
 have hb : env.blockKind = .function := by unfold Env.blockKind; rw [hk]; rfl
 unfold swapsWith
 simp only [hb, ky, ha, Expr.pos, hl]
 rfl
end
def blkC (N : List Str) (sc scope : Scope) (own : List (Str × Nat)) : Bool :=
 (match scope.kind with | .function => true | _ => false) && (scope.names.all fun y => decide (scope.names.lookup y.1 = some y.2)) && (own.all fun p => decide (N[p.2]? = some p.1)) &&
  (scope.names.all fun y => match y.2 with
   | .free => (match sc.names.lookup y.1 with | some .cell => true | some .free => true | _ => false)
   | .local => decide (y.1 ∈ own.map (·.1)) || decide (y.1 ∉ N)
   | .cell => decide (y.1 ∈ own.map (·.1)) || decide (y.1 ∉ N)
   | _ => true)
theorem blkOk_by {N : List Str} {sc scope : Scope} {own : List (Str × Nat)} (h : blkC N sc scope own = true) : BlkOk N sc scope own := by
 unfold blkC at h
 simp only [Bool.and_eq_true, List.all_eq_true, decide_eq_true_eq] at h
 obtain ⟨⟨⟨h1, h2⟩, h3⟩, h4⟩ := h
 refine ⟨?_, h2, h3, fun y hy e => ?_, fun y hy e => ?_⟩
 ·split at h1
  ·assumption
  ·cases h1
 ·have q := h4 y hy
  simp only [e] at q
  split at q <;> first | exact .inl (by assumption) | exact .inr (by assumption) | cases q
 ·have q := h4 y hy
  rcases e with e | e <;> (simp only [e, Bool.or_eq_true, decide_eq_true_eq] at q; exact q)
end L2
namespace L2
open PySem PySem.Spec PyProof.Rows
end L2
namespace L2
open PySem PySem.Spec PyProof.Rows
section
variable {κ : Type} [DecidableEq κ]
def valV (kvs : List (κ × V)) (k : κ) : Option V := (kvs.find? fun kv => decide (kv.1 = k)).map (·.2)
def putK (kvs : List (κ × V)) (k : κ) (v : V) : List (κ × V) :=
 if (kvs.any fun kv => decide (kv.1 = k)) = true then kvs.map (fun kv => if kv.1 = k then (kv.1, v) else kv) else kvs ++ [(k, v)]
theorem valV_pos {p : κ × V} {r : List (κ × V)} {k : κ} (e : p.1 = k) : valV (p :: r) k = some p.2 := by simp [valV, List.find?_cons, e]
theorem valV_neg {p : κ × V} {r : List (κ × V)} {k : κ} (e : ¬ p.1 = k) : valV (p :: r) k = valV r k := by simp [valV, List.find?_cons, e]
theorem valV_any (k : κ) : ∀ kvs : List (κ × V), (kvs.any fun kv => decide (kv.1 = k)) = (valV kvs k).isSome
 | [] => rfl
 | p :: r => by
  rw [List.any_cons]
  by_cases e : p.1 = k
  ·simp only [valV_pos e, decide_eq_true e, Bool.true_or, Option.isSome_some]
  ·rw [valV_neg e, decide_eq_false e, Bool.false_or]; exact valV_any k r
theorem length_putK (kvs : List (κ × V)) (k : κ) (v : V) : (putK kvs k v).length ≤ kvs.length + 1 := by
 unfold putK
 split
 ·rw [List.length_map]; omega
 ·rw [List.length_append, List.length_cons, List.length_nil]; omega
theorem RelO.isSome_eq {o : Option V} {u : Option Value} (r : RelO o u) : o.isSome = u.isSome := by
 cases o with
 | none => cases u with
  | none => rfl
  | some _ => exact (show False from r).elim
 | some _ => cases u with
  | none => exact (show False from r).elim
  | some _ => rfl
theorem RelO.getD {o : Option V} {u : Option Value} {d : V} {d' : Value} (r : RelO o u) (rd : RelV d d') : RelV (o.getD d) (u.getD d') := by
 cases o with
 | none => cases u with
  | none => exact rd
  | some _ => exact (show False from r).elim
 | some _ => cases u with
  | none => exact (show False from r).elim
  | some _ => exact r
theorem KV.val {kvs : List (κ × V)} {vs : List (κ × Value)} (r : KV kvs vs) (k : κ) : RelO (valV kvs k) (valueAt vs k) := by
 unfold KV at r
 induction r with
 | nil => exact True.intro
 | @cons p q ps qs h t ih =>
  obtain ⟨h1, h2⟩ := h
  by_cases e : p.1 = k
  ·have e' : q.1 = k := h1.symm.trans e
   have b : valueAt (q :: qs) k = some q.2 := by simp [valueAt, List.find?_cons, e']
   rw [valV_pos e, b]; exact h2
  ·have e' : ¬ q.1 = k := fun z => e (h1.trans z)
   have b : valueAt (q :: qs) k = valueAt qs k := by simp [valueAt, List.find?_cons, e']
   rw [valV_neg e, b]; exact ih
theorem KV.any {kvs : List (κ × V)} {vs : List (κ × Value)} (r : KV kvs vs) (k : κ) : (kvs.any fun kv => decide (kv.1 = k)) = vs.any fun kv => decide (kv.1 = k) := by
 unfold KV at r
 induction r with
 | nil => rfl
 | cons h t ih => rw [List.any_cons, List.any_cons, ih, h.1]
theorem KV.repl {kvs : List (κ × V)} {vs : List (κ × Value)} (r : KV kvs vs) (k : κ) {y : V} {u : Value} (ry : RelV y u) :
  KV (kvs.map fun kv => if kv.1 = k then (kv.1, y) else kv) (vs.map fun kv => if kv.1 = k then (kv.1, u) else kv) := by
 unfold KV at r ⊢
 induction r with
 | nil => exact .nil
 | @cons p q ps qs h t ih =>
  rw [List.map_cons, List.map_cons]
  refine .cons ?_ ih
  obtain ⟨h1, h2⟩ := h
  by_cases e : p.1 = k
  ·rw [if_pos e, if_pos (h1.symm.trans e)]; exact ⟨h1, ry⟩
  ·rw [if_neg e, if_neg (fun z => e (h1.trans z))]; exact ⟨h1, h2⟩
theorem KV.put {kvs : List (κ × V)} {vs : List (κ × Value)} (r : KV kvs vs) (k : κ) {y : V} {u : Value} (ry : RelV y u) : KV (putK kvs k y) (stored vs k u) := by
 unfold putK stored
 rw [r.any k]
 by_cases e : (vs.any fun kv => decide (kv.1 = k)) = true
 ·rw [if_pos e, if_pos e]; exact r.repl k ry
 ·rw [if_neg e, if_neg e]; exact Paired.snoc r ⟨rfl, ry⟩
theorem KV.length {kvs : List (κ × V)} {vs : List (κ × Value)} (r : KV kvs vs) : kvs.length = vs.length := Paired.length r
end
theorem kV_is {P : Program} {w : World} {k : Key} {u : Value} (r : RelV (kV k) u) : (mixKind P w).is k u = true := by
 cases k with
 | inl i => obtain ⟨t, e⟩ := (show ∃ t, u = Value.int i t from r); subst e; exact mixKind_int P w i t
 | inr x => obtain ⟨t, e⟩ := (show ∃ t, u = Value.str x t from r); subst e; exact mixKind_str P w x t
theorem items_are {P : Program} {w : World} : ∀ {ks : List Key} {us : List Value}, Vals (ks.map kV) us → ItemsAre (mixKind P w) ks us
 | [], _, r => by rw [List.map_nil] at r; cases r; exact .nil
 | k :: ks, _, r => by
  rw [List.map_cons] at r
  cases r with
  | cons h t => exact .cons (kV_is h) (items_are t)
abbrev KT (H : Hp) : List (List Key × V) → List (List Key × Addr × Value) → Prop := Paired fun p q => p.1 = q.1 ∧ H q.2.1 = some (.tup (p.1.map kV)) ∧ RelV p.2 q.2.2
theorem KT.val {H : Hp} {kvs : List (List Key × V)} {xs : List (List Key × Addr × Value)} (r : KT H kvs xs) (k : List Key) : RelO (valV kvs k) ((atKey xs k).map (·.2)) := by
 induction r with
 | nil => exact True.intro
 | @cons p q ps qs h t ih =>
  obtain ⟨h1, _, h2⟩ := h
  by_cases e : p.1 = k
  ·have e' : q.1 = k := h1.symm.trans e
   have b : atKey (q :: qs) k = some q.2 := by simp [atKey, List.find?_cons, e']
   rw [valV_pos e, b]; exact h2
  ·have e' : ¬ q.1 = k := fun z => e (h1.trans z)
   have b : atKey (q :: qs) k = atKey qs k := by simp [atKey, List.find?_cons, e']
   rw [valV_neg e, b]; exact ih
theorem KT.repl {H : Hp} {kvs : List (List Key × V)} {xs : List (List Key × Addr × Value)} (r : KT H kvs xs) (k : List Key) {y : V} {u : Value} (ry : RelV y u) :
  KT H (kvs.map fun kv => if kv.1 = k then (kv.1, y) else kv) (xs.map (putAt k u)) := by
 induction r with
 | nil => exact .nil
 | @cons p q ps qs h t ih =>
  rw [List.map_cons, List.map_cons]
  refine .cons ?_ ih
  obtain ⟨h1, h2, h3⟩ := h
  unfold putAt
  by_cases e : p.1 = k
  ·rw [if_pos e, if_pos (h1.symm.trans e)]; exact ⟨h1, h2, ry⟩
  ·rw [if_neg e, if_neg (fun z => e (h1.trans z))]; exact ⟨h1, h2, h3⟩
theorem KT.put {H : Hp} {kvs : List (List Key × V)} {xs : List (List Key × Addr × Value)} (r : KT H kvs xs) (k : List Key) {b : Addr} {y : V} {u : Value} (hb : H b = some (.tup (k.map kV))) (ry : RelV y u) :
  KT H (putK kvs k y) (storedH xs k b u) := by
 have e : (kvs.any fun kv => decide (kv.1 = k)) = (atKey xs k).isSome := by
  rw [valV_any, (r.val k).isSome_eq, Option.isSome_map]
 unfold putK storedH
 rw [e]
 by_cases q : (atKey xs k).isSome = true
 ·rw [if_pos q, if_pos q]; exact r.repl k ry
 ·rw [if_neg q, if_neg q]; exact Paired.snoc r ⟨rfl, hb, ry⟩
theorem KT.keeps {H H' : Hp} {kvs : List (List Key × V)} {xs : List (List Key × Addr × Value)} (r : KT H kvs xs) (ht : ∀ b ys, H b = some (.tup ys) → H' b = some (.tup ys)) : KT H' kvs xs :=
 Paired.mapP r fun _ _ z => ⟨z.1, ht _ _ z.2.1, z.2.2⟩
section
variable {P : Program} {w : World} {H : Hp} {h : Heap} {a : Addr}
theorem rd_of {u : HO} (ok : HOk P w H h) (e : Rd H a u) : ObjOk P w H h a u := e.ok ok
theorem dk_rd {kvs : List (Key × V)} (ok : HOk P w H h) (e : Rd H a (.dK kvs)) : kvs.length ≤ sizeLine ∧ (a == sysModules) = false ∧ ∃ vs, KV kvs vs ∧ h.DictOf (mixKind P w) a vs :=
 show ObjOk P w H h a (.dK kvs) from rd_of ok e
theorem dk_of {kvs : List (Key × V)} (ok : HOk P w H h) (e : H a = some (.dK kvs)) : kvs.length ≤ sizeLine ∧ (a == sysModules) = false ∧ ∃ vs, KV kvs vs ∧ h.DictOf (mixKind P w) a vs := dk_rd ok (.inl e)
theorem key_of {ks : List Key} (ok : HOk P w H h) (e : H a = some (.tup (ks.map kV))) : (tupleKind (mixKind P w)).is h ks a := by
 obtain ⟨_, its, r, o, h1, h2, n, h3⟩ := (show ObjOk P w H h a (.tup (ks.map kV)) from ok a _ e)
 exact ⟨o, its.toArray, n, h1, h2, h3, by simpa using items_are r⟩
theorem dt_rd {kvs : List (List Key × V)} (ok : HOk P w H h) (e : Rd H a (.dT kvs)) : kvs.length ≤ sizeLine ∧ (a == sysModules) = false ∧
  ∃ xs, KT H kvs xs ∧ h.DictOfH (tupleKind (mixKind P w)) a xs := by
 obtain ⟨z, y, xs, r, o, es, ep, h1, h2, h3, h4, h5⟩ := (show ObjOk P w H h a (.dT kvs) from rd_of ok e)
 refine ⟨z, y, xs, r, o, es, ep, h1, h2, h3, h4, fun x hx => ?_, h5⟩
 have all : ∀ {l : List (List Key × V)} {m : List (List Key × Addr × Value)}, KT H l m → ∀ x ∈ m, (tupleKind (mixKind P w)).is h x.1 x.2.1 := by
  intro l m q
  induction q with
  | nil => intro x hx; exact nomatch hx
  | @cons p q ps qs hq t ih =>
   intro x hx
   rcases List.mem_cons.mp hx with e | hx
   ·subst e
    exact key_of ok (by rw [← hq.1]; exact hq.2.1)
   ·exact ih x hx
 exact all r x hx
theorem dt_of {kvs : List (List Key × V)} (ok : HOk P w H h) (e : H a = some (.dT kvs)) : kvs.length ≤ sizeLine ∧ (a == sysModules) = false ∧
  ∃ xs, KT H kvs xs ∧ h.DictOfH (tupleKind (mixKind P w)) a xs := dt_rd ok (.inl e)
end
def DGet (H : Hp) (a : Addr) (y : V) (r : Option V) : Prop :=
 (∃ kvs k, Rd H a (.dK kvs) ∧ y = kV k ∧ r = valV kvs k) ∨ ∃ kvs k b, Rd H a (.dT kvs) ∧ y = .ref b ∧ H b = some (.tup (k.map kV)) ∧ r = valV kvs k
def DPut (H : Hp) (a : Addr) (y v : V) (H' : Hp) : Prop :=
 (∃ kvs k, H a = some (.dK kvs) ∧ y = kV k ∧ kvs.length < sizeLine ∧ H' = upd H a (.dK (putK kvs k v))) ∨
 ∃ kvs k b, H a = some (.dT kvs) ∧ y = .ref b ∧ H b = some (.tup (k.map kV)) ∧ kvs.length < sizeLine ∧ H' = upd H a (.dT (putK kvs k v))
theorem DGet.k {H : Hp} {a : Addr} {kvs : List (Key × V)} {k : Key} (e : H a = some (.dK kvs)) : DGet H a (kV k) (valV kvs k) := .inl ⟨kvs, k, .inl e, rfl, rfl⟩
theorem DGet.t {H : Hp} {a b : Addr} {kvs : List (List Key × V)} {k : List Key} (e : H a = some (.dT kvs)) (eb : H b = some (.tup (k.map kV))) : DGet H a (.ref b) (valV kvs k) := .inr ⟨kvs, k, b, .inl e, rfl, eb, rfl⟩
theorem DPut.k {H : Hp} {a : Addr} {kvs : List (Key × V)} {k : Key} {v : V} (e : H a = some (.dK kvs)) (hl : kvs.length < sizeLine) : DPut H a (kV k) v (upd H a (.dK (putK kvs k v))) := .inl ⟨kvs, k, e, rfl, hl, rfl⟩
theorem DPut.t {H : Hp} {a b : Addr} {kvs : List (List Key × V)} {k : List Key} {v : V} (e : H a = some (.dT kvs)) (eb : H b = some (.tup (k.map kV))) (hl : kvs.length < sizeLine) :
  DPut H a (.ref b) v (upd H a (.dT (putK kvs k v))) := .inr ⟨kvs, k, b, e, rfl, eb, hl, rfl⟩
section
variable {X : Cx} {pins : List (Addr × Obj)} {σ : St} {H : Hp} {s : Shared} {a : Addr} {y v : V} {u r : Value} {o : Option V} {A : Around} {E : Value → Shared → Prop}
theorem Inv.big (I : Inv X pins σ H s) : sysModules < s.heap.objs.size := by
 have h : mainGlobals < s.heap.objs.size := (I.mod.glob.keeps I.bk).lt
 exact Nat.lt_trans (by decide) h
theorem d_getItem {Q : Value → Shared → Prop} (hu : A.units + 1 < cLine) (I : Inv X pins σ H s) (g : DGet H a y (some v)) (ry : RelV y u) (h : ∀ w' s', Inv X pins σ H s' → RelV v w' → Q w' s') :
  wpAny (model X.prog X.w) A (getItem (.ref a) u) Q E s := by
 rcases g with ⟨kvs, k, e, ey, l⟩ | ⟨kvs, k, b, e, ey, eb, l⟩
 ·subst ey
  obtain ⟨z, hd, vs, rel, dd⟩ := dk_rd I.hok e
  obtain ⟨w', hw, rw'⟩ := RelO.some_of (v := v) (o := valueAt vs k) (by rw [l]; exact rel.val k)
  exact wpAny_getItem_of (kV_is ry) dd.mapOf hw (h w' _ (I.tok _) rw')
 ·subst ey
  cases (show u = Value.ref b from ry)
  obtain ⟨z, hd, xs, rel, dd⟩ := dt_rd I.hok e
  obtain ⟨w', hw, rw'⟩ := RelO.some_of (v := v) (o := (atKey xs k).map (·.2)) (by rw [l]; exact rel.val k)
  obtain ⟨p, hp, hp2⟩ := Option.map_eq_some_iff.mp hw
  refine wpAny_getItem_heap (tupleKind_room_in1 hu) (key_of I.hok eb) dd hp ?_
  rw [hp2]
  exact h w' _ (I.tok _) rw'
theorem d_write {h' : Heap} {t' : Nat} {ob : HO} (I : Inv X pins σ H s) (mu : Mut (H a)) (hs : Heap.SameBut a s.heap h') (he : ∃ q, h'.get? a = some q) (new : ObjOk X.prog X.w (upd H a ob) h' a ob) :
  Inv X pins σ (upd H a ob) { s with heap := h', toks := t' } :=
 I.write (x := a) (e := a) mu (.inl rfl) (fun b q hb z => (hs.2 b hb).trans z) he new
theorem dk_new {P : Program} {w : World} {H' : Hp} {h' : Heap} {kvs : List (Key × V)} {vs : List (Key × Value)} (z : kvs.length ≤ sizeLine) (hd : (a == sysModules) = false) (rel : KV kvs vs) (dd : h'.DictOf (mixKind P w) a vs) :
  ObjOk P w H' h' a (.dK kvs) := ⟨z, hd, vs, rel, dd⟩
theorem d_setItem {H' : Hp} {Q : Unit → Shared → Prop} (hu : A.units + 1 < cLine) (I : Inv X pins σ H s) (g : DPut H a y v H') (ry : RelV y u) (rv : RelV v r) (h : ∀ s', Inv X pins σ H' s' → Q () s') :
  wpAny (model X.prog X.w) A (setItem (.ref a) u r) Q E s := by
 rcases g with ⟨kvs, k, e, ey, l, eH⟩ | ⟨kvs, k, b, e, ey, eb, l, eH⟩
 ·subst ey eH
  obtain ⟨z, hd, vs, rel, dd⟩ := dk_of I.hok e
  have hz : vs.length ≤ sizeLine := by rw [← rel.length]; exact z
  have hl : (putK kvs k v).length ≤ sizeLine := by have := length_putK kvs k v; omega
  refine wpAny_setItem_pairs (hsz := hz) (kV_is ry) dd fun h' dd' hs => h _ ?_
  have he : ∃ q, h'.get? a = some q := let ⟨q, _, _, hq, _⟩ := dd'; ⟨q, hq⟩
  exact d_write I (by rw [e]; exact True.intro) hs he (dk_new hl hd (rel.put k rv) dd')
 ·subst ey eH
  cases (show u = Value.ref b from ry)
  obtain ⟨z, hd, xs, rel, dd⟩ := dt_of I.hok e
  have hz : xs.length ≤ sizeLine := by rw [← Paired.length rel]; exact z
  have hl : (putK kvs k v).length ≤ sizeLine := by have := length_putK kvs k v; omega
  refine wpAny_setItem_heap (hsz := hz) (tupleKind_room_in1 hu) (key_of I.hok eb) dd fun h' dd' hs => h _ ?_
  obtain ⟨q, es, ep, hq, h2, h3, h4, _, h5⟩ := dd'
  refine d_write I (by rw [e]; exact True.intro) hs ⟨q, hq⟩ ⟨hl, hd, _, (rel.put k eb rv).keeps fun c ys ec => ?_, q, es, ep, hq, h2, h3, h4, h5⟩
  rw [upd_ne (ne_of ec e (fun z => nomatch z))]
  exact ec
end
def NoSl (i : Expr) : Prop := ∀ ov iv, subscripted i false ov iv = operate [ov, iv] (getItem ov iv)
theorem subD_of {prog : Program} {w : World} {A : Around} {E : Value → Shared → Prop} {s : Shared} {env : Env} {value slice : Expr} {pos : Pos} {T id : String} {Q : Value → Shared → Prop}
  (hl : typeLookup (.type T) "__getitem__" = pure (some (.builtin id))) (hs : NoSl slice)
  (h : wpAny (model prog w) A (eval value env) (fun o s₁ => wpAny (model prog w) A (eval slice env) (fun i s₂ => s₂.TypeIs o T ∧ wpAny (model prog w) A (getItem o i) Q E s₂) E s₁) E s) :
  wpAny (model prog w) A (eval (.Subscript value slice pos) env) Q E s := by
 refine Subscript_ (wpAny_mono h (fun o s₁ h₁ => wpAny_mono h₁ (fun i s₂ h₂ => ?_) fun _ _ x => x) fun _ _ x => x)
 obtain ⟨hT, h₂⟩ := h₂
 unfold subscriptTail
 refine wpAny_bind ?_
 rw [getitemInPython_of_ne hT.not_modules]
 refine wpAny_bind (wpAny_specialOf hT hl ?_)
 have fin : wpAny (model prog w) A (subscripted slice false o i) (fun r s₃ => wpAny (model prog w) A (letTemporaryGo value o r >>= fun _ => pure r) Q E s₃) E s₂ := by
  rw [hs o i]
  exact wpAny_operating (wpAny_mono h₂ (fun r s₃ h₃ => wpAny_bind (wpAny_letTemporaryGo (wpAny_pure h₃))) fun _ _ x => x)
 first
  | exact wpAny_pure (wpAny_bind fin)
  | exact wpAny_bind (wpAny_pure (wpAny_bind fin))
  | exact wpAny_bind fin
theorem dict_typeIs {X : Cx} {pins : List (Addr × Obj)} {σ : St} {H : Hp} {s : Shared} {a : Addr} {y : V} {o : Option V} (I : Inv X pins σ H s) (g : DGet H a y o) : s.TypeIs (.ref a) "dict" := by
 rcases g with ⟨kvs, k, e, _, _⟩ | ⟨kvs, k, b, e, _, _, _⟩
 ·obtain ⟨_, _, vs, _, dd⟩ := dk_rd I.hok e
  exact dd.typeIs
 ·obtain ⟨_, _, xs, _, dd⟩ := dt_rd I.hok e
  exact dd.typeIs
def tDGet (td ty : TE) : TE := fun σ H Q => td σ H fun x H1 => ty σ H1 fun y H2 => ∃ a v, x = .ref a ∧ DGet H2 a y (some v) ∧ Q v H2
def sDPut (td ty tv : TE) : TS := fun D σ H => tv σ H fun v H1 => td σ H1 fun x H2 => ty σ H2 fun y H3 => ∃ a H4, x = .ref a ∧ DPut H3 a y v H4 ∧ D.nx σ H4
section
variable {X : Cx} {o i e value : Expr} {pos pos' tpos : Pos} {td ty tv : TE}
theorem pe_dget (hu : X.A.units + 1 < cLine) (ho : PE X o td) (hi : PE X i ty) (hs : NoSl i) : PE X (.Subscript o i pos) (tDGet td ty) := by
 intro pins s σ H Q I h
 refine subD_of PySem.F.slot_dict_getitem.lookup hs (thn (ho pins s σ H _ I h) fun u s1 ⟨x, H1, I1, rx, q1⟩ => thn (hi pins s1 σ H1 _ I1 q1) fun iv s2 ⟨y, H2, I2, ry, a, v, ex, g, q2⟩ => ?_)
 subst ex
 obtain rfl : u = Value.ref a := rx
 exact ⟨dict_typeIs I2 g, d_getItem hu I2 g ry fun w' s3 I3 rw' => ⟨v, H2, I3, rw', q2⟩⟩
theorem ps_dput (hu : X.A.units + 1 < cLine) (ho : PE X o td) (hi : PE X i ty) (hv : PE X value tv) (hs : swapsWith value (some (.Subscript o i pos')) pos.line X.env = pure false) :
  PS X (.Assign [.Subscript o i pos'] value pos) (sDPut td ty tv) := by
 intro pins s σ H D I h
 refine wpAny_Assign_Subscript (thn (hv pins s σ H _ I h) fun r s1 ⟨v, H1, I1, rv, q1⟩ => thn (ho pins s1 σ H1 _ I1 q1) fun u s2 ⟨x, H2, I2, rx, q2⟩ => thn (hi pins s2 σ H2 _ I2 q2) fun iv s3 ⟨y, H3, I3, ry, a, H4, ex, g, q3⟩ => ?_) hs
 subst ex
 obtain rfl : u = Value.ref a := rx
 exact d_setItem hu I3 g ry rv fun s4 I4 => ⟨σ, H4, I4, q3⟩
end
theorem dk_empty {P : Program} {w : World} {H : Hp} (h : Heap) (hb : sysModules < h.objs.size) : ObjOk P w H (h.push { cls := .type "dict", data := .dict #[] }) h.objs.size (.dK []) :=
 ⟨Nat.zero_le _, beq_eq_false_iff_ne.mpr (Ne.symm (Nat.ne_of_lt hb)), [], .nil, Heap.DictOf.new h⟩
theorem dt_empty {P : Program} {w : World} {H : Hp} (h : Heap) (hb : sysModules < h.objs.size) : ObjOk P w H (h.push { cls := .type "dict", data := .dict #[] }) h.objs.size (.dT []) :=
 ⟨Nat.zero_le _, beq_eq_false_iff_ne.mpr (Ne.symm (Nat.ne_of_lt hb)), [], .nil, _, #[], 0, Heap.get?_push_size _ rfl, ⟨rfl, rfl, rfl⟩, rfl, rfl, List.nodup_nil⟩
def tDNewK : TE := fun _ H Q => ∀ p, H p = none → Q (.ref p) (upd H p (.dK []))
def tDNewT : TE := fun _ H Q => ∀ p, H p = none → Q (.ref p) (upd H p (.dT []))
section
variable {X : Cx} {pos : Pos}
theorem pe_dnewK : PE X (.Dict [] [] pos) tDNewK := fun pins s σ H Q I h =>
 wpAny_Dict_empty ⟨.ref s.heap.objs.size, _, I.laid (a := s.heap.objs.size) (o := .dK []) (t' := s.toks) (fun _ _ q => Heap.get?_push_of_some _ q) (Nat.le_refl _) (dk_empty s.heap I.big), rfl, h _ (I.hok.fresh (Nat.le_refl _))⟩
theorem pe_dnewT : PE X (.Dict [] [] pos) tDNewT := fun pins s σ H Q I h =>
 wpAny_Dict_empty ⟨.ref s.heap.objs.size, _, I.laid (a := s.heap.objs.size) (o := .dT []) (t' := s.toks) (fun _ _ q => Heap.get?_push_of_some _ q) (Nat.le_refl _) (dt_empty s.heap I.big), rfl, h _ (I.hok.fresh (Nat.le_refl _))⟩
end
def tPairs : List (TE × TE) → St → Hp → (List (V × V) → Hp → Prop) → Prop
 | [], _, H, Q => Q [] H
 | (tk, tv) :: r, σ, H, Q => tk σ H fun x H1 => tv σ H1 fun y H2 => tPairs r σ H2 fun ps H3 => Q ((x, y) :: ps) H3
abbrev VV : List (V × V) → List (Value × Value) → Prop := Paired fun p q => RelV p.1 q.1 ∧ RelV p.2 q.2
def PPs (X : Cx) (pos : Pos) (keys : List (Option Expr)) (values : List Expr) (trs : List (TE × TE)) : Prop :=
 ∀ (pins : List (Addr × Obj)) (s : Shared) (σ : St) (H : Hp) (Q : List (V × V) → Hp → Prop), Inv X pins σ H s → tPairs trs σ H Q →
  wpAny (model X.prog X.w) X.A (evalPairs (pairTrees keys values X.env pos)) (fun vs s' => ∃ ps H', Inv X pins σ H' s' ∧ VV ps vs ∧ Q ps H') X.xe s
theorem pps_nil {X : Cx} {pos : Pos} : PPs X pos [] [] [] := fun pins s σ H Q I h => pairTrees_nil_walk ⟨[], H, I, .nil, h⟩
theorem pps_cons {X : Cx} {pos : Pos} {k v : Expr} {ks : List (Option Expr)} {vs : List Expr} {tk tv : TE} {trs : List (TE × TE)} (hk : PE X k tk) (hv : PE X v tv) (hr : PPs X pos ks vs trs) :
  PPs X pos (some k :: ks) (v :: vs) ((tk, tv) :: trs) := fun pins s σ H Q I h =>
 pairTrees_cons_walk (thn (hk pins s σ H _ I h) fun u s1 ⟨x, H1, I1, rx, q1⟩ => thn (hv pins s1 σ H1 _ I1 q1) fun w2 s2 ⟨y, H2, I2, ry, q2⟩ =>
  thn (hr pins s2 σ H2 _ I2 q2) fun ws s3 ⟨ps, H3, I3, rel, q3⟩ => ⟨(x, y) :: ps, H3, I3, .cons ⟨rx, ry⟩ rel, q3⟩)
def mergeK (kvs more : List (Key × V)) : List (Key × V) := more.foldl (fun acc kv => putK acc kv.1 kv.2) kvs
theorem KV.merge : ∀ {more : List (Key × V)} {rs : List (Key × Value)} {kvs : List (Key × V)} {vs : List (Key × Value)}, KV more rs → KV kvs vs → KV (mergeK kvs more) (merged vs rs) := by
 intro more rs kvs vs r
 unfold KV at r
 induction r generalizing kvs vs with
 | nil => intro q; exact q
 | @cons p q ps qs h t ih =>
  intro r0
  have e : KV (putK kvs p.1 p.2) (stored vs q.1 q.2) := by
   have := r0.put p.1 h.2
   rw [← h.1]; exact this
  exact ih e
theorem length_mergeK : ∀ (more kvs : List (Key × V)), (mergeK kvs more).length ≤ kvs.length + more.length
 | [], kvs => by show kvs.length ≤ kvs.length + 0; omega
 | p :: r, kvs => by
  have h1 := length_mergeK r (putK kvs p.1 p.2)
  have h2 := length_putK kvs p.1 p.2
  show (mergeK (putK kvs p.1 p.2) r).length ≤ _
  rw [List.length_cons]; omega
theorem carries_of {P : Program} {w : World} : ∀ {kvs : List (Key × V)} {ws : List (Value × Value)}, VV (kvs.map fun kv => (kV kv.1, kv.2)) ws → ∃ rs, Carries (mixKind P w) ws rs ∧ KV kvs rs
 | [], _, r => by rw [List.map_nil] at r; cases r; exact ⟨[], True.intro, .nil⟩
 | p :: kvs, _, r => by
  rw [List.map_cons] at r
  cases r with
  | @cons a b as bs h t =>
   obtain ⟨rs, c, q⟩ := carries_of (P := P) (w := w) t
   obtain ⟨b1, b2⟩ := b
   exact ⟨(p.1, b2) :: rs, ⟨kV_is h.1, rfl, c⟩, .cons ⟨rfl, h.2⟩ q⟩
def tDisp (trs : List (TE × TE)) : TE := fun σ H Q => ∀ p, H p = none → tPairs trs σ (upd H p (.dK [])) fun ps H2 => H2 p = some (.dK []) ∧ ∃ kvs : List (Key × V), ps = kvs.map (fun kv => (kV kv.1, kv.2)) ∧ kvs.length ≤ 15 ∧ Q (.ref p) (upd H2 p (.dK (mergeK [] kvs)))
theorem pe_disp {X : Cx} {pos : Pos} {keys : List (Option Expr)} {values : List Expr} {trs : List (TE × TE)} (h : PPs X pos keys values trs) (hall : keys.all (·.isSome) = true) (hl : keys.length = values.length) (h0 : keys ≠ [])
  (h15 : keys.length ≤ 15) : PE X (.Dict keys values pos) (tDisp trs) := by
 intro pins s σ H Q I q
 have hn := I.hok.fresh (Nat.le_refl s.heap.objs.size)
 have I1 := I.laid (a := s.heap.objs.size) (o := .dK []) (h' := s.heap.push { cls := .type "dict", data := .dict #[] }) (t' := s.toks) (fun _ _ q => Heap.get?_push_of_some _ q) (Nat.le_refl _) (dk_empty s.heap I.big)
 refine wpAny_Dict_walk (knd := mixKind X.prog X.w) hall hl h0 h15 (thn (h pins _ σ _ _ I1 (q _ hn)) fun ws s2 ⟨ps, H2, I2, rel, e, kvs, ep, lk, q2⟩ => ?_)
 subst ep
 obtain ⟨rs, c, rk⟩ := carries_of (P := X.prog) (w := X.w) rel
 obtain ⟨z, hd, vs0, r0, dd⟩ := dk_of I2.hok e
 cases r0
 refine ⟨rs, c, dd, fun h' dd' hs => ⟨.ref s.heap.objs.size, _, ?_, rfl, q2⟩⟩
 have hz : (mergeK [] kvs).length ≤ sizeLine := by
  have h1 := length_mergeK kvs []
  rw [List.length_nil] at h1
  rw [sizeLine_eq]; omega
 have he : ∃ q, h'.get? s.heap.objs.size = some q := let ⟨q, _, _, hq, _⟩ := dd'; ⟨q, hq⟩
 exact d_write I2 (by rw [e]; exact True.intro) hs he (dk_new hz hd (rk.merge .nil) dd')
structure M2 (X : Cx) (o : Expr) (m : Str) (apos : Pos) (e f : Expr) (cpos : Pos) : Prop where
 base : attributeBase o m X.env (eval o X.env) = eval o X.env
 few : ((backTo cpos (starEach [e, f] X.env)).all (fun x => !x.1) && (backToKw cpos (keywordEach [] X.env)).all (fun x => x.1.isSome)
  && decide (([e, f] : List Expr).length + ([] : List Keyword).length + (if ([] : List Keyword).isEmpty then 0 else 1) < 30)) = true
 line : (apos.endLine == cpos.line) = true
 trees : backTo cpos (starEach [e, f] X.env) = [(false, eval e X.env), (false, eval f X.env)]
def IsD (H : Hp) (a : Addr) : Prop := (∃ kvs, Rd H a (.dK kvs)) ∨ ∃ kvs, Rd H a (.dT kvs)
theorem isD_at {X : Cx} {pins : List (Addr × Obj)} {σ : St} {H : Hp} {s : Shared} {a : Addr} (I : Inv X pins σ H s) (d : IsD H a) :
  s.TypeIs (.ref a) "dict" ∧ (∀ b, Value.ref a = .ref b → ∃ ob, s.heap.get? b = some ob ∧ ob.dict = none) ∧ (a == sysModules) = false := by
 rcases d with ⟨kvs, e⟩ | ⟨kvs, e⟩
 ·obtain ⟨_, hd, vs, _, dd⟩ := dk_rd I.hok e
  refine ⟨dd.typeIs, fun b q => ?_, hd⟩
  cases q
  obtain ⟨ob, _, _, h1, h2, _⟩ := dd
  exact ⟨ob, h1, h2.2.1⟩
 ·obtain ⟨_, hd, xs, _, dd⟩ := dt_rd I.hok e
  refine ⟨dd.typeIs, fun b q => ?_, hd⟩
  cases q
  obtain ⟨ob, _, _, h1, h2, _⟩ := dd
  exact ⟨ob, h1, h2.2.1⟩
section
variable {X : Cx} {pins : List (Addr × Obj)} {σ : St} {H : Hp} {s : Shared} {a : Addr} {y d : V} {u r : Value} {o : Option V} {A : Around} {E : Value → Shared → Prop}
theorem d_get2 {Q : Value → Shared → Prop} (hu : A.units + 1 < cLine) (I : Inv X pins σ H s) (g : DGet H a y o) (ry : RelV y u) (rd : RelV d r) (h : ∀ w' s', Inv X pins σ H s' → RelV (o.getD d) w' → Q w' s') :
  wpAny (model X.prog X.w) A (call (.builtin "dict.get") [.ref a, u, r]) Q E s := by
 rcases g with ⟨kvs, k, e, ey, l⟩ | ⟨kvs, k, b, e, ey, eb, l⟩
 ·subst ey
  obtain ⟨z, hd, vs, rel, dd⟩ := dk_rd I.hok e
  refine call_meetsIn PySem.F.slot_dict_get dd.typeIs PySem.F.entry_dict_get (PySem.F.args_dict_get_3 _ _ _) (meets_dict_get_default (mixKind X.prog X.w) a (kV_is ry) hd r) ⟨_, dd.mapOf, h _ _ (I.tok _) ?_⟩
  rw [l]
  exact (rel.val k).getD rd
 ·subst ey
  cases (show u = Value.ref b from ry)
  obtain ⟨z, hd, xs, rel, dd⟩ := dt_rd I.hok e
  refine call_meetsIn PySem.F.slot_dict_get dd.typeIs PySem.F.entry_dict_get (PySem.F.args_dict_get_3 _ _ _) (meetsH_dict_get_default (tupleKind (mixKind X.prog X.w)) a b hd r) ⟨tupleKind_room_in1 hu, k, xs, key_of I.hok eb, dd, h _ _ (I.tok _) ?_⟩
  rw [l]
  exact (rel.val k).getD rd
end
def tDGet2 (td ty tx : TE) : TE := fun σ H Q => td σ H fun x H1 => ∃ a, x = .ref a ∧ IsD H1 a ∧ ty σ H1 fun y H2 => tx σ H2 fun z H3 => ∃ o, DGet H3 a y o ∧ Q (o.getD z) H3
section
variable {X : Cx} {o e f : Expr} {apos cpos : Pos} {td ty tx : TE}
theorem pe_dget2 (hu : X.A.units + 1 < cLine) (ho : PE X o td) (he : PE X e ty) (hf : PE X f tx) (m : M2 X o "get" apos e f cpos) : PE X (.Call (.Attribute o "get" apos) [e, f] [] cpos) (tDGet2 td ty tx) := by
 intro pins s σ H Q I h
 refine wpAny_Call_method m.base m.few m.line PySem.F.plainAttrs_dict PySem.F.slot_dict_get PySem.F.type_dict_get (thn (ho pins s σ H _ I h) fun u s1 ⟨x, H1, I1, rx, a, ex, d, q1⟩ => ?_)
 subst ex
 obtain rfl : u = Value.ref a := rx
 obtain ⟨t1, t2, _⟩ := isD_at I1 d
 refine ⟨t1, t2, ?_⟩
 rw [m.trees]
 refine Calls.callWith_builtin rfl (Calls.evalArgs_plain (Calls.spliced_cons (thn (he pins s1 σ H1 _ I1 q1) fun iv s2 ⟨y, H2, I2, ry, q2⟩ =>
  Calls.spliced_cons (thn (hf pins s2 σ H2 _ I2 q2) fun fv s3 ⟨z, H3, I3, rz, ov, g, q3⟩ => Calls.spliced_nil ?_))))
 exact d_get2 hu I3 g ry rz fun w' s4 I4 rw' => ⟨_, H3, I4, rw', q3⟩
end
end L2
namespace L2
open PySem PySem.Spec PyProof.Rows
end L2
namespace L2
open PySem PySem.Spec PyProof.Rows
section
variable {X : Cx} {pins : List (Addr × Obj)} {σ : St} {H : Hp} {s : Shared} {h' : Heap}
theorem Inv.turnedL {t' : Nat} {ch : List Addr} (I : Inv X pins σ H s) (k : ∀ b o, b ∉ ch → s.heap.get? b = some o → h'.get? b = some o) (hf : ∀ b ∈ ch, FpOk X pins H b) : Inv X pins σ H { s with heap := h', toks := t' } := by
 have nit : ∀ b u, H b = some u → b ∉ ch := fun b u e z => by
  have q := (hf b z).1
  rw [q] at e; cases e
 refine I.step (g' := s.gens) (d' := s.drawn) (ch := ch) (fun b hb => ⟨(hf b hb).2.2.2.1, (hf b hb).2.1, (hf b hb).2.2.2.2.1, (hf b hb).2.2.2.2.2⟩) (fun b o _ _ hc e _ => k b o hc e) (fun b o _ _ hc e _ => ⟨o.slots, k b o hc e⟩)
  (fun _ _ _ _ n => n) (fun b o hc e => ⟨o, k b o hc e⟩) (fun _ _ e => e) (fun _ _ _ e => e) (fun b ps e => ⟨#[], by rw [e]; simp⟩) (fun m hm => ?_) (fun b u e => ?_) I.bare
 ·obtain ⟨o, es, ep, ho, r⟩ := hm
  exact ⟨o, es, ep, k _ o (fun z => (hf _ z).2.1 rfl) ho, r⟩
 ·refine (I.hok b u e).stay (fun c v hc q => k c v ?_ q) (fun _ q => q) fun _ _ q => q
  rcases hc with z | z
  ·rw [z]; exact nit b u e
  ·exact nit c _ z
theorem Inv.turnedNew {t' : Nat} {ch : List Addr} {T : Addr} {ob : HO} (I : Inv X pins σ H s) (k : ∀ b o, b ∉ ch → s.heap.get? b = some o → h'.get? b = some o) (hf : ∀ b ∈ ch, FpOk X pins H b) (hT : s.heap.objs.size ≤ T)
  (new : ObjOk X.prog X.w (upd H T ob) h' T ob) : Inv X pins σ (upd H T ob) { s with heap := h', toks := t' } := by
 have hn : H T = none := I.hok.fresh hT
 have nit : ∀ b u, H b = some u → b ∉ ch := fun b u e z => by
  have q := (hf b z).1
  rw [q] at e; cases e
 refine I.step (g' := s.gens) (d' := s.drawn) (ch := ch) (fun b hb => ⟨(hf b hb).2.2.2.1, (hf b hb).2.1, (hf b hb).2.2.2.2.1, (hf b hb).2.2.2.2.2⟩) (fun b o _ _ hc e _ => k b o hc e) (fun b o _ _ hc e _ => ⟨o.slots, k b o hc e⟩)
  (fun b o _ e n => ?_) (fun b o hc e => ⟨o, k b o hc e⟩) (fun b xs e => ?_) (fun b o u e => ?_) (fun b ps e => ⟨#[], ?_⟩) (fun m hm => ?_) (fun b u e => ?_) I.bare
 ·rw [upd_ne (Nat.ne_of_lt (Nat.lt_of_lt_of_le (Heap.lt_size e) hT))]; exact n
 ·rw [upd_ne (ne_of_none e hn)]; exact e
 ·rw [upd_ne (ne_of_none e hn)]; exact e
 ·rw [upd_ne (ne_of_none e hn), e]; simp
 ·obtain ⟨o, es, ep, ho, r⟩ := hm
  exact ⟨o, es, ep, k _ o (fun z => (hf _ z).2.1 rfl) ho, r⟩
 ·by_cases hb : b = T
  ·subst hb
   rw [upd_same] at e
   cases e
   exact new
  ·rw [upd_ne hb] at e
   refine (I.hok b u e).stay (fun c v hc q => k c v ?_ q) (fun c q => by rw [upd_ne (ne_of_none q hn)]; exact q) fun c xs q => by rw [upd_ne (ne_of_none q hn)]; exact q
   rcases hc with z | z
   ·rw [z]; exact nit b u e
   ·exact nit c _ z
theorem Inv.lock {d : Addr} {u : HO} (I : Inv X pins σ H s) (h : H d = some u) (mu : Mut (some u)) : ∃ od, Inv X pins σ (upd H d (.frz od u)) s := by
 have x := I.hok d u h
 have ex : ∃ od, s.heap.get? d = some od := by
  cases u with
  | lst xs => obtain ⟨_, _, _, _, e⟩ := x; exact ⟨_, e⟩
  | dK kvs => obtain ⟨_, _, _, _, o, _, _, e, _⟩ := x; exact ⟨o, e⟩
  | dT kvs => obtain ⟨_, _, _, _, o, _, _, e, _⟩ := x; exact ⟨o, e⟩
  | set S n => obtain ⟨o, _, _, _, e, _⟩ := x; exact ⟨o, e⟩
  | ins C dx fs => obtain ⟨_, _, _, e, _⟩ := x; exact ⟨_, e⟩
  | ext φ => obtain ⟨_, ⟨_, e⟩, _⟩ := x; exact ⟨_, e⟩
  | _ => exact False.elim mu
 obtain ⟨od, e⟩ := ex
 have new : ObjOk X.prog X.w (upd H d (.frz od u)) s.heap d (.frz od u) := by
  refine ⟨e, x.stay (fun b v _ q => q) (fun b q => ?_) fun b xs q => ?_⟩
  ·rw [upd_ne (fun z => by rw [z, h] at q; cases q; exact mu)]; exact q
  ·rw [upd_ne (fun z => by rw [z, h] at q; cases q; exact mu)]; exact q
 exact ⟨od, I.write (x := d) (e := d) (t' := s.toks) (h' := s.heap) (by rw [h]; exact mu) (.inl rfl) (fun b v _ q => q) ⟨od, e⟩ new⟩
theorem Inv.nofrz {d : Addr} {u : HO} (I : Inv X pins σ H s) (h : H d = some u) (mu : Mut (some u)) : ∀ o' u', X.H_0 d ≠ some (.frz o' u') := fun o' u' e => by
 have q := I.base.frzs d o' u' e
 rw [h] at q
 cases q
 exact mu
theorem Inv.unlock {d : Addr} {od : Obj} {u : HO} (I : Inv X pins σ H s) (h : H d = some (.frz od u)) (hn : ∀ o' u', X.H_0 d ≠ some (.frz o' u')) : Inv X pins σ (upd H d u) s := by
 have neH : ∀ b o, H b = some o → (∀ o' u', o ≠ .frz o' u') → b ≠ d := fun b o e hne z => by
  rw [z, h] at e
  cases e
  exact hne _ _ rfl
 have neN : ∀ b, H b = none → b ≠ d := fun b e z => by rw [z, h] at e; cases e
 refine ⟨I.ok, I.os, I.bare, ⟨I.base.keep, I.base.slot, fun b o e n hx => ?_, I.base.there, fun b xs e => ?_, fun b o x e => ?_, fun b ps e => ?_⟩, I.loc, I.cell, ?_, fun x c e => ?_, fun p hp => ?_, fun b o e => ?_, I.len⟩
 ·rw [upd_ne (neN b (I.base.free b o e n hx))]; exact I.base.free b o e n hx
 ·have q := I.base.tups b xs e
  rw [upd_ne (neH b _ q (fun _ _ z => nomatch z))]; exact q
 ·have q := I.base.frzs b o x e
  rw [upd_ne (fun z => by rw [z] at e; exact hn _ _ e)]; exact q
 ·obtain ⟨m, q⟩ := I.base.tbls b ps e
  exact ⟨m, by rw [upd_ne (neH b _ q (fun _ _ z => nomatch z))]; exact q⟩
 ·rw [upd_ne (neN _ I.free)]; exact I.free
 ·rw [upd_ne (neN c (I.freeC x c e))]; exact I.freeC x c e
 ·obtain ⟨e, n, r⟩ := I.pin p hp
  exact ⟨e, by rw [upd_ne (neN _ n)]; exact n, r⟩
 ·by_cases hb : b = d
  ·rw [hb, upd_same] at e
   cases e
   rw [hb]
   obtain ⟨_, x⟩ := I.hok d _ h
   exact x.stay (fun c v _ q => q) (fun c q => by rw [upd_ne (neH c _ q (fun _ _ z => nomatch z))]; exact q) fun c xs q => by rw [upd_ne (neH c _ q (fun _ _ z => nomatch z))]; exact q
  ·rw [upd_ne hb] at e
   exact (I.hok b o e).stay (fun c v _ q => q) (fun c q => by rw [upd_ne (neH c _ q (fun _ _ z => nomatch z))]; exact q) fun c xs q => by rw [upd_ne (neH c _ q (fun _ _ z => nomatch z))]; exact q
end
def tLock (t : TS) : TS := fun D σ H => ∃ d u, H d = some u ∧ Mut (some u) ∧ ∀ od, t ⟨fun σ' H' => H' d = some (.frz od u) ∧ D.nx σ' (upd H' d u), fun v H' => H' d = some (.frz od u) ∧ D.rt v (upd H' d u), fun σ' H' => H' d = some (.frz od u) ∧ D.bk σ' (upd H' d u), fun σ' H' => H' d = some (.frz od u) ∧ D.ct σ' (upd H' d u)⟩ σ (upd H d (.frz od u))
section
variable {X : Cx}
theorem ps_lock {st : Stmt} {t : TS} (h : PS X st t) : PS X st (tLock t) := by
 intro pins s σ H D I hw
 obtain ⟨d, u, hd, mu, hw⟩ := hw
 obtain ⟨od, I1⟩ := I.lock hd mu
 refine thn (h pins s σ _ _ I1 (hw od)) fun f s1 q => ?_
 cases f with
 | next => obtain ⟨σ', H', I2, e, q⟩ := q; exact ⟨σ', _, I2.unlock e (I.nofrz hd mu), q⟩
 | brk => obtain ⟨σ', H', I2, e, q⟩ := q; exact ⟨σ', _, I2.unlock e (I.nofrz hd mu), q⟩
 | cont => obtain ⟨σ', H', I2, e, q⟩ := q; exact ⟨σ', _, I2.unlock e (I.nofrz hd mu), q⟩
 | ret v => obtain ⟨x, σ', H', I2, r, e, q⟩ := q; exact ⟨x, σ', _, I2.unlock e (I.nofrz hd mu), r, q⟩
theorem pi_one {tg : Expr} {pins : List (Addr × Obj)} {σ : St} {H : Hp} {s : Shared} {R : It → Hp → Prop} {J : It} {tn : Nat → Heap → Prop} {tk : Nat} (I : Inv X pins σ H s) (o : Obj)
  (T : Turn X.prog X.w X.K tg J [s.heap.objs.size] s.heap.objs.size tn) (st : tn 0 (s.heap.push o)) (q : R J H) : PIE X pins σ tg R (.ref s.heap.objs.size) { s with heap := s.heap.push o, toks := tk } := by
 refine ⟨s.heap.objs.size, [s.heap.objs.size], tn, J, H, rfl, I.kept fun b ob e => Heap.get?_push_of_some _ e, T, st, fun b hb => ?_, q⟩
 have e : b = s.heap.objs.size := by simpa using hb
 subst e
 exact I.fpOk (Nat.le_refl _) (I.hok.fresh (Nat.le_refl _))
end
def Its (x : Str) : It := ⟨fun i _ => i < x.cps.size, fun i H v H' => H' = H ∧ ∃ c, x.cps[i]? = some c ∧ v = .str ⟨#[c]⟩, fun i _ => x.cps.size ≤ i⟩
theorem turn_str {P : Program} {w : World} {K : PySem.W.Frag} {tg : Expr} (it : Addr) (x : Str) (t : Tok) (ty : String) (hty : ty = "str_ascii_iterator" ∨ ty = "str_iterator") :
  Turn P w K tg (Its x) [it] it (fun i h => h.IsStrIter it ty x t i) where
 mem := by simp
 obj := fun i h st b hb => by
  have e : b = it := by simpa using hb
  subst e
  obtain ⟨o, e, c, d⟩ := st
  exact ⟨o, e, fun v z => by rw [d] at z; cases z⟩
 keep := fun i h h' st k => let ⟨o, ho, r⟩ := st; ⟨o, k it (by simp) o ho, r⟩
 item := by
  intro X hP hw hK hc i pins s σ H E I hf st hg
  subst hP hw hK
  obtain ⟨f0, f1, f2, f3, f4, f5⟩ := hf it (by simp)
  have W : Walks X.prog X.w X.A it [it] [it] x.cps.size (SignAt x) (fun i h => h.IsStrIter it ty x t i) := by
   rcases hty with e | e
   ·rw [e]; exact Walks.strAscii (I.ok.hd hc) it x t
   ·rw [e]; exact Walks.strWide (I.ok.hd hc) it x t
  have hno : ["enumerate", "zip", "dict_itemiterator", "dict_reverseitemiterator", "odict_iterator", "itertools.zip_longest", "itertools.pairwise"].contains ty = false := by
   rcases hty with e | e
   ·rw [e]; decide
   ·rw [e]; decide
  refine W.item i s _ _ hg st fun v h' tk hv st' kk => ?_
  obtain ⟨c, u, hcx, rfl⟩ := hv
  have I1 : Inv X pins σ H { s with heap := h', toks := tk } := I.turned (fun b o hb e => kk b o (by simpa using hb) e) f0 f1 f3 f4 f5
  obtain ⟨oi, e, cc, dd⟩ := id st'
  exact ⟨_, rfl, go_of (s := { s with heap := h', toks := tk }) e cc dd hno ⟨.str ⟨#[c]⟩, H, I1, ⟨u, rfl⟩, ⟨rfl, c, hcx, rfl⟩, st', fun b hb => (hf b hb).1⟩⟩
 done := by
  intro X hP hw hK hc i pins s σ H E I hf st hg
  subst hP hw hK
  obtain ⟨f0, f1, f2, f3, f4, f5⟩ := hf it (by simp)
  have hx : x.cps[i]? = none := Array.getElem?_eq_none hg
  rcases hty with e | e
  ·rw [e] at st
   exact wpAny_pyNext_ascii_end (I.ok.hd hc) st hx fun h' eb => ⟨rfl, I.turned (t' := s.toks) (fun b o hb e => eb b o hb e) f0 f1 f3 f4 f5⟩
  ·rw [e] at st
   exact wpAny_pyNext_wide_end (I.ok.hd hc) st hx fun h' eb => ⟨rfl, I.turned (t' := s.toks) (fun b o hb e => eb b o hb e) f0 f1 f3 f4 f5⟩
 self := fun A i s Q E st h => by
  rcases hty with e | e
  ·rw [e] at st; exact wpAny_pyIter_striter_ascii st h
  ·rw [e] at st; exact wpAny_pyIter_striter_wide st h
def iStr (te : TE) : TI := fun σ H R => te σ H fun v H1 => ∃ x, v = .str x ∧ R (Its x) H1
theorem pi_str {X : Cx} {tg e : Expr} {te : TE} (he : PE X e te) : PI X tg e (iStr te) := by
 intro pins s σ H R I h
 refine thn (he pins s σ H _ I h) fun v s1 ⟨y, H1, I1, r1, x, ex, q⟩ => ?_
 subst ex
 obtain ⟨t, rfl⟩ := r1
 cases ha : x.cps.all (· < 128)
 ·exact wpAny_pyIter_wide ha (pi_one (tk := s1.toks) I1 _ (turn_str _ x t "str_iterator" (.inr rfl)) ⟨_, Heap.get?_push_size _ rfl, rfl, rfl⟩ q)
 ·exact wpAny_pyIter_ascii ha (pi_one (tk := s1.toks) I1 _ (turn_str _ x t "str_ascii_iterator" (.inl rfl)) ⟨_, Heap.get?_push_size _ rfl, rfl, rfl⟩ q)
theorem paired_get {α β : Type} {G : α → β → Prop} {l₁ : List α} {l₂ : List β} (h : Paired G l₁ l₂) : ∀ {i : Nat} {a : α}, l₁[i]? = some a → ∃ b, l₂[i]? = some b ∧ G a b := by
 induction h with
 | nil => intro i a e; simp at e
 | @cons a b l₁ l₂ r t ih =>
  intro i a' e
  cases i with
  | zero =>
   simp only [List.getElem?_cons_zero, Option.some.injEq] at e
   subst e
   exact ⟨b, rfl, r⟩
  | succ j =>
   simp only [List.getElem?_cons_succ] at e ⊢
   exact ih e
theorem dict_ep {o : Obj} {es es' : Array DictEntry} {ep ep' : Nat} (h : o.data = .dict es ep) (h' : o.data = .dict es' ep') : es' = es ∧ ep' = ep := by
 rw [h] at h'
 cases h'
 exact ⟨rfl, rfl⟩
def Ite (K : PySem.W.Frag) (a : Addr) : It :=
 ⟨fun i H => ∃ (xs : List V) (x : V), SqL K H a xs ∧ xs[i]? = some x, fun i H v H' => ∃ T x, v = .ref T ∧ H T = none ∧ H' = upd H T (.tup [.int (i : Nat), x]) ∧ ∀ xs, SqL K H a xs → xs[i]? = some x, fun i H => ∃ xs : List V, SqL K H a xs ∧ xs.length ≤ i⟩
theorem turn_enum {P : Program} {w : World} {K : PySem.W.Frag} {elts : List Expr} {kk : Nat} {tpos : Pos} (a e it : Addr) :
  Turn P w K (.Tuple elts kk tpos) (Ite K a) [e, it] e (fun i h => (∃ old, IsEnum h e it ((i : Nat) : Int) old) ∧ h.IsListIter it a i ∧ e ≠ it) where
 mem := by simp
 obj := fun i h st b hb => by
  obtain ⟨⟨old, he⟩, ⟨o, ho, hc, hd⟩, _⟩ := st
  have e' : b = e ∨ b = it := by simpa using hb
  rcases e' with z | z
  ·rw [z]; exact ⟨_, he, fun v q => nomatch q⟩
  ·rw [z]; exact ⟨o, ho, fun v q => by rw [hd] at q; cases q⟩
 keep := fun i h h' st k => let ⟨⟨old, he⟩, hi, hne⟩ := st; ⟨⟨old, k e (by simp) _ he⟩, hi.at fun o q => k it (by simp) o q, hne⟩
 item := by
  intro X hP hw hK hc i pins s σ H E I hf st hg
  subst hP hw hK
  obtain ⟨⟨old, he⟩, hit, hne⟩ := st
  obtain ⟨xs, x, hq, hx⟩ := hg
  obtain ⟨its, rv, p, hz⟩ := I.list hq
  obtain ⟨u, hu, ru⟩ := rv.get hx
  have hel : e < s.heap.objs.size := Heap.lt_size he
  have hil : it < s.heap.objs.size := by obtain ⟨_, q, _⟩ := hit; exact Heap.lt_size q
  refine wpAny_pyNext_enum_item he hit p.isList (x := u) (by simpa using hu) hne fun h' ho hit' hT hsz hk => ?_
  refine ⟨_, rfl, wpAny_letOwnedTupleGo_enum (s := { s with heap := h', toks := s.toks + 1 }) ho fun h'' he' sb => ?_⟩
  have hT2 : h''.get? s.heap.objs.size = some { cls := .type "tuple", data := .seq #[.int i s.toks, u] } := (sb.2 _ (Nat.ne_of_gt hel)).trans hT
  have new : ObjOk X.prog X.w (upd H s.heap.objs.size (.tup [.int (i : Nat), x])) h'' s.heap.objs.size (.tup [.int (i : Nat), x]) :=
   ⟨by show 2 ≤ sizeLine; decide, [.int i s.toks, u], .cons ⟨_, rfl⟩ (.cons ru .nil), ⟨_, hT2, rfl, _, rfl⟩⟩
  have I1 : Inv X pins σ (upd H s.heap.objs.size (.tup [.int (i : Nat), x])) { s with heap := h'', toks := s.toks + 1 } :=
   I.turnedNew (ch := [e, it]) (fun b ob hb q => (sb.2 b (fun z => hb (by simp [z]))).trans (hk b ob (fun z => hb (by simp [z])) (fun z => hb (by simp [z])) q)) hf (Nat.le_refl _) new
  refine ⟨.ref s.heap.objs.size, _, I1, rfl, ⟨_, x, rfl, I.hok.fresh (Nat.le_refl _), rfl, fun ys hy => by rw [I.list_inj hy hq]; exact hx⟩, ⟨⟨u, ?_⟩, hit'.at fun o q => (sb.2 it (Ne.symm hne)).trans q, hne⟩, fun b hb => ?_⟩
  ·have e1 : ((i + 1 : Nat) : Int) = (i : Int) + 1 := by omega
   rw [e1]; exact he'
  ·have hb' : b < s.heap.objs.size := by
    have e' : b = e ∨ b = it := by simpa using hb
    rcases e' with z | z
    ·rw [z]; exact hel
    ·rw [z]; exact hil
   rw [upd_ne (Nat.ne_of_lt hb')]
   exact (hf b hb).1
 done := by
  intro X hP hw hK hc i pins s σ H E I hf st hg
  subst hP hw hK
  obtain ⟨⟨old, he⟩, hit, hne⟩ := st
  obtain ⟨xs, hq, hx⟩ := hg
  obtain ⟨its, rv, p, hz⟩ := I.list hq
  obtain ⟨f0, f1, f2, f3, f4, f5⟩ := hf it (by simp)
  have hl := rv.length
  exact wpAny_pyNext_enum_end (I.ok.hd hc) he hit p.isList (by simp; omega) fun h' eb => ⟨rfl, I.turned (t' := s.toks) (fun b o hb q => eb b o hb q) f0 f1 f3 f4 f5⟩
 self := fun A i s Q E st h => let ⟨⟨_, he⟩, _⟩ := st; wpAny_pyIter_enum he h
def iEnum (K : PySem.W.Frag) (ta : TA) : TI := fun σ H R => ta σ H fun vs H1 => ∃ a xs, vs = [.ref a] ∧ SqL K H1 a xs ∧ R (Ite K a) H1
theorem pi_enum {X : Cx} {e : Expr} {ta : TA} {p pos tpos : Pos} {elts : List Expr} {kk : Nat} (hg : Gl X "enumerate") (hm : X.mg "enumerate" = none) (ha : PA X [e] ta) (hs : starEach [e] X.env = [(false, eval e X.env)] := by rfl) :
  PI X (.Tuple elts kk tpos) (.Call (.Name "enumerate" p) [e] [] pos) (iEnum X.K ta) := by
 intro pins s σ H R I h
 refine Call_ (ld_blt I hg hm boot_enumerate (PyProof.Rows.callWith_type1 (thn (ha pos pins s σ H _ I h) fun us s1 ⟨vs, H1, I1, r1, q1⟩ => ?_) hs rfl))
 obtain ⟨a, xs, ex, hq, q⟩ := q1
 subst ex
 cases r1 with
 | cons r rr =>
  cases rr
  cases r
  obtain ⟨its, rv, p', hz⟩ := I1.list hq
  refine call_enumerate_list p'.isList fun h' he hit hsz hk => wpAny_pyIter_enum he ?_
  have I2 : Inv X pins σ H1 { s1 with heap := h' } := I1.kept (t' := s1.toks) hk
  refine ⟨s1.heap.objs.size + 1, [s1.heap.objs.size + 1, s1.heap.objs.size], _, _, H1, rfl, I2, turn_enum a (s1.heap.objs.size + 1) s1.heap.objs.size, ⟨⟨.none, he⟩, hit, Nat.succ_ne_self _⟩, fun b hb => ?_, q⟩
  have e' : b = s1.heap.objs.size + 1 ∨ b = s1.heap.objs.size := by simpa using hb
  have hle : s1.heap.objs.size ≤ b := by
   rcases e' with z | z
   ·rw [z]; exact Nat.le_add_right _ _
   ·rw [z]; exact Nat.le_refl _
  exact I1.fpOk hle (I1.hok.fresh hle)
theorem boot_zip5 : bootBuiltins "zip" = some (.type "zip") := by decide +kernel
end L2
section
namespace Bits
open PySem PyProof.Rows
end Bits
end
section
namespace TL
open PySem PySem.Builtin PySem.Builtin.Str PySem.StrLaws
abbrev tl (x : Str) : List Nat := x.cps.toList
def pre (S l : List Nat) : Bool := l.take S.length == S
def par (S : List Nat) : List Nat → List Nat → Option (List Nat × List Nat)
 | _, [] => none
 | acc, c :: r => if pre S (c :: r) = true then some (acc, (c :: r).drop S.length) else par S (acc ++ [c]) r
def numL (n : Nat) : List Nat := (Nat.toDigits 10 n).map Char.toNat
theorem tl_num (n : Nat) : tl (Str.ofString (toString ((n : Nat) : Int))) = numL n := PySem.W.KIN.signs_num n
theorem digitChar_nat : ∀ d : Nat, d < 10 → (Nat.digitChar d).toNat = 48 + d := by decide
theorem numL_lt {n : Nat} (h : n < 10) : numL n = [48 + n] := by
 unfold numL
 rw [Nat.toDigits_of_lt_base h]
 show [(Nat.digitChar n).toNat] = _
 rw [digitChar_nat n h]
theorem numL_step {n : Nat} (h : 10 ≤ n) : numL n = numL (n / 10) ++ [48 + n % 10] := by
 have hm : n % 10 < 10 := Nat.mod_lt n (by decide)
 have t : Nat.toDigits 10 (n / 10) ++ Nat.toDigits 10 (n % 10) = Nat.toDigits 10 (10 * (n / 10) + n % 10) := Nat.toDigits_append_toDigits (by decide) (by omega) hm
 rw [Nat.div_add_mod] at t
 show (Nat.toDigits 10 n).map Char.toNat = _
 rw [← t, List.map_append, Nat.toDigits_of_lt_base hm]
 show (Nat.toDigits 10 (n / 10)).map Char.toNat ++ [(Nat.digitChar (n % 10)).toNat] = _
 rw [digitChar_nat _ hm] <;> rfl
end TL
end
namespace L2
open PySem PySem.Spec PyProof.Rows
end L2
namespace L2
open PySem PySem.Spec PyProof.Rows
theorem IsPart.raw {v : Value} {o : Option Int} (p : IsPart v o) : ∃ l : Option (Int × Tok), v = partValue l ∧ l.map (·.1) = o := by
 cases p with
 | none => exact ⟨none, rfl, rfl⟩
 | int i t => exact ⟨some (i, t), rfl, rfl⟩
def clipS (n d : Nat) : Option Int → Int
 | none => (d : Int)
 | some i => max 0 (min (if i < 0 then i + (n : Int) else i) (n : Int))
theorem clipS_eq (n d : Nat) (o : Option Int) : clipS n d o = ((HT.sIx n d o : Nat) : Int) := by
 cases o with
 | none => rfl
 | some v =>
  show max (0 : Int) (min (if v < 0 then v + (n : Int) else v) (n : Int)) = (((if v < 0 then (v + (n : Int)).toNat else min v.toNat n) : Nat) : Int)
  by_cases hv : v < 0
  ·simp only [if_pos hv]
   omega
  ·simp only [if_neg hv]
   omega
theorem sidx_clip (a b : Option Int) (n : Nat) : Builtin.Str.strSliceIndices a b 1 n = sliceRange (clipS n 0 a) (clipS n n b) 1 := by
 have h1 : ((1 : Int) > 0) = True := by simp
 cases a <;> cases b <;> first
  | rfl
  | (simp only [Builtin.Str.strSliceIndices, clipS, h1, if_true]; rfl)
  | simp [Builtin.Str.strSliceIndices, clipS]
theorem sidx (a b : Option Int) (n : Nat) : Builtin.Str.strSliceIndices a b 1 n = (List.range (HT.sIx n n b - HT.sIx n 0 a)).map (fun k => HT.sIx n 0 a + k) := by
 rw [sidx_clip, clipS_eq, clipS_eq]
 generalize HT.sIx n 0 a = p
 generalize HT.sIx n n b = q
 simp only [sliceRange, show ((1 : Int) > 0) = True from by simp, if_true]
 by_cases hlt : (p : Int) < q
 ·have e3 : (((q : Int) - p + 1 - 1) / 1).toNat = q - p := by first | omega | (simp; done) | (simp; omega)
  simp only [hlt, if_true, e3]
  refine List.map_congr_left fun k _ => ?_
  omega
 ·have : q - p = 0 := by omega
  simp [hlt, this]
def cutS (z : Str) (lo hi : Option Int) : Str :=
 ⟨((z.cps.toList.drop (HT.sIx z.length 0 lo)).take (HT.sIx z.length z.length hi - HT.sIx z.length 0 lo)).toArray⟩
theorem sliceText_cut (z : Str) (lo hi : Option Int) : PySem.StrLaws.sliceText z lo hi = cutS z lo hi := by
 have h1 : HT.sIx z.length 0 lo ≤ z.length := HT.sIx_le _ _ (Nat.zero_le _) _
 have h2 : HT.sIx z.length z.length hi ≤ z.length := HT.sIx_le _ _ (Nat.le_refl _) _
 have hp : HT.sIx z.length 0 lo ≤ max (HT.sIx z.length 0 lo) (HT.sIx z.length z.length hi) := Nat.le_max_left _ _
 have hq : max (HT.sIx z.length 0 lo) (HT.sIx z.length z.length hi) ≤ z.length := Nat.max_le.mpr ⟨h1, h2⟩
 have hd : max (HT.sIx z.length 0 lo) (HT.sIx z.length z.length hi) - HT.sIx z.length 0 lo = HT.sIx z.length z.length hi - HT.sIx z.length 0 lo := by omega
 have e : Builtin.Str.strSliceIndices lo hi 1 z.length =
   Builtin.Str.strSliceIndices (some ((HT.sIx z.length 0 lo : Nat) : Int)) (some ((max (HT.sIx z.length 0 lo) (HT.sIx z.length z.length hi) : Nat) : Int)) 1 z.length := by
  rw [PySem.StrLaws.strSliceIndices_plain hp hq, hd, sidx]
 have e2 : PySem.StrLaws.sliceText z lo hi =
   PySem.StrLaws.sliceText z (some ((HT.sIx z.length 0 lo : Nat) : Int)) (some ((max (HT.sIx z.length 0 lo) (HT.sIx z.length z.length hi) : Nat) : Int)) := by
  unfold PySem.StrLaws.sliceText
  rw [e]
 rw [e2, PySem.StrLaws.sliceText_nat z hp hq, hd]
 rfl
theorem cutS_length (z : Str) (lo hi : Option Int) : (cutS z lo hi).length ≤ z.length := by
 show (((z.cps.toList.drop (HT.sIx z.length 0 lo)).take (HT.sIx z.length z.length hi - HT.sIx z.length 0 lo)).toArray).size ≤ z.cps.size
 rw [List.size_toArray, List.length_take, List.length_drop, Array.length_toList]
 omega
def rSlS : V → Option Int → Option Int → Hp → VK → Prop := fun x lo hi H Q => ∃ z, x = .str z ∧ z.length ≤ sizeLine ∧ Q (.str (cutS z lo hi)) H
theorem sl_str {X : Cx} : SlR X rSlS := by
 intro pins s σ H x v vl vu lo hi sl Q I rx hs pl pu h
 obtain ⟨z, rfl, hz, q⟩ := h
 obtain ⟨t, rfl⟩ := rx
 obtain ⟨os, hos, hcs, hds⟩ := hs
 obtain ⟨l, rfl, rfl⟩ := IsPart.raw pl
 obtain ⟨u, rfl, rfl⟩ := IsPart.raw pu
 refine ⟨"str", _, F.slot_str_getitem.lookup, typeIs_str _ _ _, ?_⟩
 refine wpAny_getItem_str_slice (l := l) (u := u) (st := none) ⟨os, hos, hcs, hds⟩ rfl ?_
 have hl : (PySem.StrLaws.sliceText z (l.map (·.1)) (u.map (·.1))).length ≤ sizeLine := by
  rw [sliceText_cut]
  exact Nat.le_trans (cutS_length z _ _) hz
 rw [← sliceText_cut] at q
 unfold PySem.StrLaws.sliceText at q hl
 show Made.post (if ((1 : Int) == 1 && (Builtin.Str.strSliceIndices (l.map (·.1)) (u.map (·.1)) 1 z.length).length == z.length) = true then Made.val (.str z t)
  else Made.str ⟨((Builtin.Str.strSliceIndices (l.map (·.1)) (u.map (·.1)) 1 z.length).filterMap (z.cps[·]?)).toArray⟩) (EP X pins σ Q) s
 by_cases c : ((1 : Int) == 1 && (Builtin.Str.strSliceIndices (l.map (·.1)) (u.map (·.1)) 1 z.length).length == z.length) = true
 ·rw [if_pos c] at q ⊢
  exact ⟨.str z, H, I, ⟨t, rfl⟩, q⟩
 ·rw [if_neg c] at q hl ⊢
  exact ⟨hl, .str _, H, I.tok _, ⟨_, rfl⟩, q⟩
end L2
namespace Att
open PySem PySem.W PySem.Calls PyProof.Rows
end Att
namespace L2
open PySem PySem.Spec PyProof.Rows
end L2
namespace L2
open PySem PySem.Spec PyProof.Rows
end L2
namespace L2
open PySem PySem.Spec PyProof.Rows
def inClass (s : Stmt) (j : Nat) : Stmt := match s with
 | .ClassDef _ _ _ body _ _ _ _ _ _ _ => body.getD j (.Pass ⟨0, 0, 0, 0⟩)
 | _ => .Pass ⟨0, 0, 0, 0⟩
def defArgs (s : Stmt) : Arguments := match s with
 | .FunctionDef _ a _ _ _ _ _ _ _ _ => a
 | _ => { posonlyargs := [], args := [], vararg := none, kwonlyargs := [], kw_defaults := [], kwarg := none, defaults := [] }
def defBody (s : Stmt) : List Stmt := match s with
 | .FunctionDef _ _ b _ _ _ _ _ _ _ => b
 | _ => []
def defScope (s : Stmt) : Scope := match s with
 | .FunctionDef _ _ _ _ _ _ sc _ _ _ => sc
 | _ => { kind := .function, names := [], isGenerator := false, isCoroutine := false }
abbrev CX0 : CXT := fun _ _ _ _ _ _ => False
abbrev E0 : XK := fun _ _ _ => False
theorem pass0 {X : Cx} : Passes CX0 X E0 := fun _ _ _ _ _ _ _ h => h.elim
structure Fun (K : PySem.W.Frag) (x qual : Str) (st : Stmt) (f : Addr) (fd : FuncData) : Prop where
 ex : ∃ (oc : Value) (od : Option Addr) (kV doc pm : Value) (an : Option Addr) (cdv ct : Value) (osl : Array (Option Value)),
  fd = PySem.W.fnOf x qual (defArgs st) (defBody st) (defScope st) .none kV doc pm an cdv ct ∧ K.lookup f = some ⟨oc, od, .func fd, osl⟩ ∧ PySem.W.codeIn K cdv qual = true
 kp : PySem.W.keepIn K (.ref f) = true
section
variable {P : Program} {w : World} {K : PySem.W.Frag} {mg : Str → Option Value} {base : Heap}
theorem Fun.ok {x qual : Str} {st : Stmt} {f : Addr} {fd : FuncData} {N ps : List Str} {k : Nat} {sp : Sp} (F : Fun K x qual st f fd) (S : FnScope N ps (defScope st)) (len : ∀ vs H Q E, sp vs H Q E → vs.length = ps.length)
  (hbody : ∀ (cdv : Value) (A : Around) (outer : List Env) (s : Shared) (H : Hp) (vs : List V) (Q : VK) (E : XK), Room k (A.deeper (envOfC qual (defScope st) s.heap.objs.size f cdv)) → sp vs H Q E →
   ∃ t, PSs (cxOf CX0 P w K mg base N qual (defScope st) f cdv A outer s H E).nox (defBody st) t ∧ t { nx := fun _ H' => Q .non H', rt := Q } (start N vs) H) : FnOk P w K mg base CX0 (k + 1) f fd ps sp := by
 obtain ⟨oc, od, kV, doc, pm, an, cdv, ct, osl, rfl, lk, hcd⟩ := F.ex
 refine fn_of lk hcd S len fun A outer s H vs Q E hr hsp => ?_
 obtain ⟨t, h, q⟩ := hbody cdv A outer s H vs Q E hr hsp
 exact ⟨t, h.nox, q⟩
theorem Fun.binds {x qual : Str} {st : Stmt} {f : Addr} {fd : FuncData} {ps : List Str} (F : Fun K x qual st f fd)
  (h : ∀ (kV doc pm : Value) (an : Option Addr) (cdv ct : Value) (us : List Value), us.length = ps.length → bindArgs (PySem.W.fnOf x qual (defArgs st) (defBody st) (defScope st) .none kV doc pm an cdv ct) ⟨us, []⟩ = pure (ps.zip us)) : Binds K fd ps [] := by
 obtain ⟨oc, od, kV, doc, pm, an, cdv, ct, osl, rfl, lk, hcd⟩ := F.ex
 exact .all (h kV doc pm an cdv ct)
theorem fun_mk {x qual : Str} {st : Stmt} {f : Addr} {oc : Value} {od an : Option Addr} {osl : Array (Option Value)} {kV doc pm cdv ct : Value} (l : K.lookup f = some ⟨oc, od, .func (PySem.W.fnOf x qual (defArgs st) (defBody st) (defScope st) .none kV doc pm an cdv ct), osl⟩)
  (c : PySem.W.codeIn K cdv qual = true) (k : PySem.W.keepIn K (.ref f) = true) : Fun K x qual st f (PySem.W.fnOf x qual (defArgs st) (defBody st) (defScope st) .none kV doc pm an cdv ct) := ⟨⟨oc, od, kV, doc, pm, an, cdv, ct, osl, rfl, l, c⟩, k⟩
end
theorem hu_of {A : Around} {k : Nat} (hr : Room k A) : A.units + 1 < cLine := Nat.lt_of_le_of_lt (Nat.add_le_add_left (by decide : 1 ≤ 64) _) hr.units
section
variable {X : Cx}
theorem pv (i : Nat) {x : Str} {pos : Pos} (hN : X.N[i]? = some x := by rfl) (hv : Vis X.env.scope x := by first | exact Or.inl rfl | exact Or.inr (Or.inl rfl) | exact Or.inr (Or.inr rfl)) (hd : (x == ("__debug__" : Str)) = false := by decide)
  (hcd : (x == ("__classdict__" : Str)) = false := by decide) : PE X (.Name x pos) (tVar i) := pe_var hN hv hd hcd
end
def Same (H H' : Hp) : Prop := ∀ b o, H b = some o → H' b = some o
theorem Same.refl (H : Hp) : Same H H := fun _ _ h => h
theorem Same.trans {H H1 H2 : Hp} (a : Same H H1) (b : Same H1 H2) : Same H H2 := fun c o h => b c o (a c o h)
theorem Same.free {H H' : Hp} (e : Same H H') {l : Addr} (h : H' l = Option.none) : H l = Option.none := by
 cases q : H l with
 | none => rfl
 | some o =>
  rw [e l o q] at h
  cases h
theorem Same.seq {K : PySem.W.Frag} {H H' : Hp} {a : Addr} {xs : List V} (e : Same H H') (h : SqL K H a xs) : SqL K H' a xs := by
 rcases h with (h | ⟨o, h⟩) | h
 ·exact .inl (.inl (e _ _ h))
 ·exact .inl (.inr ⟨o, e _ _ h⟩)
 ·exact .inr h
theorem at_of {xs : List V} {z : Int} {j : Nat} {v : V} (e : z = (j : Int)) (h : xs[j]? = some v) : atI xs z = some v := by
 rw [e]
 exact atI_nat h
theorem Same.made {H H1 : Hp} {x dx C : Addr} (nx : H x = Option.none) (nd : H dx = Option.none) (k : ∀ b o, (upd (upd H dx (.own x)) x (.ins C dx [])) b = some o → b ≠ x → H1 b = some o) : Same H H1 := fun b o e =>
 k b o (by rw [upd_ne (ne_of_none e nx), upd_ne (ne_of_none e nd)]; exact e) (ne_of_none e nx)
end L2
section
set_option Elab.async false
set_option linter.all false
set_option maxRecDepth 100000
set_option maxHeartbeats 2000000
namespace L2
open PySem PySem.Spec PyProof.Rows
open PySem.W (WData Codec OpenSpec Well WellAll ReadsW ReadsAllW)
mutual
inductive Dw (K : PySem.W.Frag) (H : Hp) : V → WData → Prop
 | non : Dw K H .non .none
 | bl (b : Bool) : Dw K H (.bl b) (.bool b)
 | int (i : Int) : Dw K H (.int i) (.int i)
 | str (x : Str) : Dw K H (.str x) (.str x)
 | byt (b : Array UInt8) : Dw K H (.byt b) (.bytes b.toList)
 | lst {a : Addr} {xs : List V} {ds : List WData} : SqL K H a xs → DwAll K H xs ds → Dw K H (.ref a) (.list ds)
 | tup {a : Addr} {xs : List V} {ds : List WData} : SqT K H a xs → DwAll K H xs ds → Dw K H (.ref a) (.tuple ds)
inductive DwAll (K : PySem.W.Frag) (H : Hp) : List V → List WData → Prop
 | nil : DwAll K H [] []
 | cons {v : V} {vs : List V} {d : WData} {ds : List WData} : Dw K H v d → DwAll K H vs ds → DwAll K H (v :: vs) (d :: ds)
end
theorem dw_ints {K : PySem.W.Frag} {H : Hp} : ∀ ns : List Int, DwAll K H (ns.map V.int) (ns.map WData.int)
 | [] => .nil
 | n :: r => .cons (.int n) (dw_ints r)
theorem ints_dw {K : PySem.W.Frag} {H : Hp} : ∀ (ns : List Int) (xs : List V), DwAll K H xs (ns.map WData.int) → xs = ns.map V.int
 | [], xs, h => by
  cases h
  rfl
 | n :: r, xs, h => by
  cases h with
  | cons h1 h2 =>
   cases h1
   rw [ints_dw r _ h2] <;> rfl
section
variable {P : Program} {w : World} {K : PySem.W.Frag} {H : Hp} {h : Heap} {R : PySem.W.WRecords} {cl : Str → Option Addr}
theorem sqL_at {a : Addr} {xs : List V} (hok : HOk P w H h) (KX : K.In h) (q : SqL K H a xs) : ∃ (its : List Value) (o : Obj) (n : Nat), Vals xs its ∧ h.get? a = some o ∧ o.cls = .type "list" ∧ o.data = .seq its.toArray n := by
 rcases q with q | ⟨o, its, n, e, hc, _, hd, _, hv⟩
 ·obtain ⟨_, its, n, hv, e⟩ := (show ObjOk P w H h a (.lst xs) from q.ok hok)
  exact ⟨its, _, n, hv, e, rfl, rfl⟩
 ·exact ⟨its.toList, o, n, hv, KX _ _ e, hc, by simp [hd]⟩
theorem sqT_at {a : Addr} {xs : List V} (hok : HOk P w H h) (KX : K.In h) (q : SqT K H a xs) : ∃ (its : List Value) (o : Obj) (n : Nat), Vals xs its ∧ h.get? a = some o ∧ o.cls = .type "tuple" ∧ o.data = .seq its.toArray n := by
 rcases q with q | ⟨o, its, n, e, hc, hd, _, hv⟩
 ·obtain ⟨_, its, hv, o, e, hc, n, hd⟩ := (show ObjOk P w H h a (.tup xs) from q.ok hok)
  exact ⟨its, o, n, hv, e, hc, hd⟩
 ·exact ⟨its.toList, o, n, hv, KX _ _ e, hc, by simp [hd]⟩
mutual
theorem Dw.reads (hok : HOk P w H h) (KX : K.In h) : ∀ (d : WData) (v : V) (u : Value), Dw K H v d → RelV v u → ∃ as, ReadsW R cl h u d as
 | .none, _, _, x, r => by
  cases x
  cases r
  exact ⟨_, ReadsW.none⟩
 | .bool b, _, _, x, r => by
  cases x
  cases r
  exact ⟨_, ReadsW.bool b⟩
 | .int i, _, _, x, r => by
  cases x
  obtain ⟨t, rfl⟩ := r
  exact ⟨_, ReadsW.int i t⟩
 | .str s, _, _, x, r => by
  cases x
  obtain ⟨t, rfl⟩ := r
  exact ⟨_, ReadsW.str s t⟩
 | .bytes b, _, _, x, r => by
  cases x
  obtain ⟨t, rfl⟩ := r
  exact ⟨_, ReadsW.bytes _ t⟩
 | .list ds, _, _, x, r => by
  cases x with
  | lst hs ha =>
   cases r
   obtain ⟨its, o, n, rv, ho, hc, hd⟩ := sqL_at hok KX hs
   obtain ⟨as, hr⟩ := Dw.readsAll hok KX ds _ its ha rv
   exact ⟨_, ReadsW.list ho hc hd hr⟩
 | .tuple ds, _, _, x, r => by
  cases x with
  | tup hs ha =>
   cases r
   obtain ⟨its, o, n, rv, ho, hc, hd⟩ := sqT_at hok KX hs
   obtain ⟨as, hr⟩ := Dw.readsAll hok KX ds _ its ha rv
   exact ⟨_, ReadsW.tuple ho hc hd hr⟩
 | .float _, _, _, x, _ => by cases x
 | .dict _, _, _, x, _ => by cases x
 | .bytearray _, _, _, x, _ => by cases x
 | .set _, _, _, x, _ => by cases x
 | .frozenset _, _, _, x, _ => by cases x
 | .obj _ _, _, _, x, _ => by cases x
theorem Dw.readsAll (hok : HOk P w H h) (KX : K.In h) : ∀ (ds : List WData) (vs : List V) (us : List Value), DwAll K H vs ds → Vals vs us → ∃ as, ReadsAllW R cl h us ds as
 | [], _, _, x, r => by
  cases x
  cases r
  exact ⟨_, ReadsAllW.nil⟩
 | d :: ds, _, _, x, r => by
  cases x with
  | cons h1 h2 =>
   cases r with
   | cons r1 r2 =>
    obtain ⟨as, q1⟩ := Dw.reads hok KX d _ _ h1 r1
    obtain ⟨bs, q2⟩ := Dw.readsAll hok KX ds _ _ h2 r2
    exact ⟨_, ReadsAllW.cons q1 q2⟩
end
end
mutual
def plW : WData → Bool
 | .none => true
 | .bool _ => true
 | .int _ => true
 | .str _ => true
 | .bytes _ => true
 | .list xs => plWs xs
 | .tuple xs => plWs xs
 | _ => false
def plWs : List WData → Bool
 | [] => true
 | x :: r => plW x && plWs r
end
theorem plWs_map {α : Type} {f : α → WData} (h : ∀ a, plW (f a) = true) : ∀ l : List α, plWs (l.map f) = true
 | [] => rfl
 | x :: r => by
  show (plW (f x) && plWs (r.map f)) = true
  rw [h x, plWs_map h r] <;> rfl
theorem pl_enc : ∀ (c : Codec) (a : c.denote), plW (c.enc a) = true
 | .unit, _ => rfl
 | .bool, _ => rfl
 | .int _ _, _ => rfl
 | .nat _ _, _ => rfl
 | .u8, _ => rfl
 | .bytes _ _, _ => rfl
 | .text _ _ _ _, _ => rfl
 | .list _ _ c, a => plWs_map (fun x => pl_enc c x) a
 | .pair c d, a => by
  show (plW (c.enc a.1) && (plW (d.enc a.2) && true)) = true
  rw [pl_enc c a.1, pl_enc d a.2] <;> rfl
 | .triple c d e, a => by
  show (plW (c.enc a.1) && (plW (d.enc a.2.1) && (plW (e.enc a.2.2) && true))) = true
  rw [pl_enc c a.1, pl_enc d a.2.1, pl_enc e a.2.2] <;> rfl
 | .option c, none => rfl
 | .option c, some x => pl_enc c x
theorem pl_encAll : ∀ (cs : List Codec) (a : Codec.denoteAll cs), plWs (Codec.encAll cs a) = true
 | [], _ => rfl
 | c :: cs, a => by
  show (plW (c.enc a.1) && plWs (Codec.encAll cs a.2)) = true
  rw [pl_enc c a.1, pl_encAll cs a.2] <;> rfl
theorem weight_mem : ∀ {xs : List WData} {d : WData}, d ∈ xs → d.weight ≤ WData.weightAll xs
 | [], d, h => absurd h (by simp)
 | x :: r, d, h => by
  show d.weight ≤ x.weight + 1 + WData.weightAll r
  rcases List.mem_cons.mp h with e | m
  ·rw [e]
   omega
  ·have z := weight_mem m
   omega
def toV : Value → V
 | .none => .non
 | .bool b => .bl b
 | .int i _ => .int i
 | .str x _ => .str x
 | .bytes b _ => .byt b
 | .ref a => .ref a
 | _ => .non
def OkU (A : List Addr) : Value → Prop
 | .none => True
 | .bool _ => True
 | .int _ _ => True
 | .str _ _ => True
 | .bytes _ _ => True
 | .ref a => a ∈ A
 | _ => False
theorem OkU.mono {A B : List Addr} (h : ∀ a ∈ A, a ∈ B) : ∀ {u : Value}, OkU A u → OkU B u := fun {u} x => by
 cases u with
 | ref a => exact h a x
 | none => trivial
 | bool b => trivial
 | int i t => trivial
 | str s t => trivial
 | bytes b t => trivial
 | _ => exact False.elim x
theorem relV_toV {A : List Addr} {u : Value} (x : OkU A u) : RelV (toV u) u := by
 cases u with
 | ref a => rfl
 | none => rfl
 | bool b => rfl
 | int i t => exact ⟨t, rfl⟩
 | str s t => exact ⟨t, rfl⟩
 | bytes b t => exact ⟨t, rfl⟩
 | _ => exact False.elim x
theorem vals_toV {A : List Addr} : ∀ {vs : List Value}, (∀ u ∈ vs, OkU A u) → Vals (vs.map toV) vs
 | [], _ => .nil
 | u :: r, h => .cons (relV_toV (h u (List.mem_cons_self ..))) (vals_toV fun x hx => h x (List.mem_cons_of_mem _ hx))
def ArgOb (h : Heap) (A : List Addr) (a : Addr) : Prop := ∃ vs : List Value, vs.length ≤ sizeLine ∧ (∀ u ∈ vs, OkU A u) ∧
 (h.get? a = some { cls := .type "list", data := .seq vs.toArray } ∨ h.get? a = some { cls := .type "tuple", data := .seq vs.toArray })
theorem ArgOb.mono {h : Heap} {A B : List Addr} {a : Addr} (k : ∀ a ∈ A, a ∈ B) (x : ArgOb h A a) : ArgOb h B a := by
 obtain ⟨vs, h1, h2, h3⟩ := x
 exact ⟨vs, h1, fun u hu => (h2 u hu).mono k, h3⟩
theorem wellAll_len {P : Params} {h : Heap} : ∀ {vs : List Value} {ds : List WData}, WellAll P h vs ds → vs.length = ds.length
 | _, _, .nil => rfl
 | _, _, .cons _ b => by
  show _ + 1 = _ + 1
  rw [wellAll_len b]
theorem well_list {P : Params} {h : Heap} {v : Value} {ds : List WData} (x : Well P h v (.list ds)) : ∃ (a : Addr) (vs : List Value), v = .ref a ∧ h.get? a = some { cls := .type "list", data := .seq vs.toArray } ∧ WellAll P h vs ds := by
 cases x with
 | list ho hall => exact ⟨_, _, rfl, ho, hall⟩
theorem well_tuple {P : Params} {h : Heap} {v : Value} {ds : List WData} (x : Well P h v (.tuple ds)) : ∃ (a : Addr) (vs : List Value), v = .ref a ∧ h.get? a = some { cls := .type "tuple", data := .seq vs.toArray } ∧ WellAll P h vs ds := by
 cases x with
 | tuple ho hall => exact ⟨_, _, rfl, ho, hall⟩
theorem well_cons {P : Params} {h : Heap} {us : List Value} {d : WData} {ds : List WData} (x : WellAll P h us (d :: ds)) : ∃ (v : Value) (vs : List Value), us = v :: vs ∧ Well P h v d ∧ WellAll P h vs ds := by
 cases x with
 | cons a b => exact ⟨_, _, rfl, a, b⟩
theorem line_of {n : Nat} (h : n ≤ 1048576) : n ≤ sizeLine := Nat.le_trans h (by decide)
section
variable {P : Params} {h : Heap}
mutual
theorem area_one : ∀ (d : WData) (v : Value), Well P h v d → plW d = true → d.weight ≤ 1048576 → ∃ A : List Addr, OkU A v ∧ ∀ a ∈ A, ArgOb h A a
 | .none, _, x, _, _ => by
  cases x
  exact ⟨[], trivial, fun a m => absurd m (by simp)⟩
 | .bool b, _, x, _, _ => by
  cases x
  exact ⟨[], trivial, fun a m => absurd m (by simp)⟩
 | .int i, _, x, _, _ => by
  cases x
  exact ⟨[], trivial, fun a m => absurd m (by simp)⟩
 | .str s, _, x, _, _ => by
  cases x
  exact ⟨[], trivial, fun a m => absurd m (by simp)⟩
 | .bytes b, _, x, _, _ => by
  cases x
  exact ⟨[], trivial, fun a m => absurd m (by simp)⟩
 | .list ds, _, x, p, z => by
  obtain ⟨a, vs, rfl, ho, hall⟩ := well_list x
  have z2 : WData.weightAll ds ≤ 1048576 := z
  obtain ⟨A, h1, h2⟩ := area_all ds _ hall p fun d hd => Nat.le_trans (weight_mem hd) z2
  have k : ∀ b ∈ A, b ∈ a :: A := fun b hb => List.mem_cons_of_mem _ hb
  refine ⟨a :: A, List.mem_cons_self .., fun b hb => ?_⟩
  rcases List.mem_cons.mp hb with e | m
  ·rw [e]
   exact ⟨vs, line_of (by rw [wellAll_len hall]; exact Nat.le_trans (PySem.W.length_le_weightAllW ds) z2), fun u hu => (h1 u hu).mono k, .inl ho⟩
  ·exact (h2 b m).mono k
 | .tuple ds, _, x, p, z => by
  obtain ⟨a, vs, rfl, ho, hall⟩ := well_tuple x
  have z2 : WData.weightAll ds ≤ 1048576 := z
  obtain ⟨A, h1, h2⟩ := area_all ds _ hall p fun d hd => Nat.le_trans (weight_mem hd) z2
  have k : ∀ b ∈ A, b ∈ a :: A := fun b hb => List.mem_cons_of_mem _ hb
  refine ⟨a :: A, List.mem_cons_self .., fun b hb => ?_⟩
  rcases List.mem_cons.mp hb with e | m
  ·rw [e]
   exact ⟨vs, line_of (by rw [wellAll_len hall]; exact Nat.le_trans (PySem.W.length_le_weightAllW ds) z2), fun u hu => (h1 u hu).mono k, .inr ho⟩
  ·exact (h2 b m).mono k
 | .float _, _, _, p, _ => Bool.noConfusion (show false = true from p)
 | .dict _, _, _, p, _ => Bool.noConfusion (show false = true from p)
 | .bytearray _, _, _, p, _ => Bool.noConfusion (show false = true from p)
 | .set _, _, _, p, _ => Bool.noConfusion (show false = true from p)
 | .frozenset _, _, _, p, _ => Bool.noConfusion (show false = true from p)
 | .obj _ _, _, _, p, _ => Bool.noConfusion (show false = true from p)
theorem area_all : ∀ (ds : List WData) (vs : List Value), WellAll P h vs ds → plWs ds = true → (∀ d ∈ ds, d.weight ≤ 1048576) → ∃ A : List Addr, (∀ u ∈ vs, OkU A u) ∧ ∀ a ∈ A, ArgOb h A a
 | [], _, x, _, _ => by
  cases x
  exact ⟨[], fun u m => absurd m (by simp), fun a m => absurd m (by simp)⟩
 | d :: ds, _, x, p, z => by
  obtain ⟨v, vs, rfl, x1, x2⟩ := well_cons x
  have q : plW d = true ∧ plWs ds = true := Bool.and_eq_true_iff.mp p
  obtain ⟨A, a1, a2⟩ := area_one d v x1 q.1 (z d (List.mem_cons_self ..))
  obtain ⟨B, b1, b2⟩ := area_all ds vs x2 q.2 fun e he => z e (List.mem_cons_of_mem _ he)
  have kA : ∀ b ∈ A, b ∈ A ++ B := fun b hb => List.mem_append.mpr (.inl hb)
  have kB : ∀ b ∈ B, b ∈ A ++ B := fun b hb => List.mem_append.mpr (.inr hb)
  refine ⟨A ++ B, fun u hu => ?_, fun b hb => ?_⟩
  ·rcases List.mem_cons.mp hu with e | m
   ·rw [e]
    exact a1.mono kA
   ·exact (b1 u m).mono kB
  ·rcases List.mem_append.mp hb with m | m
   ·exact (a2 b m).mono kA
   ·exact (b2 b m).mono kB
end
end
def hoOf (o : Obj) : Option HO := match o.data with
 | .seq vs _ => if (o.cls == Value.type "list") = true then some (.frz o (.lst (vs.toList.map toV))) else some (.frz o (.tup (vs.toList.map toV)))
 | _ => none
def argH (K : PySem.W.Frag) (h : Heap) (A : List Addr) : Hp := fun b => if b ∈ A then (if (K.lookup b).isNone = true then (h.get? b).bind hoOf else none) else none
def OnlyF (H : Hp) : Prop := ∀ b, H b = none ∨ ∃ o u, H b = some (.frz o u)
theorem hoOf_lst (vs : List Value) : hoOf { cls := .type "list", data := .seq vs.toArray } = some (.frz { cls := .type "list", data := .seq vs.toArray } (.lst (vs.map toV))) := by
 show (if (Value.type "list" == Value.type "list") = true then some (HO.frz { cls := .type "list", data := .seq vs.toArray } (.lst (vs.toArray.toList.map toV))) else some (HO.frz { cls := .type "list", data := .seq vs.toArray } (.tup (vs.toArray.toList.map toV)))) = _
 rw [if_pos (beq_self_eq_true _)]
theorem hoOf_tup (vs : List Value) : hoOf { cls := .type "tuple", data := .seq vs.toArray } = some (.frz { cls := .type "tuple", data := .seq vs.toArray } (.tup (vs.map toV))) := by
 show (if (Value.type "tuple" == Value.type "list") = true then some (HO.frz { cls := .type "tuple", data := .seq vs.toArray } (.lst (vs.toArray.toList.map toV))) else some (HO.frz { cls := .type "tuple", data := .seq vs.toArray } (.tup (vs.toArray.toList.map toV)))) = _
 rw [if_neg (by decide)]
section
variable {P : Program} {w : World} {K : PySem.W.Frag} {h : Heap} {A : List Addr}
theorem argH_at {b : Addr} {o : Obj} (hb : b ∈ A) (hk : K.lookup b = none) (e : h.get? b = some o) : argH K h A b = hoOf o := by
 unfold argH
 rw [if_pos hb, hk, if_pos (show (none : Option Obj).isNone = true from rfl), e] <;> rfl
theorem of_argH {b : Addr} {u : HO} (q : argH K h A b = some u) : b ∈ A ∧ K.lookup b = none := by
 unfold argH at q
 by_cases hb : b ∈ A
 ·rw [if_pos hb] at q
  cases hk : K.lookup b with
  | none => exact ⟨hb, rfl⟩
  | some o =>
   rw [hk, if_neg (by simp)] at q
   cases q
 ·rw [if_neg hb] at q
  cases q
theorem argH_is (ar : ∀ a ∈ A, ArgOb h A a) {b : Addr} {u : HO} (q : argH K h A b = some u) : K.lookup b = none ∧ ∃ vs : List Value, vs.length ≤ sizeLine ∧ (∀ u ∈ vs, OkU A u) ∧
    ((h.get? b = some { cls := .type "list", data := .seq vs.toArray } ∧ u = .frz { cls := .type "list", data := .seq vs.toArray } (.lst (vs.map toV))) ∨
     (h.get? b = some { cls := .type "tuple", data := .seq vs.toArray } ∧ u = .frz { cls := .type "tuple", data := .seq vs.toArray } (.tup (vs.map toV)))) := by
  obtain ⟨hb, hk⟩ := of_argH q
  obtain ⟨vs, h1, h2, h3⟩ := ar b hb
  refine ⟨hk, vs, h1, h2, ?_⟩
  rcases h3 with e | e
  · rw [argH_at hb hk e, hoOf_lst] at q
    exact .inl ⟨e, (Option.some.inj q).symm⟩
  · rw [argH_at hb hk e, hoOf_tup] at q
    exact .inr ⟨e, (Option.some.inj q).symm⟩
theorem argH_only (ar : ∀ a ∈ A, ArgOb h A a) : OnlyF (argH K h A) := fun b => by
 cases q : argH K h A b with
 | none => exact .inl rfl
 | some u =>
  obtain ⟨_, vs, _, _, ⟨_, e⟩ | ⟨_, e⟩⟩ := argH_is ar q
  ·exact .inr ⟨_, _, by rw [e]⟩
  ·exact .inr ⟨_, _, by rw [e]⟩
theorem argH_ok (ar : ∀ a ∈ A, ArgOb h A a) : HOk P w (argH K h A) h := fun b u q => by
 obtain ⟨_, vs, h1, h2, ⟨e, rfl⟩ | ⟨e, rfl⟩⟩ := argH_is ar q
 ·exact ⟨e, by rw [List.length_map]; exact h1, vs, _, vals_toV h2, e⟩
 ·exact ⟨e, by rw [List.length_map]; exact h1, vs, vals_toV h2, _, e, rfl, _, rfl⟩
theorem seq_inj {c c' : Value} {vs us : List Value} (e : (some { cls := c, data := .seq vs.toArray } : Option Obj) = some { cls := c', data := .seq us.toArray }) : c = c' ∧ vs = us := by
 have e1 := Option.some.inj e
 have e2 : c = c' := congrArg Obj.cls e1
 have e3 : Data.seq vs.toArray = Data.seq us.toArray := congrArg Obj.data e1
 injection e3 with e4
 refine ⟨e2, ?_⟩
 have e5 := congrArg Array.toList e4
 simpa using e5
theorem argL (KX : K.In h) (ar : ∀ a ∈ A, ArgOb h A a) {a : Addr} {vs : List Value} (ha : a ∈ A) (e : h.get? a = some { cls := .type "list", data := .seq vs.toArray }) : (∀ u ∈ vs, OkU A u) ∧ SqL K (argH K h A) a (vs.map toV) := by
 obtain ⟨us, h1, h2, h3⟩ := ar a ha
 have hu : us = vs := by
  rcases h3 with q | q
  ·rw [e] at q
   exact (seq_inj q).2.symm
  ·rw [e] at q
   exact absurd (Value.type.inj (seq_inj q).1) (by decide)
 subst hu
 refine ⟨h2, ?_⟩
 cases hk : K.lookup a with
 | none => exact .inl (.inr ⟨_, by rw [argH_at ha hk e, hoOf_lst]⟩)
 | some o =>
  have e2 := KX a o hk
  rw [e] at e2
  obtain rfl := Option.some.inj e2
  exact .inr ⟨_, us.toArray, _, hk, rfl, rfl, rfl, by rw [List.size_toArray]; exact h1, by simpa using vals_toV h2⟩
theorem argT (KX : K.In h) (ar : ∀ a ∈ A, ArgOb h A a) {a : Addr} {vs : List Value} (ha : a ∈ A) (e : h.get? a = some { cls := .type "tuple", data := .seq vs.toArray }) : (∀ u ∈ vs, OkU A u) ∧ SqT K (argH K h A) a (vs.map toV) := by
 obtain ⟨us, h1, h2, h3⟩ := ar a ha
 have hu : us = vs := by
  rcases h3 with q | q
  ·rw [e] at q
   exact absurd (Value.type.inj (seq_inj q).1) (by decide)
  ·rw [e] at q
   exact (seq_inj q).2.symm
 subst hu
 refine ⟨h2, ?_⟩
 cases hk : K.lookup a with
 | none => exact .inl (.inr ⟨_, by rw [argH_at ha hk e, hoOf_tup]⟩)
 | some o =>
  have e2 := KX a o hk
  rw [e] at e2
  obtain rfl := Option.some.inj e2
  exact .inr ⟨_, us.toArray, _, hk, rfl, rfl, by rw [List.size_toArray]; exact h1, by simpa using vals_toV h2⟩
mutual
theorem dw_one {Pm : Params} (KX : K.In h) (ar : ∀ a ∈ A, ArgOb h A a) : ∀ (d : WData) (v : Value), Well Pm h v d → plW d = true → OkU A v → Dw K (argH K h A) (toV v) d
 | .none, _, x, _, _ => by
  cases x
  exact .non
 | .bool b, _, x, _, _ => by
  cases x
  exact .bl b
 | .int i, _, x, _, _ => by
  cases x
  exact .int i
 | .str s, _, x, _, _ => by
  cases x
  exact .str s
 | .bytes b, _, x, _, _ => by
  cases x
  have z := Dw.byt (K := K) (H := argH K h A) b.toArray
  exact z
 | .list ds, _, x, p, hu => by
  obtain ⟨a, vs, rfl, ho, hall⟩ := well_list x
  obtain ⟨h2, hs⟩ := argL KX ar hu ho
  exact .lst hs (dw_all KX ar ds _ hall p h2)
 | .tuple ds, _, x, p, hu => by
  obtain ⟨a, vs, rfl, ho, hall⟩ := well_tuple x
  obtain ⟨h2, hs⟩ := argT KX ar hu ho
  exact .tup hs (dw_all KX ar ds _ hall p h2)
 | .float _, _, _, p, _ => Bool.noConfusion (show false = true from p)
 | .dict _, _, _, p, _ => Bool.noConfusion (show false = true from p)
 | .bytearray _, _, _, p, _ => Bool.noConfusion (show false = true from p)
 | .set _, _, _, p, _ => Bool.noConfusion (show false = true from p)
 | .frozenset _, _, _, p, _ => Bool.noConfusion (show false = true from p)
 | .obj _ _, _, _, p, _ => Bool.noConfusion (show false = true from p)
theorem dw_all {Pm : Params} (KX : K.In h) (ar : ∀ a ∈ A, ArgOb h A a) : ∀ (ds : List WData) (vs : List Value), WellAll Pm h vs ds → plWs ds = true → (∀ u ∈ vs, OkU A u) → DwAll K (argH K h A) (vs.map toV) ds
 | [], _, x, _, _ => by
  cases x
  exact .nil
 | d :: ds, _, x, p, hu => by
  obtain ⟨v, vs, rfl, x1, x2⟩ := well_cons x
  have q : plW d = true ∧ plWs ds = true := Bool.and_eq_true_iff.mp p
  exact .cons (dw_one KX ar d v x1 q.1 (hu _ (List.mem_cons_self ..))) (dw_all KX ar ds vs x2 q.2 fun u m => hu u (List.mem_cons_of_mem _ m))
end
end
theorem spec_call {P : Program} {w : World} {K : PySem.W.Frag} {mg mb : Str → Option Value} {CX : CXT} {k : Nat} {fa : Addr} {fd : FuncData} {ps : List Str} {sp : Sp} {s₁ : Shared} {vals : List Value} {ds : List WData} {R : PySem.W.WRecords} {cl : Str → Option Addr} {d0 : WData}
  (KX : K.In s₁.heap) (hns : s₁.heap.Ns mainGlobals mg) (hb : s₁.heap.Ns builtinsNs mb) (hbb : ∀ x : Str, x ≠ "__name__" → mb x = bootBuiltins x) (hlim : s₁.heap.NoLimit) (hg : s₁.gens = #[])
  (hwl : WellAll w.params s₁.heap vals ds) (hpl : plWs ds = true) (hwt : ∀ d ∈ ds, d.weight ≤ 1048576) (hr : Room k callerA)
  (F : ∀ base : Heap, K.In base → base.Ns mainGlobals mg → FnOk P w K mg base CX k fa fd ps sp) (hbind : ∀ (s : Shared) (us : List Value), us.length = ps.length → BindsTo s fd ⟨us, []⟩ (ps.zip us)) (hlen : ds.length = ps.length)
  (hsp : ∀ (H : Hp) (xs : List V), OnlyF H → DwAll K H xs ds → sp xs H (fun v H' => Dw K H' v d0) fun _ _ _ => False)
  (hCX : ∀ H e s', CX [] H s₁ (fun _ _ _ => False) e s' → False) :
  codeAny (model P w) callerA (.call (.ref fa) ⟨vals, []⟩) (fun r s' => ∃ u as, r = .ok (.ret u) ∧ ReadsW R cl s'.heap u d0 as ∧ OldK s₁.heap s'.heap ∧ s'.os = s₁.os ∧ AllBare s'.gens) s₁ := by
 obtain ⟨A, ho, ar⟩ := area_all ds vals hwl hpl hwt
 have hO : OnlyF (argH K s₁.heap A) := argH_only ar
 have hok : HOk P w (argH K s₁.heap A) s₁.heap := argH_ok ar
 have hS := dw_all KX ar ds vals hwl hpl ho
 have hV := vals_toV ho
 have hK : ∀ b u, argH K s₁.heap A b = some u → K.lookup b = none := fun b u q => (argH_is ar q).1
 have noA : ∀ {b : Addr} {o : Obj} {es : Array DictEntry} {ep : Nat}, s₁.heap.get? b = some o → o.data = .dict es ep → argH K s₁.heap A b = none := fun {b o es ep} e d => by
  cases q : argH K s₁.heap A b with
  | none => rfl
  | some u =>
   obtain ⟨_, vs, _, _, ⟨e2, _⟩ | ⟨e2, _⟩⟩ := argH_is ar q
   ·rw [e2] at e
    cases e
    have d' : Data.seq vs.toArray _ = Data.dict es ep := d
    cases d'
   ·rw [e2] at e
    cases e
    have d' : Data.seq vs.toArray _ = Data.dict es ep := d
    cases d'
 generalize argH K s₁.heap A = H at hO hok hS hK noA
 have base_of : ∀ {b : Addr} {o : Obj}, s₁.heap.get? b = some o → H b = none → (hidT s₁.heap H).get? b = some o := fun e n => hidT_get e n
 have nsK : ∀ {b : Addr} {m : Str → Option Value}, s₁.heap.Ns b m → (hidT s₁.heap H).Ns b m := fun {b m} ⟨o, es, ep, e, d, r⟩ => ⟨o, es, ep, base_of e (noA e d), d, r⟩
 have nK : ∀ b o, K.lookup b = some o → H b = none := fun b o e => by
  cases q : H b with
  | none => rfl
  | some u =>
   rw [hK b u q] at e
   cases e
 have hKb : K.In (hidT s₁.heap H) := fun b o e => base_of (KX b o e) (nK b o e)
 have hM : Mod K mg (hidT s₁.heap H) := ⟨hKb, nsK hns, ⟨mb, nsK hb, hbb⟩, let ⟨mc, h1, h2⟩ := hlim; ⟨mc, nsK h1, h2⟩⟩
 have e0 : Env0 P w K mg (hidT s₁.heap H) callerA [] s₁ H := ⟨rfl, hM, fun b o e => of_hidT e, Nat.le_of_eq (hidT_size _ _), trivial, fun b hb => absurd (show b ∈ ([] : List Addr) from hb) (by simp), hok, .of_eq hg⟩
 have hl : vals.length = ps.length := by rw [wellAll_len hwl]; exact hlen
 refine codeAny_mono ((F _ hKb (nsK hns)).run callerA [] s₁ H ⟨vals, []⟩ vals (vals.map toV) _ _ hr e0 (hbind s₁ vals hl) hV (hsp H _ hO hS)) fun r s' x => ?_
 cases r with
 | error e => exact (hCX H e s' x).elim
 | ok fl =>
  cases fl with
  | next => exact False.elim x
  | brk => exact False.elim x
  | cont => exact False.elim x
  | ret u =>
   obtain ⟨v, H', os, bare, un, hok', r', q⟩ := x
   have kept : ∀ b o, s₁.heap.get? b = some o → s'.heap.get? b = some o := fun b o e => by
    cases q2 : H b with
    | none => exact un.keep b o e q2 (by intro z; exact absurd (show b ∈ ([] : List Addr) from z) (by simp)) (by simp)
    | some u2 =>
     rcases hO b with z | ⟨ob, u3, z⟩
     ·rw [q2] at z
      cases z
     ·have z2 := un.frzs b ob _ z
      obtain ⟨e1, _⟩ := hok b _ z
      obtain ⟨e2, _⟩ := hok' b _ z2
      rw [e] at e1
      cases e1
      exact e2
   have KX' : K.In s'.heap := fun b o e => kept b o (KX b o e)
   obtain ⟨as, hrd⟩ := Dw.reads (R := R) (cl := cl) hok' KX' d0 v u q r'
   exact ⟨u, as, rfl, hrd, OldK.of_keep kept, os, bare⟩
theorem layable_weight {ds : List WData} (h : WData.layableAll ds = true) : ∀ d ∈ ds, d.weight ≤ 1048576 := fun d hd =>
 (PySem.W.layableW_iff.mp (List.all_eq_true.mp h d hd)).2.2
theorem encAll_len : ∀ (cs : List Codec) (a : Codec.denoteAll cs), (Codec.encAll cs a).length = cs.length
 | [], _ => rfl
 | c :: cs, a => by
  show (Codec.encAll cs a.2).length + 1 = cs.length + 1
  rw [encAll_len cs a.2]
theorem walk_spec {r : OpenSpec} {k : Nat} {q : Program} {loose : List Str} {XP : (Str → Option Value) → Heap → Prop} {YP : World → Heap → Prop} {d : DefRec} {K : Params → PySem.W.Frag} {CX : World → CXT} {ps : List Str} {sp : World → Sp}
  (hwell : r.wellSaid = true) (hdf : d.params.defaults = []) (hlen : r.args.length = ps.length) (hr : Room k callerA)
  (hY : ∀ (w : World) (h : Heap), YP w h → (K w.params).In h)
  (F : ∀ (w : World) (mg : Str → Option Value) (fa : Addr) (h : Heap), YP w h → (K w.params).In h → h.Ns mainGlobals mg → mg d.name = some (.ref fa) →
   ∃ fd : FuncData, (∀ (s : Shared) (us : List Value), us.length = ps.length → BindsTo s fd ⟨us, []⟩ (ps.zip us)) ∧
    ∀ base : Heap, (K w.params).In base → base.Ns mainGlobals mg → FnOk r.prog w (K w.params) mg base (CX w) k fa fd ps (sp w))
  (hsp : ∀ (w : World) (H : Hp) (xs : List V) (a : Codec.denoteAll r.args), OnlyF H → Codec.withinAll r.args a = true → Codec.app r.args r.asked a = true → DwAll (K w.params) H xs (Codec.encAll r.args a) →
   sp w xs H (fun v H' => Dw (K w.params) H' v (r.ret.enc (Codec.app r.args r.f a))) fun _ _ _ => False)
  (hCX : ∀ (w : World) (H : Hp) (s : Shared) (e : Value) (s' : Shared), CX w [] H s (fun _ _ _ => False) e s' → False) :
  PySem.W.WalkOS q loose XP YP r d [] (fun f vs => PySem.call f vs) := by
 intro w s_0 s₁ mg mb G Y fa o pm cd doc dV kV ho hd hcd hD hmg hg args vals as hpre hlay hrd hwl hlo
 obtain ⟨a, e1, e2⟩ := PySem.W.os_pre_some hpre
 obtain ⟨e3, hwi⟩ := Codec.encAll_of_decAll r.args args a e1
 subst e3
 have KX := hY w _ Y
 obtain ⟨fd, hb, hF⟩ := F w mg fa _ Y KX G.T.g hmg
 refine PySem.W.enter_call (codeAny_mono (spec_call (R := []) (cl := classAt s_0.heap) (d0 := r.ret.enc (Codec.app r.args r.f a)) KX G.T.g G.T.b G.T.builtins G.T.nolimit hg hwl (pl_encAll _ _) (layable_weight hlay) hr hF hb (by rw [encAll_len]; exact hlen)
  (fun H xs hO hS => hsp w H xs a hO hwi e2 hS) fun H e s' => hCX w H s₁ e s') fun r' s' hq => ?_)
 obtain ⟨u, as', rfl, h1, h2, h3, h4⟩ := hq
 exact ⟨.inl ⟨u, _, as', rfl, fun _ => rfl, h1, (OpenSpec.post_iff hwell hwi _ _).mpr rfl, fun z => Bool.noConfusion (show false = true from z)⟩, h2, h3, h4⟩
theorem walk_specK {r : OpenSpec} {k : Nat} {q : Program} {loose : List Str} {XP : (Str → Option Value) → Heap → Prop} {YP : World → Heap → Prop} {d : DefRec} {K : Params → PySem.W.Frag} {CX : CXT} {ps : List Str} {sp : PySem.W.Frag → Sp}
  (hwell : r.wellSaid = true) (hdf : d.params.defaults = []) (hlen : r.args.length = ps.length) (hr : Room k callerA)
  (hY : ∀ (w : World) (h : Heap), YP w h → (K w.params).In h)
  (F : ∀ (w : World) (mg : Str → Option Value) (fa : Addr) (h : Heap), YP w h → (K w.params).In h → h.Ns mainGlobals mg → mg d.name = some (.ref fa) →
   ∃ fd : FuncData, (∀ (s : Shared) (us : List Value), us.length = ps.length → BindsTo s fd ⟨us, []⟩ (ps.zip us)) ∧
    ∀ base : Heap, (K w.params).In base → base.Ns mainGlobals mg → FnOk r.prog w (K w.params) mg base CX k fa fd ps (sp (K w.params)))
  (hsp : ∀ (K : PySem.W.Frag) (H : Hp) (xs : List V) (a : Codec.denoteAll r.args), OnlyF H → Codec.withinAll r.args a = true → Codec.app r.args r.asked a = true → DwAll K H xs (Codec.encAll r.args a) →
   sp K xs H (fun v H' => Dw K H' v (r.ret.enc (Codec.app r.args r.f a))) fun _ _ _ => False)
  (hCX : ∀ (H : Hp) (s : Shared) (e : Value) (s' : Shared), CX [] H s (fun _ _ _ => False) e s' → False) :
  PySem.W.WalkOS q loose XP YP r d [] (fun f vs => PySem.call f vs) :=
 walk_spec (K := K) (CX := fun _ => CX) (sp := fun w => sp (K w.params)) hwell hdf hlen hr hY F (fun w H xs a h1 h2 h3 h4 => hsp (K w.params) H xs a h1 h2 h3 h4) fun _ H s e s' => hCX H s e s'
end L2
end
set_option linter.all false
namespace Tm
open Vaflxm
theorem leap_eq (y : Nat) : (decide ((y : Int) % 400 = 0) || (decide ((y : Int) % 4 = 0) && !decide ((y : Int) % 100 = 0))) = isLeap y := by
 unfold isLeap
 have a : decide ((y : Int) % 400 = 0) = (y % 400 == 0) := by rw [Bool.eq_iff_iff]; simp; omega
 have b : decide ((y : Int) % 4 = 0) = (y % 4 == 0) := by rw [Bool.eq_iff_iff]; simp; omega
 have c : decide ((y : Int) % 100 = 0) = (y % 100 == 0) := by rw [Bool.eq_iff_iff]; simp; omega
 rw [a, b, c]
 have d : (y % 400 == 0) = true → (y % 4 == 0) = true := by simp; omega
 revert d
 cases (y % 400 == 0) <;> cases (y % 4 == 0) <;> cases h : (y % 100 == 0) <;> simp [bne, h]
def lens : List Int := [31, 28, 31, 30, 31, 30, 31, 31, 30, 31, 30, 31]
theorem lens_at (y m : Nat) (h1 : 1 ≤ m) (h2 : m ≤ 12) (h : ¬ (m = 2 ∧ isLeap y = true)) : lens[m - 1]? = some ((daysIn y m : Nat) : Int) := by
 have : m = 1 ∨ m = 2 ∨ m = 3 ∨ m = 4 ∨ m = 5 ∨ m = 6 ∨ m = 7 ∨ m = 8 ∨ m = 9 ∨ m = 10 ∨ m = 11 ∨ m = 12 := by omega
 rcases this with rfl | rfl | rfl | rfl | rfl | rfl | rfl | rfl | rfl | rfl | rfl | rfl <;> simp [lens, daysIn]
 simp at h
 simp [h]
theorem daysIn_leap (y : Nat) (h : isLeap y = true) : daysIn y 2 = 29 := by simp [daysIn, h]
theorem daysIn_pos (y m : Nat) : 28 ≤ daysIn y m ∧ daysIn y m ≤ 31 := by
 unfold daysIn
 split
 ·split <;> omega
 ·split <;> omega
theorem goodDate_iff (y m d : Int) : goodDate y m d = true ↔ (1 ≤ y ∧ y ≤ 9999 ∧ 1 ≤ m ∧ m ≤ 12 ∧ 1 ≤ d ∧ d ≤ (daysIn y.toNat m.toNat : Nat)) := by
 have := daysIn_pos y.toNat m.toNat
 simp [goodDate, within, isDate]
 omega
theorem isDate_iff (y m d : Nat) : isDate y m d = true ↔ (1 ≤ y ∧ y ≤ 9999 ∧ 1 ≤ m ∧ m ≤ 12 ∧ 1 ≤ d ∧ d ≤ daysIn y m) := by
 simp [isDate]
 omega
theorem goodDate_nat (y m d : Nat) : goodDate y m d = isDate y m d := by
 rw [Bool.eq_iff_iff, goodDate_iff, isDate_iff]
 simp
 omega
theorem before_int (y : Nat) (h : 1 ≤ y) : ((y : Int) - 1) * 365 + ((y : Int) - 1) / 4 - ((y : Int) - 1) / 100 + ((y : Int) - 1) / 400 = (daysBefore y : Nat) := by
 unfold daysBefore
 omega
theorem before_mono (y : Nat) (h : 1 ≤ y) : daysBefore y + 365 ≤ daysBefore (y + 1) ∧ daysBefore (y + 1) ≤ daysBefore y + 366 := by
 unfold daysBefore
 omega
theorem before_add {a : Nat} (h : 1 ≤ a) : ∀ k, daysBefore a ≤ daysBefore (a + k)
 | 0 => Nat.le_refl _
 | k + 1 => Nat.le_trans (before_add h k) (by have := before_mono (a + k) (by omega); rw [← Nat.add_assoc]; omega)
theorem before_le {a b : Nat} (h : 1 ≤ a) (hab : a ≤ b) : daysBefore a ≤ daysBefore b := by
 have := before_add h (b - a)
 rw [show a + (b - a) = b by omega] at this
 exact this
theorem before_succ (y : Nat) (h : 1 ≤ y) : daysBefore (y + 1) = daysBefore y + (if isLeap y then 366 else 365) := by
 obtain ⟨p, rfl⟩ : ∃ p, y = p + 1 := ⟨y - 1, by omega⟩
 have e4 : (p + 1) / 4 = p / 4 + (if (p + 1) % 4 = 0 then 1 else 0) := by split <;> omega
 have e100 : (p + 1) / 100 = p / 100 + (if (p + 1) % 100 = 0 then 1 else 0) := by split <;> omega
 have e400 : (p + 1) / 400 = p / 400 + (if (p + 1) % 400 = 0 then 1 else 0) := by split <;> omega
 have l1 : (p + 1) % 400 = 0 → (p + 1) % 100 = 0 := by omega
 have l2 : (p + 1) % 100 = 0 → (p + 1) % 4 = 0 := by omega
 have l3 : p / 100 ≤ p / 4 := by omega
 unfold daysBefore isLeap
 simp only [Nat.add_sub_cancel]
 rw [e4, e100, e400]
 generalize p / 4 = a at *
 generalize p / 100 = b at *
 generalize p / 400 = c at *
 by_cases h4 : (p + 1) % 4 = 0 <;> by_cases h100 : (p + 1) % 100 = 0 <;> by_cases h400 : (p + 1) % 400 = 0 <;> simp [h4, h100, h400] <;> first | omega | (exfalso; simp_all)
theorem year_len (y : Nat) : daysInMonths y 12 = if isLeap y then 366 else 365 := by
 cases h : isLeap y <;> simp [daysInMonths, daysIn, h]
theorem first_year (n : Nat) (h : 1 ≤ n) : daysBefore (n / 366 + 1) < n := by
 unfold daysBefore
 omega
theorem getLast_filter (p : Nat → Bool) : ∀ (n k : Nat), k < n → p k = true → (∀ j, k < j → j < n → p j = false) → ((List.range n).filter p).getLast? = some k
 | 0, k, h, _, _ => by omega
 | n + 1, k, h, hp, hn => by
  rw [List.range_succ, List.filter_append]
  by_cases e : k = n
  ·subst e
   simp [List.filter_cons, hp]
  ·have := hn n (by omega) (by omega)
   have ih := getLast_filter p n k (by omega) hp (fun j h1 h2 => hn j h1 (by omega))
   rw [List.filter_cons, this, if_neg (by decide), List.filter_nil, List.append_nil]
   exact ih
theorem year_of (n y : Nat) (h1 : 1 ≤ n) (h2 : n ≤ MOST_DAY) (hy : 1 ≤ y) (ha : daysBefore y < n) (hb : n ≤ daysBefore (y + 1)) :
  ((List.range 30).filter fun k => decide (daysBefore ((n - 1) / 366 + 1 + k) < n)).getLast?.getD 0 + ((n - 1) / 366 + 1) = y := by
 have hM : n ≤ 3652059 := h2
 have h9 : y ≤ 9999 := by
  unfold daysBefore at ha
  omega
 have g1 : (n - 1) / 366 + 1 ≤ y := by
  unfold daysBefore at hb
  omega
 have g2 : y - ((n - 1) / 366 + 1) < 30 := by
  unfold daysBefore at ha
  omega
 rw [getLast_filter _ 30 (y - ((n - 1) / 366 + 1)) g2]
 ·simp; omega
 ·simp
  rw [show (n - 1) / 366 + 1 + (y - ((n - 1) / 366 + 1)) = y by omega]
  exact ha
 ·intro j hj _
  simp
  exact Nat.le_trans hb (before_le (by omega) (by omega))
theorem dateOf_eq (n y : Nat) (h1 : 1 ≤ n) (h2 : n ≤ MOST_DAY) (hy : 1 ≤ y) (ha : daysBefore y < n) (hb : n ≤ daysBefore (y + 1)) :
  dateOf n = (y, monthOf y 12 1 (n - daysBefore y)) := by
 unfold dateOf
 simp only [year_of n y h1 h2 hy ha hb]
theorem month_room (y m d : Nat) (h : d + daysInMonths y (m - 1) ≤ daysInMonths y 12) (hm : 1 ≤ m) (hd : daysIn y m < d) : m < 12 := by
 by_cases e : m < 12
 ·exact e
 ·exfalso
  have hm' : daysInMonths y 12 ≤ daysInMonths y m := by
   have : ∀ k, daysInMonths y 12 ≤ daysInMonths y (12 + k) := by
    intro k
    induction k with
    | zero => exact Nat.le_refl _
    | succ k ih => rw [← Nat.add_assoc]; simp only [daysInMonths] at ih ⊢; omega
   have := this (m - 12)
   rw [show 12 + (m - 12) = m by omega] at this
   exact this
  obtain ⟨k, rfl⟩ : ∃ k, m = k + 1 := ⟨m - 1, by omega⟩
  simp only [daysInMonths, Nat.add_sub_cancel] at hm' h
  omega
theorem month_step (y k m d : Nat) (h : daysIn y m < d) : monthOf y (k + 1) m d = monthOf y k (m + 1) (d - daysIn y m) := by
 rw [monthOf, if_neg (by omega)]
theorem month_stop (y k m d : Nat) (h : d ≤ daysIn y m) : monthOf y k m d = (m, d) := by
 cases k with
 | zero => rfl
 | succ k => rw [monthOf, if_pos h]
theorem inMonths_succ (y m : Nat) (h : 1 ≤ m) : daysInMonths y m = daysInMonths y (m - 1) + daysIn y m := by
 obtain ⟨k, rfl⟩ : ∃ k, m = k + 1 := ⟨m - 1, by omega⟩
 rfl
theorem month_good (y : Nat) : ∀ (k m d : Nat), 1 ≤ m → m + k = 13 → 1 ≤ d → d + daysInMonths y (m - 1) ≤ daysInMonths y 12 → (monthOf y k m d).1 ≤ 12 ∧ 1 ≤ (monthOf y k m d).1 ∧ 1 ≤ (monthOf y k m d).2 ∧ (monthOf y k m d).2 ≤ daysIn y (monthOf y k m d).1
 | 0, m, d, h1, h2, h3, h4 => by
  have : m = 13 := by omega
  subst this
  simp at h4
  omega
 | k + 1, m, d, h1, h2, h3, h4 => by
  by_cases h : d ≤ daysIn y m
  ·rw [month_stop y _ m d h]
   exact ⟨by omega, h1, h3, h⟩
  ·rw [month_step y k m d (by omega)]
   refine month_good y k (m + 1) _ (by omega) (by omega) (by omega) ?_
   have := inMonths_succ y m h1
   simp only [Nat.add_sub_cancel]
   omega
end Tm
set_option linter.all false
namespace Tm
open Vaflxm
theorem rev_fuel : ∀ (f g n : Nat), n < 10 ^ f → n < 10 ^ g → 1 ≤ f → 1 ≤ g → revDigits f n = revDigits g n
 | 0, _, _, _, _, h, _ => by omega
 | _, 0, _, _, _, _, h => by omega
 | f + 1, g + 1, n, hf, hg, _, _ => by
  rw [revDigits, revDigits]
  by_cases h : n < 10
  ·rw [if_pos h, if_pos h]
  ·rw [if_neg h, if_neg h]
   have hf' : n / 10 < 10 ^ f := by rw [Nat.pow_succ] at hf; omega
   have hg' : n / 10 < 10 ^ g := by rw [Nat.pow_succ] at hg; omega
   have f1 : 1 ≤ f := by
    cases f with
    | zero => simp at hf; omega
    | succ f => omega
   have g1 : 1 ≤ g := by
    cases g with
    | zero => simp at hg; omega
    | succ g => omega
   rw [rev_fuel f g (n / 10) hf' hg' f1 g1]
theorem log_fuel (n : Nat) : n < 10 ^ (n.log2 + 2) := by
 have h1 : n < 2 ^ (n.log2 + 1) := Nat.lt_log2_self
 have h2 : 2 ^ (n.log2 + 1) ≤ 10 ^ (n.log2 + 1) := Nat.pow_le_pow_left (by omega) _
 have h3 : 10 ^ (n.log2 + 1) ≤ 10 ^ (n.log2 + 2) := Nat.pow_le_pow_right (by omega) (by omega)
 omega
theorem dec_lt {n : Nat} (h : n < 10) : decimal n = [UInt8.ofNat (48 + n)] := by
 unfold decimal
 rw [revDigits, if_pos h, Nat.mod_eq_of_lt h]
 rfl
theorem dec_step {n : Nat} (h : 10 ≤ n) : decimal n = decimal (n / 10) ++ [UInt8.ofNat (48 + n % 10)] := by
 unfold decimal
 rw [revDigits, if_neg (by omega), List.reverse_cons]
 have e := rev_fuel (n.log2 + 1) ((n / 10).log2 + 2) (n / 10) (by
  have := log_fuel n
  rw [show n.log2 + 2 = (n.log2 + 1) + 1 by omega, Nat.pow_succ] at this
  omega) (log_fuel _) (by omega) (by omega)
 rw [e]
theorem ofNat_digit (d : Nat) (h : d < 10) : (UInt8.ofNat (48 + d)).toNat = 48 + d := by
 simp [UInt8.toNat_ofNat]
 omega
theorem dec_length_pos (n : Nat) : 1 ≤ (decimal n).length := by
 by_cases h : n < 10
 ·rw [dec_lt h]; simp
 ·rw [dec_step (by omega)]; simp
theorem dec_digits (n : Nat) : ∀ c ∈ decimal n, isDigit c = true := by
 induction n using Nat.strongRecOn with
 | _ n ih =>
  have one : ∀ d : Nat, d < 10 → isDigit (UInt8.ofNat (48 + d)) = true := by decide
  by_cases h : n < 10
  ·rw [dec_lt h]
   intro c hc
   rw [List.mem_singleton.mp hc]
   exact one n h
  ·rw [dec_step (by omega)]
   intro c hc
   rcases List.mem_append.mp hc with hc | hc
   ·exact ih (n / 10) (by omega) c hc
   ·rw [List.mem_singleton.mp hc]
    exact one _ (by omega)
theorem digit_iff (c : UInt8) : isDigit c = true ↔ 48 ≤ c.toNat ∧ c.toNat ≤ 57 := by
 unfold isDigit
 simp [UInt8.le_iff_toNat_le]
theorem dec_length (n k : Nat) : 1 ≤ k → ((decimal n).length ≤ k ↔ n < 10 ^ k) := by
 induction n using Nat.strongRecOn generalizing k with
 | _ n ih =>
  intro hk
  by_cases h : n < 10
  ·rw [dec_lt h]
   have : 10 ^ 1 ≤ 10 ^ k := Nat.pow_le_pow_right (by omega) hk
   simp
   omega
  ·rw [dec_step (by omega)]
   obtain ⟨j, rfl⟩ : ∃ j, k = j + 1 := ⟨k - 1, by omega⟩
   simp only [List.length_append, List.length_cons, List.length_nil]
   rw [Nat.pow_succ]
   by_cases hj : j = 0
   ·subst hj
    have := dec_length_pos (n / 10)
    rw [Nat.pow_zero, Nat.one_mul]
    exact ⟨fun z => by omega, fun z => by omega⟩
   ·have := ih (n / 10) (by omega) j (by omega)
    omega
theorem padded_length (w n : Nat) : (padded w n).length = max w (decimal n).length := by
 unfold padded
 simp
 omega
theorem padded_digits (w n : Nat) : ∀ c ∈ padded w n, isDigit c = true := by
 intro c hc
 unfold padded at hc
 rcases List.mem_append.mp hc with h | h
 ·rw [(List.mem_replicate.mp h).2]
  decide
 ·exact dec_digits n c h
theorem padded_step (w n d : Nat) (hw : 1 ≤ w) (hd : d < 10) : padded (w + 1) (n * 10 + d) = padded w n ++ [UInt8.ofNat (48 + d)] := by
 by_cases h : n = 0
 ·subst h
  unfold padded
  rw [show 0 * 10 + d = d by omega, dec_lt hd, dec_lt (show 0 < 10 by omega)]
  show List.replicate (w + 1 - 1) 48 ++ [UInt8.ofNat (48 + d)] = (List.replicate (w - 1) 48 ++ [48]) ++ [UInt8.ofNat (48 + d)]
  obtain ⟨k, rfl⟩ : ∃ k, w = k + 1 := ⟨w - 1, by omega⟩
  rw [Nat.add_sub_cancel, Nat.add_sub_cancel, List.replicate_succ']
 ·unfold padded
  have e1 : (n * 10 + d) / 10 = n := by omega
  have e2 : (n * 10 + d) % 10 = d := by omega
  rw [dec_step (show 10 ≤ n * 10 + d by omega), e1, e2]
  simp only [List.length_append, List.length_cons, List.length_nil, ← List.append_assoc]
  rw [show w + 1 - ((decimal n).length + (0 + 1)) = w - (decimal n).length by omega]
theorem padded_split (w d a : Nat) (hw : 1 ≤ w) : padded (w + d) a = padded w (a / 10 ^ d) ++ (if d = 0 then [] else padded d (a % 10 ^ d)) := by
 induction d generalizing a with
 | zero => simp
 | succ d ih =>
  rw [if_neg (by omega)]
  have e : a = (a / 10) * 10 + a % 10 := by omega
  have hlt : a % 10 < 10 := by omega
  rw [show padded (w + (d + 1)) a = padded (w + d + 1) ((a / 10) * 10 + a % 10) by rw [← e]; rfl, padded_step (w + d) _ _ (by omega) hlt, ih (a / 10)]
  have e1 : a / 10 / 10 ^ d = a / 10 ^ (d + 1) := by rw [Nat.div_div_eq_div_mul, Nat.pow_succ, Nat.mul_comm]
  rw [e1]
  by_cases h0 : d = 0
  ·subst h0
   rw [if_pos rfl, List.append_nil]
   have e3 : padded (0 + 1) (a % 10 ^ (0 + 1)) = [UInt8.ofNat (48 + a % 10)] := by
    rw [show a % 10 ^ (0 + 1) = a % 10 by simp]
    unfold padded
    rw [dec_lt (show a % 10 < 10 by omega)]
    rfl
   rw [e3]
  ·rw [if_neg h0]
   have e2 : a % 10 ^ (d + 1) = (a / 10 % 10 ^ d) * 10 + a % 10 := by
    rw [Nat.pow_succ, Nat.mul_comm, Nat.mod_mul]
    omega
   rw [e2, padded_step d _ _ (by omega) hlt, List.append_assoc]
end Tm
set_option linter.all false
namespace Tm
open Vaflxm
theorem lowest_go (k : Nat) (n : Int) (s : Nat) (h : 0 < s ∧ n % 10 = 0) : lowest (k + 1) n s = lowest k (n / 10) (s - 1) := by rw [lowest, if_pos h]
theorem lowest_stop (k : Nat) (n : Int) (s : Nat) (h : ¬ (0 < s ∧ n % 10 = 0)) : lowest k n s = (n, s) := by
 cases k with
 | zero => rfl
 | succ k => rw [lowest, if_neg h]
theorem lowest_spec : ∀ (s : Nat) (n : Int), (lowest s n s).2 ≤ s ∧ (lowest s n s).1 * 10 ^ (s - (lowest s n s).2) = n ∧ (0 < (lowest s n s).2 → ¬ (lowest s n s).1 % 10 = 0)
 | 0, n => by simp [lowest]
 | s + 1, n => by
  by_cases h : n % 10 = 0
  ·rw [lowest_go s n (s + 1) ⟨by omega, h⟩]
   simp only [Nat.add_sub_cancel]
   obtain ⟨a, b, c⟩ := lowest_spec s (n / 10)
   refine ⟨by omega, ?_, c⟩
   rw [show s + 1 - (lowest s (n / 10) s).2 = (s - (lowest s (n / 10) s).2) + 1 by omega, Int.pow_succ, ← Int.mul_assoc, b]
   omega
  ·rw [lowest_stop _ n (s + 1) (by omega)]
   simp
   exact h
theorem grev_snoc (g : UInt8) : ∀ (l : Text) (k : Nat) (c : UInt8), 1 ≤ k → k ≤ 3 → groupedRev g k (l ++ [c]) = groupedRev g k l ++ (if (k + l.length) % 3 = 0 then [g, c] else [c])
 | [], k, c, h1, h2 => by
  simp only [List.nil_append, List.length_nil, Nat.add_zero, groupedRev]
  by_cases h : k = 3
  ·subst h; rfl
  ·rw [if_neg h, if_neg (by omega)]
 | a :: l, k, c, h1, h2 => by
  simp only [List.cons_append, groupedRev, List.length_cons]
  by_cases h : k = 3
  ·subst h
   rw [if_pos rfl, if_pos rfl, grev_snoc g l 1 c (by omega) (by omega)]
   simp only [List.cons_append, show (3 + (l.length + 1)) % 3 = (1 + l.length) % 3 by omega]
  ·rw [if_neg h, if_neg h, grev_snoc g l (k + 1) c (by omega) (by omega)]
   simp only [List.cons_append, show (k + (l.length + 1)) % 3 = (k + 1 + l.length) % 3 by omega]
theorem grev0_snoc (g : UInt8) (l : Text) (c : UInt8) : groupedRev g 0 (l ++ [c]) = groupedRev g 0 l ++ (if 1 ≤ l.length ∧ l.length % 3 = 0 then [g, c] else [c]) := by
 cases l with
 | nil => rfl
 | cons a l =>
  simp only [List.cons_append, groupedRev, List.length_cons]
  rw [if_neg (by omega), if_neg (by omega), grev_snoc g l 1 c (by omega) (by omega)]
  simp only [List.cons_append]
  congr 2
  rw [show (1 + l.length) = l.length + 1 by omega]
  by_cases h : (l.length + 1) % 3 = 0
  ·rw [if_pos h, if_pos ⟨by omega, h⟩]
  ·rw [if_neg h, if_neg (fun z => h z.2)]
theorem grouped_cons {g : UInt8} (hg : ¬ g = 0) (c : UInt8) (t : Text) : grouped g (c :: t) = (if 1 ≤ t.length ∧ t.length % 3 = 0 then [c, g] else [c]) ++ grouped g t := by
 unfold grouped
 rw [if_neg hg, if_neg hg, List.reverse_cons, grev0_snoc, List.reverse_append, List.length_reverse]
 by_cases h : 1 ≤ t.length ∧ t.length % 3 = 0
 ·rw [if_pos h, if_pos h]; rfl
 ·rw [if_neg h, if_neg h]; rfl
theorem grouped_nil {g : UInt8} : grouped g [] = [] := by
 unfold grouped
 split <;> rfl
theorem grouped_zero (t : Text) : grouped 0 t = t := by
 unfold grouped
 rw [if_pos rfl]
def pend (g : UInt8) (n i : Nat) : Text := if 0 < i ∧ i < n ∧ (n - i) % 3 = 0 then [g] else []
theorem pend_step {g : UInt8} (hg : ¬ g = 0) (t : Text) (i : Nat) (h : i < t.length) : pend g t.length i ++ grouped g (t.drop i) = ((if 0 < i ∧ (t.length - i) % 3 = 0 then [g] else []) ++ [t[i]]) ++ (pend g t.length (i + 1) ++ grouped g (t.drop (i + 1))) := by
 rw [List.drop_eq_getElem_cons h, grouped_cons hg]
 have e1 : pend g t.length i = if 0 < i ∧ (t.length - i) % 3 = 0 then [g] else [] := by
  unfold pend
  by_cases q : 0 < i ∧ (t.length - i) % 3 = 0
  ·rw [if_pos q, if_pos ⟨q.1, h, q.2⟩]
  ·rw [if_neg q, if_neg (fun z => q ⟨z.1, z.2.2⟩)]
 rw [e1, List.append_assoc]
 congr 1
 have e2 : (t.drop (i + 1)).length = t.length - (i + 1) := List.length_drop
 rw [e2]
 unfold pend
 by_cases q : 1 ≤ t.length - (i + 1) ∧ (t.length - (i + 1)) % 3 = 0
 ·rw [if_pos q, if_pos ⟨by omega, by omega, q.2⟩]
  rfl
 ·rw [if_neg q, if_neg (fun z => q ⟨by omega, z.2.2⟩)]
  rfl
theorem grouped_length (g : UInt8) : ∀ t : Text, (grouped g t).length ≤ 2 * t.length
 | [] => by rw [grouped_nil]; simp
 | c :: t => by
  by_cases hg : g = 0
  ·subst hg; rw [grouped_zero]; omega
  ·rw [grouped_cons hg]
   have := grouped_length g t
   simp only [List.length_append, List.length_cons]
   split <;> simp <;> omega
theorem written_parts (wd d a : Nat) (hw : 1 ≤ wd) : (padded (wd + d) a).length - d = (padded wd (a / 10 ^ d)).length ∧
  (padded (wd + d) a).take ((padded (wd + d) a).length - d) = padded wd (a / 10 ^ d) ∧ (padded (wd + d) a).drop ((padded (wd + d) a).length - d) = (if d = 0 then [] else padded d (a % 10 ^ d)) := by
 have e := padded_split wd d a hw
 have hl : (if d = 0 then ([] : Text) else padded d (a % 10 ^ d)).length = d := by
  split
  ·rename_i h; rw [h]; rfl
  ·rw [padded_length]
   have := (dec_length (a % 10 ^ d) d (by omega)).mpr (Nat.mod_lt _ (Nat.pow_pos (by omega)))
   omega
 have h1 : (padded (wd + d) a).length - d = (padded wd (a / 10 ^ d)).length := by
  rw [e, List.length_append, hl]
  omega
 refine ⟨h1, ?_, ?_⟩
 ·rw [h1, e, List.take_left]
 ·rw [h1, e, List.drop_left]
theorem whole_small (wd n : Nat) (hw : wd ≤ 15) : (padded wd n).length ≤ 15 ↔ n < MOST_WHOLE := by
 rw [padded_length]
 have := dec_length n 15 (by omega)
 unfold MOST_WHOLE
 omega
theorem digitsVal_snoc (t : Text) (c : UInt8) : digitsVal (t ++ [c]) = 10 * digitsVal t + (c.toNat - 48) := by
 unfold digitsVal
 rw [List.foldl_append]
 rfl
theorem digitsVal_fold_lt : ∀ (t : Text) (n : Nat), (∀ c ∈ t, isDigit c = true) → t.foldl (fun (n : Nat) c => 10 * n + (c.toNat - 48)) n < (n + 1) * 10 ^ t.length
 | [], n, _ => by simp
 | c :: r, n, h => by
  have hc := (digit_iff c).mp (h c (List.mem_cons_self ..))
  have ih := digitsVal_fold_lt r (10 * n + (c.toNat - 48)) (fun d hd => h d (List.mem_cons_of_mem _ hd))
  rw [List.foldl_cons, List.length_cons, Nat.pow_succ]
  have h2 : (10 * n + (c.toNat - 48) + 1) * 10 ^ r.length ≤ (10 * (n + 1)) * 10 ^ r.length := Nat.mul_le_mul_right _ (by omega)
  have h3 : (10 * (n + 1)) * 10 ^ r.length = (n + 1) * (10 ^ r.length * 10) := by
   rw [Nat.mul_comm 10 (n + 1), Nat.mul_assoc, Nat.mul_comm 10]
  omega
theorem digitsVal_lt (t : Text) (h : ∀ c ∈ t, isDigit c = true) : digitsVal t < 10 ^ t.length := by
 have := digitsVal_fold_lt t 0 h
 simpa [digitsVal] using this
theorem digits_read_lt (t : Text) (h : t.length ≤ 25) : digitsVal (t.filter isDigit) < 10 ^ 25 := by
 have h1 := digitsVal_lt (t.filter isDigit) (fun c hc => (List.mem_filter.mp hc).2)
 have h2 : (t.filter isDigit).length ≤ t.length := List.length_filter_le ..
 exact Nat.lt_of_lt_of_le h1 (Nat.pow_le_pow_right (by omega) (by omega))
theorem lowest_small (s : Nat) (n : Int) : (lowest s n s).1.natAbs ≤ n.natAbs := by
 obtain ⟨_, h, _⟩ := lowest_spec s n
 have e : n.natAbs = (lowest s n s).1.natAbs * 10 ^ (s - (lowest s n s).2) := by
  have e2 : ((10 : Int) ^ (s - (lowest s n s).2)).natAbs = 10 ^ (s - (lowest s n s).2) := by rw [Int.natAbs_pow]; rfl
  rw [← e2, ← Int.natAbs_mul, h]
 have : 1 ≤ 10 ^ (s - (lowest s n s).2) := Nat.pow_pos (by omega)
 calc (lowest s n s).1.natAbs = (lowest s n s).1.natAbs * 1 := by omega
  _ ≤ _ := by rw [e]; exact Nat.mul_le_mul_left _ this
def signed (t : Text) : Int := if t.take 1 = [45] then -((digitsVal (t.filter isDigit) : Nat) : Int) else ((digitsVal (t.filter isDigit) : Nat) : Int)
theorem readNum_eq (f : NumForm) (t : Text) : readNum f t = if 25 < t.length then none else
  if writeNum f (lowest f.decimals (signed t) f.decimals).1 (lowest f.decimals (signed t) f.decimals).2 = some t then some (.number (lowest f.decimals (signed t) f.decimals).1 (lowest f.decimals (signed t) f.decimals).2) else none := by
 have fin : ∀ n : Int, n = signed t → (if MOST_READ < t.length then none else match numberOf n f.decimals with
   | .number m s => if writeNum f m s = some t then some (Value.number m s) else none
   | _ => none) = if 25 < t.length then none else
  if writeNum f (lowest f.decimals (signed t) f.decimals).1 (lowest f.decimals (signed t) f.decimals).2 = some t then some (.number (lowest f.decimals (signed t) f.decimals).1 (lowest f.decimals (signed t) f.decimals).2) else none := by
  intro n e
  rw [e]
  rfl
 rcases t with _ | ⟨c, r⟩
 ·exact fin _ (by simp [signed])
 ·by_cases hc : c = 45
  ·subst hc
   refine fin _ ?_
   unfold signed
   rw [if_pos (show List.take 1 (45 :: r) = [45] by rfl), List.filter_cons, if_neg (show ¬ isDigit 45 = true by decide)]
   rfl
  ·have e1 : signed (c :: r) = ((digitsVal ((c :: r).filter isDigit) : Nat) : Int) := by
    unfold signed
    rw [if_neg (by intro z; simp at z; exact hc z)]
   unfold readNum
   split
   ·rename_i h; simp at h; exact absurd h.1 hc
   ·exact fin _ e1.symm
end Tm
set_option linter.all false
namespace Tm
open Vaflxm
def splitGo (s : UInt8) : Text → Text → List Text
 | cur, [] => [cur]
 | cur, c :: r => if c = s then cur :: splitGo s [] r else splitGo s (cur ++ [c]) r
def splitT (s : UInt8) (t : Text) : List Text := splitGo s [] t
theorem split_plain (s : UInt8) : ∀ (p cur : Text), s ∉ p → splitGo s cur p = [cur ++ p]
 | [], cur, _ => by simp [splitGo]
 | c :: r, cur, h => by
  have hc : ¬ c = s := fun e => h (by rw [e]; exact List.mem_cons_self ..)
  rw [splitGo, if_neg hc, split_plain s r _ (fun m => h (List.mem_cons_of_mem _ m)), List.append_assoc]
  rfl
theorem split_sep (s : UInt8) : ∀ (p cur r : Text), s ∉ p → splitGo s cur (p ++ s :: r) = (cur ++ p) :: splitGo s [] r
 | [], cur, r, _ => by simp [splitGo]
 | c :: q, cur, r, h => by
  have hc : ¬ c = s := fun e => h (by rw [e]; exact List.mem_cons_self ..)
  rw [List.cons_append, splitGo, if_neg hc, split_sep s q _ r (fun m => h (List.mem_cons_of_mem _ m)), List.append_assoc]
  rfl
theorem split_three (s : UInt8) (a b c : Text) (ha : s ∉ a) (hb : s ∉ b) (hc : s ∉ c) : splitT s (a ++ ([s] ++ (b ++ ([s] ++ c)))) = [a, b, c] := by
 unfold splitT
 rw [show a ++ ([s] ++ (b ++ ([s] ++ c))) = a ++ s :: (b ++ s :: c) by simp, split_sep s a [] _ ha, split_sep s b [] _ hb, split_plain s c [] hc]
 simp
theorem digitsVal_dec (n : Nat) : digitsVal (decimal n) = n := by
 induction n using Nat.strongRecOn with
 | _ n ih =>
  by_cases h : n < 10
  ·rw [dec_lt h]
   show 10 * 0 + ((UInt8.ofNat (48 + n)).toNat - 48) = n
   rw [ofNat_digit n h]
   omega
  ·rw [dec_step (by omega), digitsVal_snoc, ih (n / 10) (by omega), ofNat_digit _ (by omega)]
   omega
theorem digitsVal_zeros : ∀ (k : Nat) (t : Text), digitsVal (List.replicate k 48 ++ t) = digitsVal t
 | 0, t => by simp
 | k + 1, t => by
  have ih := digitsVal_zeros k t
  unfold digitsVal at ih ⊢
  rw [List.replicate_succ, List.cons_append, List.foldl_cons]
  exact ih
theorem digitsVal_padded (w n : Nat) : digitsVal (padded w n) = n := by
 show digitsVal (List.replicate (w - (decimal n).length) 48 ++ decimal n) = n
 rw [digitsVal_zeros, digitsVal_dec]
theorem filter_digits {t : Text} (h : ∀ c ∈ t, isDigit c = true) : t.filter isDigit = t := List.filter_eq_self.mpr h
theorem read_padded (w n : Nat) : digitsVal ((padded w n).filter isDigit) = n := by
 rw [filter_digits (padded_digits w n), digitsVal_padded]
theorem padded_one (n : Nat) : padded 1 n = decimal n := by
 have := dec_length_pos n
 show List.replicate (1 - (decimal n).length) 48 ++ decimal n = decimal n
 rw [show 1 - (decimal n).length = 0 by omega]
 rfl
def wfD (f : DateForm) : Prop := f.order ≤ 2 ∧ (f.sep = 46 ∨ f.sep = 47 ∨ f.sep = 45 ∨ f.sep = 32 ∨ f.sep = 0) ∧ (1 ≤ f.month ∧ f.month ≤ 4) ∧ (f.sep = 0 → f.day2 = true ∧ f.month ≠ 1)
def dayWay (f : DateForm) : Nat := if f.day2 then 2 else 1
theorem dayText_eq (f : DateForm) (d : Nat) : dayText f.day2 d = padded (dayWay f) d := by
 unfold dayText dayWay
 cases f.day2
 ·exact (padded_one d).symm
 ·rfl
theorem monthText_low (way m : Nat) (h1 : 1 ≤ way) (h2 : way ≤ 2) : monthText way m = padded way m := by
 have : way = 1 ∨ way = 2 := by omega
 rcases this with rfl | rfl
 ·rw [padded_one]; rfl
 ·rfl
def plain (c : UInt8) : Bool := isDigit c || (decide (65 ≤ c) && decide (c ≤ 90)) || (decide (97 ≤ c) && decide (c ≤ 122))
theorem names_plain : ∀ k : Nat, k < 12 → ((MONTHS.getD k []).all plain = true ∧ 3 ≤ (MONTHS.getD k []).length ∧ (MONTHS.getD k []).length ≤ 9) := by decide
theorem plain_digits {t : Text} (h : ∀ c ∈ t, isDigit c = true) : ∀ c ∈ t, plain c = true := fun c hc => by
 unfold plain
 rw [h c hc]
 rfl
theorem month_plain (way m : Nat) (h1 : 1 ≤ way) (h4 : way ≤ 4) (m1 : 1 ≤ m) (m2 : m ≤ 12) : ∀ c ∈ monthText way m, plain c = true := by
 by_cases hw : way ≤ 2
 ·rw [monthText_low way m h1 hw]
  exact plain_digits (padded_digits _ _)
 ·have hn := (names_plain (m - 1) (by omega)).1
  rw [List.all_eq_true] at hn
  intro c hc
  unfold monthText at hc
  rw [if_neg (by omega), if_neg (by omega)] at hc
  split at hc
  ·exact hn c (List.mem_of_mem_take hc)
  ·exact hn c hc
theorem sep_plain {s : UInt8} (h : s = 46 ∨ s = 47 ∨ s = 45 ∨ s = 32 ∨ s = 0) : plain s = false := by
 rcases h with rfl | rfl | rfl | rfl | rfl <;> decide
theorem not_in {s : UInt8} {t : Text} (hs : plain s = false) (h : ∀ c ∈ t, plain c = true) : s ∉ t := fun m => by
 have := h s m
 rw [hs] at this
 cases this
theorem year_len4 (y : Nat) (h : y ≤ 9999) : (padded 4 y).length = 4 := by
 rw [padded_length]
 have := (dec_length y 4 (by omega)).mpr (by omega)
 omega
theorem day_len (w d : Nat) (h : d ≤ 31) (h1 : 1 ≤ w) (h2 : w ≤ 2) : 1 ≤ (padded w d).length ∧ (padded w d).length ≤ 2 ∧ (w = 2 → (padded w d).length = 2) := by
 rw [padded_length]
 have := (dec_length d 2 (by omega)).mpr (by omega)
 have := dec_length_pos d
 omega
theorem month_len (way m : Nat) (h1 : 1 ≤ way) (h4 : way ≤ 4) (m1 : 1 ≤ m) (m2 : m ≤ 12) : 1 ≤ (monthText way m).length ∧ (monthText way m).length ≤ 9 := by
 by_cases hw : way ≤ 2
 ·rw [monthText_low way m h1 hw, padded_length]
  have := (dec_length m 2 (by omega)).mpr (by omega)
  have := dec_length_pos m
  omega
 ·have hn := (names_plain (m - 1) (by omega)).2
  unfold monthText
  rw [if_neg (by omega), if_neg (by omega)]
  split
  ·rw [List.length_take]; omega
  ·omega
def monthRead (way : Nat) (t : Text) : Nat := if way ≤ 2 then digitsVal (t.filter isDigit) else (((List.range 12).map (· + 1)).find? fun m => monthText way m == t).getD 0
theorem names_apart : ∀ way : Nat, way < 5 → 3 ≤ way → ∀ m : Nat, m < 12 → monthRead way (monthText way (m + 1)) = m + 1 := by decide
theorem month_back (way m : Nat) (h1 : 1 ≤ way) (h4 : way ≤ 4) (m1 : 1 ≤ m) (m2 : m ≤ 12) : monthRead way (monthText way m) = m := by
 by_cases hw : way ≤ 2
 ·unfold monthRead
  rw [if_pos hw, monthText_low way m h1 hw, read_padded]
 ·have := names_apart way (by omega) (by omega) (m - 1) (by omega)
  rw [show m - 1 + 1 = m by omega] at this
  exact this
def partsT (f : DateForm) (t : Text) : List Text :=
  if f.sep = 0 then
    (if f.order = 2 then [t.take 4, (t.drop 4).take (t.length - 6), (t.drop (4 + (t.length - 6))).take 2]
     else if f.order = 1 then [t.take (t.length - 6), (t.drop (t.length - 6)).take 2, (t.drop (t.length - 6 + 2)).take 4]
     else [t.take 2, (t.drop 2).take (t.length - 6), (t.drop (2 + (t.length - 6))).take 4])
  else splitT f.sep t
def numOf (t : Text) : Nat := digitsVal (t.filter isDigit)
def dateP (f : DateForm) (a b c : Text) : Nat × Nat × Nat :=
 if f.order = 2 then (numOf a, monthRead f.month b, numOf c) else if f.order = 1 then (numOf c, monthRead f.month a, numOf b) else (numOf c, monthRead f.month b, numOf a)
def readP (f : DateForm) (t : Text) : Option Value :=
 if 17 < t.length then none else match partsT f t with
 | [a, b, c] => if isDate (dateP f a b c).1 (dateP f a b c).2.1 (dateP f a b c).2.2 = true ∧ writeDate f (dateP f a b c).1 (dateP f a b c).2.1 (dateP f a b c).2.2 = t then some (.date (dateP f a b c).1 (dateP f a b c).2.1 (dateP f a b c).2.2) else none
 | _ => none
def p0 (f : DateForm) (y m d : Nat) : Text := if f.order = 2 then padded 4 y else if f.order = 1 then monthText f.month m else dayText f.day2 d
def p1 (f : DateForm) (y m d : Nat) : Text := if f.order = 2 then monthText f.month m else if f.order = 1 then dayText f.day2 d else monthText f.month m
def p2 (f : DateForm) (y m d : Nat) : Text := if f.order = 2 then dayText f.day2 d else padded 4 y
theorem write_parts (f : DateForm) (y m d : Nat) (h : f.order ≤ 2) : writeDate f y m d = p0 f y m d ++ (sepText f.sep ++ (p1 f y m d ++ (sepText f.sep ++ p2 f y m d))) := by
 have : f.order = 0 ∨ f.order = 1 ∨ f.order = 2 := by omega
 unfold writeDate inOrder p0 p1 p2
 rcases this with e | e | e <;> simp [e]
theorem days_le (y m d : Nat) (h : isDate y m d = true) : 1 ≤ y ∧ y ≤ 9999 ∧ 1 ≤ m ∧ m ≤ 12 ∧ 1 ≤ d ∧ d ≤ 31 := by
 have := (isDate_iff y m d).mp h
 have := daysIn_pos y m
 omega
theorem dayWay_le (f : DateForm) : 1 ≤ dayWay f ∧ dayWay f ≤ 2 := by
 unfold dayWay
 split <;> omega
theorem parts_back (f : DateForm) (y m d : Nat) (wf : wfD f) (h : isDate y m d = true) : partsT f (writeDate f y m d) = [p0 f y m d, p1 f y m d, p2 f y m d] := by
 obtain ⟨ho, hs, ⟨hm1, hm4⟩, h0⟩ := wf
 obtain ⟨y1, y2, m1, m2, d1, d2⟩ := days_le y m d h
 obtain ⟨w1, w2⟩ := dayWay_le f
 rw [write_parts f y m d ho]
 have pd : ∀ c ∈ dayText f.day2 d, plain c = true := by rw [dayText_eq]; exact plain_digits (padded_digits _ _)
 have py : ∀ c ∈ padded 4 y, plain c = true := plain_digits (padded_digits _ _)
 have pm := month_plain f.month m hm1 hm4 m1 m2
 unfold partsT
 by_cases hz : f.sep = 0
 ·rw [if_pos hz]
  have e0 : sepText f.sep = [] := by unfold sepText; rw [if_pos hz]
  rw [e0]
  simp only [List.nil_append]
  obtain ⟨hd2, _⟩ := h0 hz
  have ld : (dayText f.day2 d).length = 2 := by
   rw [dayText_eq]
   exact (day_len (dayWay f) d d2 w1 w2).2.2 (by unfold dayWay; rw [if_pos hd2])
  have ly := year_len4 y y2
  have : f.order = 0 ∨ f.order = 1 ∨ f.order = 2 := by omega
  unfold p0 p1 p2
  rcases this with e | e | e
  ·simp only [e]
   simp only [show ¬ (0 : Nat) = 2 by omega, show ¬ (0 : Nat) = 1 by omega, if_false]
   have el : (dayText f.day2 d ++ (monthText f.month m ++ padded 4 y)).length - 6 = (monthText f.month m).length := by
    simp only [List.length_append, ld, ly]; omega
   rw [el, List.take_left' ld, List.drop_left' ld, List.take_left, ← List.drop_drop, List.drop_left' ld, List.drop_left, List.take_of_length_le (by omega)]
  ·simp only [e]
   simp only [show ¬ (1 : Nat) = 2 by omega, if_false, if_true]
   have el : (monthText f.month m ++ (dayText f.day2 d ++ padded 4 y)).length - 6 = (monthText f.month m).length := by
    simp only [List.length_append, ld, ly]; omega
   rw [el, List.take_left, List.drop_left, List.take_left' ld, ← List.drop_drop, List.drop_left, List.drop_left' ld, List.take_of_length_le (by omega)]
  ·simp only [e, if_true]
   have el : (padded 4 y ++ (monthText f.month m ++ dayText f.day2 d)).length - 6 = (monthText f.month m).length := by
    simp only [List.length_append, ld, ly]; omega
   rw [el, List.take_left' ly, List.drop_left' ly, List.take_left, ← List.drop_drop, List.drop_left' ly, List.drop_left, List.take_of_length_le (by omega)]
 ·rw [if_neg hz]
  have e0 : sepText f.sep = [f.sep] := by unfold sepText; rw [if_neg hz]
  rw [e0]
  have hp := sep_plain hs
  refine split_three f.sep _ _ _ ?_ ?_ ?_
  ·unfold p0; split
   ·exact not_in hp py
   ·split
    ·exact not_in hp pm
    ·exact not_in hp pd
  ·unfold p1; split
   ·exact not_in hp pm
   ·split
    ·exact not_in hp pd
    ·exact not_in hp pm
  ·unfold p2; split
   ·exact not_in hp pd
   ·exact not_in hp py
theorem date_back (f : DateForm) (y m d : Nat) (wf : wfD f) (h : isDate y m d = true) : dateP f (p0 f y m d) (p1 f y m d) (p2 f y m d) = (y, m, d) := by
 obtain ⟨ho, hs, ⟨hm1, hm4⟩, h0⟩ := wf
 obtain ⟨y1, y2, m1, m2, d1, d2⟩ := days_le y m d h
 have ey : numOf (padded 4 y) = y := read_padded 4 y
 have ed : numOf (dayText f.day2 d) = d := by rw [dayText_eq]; exact read_padded _ d
 have em := month_back f.month m hm1 hm4 m1 m2
 have : f.order = 0 ∨ f.order = 1 ∨ f.order = 2 := by omega
 unfold dateP p0 p1 p2
 rcases this with e | e | e <;> simp [e, ey, ed, em]
theorem write_len (f : DateForm) (y m d : Nat) (wf : wfD f) (h : isDate y m d = true) : (writeDate f y m d).length ≤ 17 := by
 obtain ⟨ho, hs, ⟨hm1, hm4⟩, h0⟩ := wf
 obtain ⟨y1, y2, m1, m2, d1, d2⟩ := days_le y m d h
 obtain ⟨w1, w2⟩ := dayWay_le f
 have ly := year_len4 y y2
 have ld := day_len (dayWay f) d d2 w1 w2
 rw [← dayText_eq] at ld
 have lm := month_len f.month m hm1 hm4 m1 m2
 have ls : (sepText f.sep).length ≤ 1 := by unfold sepText; split <;> simp
 unfold writeDate inOrder
 split <;> simp only [List.length_append] <;> omega
theorem readP_some (f : DateForm) (t : Text) (y m d : Nat) (wf : wfD f) (h : isDate y m d = true) (e : writeDate f y m d = t) : readP f t = some (.date y m d) := by
 subst e
 unfold readP
 rw [if_neg (by have := write_len f y m d wf h; omega), parts_back f y m d wf h]
 simp only [date_back f y m d wf h]
 rw [if_pos ⟨h, trivial⟩]
theorem readP_only (f : DateForm) (t : Text) (v : Value) (h : readP f t = some v) : ∃ y m d, v = .date y m d ∧ isDate y m d = true ∧ writeDate f y m d = t := by
 unfold readP at h
 split at h
 ·cases h
 ·split at h
  ·rename_i a b c _
   split at h
   ·rename_i q
    exact ⟨_, _, _, (Option.some.inj h).symm, q.1, q.2⟩
   ·cases h
  ·cases h
theorem days_at (f : DateForm) (d : Nat) (r : Text) (d1 : 1 ≤ d) (d2 : d ≤ 31) : (d, (dayText f.day2 d).length) ∈ daysAt f.day2 (dayText f.day2 d ++ r) := by
 unfold daysAt
 rw [List.mem_filter]
 refine ⟨List.mem_map.mpr ⟨d - 1, List.mem_range.mpr (by omega), by rw [show d - 1 + 1 = d by omega]⟩, ?_⟩
 simp
theorem months_at (way m : Nat) (r : Text) (m1 : 1 ≤ m) (m2 : m ≤ 12) : (m, (monthText way m).length) ∈ monthsAt way (monthText way m ++ r) := by
 unfold monthsAt
 rw [List.mem_filter]
 refine ⟨List.mem_map.mpr ⟨m - 1, List.mem_range.mpr (by omega), by rw [show m - 1 + 1 = m by omega]⟩, ?_⟩
 simp
theorem years_at (y : Nat) (r : Text) (y1 : 1 ≤ y) (y2 : y ≤ 9999) : (y, 4) ∈ yearsAt (padded 4 y ++ r) := by
 have ly := year_len4 y y2
 unfold yearsAt
 rw [List.take_left' ly, digitsVal_padded, if_pos ⟨by rw [List.length_append]; omega, List.all_eq_true.mpr (padded_digits 4 y), by omega⟩]
 exact List.mem_singleton.mpr rfl
theorem dates_at (f : DateForm) (y m d : Nat) (wf : wfD f) (h : isDate y m d = true) : (y, m, d) ∈ datesOf f (writeDate f y m d) := by
 obtain ⟨ho, hs, ⟨hm1, hm4⟩, h0⟩ := wf
 obtain ⟨y1, y2, m1, m2, d1, d2⟩ := days_le y m d h
 have ly := year_len4 y y2
 have : f.order = 0 ∨ f.order = 1 ∨ f.order = 2 := by omega
 unfold datesOf
 rw [List.mem_filter]
 refine ⟨?_, by simp [h]⟩
 rcases this with e | e | e
 ·simp only [e]
  have hw : writeDate f y m d = dayText f.day2 d ++ (sepText f.sep ++ (monthText f.month m ++ (sepText f.sep ++ padded 4 y))) := by unfold writeDate inOrder; rw [e]; rfl
  rw [hw]
  refine List.mem_flatMap.mpr ⟨_, days_at f d _ d1 d2, List.mem_flatMap.mpr ⟨(m, (monthText f.month m).length), ?_, List.mem_map.mpr ⟨(y, 4), ?_, rfl⟩⟩⟩
  ·rw [← List.drop_drop, List.drop_left, List.drop_left]
   exact months_at f.month m _ m1 m2
  ·have := years_at y [] y1 y2
   rw [List.append_nil] at this
   rw [← List.drop_drop, ← List.drop_drop, ← List.drop_drop, List.drop_left, List.drop_left, List.drop_left, List.drop_left]
   exact this
 ·simp only [e]
  have hw : writeDate f y m d = monthText f.month m ++ (sepText f.sep ++ (dayText f.day2 d ++ (sepText f.sep ++ padded 4 y))) := by unfold writeDate inOrder; rw [e]; rfl
  rw [hw]
  refine List.mem_flatMap.mpr ⟨_, months_at f.month m _ m1 m2, List.mem_flatMap.mpr ⟨(d, (dayText f.day2 d).length), ?_, List.mem_map.mpr ⟨(y, 4), ?_, rfl⟩⟩⟩
  ·rw [← List.drop_drop, List.drop_left, List.drop_left]
   exact days_at f d _ d1 d2
  ·have := years_at y [] y1 y2
   rw [List.append_nil] at this
   rw [← List.drop_drop, ← List.drop_drop, ← List.drop_drop, List.drop_left, List.drop_left, List.drop_left, List.drop_left]
   exact this
 ·simp only [e]
  have hw : writeDate f y m d = padded 4 y ++ (sepText f.sep ++ (monthText f.month m ++ (sepText f.sep ++ dayText f.day2 d))) := by unfold writeDate inOrder; rw [e]; rfl
  rw [hw]
  refine List.mem_flatMap.mpr ⟨_, years_at y _ y1 y2, List.mem_flatMap.mpr ⟨(m, (monthText f.month m).length), ?_, List.mem_map.mpr ⟨(d, (dayText f.day2 d).length), ?_, rfl⟩⟩⟩
  ·rw [← List.drop_drop, List.drop_left' ly, List.drop_left]
   exact months_at f.month m _ m1 m2
  ·have := days_at f d [] d1 d2
   rw [List.append_nil] at this
   rw [← List.drop_drop, ← List.drop_drop, ← List.drop_drop, List.drop_left' ly, List.drop_left, List.drop_left, List.drop_left]
   exact this
theorem readDate_only (f : DateForm) (t : Text) (v : Value) (h : readDate f t = some v) : ∃ y m d, v = .date y m d ∧ isDate y m d = true ∧ writeDate f y m d = t := by
 unfold readDate at h
 cases e : (datesOf f t).head? with
 | none => rw [e] at h; cases h
 | some x =>
  rw [e] at h
  have hm : x ∈ datesOf f t := List.mem_of_mem_head? (by rw [e]; exact rfl)
  unfold datesOf at hm
  rw [List.mem_filter] at hm
  obtain ⟨_, q⟩ := hm
  rw [Bool.and_eq_true, beq_iff_eq] at q
  exact ⟨x.1, x.2.1, x.2.2, (Option.some.inj h).symm, q.1, q.2⟩
theorem readDate_has (f : DateForm) (t : Text) (y m d : Nat) (wf : wfD f) (h : isDate y m d = true) (e : writeDate f y m d = t) : ∃ v, readDate f t = some v := by
 subst e
 have hm := dates_at f y m d wf h
 unfold readDate
 cases q : datesOf f (writeDate f y m d) with
 | nil => rw [q] at hm; cases hm
 | cons x r => exact ⟨_, rfl⟩
theorem readP_eq (f : DateForm) (t : Text) (wf : wfD f) : readP f t = readDate f t := by
 cases e : readDate f t with
 | some v =>
  obtain ⟨y, m, d, rfl, h1, h2⟩ := readDate_only f t v e
  exact readP_some f t y m d wf h1 h2
 | none =>
  cases e2 : readP f t with
  | none => rfl
  | some v =>
   obtain ⟨y, m, d, rfl, h1, h2⟩ := readP_only f t v e2
   obtain ⟨v', hv⟩ := readDate_has f t y m d wf h1 h2
   rw [hv] at e
   cases e
end Tm
set_option linter.all false
namespace Tm
open Vaflxm
def formN (i : Nat) : Form := forms.getD i (.num ⟨0, 0, 0, 0⟩)
def count : Nat := 273
theorem count_eq : forms.length = count := by decide +kernel
theorem formN_at {i : Nat} (h : i < count) : forms[i]? = some (formN i) := by
 unfold formN
 have h : i < forms.length := by rw [count_eq]; exact h
 simp [List.getD, List.getElem?_eq_getElem h]
theorem numbered : (forms.zipIdx.map fun x => (x.2, x.1)) = (List.range count).map fun i => (i, formN i) := by
 apply List.ext_getElem?
 intro i
 by_cases h : i < count
 ·have e := formN_at h
  simp [e, h]
 ·have h1 : forms.length ≤ i := by rw [count_eq]; omega
  have h2 : count ≤ i := by omega
  simp [List.getElem?_eq_none h1, h2]
abbrev NKey := List (Option (List Int))
def key (f : Form) (t : Text) : Option (List Int) := (readIn f t).map valueNumbers
def keyS (exs : List (Text × Text)) (i : Nat) : NKey := exs.map fun x => key (formN i) x.1
def keyT (exs : List (Text × Text)) (i : Nat) : NKey := exs.map fun x => key (formN i) x.2
def whole (ks : NKey) : Bool := ks.all Option.isSome
def hits (exs : List (Text × Text)) (ks : NKey) (n : Nat) : List Nat := (List.range n).filter fun j => decide (keyT exs j = ks)
theorem hits_succ (exs : List (Text × Text)) (ks : NKey) (n : Nat) : hits exs ks (n + 1) = hits exs ks n ++ if keyT exs n = ks then [n] else [] := by
 unfold hits
 rw [List.range_succ, List.filter_append]
 congr 1
 by_cases h : keyT exs n = ks <;> simp [h]
def pairsTo (exs : List (Text × Text)) (n : Nat) : List (Nat × Nat) := (List.range n).flatMap fun i => if whole (keyS exs i) = true then (hits exs (keyS exs i) count).map fun j => (i, j) else []
theorem pairsTo_succ (exs : List (Text × Text)) (n : Nat) : pairsTo exs (n + 1) = pairsTo exs n ++ if whole (keyS exs n) = true then (hits exs (keyS exs n) count).map fun j => (n, j) else [] := by
 unfold pairsTo
 rw [List.range_succ, List.flatMap_append]
 simp
theorem vn_inj : ∀ u v : Value, valueNumbers u = valueNumbers v → u = v := by
 intro u v h
 cases u with
 | number n s =>
  cases v with
  | number m r =>
   simp [valueNumbers, nat] at h
   rw [h.1, show s = r from by omega]
  | date y m d => simp [valueNumbers] at h
 | date y m d =>
  cases v with
  | number n s => simp [valueNumbers] at h
  | date a b c =>
   simp [valueNumbers, nat] at h
   rw [show y = a from by omega, show m = b from by omega, show d = c from by omega]
theorem key_inj {f g : Form} {t u : Text} : key f t = key g u ↔ readIn f t = readIn g u := by
 unfold key
 constructor
 ·intro h
  cases e1 : readIn f t <;> cases e2 : readIn g u <;> rw [e1, e2] at h
  ·cases h
  ·cases h
  ·rw [vn_inj _ _ (Option.some.inj h)]
 ·intro h
  rw [h]
theorem keys_inj (f g : Form) : ∀ exs : List (Text × Text), (exs.map fun x => key f x.2) = (exs.map fun x => key g x.1) ↔ valuesIn f (exs.map fun x => x.2) = valuesIn g (exs.map fun x => x.1)
 | [] => by simp [valuesIn]
 | x :: r => by
  have ih := keys_inj f g r
  unfold valuesIn at ih ⊢
  simp only [List.map_cons, List.cons.injEq]
  rw [ih, key_inj]
theorem whole_iff (f : Form) (exs : List (Text × Text)) : whole (exs.map fun x => key f x.1) = (exs.map fun x => x.1).all fun t => (readIn f t).isSome := by
 unfold whole key
 rw [List.all_map, List.all_map]
 congr 1
 funext x
 simp
theorem whole_iff2 (f : Form) (exs : List (Text × Text)) : whole (exs.map fun x => key f x.2) = (exs.map fun x => x.2).all fun t => (readIn f t).isSome := by
 unfold whole key
 rw [List.all_map, List.all_map]
 congr 1
 funext x
 simp
theorem fitting_eq (l : List Text) : fitting l = ((List.range count).filter fun i => l.all fun t => (readIn (formN i) t).isSome).map fun i => (i, formN i) := by
 unfold fitting
 rw [numbered, List.filter_map]
 rfl
theorem flat_filter {α β : Type} (p : α → Bool) (f : α → List β) : ∀ l : List α, (l.filter p).flatMap f = l.flatMap fun x => if p x = true then f x else []
 | [] => rfl
 | x :: r => by
  by_cases h : p x = true
  ·rw [List.filter_cons_of_pos h, List.flatMap_cons, List.flatMap_cons, flat_filter p f r, if_pos h]
  ·rw [List.filter_cons_of_neg h, List.flatMap_cons, flat_filter p f r, if_neg h]; rfl
theorem pairs_eq (exs : List (Text × Text)) : pairsOf exs = (pairsTo exs count).map fun p => ((p.1, formN p.1), (p.2, formN p.2)) := by
 unfold pairsOf pairsTo
 simp only [fitting_eq]
 rw [List.flatMap_map, flat_filter, List.map_flatMap]
 apply congrArg (fun g => List.flatMap g (List.range count))
 funext i
 have e1 := whole_iff (formN i) exs
 have e1 : whole (keyS exs i) = ((exs.map fun x => x.1).all fun t => (readIn (formN i) t).isSome) := e1
 rw [e1]
 by_cases h : ((exs.map fun x => x.1).all fun t => (readIn (formN i) t).isSome) = true
 ·rw [if_pos h, if_pos h]
  rw [List.map_map, List.filter_map, List.map_map, List.map_map, List.filter_filter]
  unfold hits
  have e2 : (fun j => (((fun g : (Nat × Form) × List (Option Value) => g.2 == valuesIn (formN i) (exs.map fun x => x.1)) ∘ (fun g : Nat × Form => (g, valuesIn g.2 (exs.map fun x => x.2))) ∘ fun i => (i, formN i)) j && ((exs.map fun x => x.2).all fun t => (readIn (formN j) t).isSome))) = fun j => decide (keyT exs j = keyS exs i) := by
   funext j
   rw [Bool.eq_iff_iff, Bool.and_eq_true, decide_eq_true_eq]
   have k1 : keyT exs j = keyS exs i ↔ valuesIn (formN j) (exs.map fun x => x.2) = valuesIn (formN i) (exs.map fun x => x.1) := keys_inj (formN j) (formN i) exs
   constructor
   ·rintro ⟨a, _⟩
    exact k1.mpr (by simpa using a)
   ·intro a
    refine ⟨by simpa using k1.mp a, ?_⟩
    rw [← whole_iff2]
    rw [← e1] at h
    rw [← a] at h
    exact h
  rw [e2]
  rfl
 ·rw [if_neg h, if_neg h]
  rfl
theorem pairs_lt (exs : List (Text × Text)) (n : Nat) (p : Nat × Nat) (hp : p ∈ pairsTo exs n) : p.1 < n ∧ p.2 < count := by
 unfold pairsTo at hp
 obtain ⟨i, hi, h⟩ := List.mem_flatMap.mp hp
 split at h
 ·obtain ⟨j, hj, e⟩ := List.mem_map.mp h
  subst e
  unfold hits at hj
  have := List.mem_filter.mp hj
  exact ⟨by simpa using hi, by simpa using this.1⟩
 ·cases h
theorem hits_len (exs : List (Text × Text)) (ks : NKey) (n : Nat) : (hits exs ks n).length ≤ n := by
 unfold hits
 refine Nat.le_trans (List.length_filter_le _ _) ?_
 simp
theorem pairs_len (exs : List (Text × Text)) : ∀ n, (pairsTo exs n).length ≤ n * count
 | 0 => by simp [pairsTo]
 | n + 1 => by
  have ih := pairs_len exs n
  rw [pairsTo_succ, List.length_append, Nat.succ_mul]
  have : (if whole (keyS exs n) = true then (hits exs (keyS exs n) count).map fun j => (n, j) else ([] : List (Nat × Nat))).length ≤ count := by
   split
   ·rw [List.length_map]
    exact hits_len exs _ count
   ·simp
  omega
end Tm
set_option linter.all false
namespace Tm
open Vaflxm
theorem year_ex (n : Nat) (h1 : 1 ≤ n) : ∃ y, 1 ≤ y ∧ daysBefore y < n ∧ n ≤ daysBefore (y + 1) := by
 have key : ∀ k y, 1 ≤ y → daysBefore y < n → n ≤ daysBefore y + k → ∃ y, 1 ≤ y ∧ daysBefore y < n ∧ n ≤ daysBefore (y + 1) := by
  intro k
  induction k with
  | zero => intro y _ a b; omega
  | succ k ih =>
   intro y hy a b
   by_cases h : n ≤ daysBefore (y + 1)
   ·exact ⟨y, hy, a, h⟩
   ·have := (before_mono y hy).1
    exact ih (y + 1) (by omega) (by omega) (by omega)
 exact key n 1 (Nat.le_refl _) (by simp [daysBefore]; omega) (by omega)
theorem dateOf_good (n : Nat) (h1 : 1 ≤ n) (h2 : n ≤ MOST_DAY) : isDate (dateOf n).1 (dateOf n).2.1 (dateOf n).2.2 = true := by
 obtain ⟨y, hy, ha, hb⟩ := year_ex n h1
 rw [dateOf_eq n y h1 h2 hy ha hb, isDate_iff]
 have hM : n ≤ 3652059 := h2
 have h9 : y ≤ 9999 := by
  unfold daysBefore at ha
  omega
 have e := before_succ y hy
 rw [← year_len] at e
 have z : daysInMonths y (1 - 1) = 0 := rfl
 obtain ⟨m1, m2, m3, m4⟩ := month_good y 12 1 (n - daysBefore y) (Nat.le_refl _) rfl (by omega) (by omega)
 exact ⟨hy, h9, m2, m1, m3, m4⟩
theorem num_reads (f : NumForm) (t : Text) (y m d : Nat) : readIn (.num f) t ≠ some (.date y m d) := by
 intro h
 have h : readNum f t = some (.date y m d) := h
 unfold readNum at h
 dsimp only at h
 split at h
 ·cases h
 ·split at h
  ·split at h
   ·cases h
   ·cases h
  ·cases h
def targs (exs : List (Text × Text)) (i : Nat) : List Nat := if whole (keyS exs i) = true then hits exs (keyS exs i) count else []
theorem targs_len (exs : List (Text × Text)) (i : Nat) : (targs exs i).length ≤ 273 := by
 unfold targs
 split
 ·exact hits_len exs _ count
 ·simp
theorem pairs_step (exs : List (Text × Text)) (n : Nat) : pairsTo exs (n + 1) = pairsTo exs n ++ (targs exs n).map fun j => (n, j) := by
 rw [pairsTo_succ]
 unfold targs
 split <;> rfl
theorem pairs_none (exs : List (Text × Text)) : ∀ n, (∀ j, j < n → targs exs j = []) → pairsTo exs n = []
 | 0, _ => rfl
 | n + 1, h => by rw [pairs_step, pairs_none exs n fun j hj => h j (by omega), h n (by omega)]; rfl
theorem pairs_more (exs : List (Text × Text)) (n : Nat) : ∀ k, ∃ r, pairsTo exs (n + k) = pairsTo exs n ++ r
 | 0 => ⟨[], by simp⟩
 | k + 1 => by
  obtain ⟨r, h⟩ := pairs_more exs n k
  exact ⟨r ++ (targs exs (n + k)).map fun j => (n + k, j), by rw [← Nat.add_assoc, pairs_step, h, List.append_assoc]⟩
theorem pairs_head (exs : List (Text × Text)) (i t : Nat) (r : List Nat) (hi : i < count) (h : ∀ j, j < i → targs exs j = []) (e : targs exs i = t :: r) : (pairsTo exs count).head? = some (i, t) := by
 obtain ⟨r2, q⟩ := pairs_more exs (i + 1) (count - (i + 1))
 rw [show i + 1 + (count - (i + 1)) = count by omega, pairs_step, pairs_none exs i h, e] at q
 rw [q]
 rfl
theorem pairs_sum (exs : List (Text × Text)) : ∀ n, ((List.range n).map fun i => (((targs exs i).length : Nat) : Int)).sum = (((pairsTo exs n).length : Nat) : Int)
 | 0 => rfl
 | n + 1 => by
  rw [List.range_succ, List.map_append, List.sum_append, pairs_sum exs n, pairs_step, List.length_append, List.length_map]
  simp
theorem pairs_count (exs : List (Text × Text)) : (pairsOf exs).length = (pairsTo exs count).length := by
 rw [pairs_eq, List.length_map]
theorem find_none (exs : List (Text × Text)) (t : Text) (h : ∀ p ∈ pairsTo exs count, convert (formN p.1) (formN p.2) t = none) : ((pairsOf exs).find? fun p => (convert p.1.2 p.2.2 t).isSome) = none := by
 rw [pairs_eq, List.find?_eq_none]
 intro x hx
 obtain ⟨p, hp, e⟩ := List.mem_map.mp hx
 subst e
 simp [h p hp]
theorem find_some (exs : List (Text × Text)) (t u : Text) (i : Nat) (p : Nat × Nat) (hi : (pairsTo exs count)[i]? = some p) (h : ∀ q ∈ (pairsTo exs count).take i, convert (formN q.1) (formN q.2) t = none) (e : convert (formN p.1) (formN p.2) t = some u) :
  ((pairsOf exs).find? fun p => (convert p.1.2 p.2.2 t).isSome) = some ((p.1, formN p.1), (p.2, formN p.2)) := by
 obtain ⟨hl, rfl⟩ := List.getElem?_eq_some_iff.mp hi
 have q : pairsTo exs count = (pairsTo exs count).take i ++ (pairsTo exs count)[i] :: (pairsTo exs count).drop (i + 1) := by
  rw [← List.drop_eq_getElem_cons hl, List.take_append_drop]
 rw [pairs_eq]
 conv => lhs; rw [q]
 rw [List.map_append, List.find?_append, List.map_cons, List.find?_cons]
 have n0 : (((pairsTo exs count).take i).map fun p => ((p.1, formN p.1), (p.2, formN p.2))).find? (fun p => (convert p.1.2 p.2.2 t).isSome) = none := by
  rw [List.find?_eq_none]
  intro x hx
  obtain ⟨p, hp, e⟩ := List.mem_map.mp hx
  subst e
  simp [h p hp]
 rw [n0]
 simp [e]
end Tm
set_option linter.all false
namespace Tm
open Vaflxm
def tab : List (Nat × Nat) := [(1, 0), (1, 1), (3, 0), (4, 0), (2, 1), (0, 1), (3, 0), (1, 0), (2, 1), (0, 2), (1, 0), (0, 0), (0, 0), (0, 1), (0, 1)]
def WW (i : Nat) (ns : List Int) (ts : List Text) (c : Call) : Prop := match i with
 | 0 => ∃ a, ns = [a] ∧ ts = [] ∧ c = .form a
 | 1 => ∃ a t, ns = [a] ∧ ts = [t] ∧ c = .read a t
 | 2 => ∃ a n s, ns = [a, n, s] ∧ ts = [] ∧ c = .number a n s ∧ n.natAbs ≤ 10 ^ 18
 | 3 => ∃ a y m d, ns = [a, y, m, d] ∧ ts = [] ∧ c = .date a y m d
 | 4 => ∃ a b t, ns = [a, b] ∧ ts = [t] ∧ c = .convert a b t
 | 5 => ∃ t, ns = [] ∧ ts = [t] ∧ c = .fits t
 | 6 => ∃ y m d, ns = [y, m, d] ∧ ts = [] ∧ c = .day y m d
 | 7 => ∃ n, ns = [n] ∧ ts = [] ∧ c = .dateOf n
 | 8 => ∃ a n t, ns = [a, n] ∧ ts = [t] ∧ c = .shift a n t
 | 9 => ∃ a b, ns = [] ∧ ts = [a, b] ∧ c = .add a b
 | 10 => ∃ a, ns = [a] ∧ ts = [] ∧ c = .take a
 | 11 => ns = [] ∧ ts = [] ∧ c = .pairs
 | 12 => ns = [] ∧ ts = [] ∧ c = .least
 | 13 => ∃ t, ns = [] ∧ ts = [t] ∧ c = .apply t
 | 14 => ∃ t, ns = [] ∧ ts = [t] ∧ c = .outputs t
 | _ => False
def intsOf (t : Text) : List Int := t.map fun c => ((c.toNat : Nat) : Int)
theorem whole_eq (c : List (List Int)) : PyVaflxm.whole c = c := by
 rcases c with _ | ⟨r, c⟩
 ·rfl
 rcases r with _ | ⟨p, r⟩
 ·rfl
 rcases p with n | n
 ·rcases n with _ | _ | _ | _ | _ | _ | _ | _ | _ | _ | _ | _ | _ | _ | _ | n
  all_goals (rcases c with _ | ⟨_, _ | ⟨_, _ | ⟨_, c⟩⟩⟩ <;> rcases r with _ | ⟨_, _ | ⟨_, _ | ⟨_, _ | ⟨_, _ | ⟨_, r⟩⟩⟩⟩⟩ <;> rfl)
 ·rfl
theorem pick {p a : Int} {x y n k : Nat} {R : Option (Nat × Nat)} (h : (if p = a then some (x, y) else R) = some (n, k)) : (p = a ∧ x = n ∧ y = k) ∨ R = some (n, k) := by
 split at h
 ·rename_i e
  injection h with h
  injection h with h1 h2
  exact .inl ⟨e, h1, h2⟩
 ·exact .inr h
theorem shape_tab (p : Int) (n k : Nat) (h : PyVaflxm.shape p = some (n, k)) : ∃ i : Nat, p = i ∧ tab[i]? = some (n, k) := by
 unfold PyVaflxm.shape at h
 rcases pick h with ⟨rfl, rfl, rfl⟩ | h
 ·exact ⟨0, rfl, rfl⟩
 rcases pick h with ⟨rfl, rfl, rfl⟩ | h
 ·exact ⟨1, rfl, rfl⟩
 rcases pick h with ⟨rfl, rfl, rfl⟩ | h
 ·exact ⟨2, rfl, rfl⟩
 rcases pick h with ⟨rfl, rfl, rfl⟩ | h
 ·exact ⟨3, rfl, rfl⟩
 rcases pick h with ⟨rfl, rfl, rfl⟩ | h
 ·exact ⟨4, rfl, rfl⟩
 rcases pick h with ⟨rfl, rfl, rfl⟩ | h
 ·exact ⟨5, rfl, rfl⟩
 rcases pick h with ⟨rfl, rfl, rfl⟩ | h
 ·exact ⟨6, rfl, rfl⟩
 rcases pick h with ⟨rfl, rfl, rfl⟩ | h
 ·exact ⟨7, rfl, rfl⟩
 rcases pick h with ⟨rfl, rfl, rfl⟩ | h
 ·exact ⟨8, rfl, rfl⟩
 rcases pick h with ⟨rfl, rfl, rfl⟩ | h
 ·exact ⟨9, rfl, rfl⟩
 rcases pick h with ⟨rfl, rfl, rfl⟩ | h
 ·exact ⟨10, rfl, rfl⟩
 rcases pick h with ⟨rfl, rfl, rfl⟩ | h
 ·exact ⟨11, rfl, rfl⟩
 rcases pick h with ⟨rfl, rfl, rfl⟩ | h
 ·exact ⟨12, rfl, rfl⟩
 rcases pick h with ⟨rfl, rfl, rfl⟩ | h
 ·exact ⟨13, rfl, rfl⟩
 rcases pick h with ⟨rfl, rfl, rfl⟩ | h
 ·exact ⟨14, rfl, rfl⟩
 cases h
theorem text_some {l : List Int} {t : Text} (h : VaflxmNeutral.text? l = some t) : l = intsOf t := by
 unfold VaflxmNeutral.text? at h
 split at h
 ·rename_i hb
  have := Option.some.inj h
  subst this
  unfold intsOf
  rw [List.map_map]
  have e : l.map id = l.map ((fun c : UInt8 => ((c.toNat : Nat) : Int)) ∘ fun b : Int => UInt8.ofNat b.toNat) := by
   refine List.map_congr_left fun b hbm => ?_
   unfold NeutralIO.bytes at hb
   have q := List.all_eq_true.mp hb b hbm
   simp at q
   show b = (((UInt8.ofNat b.toNat).toNat : Nat) : Int)
   have e : (UInt8.ofNat b.toNat).toNat = b.toNat := by
    rw [UInt8.toNat_ofNat']
    omega
   rw [e]
   omega
  rw [List.map_id] at e
  exact e
 ·cases h
theorem asked_call (p : Int) (ns : List Int) (rows : List (List Int)) (n k : Nat) (hs : PyVaflxm.shape p = some (n, k)) (hn : ns.length = n) (hr : rows.length = k) (c : Call) (hc : VaflxmNeutral.callOf ((p :: ns) :: rows) = some c) (ha : VaflxmNeutral.asked1 ((p :: ns) :: rows) = true) :
  ∃ (i : Nat) (ts : List Text), p = i ∧ tab[i]? = some (n, k) ∧ rows = ts.map intsOf ∧ WW i ns ts c := by
 obtain ⟨i, rfl, hi⟩ := shape_tab p n k hs
 have one : ∀ (g : Text → Call) (r : List Int), (VaflxmNeutral.text? r).map g = some c → ∃ t, r = intsOf t ∧ c = g t := fun g r h => by
  cases e : VaflxmNeutral.text? r with
  | none => rw [e] at h; cases h
  | some t => rw [e] at h; exact ⟨t, text_some e, (Option.some.inj h).symm⟩
 have hlt : i < 15 := (List.getElem?_eq_some_iff.mp hi).1
 subst hn hr
 match i, hlt with
 | 0, _ =>
  match ns, rows with
  | [a], [] => exact ⟨0, [], rfl, hi, rfl, a, rfl, rfl, (Option.some.inj hc).symm⟩
  | [], _ => simp [tab] at hi
  | _ :: _ :: _, _ => simp [tab] at hi
  | [_], _ :: _ => simp [tab] at hi
 | 1, _ =>
  match ns, rows with
  | [a], [r] =>
   obtain ⟨t, e1, e2⟩ := one (.read a) r hc
   exact ⟨1, [t], rfl, hi, by rw [e1]; rfl, a, t, rfl, rfl, e2⟩
  | [], _ => simp [tab] at hi
  | _ :: _ :: _, _ => simp [tab] at hi
  | [_], [] => simp [tab] at hi
  | [_], _ :: _ :: _ => simp [tab] at hi
 | 2, _ =>
  match ns, rows with
  | [a, m, s], [] =>
   refine ⟨2, [], rfl, hi, rfl, a, m, s, rfl, rfl, (Option.some.inj hc).symm, ?_⟩
   have ha : (VaflxmNeutral.whole60 a && (VaflxmNeutral.whole60 m && VaflxmNeutral.whole60 s)) = true := ha
   simp [VaflxmNeutral.whole60] at ha
   omega
  | [], _ => simp [tab] at hi
  | [_], _ => simp [tab] at hi
  | [_, _], _ => simp [tab] at hi
  | _ :: _ :: _ :: _ :: _, _ => simp [tab] at hi
  | [_, _, _], _ :: _ => simp [tab] at hi
 | 3, _ =>
  match ns, rows with
  | [a, y, m, d], [] => exact ⟨3, [], rfl, hi, rfl, a, y, m, d, rfl, rfl, (Option.some.inj hc).symm⟩
  | [], _ => simp [tab] at hi
  | [_], _ => simp [tab] at hi
  | [_, _], _ => simp [tab] at hi
  | [_, _, _], _ => simp [tab] at hi
  | _ :: _ :: _ :: _ :: _ :: _, _ => simp [tab] at hi
  | [_, _, _, _], _ :: _ => simp [tab] at hi
 | 4, _ =>
  match ns, rows with
  | [a, b], [r] =>
   obtain ⟨t, e1, e2⟩ := one (.convert a b) r hc
   exact ⟨4, [t], rfl, hi, by rw [e1]; rfl, a, b, t, rfl, rfl, e2⟩
  | [], _ => simp [tab] at hi
  | [_], _ => simp [tab] at hi
  | _ :: _ :: _ :: _, _ => simp [tab] at hi
  | [_, _], [] => simp [tab] at hi
  | [_, _], _ :: _ :: _ => simp [tab] at hi
 | 5, _ =>
  match ns, rows with
  | [], [r] =>
   obtain ⟨t, e1, e2⟩ := one .fits r hc
   exact ⟨5, [t], rfl, hi, by rw [e1]; rfl, t, rfl, rfl, e2⟩
  | _ :: _, _ => simp [tab] at hi
  | [], [] => simp [tab] at hi
  | [], _ :: _ :: _ => simp [tab] at hi
 | 6, _ =>
  match ns, rows with
  | [y, m, d], [] => exact ⟨6, [], rfl, hi, rfl, y, m, d, rfl, rfl, (Option.some.inj hc).symm⟩
  | [], _ => simp [tab] at hi
  | [_], _ => simp [tab] at hi
  | [_, _], _ => simp [tab] at hi
  | _ :: _ :: _ :: _ :: _, _ => simp [tab] at hi
  | [_, _, _], _ :: _ => simp [tab] at hi
 | 7, _ =>
  match ns, rows with
  | [a], [] => exact ⟨7, [], rfl, hi, rfl, a, rfl, rfl, (Option.some.inj hc).symm⟩
  | [], _ => simp [tab] at hi
  | _ :: _ :: _, _ => simp [tab] at hi
  | [_], _ :: _ => simp [tab] at hi
 | 8, _ =>
  match ns, rows with
  | [a, b], [r] =>
   obtain ⟨t, e1, e2⟩ := one (.shift a b) r hc
   exact ⟨8, [t], rfl, hi, by rw [e1]; rfl, a, b, t, rfl, rfl, e2⟩
  | [], _ => simp [tab] at hi
  | [_], _ => simp [tab] at hi
  | _ :: _ :: _ :: _, _ => simp [tab] at hi
  | [_, _], [] => simp [tab] at hi
  | [_, _], _ :: _ :: _ => simp [tab] at hi
 | 9, _ =>
  match ns, rows with
  | [], [r, q] =>
   have hc : (match VaflxmNeutral.text? r, VaflxmNeutral.text? q with
    | some a, some b => some (Call.add a b)
    | _, _ => none) = some c := hc
   cases e1 : VaflxmNeutral.text? r with
   | none => rw [e1] at hc; cases hc
   | some t =>
    cases e2 : VaflxmNeutral.text? q with
    | none => rw [e1, e2] at hc; cases hc
    | some u =>
     rw [e1, e2] at hc
     exact ⟨9, [t, u], rfl, hi, by rw [text_some e1, text_some e2]; rfl, t, u, rfl, rfl, (Option.some.inj hc).symm⟩
  | _ :: _, _ => simp [tab] at hi
  | [], [] => simp [tab] at hi
  | [], [_] => simp [tab] at hi
  | [], _ :: _ :: _ :: _ => simp [tab] at hi
 | 10, _ =>
  match ns, rows with
  | [a], [] => exact ⟨10, [], rfl, hi, rfl, a, rfl, rfl, (Option.some.inj hc).symm⟩
  | [], _ => simp [tab] at hi
  | _ :: _ :: _, _ => simp [tab] at hi
  | [_], _ :: _ => simp [tab] at hi
 | 11, _ =>
  match ns, rows with
  | [], [] => exact ⟨11, [], rfl, hi, rfl, rfl, rfl, (Option.some.inj hc).symm⟩
  | _ :: _, _ => simp [tab] at hi
  | [], _ :: _ => simp [tab] at hi
 | 12, _ =>
  match ns, rows with
  | [], [] => exact ⟨12, [], rfl, hi, rfl, rfl, rfl, (Option.some.inj hc).symm⟩
  | _ :: _, _ => simp [tab] at hi
  | [], _ :: _ => simp [tab] at hi
 | 13, _ =>
  match ns, rows with
  | [], [r] =>
   obtain ⟨t, e1, e2⟩ := one .apply r hc
   exact ⟨13, [t], rfl, hi, by rw [e1]; rfl, t, rfl, rfl, e2⟩
  | _ :: _, _ => simp [tab] at hi
  | [], [] => simp [tab] at hi
  | [], _ :: _ :: _ => simp [tab] at hi
 | 14, _ =>
  match ns, rows with
  | [], [r] =>
   obtain ⟨t, e1, e2⟩ := one .outputs r hc
   exact ⟨14, [t], rfl, hi, by rw [e1]; rfl, t, rfl, rfl, e2⟩
  | _ :: _, _ => simp [tab] at hi
  | [], [] => simp [tab] at hi
  | [], _ :: _ :: _ => simp [tab] at hi
end Tm
set_option Elab.async false
set_option linter.all false
set_option maxRecDepth 100000
set_option maxHeartbeats 4000000
namespace Tf
open PySem PySem.Spec PyProof.Rows L2
local macro_rules | `(tactic| walk_at "N") => `(tactic| exact ⟨rfl, rfl, rfl, by decide +kernel, rfl, by decide +kernel, by decide +kernel⟩)
def top (i : Nat) : Stmt := PySem.Challenge.pw_toldforms_s01_answers.main.body.getD i (.Pass ⟨0, 0, 0, 0⟩)
section
variable {P : Program} {w : World} {K : PySem.W.Frag} {mg : Str → Option Value} {base : Heap}
structure Ok (P : Program) (w : World) (K : PySem.W.Frag) (mg : Str → Option Value) (base : Heap) (k : Nat) (name : Str) (ps : List Str) (sp : Sp) : Prop where
 ex : ∃ f fd, FnOk P w K mg base CX0 k f fd ps sp ∧ mg name = some (.ref f) ∧ PySem.W.keepIn K (.ref f) = true ∧ Binds K fd ps []
structure Def (K : PySem.W.Frag) (mg : Str → Option Value) (name : Str) (st : Stmt) (ps : List Str) : Prop where
 ex : ∃ f fd, Fun K name name st f fd ∧ mg name = some (.ref f) ∧ Binds K fd ps []
theorem Ok.mono {j k : Nat} {name : Str} {ps : List Str} {sp : Sp} (h : Ok P w K mg base j name ps sp) (l : j ≤ k) : Ok P w K mg base k name ps sp := by
 obtain ⟨f, fd, a, b, c, d⟩ := h.ex
 exact ⟨f, fd, a.mono l, b, c, d⟩
theorem Def.ok {name : Str} {st : Stmt} {N ps : List Str} {k : Nat} {sp : Sp} (D : Def K mg name st ps) (S : FnScope N ps (defScope st)) (len : ∀ vs H Q E, sp vs H Q E → vs.length = ps.length)
  (hbody : ∀ (f : Addr) (cdv : Value) (A : Around) (outer : List Env) (s : Shared) (H : Hp) (vs : List V) (Q : VK) (E : XK), Room k (A.deeper (envOfC name (defScope st) s.heap.objs.size f cdv)) → sp vs H Q E →
   ∃ t, PSs (cxOf CX0 P w K mg base N name (defScope st) f cdv A outer s H E).nox (defBody st) t ∧ t { nx := fun _ H' => Q .non H', rt := Q } (start N vs) H) : Ok P w K mg base (k + 1) name ps sp := by
 obtain ⟨f, fd, F, m, b⟩ := D.ex
 exact ⟨f, fd, F.ok S len (fun cdv => hbody f cdv), m, F.kp, b⟩
section
variable {X : Cx} {k : Nat} {ps : List Str} {sp : Sp} {x : Str} {p pos : Pos} {e : Expr} {es : List Expr} {t : TA}
theorem pe_fn (F : Ok X.prog X.w X.K X.mg X.base k x ps sp) (hr : Room k X.A) (hg : Gl X x)
  (ha : PA X (e :: es) t) (hdb : (x == ("__debug__" : Str)) = false := by decide) (he : starEach (e :: es) X.env = (false, eval e X.env) :: starEach es X.env := by rfl) (hpl : (backTo pos (starEach es X.env)).any (·.1) = false := by rfl) :
  PE X (.Call (.Name x p) (e :: es) [] pos) (tCall sp [] E0 t) := by
 obtain ⟨f, fd, a, b, c, d⟩ := F.ex
 exact pe_call a hr hg b c d .nil pass0 ha hdb he hpl
theorem pe_fn0 (F : Ok X.prog X.w X.K X.mg X.base k x ps sp) (hr : Room k X.A) (hg : Gl X x) (hdb : (x == ("__debug__" : Str)) = false := by decide) :
  PE X (.Call (.Name x p) [] [] pos) (tCall sp [] E0 tNil) := by
 obtain ⟨f, fd, a, b, c, d⟩ := F.ex
 exact pe_call0 a hr hg b c d .nil pass0 hdb
theorem PE.or {t1 t2 : TE} (h1 : PE X e t1) (h2 : PE X e t2) : PE X e (fun σ H Q => t1 σ H Q ∨ t2 σ H Q) := fun pins s σ H Q I h => h.elim (h1 pins s σ H Q I) (h2 pins s σ H Q I)
end
def CI (mg : Str → Option Value) (x : Str) (i : Int) : Prop := ∃ t, mg x = some (.int i t)
theorem pe_ci {X : Cx} {x : Str} {i : Int} {pos : Pos} (h : CI X.mg x i) (hg : Gl X x) (hd : (x == ("__debug__" : Str)) = false := by decide) : PE X (.Name x pos) (tC (.int i)) := by
 obtain ⟨t, h⟩ := h
 exact pe_glob hg h ⟨t, rfl⟩ hd
def KT (K : PySem.W.Frag) (a : Addr) (xs : List V) : Prop := ∃ (o : Obj) (its : Array Value) (n : Nat), K.lookup a = some o ∧ o.cls = .type "tuple" ∧ o.data = .seq its n ∧ its.size ≤ sizeLine ∧ Vals xs its.toList
theorem KT.sq {K : PySem.W.Frag} {a : Addr} {xs : List V} (h : KT K a xs) (H : Hp) : SqT K H a xs := .inr h
def CT (K : PySem.W.Frag) (mg : Str → Option Value) (x : Str) (xs : List V) : Prop := ∃ a, mg x = some (.ref a) ∧ KT K a xs
def tCT (K : PySem.W.Frag) (xs : List V) : TE := fun _ H Q => ∀ a, KT K a xs → Q (.ref a) H
theorem pe_ct {X : Cx} {x : Str} {xs : List V} {pos : Pos} (h : CT X.K X.mg x xs) (hg : Gl X x) (hd : (x == ("__debug__" : Str)) = false := by decide) : PE X (.Name x pos) (tCT X.K xs) := by
 obtain ⟨a, h, k⟩ := h
 exact fun pins s σ H Q I q => pe_glob (v := V.ref a) hg h rfl hd pins s σ H Q I (q a k)
end
section
variable {σ : L2.St} {H : Hp} {Q : VK} {QT : Bool → Hp → Prop} {QA : List V → Hp → Prop} {D : Ends} {ta tb tc : TE} {t u : TS} {tA tB' : TT} {tr : TA} {r r' : R2}
@[simp] theorem ap_tVar {i : Nat} : tVar i σ H Q = ∃ v, σ[i]? = some (some v) ∧ Q v H := rfl
@[simp] theorem ap_tC {v : V} : tC v σ H Q = Q v H := rfl
@[simp] theorem ap_tOp : tOp r ta tb σ H Q = ta σ H fun x H1 => tb σ H1 fun y H2 => r x y H2 Q := rfl
@[simp] theorem ap_tUn {ru : V → Hp → VK → Prop} : tUn ru ta σ H Q = ta σ H fun x H1 => ru x H1 Q := rfl
@[simp] theorem ap_rI {C : Int → Int → Prop} {g : Int → Int → V} {x y : V} : rI C g x y H Q = ∃ i j, x = .int i ∧ y = .int j ∧ C i j ∧ Q (g i j) H := rfl
@[simp] theorem ap_rI0 {g : Int → Int → V} {x y : V} : rI0 g x y H Q = ∃ i j, x = .int i ∧ y = .int j ∧ Q (g i j) H := rfl
@[simp] theorem ap_rU {g : Int → V} {x : V} : rU g x H Q = ∃ i, x = .int i ∧ Q (g i) H := rfl
@[simp] theorem ap_rEq {x y : V} : rEq x y H Q = (scal x y = true ∧ Q (.bl (decide (x = y))) H) := rfl
@[simp] theorem ap_rNe {x y : V} : rNe x y H Q = (scal x y = true ∧ Q (.bl (!decide (x = y))) H) := rfl
@[simp] theorem ap_tTest {t : TE} : tTest t σ H QT = t σ H fun x H' => ∃ k, x = .bl k ∧ QT k H' := rfl
@[simp] theorem ap_tB {t : TE} : tB t σ H QT = t σ H fun x H' => ∃ k, x = .bl k ∧ QT k H' := rfl
@[simp] theorem ap_tChain : tChain r r' ta tb tc σ H Q = ta σ H fun x H1 => tb σ H1 fun y H2 => r x y H2 fun z H3 => ∃ k, z = .bl k ∧ (if k = true then tc σ H3 fun w' H4 => r' y w' H4 Q else Q (.bl false) H3) := rfl
@[simp] theorem ap_tAnd : tAnd tA tB' σ H QT = tA σ H fun c H1 => if c = true then tB' σ H1 QT else QT false H1 := rfl
@[simp] theorem ap_tOr : tOr tA tB' σ H QT = tA σ H fun c H1 => if c = true then QT true H1 else tB' σ H1 QT := rfl
@[simp] theorem ap_tNot : tNot tA σ H QT = tA σ H fun c H1 => QT (!c) H1 := rfl
@[simp] theorem ap_tAndV : tAndV ta tb σ H Q = ta σ H fun x H1 => ∃ c, x = .bl c ∧ if c = true then tb σ H1 Q else Q (.bl false) H1 := rfl
@[simp] theorem ap_tOrV : tOrV ta tb σ H Q = ta σ H fun x H1 => ∃ c, x = .bl c ∧ if c = true then Q (.bl true) H1 else tb σ H1 Q := rfl
@[simp] theorem ap_tNotV : tNotV ta σ H Q = ta σ H fun x H1 => ∃ c, x = .bl c ∧ Q (.bl (!c)) H1 := rfl
@[simp] theorem ap_tIf : tIf tA ta tb σ H Q = tA σ H fun c H1 => if c = true then ta σ H1 Q else tb σ H1 Q := rfl
@[simp] theorem ap_tNext : tNext D σ H = D.nx σ H := rfl
@[simp] theorem ap_tSeq : tSeq t u D σ H = t { D with nx := u D } σ H := rfl
@[simp] theorem ap_tDrop : tDrop ta D σ H = ta σ H fun _ H1 => D.nx σ H1 := rfl
@[simp] theorem ap_tRet : tRet ta D σ H = ta σ H D.rt := rfl
@[simp] theorem ap_tRetN : tRetN D σ H = D.rt .non H := rfl
@[simp] theorem ap_tIfS : tIfS tA t u D σ H = tA σ H fun b H1 => if b = true then t D σ H1 else u D σ H1 := rfl
@[simp] theorem ap_gName {i : Nat} {v : V} {QS : L2.St → Hp → Prop} : gName i v σ H QS = QS (σ.set i (some v)) H := rfl
@[simp] theorem ap_tAsg {g : TG} : tAsg ta g D σ H = ta σ H fun x H1 => g x σ H1 D.nx := rfl
@[simp] theorem ap_tNil : tNil σ H QA = QA [] H := rfl
@[simp] theorem ap_tCons : tCons ta tr σ H QA = ta σ H fun x H1 => tr σ H1 fun xs H2 => QA (x :: xs) H2 := rfl
@[simp] theorem ap_tTup : tTup tr σ H Q = tr σ H fun xs H1 => xs.length ≤ sizeLine ∧ ∀ p, H1 p = none → Q (.ref p) (upd H1 p (.tup xs)) := rfl
@[simp] theorem ap_tLst : tLst tr σ H Q = tr σ H fun xs H1 => xs.length ≤ sizeLine ∧ ∀ p, H1 p = none → Q (.ref p) (upd H1 p (.lst xs)) := rfl
@[simp] theorem ap_tCall {sp : Sp} {dvs : List V} {E : XK} : tCall sp dvs E tr σ H Q = tr σ H fun vs H1 => sp (vs ++ dvs) H1 Q E := rfl
@[simp] theorem ap_tCB {r : List V → Hp → VK → Prop} : tCB r tr σ H Q = tr σ H fun vs H1 => r vs H1 Q := rfl
@[simp] theorem ap_tCT {K : PySem.W.Frag} {xs : List V} : tCT K xs σ H Q = ∀ a, KT K a xs → Q (.ref a) H := rfl
@[simp] theorem ap_rIxL {K : PySem.W.Frag} {x y : V} : rIxL K x y H Q = ∃ p xs i v, x = .ref p ∧ y = .int i ∧ SqL K H p xs ∧ atI xs i = some v ∧ Q v H := rfl
@[simp] theorem ap_rIxT {K : PySem.W.Frag} {x y : V} : rIxT K x y H Q = ∃ p xs i v, x = .ref p ∧ y = .int i ∧ SqT K H p xs ∧ atI xs i = some v ∧ Q v H := rfl
@[simp] theorem ap_scal {i j : Int} : scal (.int i) (.int j) = true := rfl
@[simp] theorem ap_CDiv {i j : Int} : CDiv i j = (0 < j ∧ j < 1073741824) := rfl
@[simp] theorem ap_CMul {i j : Int} : CMul i j = ((-(2 ^ 64) < i ∧ i < 2 ^ 64) ∨ (-(2 ^ 64) < j ∧ j < 2 ^ 64)) := rfl
end
def forJ (J : It) (g : TG) (tb : TS) (D : Ends) (σ : L2.St) (H1 : Hp) : Prop := ∃ W : Nat → Nat → L2.St → Hp → Prop, (∃ m, W 0 m σ H1) ∧ ∀ i m σ H, W i m σ H →
 (J.stop i H ∧ D.nx σ H) ∨ (J.go i H ∧ ∃ N : L2.St → Hp → Prop, (∀ σ' H', N σ' H' → ∃ m', m' < m ∧ W (i + 1) m' σ' H') ∧ ∀ x H', J.yld i H x H' → g x σ H' fun σ2 H2 => tb { D with nx := N, ct := N, bk := D.nx } σ2 H2)
def lcJ (J : It) (g : TG) (tt : TT) (te : TE) (vs : List Nat) (σ : L2.St) (H1 : Hp) (Q : VK) : Prop := ∀ D, H1 D = none → ∃ W : Nat → Nat → Hp → Prop, (∃ m, W 0 m (upd H1 D (.lst []))) ∧ ∀ i m H, W i m H →
 (J.stop i H ∧ Q (.ref D) H) ∨ (J.go i H ∧ ∃ Nx : Hp → Prop, (∀ H', Nx H' → ∃ m', m' < m ∧ W (i + 1) m' H') ∧ ∀ x H', J.yld i H x H' → g x (wipe σ vs) H' fun σ2 H2 => wipe σ2 vs = wipe σ vs ∧ tt σ2 H2 fun b H3 =>
  if b = true then te σ2 H3 fun y H4 => ∃ acc, H4 D = some (.lst acc) ∧ acc.length < sizeLine ∧ Nx (upd H4 D (.lst (acc ++ [y]))) else Nx H3)
section
variable {σ : L2.St} {H : Hp} {Q : VK} {D : Ends} {te : TE} {tr : TA} {wi : TI} {g : TG} {tb : TS} {tt : TT} {R : It → Hp → Prop} {K : PySem.W.Frag}
@[simp] theorem ap_tFor : tFor wi g tb D σ H = wi σ H fun J H1 => forJ J g tb D σ H1 := rfl
@[simp] theorem ap_tLc {vs : List Nat} : tLc wi g tt te vs σ H Q = wi σ H fun J H1 => lcJ J g tt te vs σ H1 Q := rfl
@[simp] theorem ap_iList : iList K te σ H R = te σ H fun x H1 => ∃ a, x = .ref a ∧ (∃ xs, SqL K H1 a xs) ∧ R (Itl K a) H1 := rfl
@[simp] theorem ap_iTup : iTup K te σ H R = te σ H fun x H1 => ∃ a, x = .ref a ∧ (∃ xs, SqT K H1 a xs) ∧ R (Itt K a) H1 := rfl
@[simp] theorem ap_iRng1 : iRng1 tr σ H R = tr σ H fun vs H1 => ∃ j : Int, vs = [.int j] ∧ -(2 ^ 62) ≤ j ∧ j < 2 ^ 62 ∧ R (Itr 0 j.toNat) H1 := rfl
@[simp] theorem ap_iRng2 : iRng2 tr σ H R = tr σ H fun vs H1 => ∃ i j : Int, vs = [.int i, .int j] ∧ (-(2 ^ 62) ≤ i ∧ i < 2 ^ 62 ∧ -(2 ^ 62) ≤ j ∧ j < 2 ^ 62) ∧ R (Itr i (j - i).toNat) H1 := rfl
@[simp] theorem ap_iEnum : iEnum K tr σ H R = tr σ H fun vs H1 => ∃ a xs, vs = [.ref a] ∧ SqL K H1 a xs ∧ R (Ite K a) H1 := rfl
@[simp] theorem ap_iStr : iStr te σ H R = te σ H fun v H1 => ∃ x, v = .str x ∧ R (Its x) H1 := rfl
@[simp] theorem ap_tBM {T : String} {r : V → List V → Hp → VK → Prop} {to : TE} : tBM K T r to tr σ H Q = to σ H fun x H1 => tyV K T x H1 ∧ tr σ H1 fun xs H2 => r x xs H2 Q := rfl
@[simp] theorem ap_tBM0 {T : String} {r : V → List V → Hp → VK → Prop} {to : TE} : tBM0 K T r to σ H Q = to σ H fun x H1 => tyV K T x H1 ∧ r x [] H1 Q := rfl
@[simp] theorem ap_tyS {z : Str} : tyV K "str" (.str z) H = True := eq_true rfl
@[simp] theorem ap_tYes {QT : Bool → Hp → Prop} : tYes σ H QT = QT true H := rfl
theorem while_of {c : TT} (Pv : L2.St → Hp → Prop) (m : L2.St → Hp → Nat) (h0 : Pv σ H)
  (hs : ∀ σ H, Pv σ H → c σ H fun b H1 => if b = true then ∃ N : L2.St → Hp → Prop, (∀ σ' H', N σ' H' → ∃ m', m' < m σ H ∧ (m' = m σ' H' ∧ Pv σ' H')) ∧ tb { D with nx := N, ct := N, bk := D.nx } σ H1 else D.nx σ H1) : tWhile c tb D σ H := by
 refine ⟨fun k σ H => k = m σ H ∧ Pv σ H, ⟨_, rfl, h0⟩, ?_⟩
 rintro k σ H ⟨rfl, p⟩
 exact hs σ H p
end
@[simp] theorem cx_K {CX : CXT} {P : Program} {w : World} {K : PySem.W.Frag} {mg : Str → Option Value} {base : Heap} {N : List Str} {qual : Str} {scope : Scope} {f : Addr} {cd : Value} {A : Around} {outer : List Env} {s : Shared} {H : Hp} {E : XK} :
  (cxOf CX P w K mg base N qual scope f cd A outer s H E).K = K := rfl
structure Steps (J : It) (n : Nat) (item : Nat → V) (ok : Hp → Prop) : Prop where
 stop : ∀ H, ok H → J.stop n H
 go : ∀ i H, i < n → ok H → J.go i H
 yld : ∀ i H x H', i < n → ok H → J.yld i H x H' → x = item i ∧ H' = H
theorem steps_list (K : PySem.W.Frag) (a : Addr) (xs : List V) : Steps (Itl K a) xs.length (fun i => xs.getD i .non) (fun H => SqL K H a xs) where
 stop := fun H h => ⟨xs, h, Nat.le_refl _⟩
 go := fun i H hi h => ⟨xs, xs[i], h, by simp [hi]⟩
 yld := fun i H x H' hi h y => by
  obtain ⟨e, y⟩ := y
  have := y xs h
  exact ⟨by simp [List.getD, this], e⟩
theorem steps_tup (K : PySem.W.Frag) (a : Addr) (xs : List V) : Steps (Itt K a) xs.length (fun i => xs.getD i .non) (fun H => SqT K H a xs) where
 stop := fun H h => ⟨xs, h, Nat.le_refl _⟩
 go := fun i H hi h => ⟨xs, xs[i], h, by simp [hi]⟩
 yld := fun i H x H' hi h y => by
  obtain ⟨e, y⟩ := y
  have := y xs h
  exact ⟨by simp [List.getD, this], e⟩
theorem steps_str (x : Str) : Steps (Its x) x.cps.size (fun i => .str ⟨#[x.cps.getD i 0]⟩) (fun _ => True) where
 stop := fun H _ => Nat.le_refl _
 go := fun i H hi _ => hi
 yld := fun i H v H' hi _ y => by
  obtain ⟨e, c, hc, rfl⟩ := y
  refine ⟨?_, e⟩
  rw [Array.getD_eq_getD_getElem?, hc]
  rfl
theorem steps_rng (lo : Int) (n : Nat) : Steps (Itr lo n) n (fun i => .int (lo + i)) (fun _ => True) where
 stop := fun H _ => Nat.le_refl _
 go := fun i H hi _ => hi
 yld := fun i H v H' hi _ y => ⟨y.2, y.1⟩
theorem for_by {J : It} {n : Nat} {item : Nat → V} {ok : Hp → Prop} {g : TG} {tb : TS} {D : Ends} {σ : L2.St} {H : Hp} (S : Steps J n item ok) (Pv : Nat → L2.St → Hp → Prop) (h0 : Pv 0 σ H) (hok : ∀ i σ H, i ≤ n → Pv i σ H → ok H)
  (hs : ∀ i σ H, i < n → Pv i σ H → g (item i) σ H fun σ2 H2 => tb { D with nx := Pv (i + 1), ct := Pv (i + 1), bk := D.nx } σ2 H2) (hd : ∀ σ H, Pv n σ H → D.nx σ H) : forJ J g tb D σ H := by
 refine ⟨fun i m σ H => m = n - i ∧ i ≤ n ∧ Pv i σ H, ⟨n, by simp, Nat.zero_le _, h0⟩, ?_⟩
 rintro i m σ H ⟨rfl, hi, p⟩
 have q := hok i σ H hi p
 by_cases hlt : i < n
 ·refine .inr ⟨S.go i H hlt q, Pv (i + 1), fun σ' H' p' => ⟨n - (i + 1), by omega, rfl, hlt, p'⟩, fun x H' y => ?_⟩
  obtain ⟨rfl, rfl⟩ := S.yld i H x H' hlt q y
  exact hs i σ _ hlt p
 ·have e : i = n := by omega
  subst e
  exact .inl ⟨S.stop H q, hd σ H p⟩
theorem lc_by {J : It} {n : Nat} {item : Nat → V} {ok : Hp → Prop} {g : TG} {tt : TT} {te : TE} {vs : List Nat} {σ : L2.St} {H1 : Hp} {Q : VK} (S : Steps J n item ok)
  (h : ∀ D, H1 D = none → ∃ Pv : Nat → Hp → Prop, Pv 0 (upd H1 D (.lst [])) ∧ (∀ i H, i ≤ n → Pv i H → ok H) ∧
   (∀ i H, i < n → Pv i H → g (item i) (wipe σ vs) H fun σ2 H2 => wipe σ2 vs = wipe σ vs ∧ tt σ2 H2 fun b H3 =>
    if b = true then te σ2 H3 fun y H4 => ∃ acc, H4 D = some (.lst acc) ∧ acc.length < sizeLine ∧ Pv (i + 1) (upd H4 D (.lst (acc ++ [y]))) else Pv (i + 1) H3) ∧ ∀ H, Pv n H → Q (.ref D) H) : lcJ J g tt te vs σ H1 Q := by
 intro D hD
 obtain ⟨Pv, h0, hok, hs, hd⟩ := h D hD
 refine ⟨fun i m H => m = n - i ∧ i ≤ n ∧ Pv i H, ⟨n, by simp, Nat.zero_le _, h0⟩, ?_⟩
 rintro i m H ⟨rfl, hi, p⟩
 have q := hok i H hi p
 by_cases hlt : i < n
 ·refine .inr ⟨S.go i H hlt q, Pv (i + 1), fun H' p' => ⟨n - (i + 1), by omega, rfl, hlt, p'⟩, fun x H' y => ?_⟩
  obtain ⟨rfl, rfl⟩ := S.yld i H x H' hlt q y
  exact hs i _ hlt p
 ·have e : i = n := by omega
  subst e
  exact .inl ⟨S.stop H q, hd H p⟩
theorem for_enum {K : PySem.W.Frag} {a : Addr} {xs : List V} {g : TG} {tb : TS} {D : Ends} {σ : L2.St} {H : Hp} (Pv : Nat → L2.St → Hp → Prop) (h0 : Pv 0 σ H) (hl : ∀ i σ H, i ≤ xs.length → Pv i σ H → SqL K H a xs)
  (hs : ∀ i x σ H T, xs[i]? = some x → Pv i σ H → H T = none → g (.ref T) σ (upd H T (.tup [.int (i : Nat), x])) fun σ2 H2 => tb { D with nx := Pv (i + 1), ct := Pv (i + 1), bk := D.nx } σ2 H2) (hd : ∀ σ H, Pv xs.length σ H → D.nx σ H) : forJ (Ite K a) g tb D σ H := by
 refine ⟨fun i m σ H => m = xs.length - i ∧ i ≤ xs.length ∧ Pv i σ H, ⟨xs.length, by simp, Nat.zero_le _, h0⟩, ?_⟩
 rintro i m σ H ⟨rfl, hi, p⟩
 have q := hl i σ H hi p
 by_cases hlt : i < xs.length
 ·refine .inr ⟨⟨xs, xs[i], q, by simp [hlt]⟩, Pv (i + 1), fun σ' H' p' => ⟨xs.length - (i + 1), by omega, rfl, hlt, p'⟩, fun x H' y => ?_⟩
  obtain ⟨T, z, rfl, hT, rfl, hz⟩ := y
  exact hs i z σ H T (hz xs q) p hT
 ·have e : i = xs.length := by omega
  subst e
  exact .inl ⟨⟨xs, q, Nat.le_refl _⟩, hd σ H p⟩
theorem same_new {H : Hp} {p : Addr} {o : HO} (h : H p = none) : Same H (upd H p o) := fun b u e => by
 rw [upd_ne (ne_of_none e h)]
 exact e
theorem _root_.L2.Same.put {H H' : Hp} {p : Addr} {o : HO} (s : Same H H') (h : H p = none) : Same H (upd H' p o) := fun b u e => by
 rw [upd_ne (ne_of_none e h)]
 exact s b u e
theorem _root_.L2.Same.tup {K : PySem.W.Frag} {H H' : Hp} {a : Addr} {xs : List V} (e : Same H H') (h : SqT K H a xs) : SqT K H' a xs := by
 rcases h with (h | ⟨o, h⟩) | h
 ·exact .inl (.inl (e _ _ h))
 ·exact .inl (.inr ⟨o, e _ _ h⟩)
 ·exact .inr h
theorem sqL_of {K : PySem.W.Frag} {H : Hp} {a : Addr} {xs : List V} (h : H a = some (.lst xs)) : SqL K H a xs := .inl (.inl h)
theorem sqT_of {K : PySem.W.Frag} {H : Hp} {a : Addr} {xs : List V} (h : H a = some (.tup xs)) : SqT K H a xs := .inl (.inl h)
theorem lc_pure {J : It} {n : Nat} {item : Nat → V} {ok : Hp → Prop} {g : TG} {te : TE} {vs : List Nat} {σ : L2.St} {H1 : Hp} {Q : VK} (S : Steps J n item ok) (f : Nat → V) (hn : n ≤ sizeLine) (hok : ∀ H', Same H1 H' → ok H')
  (hg : ∀ i H' (R : VK), i < n → Same H1 H' → R (f i) H' → g (item i) (wipe σ vs) H' fun σ2 H2 => wipe σ2 vs = wipe σ vs ∧ te σ2 H2 R) (hQ : ∀ D, H1 D = none → Q (.ref D) (upd H1 D (.lst ((List.range n).map f)))) : lcJ J g tYes te vs σ H1 Q := by
 refine lc_by S fun D hD => ⟨fun i H' => H' = upd H1 D (.lst ((List.range i).map f)), rfl, fun i H' _ e => hok _ (by rw [e]; exact same_new hD), fun i H' hi e => ?_, fun H' e => by rw [e]; exact hQ D hD⟩
 subst e
 have q := hg i (upd H1 D (.lst ((List.range i).map f))) (fun y H4 => ∃ acc, H4 D = some (.lst acc) ∧ acc.length < sizeLine ∧ upd H4 D (.lst (acc ++ [y])) = upd H1 D (.lst ((List.range (i + 1)).map f))) hi (same_new hD)
  ⟨_, upd_same, by simp; omega, by rw [upd_upd, List.range_succ, List.map_append]; rfl⟩
 exact q
def NewL (H : Hp) (xs : List V) (Q : VK) : Prop := ∀ p H', Same H H' → H p = none → H' p = some (.lst xs) → Q (.ref p) H'
theorem cutE {te : TE} {σ : L2.St} {H : Hp} {Q : VK} (Post : V → Hp → Prop) (h1 : ∀ Q' : VK, (∀ x H', Post x H' → Q' x H') → te σ H Q') (h2 : ∀ x H', Post x H' → Q x H') : te σ H Q := h1 Q h2
theorem cutS {t : TS} {D : Ends} {σ : L2.St} {H : Hp} (Post : L2.St → Hp → Prop) (h1 : ∀ N : L2.St → Hp → Prop, (∀ σ' H', Post σ' H' → N σ' H') → t { D with nx := N } σ H) (h2 : ∀ σ' H', Post σ' H' → D.nx σ' H') : t D σ H := h1 D.nx h2
theorem sIx_nat (n d k : Nat) : HT.sIx n d (some (k : Int)) = min k n := by
 unfold HT.sIx
 simp
 omega
theorem cut_to (xs : List V) (k : Nat) : cutV xs none (some (k : Int)) = xs.take k := by
 unfold cutV
 rw [sIx_nat]
 simp only [HT.sIx, List.drop_zero, Nat.sub_zero]
 rw [← List.take_eq_take_min]
theorem cut_from (xs : List V) (k : Nat) : cutV xs (some (k : Int)) none = xs.drop k := by
 unfold cutV
 rw [sIx_nat]
 simp only [HT.sIx]
 by_cases h : k ≤ xs.length
 ·rw [Nat.min_eq_left h, List.take_of_length_le (by simp)]
 ·rw [Nat.min_eq_right (by omega), List.drop_eq_nil_of_le (Nat.le_refl _), List.drop_eq_nil_of_le (by omega), List.take_nil]
theorem cut_mid (xs : List V) (i j : Nat) : cutV xs (some (i : Int)) (some (j : Int)) = (xs.drop i).take (j - i) := by
 unfold cutV
 rw [sIx_nat, sIx_nat]
 by_cases h : i ≤ xs.length
 ·rw [Nat.min_eq_left h]
  by_cases h2 : j ≤ xs.length
  ·rw [Nat.min_eq_left h2]
  ·rw [Nat.min_eq_right (by omega), List.take_of_length_le (by simp), List.take_of_length_le (by simp; omega)]
 ·rw [show min i xs.length = xs.length by omega, List.drop_eq_nil_of_le (Nat.le_refl _), List.drop_eq_nil_of_le (show xs.length ≤ i by omega), List.take_nil, List.take_nil]
section
variable {P : Program} {w : World} {K : PySem.W.Frag} {mg : Str → Option Value} {base : Heap}
structure Mdef (K : PySem.W.Frag) (C : Addr) (m qual : Str) (st : Stmt) (ps : List Str) : Prop where
 ex : ∃ f fd, Fun K m qual st f fd ∧ Meth K C m f ∧ Binds K fd ps []
structure Idef (K : PySem.W.Frag) (mg : Str → Option Value) (C : Addr) (name qual : Str) (st : Stmt) (ps : List Str) : Prop where
 ex : ∃ f fd, Fun K "__init__" qual st f fd ∧ Mk K C f ∧ mg name = some (.ref C) ∧ Binds K fd ps []
structure Om (P : Program) (w : World) (K : PySem.W.Frag) (mg : Str → Option Value) (base : Heap) (C : Addr) (k : Nat) (m : Str) (ps : List Str) (sp : Sp) : Prop where
 cl : Cls K C
 ex : ∃ f fd, FnOk P w K mg base CX0 k f fd ps sp ∧ Meth K C m f ∧ Binds K fd ps []
structure Oc (P : Program) (w : World) (K : PySem.W.Frag) (mg : Str → Option Value) (base : Heap) (C : Addr) (k : Nat) (name : Str) (ps : List Str) (sp : Sp) : Prop where
 ex : ∃ f fd, FnOk P w K mg base CX0 k f fd ps sp ∧ Mk K C f ∧ mg name = some (.ref C) ∧ Binds K fd ps []
theorem Mdef.ok {C : Addr} {m qual : Str} {st : Stmt} {N ps : List Str} {k : Nat} {sp : Sp} (D : Mdef K C m qual st ps) (cl : Cls K C) (S : FnScope N ps (defScope st)) (len : ∀ vs H Q E, sp vs H Q E → vs.length = ps.length)
  (hbody : ∀ (f : Addr) (cdv : Value) (A : Around) (outer : List Env) (s : Shared) (H : Hp) (vs : List V) (Q : VK) (E : XK), Room k (A.deeper (envOfC qual (defScope st) s.heap.objs.size f cdv)) → sp vs H Q E →
   ∃ t, PSs (cxOf CX0 P w K mg base N qual (defScope st) f cdv A outer s H E).nox (defBody st) t ∧ t { nx := fun _ H' => Q .non H', rt := Q } (L2.start N vs) H) : Om P w K mg base C (k + 1) m ps sp := by
 obtain ⟨f, fd, F, mm, b⟩ := D.ex
 exact ⟨cl, f, fd, F.ok S len (fun cdv => hbody f cdv), mm, b⟩
theorem Idef.ok {C : Addr} {name qual : Str} {st : Stmt} {N ps : List Str} {k : Nat} {sp : Sp} (D : Idef K mg C name qual st ps) (S : FnScope N ps (defScope st)) (len : ∀ vs H Q E, sp vs H Q E → vs.length = ps.length)
  (hbody : ∀ (f : Addr) (cdv : Value) (A : Around) (outer : List Env) (s : Shared) (H : Hp) (vs : List V) (Q : VK) (E : XK), Room k (A.deeper (envOfC qual (defScope st) s.heap.objs.size f cdv)) → sp vs H Q E →
   ∃ t, PSs (cxOf CX0 P w K mg base N qual (defScope st) f cdv A outer s H E).nox (defBody st) t ∧ t { nx := fun _ H' => Q .non H', rt := Q } (L2.start N vs) H) : Oc P w K mg base C (k + 1) name ps sp := by
 obtain ⟨f, fd, F, mm, n, b⟩ := D.ex
 exact ⟨f, fd, F.ok S len (fun cdv => hbody f cdv), mm, n, b⟩
variable {X : Cx} {C : Addr} {k : Nat} {ps : List Str} {sp : Sp} {x m : Str} {p pos apos : Pos} {e o : Expr} {es : List Expr} {ta : TE} {t : TA}
theorem pe_mt {pl : Sem Bool} (he : PE X o ta) (F : Om X.prog X.w X.K X.mg X.base C k m ps sp) (hr : Room k X.A) (ha : PA X (e :: es) t)
  (hst : starEach (e :: es) X.env = (false, eval e X.env) :: starEach es X.env := by rfl) (hpl : (backTo pos (starEach es X.env)).any (·.1) = false := by rfl)
  (ht : eval (.Call (.Attribute o m apos) (e :: es) [] pos) X.env = (do
   let ov ← eval o X.env
   standAt apos.atName
   let (f, first) ← holding [ov] (getMethod ov m pl)
   callWith pos f first (backTo pos (starEach (e :: es) X.env)) (backToKw pos (keywordEach [] X.env))) := by rfl) :
  PE X (.Call (.Attribute o m apos) (e :: es) [] pos) (tMeth C m sp [] E0 ta t) := by
 obtain ⟨f, fd, a, b, c⟩ := F.ex
 exact pe_meth he F.cl b a hr c .nil pass0 ha hst hpl ht
theorem pe_mt0 {pl : Sem Bool} (he : PE X o ta) (F : Om X.prog X.w X.K X.mg X.base C k m ps sp) (hr : Room k X.A)
  (ht : eval (.Call (.Attribute o m apos) [] [] pos) X.env = (do
   let ov ← eval o X.env
   standAt apos.atName
   let (f, first) ← holding [ov] (getMethod ov m pl)
   callWith pos f first (backTo pos (starEach [] X.env)) (backToKw pos (keywordEach [] X.env))) := by rfl) :
  PE X (.Call (.Attribute o m apos) [] [] pos) (tMeth C m sp [] E0 ta tNil) := by
 obtain ⟨f, fd, a, b, c⟩ := F.ex
 exact pe_meth0 he F.cl b a hr c .nil pass0 ht
theorem pe_cls (F : Oc X.prog X.w X.K X.mg X.base C k x ps sp) (hr : Room (k + 1) X.A) (hg : Gl X x)
  (ha : PA X (e :: es) t) (hdb : (x == ("__debug__" : Str)) = false := by decide) (he : starEach (e :: es) X.env = (false, eval e X.env) :: starEach es X.env := by rfl) (hpl : (backTo pos (starEach es X.env)).any (·.1) = false := by rfl) :
  PE X (.Call (.Name x p) (e :: es) [] pos) (tMake C sp [] E0 t) := by
 obtain ⟨f, fd, a, b, c, d⟩ := F.ex
 exact pe_make b a hr hg c d .nil pass0 ha hdb he hpl
theorem pe_cls0 (F : Oc X.prog X.w X.K X.mg X.base C k x ps sp) (hr : Room (k + 1) X.A) (hg : Gl X x) (hdb : (x == ("__debug__" : Str)) = false := by decide) :
  PE X (.Call (.Name x p) [] [] pos) (tMake C sp [] E0 tNil) := by
 obtain ⟨f, fd, a, b, c, d⟩ := F.ex
 exact pe_make0 b a hr hg c d .nil pass0 hdb
end
section
variable {σ : L2.St} {H : Hp} {Q : VK} {D : Ends} {ta tb : TE} {tr : TA} {K : PySem.W.Frag} {C : Addr} {m f : Str} {sp : Sp} {dvs : List V} {E : XK}
theorem ap_tMeth : tMeth C m sp dvs E ta tr σ H Q = ta σ H fun x H1 => ∃ a dx fs, x = .ref a ∧ H1 a = some (.ins C dx fs) ∧ fs.lookup m = none ∧ tr σ H1 fun vs H2 => sp (x :: (vs ++ dvs)) H2 Q E := rfl
theorem ap_tMake : tMake C sp dvs E tr σ H Q = tr σ H fun vs H1 => ∀ x dx, H1 x = none → H1 dx = none → dx ≠ x → sp (.ref x :: (vs ++ dvs)) (upd (upd H1 dx (.own x)) x (.ins C dx [])) (fun v H2 => v = .non ∧ Q (.ref x) H2) E := rfl
theorem ap_tFld : tFld K ta f σ H Q = ta σ H fun x H1 => ∃ a C dx fs v, x = .ref a ∧ H1 a = some (.ins C dx fs) ∧ Cls K C ∧ NoAttr K C f ∧ fs.lookup f = some v ∧ Q v H1 := rfl
theorem ap_sFld : sFld K ta tb f D σ H = tb σ H fun y H1 => ta σ H1 fun x H2 => ∃ a C dx fs, x = .ref a ∧ H2 a = some (.ins C dx fs) ∧ Cls K C ∧ NoAttr K C f ∧ fs.length < 1000 ∧ D.nx σ (upd H2 a (.ins C dx (putF f y fs))) := rfl
theorem ap_tSl {r : V → Option Int → Option Int → Hp → VK → Prop} {tl th : TO} : tSl r ta tl th σ H Q = ta σ H fun x H1 => tl σ H1 fun l H2 => th σ H2 fun u H3 => r x l u H3 Q := rfl
theorem ap_tNoPart {R : Option Int → Hp → Prop} : tNoPart σ H R = R none H := rfl
theorem ap_tPart {R : Option Int → Hp → Prop} : tPart ta σ H R = ta σ H fun x H1 => ∃ i, x = .int i ∧ R (some i) H1 := rfl
theorem ap_rSlL {x : V} {lo hi : Option Int} : rSlL K x lo hi H Q = ∃ a xs, x = .ref a ∧ SqL K H a xs ∧ ∀ p, H p = none → Q (.ref p) (upd H p (.lst (cutV xs lo hi))) := rfl
theorem ap_rAppend {x : V} {vs : List V} : rAppend x vs H Q = ∃ l xs y, x = .ref l ∧ vs = [y] ∧ H l = some (.lst xs) ∧ xs.length < sizeLine ∧ Q .non (upd H l (.lst (xs ++ [y]))) := rfl
theorem ap_rExtend {x : V} {vs : List V} : rExtend x vs H Q = ∃ l b xs zs, x = .ref l ∧ vs = [.ref b] ∧ H l = some (.lst xs) ∧ H b = some (.lst zs) ∧ xs.length + zs.length ≤ sizeLine ∧ Q .non (upd H l (.lst (xs ++ zs))) := rfl
theorem ap_rCat {x y : V} : rCat x y H Q = ∃ l b xs zs, x = .ref l ∧ y = .ref b ∧ H l = some (.lst xs) ∧ H b = some (.lst zs) ∧ xs.length + zs.length ≤ sizeLine ∧ ∀ p, H p = none → Q (.ref p) (upd H p (.lst (xs ++ zs))) := rfl
theorem ap_rCatT {x y : V} : rCatT K x y H Q = ∃ a b xs ys, x = .ref a ∧ y = .ref b ∧ SqT K H a xs ∧ SqT K H b ys ∧ xs ≠ [] ∧ xs.length + ys.length ≤ sizeLine ∧ (ys = [] → Q (.ref a) H) ∧ (ys ≠ [] → ∀ p, H p = none → Q (.ref p) (upd H p (.tup (xs ++ ys)))) := rfl
theorem ap_rPopAt {x : V} {vs : List V} : rPopAt x vs H Q = ∃ l xs i k y, x = .ref l ∧ vs = [.int i] ∧ H l = some (.lst xs) ∧ -(2 ^ 63) ≤ i ∧ i < 2 ^ 63 ∧ seqIndex? i xs.length = some k ∧ xs[k]? = some y ∧ Q y (upd H l (.lst (xs.eraseIdx k))) := rfl
theorem ap_rSum {vs : List V} : rSum K vs H Q = ∃ (a : Addr) (ns : List Int), vs = [V.ref a] ∧ SqL K H a (ns.map V.int) ∧ Q (.int ns.sum) H := rfl
theorem ap_rEqD {x y : V} : rEqD K x y H Q = ∃ d e, Dp K H x d ∧ Dp K H y e ∧ SeqAt.shaped d = true ∧ SeqAt.shaped e = true ∧ Q (.bl (PyData.eqv d e)) H := rfl
theorem ap_rNeD {x y : V} : rNeD K x y H Q = ∃ d e, Dp K H x d ∧ Dp K H y e ∧ SeqAt.shaped d = true ∧ SeqAt.shaped e = true ∧ Q (.bl (!PyData.eqv d e)) H := rfl
theorem ap_gTup {n : Nat} {t : TGs} {v : V} {QS : L2.St → Hp → Prop} : gTup K n t v σ H QS = ∃ a xs, v = .ref a ∧ SqT K H a xs ∧ xs.length = n ∧ t xs σ H QS := rfl
theorem ap_gNil {vs : List V} {QS : L2.St → Hp → Prop} : gNil vs σ H QS = (vs = [] ∧ QS σ H) := rfl
theorem ap_gCons {t : TG} {u : TGs} {vs : List V} {QS : L2.St → Hp → Prop} : gCons t u vs σ H QS = ∃ v r, vs = v :: r ∧ t v σ H fun σ' H' => u r σ' H' QS := rfl
end
section
variable {σ : L2.St} {H : Hp} {Q : VK} {D : Ends} {td ty tw : TE}
theorem ap_tDGet : tDGet td ty σ H Q = td σ H fun x H1 => ty σ H1 fun y H2 => ∃ a v, x = .ref a ∧ DGet H2 a y (some v) ∧ Q v H2 := rfl
theorem ap_sDPut : sDPut td ty tw D σ H = tw σ H fun v H1 => td σ H1 fun x H2 => ty σ H2 fun y H3 => ∃ a H4, x = .ref a ∧ DPut H3 a y v H4 ∧ D.nx σ H4 := rfl
theorem ap_tDisp {trs : List (TE × TE)} : tDisp trs σ H Q = ∀ p, H p = none → tPairs trs σ (upd H p (.dK [])) fun ps H2 => H2 p = some (.dK []) ∧ ∃ kvs : List (Key × V), ps = kvs.map (fun kv => (kV kv.1, kv.2)) ∧ kvs.length ≤ 15 ∧ Q (.ref p) (upd H2 p (.dK (mergeK [] kvs))) := rfl
theorem ap_tPairs0 {R : List (V × V) → Hp → Prop} : tPairs [] σ H R = R [] H := rfl
theorem ap_tPairs1 {r : List (TE × TE)} {R : List (V × V) → Hp → Prop} : tPairs ((td, ty) :: r) σ H R = td σ H fun x H1 => ty σ H1 fun y H2 => tPairs r σ H2 fun ps H3 => R ((x, y) :: ps) H3 := rfl
theorem ap_tDNewK : tDNewK σ H Q = ∀ p, H p = none → Q (.ref p) (upd H p (.dK [])) := rfl
end
theorem tyL_of {K : PySem.W.Frag} {H : Hp} {a : Addr} {xs : List V} (h : SqL K H a xs) : tyV K "list" (.ref a) H := .inl ⟨rfl, _, h⟩
def NewT (H : Hp) (xs : List V) (Q : VK) : Prop := ∀ p H', Same H H' → H p = none → H' p = some (.tup xs) → Q (.ref p) H'
def CTT (K : PySem.W.Frag) (mg : Str → Option Value) (x : Str) (xss : List (List V)) : Prop := ∃ (a : Addr) (as : List Addr), mg x = some (.ref a) ∧ KT K a (as.map V.ref) ∧ as.length = xss.length ∧ ∀ (i : Nat) (b : Addr) (xs : List V), as[i]? = some b → xss[i]? = some xs → KT K b xs
def tCTT (K : PySem.W.Frag) (xss : List (List V)) : TE := fun _ H Q => ∀ (a : Addr) (as : List Addr), KT K a (as.map V.ref) → as.length = xss.length → (∀ (i : Nat) (b : Addr) (xs : List V), as[i]? = some b → xss[i]? = some xs → KT K b xs) → Q (.ref a) H
theorem pe_ctt {X : Cx} {x : Str} {xss : List (List V)} {pos : Pos} (h : CTT X.K X.mg x xss) (hg : Gl X x) (hd : (x == ("__debug__" : Str)) = false := by decide) : PE X (.Name x pos) (tCTT X.K xss) := by
 obtain ⟨a, as, h, k, l, e⟩ := h
 exact fun pins s σ H Q I q => pe_glob (v := V.ref a) hg h rfl hd pins s σ H Q I (q a as k l e)
theorem ap_tCTT {K : PySem.W.Frag} {xss : List (List V)} {σ : L2.St} {H : Hp} {Q : VK} : tCTT K xss σ H Q = ∀ (a : Addr) (as : List Addr), KT K a (as.map V.ref) → as.length = xss.length → (∀ (i : Nat) (b : Addr) (xs : List V), as[i]? = some b → xss[i]? = some xs → KT K b xs) → Q (.ref a) H := rfl
theorem ap_rSlS {x : V} {lo hi : Option Int} {H : Hp} {Q : VK} : L2.rSlS x lo hi H Q = ∃ z, x = .str z ∧ z.length ≤ sizeLine ∧ Q (.str (L2.cutS z lo hi)) H := rfl
structure Txt (K : PySem.W.Frag) (mg : Str → Option Value) : Prop where
 LAST_YEAR : CI mg "LAST_YEAR" 9999
 LAST_DAY : CI mg "LAST_DAY" 3652059
 FEBRUARY : CI mg "FEBRUARY" 2
 MONTH_LENGTHS : CT K mg "MONTH_LENGTHS" (([31, 28, 31, 30, 31, 30, 31, 31, 30, 31, 30, 31] : List Int).map V.int)
 ZERO : CI mg "ZERO" 48
 NINE : CI mg "NINE" 57
 DATE_KIND : CI mg "DATE_KIND" 1
 YEAR : CI mg "YEAR" 1
 MONTH : CI mg "MONTH" 2
 DAY : CI mg "DAY" 3
 PART_ORDERS : CTT K mg "PART_ORDERS" [([3, 2, 1] : List Int).map V.int, ([2, 3, 1] : List Int).map V.int, ([1, 2, 3] : List Int).map V.int]
 YEAR_DIGITS : CI mg "YEAR_DIGITS" 4
 TWO_DIGITS : CI mg "TWO_DIGITS" 2
 FIRST_LETTERS : CI mg "FIRST_LETTERS" 3
 MONTH_NAMES : CT K mg "MONTH_NAMES" ((["January", "February", "March", "April", "May", "June", "July", "August", "September", "October", "November", "December"] : List Str).map V.str)
 LONGEST_DATE : CI mg "LONGEST_DATE" 17
 MOST_EXAMPLES : CI mg "MOST_EXAMPLES" 10
 LONGEST_TEXT : CI mg "LONGEST_TEXT" 40
 FIRST_SIGN : CI mg "FIRST_SIGN" 32
 LAST_SIGN : CI mg "LAST_SIGN" 126
 NUMBER_KIND : CI mg "NUMBER_KIND" 0
 MINUS : CI mg "MINUS" 45
 MOST_WHOLE_DIGITS : CI mg "MOST_WHOLE_DIGITS" 15
 LONGEST_NUMBER : CI mg "LONGEST_NUMBER" 25
 NONE : CI mg "NONE" 0
 POINT : CI mg "POINT" 46
 WIDTHS : CT K mg "WIDTHS" (([1, 2, 3, 4, 5, 6] : List Int).map V.int)
 GROUPS : CT K mg "GROUPS" (([0, 44, 46, 32] : List Int).map V.int)
 MARKS : CT K mg "MARKS" (([46, 44] : List Int).map V.int)
 DECIMALS : CT K mg "DECIMALS" (([1, 2, 3, 4] : List Int).map V.int)
 ORDERS : CT K mg "ORDERS" (([0, 1, 2] : List Int).map V.int)
 SEPARATORS : CT K mg "SEPARATORS" (([46, 47, 45, 32, 0] : List Int).map V.int)
 DAY_WAYS : CT K mg "DAY_WAYS" (([2, 1] : List Int).map V.int)
 MONTH_WAYS : CT K mg "MONTH_WAYS" (([2, 1, 3, 4] : List Int).map V.int)
 DONE : CI mg "DONE" 0
 NOT_POSSIBLE : CI mg "NOT_POSSIBLE" 1
 BAD_EXAMPLE : CI mg "BAD_EXAMPLE" (-1)
 NO_SUCH_FORM : CI mg "NO_SUCH_FORM" (-2)
 NO_SUCH_EXAMPLE : CI mg "NO_SUCH_EXAMPLE" (-2)
 NO_SUCH_VALUE : CI mg "NO_SUCH_VALUE" (-3)
 TOO_MANY_EXAMPLES : CI mg "TOO_MANY_EXAMPLES" (-6)
 NO_SUCH_DAY : CI mg "NO_SUCH_DAY" (-7)
 NO_EXAMPLES : CI mg "NO_EXAMPLES" (-8)
 MOST_TENS : CI mg "MOST_TENS" 9
 n_len : mg "len" = none
 n_ord : mg "ord" = none
 n_str : mg "str" = none
 n_abs : mg "abs" = none
 n_max : mg "max" = none
 n_list : mg "list" = none
 n_tuple : mg "tuple" = none
 n_all : mg "all" = none
 n_sum : mg "sum" = none
 n_range : mg "range" = none
 n_enumerate : mg "enumerate" = none
 n_zip : mg "zip" = none
local macro_rules | `(tactic| walk_at "S") => do
 let w := fun (s : String) => (s.splitOn " ").toArray.map fun x => Lean.mkIdent x.toName
 let a := w "ap_tVar ap_tC ap_tOp ap_tUn ap_rI ap_rI0 ap_rU ap_rEq ap_rNe ap_tTest ap_tB ap_tChain ap_tAnd ap_tOr ap_tNot ap_tAndV ap_tOrV ap_tNotV ap_tNext ap_tSeq ap_tDrop ap_tRet ap_tRetN ap_tIfS ap_gName ap_tAsg ap_tNil ap_tCons ap_tTup ap_tLst ap_tCall ap_tCB ap_tCT ap_rIxL ap_rIxT ap_scal ap_CDiv ap_CMul L2.start List.map_cons List.map_nil List.length_cons List.length_nil List.cons_append List.nil_append List.append_nil List.getElem?_cons_zero List.getElem?_cons_succ List.set_cons_zero List.set_cons_succ Option.some.injEq V.int.injEq V.bl.injEq V.ref.injEq V.str.injEq exists_eq_left exists_eq_left' exists_eq_right exists_and_left true_and and_true decide_eq_true_eq Nat.reduceAdd Nat.reduceSub List.reduceReplicate Bool.not_eq_true' decide_eq_false_iff_not List.cons.injEq and_self reduceCtorEq ap_tFor ap_tLc ap_iList ap_iTup ap_iRng1 ap_iRng2 ap_iEnum ap_iStr cx_K if_false if_true Bool.false_eq_true"
 let b := w "and_assoc ap_tBM ap_tBM0 ap_tyS ap_tYes ap_tMeth ap_tMake ap_tFld ap_sFld ap_tSl ap_tNoPart ap_tPart ap_rSlL ap_rAppend ap_rExtend ap_rCat ap_rEqD ap_rNeD ap_gTup ap_gNil ap_gCons HO.ins.injEq HO.lst.injEq HO.tup.injEq exists_and_right ap_tCTT ap_rSlS ap_tDGet ap_sDPut ap_tDisp ap_tPairs0 ap_tPairs1 ap_tDNewK"
 `(tactic| simp only [$[$a:ident],*, ↓reduceIte, $[$b:ident],*])
section
variable {P : Program} {w : World} {K : PySem.W.Frag} {mg : Str → Option Value} {base : Heap}
def leapI (y : Int) : Bool := decide (y % 400 = 0) || (decide (y % 4 = 0) && !decide (y % 100 = 0))
def sp_is_leap : Sp := fun vs H Q _ => ∃ y : Int, vs = [.int y] ∧ Q (.bl (leapI y)) H
abbrev s_is_leap : Stmt := top 5
theorem sc_is_leap : FnScope ["year"] ["year"] (defScope s_is_leap) := by walk_at "N"
theorem ok_is_leap (D : Def K mg "is_leap" s_is_leap ["year"]) : Ok P w K mg base 1 "is_leap" ["year"] sp_is_leap := by
 refine D.ok sc_is_leap (fun vs H Q E h => ?_) (fun f cdv A outer s H vs Q E hr h => ?_)
 ·obtain ⟨y, rfl, _⟩ := h
  rfl
 ·obtain ⟨y, rfl, k⟩ := h
  refine ⟨_, (pss_cons (ps_if (pt_cmpR op_eq (pe_op op_mod (pv 0) pe_int) pe_int (nomark _)) (pss_one (ps_ret pe_bl)) pss_nil)
   (pss_one (ps_ret (pe_and (pe_cmpR op_eq (pe_op op_mod (pv 0) pe_int) pe_int (nomark _)) (pe_one (pe_cmpR op_ne (pe_op op_mod (pv 0) pe_int) pe_int (nomark _))))))), ?_⟩
  walk_at "S"
  unfold leapI at k
  refine ⟨by decide, ?_⟩
  split
  ·rename_i h; simpa [h] using k
  ·rename_i h
   refine ⟨by decide, ?_⟩
   split
   ·rename_i h2
    refine ⟨by decide, ?_⟩
    simpa [h, h2] using k
   ·rename_i h2
    simpa [h, h2] using k
def sp_month_length : Sp := fun vs H Q _ => ∃ y m : Nat, vs = [.int y, .int m] ∧ 1 ≤ m ∧ m ≤ 12 ∧ Q (.int (Vaflxm.daysIn y m : Nat)) H
abbrev s_month_length : Stmt := top 6
theorem sc_month_length : FnScope ["year", "month"] ["year", "month"] (defScope s_month_length) := by walk_at "N"
theorem ok_month_length (T : Txt K mg) (D : Def K mg "month_length" s_month_length ["year", "month"]) (ok_is_leap : Ok P w K mg base 1 "is_leap" ["year"] sp_is_leap) : Ok P w K mg base 2 "month_length" ["year", "month"] sp_month_length := by
 refine D.ok sc_month_length (fun vs H Q E h => ?_) (fun f cdv A outer s H vs Q E hr h => ?_)
 ·obtain ⟨y, m, rfl, _⟩ := h
  rfl
 ·obtain ⟨y, m, rfl, h1, h2, k⟩ := h
  refine ⟨_, (pss_cons (ps_if (pw_and (pt_cmpR op_eq (pv 1) (pe_ci T.FEBRUARY (by rfl)) (nomark _)) (pw_and1 (pt_val (pe_fn ok_is_leap (hr.mono (by decide)) (by rfl) (pa_cons (pv 0) pa_nil))))).pt (pss_one (ps_ret pe_int)) pss_nil)
   (pss_one (ps_ret (pe_ix ix_tup (pe_ct T.MONTH_LENGTHS (by rfl)) (pe_op op_sub (pv 1) pe_int) (fun _ _ => rfl))))), ?_⟩
  walk_at "S"
  simp only [sp_is_leap]
  walk_at "S"
  have last : ¬ (m = 2 ∧ Vaflxm.isLeap y = true) → ∀ a, KT K a [V.int 31, V.int 28, V.int 31, V.int 30, V.int 31, V.int 30, V.int 31, V.int 31, V.int 30, V.int 31, V.int 30, V.int 31] →
    ∃ x, SqT K H a x ∧ ∃ x_1, atI x ((m : Int) - 1) = some x_1 ∧ Q x_1 H := by
   intro h a ka
   have e := Tm.lens_at y m h1 h2 h
   refine ⟨Tm.lens.map V.int, ka.sq H, _, at_of (j := m - 1) (by omega) ?_, k⟩
   rw [List.getElem?_map, e]
   rfl
  have le : leapI (y : Int) = Vaflxm.isLeap y := Tm.leap_eq y
  split
  ·rename_i h
   have hm : m = 2 := by omega
   subst hm
   split
   ·rename_i h3
    rw [le] at h3
    rw [Tm.daysIn_leap y h3] at k
    exact k
   ·rename_i h3
    rw [le] at h3
    exact last fun z => h3 z.2
  ·rename_i h
   exact last fun z => h (by omega)
def sp_is_date : Sp := fun vs H Q _ => ∃ y m d : Int, vs = [.int y, .int m, .int d] ∧ Q (.bl (Vaflxm.goodDate y m d)) H
abbrev s_is_date : Stmt := top 7
theorem sc_is_date : FnScope ["year", "month", "day"] ["year", "month", "day"] (defScope s_is_date) := by walk_at "N"
theorem ok_is_date (T : Txt K mg) (D : Def K mg "is_date" s_is_date ["year", "month", "day"]) (ok_month_length : Ok P w K mg base 2 "month_length" ["year", "month"] sp_month_length) : Ok P w K mg base 3 "is_date" ["year", "month", "day"] sp_is_date := by
 refine D.ok sc_is_date (fun vs H Q E h => ?_) (fun f cdv A outer s H vs Q E hr h => ?_)
 ·obtain ⟨y, m, d, rfl, _⟩ := h
  rfl
 ·obtain ⟨y, m, d, rfl, k⟩ := h
  refine ⟨_, (pss_cons (ps_if (pw_or (pt_cmpR op_lt (pv 0) pe_int (nomark _)) (pw_or (pt_cmpR op_gt (pv 0) (pe_ci T.LAST_YEAR (by rfl)) (nomark _)) (pw_or (pt_cmpR op_lt (pv 1) pe_int (nomark _)) (pw_or1 (pt_cmpR op_gt (pv 1) pe_int (nomark _)))))).pt (pss_one (ps_ret pe_bl)) pss_nil)
   (pss_one (ps_ret (pe_chain op_le op_le pe_int (pv 2) (pe_fn ok_month_length (hr.mono (by decide)) (by rfl) (pa_cons (pv 0) (pa_cons (pv 1) pa_nil))))))), ?_⟩
  walk_at "S"
  have no : ¬ (1 ≤ y ∧ y ≤ 9999 ∧ 1 ≤ m ∧ m ≤ 12) → Q (.bl false) H := fun h => by
   have e : Vaflxm.goodDate y m d = false := by
    rw [Bool.eq_false_iff]
    intro z
    have z := (Tm.goodDate_iff y m d).mp z
    exact h ⟨z.1, z.2.1, z.2.2.1, z.2.2.2.1⟩
   rw [e] at k
   exact k
  split
  ·exact no (by omega)
  ·split
   ·exact no (by omega)
   ·split
    ·exact no (by omega)
    ·split
     ·exact no (by omega)
     ·split
      ·simp only [sp_month_length]
       walk_at "S"
       refine ⟨y.toNat, by omega, m.toNat, by omega, by omega, by omega, ?_⟩
       have e : decide (d ≤ ((Vaflxm.daysIn y.toNat m.toNat : Nat) : Int)) = Vaflxm.goodDate y m d := by
        rw [Bool.eq_iff_iff, Tm.goodDate_iff, decide_eq_true_eq]
        omega
       rw [e]
       exact k
      ·have e : Vaflxm.goodDate y m d = false := by
        rw [Bool.eq_false_iff]
        intro z
        have z := (Tm.goodDate_iff y m d).mp z
        omega
       rw [e] at k
       exact k
def sp_days_before_year : Sp := fun vs H Q _ => ∃ y : Nat, vs = [.int y] ∧ 1 ≤ y ∧ Q (.int (Vaflxm.daysBefore y : Nat)) H
abbrev s_days_before_year : Stmt := top 8
theorem sc_days_before_year : FnScope ["year", "past"] ["year"] (defScope s_days_before_year) := by walk_at "N"
theorem ok_days_before_year (D : Def K mg "days_before_year" s_days_before_year ["year"]) : Ok P w K mg base 1 "days_before_year" ["year"] sp_days_before_year := by
 refine D.ok sc_days_before_year (fun vs H Q E h => ?_) (fun f cdv A outer s H vs Q E hr h => ?_)
 ·obtain ⟨y, rfl, _⟩ := h
  rfl
 ·obtain ⟨y, rfl, hy, k⟩ := h
  refine ⟨_, (pss_cons (ps_set (i := 1) sc_days_before_year.nd rfl (Or.inl rfl) (pe_op op_sub (pv 0) pe_int))
   (pss_one (ps_ret (pe_op op_add (pe_op op_sub (pe_op op_add (pe_op op_mul (pv 1) pe_int) (pe_op op_fdiv (pv 1) pe_int)) (pe_op op_fdiv (pv 1) pe_int)) (pe_op op_fdiv (pv 1) pe_int))))), ?_⟩
  walk_at "S"
  refine ⟨.inr ⟨by decide, by decide⟩, by decide, by decide, by decide, by decide, by decide, by decide, ?_⟩
  rw [Tm.before_int y hy]
  exact k
def sp_day_number : Sp := fun vs H Q _ => ∃ y m d : Nat, vs = [.int y, .int m, .int d] ∧ 1 ≤ y ∧ 1 ≤ m ∧ m ≤ 12 ∧ Q (.int (Vaflxm.dayNumber y m d : Nat)) H
abbrev s_day_number : Stmt := top 9
theorem sc_day_number : FnScope ["year", "month", "day", "number", "earlier"] ["year", "month", "day"] (defScope s_day_number) := by walk_at "N"
theorem ok_day_number (T : Txt K mg) (D : Def K mg "day_number" s_day_number ["year", "month", "day"]) (ok_month_length : Ok P w K mg base 2 "month_length" ["year", "month"] sp_month_length) (ok_days_before_year : Ok P w K mg base 1 "days_before_year" ["year"] sp_days_before_year) :
  Ok P w K mg base 3 "day_number" ["year", "month", "day"] sp_day_number := by
 refine D.ok sc_day_number (fun vs H Q E h => ?_) (fun f cdv A outer s H vs Q E hr h => ?_)
 ·obtain ⟨y, m, d, rfl, _⟩ := h
  rfl
 ·obtain ⟨y, m, d, rfl, hy, h1, h2, k⟩ := h
  refine ⟨_, (pss_cons (ps_set (i := 3) sc_day_number.nd rfl (Or.inl rfl) (pe_op op_add (pe_fn ok_days_before_year (hr.mono (by decide)) (by rfl) (pa_cons (pv 0) pa_nil)) (pv 2)))
   (pss_cons (ps_for PassesOwn.never rfl (pi_range2 (by rfl) T.n_range (pa_cons pe_int (pa_cons (pv 1) pa_nil))) (pg_name (i := 4) sc_day_number.nd rfl (Or.inl rfl)) (pss_one (ps_set (i := 3) sc_day_number.nd rfl (Or.inl rfl) (pe_op op_add (pv 3) (pe_fn ok_month_length (hr.mono (by decide)) (by rfl) (pa_cons (pv 0) (pa_cons (pv 4) pa_nil)))))))
   (pss_one (ps_ret (pv 3))))), ?_⟩
  walk_at "S"
  simp only [sp_days_before_year]
  walk_at "S"
  refine ⟨y, rfl, hy, by decide, by decide, by omega, by omega, ?_⟩
  refine for_range (fun i σ H' => H' = H ∧ ∃ v, σ = [some (.int y), some (.int m), some (.int d), some (.int ((Vaflxm.daysBefore y + Vaflxm.daysInMonths y i + d : Nat) : Int)), v]) ⟨rfl, none, ?_⟩ ?_ ?_
  ·simp [Vaflxm.daysInMonths]
  ·rintro i σ H' hi ⟨rfl, v, rfl⟩
   walk_at "S"
   simp only [sp_month_length]
   walk_at "S"
   refine ⟨y, rfl, i + 1, by omega, by omega, by omega, ?_⟩
   simp only [Vaflxm.daysInMonths]
   exact ⟨by omega, _, rfl⟩
  ·rintro σ H' ⟨rfl, v, rfl⟩
   walk_at "S"
   have e : ((m : Int) - 1).toNat = m - 1 := by omega
   rw [e]
   exact k
def sp_weekday : Sp := fun vs H Q _ => ∃ n : Int, vs = [.int n] ∧ Q (.int ((n - 1) % 7)) H
abbrev s_weekday : Stmt := top 11
theorem sc_weekday : FnScope ["number"] ["number"] (defScope s_weekday) := by walk_at "N"
theorem ok_weekday (D : Def K mg "weekday" s_weekday ["number"]) : Ok P w K mg base 1 "weekday" ["number"] sp_weekday := by
 refine D.ok sc_weekday (fun vs H Q E h => ?_) (fun f cdv A outer s H vs Q E hr h => ?_)
 ·obtain ⟨y, rfl, _⟩ := h
  rfl
 ·obtain ⟨y, rfl, k⟩ := h
  refine ⟨_, (pss_one (ps_ret (pe_op op_mod (pe_op op_sub (pv 0) pe_int) pe_int))), ?_⟩
  walk_at "S"
  exact ⟨by decide, k⟩
def sp_is_day_number : Sp := fun vs H Q _ => ∃ n : Int, vs = [.int n] ∧ Q (.bl (Vaflxm.within 1 (Vaflxm.nat Vaflxm.MOST_DAY) n)) H
abbrev s_is_day_number : Stmt := top 10
theorem sc_is_day_number : FnScope ["number"] ["number"] (defScope s_is_day_number) := by walk_at "N"
theorem ok_is_day_number (T : Txt K mg) (D : Def K mg "is_day_number" s_is_day_number ["number"]) : Ok P w K mg base 1 "is_day_number" ["number"] sp_is_day_number := by
 refine D.ok sc_is_day_number (fun vs H Q E h => ?_) (fun f cdv A outer s H vs Q E hr h => ?_)
 ·obtain ⟨y, rfl, _⟩ := h
  rfl
 ·obtain ⟨y, rfl, k⟩ := h
  refine ⟨_, (pss_one (ps_ret (pe_chain op_le op_le pe_int (pv 0) (pe_ci T.LAST_DAY (by rfl))))), ?_⟩
  walk_at "S"
  have e0 : Vaflxm.within 1 (Vaflxm.nat Vaflxm.MOST_DAY) y = (decide (1 ≤ y) && decide (y ≤ 3652059)) := rfl
  rw [e0] at k
  split
  ·rename_i h
   simpa [h] using k
  ·rename_i h
   simpa [h] using k
def sp_date_of_day : Sp := fun vs H Q _ => ∃ n : Nat, vs = [.int n] ∧ 1 ≤ n ∧ n ≤ Vaflxm.MOST_DAY ∧ ∀ p, H p = none → Q (.ref p) (upd H p (.tup [.int ((Vaflxm.dateOf n).1 : Nat), .int ((Vaflxm.dateOf n).2.1 : Nat), .int ((Vaflxm.dateOf n).2.2 : Nat)]))
abbrev s_date_of_day : Stmt := top 12
theorem sc_date_of_day : FnScope ["number", "year", "day", "month"] ["number"] (defScope s_date_of_day) := by walk_at "N"
theorem ok_date_of_day (T : Txt K mg) (D : Def K mg "date_of_day" s_date_of_day ["number"]) (ok_month_length : Ok P w K mg base 2 "month_length" ["year", "month"] sp_month_length) (ok_days_before_year : Ok P w K mg base 1 "days_before_year" ["year"] sp_days_before_year) :
  Ok P w K mg base 3 "date_of_day" ["number"] sp_date_of_day := by
 refine D.ok sc_date_of_day (fun vs H Q E h => ?_) (fun f cdv A outer s H vs Q E hr h => ?_)
 ·obtain ⟨n, rfl, _⟩ := h
  rfl
 ·obtain ⟨n, rfl, h1, h2, k⟩ := h
  have hM : n ≤ 3652059 := h2
  refine ⟨_, (pss_cons (ps_set (i := 1) sc_date_of_day.nd rfl (Or.inl rfl) (pe_op op_add (pe_op op_fdiv (pv 0) pe_int) pe_int))
   (pss_cons (ps_while PassesOwn.never (pt_cmpR op_lt (pe_fn ok_days_before_year (hr.mono (by decide)) (by rfl) (pa_cons (pe_op op_add (pv 1) pe_int) pa_nil)) (pv 0) (nomark _)) (pss_one (ps_set (i := 1) sc_date_of_day.nd rfl (Or.inl rfl) (pe_op op_add (pv 1) pe_int))))
   (pss_cons (ps_set (i := 2) sc_date_of_day.nd rfl (Or.inl rfl) (pe_op op_sub (pv 0) (pe_fn ok_days_before_year (hr.mono (by decide)) (by rfl) (pa_cons (pv 1) pa_nil))))
   (pss_cons (ps_set (i := 3) sc_date_of_day.nd rfl (Or.inl rfl) pe_int)
   (pss_cons (ps_while PassesOwn.never (pt_cmpR op_gt (pv 2) (pe_fn ok_month_length (hr.mono (by decide)) (by rfl) (pa_cons (pv 1) (pa_cons (pv 3) pa_nil))) (nomark _)) (pss_cons (ps_set (i := 2) sc_date_of_day.nd rfl (Or.inl rfl) (pe_op op_sub (pv 2) (pe_fn ok_month_length (hr.mono (by decide)) (by rfl) (pa_cons (pv 1) (pa_cons (pv 3) pa_nil)))))
   (pss_one (ps_set (i := 3) sc_date_of_day.nd rfl (Or.inl rfl) (pe_op op_add (pv 3) pe_int)))))
   (pss_one (ps_ret (pe_tup (pa_cons (pv 1) (pa_cons (pv 3) (pa_cons (pv 2) pa_nil))))))))))), ?_⟩
  walk_at "S"
  refine ⟨by decide, by decide, ?_⟩
  refine while_of (fun σ H' => H' = H ∧ ∃ y : Nat, σ = [some (.int n), some (.int y), none, none] ∧ 1 ≤ y ∧ Vaflxm.daysBefore y < n) (fun σ _ => match σ with | [_, some (.int y), _, _] => (3652060 - y).toNat | _ => 0) ⟨rfl, n / 366 + 1, ?_, by omega, Tm.first_year n h1⟩ ?_
  ·congr 3
  ·rintro σ H' ⟨rfl, y, rfl, hy, hb⟩
   walk_at "S"
   simp only [sp_days_before_year]
   walk_at "S"
   refine ⟨y + 1, by omega, by omega, ?_⟩
   split
   ·rename_i hl
    refine ⟨fun σ' H'' => H'' = H' ∧ σ' = [some (.int n), some (.int (y + 1)), none, none], ?_, rfl, rfl⟩
    rintro σ' H'' ⟨rfl, rfl⟩
    refine ⟨_, ?_, rfl, rfl, y + 1, rfl, by omega, by omega⟩
    have : y ≤ 9999 := by
     unfold Vaflxm.daysBefore at hb
     omega
    show (3652060 - ((y : Int) + 1)).toNat < (3652060 - (y : Int)).toNat
    omega
   ·rename_i hl
    refine ⟨y, rfl, hy, ?_⟩
    have hd := Tm.dateOf_eq n y h1 h2 hy hb (by omega)
    have hlen := Tm.before_succ y hy
    rw [← Tm.year_len y] at hlen
    refine while_of (fun σ H'' => H'' = H' ∧ ∃ m d : Nat, σ = [some (.int n), some (.int y), some (.int d), some (.int m)] ∧ 1 ≤ m ∧ m ≤ 12 ∧ 1 ≤ d ∧ d + Vaflxm.daysInMonths y (m - 1) ≤ Vaflxm.daysInMonths y 12 ∧ Vaflxm.monthOf y (13 - m) m d = (Vaflxm.dateOf n).2)
     (fun σ _ => match σ with | [_, _, _, some (.int m)] => (13 - m).toNat | _ => 0) ⟨rfl, 1, n - Vaflxm.daysBefore y, ?_, by omega, by omega, by omega, by simp [Vaflxm.daysInMonths] at hlen ⊢; omega, by rw [hd]⟩ ?_
    ·rw [show ((n : Int) - (Vaflxm.daysBefore y : Nat)) = ((n - Vaflxm.daysBefore y : Nat) : Int) by omega]
     rfl
    ·rintro σ H'' ⟨rfl, m, d, rfl, m1, m2, d1, hroom, hmo⟩
     walk_at "S"
     simp only [sp_month_length]
     walk_at "S"
     refine ⟨y, rfl, m, rfl, m1, m2, ?_⟩
     split
     ·rename_i hgt
      have hm := Tm.month_room y m d hroom m1 (by omega)
      refine ⟨fun σ' H3 => H3 = H'' ∧ σ' = [some (.int n), some (.int y), some (.int ((d : Int) - (Vaflxm.daysIn y m : Nat))), some (.int (m + 1))], ?_, y, rfl, m, rfl, m1, m2, rfl, rfl⟩
      rintro σ' H3 ⟨rfl, rfl⟩
      refine ⟨_, ?_, rfl, rfl, m + 1, d - Vaflxm.daysIn y m, ?_, by omega, by omega, by omega, ?_, ?_⟩
      ·show (13 - ((m : Int) + 1)).toNat < (13 - (m : Int)).toNat
       omega
      ·rw [show ((d : Int) - (Vaflxm.daysIn y m : Nat)) = ((d - Vaflxm.daysIn y m : Nat) : Int) by omega]
       rfl
      ·have := Tm.inMonths_succ y m m1
       simp only [Nat.add_sub_cancel]
       omega
      ·rw [show 13 - m = (13 - (m + 1)) + 1 by omega, Tm.month_step y _ m d (by omega)] at hmo
       exact hmo
     ·rename_i hle
      have e := Tm.month_stop y (13 - m) m d (by omega)
      rw [e] at hmo
      refine ⟨by show 3 ≤ sizeLine; decide, fun p hp => ?_⟩
      have q := k p hp
      rw [hd] at q hmo
      rw [← hmo] at q
      exact q
end
open TL (numL numL_lt numL_step)
section
variable {P : Program} {w : World} {K : PySem.W.Frag} {mg : Str → Option Value} {base : Heap}
def tv (t : Vaflxm.Text) : List V := t.map fun c => V.int (c.toNat : Nat)
theorem numL_dec (n : Nat) : numL n = (Vaflxm.decimal n).map UInt8.toNat := by
 induction n using Nat.strongRecOn with
 | _ n ih =>
  by_cases h : n < 10
  ·rw [numL_lt h, Tm.dec_lt h, List.map_cons, List.map_nil, Tm.ofNat_digit n h]
  ·rw [numL_step (by omega), Tm.dec_step (by omega), ih (n / 10) (by omega), List.map_append, List.map_cons, List.map_nil, Tm.ofNat_digit _ (by omega)]
theorem mt_zfill {X : Cx} : MtR X "str.zfill" (fun x xs H Q => ∃ a i, x = .str a ∧ xs = [.int i] ∧ PadOk i = true ∧ Q (.str (Txt.zfill a i)) H) := by
 intro pins s σ H x xs v us Q I rx rs h
 obtain ⟨a, i, rfl, rfl, hp, h⟩ := h
 obtain ⟨t, rfl⟩ := rx
 cases rs with
 | cons r1 rs =>
  cases rs
  obtain ⟨u, rfl⟩ := r1
  exact PySem.SC.zfill hp fun t' k => ⟨.str _, H, I.tok k, ⟨t', rfl⟩, h⟩
theorem padOk (n : Nat) (h : n ≤ 1000) : PadOk (n : Int) = true := by
 unfold PadOk fitsSsize Builtin.Str.tooLong
 have := sizeLine_eq
 simp
 omega
theorem zfill_num (n wd : Nat) : (Txt.zfill (Str.ofString (toString ((n : Nat) : Int))) (wd : Int)).cps.toList = (Vaflxm.padded wd n).map UInt8.toNat := by
 have e : (Str.ofString (toString ((n : Nat) : Int))).cps.toList = (Vaflxm.decimal n).map UInt8.toNat := (TL.tl_num n).trans (numL_dec n)
 have el : (Str.ofString (toString ((n : Nat) : Int))).length = (Vaflxm.decimal n).length := by
  show (Str.ofString (toString ((n : Nat) : Int))).cps.size = _
  rw [← Array.length_toList, e, List.length_map]
 unfold Txt.zfill
 rw [el]
 show _ = (List.replicate (wd - (Vaflxm.decimal n).length) 48 ++ Vaflxm.decimal n).map UInt8.toNat
 by_cases h : (wd : Int) ≤ ((Vaflxm.decimal n).length : Int)
 ·rw [if_pos h, e, show wd - (Vaflxm.decimal n).length = 0 by omega]
  rfl
 ·rw [if_neg h]
  have hd : (Str.ofString (toString ((n : Nat) : Int))).cps[0]? = some (((Vaflxm.decimal n).map UInt8.toNat).getD 0 0) := by
   rw [← Array.getElem?_toList, e]
   have := Tm.dec_length_pos n
   rw [List.getElem?_eq_getElem (by simp; omega)]
   simp [List.getD, List.getElem?_eq_getElem (show 0 < (Vaflxm.decimal n).length by omega)]
  have hr : 48 ≤ ((Vaflxm.decimal n).map UInt8.toNat).getD 0 0 ∧ ((Vaflxm.decimal n).map UInt8.toNat).getD 0 0 ≤ 57 := by
   have := Tm.dec_length_pos n
   have q := Tm.dec_digits n ((Vaflxm.decimal n)[0]'(by omega)) (List.getElem_mem _)
   rw [Tm.digit_iff] at q
   simp [List.getD, List.getElem?_eq_getElem (show 0 < (Vaflxm.decimal n).length by omega)]
   exact q
  unfold zfilled
  rw [hd]
  generalize ((Vaflxm.decimal n).map UInt8.toNat).getD 0 0 = c at hr
  have hp : ∀ k, (Builtin.Str.padded (Str.ofString (toString ((n : Nat) : Int))) k 0 48).cps.toList = (List.replicate k (48 : UInt8) ++ Vaflxm.decimal n).map UInt8.toNat := by
   intro k
   unfold Builtin.Str.padded
   rw [List.map_append, ← e]
   simp
  split
  ·rename_i z; simp at z; omega
  ·rename_i z; simp at z; omega
  ·rw [hp]
   congr 3
abbrev s_decimal_digits : Stmt := top 16
theorem sc_decimal_digits : FnScope ["number", "width", "sign"] ["number", "width"] (defScope s_decimal_digits) := by walk_at "N"
def sp_decimal_digits : Sp := fun vs H Q _ => ∃ n wd : Nat, vs = [.int n, .int wd] ∧ n.log2 < 1920 ∧ wd ≤ 1000 ∧ (Vaflxm.padded wd n).length ≤ 10000 ∧ NewL H (tv (Vaflxm.padded wd n)) Q
theorem ok_decimal_digits (T : Txt K mg) (D : Def K mg "decimal_digits" s_decimal_digits ["number", "width"]) : Ok P w K mg base 1 "decimal_digits" ["number", "width"] sp_decimal_digits := by
 refine D.ok sc_decimal_digits (fun vs H Q E h => ?_) (fun f cdv A outer s H vs Q E hr h => ?_)
 ·obtain ⟨y, m, rfl, _⟩ := h
  rfl
 ·obtain ⟨n, wd, rfl, hn, hw, hz, k⟩ := h
  refine ⟨_, (pss_one (ps_ret (pe_lc rfl sc_decimal_digits.nd (pi_str (pe_bm PySem.F.plainAttrs_str PySem.F.slot_str_zfill PySem.F.type_str_zfill mt_zfill (pe_callTy call_str_int (by rfl) T.n_str boot_str (pa_cons (pv 0) pa_nil)) (pa_cons (pv 1) pa_nil))) (blkOk_by (own := [("sign", 2)]) (by show blkC ["number", "width", "sign"] (defScope s_decimal_digits) _ _ = true; decide +kernel)) (fun _ _ _ _ _ => (pg_name (i := 2) sc_decimal_digits.nd rfl (Or.inl rfl))) (fun _ _ _ _ _ => pts_nil) (fun _ _ _ _ _ => (pe_callB call_ord (by rfl) T.n_ord boot_ord (pa_cons (pv 2) pa_nil)))))), ?_⟩
  walk_at "S"
  have e := zfill_num n wd
  have el : (Txt.zfill (Str.ofString (toString ((n : Nat) : Int))) (wd : Int)).cps.size = (Vaflxm.padded wd n).length := by
   rw [← Array.length_toList, e, List.length_map]
  have hs := sizeLine_eq
  refine ⟨by simpa using hn, padOk wd hw, lc_pure (steps_str _) (fun i => .int ((((Vaflxm.padded wd n).map UInt8.toNat).getD i 0 : Nat) : Int)) (by omega) (fun _ _ => trivial) (fun i H' R hi _ q => ?_) (fun D hD => ?_)⟩
  ·simp only [wipe]
   walk_at "S"
   refine ⟨rfl, ?_⟩
   rw [← e] at q
   simpa [Array.getD_eq_getD_getElem?, List.getD] using q
  ·refine k D _ (same_new hD) hD ?_
   rw [upd_same, el]
   congr 2
   unfold tv
   refine List.ext_getElem (by simp) fun i h1 h2 => ?_
   simp at h1 h2
   simp [List.getD, List.getElem?_eq_getElem h2]
def sp_number_of_digits (K : PySem.W.Frag) : Sp := fun vs H Q _ => ∃ (a : Addr) (t : Vaflxm.Text), vs = [.ref a] ∧ SqL K H a (tv t) ∧ Q (.int (Vaflxm.digitsVal (t.filter Vaflxm.isDigit) : Nat)) H
abbrev s_number_of_digits : Stmt := top 17
theorem sc_number_of_digits : FnScope ["text", "number", "sign"] ["text"] (defScope s_number_of_digits) := by walk_at "N"
theorem ok_number_of_digits (T : Txt K mg) (D : Def K mg "number_of_digits" s_number_of_digits ["text"]) : Ok P w K mg base 1 "number_of_digits" ["text"] (sp_number_of_digits K) := by
 refine D.ok sc_number_of_digits (fun vs H Q E h => ?_) (fun f cdv A outer s H vs Q E hr h => ?_)
 ·obtain ⟨a, t, rfl, _⟩ := h
  rfl
 ·obtain ⟨a, t, rfl, ha, k⟩ := h
  refine ⟨_, (pss_cons (ps_set (i := 1) sc_number_of_digits.nd rfl (Or.inl rfl) pe_int)
   (pss_cons (ps_for PassesOwn.never rfl (pi_list (pv 0)) (pg_name (i := 2) sc_number_of_digits.nd rfl (Or.inl rfl)) (pss_one (ps_if (pt_chain op_le op_le (pe_ci T.ZERO (by rfl)) (pv 2) (pe_ci T.NINE (by rfl))) (pss_one (ps_set (i := 1) sc_number_of_digits.nd rfl (Or.inl rfl) (pe_op op_sub (pe_op op_add (pe_op op_mul (pv 1) pe_int) (pv 2)) (pe_ci T.ZERO (by rfl))))) pss_nil)))
   (pss_one (ps_ret (pv 1))))), ?_⟩
  walk_at "S"
  refine ⟨⟨_, ha⟩, for_by (steps_list K a (tv t)) (fun i σ H' => H' = H ∧ ∃ v, σ = [some (.ref a), some (.int (Vaflxm.digitsVal ((t.take i).filter Vaflxm.isDigit) : Nat)), v]) ⟨rfl, none, rfl⟩ (fun i σ H' _ h => by rw [h.1]; exact ha) ?_ ?_⟩
  ·rintro i σ H' hi ⟨rfl, v, rfl⟩
   have hi' : i < t.length := by simpa [tv] using hi
   have ei : (tv t).getD i .non = .int ((t[i].toNat : Nat) : Int) := by simp [tv, List.getD, List.getElem?_eq_getElem hi']
   rw [ei]
   walk_at "S"
   have es : t.take (i + 1) = t.take i ++ [t[i]] := by rw [List.take_succ_eq_append_getElem hi']
   have hstep : ∀ c : UInt8, Vaflxm.isDigit c = true → (Vaflxm.digitsVal ((t.take i ++ [c]).filter Vaflxm.isDigit) : Nat) = 10 * Vaflxm.digitsVal ((t.take i).filter Vaflxm.isDigit) + (c.toNat - 48) := by
    intro c hc
    unfold Vaflxm.digitsVal
    rw [List.filter_append, List.filter_cons, if_pos hc, List.filter_nil, List.foldl_append]
    rfl
   have hno : ∀ c : UInt8, ¬ Vaflxm.isDigit c = true → (t.take i ++ [c]).filter Vaflxm.isDigit = (t.take i).filter Vaflxm.isDigit := by
    intro c hc
    rw [List.filter_append, List.filter_cons, if_neg hc, List.filter_nil, List.append_nil]
   have hdg := Tm.digit_iff t[i]
   split
   ·split
    ·refine ⟨.inr ⟨by decide, by decide⟩, ?_⟩
     rw [es, hstep _ (hdg.mpr ⟨by omega, by omega⟩)]
     refine ⟨?_, _, rfl⟩
     omega
    ·rw [es, hno _ (fun z => by have := hdg.mp z; omega)]
     exact ⟨rfl, _, rfl⟩
   ·rw [es, hno _ (fun z => by have := hdg.mp z; omega)]
    exact ⟨rfl, _, rfl⟩
  ·rintro σ H' ⟨rfl, v, rfl⟩
   walk_at "S"
   rw [show (tv t).length = t.length by simp [tv], List.take_length]
   exact k
def sp_times_ten : Sp := fun vs H Q _ => ∃ n k : Nat, vs = [.int n, .int k] ∧ k ≤ 1000 ∧ Q (.int ((n * 10 ^ k : Nat) : Int)) H
abbrev s_times_ten : Stmt := top 18
theorem sc_times_ten : FnScope ["number", "times", "step"] ["number", "times"] (defScope s_times_ten) := by walk_at "N"
theorem ok_times_ten (T : Txt K mg) (D : Def K mg "times_ten" s_times_ten ["number", "times"]) : Ok P w K mg base 1 "times_ten" ["number", "times"] sp_times_ten := by
 refine D.ok sc_times_ten (fun vs H Q E h => ?_) (fun f cdv A outer s H vs Q E hr h => ?_)
 ·obtain ⟨a, t, rfl, _⟩ := h
  rfl
 ·obtain ⟨n, m, rfl, hm, k⟩ := h
  refine ⟨_, (pss_cons (ps_for PassesOwn.never rfl (pi_range1 (by rfl) T.n_range (pa_cons (pv 1) pa_nil)) (pg_name (i := 2) sc_times_ten.nd rfl (Or.inl rfl)) (pss_one (ps_set (i := 0) sc_times_ten.nd rfl (Or.inl rfl) (pe_op op_mul (pv 0) pe_int))))
   (pss_one (ps_ret (pv 0)))), ?_⟩
  walk_at "S"
  refine ⟨by omega, by omega, for_by (steps_rng 0 _) (fun i σ H' => H' = H ∧ ∃ v, σ = [some (.int ((n * 10 ^ i : Nat) : Int)), some (.int m), v]) ⟨rfl, none, by simp⟩ (fun _ _ _ _ _ => trivial) ?_ ?_⟩
  ·rintro i σ H' hi ⟨rfl, v, rfl⟩
   walk_at "S"
   refine ⟨.inr ⟨by decide, by decide⟩, ?_, _, rfl⟩
   rw [Nat.pow_succ, ← Nat.mul_assoc]
   simp
  ·rintro σ H' ⟨rfl, v, rfl⟩
   walk_at "S"
   simpa using k
end
section
variable {prog : Program} {w : World} {A : Around} {E : Value → Shared → Prop} {s : Shared}
theorem nextTup_item {it t : Addr} {i : Nat} {items : Array Value} {x : Value} {Q : Value → Shared → Prop} (hi : s.heap.IsTupleIter it t i) (ht : s.heap.IsTuple t items) (hx : items[i]? = some x)
  (q : ∀ g : Heap, g.IsTupleIter it t (i + 1) → Heap.SameBut it s.heap g → Q x { s with heap := g }) : wpAny (model prog w) A (Builtin.SmallTypes.nextOf (.ref it)) Q E s := by
 obtain ⟨ob, hob, kc, kd⟩ := id hi; obtain ⟨ot, hot, _, nt, kt⟩ := ht; unfold Builtin.SmallTypes.nextOf
 refine wpAny_bind (wpAny_callSpecial?_slot (name := Str.ofString "__next__") hi.typeIs F.slot_tuple_iterator_next (wpAny_call_entry F.slot_tuple_iterator_next hi.typeIs F.entry_tuple_iterator_next ?_ (F.args_tuple_iterator_next_1 _)))
 show wpAny _ _ (field (.ref it) 0 >>= _) _ _ s; refine wpAny_bind (wpAny_field hob kd (x := .ref t) rfl ?_)
 show wpAny _ _ (if (Value.ref t == Value.none) = true then _ else _) _ _ s; rw [if_neg (show ¬ (Value.ref t == Value.none) = true from fun z => Bool.noConfusion (show false = true from z))]
 show wpAny _ _ (field (.ref it) 1 >>= _) _ _ s; refine wpAny_bind (wpAny_field hob kd (x := .int i 0) rfl ?_)
 show wpAny _ _ (seqItems? (.ref t) >>= _) _ _ s; refine wpAny_bind (wpAny_seqItems hot kt ?_); simp only [Int.toNat_natCast, hx]
 refine wpAny_bind (wpAny_setField hob kd (by simp) (wpAny_pure ⟨x, rfl, wpAny_pure (q _ ?_ (Heap.SameBut.update ..))⟩))
 exact ⟨_, Heap.get?_update_self _ hob (Obj.isFreed_of_fields (Obj.data_mapFields kd _)), (Obj.cls_mapFields ..).trans kc, by rw [Obj.data_mapFields kd]; simp [rawInt]⟩
theorem nextTup_end {it t : Addr} {i : Nat} {items : Array Value} {Q : Value → Shared → Prop} (hh : A.handled = none) (hi : s.heap.IsTupleIter it t i) (ht : s.heap.IsTuple t items) (hx : items[i]? = none)
  (q : ∀ (g : Heap) e, Heap.ExtBut it s.heap g → (∃ o, g.get? e = some o ∧ o.cls = .type "StopIteration") → E (.ref e) { s with heap := g }) : wpAny (model prog w) A (Builtin.SmallTypes.nextOf (.ref it)) Q E s := by
 obtain ⟨ob, hob, kc, kd⟩ := id hi; obtain ⟨ot, hot, _, nt, kt⟩ := ht; unfold Builtin.SmallTypes.nextOf
 refine wpAny_bind (wpAny_callSpecial?_slot (name := Str.ofString "__next__") hi.typeIs F.slot_tuple_iterator_next (wpAny_call_entry F.slot_tuple_iterator_next hi.typeIs F.entry_tuple_iterator_next ?_ (F.args_tuple_iterator_next_1 _)))
 show wpAny _ _ (field (.ref it) 0 >>= _) _ _ s; refine wpAny_bind (wpAny_field hob kd (x := .ref t) rfl ?_)
 show wpAny _ _ (if (Value.ref t == Value.none) = true then _ else _) _ _ s; rw [if_neg (show ¬ (Value.ref t == Value.none) = true from fun z => Bool.noConfusion (show false = true from z))]
 show wpAny _ _ (field (.ref it) 1 >>= _) _ _ s; refine wpAny_bind (wpAny_field hob kd (x := .int i 0) rfl ?_)
 show wpAny _ _ (seqItems? (.ref t) >>= _) _ _ s; refine wpAny_bind (wpAny_seqItems hot kt ?_); simp only [Int.toNat_natCast, hx]
 refine wpAny_bind (wpAny_rule (wpAny_bind (wpAny_setField hob kd (by simp) ?_))); show wpAny _ _ (newExc (.type "StopIteration") [] >>= _) _ _ _
 refine wpAny_bind ?_; simp only [newExc, newTuple]; refine wpAny_bind (wpAny_newObj_type ?_ (by size_fits))
 refine wpAny_bind (m := firstArgMember _ _) (wpAny_of_eq (a := Value.none) (by first | rfl | (simp only [firstArgMember]; rfl)) ?_); refine wpAny_newObj_type ?_ (by size_fits)
 simp only [raiseNew]; refine wpAny_bind (wpAny_handled ?_); first | rw [show A.in1.handled = none from hh] | rw [hh]
 refine wpAny_bind (wpAny_pure (wpAny_throw ?_)); exact q _ _ (((Heap.SameBut.update ..).extBut.push _).push _) ⟨_, Heap.get?_push_size _ rfl, rfl⟩
end
theorem drawsTup {prog : Program} {w : World} {A : Around} (hh : A.handled = none) (it t : Addr) (items : Array Value) (hne : t ≠ it) :
  Draws prog w A it [it, t] items.size (fun i v => items[i]? = some v) (fun i h => h.IsTupleIter it t i ∧ h.IsTuple t items) where
 live := fun i h st => by obtain ⟨⟨o, e, _⟩, _⟩ := st; exact ⟨o, e⟩
 frame := fun i h h' st k => ⟨st.1.at fun o e => k it (by simp) o e, by obtain ⟨o, e, r⟩ := st.2; exact ⟨o, k t (by simp) o e, r⟩⟩
 item := fun i s Q E hi st q => by
  refine nextTup_item st.1 st.2 (x := items[i]) (by simp [hi]) fun g hg sb => q _ g s.toks (by simp [hi]) ⟨hg, ?_⟩ sb
  obtain ⟨o, e, r⟩ := st.2
  exact ⟨o, (sb.2 t hne).trans e, r⟩
 done := fun s Q E st q => nextTup_end hh st.1 st.2 (by simp) q
theorem meets_enumTup (l : Addr) (items : Array Value) (n : Nat) (dct : Option Addr) (sl : Array (Option Value)) :
  Meets (Builtin.«enumerate.__new__» ⟨[.type "enumerate", .ref l], []⟩) (fun _ R s => s.heap.get? l = some { cls := .type "tuple", dict := dct, data := .seq items n, slots := sl } ∧
   R (.ok (.ret (.ref (s.heap.push { cls := .type "tuple_iterator", data := .fields #[.ref l, .int 0 0] }).objs.size)))
    { s with heap := (s.heap.push { cls := .type "tuple_iterator", data := .fields #[.ref l, .int 0 0] }).push { cls := .type "enumerate", data := .fields #[.none, .bool false, .ref s.heap.objs.size, rawInt 0, .none, .none] } }) :=
 .of_wp fun prog w A R s h => by
  obtain ⟨hp, g, d, tk, os⟩ := s
  obtain ⟨hl, h⟩ := h
  have hsub := sub_enumerate
  have hL : Heap.IsTuple (Shared.heap ⟨hp, g, d, tk, os⟩) l items := ⟨_, hl, rfl, n, rfl⟩
  wp_walk using AutoSeq1.wpAny_loadPart' hl
  refine wpAny_stack_any fun st => wpAny_pure ?_
  split
  ·rename_i c _ _ _ _ _
   cases (c == Value.type "enumerate") <;> (wp_walk using AutoSeq1.wpAny_loadPart' hl, wpAny_pyIter_tuple hL; exact ⟨_, rfl, h⟩)
  ·wp_walk using AutoSeq1.wpAny_loadPart' hl, wpAny_pyIter_tuple hL
   exact ⟨_, rfl, h⟩
section
variable {prog : Program} {w : World} {A : Around} {E : Value → Shared → Prop} {s : Shared}
theorem call_enumTup {l : Addr} {items : Array Value} {Q : Value → Shared → Prop} (hL : s.heap.IsTuple l items)
  (h : ∀ g : Heap, IsEnum g (s.heap.objs.size + 1) s.heap.objs.size 0 .none → g.IsTupleIter s.heap.objs.size l 0 → g.objs.size = s.heap.objs.size + 2 → (∀ b o, s.heap.get? b = some o → g.get? b = some o) → Q (.ref (s.heap.objs.size + 1)) { s with heap := g }) :
  wpAny (model prog w) A (call (.type "enumerate") [.ref l]) Q E s := by
 obtain ⟨⟨c, dct, dt, sl⟩, hl, hc, n, hd⟩ := hL
 cases hc
 cases hd
 refine callType_new F.called_enumerate (by decide) (F.typeCall_enumerate_1 _) (F.newCall_enumerate_1 _) (fun obj => F.args_object_init_2 obj _) F.entry_enumerate_new (meets_enumTup l items n dct sl) ⟨hl, ?_⟩
 have hz : (s.heap.push { cls := .type "tuple_iterator", data := .fields #[.ref l, .int 0 0] }).objs.size = s.heap.objs.size + 1 := Heap.size_push ..
 show _ ∧ _
 rw [hz]
 have g2 := Heap.get?_push_size (s.heap.push { cls := .type "tuple_iterator", data := .fields #[.ref l, .int 0 0] }) (o := { cls := .type "enumerate", data := .fields #[.none, .bool false, .ref s.heap.objs.size, rawInt 0, .none, .none] }) rfl
 rw [hz] at g2
 refine ⟨⟨_, g2, rfl⟩, h _ g2 ⟨_, Heap.get?_push_of_some _ (Heap.get?_push_size _ rfl), rfl, rfl⟩ (by rw [Heap.size_push, hz]) fun b o e => Heap.get?_push_of_some _ (Heap.get?_push_of_some _ e)⟩
end
def IteT (K : PySem.W.Frag) (a : Addr) (xs : List V) : It :=
 ⟨fun i H => i < xs.length, fun i H v H' => ∃ T x, v = .ref T ∧ H T = none ∧ H' = upd H T (.tup [.int (i : Nat), x]) ∧ xs[i]? = some x, fun i H => i = xs.length⟩
theorem kt_tuple {K : PySem.W.Frag} {a : Addr} {xs : List V} {h : Heap} (KX : K.In h) (k : KT K a xs) : ∃ its : List Value, Vals xs its ∧ h.IsTuple a its.toArray := by
 obtain ⟨o, its, n, hl, hc, hd, hz, hv⟩ := k
 exact ⟨its.toList, hv, o, KX a o hl, hc, n, by rw [hd]⟩
theorem turn_enumT {P : Program} {w : World} {K : PySem.W.Frag} {elts : List Expr} {kk : Nat} {tpos : Pos} (a e it : Addr) {xs : List V} (k : KT K a xs) :
  Turn P w K (.Tuple elts kk tpos) (IteT K a xs) [e, it] e (fun i h => (∃ old, IsEnum h e it ((i : Nat) : Int) old) ∧ h.IsTupleIter it a i ∧ e ≠ it) where
 mem := by simp
 obj := fun i h st b hb => by
  obtain ⟨⟨old, he⟩, ⟨o, ho, hc, hd⟩, _⟩ := st
  have e' : b = e ∨ b = it := by simpa using hb
  rcases e' with z | z
  ·rw [z]; exact ⟨_, he, fun v q => nomatch q⟩
  ·rw [z]; exact ⟨o, ho, fun v q => by rw [hd] at q; cases q⟩
 keep := fun i h h' st k => let ⟨⟨old, he⟩, hi, hne⟩ := st; ⟨⟨old, k e (by simp) _ he⟩, hi.at fun o q => k it (by simp) o q, hne⟩
 item := by
  intro X hP hw hK hc i pins s σ H E I hf st hg
  subst hP hw hK
  obtain ⟨⟨old, he⟩, hit, hne⟩ := st
  have hlt : i < xs.length := hg
  obtain ⟨its, rv, ht⟩ := kt_tuple I.kIn k
  have hlen := rv.length
  have hel : e < s.heap.objs.size := Heap.lt_size he
  have hil : it < s.heap.objs.size := by obtain ⟨_, q, _⟩ := hit; exact Heap.lt_size q
  have nea : e ≠ a := fun z => by
   obtain ⟨o, q, qc, _⟩ := ht
   rw [← z, he] at q
   cases q
   exact absurd (Value.type.inj qc) (by decide)
  have nia : it ≠ a := fun z => by
   obtain ⟨o, q, qc, _⟩ := ht
   obtain ⟨o2, q2, qc2, _⟩ := hit
   rw [z, q] at q2
   cases q2
   rw [qc] at qc2
   exact absurd (Value.type.inj qc2) (by decide)
  refine wpAny_pyNext_enum_itemD (drawsTup (A := X.A.in1) (I.ok.hd hc) it a its.toArray (Ne.symm nia)) he ⟨hit, ht⟩ (by simp; omega) hne (by simp [hne, nea]) fun u h' tk hu ho st' hT hsz hk => ?_
  obtain ⟨x, hx⟩ : ∃ x, xs[i]? = some x := ⟨xs[i], by simp [hlt]⟩
  obtain ⟨u', hu', ru'⟩ := rv.get hx
  have eu : u' = u := by
   have q : its[i]? = some u := by simpa using hu
   exact Option.some.inj (hu'.symm.trans q)
  subst eu
  refine ⟨_, rfl, wpAny_letOwnedTupleGo_enum (s := { s with heap := h', toks := tk + 1 }) ho fun h'' he' sb => ?_⟩
  have hT2 : h''.get? s.heap.objs.size = some { cls := .type "tuple", data := .seq #[.int i tk, u'] } := (sb.2 _ (Nat.ne_of_gt hel)).trans hT
  have new : ObjOk X.prog X.w (upd H s.heap.objs.size (.tup [.int (i : Nat), x])) h'' s.heap.objs.size (.tup [.int (i : Nat), x]) :=
   ⟨by show 2 ≤ sizeLine; decide, [.int i tk, u'], .cons ⟨_, rfl⟩ (.cons ru' .nil), ⟨_, hT2, rfl, _, rfl⟩⟩
  have I1 : Inv X pins σ (upd H s.heap.objs.size (.tup [.int (i : Nat), x])) { s with heap := h'', toks := tk + 1 } :=
   I.turnedNew (ch := [e, it]) (fun b ob hb q => (sb.2 b (fun z => hb (by simp [z]))).trans (hk b ob (fun z => hb (by simp [z])) (fun z => hb (by simp [z])) q)) hf (Nat.le_refl _) new
  refine ⟨.ref s.heap.objs.size, _, I1, rfl, ⟨_, x, rfl, I.hok.fresh (Nat.le_refl _), rfl, hx⟩, ⟨⟨u', ?_⟩, st'.1.at fun o q => (sb.2 it (Ne.symm hne)).trans q, hne⟩, fun b hb => ?_⟩
  ·have e1 : ((i + 1 : Nat) : Int) = (i : Int) + 1 := by omega
   rw [e1]; exact he'
  ·have hb' : b < s.heap.objs.size := by
    have e' : b = e ∨ b = it := by simpa using hb
    rcases e' with z | z
    ·rw [z]; exact hel
    ·rw [z]; exact hil
   rw [upd_ne (Nat.ne_of_lt hb')]
   exact (hf b hb).1
 done := by
  intro X hP hw hK hc i pins s σ H E I hf st hg
  subst hP hw hK
  obtain ⟨⟨old, he⟩, hit, hne⟩ := st
  have hge : i = xs.length := hg
  obtain ⟨its, rv, ht⟩ := kt_tuple I.kIn k
  obtain ⟨f0, f1, f2, f3, f4, f5⟩ := hf it (by simp)
  have hl := rv.length
  have nia : it ≠ a := fun z => by
   obtain ⟨o, q, qc, _⟩ := ht
   obtain ⟨o2, q2, qc2, _⟩ := hit
   rw [z, q] at q2
   cases q2
   rw [qc] at qc2
   exact absurd (Value.type.inj qc2) (by decide)
  have en : i = its.toArray.size := by simp; omega
  subst en
  exact wpAny_pyNext_enum_endD (drawsTup (A := X.A.in1) (I.ok.hd hc) it a its.toArray (Ne.symm nia)) he ⟨hit, ht⟩ fun h' eb => ⟨rfl, I.turned (t' := s.toks) (fun b o hb q => eb b o hb q) f0 f1 f3 f4 f5⟩
 self := fun A i s Q E st h => let ⟨⟨_, he⟩, _⟩ := st; wpAny_pyIter_enum he h
def iEnumT (K : PySem.W.Frag) (ta : TA) : TI := fun σ H R => ta σ H fun vs H1 => ∃ a xs, vs = [.ref a] ∧ KT K a xs ∧ R (IteT K a xs) H1
theorem pi_enumT {X : Cx} {e : Expr} {ta : TA} {p pos tpos : Pos} {elts : List Expr} {kk : Nat} (hg : Gl X "enumerate") (hm : X.mg "enumerate" = none) (ha : PA X [e] ta) (hs : starEach [e] X.env = [(false, eval e X.env)] := by rfl) :
  PI X (.Tuple elts kk tpos) (.Call (.Name "enumerate" p) [e] [] pos) (iEnumT X.K ta) := by
 intro pins s σ H R I h
 refine Call_ (ld_blt I hg hm boot_enumerate (PyProof.Rows.callWith_type1 (thn (ha pos pins s σ H _ I h) fun us s1 ⟨vs, H1, I1, r1, q1⟩ => ?_) hs rfl))
 obtain ⟨a, xs, ex, hq, q⟩ := q1
 subst ex
 cases r1 with
 | cons r rr =>
  cases rr
  cases r
  obtain ⟨its, rv, ht⟩ := kt_tuple I1.kIn hq
  refine call_enumTup ht fun h' he hit hsz hk => wpAny_pyIter_enum he ?_
  have I2 : Inv X pins σ H1 { s1 with heap := h' } := I1.kept (t' := s1.toks) hk
  refine ⟨s1.heap.objs.size + 1, [s1.heap.objs.size + 1, s1.heap.objs.size], _, _, H1, rfl, I2, turn_enumT a (s1.heap.objs.size + 1) s1.heap.objs.size hq, ⟨⟨.none, he⟩, hit, Nat.succ_ne_self _⟩, fun b hb => ?_, q⟩
  have e' : b = s1.heap.objs.size + 1 ∨ b = s1.heap.objs.size := by simpa using hb
  have hle : s1.heap.objs.size ≤ b := by
   rcases e' with z | z
   ·rw [z]; exact Nat.le_add_right _ _
   ·rw [z]; exact Nat.le_refl _
  exact I1.fpOk hle (I1.hok.fresh hle)
theorem for_enumT {K : PySem.W.Frag} {a : Addr} {xs : List V} {g : TG} {tb : TS} {D : Ends} {σ : L2.St} {H : Hp} (Pv : Nat → L2.St → Hp → Prop) (h0 : Pv 0 σ H)
  (hs : ∀ i x σ H T, xs[i]? = some x → Pv i σ H → H T = none → g (.ref T) σ (upd H T (.tup [.int (i : Nat), x])) fun σ2 H2 => tb { D with nx := Pv (i + 1), ct := Pv (i + 1), bk := D.nx } σ2 H2) (hd : ∀ σ H, Pv xs.length σ H → D.nx σ H) : forJ (IteT K a xs) g tb D σ H := by
 refine ⟨fun i m σ H => m = xs.length - i ∧ i ≤ xs.length ∧ Pv i σ H, ⟨xs.length, by simp, Nat.zero_le _, h0⟩, ?_⟩
 rintro i m σ H ⟨rfl, hi, p⟩
 by_cases hlt : i < xs.length
 ·refine .inr ⟨hlt, Pv (i + 1), fun σ' H' p' => ⟨xs.length - (i + 1), by omega, rfl, hlt, p'⟩, fun x H' y => ?_⟩
  obtain ⟨T, z, rfl, hT, rfl, hz⟩ := y
  exact hs i z σ H T hz p hT
 ·have e : i = xs.length := by omega
  subst e
  exact .inl ⟨rfl, hd σ H p⟩
theorem ap_iEnumT {K : PySem.W.Frag} {tr : TA} {σ : L2.St} {H : Hp} {R : It → Hp → Prop} : iEnumT K tr σ H R = tr σ H fun vs H1 => ∃ a xs, vs = [.ref a] ∧ KT K a xs ∧ R (IteT K a xs) H1 := rfl
abbrev NK := List (Option (List Int))
section
variable {prog : Program} {w : World}
def NItem (prog : Program) (w : World) (h : Heap) : Option (List Int) → Value → Prop
 | none, v => v = .none
 | some ks, v => ∃ a, v = .ref a ∧ IsTupleKey (intKind prog w) h ks a
inductive NItems (prog : Program) (w : World) (h : Heap) : NK → List Value → Prop
 | nil : NItems prog w h [] []
 | cons {k : Option (List Int)} {v : Value} {ks : NK} {vs : List Value} : NItem prog w h k v → NItems prog w h ks vs → NItems prog w h (k :: ks) (v :: vs)
def IsNKey (prog : Program) (w : World) (h : Heap) (ks : NK) (a : Addr) : Prop := ∃ o items n, h.get? a = some o ∧ o.cls = .type "tuple" ∧ o.data = .seq items n ∧ NItems prog w h ks items.toList
def nHash (prog : Program) (w : World) : Option (List Int) → Int
 | none => PySem.W.hashW w.params .none
 | some ks => tupleKeyHash (intKind prog w) ks
def nDraws : Option (List Int) → Nat
 | none => 1
 | some ks => ks.length + 1
theorem NItem.inj {h : Heap} {v : Value} {x y : Option (List Int)} (hx : NItem prog w h x v) (hy : NItem prog w h y v) : x = y := by
 cases x with
 | none =>
  cases y with
  | none => rfl
  | some b => obtain ⟨a, e, _⟩ := hy; rw [show v = Value.none from hx] at e; cases e
 | some a =>
  obtain ⟨c, rfl, kc⟩ := hx
  cases y with
  | none => cases (show Value.ref c = Value.none from hy)
  | some b =>
   obtain ⟨d, e, kd⟩ := hy
   cases e
   rw [kc.inj kd]
theorem NItems.inj {h : Heap} {x y : NK} {vs : List Value} (hx : NItems prog w h x vs) (hy : NItems prog w h y vs) : x = y := by
 induction hx generalizing y with
 | nil => cases hy; rfl
 | cons h1 _ ih =>
  cases hy with
  | cons h2 t2 => rw [h1.inj h2, ih t2]
theorem NItem.at {h h' : Heap} {k : Option (List Int)} {v : Value} (x : NItem prog w h k v) (hk : ∀ b o its n, h.get? b = some o → o.data = .seq its n → h'.get? b = some o) : NItem prog w h' k v := by
 cases k with
 | none => exact x
 | some ks =>
  obtain ⟨a, rfl, o, its, n, e, c, d, r⟩ := x
  exact ⟨a, rfl, o, its, n, hk a o its n e d, c, d, r⟩
theorem NItems.at {h h' : Heap} {ks : NK} {vs : List Value} (x : NItems prog w h ks vs) (hk : ∀ b o its n, h.get? b = some o → o.data = .seq its n → h'.get? b = some o) : NItems prog w h' ks vs := by
 induction x with
 | nil => exact .nil
 | cons h1 _ ih => exact .cons (h1.at hk) ih
theorem IsNKey.at {h h' : Heap} {ks : NK} {a : Addr} (x : IsNKey prog w h ks a) (hk : ∀ b o its n, h.get? b = some o → o.data = .seq its n → h'.get? b = some o) : IsNKey prog w h' ks a := by
 obtain ⟨o, its, n, e, c, d, r⟩ := x
 exact ⟨o, its, n, hk a o its n e d, c, d, r.at hk⟩
theorem IsNKey.inj {h : Heap} {a : Addr} {x y : NK} (hx : IsNKey prog w h x a) (hy : IsNKey prog w h y a) : x = y := by
 obtain ⟨o, its, n, e, _, d, r⟩ := hx
 obtain ⟨o', its', n', e', _, d', r'⟩ := hy
 obtain rfl : o = o' := Option.some.inj (e.symm.trans e')
 rw [d] at d'
 injection d' with q _
 subst q
 exact r.inj r'
variable {A : Around} {E : Value → Shared → Prop} {s : Shared}
theorem hash_item {k : Option (List Int)} {v : Value} {Q : Int → Shared → Prop} (hu : A.units < cLine) (x : NItem prog w s.heap k v) (h : Q (nHash prog w k) { s with toks := s.toks + nDraws k }) : wpAny (model prog w) A (pyHash v) Q E s := by
 cases k with
 | none =>
  cases (show v = Value.none from x)
  exact PySem.W.pyHash_slot (T := "NoneType") rfl F.slot_NoneType_hash F.entry_NoneType_hash (F.args_NoneType_hash_1 _) (beq_builtin_none _) (.inr hu) (wpAny_bind (wpAny_pure (wpAny_bind (wpAny_mkInt (wpAny_pure ⟨_, _, rfl, h⟩)))))
 | some ks =>
  obtain ⟨a, rfl, ka⟩ := x
  exact wpAny_pyHash_tuple hu ka h
def nkDraws (ks : NK) : Nat := (ks.map nDraws).sum + 1
def nkHash (prog : Program) (w : World) (ks : NK) : Int := reduceHash (Builtin.Tuple.tupleHashOf (ks.map (nHash prog w)))
theorem hash_key {ks : NK} {a : Addr} {Q : Int → Shared → Prop} (hu : A.units + 1 < cLine) (x : IsNKey prog w s.heap ks a) (h : Q (nkHash prog w ks) { s with toks := s.toks + nkDraws ks }) : wpAny (model prog w) A (pyHash (.ref a)) Q E s := by
 obtain ⟨o, its, n, e, c, d, r⟩ := x
 refine PySem.W.pyHash_slot (T := "tuple") ⟨o, e, c⟩ F.slot_tuple_hash F.entry_tuple_hash (F.args_tuple_hash_1 _) (beq_builtin_none _) (.inr (by omega)) ?_
 show wpAny _ _ (Builtin.Tuple.tupleItemsOf (.ref a) >>= _) _ _ s
 refine wpAny_bind (wpAny_tupleItemsOf e d (wpAny_bind ?_))
 rw [← Array.forIn_toList]
 refine wpAny_forIn_list _ (fun rest (b : Array Int) s' => ∃ done left, ks = done ++ left ∧ NItems prog w s.heap left rest ∧ b.toList = done.map (nHash prog w) ∧ s' = { s with toks := s.toks + (done.map nDraws).sum }) _ ?_ ?_ _ _ ⟨[], ks, rfl, r, rfl, rfl⟩
 ·rintro v rest b s' ⟨done, left, rfl, hl, hb, rfl⟩
  cases hl with
  | @cons k _ ks' _ h1 hl' =>
   refine wpAny_bind (hash_item (show A.in1.units < cLine by simp only [Around.in1_units]; omega) (by exact h1) ?_)
   first
    | exact wpAny_pure ⟨done ++ [k], ks', by simp, hl', by simp [hb], by simp [Nat.add_assoc]⟩
    | exact wpAny_bind (wpAny_pure (wpAny_pure ⟨done ++ [k], ks', by simp, hl', by simp [hb], by simp [Nat.add_assoc]⟩))
 ·rintro b s' ⟨done, left, rfl, hl, hb, rfl⟩
  cases hl
  rw [List.append_nil] at h
  show wpAny _ _ (retInt (Builtin.Tuple.tupleHashOf b.toList)) _ _ _
  rw [hb]
  refine wpAny_bind (wpAny_mkInt (wpAny_pure ⟨_, _, rfl, ?_⟩))
  simpa [nkHash, nkDraws, Nat.add_assoc] using h
def nData : Option (List Int) → PyData
 | none => .none
 | some ks => .tuple (ks.map PyData.int)
theorem ints_reads {h : Heap} : ∀ {ks : List Int} {vs : List Value}, ItemsAre (intKind prog w) ks vs → ∃ as, ReadsAll h vs (ks.map PyData.int) as
 | _, _, .nil => ⟨_, ReadsAll.nil⟩
 | _, _, .cons (k := k) (v := v) h1 r => by
  obtain ⟨as, q⟩ := ints_reads (h := h) r
  obtain ⟨t, rfl⟩ := Value.isInt_shape (k := k) (v := v) h1
  exact ⟨_, ReadsAll.cons (Reads.int k t) q⟩
theorem item_reads {h : Heap} {k : Option (List Int)} {v : Value} (x : NItem prog w h k v) : ∃ as, Reads h v (nData k) as := by
 cases k with
 | none => cases (show v = Value.none from x); exact ⟨_, Reads.none⟩
 | some ks =>
  obtain ⟨a, rfl, o, its, n, e, c, d, r⟩ := x
  obtain ⟨as, q⟩ := ints_reads (h := h) r
  exact ⟨_, Reads.tuple e c d q⟩
theorem items_reads {h : Heap} {ks : NK} {vs : List Value} (x : NItems prog w h ks vs) : ∃ as, ReadsAll h vs (ks.map nData) as := by
 induction x with
 | nil => exact ⟨_, ReadsAll.nil⟩
 | cons h1 _ ih =>
  obtain ⟨as, q⟩ := item_reads h1
  obtain ⟨bs, q2⟩ := ih
  exact ⟨_, ReadsAll.cons q q2⟩
theorem key_reads {h : Heap} {ks : NK} {a : Addr} (x : IsNKey prog w h ks a) : ∃ as, Reads h (.ref a) (.tuple (ks.map nData)) as := by
 obtain ⟨o, its, n, e, c, d, r⟩ := x
 obtain ⟨as, q⟩ := items_reads r
 exact ⟨_, Reads.tuple e c d q⟩
theorem ints_eqv : ∀ x y : List Int, PyData.eqvAll (x.map PyData.int) (y.map PyData.int) = decide (x = y)
 | [], [] => by simp [PyData.eqvAll]
 | [], _ :: _ => by simp [PyData.eqvAll]
 | _ :: _, [] => by simp [PyData.eqvAll]
 | a :: x, b :: y => by
  simp only [List.map_cons, PyData.eqvAll, PyData.eqv, ints_eqv x y]
  rw [Bool.eq_iff_iff]
  simp
theorem item_eqv (x y : Option (List Int)) : (nData x).eqv (nData y) = decide (x = y) := by
 cases x <;> cases y <;> simp [nData, PyData.eqv, ints_eqv]
theorem nk_eqv : ∀ x y : NK, PyData.eqvAll (x.map nData) (y.map nData) = decide (x = y)
 | [], [] => by simp [PyData.eqvAll]
 | [], _ :: _ => by simp [PyData.eqvAll]
 | _ :: _, [] => by simp [PyData.eqvAll]
 | a :: x, b :: y => by
  simp only [List.map_cons, PyData.eqvAll, item_eqv, nk_eqv x y]
  rw [Bool.eq_iff_iff]
  simp
theorem ints_lay : ∀ x : List Int, PyData.canLayAll0 (x.map PyData.int) = true
 | [] => by simp [PyData.canLayAll0]
 | a :: x => by simp [PyData.canLayAll0, PyData.canLay0, ints_lay x]
theorem ints_depth : ∀ x : List Int, PyData.depthAll (x.map PyData.int) = 0
 | [] => by simp [PyData.depthAll]
 | a :: x => by simp [PyData.depthAll, PyData.depth, ints_depth x]
theorem nk_lay : ∀ x : NK, PyData.canLayAll0 (x.map nData) = true
 | [] => by simp [PyData.canLayAll0]
 | none :: x => by simp [PyData.canLayAll0, PyData.canLay0, nData, nk_lay x]
 | some k :: x => by simp [PyData.canLayAll0, PyData.canLay0, nData, nk_lay x, ints_lay]
theorem nk_depth : ∀ x : NK, PyData.depthAll (x.map nData) ≤ 1
 | [] => by simp [PyData.depthAll]
 | none :: x => by
  have := nk_depth x
  simp [PyData.depthAll, PyData.depth, nData]
  exact this
 | some k :: x => by
  have := nk_depth x
  simp [PyData.depthAll, PyData.depth, nData, ints_depth]
  omega
theorem eq_key {x y : NK} {a b : Addr} {Q : Bool → Shared → Prop} (hu : A.units + 3 < cLine) (hx : IsNKey prog w s.heap x a) (hy : IsNKey prog w s.heap y b) (h : Q (decide (x = y)) s) : wpAny (model prog w) A (eqBool (.ref a) (.ref b)) Q E s := by
 obtain ⟨as, ra⟩ := key_reads hx
 obtain ⟨bs, rb⟩ := key_reads hy
 have d1 : (PyData.tuple (x.map nData)).depth ≤ 2 := by
  have := nk_depth x
  simp only [PyData.depth]
  omega
 have d2 : min (PyData.tuple (x.map nData)).depth (PyData.tuple (y.map nData)).depth ≤ (PyData.tuple (x.map nData)).depth := Nat.min_le_left _ _
 have q := SeqAt.eqAt_reads _ _ A s _ _ as bs ra rb (by simp only [PyData.canLay0]; exact nk_lay x) (by simp only [PyData.canLay0]; exact nk_lay y) (by omega)
 refine q prog w E Q ?_
 have e : (PyData.tuple (x.map nData)).eqv (.tuple (y.map nData)) = decide (x = y) := by
  rw [PyData.eqv]
  exact nk_eqv x y
 rw [e]
 exact h
theorem quiet_tup {m : Nat} {a : Addr} {o : Obj} {its : Array Value} {n : Nat} {Q : Bool → Shared → Prop} (e : s.heap.get? a = some o) (c : o.cls = .type "tuple") (d : o.data = .seq its n)
  (hall : ∀ v ∈ its.toList, ∀ R : Bool → Shared → Prop, R true s → wpAny (model prog w) A (eqIsQuiet m v) R E s) (h : Q true s) : wpAny (model prog w) A (eqIsQuiet (m + 1) (.ref a)) Q E s := by
 have hT : s.TypeIs (.ref a) "tuple" := ⟨o, e, c⟩
 unfold eqIsQuiet
 refine wpAny_bind (wpAny_specialOf hT F.slot_tuple_eq.lookup ?_)
 show wpAny _ _ (isInstance (.ref a) (.type "tuple") >>= _) _ _ s
 refine wpAny_bind (wpAny_isInstance hT isSubtype_tuple_tuple ?_)
 simp only [Bool.not_true, Bool.false_eq_true, if_false]
 refine wpAny_bind (wpAny_seqItems e d (wpAny_bind ?_))
 show wpAny _ _ (forIn its _ _) _ _ s
 rw [← Array.forIn_toList]
 refine wpAny_forIn_list _ (fun rest r s' => r.1 = none ∧ s' = s ∧ ∀ v ∈ rest, v ∈ its.toList) _ ?_ ?_ _ _ ⟨rfl, rfl, fun _ q => q⟩
 ·rintro v rest r s' ⟨hr, rfl, hin⟩
  refine wpAny_bind (hall v (hin v List.mem_cons_self) _ ?_)
  simp only [Bool.not_true, Bool.false_eq_true, if_false]
  exact wpAny_pure ⟨rfl, rfl, fun u hu' => hin u (List.mem_cons_of_mem _ hu')⟩
 ·rintro ⟨r1, r2⟩ s' ⟨hr, rfl, _⟩
  simp only at hr
  subst hr
  exact wpAny_pure h
theorem quiet_key {ks : NK} {a : Addr} {Q : Bool → Shared → Prop} (x : IsNKey prog w s.heap ks a) (h : Q true s) : wpAny (model prog w) A (eqIsQuiet 8 (.ref a)) Q E s := by
 obtain ⟨o, its, n, e, c, d, r⟩ := x
 refine quiet_tup e c d (fun v hv R hR => ?_) h
 have key : ∀ {ks : NK} {vs : List Value}, NItems prog w s.heap ks vs → ∀ v ∈ vs, ∃ k, NItem prog w s.heap k v := by
  intro ks vs x
  induction x with
  | nil => intro v hv; cases hv
  | cons h1 _ ih =>
   intro v hv
   rcases List.mem_cons.mp hv with rfl | hv
   ·exact ⟨_, h1⟩
   ·exact ih v hv
 obtain ⟨k, hk⟩ := key r v hv
 cases k with
 | none =>
  cases (show v = Value.none from hk)
  rw [eqIsQuiet_byValue 7 rfl]
  exact wpAny_pure hR
 | some q =>
  obtain ⟨b, rfl, o2, its2, n2, e2, c2, d2, r2⟩ := hk
  refine quiet_tup e2 c2 d2 (fun u hu R2 hR2 => ?_) hR
  rw [eqIsQuiet_byValue 6 (r2.byValue u hu)]
  exact wpAny_pure hR2
end
def nestKind (prog : Program) (w : World) : HeapKind prog w NK where
 is := IsNKey prog w
 hash := nkHash prog w
 draws := nkDraws
 room := fun A => A.units + 3 < cLine
 inj := fun hx hy => hx.inj hy
 keeps := fun {h h' k a d o es ep} x ho hd hs => x.at fun b q its n e dq => by
  have hne : b ≠ d := by
   intro z
   subst z
   rw [ho] at e
   cases e
   rw [hd] at dq
   cases dq
  exact (hs.2 b hne).trans e
 pyHash := fun hu hk h => hash_key (by omega) hk h
 eqBool := fun hu hx hy h => eq_key hu hx hy h
 quiet := fun hk h => quiet_key hk h
def td (t : Vaflxm.Text) : List PyData := t.map fun c => PyData.int (c.toNat : Nat)
theorem td_dp {K : PySem.W.Frag} {H : Hp} : ∀ t : Vaflxm.Text, DpAll K H (tv t) (td t)
 | [] => .nil
 | c :: r => .cons (.int _) (td_dp r)
theorem td_eqv : ∀ t u : Vaflxm.Text, PyData.eqvAll (td t) (td u) = decide (t = u)
 | [], [] => by simp [td, PyData.eqvAll]
 | [], _ :: _ => by simp [td, PyData.eqvAll]
 | _ :: _, [] => by simp [td, PyData.eqvAll]
 | c :: r, d :: s => by
  have ih := td_eqv r s
  unfold td at ih ⊢
  simp only [List.map_cons, PyData.eqvAll, PyData.eqv, ih]
  rw [Bool.eq_iff_iff]
  have e : (((c.toNat : Nat) : Int) = ((d.toNat : Nat) : Int)) ↔ c = d := by rw [← UInt8.toNat_inj]; omega
  simp only [Bool.and_eq_true, beq_iff_eq, decide_eq_true_eq, List.cons.injEq, e]
theorem td_lay : ∀ t : Vaflxm.Text, PyData.canLayAll0 (td t) = true
 | [] => by simp [td, PyData.canLayAll0]
 | c :: r => by
  have ih := td_lay r
  unfold td at ih ⊢
  simp [PyData.canLayAll0, PyData.canLay0, ih]
theorem td_depth : ∀ t : Vaflxm.Text, PyData.depthAll (td t) = 0
 | [] => by simp [td, PyData.depthAll]
 | c :: r => by
  have ih := td_depth r
  unfold td at ih ⊢
  simp [PyData.depthAll, PyData.depth, ih]
theorem td_shaped (t : Vaflxm.Text) : SeqAt.shaped (.list (td t)) = true := by
 unfold SeqAt.shaped PyData.canLay0 PyData.depth
 rw [td_lay, td_depth]
 rfl
theorem td_list {K : PySem.W.Frag} {H : Hp} {a : Addr} {t : Vaflxm.Text} (h : SqL K H a (tv t)) : Dp K H (.ref a) (.list (td t)) := .lst h (td_dp t)
section
variable {P : Program} {w : World} {K : PySem.W.Frag} {mg : Str → Option Value} {base : Heap}
def sp_number_value : Sp := fun vs H Q _ => ∃ (n : Int) (s : Nat), vs = [.int n, .int s] ∧ NewT H [.int 0, .int (Vaflxm.lowest s n s).1, .int ((Vaflxm.lowest s n s).2 : Nat)] Q
abbrev s_number_value : Stmt := top 47
theorem sc_number_value : FnScope ["n", "s"] ["n", "s"] (defScope s_number_value) := by walk_at "N"
theorem ok_number_value (T : Txt K mg) (D : Def K mg "number_value" s_number_value ["n", "s"]) : Ok P w K mg base 1 "number_value" ["n", "s"] sp_number_value := by
 refine D.ok sc_number_value (fun vs H Q E h => ?_) (fun f cdv A outer s H vs Q E hr h => ?_)
 ·obtain ⟨y, m, rfl, _⟩ := h
  rfl
 ·obtain ⟨n, s, rfl, k⟩ := h
  refine ⟨_, (pss_cons (ps_while PassesOwn.never (pw_and (pt_cmpR op_gt (pv 1) pe_int (nomark _)) (pw_and1 (pt_cmpR op_eq (pe_op op_mod (pv 0) pe_int) pe_int (nomark _)))).pt (pss_cons (ps_set (i := 0) sc_number_value.nd rfl (Or.inl rfl) (pe_op op_fdiv (pv 0) pe_int))
   (pss_one (ps_set (i := 1) sc_number_value.nd rfl (Or.inl rfl) (pe_op op_sub (pv 1) pe_int)))))
   (pss_one (ps_ret (pe_tup (pa_cons (pe_ci T.NUMBER_KIND (by rfl)) (pa_cons (pv 0) (pa_cons (pv 1) pa_nil))))))), ?_⟩
  walk_at "S"
  refine while_of (fun σ H' => H' = H ∧ ∃ (m : Int) (r : Nat), σ = [some (.int m), some (.int r)] ∧ Vaflxm.lowest r m r = Vaflxm.lowest s n s) (fun σ _ => match σ with | [_, some (.int r)] => r.toNat | _ => 0) ⟨rfl, n, s, rfl, rfl⟩ ?_
  rintro σ H' ⟨rfl, m, r, rfl, e⟩
  walk_at "S"
  split
  ·rename_i hs
   refine ⟨by decide, ?_⟩
   split
   ·rename_i hm
    refine ⟨fun σ' H'' => H'' = H' ∧ σ' = [some (.int (m / 10)), some (.int ((r : Int) - 1))], ?_, by decide, by decide, rfl, rfl⟩
    rintro σ' H'' ⟨rfl, rfl⟩
    refine ⟨_, ?_, rfl, rfl, m / 10, r - 1, ?_, ?_⟩
    ·show ((r : Int) - 1).toNat < (r : Int).toNat
     omega
    ·rw [show ((r - 1 : Nat) : Int) = (r : Int) - 1 by omega]
    ·rw [← e]
     obtain ⟨q, rfl⟩ : ∃ q, r = q + 1 := ⟨r - 1, by omega⟩
     rw [Tm.lowest_go q m (q + 1) ⟨by omega, hm⟩, Nat.add_sub_cancel]
   ·rename_i hm
    refine ⟨by show 3 ≤ sizeLine; decide, fun p hp => ?_⟩
    have e2 := Tm.lowest_stop r m r (fun z => hm z.2)
    rw [← e, e2] at k
    exact k p _ (same_new hp) hp upd_same
  ·rename_i hs
   refine ⟨by show 3 ≤ sizeLine; decide, fun p hp => ?_⟩
   have e2 := Tm.lowest_stop r m r (fun z => hs (by omega))
   rw [← e, e2] at k
   exact k p _ (same_new hp) hp upd_same
def sp_grouped : Sp := fun vs H Q _ => ∃ (a : Addr) (t : Vaflxm.Text) (g : UInt8), vs = [.ref a, .int (g.toNat : Nat)] ∧ H a = some (.lst (tv t)) ∧ t.length ≤ 10000 ∧
 ∀ p H', Same H H' → H' p = some (.lst (tv (Vaflxm.grouped g t))) → Q (.ref p) H'
abbrev s_grouped : Stmt := top 48
theorem sc_grouped : FnScope ["digits", "group", "text", "place", "digit"] ["digits", "group"] (defScope s_grouped) := by walk_at "N"
theorem ok_grouped (T : Txt K mg) (D : Def K mg "grouped" s_grouped ["digits", "group"]) : Ok P w K mg base 1 "grouped" ["digits", "group"] sp_grouped := by
 refine D.ok sc_grouped (fun vs H Q E h => ?_) (fun f cdv A outer s H vs Q E hr h => ?_)
 ·obtain ⟨y, m, g, rfl, _⟩ := h
  rfl
 ·obtain ⟨a, t, g, rfl, ha, hz, k⟩ := h
  refine ⟨_, (pss_cons (ps_if (pt_cmpR op_eq (pv 1) pe_int (nomark _)) (pss_one (ps_ret (pv 0))) pss_nil)
   (pss_cons (ps_set (i := 2) sc_grouped.nd rfl (Or.inl rfl) (pe_lst pa_nil))
   (pss_cons (ps_for PassesOwn.never rfl (pi_enum (by rfl) T.n_enumerate (pa_cons (pv 0) pa_nil)) (pg_tup (n := 2) rfl (pgs_cons (pg_name (i := 3) sc_grouped.nd rfl (Or.inl rfl)) (pgs_cons (pg_name (i := 4) sc_grouped.nd rfl (Or.inl rfl)) pgs_nil))) (pss_cons (ps_if (pw_and (pt_cmpR op_gt (pv 3) pe_int (nomark _)) (pw_and1 (pt_cmpR op_eq (pe_op op_mod (pe_op op_sub (pe_callB call_len_seq (by rfl) T.n_len boot_len (pa_cons (pv 0) pa_nil)) (pv 3)) pe_int) pe_int (nomark _)))).pt (pss_one (ps_expr (pe_bm PySem.F.plainAttrs_list PySem.F.slot_list_append PySem.F.type_list_append mt_append (pv 2) (pa_cons (pv 1) pa_nil)))) pss_nil)
   (pss_one (ps_expr (pe_bm PySem.F.plainAttrs_list PySem.F.slot_list_append PySem.F.type_list_append mt_append (pv 2) (pa_cons (pv 4) pa_nil))))))
   (pss_one (ps_ret (pv 2)))))), ?_⟩
  walk_at "S"
  split
  ·rename_i hg
   have : g = 0 := by
    rw [← UInt8.toNat_inj]
    show g.toNat = 0
    omega
   subst this
   rw [Tm.grouped_zero] at k
   exact k a H (Same.refl H) ha
  ·rename_i hg
   have hg0 : ¬ g = 0 := fun z => hg (by rw [z]; rfl)
   refine ⟨Nat.zero_le _, fun p hp => ?_⟩
   have nap : a ≠ p := ne_of_none ha hp
   obtain ⟨Pv, hPv⟩ : ∃ Pv : Nat → L2.St → Hp → Prop, Pv = fun i σ H' => ∃ v3 v4, σ = [some (.ref a), some (.int (g.toNat : Nat)), some (.ref p), v3, v4] ∧ Same H H' ∧
    ∃ out : Vaflxm.Text, H' p = some (.lst (tv out)) ∧ out.length ≤ 2 * i ∧ out ++ (Tm.pend g t.length i ++ Vaflxm.grouped g (t.drop i)) = Vaflxm.grouped g t := ⟨_, rfl⟩
   refine ⟨⟨_, sqL_of ((same_new hp) _ _ ha)⟩, for_enum (xs := tv t) Pv ?_ ?_ ?_ ?_⟩
   ·rw [hPv]
    exact ⟨none, none, rfl, same_new hp, [], upd_same, by simp, by simp [Tm.pend]⟩
   ·intro i σ H' _ h
    rw [hPv] at h
    obtain ⟨v3, v4, rfl, hs, _⟩ := h
    exact sqL_of (hs _ _ ha)
   ·intro i x σ H' T hx h hT
    rw [hPv] at h
    obtain ⟨v3, v4, rfl, hs, out, ho, hol, he⟩ := h
    have hi : i < t.length := by
     have := (List.getElem?_eq_some_iff.mp hx).1
     simpa [tv] using this
    have ex : x = .int ((t[i].toNat : Nat) : Int) := by
     have : (tv t)[i]? = some (.int ((t[i].toNat : Nat) : Int)) := by simp [tv, List.getElem?_eq_getElem hi]
     exact Option.some.inj (hx.symm.trans this)
    subst ex
    have hst := Tm.pend_step hg0 t i hi
    have npT : p ≠ T := ne_of_none ho hT
    have hs2 : Same H (upd H' T (.tup [.int (i : Nat), .int ((t[i].toNat : Nat) : Int)])) := hs.trans (same_new hT)
    have hs9 := sizeLine_eq
    have ho2 : upd H' T (.tup [.int (i : Nat), .int ((t[i].toNat : Nat) : Int)]) p = some (.lst (tv out)) := by rw [upd_ne npT]; exact ho
    generalize hH2 : upd H' T (.tup [.int (i : Nat), .int ((t[i].toNat : Nat) : Int)]) = H2 at hs2 ho2
    have hT2 : H2 T = some (.tup [.int (i : Nat), .int ((t[i].toNat : Nat) : Int)]) := by rw [← hH2]; exact upd_same
    have fin : ∀ (o2 : Vaflxm.Text) (H3 : Hp) (v3' v4' : Option V), o2 = out ++ (if 0 < i ∧ (t.length - i) % 3 = 0 then [g] else []) → Same H H3 → H3 p = some (.lst (tv o2)) →
      Pv (i + 1) [some (V.ref a), some (V.int (g.toNat : Nat)), some (V.ref p), v3', v4'] (upd H3 p (.lst (tv o2 ++ [.int ((t[i].toNat : Nat) : Int)]))) := by
     intro o2 H3 v3' v4' e2 h3 h3p
     rw [hPv]
     refine ⟨_, _, rfl, h3.put hp, o2 ++ [t[i]], ?_, ?_, ?_⟩
     ·rw [upd_same]; simp [tv]
     ·rw [e2]
      simp only [List.length_append, List.length_cons, List.length_nil]
      split <;> simp <;> omega
     ·rw [← he, hst, e2]
      simp only [List.append_assoc]
    walk_at "S"
    refine ⟨_, sqT_of hT2, rfl, _, _, rfl, _, _, rfl, rfl, _, rfl, ?_⟩
    have ha2 : SqL K H2 a (tv t) := sqL_of (hs2 _ _ ha)
    have lt : (tv t).length = t.length := by simp [tv]
    have lo : (tv out).length = out.length := by simp [tv]
    split
    ·rename_i hi0
     refine ⟨_, .inl ha2, _, rfl, by decide, ?_⟩
     rw [lt]
     split
     ·rename_i h3
      refine ⟨tyL_of (sqL_of ho2), _, ho2, by omega, tyL_of (sqL_of upd_same), _, upd_same, by simp; omega, ?_⟩
      have q := fin (out ++ [g]) (upd H2 p (.lst (tv (out ++ [g])))) (some (.int (i : Nat))) (some (.int ((t[i].toNat : Nat) : Int))) (by rw [if_pos ⟨by omega, by omega⟩]) (hs2.put hp) upd_same
      have e7 : tv (out ++ [g]) = tv out ++ [.int (g.toNat : Nat)] := by simp [tv]
      rw [e7] at q
      exact q
     ·rename_i h3
      refine ⟨tyL_of (sqL_of ho2), _, ho2, by omega, ?_⟩
      exact fin out H2 _ _ (by rw [if_neg (by omega), List.append_nil]) hs2 ho2
    ·rename_i hi0
     refine ⟨tyL_of (sqL_of ho2), _, ho2, by omega, ?_⟩
     exact fin out H2 _ _ (by rw [if_neg (by omega), List.append_nil]) hs2 ho2
   ·intro σ H' h
    rw [hPv] at h
    obtain ⟨v3, v4, rfl, hs, out, ho, hol, he⟩ := h
    walk_at "S"
    have e9 : (tv t).length = t.length := by simp [tv]
    rw [e9, List.drop_length, Tm.grouped_nil, List.append_nil] at he
    have e8 : Tm.pend g t.length t.length = [] := by
     unfold Tm.pend
     rw [if_neg (by omega)]
    rw [e8, List.append_nil] at he
    rw [he] at ho
    exact k p H' hs ho
end
def vv (v : Vaflxm.Value) : List V := (Vaflxm.valueNumbers v).map V.int
def ResT (H : Hp) (o : Option Vaflxm.Text) (Q : VK) : Prop := match o with
 | none => ∀ H', Same H H' → Q .non H'
 | some t => NewL H (tv t) Q
def ResV (H : Hp) (o : Option Vaflxm.Value) (Q : VK) : Prop := match o with
 | none => ∀ H', Same H H' → Q .non H'
 | some v => NewT H (vv v) Q
def okV : Vaflxm.Value → Prop
 | .number n s => n.natAbs < 10 ^ 40 ∧ s ≤ 9
 | .date y m d => Vaflxm.isDate y m d = true
def wfN (f : Vaflxm.NumForm) : Prop := 1 ≤ f.width ∧ f.width ≤ 6 ∧ f.decimals ≤ 4
def nfF (f : Vaflxm.NumForm) : List (Str × V) := putF "mark" (.int (f.mark.toNat : Nat)) (putF "decimals" (.int f.decimals) (putF "group" (.int (f.group.toNat : Nat)) (putF "width" (.int f.width) [])))
def NumAt (C : Addr) (H : Hp) (a : Addr) (f : Vaflxm.NumForm) : Prop := ∃ dx, H a = some (.ins C dx (nfF f))
theorem nf_width (f : Vaflxm.NumForm) : (nfF f).lookup ("width" : Str) = some (V.int f.width) := by
 unfold nfF
 rw [lookup_putF, if_neg (by decide +kernel), lookup_putF, if_neg (by decide +kernel), lookup_putF, if_neg (by decide +kernel), lookup_putF, if_pos rfl]
theorem nf_group (f : Vaflxm.NumForm) : (nfF f).lookup ("group" : Str) = some (V.int (f.group.toNat : Nat)) := by
 unfold nfF
 rw [lookup_putF, if_neg (by decide +kernel), lookup_putF, if_neg (by decide +kernel), lookup_putF, if_pos rfl]
theorem nf_decimals (f : Vaflxm.NumForm) : (nfF f).lookup ("decimals" : Str) = some (V.int f.decimals) := by
 unfold nfF
 rw [lookup_putF, if_neg (by decide +kernel), lookup_putF, if_pos rfl]
theorem nf_mark (f : Vaflxm.NumForm) : (nfF f).lookup ("mark" : Str) = some (V.int (f.mark.toNat : Nat)) := by
 unfold nfF
 rw [lookup_putF, if_pos rfl]
theorem nf_no (f : Vaflxm.NumForm) {m : Str} (h1 : ¬ m = "mark") (h2 : ¬ m = "decimals") (h3 : ¬ m = "group") (h4 : ¬ m = "width") : (nfF f).lookup m = none := by
 unfold nfF
 rw [lookup_putF, if_neg h1, lookup_putF, if_neg h2, lookup_putF, if_neg h3, lookup_putF, if_neg h4]
 rfl
structure CN (K : PySem.W.Frag) (C : Addr) : Prop where
 cl : Cls K C
 width : NoAttr K C "width"
 group : NoAttr K C "group"
 decimals : NoAttr K C "decimals"
 mark : NoAttr K C "mark"
section
variable {P : Program} {w : World} {K : PySem.W.Frag} {mg : Str → Option Value} {base : Heap} {CN_ : Addr}
def sp_NumberForm_init (C : Addr) : Sp := fun vs H Q _ => ∃ (p dx : Addr) (f : Vaflxm.NumForm), vs = [.ref p, .int f.width, .int (f.group.toNat : Nat), .int f.decimals, .int (f.mark.toNat : Nat)] ∧ H p = some (.ins C dx []) ∧
 ∀ H' : Hp, H' p = some (.ins C dx (nfF f)) → (∀ b o, H b = some o → b ≠ p → H' b = some o) → Q .non H'
abbrev s_NumberForm_init : Stmt := inClass (top 49) 0
theorem sc_NumberForm_init : FnScope ["self", "width", "group", "decimals", "mark"] ["self", "width", "group", "decimals", "mark"] (defScope s_NumberForm_init) := by walk_at "N"
theorem ok_NumberForm_init {C : Addr} (N : CN K C) (D : Idef K mg C "NumberForm" "NumberForm.__init__" s_NumberForm_init ["self", "width", "group", "decimals", "mark"]) : Oc P w K mg base C 1 "NumberForm" ["self", "width", "group", "decimals", "mark"] (sp_NumberForm_init C) := by
 refine D.ok sc_NumberForm_init (fun vs H Q E h => ?_) (fun f cdv A outer s H vs Q E hr h => ?_)
 ·obtain ⟨p, dx, f, rfl, _⟩ := h
  rfl
 ·obtain ⟨p, dx, f, rfl, hp, k⟩ := h
  refine ⟨_, (pss_cons (ps_fld (pv 0) (pv 1) rfl)
   (pss_cons (ps_fld (pv 0) (pv 2) rfl)
   (pss_cons (ps_fld (pv 0) (pv 3) rfl)
   (pss_one (ps_fld (pv 0) (pv 4) rfl))))), ?_⟩
  walk_at "S"
  simp only [hp, upd_same]
  walk_at "S"
  have l1 := length_putF "width" (.int f.width) []
  have l2 := length_putF "group" (.int (f.group.toNat : Nat)) (putF "width" (.int f.width) [])
  have l3 := length_putF "decimals" (.int f.decimals) (putF "group" (.int (f.group.toNat : Nat)) (putF "width" (.int f.width) []))
  rw [List.length_nil] at l1
  refine ⟨N.cl, N.width, by decide, N.cl, N.group, by omega, N.cl, N.decimals, by omega, N.cl, N.mark, by omega, k _ upd_same fun b o e hb => ?_⟩
  rw [upd_ne hb, upd_ne hb, upd_ne hb, upd_ne hb]
  exact e
def sp_NumberForm_told (C : Addr) : Sp := fun vs H Q _ => ∃ (a : Addr) (f : Vaflxm.NumForm), vs = [.ref a] ∧ NumAt C H a f ∧ NewL H ((Vaflxm.formNumbers (.num f)).map V.int) Q
abbrev s_NumberForm_told : Stmt := inClass (top 49) 1
theorem sc_NumberForm_told : FnScope ["self"] ["self"] (defScope s_NumberForm_told) := by walk_at "N"
theorem om_NumberForm_told {C : Addr} (T : Txt K mg) (N : CN K C) (D : Mdef K C "told" "NumberForm.told" s_NumberForm_told ["self"]) : Om P w K mg base C 1 "told" ["self"] (sp_NumberForm_told C) := by
 refine D.ok N.cl sc_NumberForm_told (fun vs H Q E h => ?_) (fun f cdv A outer s H vs Q E hr h => ?_)
 ·obtain ⟨p, f, rfl, _⟩ := h
  rfl
 ·obtain ⟨a, f, rfl, ⟨dx, ha⟩, k⟩ := h
  refine ⟨_, (pss_one (ps_ret (pe_lst (pa_cons (pe_ci T.NUMBER_KIND (by rfl)) (pa_cons (pe_fld (pv 0) rfl) (pa_cons (pe_fld (pv 0) rfl) (pa_cons (pe_fld (pv 0) rfl) (pa_cons (pe_fld (pv 0) rfl) pa_nil)))))))), ?_⟩
  walk_at "S"
  simp only [ha]
  walk_at "S"
  simp only [nf_width, nf_group, nf_decimals, nf_mark]
  walk_at "S"
  refine ⟨N.cl, N.width, N.cl, N.group, N.cl, N.decimals, N.cl, N.mark, by show 5 ≤ sizeLine; decide, fun p hp => k p _ (same_new hp) hp upd_same⟩
def sp_NumberForm_written (K : PySem.W.Frag) (C : Addr) : Sp := fun vs H Q _ => ∃ (a b : Addr) (f : Vaflxm.NumForm) (v : Vaflxm.Value), vs = [.ref a, .ref b] ∧ NumAt C H a f ∧ wfN f ∧ SqT K H b (vv v) ∧ okV v ∧ ResT H (Vaflxm.writeIn (.num f) v) Q
abbrev s_NumberForm_written : Stmt := inClass (top 49) 2
theorem sc_NumberForm_written : FnScope ["self", "value", "scaled", "digits", "whole_length", "text"] ["self", "value"] (defScope s_NumberForm_written) := by walk_at "N"
theorem om_NumberForm_written {C : Addr} (T : Txt K mg) (N : CN K C) (D : Mdef K C "written" "NumberForm.written" s_NumberForm_written ["self", "value"])
  (ok_times_ten : Ok P w K mg base 1 "times_ten" ["number", "times"] sp_times_ten) (ok_decimal_digits : Ok P w K mg base 1 "decimal_digits" ["number", "width"] sp_decimal_digits) (ok_grouped : Ok P w K mg base 1 "grouped" ["digits", "group"] sp_grouped) :
  Om P w K mg base C 2 "written" ["self", "value"] (sp_NumberForm_written K C) := by
 refine D.ok N.cl sc_NumberForm_written (fun vs H Q E h => ?_) (fun f cdv A outer s H vs Q E hr h => ?_)
 ·obtain ⟨a, b, f, v, rfl, _⟩ := h
  rfl
 ·obtain ⟨a, b, f, v, rfl, ⟨dx, ha⟩, ⟨w1, w2, w3⟩, hv, ov, k⟩ := h
  refine ⟨_, (pss_cons (ps_if (pw_or (pt_cmpR op_ne (pe_ix ix_tup (pv 1) pe_int (fun _ _ => rfl)) (pe_ci T.NUMBER_KIND (by rfl)) (nomark _)) (pw_or1 (pt_cmpR op_gt (pe_ix ix_tup (pv 1) pe_int (fun _ _ => rfl)) (pe_fld (pv 0) rfl) (nomark _)))).pt (pss_one (ps_ret pe_non)) pss_nil)
   (pss_cons (ps_set (i := 2) sc_NumberForm_written.nd rfl (Or.inl rfl) (pe_fn ok_times_ten (hr.mono (by decide)) (by rfl) (pa_cons (pe_callB call_abs (by rfl) T.n_abs boot_abs (pa_cons (pe_ix ix_tup (pv 1) pe_int (fun _ _ => rfl)) pa_nil)) (pa_cons (pe_op op_sub (pe_fld (pv 0) rfl) (pe_ix ix_tup (pv 1) pe_int (fun _ _ => rfl))) pa_nil))))
   (pss_cons (ps_set (i := 3) sc_NumberForm_written.nd rfl (Or.inl rfl) (pe_fn ok_decimal_digits (hr.mono (by decide)) (by rfl) (pa_cons (pv 2) (pa_cons (pe_op op_add (pe_fld (pv 0) rfl) (pe_fld (pv 0) rfl)) pa_nil))))
   (pss_cons (ps_set (i := 4) sc_NumberForm_written.nd rfl (Or.inl rfl) (pe_op op_sub (pe_callB call_len_seq (by rfl) T.n_len boot_len (pa_cons (pv 3) pa_nil)) (pe_fld (pv 0) rfl)))
   (pss_cons (ps_if (pt_cmpR op_gt (pv 4) (pe_ci T.MOST_WHOLE_DIGITS (by rfl)) (nomark _)) (pss_one (ps_ret pe_non)) pss_nil)
   (pss_cons (ps_set (i := 5) sc_NumberForm_written.nd rfl (Or.inl rfl) (pe_ifExp (pt_cmpR op_lt (pe_ix ix_tup (pv 1) pe_int (fun _ _ => rfl)) pe_int (nomark _)) (pe_lst (pa_cons (pe_ci T.MINUS (by rfl)) pa_nil)) (pe_lst pa_nil)))
   (pss_cons (ps_expr (pe_bm PySem.F.plainAttrs_list PySem.F.slot_list_extend PySem.F.type_list_extend mt_extend (pv 5) (pa_cons (pe_fn ok_grouped (hr.mono (by decide)) (by rfl) (pa_cons (pe_slice sl_list (pv 3) po_none (po_some (pv 4))) (pa_cons (pe_fld (pv 0) rfl) pa_nil))) pa_nil)))
   (pss_cons (ps_if (pt_cmpR op_gt (pe_fld (pv 0) rfl) pe_int (nomark _)) (pss_cons (ps_expr (pe_bm PySem.F.plainAttrs_list PySem.F.slot_list_append PySem.F.type_list_append mt_append (pv 5) (pa_cons (pe_fld (pv 0) rfl) pa_nil)))
   (pss_one (ps_expr (pe_bm PySem.F.plainAttrs_list PySem.F.slot_list_extend PySem.F.type_list_extend mt_extend (pv 5) (pa_cons (pe_slice sl_list (pv 3) (po_some (pv 4)) po_none) pa_nil))))) pss_nil)
   (pss_one (ps_ret (pv 5))))))))))), ?_⟩
  walk_at "S"
  simp only [ha]
  walk_at "S"
  simp only [nf_decimals, sp_times_ten]
  walk_at "S"
  cases v with
  | date y m d =>
   refine ⟨_, hv, .int 1, rfl, rfl, ?_⟩
   rw [if_pos (by intro z; cases z)]
   exact k H (Same.refl H)
  | number n s =>
   obtain ⟨on, os⟩ := ov
   refine ⟨_, hv, .int 0, rfl, rfl, ?_⟩
   rw [if_neg (by intro z; exact z rfl)]
   refine ⟨_, hv, .int s, rfl, N.cl, N.decimals, _, rfl, ?_⟩
   have kk : Vaflxm.writeIn (.num f) (.number n s) = Vaflxm.writeNum f n s := rfl
   rw [kk] at k
   split
   ·rename_i h
    have e : Vaflxm.writeNum f n s = none := by
     unfold Vaflxm.writeNum
     rw [if_pos (by omega)]
    rw [e] at k
    exact k H (Same.refl H)
   ·rename_i h
    refine ⟨_, hv, .int n, rfl, _, rfl, N.cl, N.decimals, _, hv, .int s, rfl, _, rfl, n.natAbs, (by split <;> omega), f.decimals - s, by omega, by omega, ?_⟩
    obtain ⟨sc, hsc⟩ : ∃ sc, sc = n.natAbs * 10 ^ (f.decimals - s) := ⟨_, rfl⟩
    have bsc : sc < 10 ^ 44 := by
     rw [hsc]
     have h1 : 10 ^ (f.decimals - s) ≤ 10 ^ 4 := Nat.pow_le_pow_right (by omega) (by omega)
     calc n.natAbs * 10 ^ (f.decimals - s) ≤ n.natAbs * 10 ^ 4 := Nat.mul_le_mul_left _ h1
      _ < 10 ^ 40 * 10 ^ 4 := Nat.mul_lt_mul_of_pos_right on (by decide)
      _ = 10 ^ 44 := by decide
    have hlog : sc.log2 < 1920 := by
     by_cases z : sc = 0
     ·rw [z]; decide
     ·rw [Nat.log2_lt z]
      exact Nat.lt_trans bsc (by decide)
    have hlen : (Vaflxm.padded (f.width + f.decimals) sc).length ≤ 44 := by
     rw [Tm.padded_length]
     have := (Tm.dec_length sc 44 (by omega)).mpr bsc
     omega
    rw [← hsc]
    refine ⟨C, dx, _, ha, N.cl, N.width, _, nf_width f, C, dx, _, ha, N.cl, N.decimals, _, nf_decimals f, _, rfl, _, rfl, sc, f.width + f.decimals, rfl, hlog, by omega, by omega, ?_⟩
    intro p1 H1 s1 n1 h1
    have ha1 := s1 _ _ ha
    have hv1 := s1.tup hv
    have hs9 := sizeLine_eq
    obtain ⟨pl, pt, pd⟩ := Tm.written_parts f.width f.decimals sc w1
    have wn : Vaflxm.writeNum f n s = if Vaflxm.MOST_WHOLE ≤ sc / 10 ^ f.decimals then none else some ((if n < 0 then [45] else []) ++ (Vaflxm.grouped f.group (Vaflxm.padded f.width (sc / 10 ^ f.decimals)) ++ (if f.decimals = 0 then [] else f.mark :: Vaflxm.padded f.decimals (sc % 10 ^ f.decimals)))) := by
     unfold Vaflxm.writeNum
     rw [if_neg (by omega), hsc]
    have ltv : ∀ t : Vaflxm.Text, (tv t).length = t.length := fun t => by simp [tv]
    have hsm := Tm.whole_small f.width (sc / 10 ^ f.decimals) (by omega)
    refine ⟨p1, rfl, _, .inl (sqL_of h1), C, dx, _, ha1, N.cl, N.decimals, _, nf_decimals f, _, rfl, ?_⟩
    have cut1 : ((tv (Vaflxm.padded (f.width + f.decimals) sc)).length : Int) - (f.decimals : Int) = ((Vaflxm.padded f.width (sc / 10 ^ f.decimals)).length : Int) := by
     rw [ltv]
     have := Tm.padded_length (f.width + f.decimals) sc
     omega
    rw [cut1]
    split
    ·rename_i hb
     rw [wn, if_pos (by omega)] at k
     exact k H1 s1
    ·rename_i hb
     rw [wn, if_neg (by omega)] at k
     refine cutE (fun x H2 => ∃ p, x = .ref p ∧ H1 p = none ∧ Same H1 H2 ∧ H2 p = some (.lst (tv (if n < 0 then [45] else [])))) ?_ ?_
     ·intro Q' hQ
      simp only [ap_tIf]
      walk_at "S"
      refine ⟨_, hv1, .int n, rfl, _, rfl, ?_⟩
      split
      ·rename_i hn
       refine ⟨by omega, fun p hp => hQ _ _ ⟨p, rfl, hp, same_new hp, ?_⟩⟩
       rw [upd_same, if_pos hn]
       rfl
      ·rename_i hn
       refine ⟨by omega, fun p hp => hQ _ _ ⟨p, rfl, hp, same_new hp, ?_⟩⟩
       rw [upd_same, if_neg hn]
       rfl
     ·rintro _ H2 ⟨p, rfl, hp, s2, h2⟩
      walk_at "S"
      have n2 : H p = none := s1.free hp
      have ep1 : H2 p1 = some (.lst (tv (Vaflxm.padded (f.width + f.decimals) sc))) := s2 _ _ h1
      refine ⟨tyL_of (sqL_of h2), _, sqL_of ep1, fun p3 hp3 => ?_⟩
      rw [cut_to, ← pl]
      have e3 : (tv (Vaflxm.padded (f.width + f.decimals) sc)).take ((Vaflxm.padded (f.width + f.decimals) sc).length - f.decimals) = tv (Vaflxm.padded f.width (sc / 10 ^ f.decimals)) := by
       rw [← pt]
       simp [tv, List.map_take]
      rw [e3]
      obtain ⟨H3, hH3⟩ : ∃ H3, H3 = upd H2 p3 (.lst (tv (Vaflxm.padded f.width (sc / 10 ^ f.decimals)))) := ⟨_, rfl⟩
      have s3 : Same H2 H3 := by rw [hH3]; exact same_new hp3
      have h3 : H3 p3 = some (.lst (tv (Vaflxm.padded f.width (sc / 10 ^ f.decimals)))) := by rw [hH3]; exact upd_same
      rw [← hH3]
      have ha3 := s3 _ _ (s2 _ _ ha1)
      refine ⟨C, dx, _, ha3, N.cl, N.group, _, nf_group f, p3, _, f.group, rfl, h3, by omega, ?_⟩
      intro p4 H4 s4 h4
      have ha4 := s4 _ _ ha3
      have hp4 := s4 _ _ (s3 _ _ h2)
      have gl := Tm.grouped_length f.group (Vaflxm.padded f.width (sc / 10 ^ f.decimals))
      have s14 : Same H1 H4 := (s2.trans s3).trans s4
      have lsg : (tv (if n < 0 then [45] else [])).length ≤ 1 := by
       rw [ltv]
       split <;> simp
      have lpd : (Vaflxm.padded f.width (sc / 10 ^ f.decimals)).length ≤ 44 := by omega
      have na : a ≠ p := ne_of_none ha1 hp
      have lg2 : (tv (Vaflxm.grouped f.group (Vaflxm.padded f.width (sc / 10 ^ f.decimals)))).length ≤ 88 := by rw [ltv]; omega
      refine ⟨p4, rfl, _, hp4, _, h4, by omega, C, dx, _, by rw [upd_ne na]; exact ha4, N.cl, N.decimals, _, nf_decimals f, _, rfl, ?_⟩
      obtain ⟨tx, htx⟩ : ∃ tx : Vaflxm.Text, tx = (if n < 0 then [45] else []) ++ Vaflxm.grouped f.group (Vaflxm.padded f.width (sc / 10 ^ f.decimals)) := ⟨_, rfl⟩
      have etx : tv (if n < 0 then [45] else []) ++ tv (Vaflxm.grouped f.group (Vaflxm.padded f.width (sc / 10 ^ f.decimals))) = tv tx := by rw [htx]; simp [tv]
      have ltx : (tv tx).length ≤ 89 := by
       rw [← etx, List.length_append]
       omega
      rw [etx]
      have s05 : Same H (upd H4 p (.lst (tv tx))) := (s1.trans s14).put n2
      split
      ·rename_i hd
       have np1 : p1 ≠ p := ne_of_none h1 hp
       refine ⟨tyL_of (sqL_of upd_same), C, dx, _, by rw [upd_ne na]; exact ha4, N.cl, N.mark, _, nf_mark f, _, upd_same, by omega, tyL_of (sqL_of upd_same), _, sqL_of (by rw [upd_ne np1, upd_ne np1]; exact s14 _ _ h1), fun p5 hp5 => ?_⟩
       have np5 : p ≠ p5 := ne_of_none upd_same hp5
       have e6 : (tv (Vaflxm.padded (f.width + f.decimals) sc)).drop ((Vaflxm.padded (f.width + f.decimals) sc).length - f.decimals) = tv (Vaflxm.padded f.decimals (sc % 10 ^ f.decimals)) := by
        rw [if_neg (by omega)] at pd
        rw [← pd]
        simp [tv, List.map_drop]
       have l6 : (tv (Vaflxm.padded f.decimals (sc % 10 ^ f.decimals))).length ≤ 44 := by
        rw [← e6, List.length_drop, ltv]
        omega
       rw [cut_from, e6]
       refine ⟨_, by rw [upd_ne np5, upd_same], _, upd_same, by simp only [List.length_append, List.length_cons, List.length_nil]; omega, ?_⟩
       have n5 : H p5 = none := by
        have q := hp5
        rw [upd_ne (Ne.symm np5), upd_ne (Ne.symm np5)] at q
        exact (s1.trans s14).free q
       refine k p _ ?_ n2 ?_
       ·exact (((s05.put n2).put n5).put n2)
       ·rw [upd_same, if_neg (show ¬ f.decimals = 0 by omega), ← List.append_assoc, ← htx]
        simp [tv]
      ·rename_i hd
       have hd0 : f.decimals = 0 := by omega
       rw [hd0, if_pos rfl, List.append_nil, ← hd0, ← htx] at k
       exact k p _ s05 n2 upd_same
def sp_NumberForm_value_read (K : PySem.W.Frag) (C : Addr) : Sp := fun vs H Q _ => ∃ (a b : Addr) (f : Vaflxm.NumForm) (t : Vaflxm.Text), vs = [.ref a, .ref b] ∧ NumAt C H a f ∧ wfN f ∧ SqL K H b (tv t) ∧ ResV H (Vaflxm.readIn (.num f) t) Q
abbrev s_NumberForm_value_read : Stmt := inClass (top 49) 3
theorem sc_NumberForm_value_read : FnScope ["self", "text", "n", "value"] ["self", "text"] (defScope s_NumberForm_value_read) := by walk_at "N"
theorem om_NumberForm_value_read {C : Addr} (T : Txt K mg) (N : CN K C) (D : Mdef K C "value_read" "NumberForm.value_read" s_NumberForm_value_read ["self", "text"])
  (ok_number_of_digits : Ok P w K mg base 1 "number_of_digits" ["text"] (sp_number_of_digits K)) (ok_number_value : Ok P w K mg base 1 "number_value" ["n", "s"] sp_number_value)
  (om_NumberForm_written : Om P w K mg base C 2 "written" ["self", "value"] (sp_NumberForm_written K C)) :
  Om P w K mg base C 3 "value_read" ["self", "text"] (sp_NumberForm_value_read K C) := by
 refine D.ok N.cl sc_NumberForm_value_read (fun vs H Q E h => ?_) (fun f cdv A outer s H vs Q E hr h => ?_)
 ·obtain ⟨a, b, f, v, rfl, _⟩ := h
  rfl
 ·obtain ⟨a, b, f, t, rfl, ⟨dx, ha⟩, wf, hb, k⟩ := h
  have kk : Vaflxm.readIn (.num f) t = Vaflxm.readNum f t := rfl
  rw [kk, Tm.readNum_eq] at k
  have ltv : ∀ t : Vaflxm.Text, (tv t).length = t.length := fun t => by simp [tv]
  refine ⟨_, (pss_cons (ps_if (pt_cmpR op_gt (pe_callB call_len_seq (by rfl) T.n_len boot_len (pa_cons (pv 1) pa_nil)) (pe_ci T.LONGEST_NUMBER (by rfl)) (nomark _)) (pss_one (ps_ret pe_non)) pss_nil)
   (pss_cons (ps_set (i := 2) sc_NumberForm_value_read.nd rfl (Or.inl rfl) (pe_fn ok_number_of_digits (hr.mono (by decide)) (by rfl) (pa_cons (pv 1) pa_nil)))
   (pss_cons (ps_if (pt_cmpR (op_eqD hr.units) (pe_slice sl_list (pv 1) po_none (po_some pe_int)) (pe_lst (pa_cons (pe_ci T.MINUS (by rfl)) pa_nil)) (nomark _)) (pss_one (ps_set (i := 2) sc_NumberForm_value_read.nd rfl (Or.inl rfl) (pe_un un_neg (pv 2)))) pss_nil)
   (pss_cons (ps_set (i := 3) sc_NumberForm_value_read.nd rfl (Or.inl rfl) (pe_fn ok_number_value (hr.mono (by decide)) (by rfl) (pa_cons (pv 2) (pa_cons (pe_fld (pv 0) rfl) pa_nil))))
   (pss_cons (ps_if (pt_cmpR (op_neD hr.units) (pe_mt (pv 0) om_NumberForm_written (hr.mono (by decide)) (pa_cons (pv 3) pa_nil)) (pv 1) (nomark _)) (pss_one (ps_ret pe_non)) pss_nil)
   (pss_one (ps_ret (pv 3)))))))), ?_⟩
  walk_at "S"
  refine ⟨_, .inl hb, ?_⟩
  rw [ltv]
  split
  ·rename_i hl
   rw [if_pos (by omega)] at k
   exact k H (Same.refl H)
  ·rename_i hl
   rw [if_neg (by omega)] at k
   refine ⟨b, t, rfl, hb, ?_⟩
   have rest : ∀ (n : Int) (H2 : Hp), Same H H2 → n = Tm.signed t → ∃ x x_3 x_4, H2 a = some (HO.ins x x_3 x_4) ∧ Cls K x ∧ NoAttr K x "decimals" ∧ ∃ x, List.lookup ("decimals" : Str) x_4 = some x ∧ sp_number_value [V.int n, x] H2
     (fun x H1 => ∃ x_5 x_6, H1 a = some (HO.ins C x_5 x_6) ∧ List.lookup ("written" : Str) x_6 = none ∧ sp_NumberForm_written K C [V.ref a, x] H1
      (fun x_7 H1 => ∃ d, Dp K H1 x_7 d ∧ ∃ x_8, Dp K H1 (V.ref b) x_8 ∧ SeqAt.shaped d = true ∧ SeqAt.shaped x_8 = true ∧ if d.eqv x_8 = false then Q V.non H1 else Q x H1) E0) E0 := by
    intro n H2 s2 en
    have ha2 := s2 _ _ ha
    refine ⟨C, dx, _, ha2, N.cl, N.decimals, _, nf_decimals f, n, f.decimals, rfl, ?_⟩
    intro p3 H3 s3 n3 h3
    have ha3 := s3 _ _ ha2
    obtain ⟨m, hm⟩ : ∃ m, m = Vaflxm.lowest f.decimals n f.decimals := ⟨_, rfl⟩
    rw [← en, ← hm] at k
    rw [← hm] at h3
    have okm : okV (.number m.1 m.2) := by
     have h1 := Tm.lowest_small f.decimals n
     have h2 := (Tm.lowest_spec f.decimals n).1
     have h4 := Tm.digits_read_lt t (by omega)
     have h5 : n.natAbs ≤ Vaflxm.digitsVal (t.filter Vaflxm.isDigit) := by
      rw [en]
      unfold Tm.signed
      split <;> omega
     obtain ⟨_, _, w3⟩ := wf
     rw [hm]
     refine ⟨?_, by omega⟩
     have : (10 : Nat) ^ 25 < 10 ^ 40 := by decide
     omega
    refine ⟨dx, _, ha3, nf_no f (by decide +kernel) (by decide +kernel) (by decide +kernel) (by decide +kernel), a, p3, f, .number m.1 m.2, rfl, ⟨dx, ha3⟩, wf, sqT_of h3, okm, ?_⟩
    have s03 : Same H H3 := s2.trans s3
    have n03 : H p3 = none := s2.free n3
    have kk2 : Vaflxm.writeIn (.num f) (.number m.1 m.2) = Vaflxm.writeNum f m.1 m.2 := rfl
    rw [kk2]
    cases e : Vaflxm.writeNum f m.1 m.2 with
    | none =>
     rw [e, if_neg (by intro z; cases z)] at k
     intro H4 s4
     refine ⟨_, .non, _, td_list ((s03.trans s4).seq hb), rfl, td_shaped t, ?_⟩
     rw [if_pos (by simp [PyData.eqv])]
     exact k H4 (s03.trans s4)
    | some u =>
     rw [e] at k
     intro p4 H4 s4 n4 h4
     refine ⟨_, td_list (sqL_of h4), _, td_list ((s03.trans s4).seq hb), td_shaped u, td_shaped t, ?_⟩
     have ee : (PyData.list (td u)).eqv (.list (td t)) = decide (u = t) := by
      rw [PyData.eqv]
      exact td_eqv u t
     rw [ee]
     by_cases h : u = t
     ·rw [if_neg (by simp [h])]
      rw [if_pos (by rw [h])] at k
      exact k p3 H4 (s03.trans s4) n03 (s4 _ _ h3)
     ·rw [if_pos (by simp [h])]
      rw [if_neg (by intro z; exact h (Option.some.inj z))] at k
      exact k H4 (s03.trans s4)
   refine ⟨_, hb, fun p hp => ⟨by show 1 ≤ sizeLine; decide, fun p2 hp2 => ?_⟩⟩
   have e1 : cutV (tv t) none (some 1) = tv (t.take 1) := by
    have := cut_to (tv t) 1
    rw [show ((1 : Nat) : Int) = 1 from rfl] at this
    rw [this]
    simp [tv, List.map_take]
   rw [e1]
   have np : p ≠ p2 := ne_of_none upd_same hp2
   have n2 : H p2 = none := by
    rw [upd_ne (Ne.symm np)] at hp2
    exact hp2
   have sa : Same H (upd (upd H p (.lst (tv (t.take 1)))) p2 (.lst [V.int 45])) := (same_new hp).put n2
   refine ⟨_, td_list (t := t.take 1) (sqL_of (by rw [upd_ne np, upd_same])), _, td_list (t := [45]) (sqL_of upd_same), td_shaped _, td_shaped _, ?_⟩
   have ee : (PyData.list (td (t.take 1))).eqv (.list (td [45])) = decide (t.take 1 = [45]) := by
    rw [PyData.eqv]
    exact td_eqv _ _
   rw [ee]
   split
   ·rename_i h
    refine ⟨_, rfl, rest _ _ sa ?_⟩
    unfold Tm.signed
    rw [if_pos (of_decide_eq_true h)]
   ·rename_i h
    refine rest _ _ sa ?_
    unfold Tm.signed
    rw [if_neg (fun z => h (decide_eq_true z))]
end
section
open Builtin.SmallTypes
section
variable {prog : Program} {w : World} {A : Around} {E : Value → Shared → Prop} {s : Shared}
theorem isTup_ext {h g : Heap} {b t : Addr} {items : Array Value} (x : h.IsTuple t items) (q : Heap.ExtBut b h g) (hab : t ≠ b) : g.IsTuple t items := by
 obtain ⟨o, e, r⟩ := x
 exact ⟨o, q t o hab e, r⟩
theorem zipTL_item {z TI TO i1 i2 l1 l2 : Addr} {k1 k2 : Nat} {xs ys : Array Value} {x y a b : Value} {Q : Value → Shared → Prop} (D : ZipApart z TI TO i1 i2 l1 l2)
  (hz : IsZip s.heap z TI TO .none) (hi : IsPair s.heap TI (.ref i1) (.ref i2)) (ho : IsPair s.heap TO a b) (m1 : s.heap.IsTupleIter i1 l1 k1) (m2 : s.heap.IsListIter i2 l2 k2) (c1 : s.heap.IsTuple l1 xs) (c2 : s.heap.IsList l2 ys) (hx : xs[k1]? = some x) (hy : ys[k2]? = some y)
  (q : ∀ g : Heap, IsZip g z TI TO (rawInt s.heap.objs.size) → IsPair g TO x y → g.IsTupleIter i1 l1 (k1 + 1) → g.IsListIter i2 l2 (k2 + 1) → IsPair g s.heap.objs.size x y → g.objs.size = s.heap.objs.size + 1 →
   (∀ c o, c ≠ z → c ≠ TO → c ≠ i1 → c ≠ i2 → s.heap.get? c = some o → g.get? c = some o) → Q (.ref s.heap.objs.size) { s with heap := g }) :
  wpAny (model prog w) A (Builtin.«zip.__next__» ⟨[.ref z], []⟩) (fun fin s' => ∃ v, fin = .done (.ret v) ∧ Q v s') E s := by
 show wpAny _ _ (field (.ref z) 2 >>= _) _ _ _; refine wpAny_bind (wpAny_field hz rfl (x := .bool false) rfl ?_); show wpAny _ _ (field (.ref z) 3 >>= _) _ _ _
 refine wpAny_bind (wpAny_field hz rfl (x := .ref TI) rfl ?_); refine wpAny_bind (wpAny_seqItems hi rfl ?_); show wpAny _ _ (ownedTupleIsFree (.ref z) >>= _) _ _ _
 refine wpAny_bind ?_; unfold ownedTupleIsFree; refine wpAny_bind (wpAny_field hz rfl (x := .none) rfl (wpAny_pure ?_)); simp only [if_true]; refine wpAny_bind (wpAny_rule ?_)
 refine wpAny_bind (wpAny_field hz rfl (x := .ref TO) rfl ?_); refine wpAny_bind (wpAny_setField_rec hz (by simp) fun g1 z1 e1 => ?_); replace z1 : IsZip g1 z TI TO .ellipsis := z1; refine wpAny_bind ?_
 simp only [List.zipIdx_cons, List.zipIdx_nil, List.forIn_cons, List.forIn_nil]; refine wpAny_bind (wpAny_bind (wpAny_onRaise ?_)); show wpAny _ _ (nextOf (.ref i1) >>= _) _ _ _
 refine wpAny_bind (nextTup_item (m1.extBut e1.extBut D.i1z) (isTup_ext c1 e1.extBut D.l1z) hx fun g2 m12 e2 => wpAny_pure ?_)
 have o2 : IsPair g2 TO a b := e2.extBut _ _ D.TOi1 (e1.extBut _ _ D.TOz ho)
 refine wpAny_bind (wpAny_seqItems o2 rfl ?_); refine wpAny_bind (wpAny_updateSeq_pair o2 fun g3 o3 e3 => ?_); replace o3 : IsPair g3 TO x b := o3; refine wpAny_bind (wpAny_letGo (wpAny_pure ?_))
 refine wpAny_bind (wpAny_bind (wpAny_onRaise ?_)); show wpAny _ _ (nextOf (.ref i2) >>= _) _ _ _
 refine wpAny_bind (wpAny_nextOf_list_item (((m2.extBut e1.extBut D.i2z).extBut e2.extBut D.i12.symm).extBut e3.extBut D.TOi2.symm) (((c2.extBut e1.extBut D.l2z).extBut e2.extBut D.l2i1).extBut e3.extBut D.l2TO) hy fun g4 m24 e4 => wpAny_pure ?_)
 have o4 : IsPair g4 TO x b := e4.extBut _ _ D.TOi2 o3
 refine wpAny_bind (wpAny_seqItems o4 rfl ?_); refine wpAny_bind (wpAny_updateSeq_pair o4 fun g5 o5 e5 => ?_); replace o5 : IsPair g5 TO x y := o5; refine wpAny_bind (wpAny_letGo (wpAny_pure (wpAny_pure ?_)))
 refine wpAny_bind (wpAny_seqItems o5 rfl ?_); refine wpAny_bind (wpAny_newTuple ?_)
 have sz : g5.objs.size = s.heap.objs.size := by rw [e5.1, e4.1, e3.1, e2.1, e1.1]
 have z5 : IsZip g5 z TI TO .ellipsis := e5.extBut _ _ D.TOz.symm (e4.extBut _ _ D.i2z.symm (e3.extBut _ _ D.TOz.symm (e2.extBut _ _ D.i1z.symm z1)))
 have kp : ∀ c o, c ≠ z → c ≠ TO → c ≠ i1 → c ≠ i2 → s.heap.get? c = some o → g5.get? c = some o := fun c o n1 n2 n3 n4 e => e5.extBut _ _ n2 (e4.extBut _ _ n4 (e3.extBut _ _ n2 (e2.extBut _ _ n3 (e1.extBut _ _ n1 e))))
 have m15 : g5.IsTupleIter i1 l1 (k1 + 1) := ((m12.extBut e3.extBut D.TOi1.symm).extBut e4.extBut D.i12).extBut e5.extBut D.TOi1.symm
 have m25 : g5.IsListIter i2 l2 (k2 + 1) := m24.extBut e5.extBut D.TOi2.symm
 have lz : z < g5.objs.size := Heap.lt_size z5
 show wpAny _ _ (ownedTupleHandOut (.ref z) (.ref g5.objs.size) >>= _) _ _ _; refine wpAny_bind ?_; unfold ownedTupleHandOut
 have z6 : IsZip (g5.push { cls := .type "tuple", data := .seq #[x, y] }) z TI TO .ellipsis := Heap.get?_push_of_some _ z5
 refine wpAny_bind (wpAny_setField_rec z6 (by simp) fun g7 z7 e7 => ?_); replace z7 : IsZip g7 z TI TO (rawInt g5.objs.size) := z7
 refine wpAny_setField_rec z7 (by simp) fun g8 z8 e8 => ?_; replace z8 : IsZip g8 z TI TO (rawInt g5.objs.size) := z8
 have up : ∀ c o, c ≠ z → g5.get? c = some o → g8.get? c = some o := fun c o n1 e => e8.extBut _ _ n1 (e7.extBut _ _ n1 (Heap.get?_push_of_some _ e))
 have t8 : IsPair g8 g5.objs.size x y := e8.extBut _ _ (Nat.ne_of_gt lz) (e7.extBut _ _ (Nat.ne_of_gt lz) (Heap.get?_push_size _ rfl))
 have s8 : g8.objs.size = g5.objs.size + 1 := by rw [e8.1, e7.1, Heap.size_push]
 rw [sz] at z8 t8 s8
 refine wpAny_pure ⟨_, rfl, ?_⟩
 show Q (.ref g5.objs.size) _
 rw [sz]
 exact q g8 z8 (up _ _ D.TOz o5) (m15.at fun o e => up _ o D.i1z e) (m25.at fun o e => up _ o D.i2z e) t8 s8 fun c o n1 n2 n3 n4 e => up c o n1 (kp c o n1 n2 n3 n4 e)
theorem zipTL_end {z TI TO i1 i2 l1 l2 : Addr} {k1 k2 : Nat} {xs ys : Array Value} {a b : Value} {Q : PySem.Fin → Shared → Prop} (hh : A.handled = none) (D : ZipApart z TI TO i1 i2 l1 l2)
  (hz : IsZip s.heap z TI TO .none) (hi : IsPair s.heap TI (.ref i1) (.ref i2)) (ho : IsPair s.heap TO a b) (m1 : s.heap.IsTupleIter i1 l1 k1) (m2 : s.heap.IsListIter i2 l2 k2) (c1 : s.heap.IsTuple l1 xs) (c2 : s.heap.IsList l2 ys) (hend : xs[k1]? = none ∨ ys[k2]? = none)
  (q : ∀ (g : Heap) e, (∀ c o, c ≠ z → c ≠ TO → c ≠ i1 → c ≠ i2 → s.heap.get? c = some o → g.get? c = some o) → (∃ o, g.get? e = some o ∧ o.cls = .type "StopIteration") → E (.ref e) { s with heap := g }) :
  wpAny (model prog w) A (Builtin.«zip.__next__» ⟨[.ref z], []⟩) Q E s := by
 show wpAny _ _ (field (.ref z) 2 >>= _) _ _ _; refine wpAny_bind (wpAny_field hz rfl (x := .bool false) rfl ?_); show wpAny _ _ (field (.ref z) 3 >>= _) _ _ _
 refine wpAny_bind (wpAny_field hz rfl (x := .ref TI) rfl ?_); refine wpAny_bind (wpAny_seqItems hi rfl ?_); show wpAny _ _ (ownedTupleIsFree (.ref z) >>= _) _ _ _
 refine wpAny_bind ?_; unfold ownedTupleIsFree; refine wpAny_bind (wpAny_field hz rfl (x := .none) rfl (wpAny_pure ?_)); simp only [if_true]; refine wpAny_bind (wpAny_rule ?_)
 refine wpAny_bind (wpAny_field hz rfl (x := .ref TO) rfl ?_); refine wpAny_bind (wpAny_setField_rec hz (by simp) fun g1 z1 e1 => ?_); replace z1 : IsZip g1 z TI TO .ellipsis := z1; refine wpAny_bind ?_
 simp only [List.zipIdx_cons, List.zipIdx_nil, List.forIn_cons, List.forIn_nil]; refine wpAny_bind (wpAny_bind (wpAny_onRaise ?_)); show wpAny _ _ (nextOf (.ref i1) >>= _) _ _ _
 cases hx : xs[k1]? with
 | none =>
  refine wpAny_bind (nextTup_end hh (m1.extBut e1.extBut D.i1z) (isTup_ext c1 e1.extBut D.l1z) hx fun g2 e e2 he => ?_)
  obtain ⟨oe, hoe, hce⟩ := he
  have z2 : IsZip g2 z TI TO .ellipsis := e2 _ _ D.i1z.symm z1
  have ne : e ≠ z := fun n => by subst n; rw [z2] at hoe; cases hoe; simp at hce
  refine wpAny_setField_rec z2 (by simp) fun g3 _ e3 => q g3 e (fun c o n1 _ n3 _ n => e3.extBut _ _ n1 (e2 _ _ n3 (e1.extBut _ _ n1 n))) ⟨oe, e3.extBut _ _ ne hoe, hce⟩
 | some x =>
  have hy : ys[k2]? = none := by
   rcases hend with h | h
   ·rw [hx] at h; cases h
   ·exact h
  refine wpAny_bind (nextTup_item (m1.extBut e1.extBut D.i1z) (isTup_ext c1 e1.extBut D.l1z) hx fun g2 m12 e2 => wpAny_pure ?_)
  have o2 : IsPair g2 TO a b := e2.extBut _ _ D.TOi1 (e1.extBut _ _ D.TOz ho)
  refine wpAny_bind (wpAny_seqItems o2 rfl ?_); refine wpAny_bind (wpAny_updateSeq_pair o2 fun g3 o3 e3 => ?_); refine wpAny_bind (wpAny_letGo (wpAny_pure ?_)); refine wpAny_bind (wpAny_bind (wpAny_onRaise ?_))
  show wpAny _ _ (nextOf (.ref i2) >>= _) _ _ _
  refine wpAny_bind (wpAny_nextOf_list_end hh (((m2.extBut e1.extBut D.i2z).extBut e2.extBut D.i12.symm).extBut e3.extBut D.TOi2.symm) (((c2.extBut e1.extBut D.l2z).extBut e2.extBut D.l2i1).extBut e3.extBut D.l2TO) hy fun g4 e e4 he => ?_)
  obtain ⟨oe, hoe, hce⟩ := he
  have z4 : IsZip g4 z TI TO .ellipsis := e4 _ _ D.i2z.symm (e3.extBut _ _ D.TOz.symm (e2.extBut _ _ D.i1z.symm z1))
  have ne : e ≠ z := fun n => by subst n; rw [z4] at hoe; cases hoe; simp at hce
  refine wpAny_setField_rec z4 (by simp) fun g5 _ e5 => q g5 e (fun c o n1 n2 n3 n4 n => e5.extBut _ _ n1 (e4 _ _ n4 (e3.extBut _ _ n2 (e2.extBut _ _ n3 (e1.extBut _ _ n1 n))))) ⟨oe, e5.extBut _ _ ne hoe, hce⟩
theorem nextZipTL_item {z TI TO i1 i2 l1 l2 : Addr} {k1 k2 : Nat} {xs ys : Array Value} {x y a b : Value} {Q : Option Value → Shared → Prop} (D : ZipApart z TI TO i1 i2 l1 l2)
  (hz : IsZip s.heap z TI TO .none) (hi : IsPair s.heap TI (.ref i1) (.ref i2)) (ho : IsPair s.heap TO a b) (m1 : s.heap.IsTupleIter i1 l1 k1) (m2 : s.heap.IsListIter i2 l2 k2) (c1 : s.heap.IsTuple l1 xs) (c2 : s.heap.IsList l2 ys) (hx : xs[k1]? = some x) (hy : ys[k2]? = some y)
  (q : ∀ g : Heap, IsZip g z TI TO (rawInt s.heap.objs.size) → IsPair g TO x y → g.IsTupleIter i1 l1 (k1 + 1) → g.IsListIter i2 l2 (k2 + 1) → IsPair g s.heap.objs.size x y → g.objs.size = s.heap.objs.size + 1 →
   (∀ c o, c ≠ z → c ≠ TO → c ≠ i1 → c ≠ i2 → s.heap.get? c = some o → g.get? c = some o) → Q (some (.ref s.heap.objs.size)) { s with heap := g }) : wpAny (model prog w) A (pyNext (.ref z)) Q E s := by
 have ty : s.TypeIs (.ref z) "zip" := ⟨_, hz, rfl⟩
 unfold pyNext
 exact wpAny_bind (wpAny_attempt (wpAny_callSpecial?_slot (name := Str.ofString "__next__") ty F.slot_zip_next (wpAny_call_entry F.slot_zip_next ty F.entry_zip_next
  (zipTL_item D hz hi ho m1 m2 c1 c2 hx hy fun g a1 a2 a3 a4 a5 a6 a7 => wpAny_pure (q g a1 a2 a3 a4 a5 a6 a7)) (F.args_zip_next_1 _))))
theorem nextZipTL_end {z TI TO i1 i2 l1 l2 : Addr} {k1 k2 : Nat} {xs ys : Array Value} {a b : Value} {Q : Option Value → Shared → Prop} (hh : A.handled = none) (D : ZipApart z TI TO i1 i2 l1 l2)
  (hz : IsZip s.heap z TI TO .none) (hi : IsPair s.heap TI (.ref i1) (.ref i2)) (ho : IsPair s.heap TO a b) (m1 : s.heap.IsTupleIter i1 l1 k1) (m2 : s.heap.IsListIter i2 l2 k2) (c1 : s.heap.IsTuple l1 xs) (c2 : s.heap.IsList l2 ys) (hend : xs[k1]? = none ∨ ys[k2]? = none)
  (q : ∀ g : Heap, (∀ c o, c ≠ z → c ≠ TO → c ≠ i1 → c ≠ i2 → s.heap.get? c = some o → g.get? c = some o) → Q none { s with heap := g }) : wpAny (model prog w) A (pyNext (.ref z)) Q E s := by
 have ty : s.TypeIs (.ref z) "zip" := ⟨_, hz, rfl⟩
 unfold pyNext
 refine wpAny_bind (wpAny_attempt (wpAny_callSpecial?_slot (name := Str.ofString "__next__") ty F.slot_zip_next (wpAny_call_entry F.slot_zip_next ty F.entry_zip_next (zipTL_end hh D hz hi ho m1 m2 c1 c2 hend fun g e hk he => ?_) (F.args_zip_next_1 _))))
 obtain ⟨o, ho, hc⟩ := he
 refine wpAny_bind (wpAny_isInstance (T := "StopIteration") (b := true) ⟨o, ho, hc⟩ isSubtype_stop (wpAny_pure (q _ hk)))
end
abbrev zT1 (h : Heap) (l1 : Addr) : Heap := h.push { cls := .type "tuple_iterator", data := .fields #[.ref l1, .int 0 0] }
abbrev zT2 (h : Heap) (l1 l2 : Addr) : Heap := (zT1 h l1).push { cls := .type "list_iterator", data := .fields #[.ref l2, .int 0 0] }
abbrev zT3 (h : Heap) (l1 l2 : Addr) : Heap := (zT2 h l1 l2).push { cls := .type "tuple", data := .seq #[.ref h.objs.size, .ref (zT1 h l1).objs.size] }
abbrev zT4 (h : Heap) (l1 l2 : Addr) : Heap := (zT3 h l1 l2).push { cls := .type "tuple", data := .seq #[.none, .none] }
abbrev zT5 (h : Heap) (l1 l2 : Addr) : Heap := (zT4 h l1 l2).push { cls := .type "zip", data := .fields #[.none, .bool false, .bool false, .ref (zT2 h l1 l2).objs.size, .ref (zT3 h l1 l2).objs.size] }
theorem meets_zipTL (l1 l2 : Addr) (xs ys : Array Value) :
  Meets (Builtin.«zip.__new__» ⟨[.type "zip", .ref l1, .ref l2], []⟩) (fun _ R s => s.heap.IsTuple l1 xs ∧ s.heap.IsList l2 ys ∧ R (.ok (.ret (.ref (zT4 s.heap l1 l2).objs.size))) { s with heap := zT5 s.heap l1 l2 }) :=
 .of_wp fun prog w A R s h => by
  obtain ⟨hp, g, d, tk, os⟩ := s
  obtain ⟨hl1, hl2, h⟩ := h
  have hsub := sub_zip
  have hL1 : Heap.IsTuple (Shared.heap ⟨hp, g, d, tk, os⟩) l1 xs := hl1
  have hL2 : Heap.IsList (Shared.heap ⟨hp.push { cls := .type "tuple_iterator", data := .fields #[.ref l1, .int 0 0] }, g, d, tk, os⟩) l2 ys := Heap.IsList.push hl2 _
  wp_walk using wpAny_pyIter_tuple hL1, wpAny_pyIter_list hL2
  exact ⟨_, rfl, h⟩
section
variable {prog : Program} {w : World} {A : Around} {E : Value → Shared → Prop} {s : Shared}
theorem call_zipTL {l1 l2 : Addr} {xs ys : Array Value} {Q : Value → Shared → Prop} (hl1 : s.heap.IsTuple l1 xs) (hl2 : s.heap.IsList l2 ys)
  (h : ∀ g : Heap, IsZip g (s.heap.objs.size + 4) (s.heap.objs.size + 2) (s.heap.objs.size + 3) .none → IsPair g (s.heap.objs.size + 2) (.ref s.heap.objs.size) (.ref (s.heap.objs.size + 1)) → IsPair g (s.heap.objs.size + 3) .none .none →
   g.IsTupleIter s.heap.objs.size l1 0 → g.IsListIter (s.heap.objs.size + 1) l2 0 → g.objs.size = s.heap.objs.size + 5 → (∀ c o, s.heap.get? c = some o → g.get? c = some o) → Q (.ref (s.heap.objs.size + 4)) { s with heap := g }) :
  wpAny (model prog w) A (call (.type "zip") [.ref l1, .ref l2]) Q E s := by
 refine callType_new F.called_zip (by decide) (F.typeCall_zip_2 _ _) (F.newCall_zip_2 _ _) (fun obj => F.args_object_init_3 obj _ _) F.entry_zip_new (meets_zipTL l1 l2 xs ys) ⟨hl1, hl2, ?_⟩
 have z1 : (zT1 s.heap l1).objs.size = s.heap.objs.size + 1 := Heap.size_push ..
 have z2 : (zT2 s.heap l1 l2).objs.size = s.heap.objs.size + 2 := by rw [Heap.size_push, z1]
 have z3 : (zT3 s.heap l1 l2).objs.size = s.heap.objs.size + 3 := by rw [Heap.size_push, z2]
 have z4 : (zT4 s.heap l1 l2).objs.size = s.heap.objs.size + 4 := by rw [Heap.size_push, z3]
 have z5 : (zT5 s.heap l1 l2).objs.size = s.heap.objs.size + 5 := by rw [Heap.size_push, z4]
 have g5 : (zT5 s.heap l1 l2).get? (zT4 s.heap l1 l2).objs.size = some _ := Heap.get?_push_size _ rfl
 have g4 : (zT5 s.heap l1 l2).get? (zT3 s.heap l1 l2).objs.size = some _ := Heap.get?_push_of_some _ (Heap.get?_push_size _ rfl)
 have g3 : (zT5 s.heap l1 l2).get? (zT2 s.heap l1 l2).objs.size = some _ := Heap.get?_push_of_some _ (Heap.get?_push_of_some _ (Heap.get?_push_size _ rfl))
 have g2 : (zT5 s.heap l1 l2).get? (zT1 s.heap l1).objs.size = some _ := Heap.get?_push_of_some _ (Heap.get?_push_of_some _ (Heap.get?_push_of_some _ (Heap.get?_push_size _ rfl)))
 have g1 : (zT5 s.heap l1 l2).get? s.heap.objs.size = some _ := Heap.get?_push_of_some _ (Heap.get?_push_of_some _ (Heap.get?_push_of_some _ (Heap.get?_push_of_some _ (Heap.get?_push_size _ rfl))))
 show _ ∧ _
 rw [z2, z3, z4] at g5
 rw [z1, z2] at g3
 rw [z3] at g4
 rw [z1] at g2
 rw [z4]
 exact ⟨⟨_, g5, rfl⟩, h _ g5 g3 g4 ⟨_, g1, rfl, rfl⟩ ⟨_, g2, rfl, rfl⟩ z5 fun c o e => Heap.get?_push_of_some _ (Heap.get?_push_of_some _ (Heap.get?_push_of_some _ (Heap.get?_push_of_some _ (Heap.get?_push_of_some _ e))))⟩
end
def ItzT (K : PySem.W.Frag) (b : Addr) (xs : List V) : It :=
 ⟨fun i H => ∃ (ys : List V) (y : V), i < xs.length ∧ SqL K H b ys ∧ ys[i]? = some y,
  fun i H v H' => ∃ T x y, v = .ref T ∧ H T = none ∧ H' = upd H T (.tup [x, y]) ∧ xs[i]? = some x ∧ ∀ ys, SqL K H b ys → ys[i]? = some y,
  fun i H => ∃ ys : List V, SqL K H b ys ∧ (xs.length ≤ i ∨ ys.length ≤ i)⟩
theorem turn_zipT {P : Program} {w : World} {K : PySem.W.Frag} {elts : List Expr} {kk : Nat} {tpos : Pos} {a b z TI TO i1 i2 : Addr} {xs : List V} (k : KT K a xs) (D : ZipApart z TI TO i1 i2 a b) :
  Turn P w K (.Tuple elts kk tpos) (ItzT K b xs) [z, TI, TO, i1, i2] z (fun i h => IsZip h z TI TO .none ∧ IsPair h TI (.ref i1) (.ref i2) ∧ (∃ x y, IsPair h TO x y) ∧ h.IsTupleIter i1 a i ∧ h.IsListIter i2 b i) where
 mem := by simp
 obj := fun i h st c hc => by
  obtain ⟨hz, hTI, ⟨x, y, hTO⟩, ⟨o1, e1, _, d1⟩, ⟨o2, e2, _, d2⟩⟩ := st
  have e' : c = z ∨ c = TI ∨ c = TO ∨ c = i1 ∨ c = i2 := by simpa using hc
  rcases e' with q | q | q | q | q
  ·rw [q]; exact ⟨_, hz, fun v q => nomatch q⟩
  ·rw [q]; exact ⟨_, hTI, fun v q => nomatch q⟩
  ·rw [q]; exact ⟨_, hTO, fun v q => nomatch q⟩
  ·rw [q]; exact ⟨o1, e1, fun v q => by rw [d1] at q; cases q⟩
  ·rw [q]; exact ⟨o2, e2, fun v q => by rw [d2] at q; cases q⟩
 keep := fun i h h' st k => by
  obtain ⟨hz, hTI, ⟨x, y, hTO⟩, h1, h2⟩ := st
  exact ⟨k z (by simp) _ hz, k TI (by simp) _ hTI, ⟨x, y, k TO (by simp) _ hTO⟩, h1.at fun o q => k i1 (by simp) o q, h2.at fun o q => k i2 (by simp) o q⟩
 item := by
  intro X hP hw hK hc i pins s σ H E I hf st hg
  subst hP hw hK
  obtain ⟨hz, hTI, ⟨x0, y0, hTO⟩, h1, h2⟩ := st
  obtain ⟨ys, y, hlt, hqy, hy⟩ := hg
  obtain ⟨its, rv, ht⟩ := kt_tuple I.kIn k
  obtain ⟨x, hx⟩ : ∃ x, xs[i]? = some x := ⟨xs[i], by simp [hlt]⟩
  obtain ⟨its2, rv2, p2, _⟩ := I.list hqy
  obtain ⟨u, hu, ru⟩ := rv.get hx
  obtain ⟨u2, hu2, ru2⟩ := rv2.get hy
  have hzl : z < s.heap.objs.size := Heap.lt_size hz
  refine nextZipTL_item D hz hTI hTO h1 h2 ht p2.isList (x := u) (y := u2) (by simpa using hu) (by simpa using hu2) fun h' z' TO' h1' h2' hT hsz hk => ?_
  refine ⟨_, rfl, wpAny_letOwnedTupleGo_zip (s := { s with heap := h' }) z' fun h'' z'' sb => ?_⟩
  have hT2 : h''.get? s.heap.objs.size = some { cls := .type "tuple", data := .seq #[u, u2] } := (sb.2 _ (Nat.ne_of_gt hzl)).trans hT
  have new : ObjOk X.prog X.w (upd H s.heap.objs.size (.tup [x, y])) h'' s.heap.objs.size (.tup [x, y]) :=
   ⟨by show 2 ≤ sizeLine; decide, [u, u2], .cons ru (.cons ru2 .nil), ⟨_, hT2, rfl, _, rfl⟩⟩
  have I1 : Inv X pins σ (upd H s.heap.objs.size (.tup [x, y])) { s with heap := h'' } :=
   I.turnedNew (t' := s.toks) (ch := [z, TI, TO, i1, i2]) (fun c o hb q => (sb.2 c (fun q' => hb (by simp [q']))).trans (hk c o (fun q' => hb (by simp [q'])) (fun q' => hb (by simp [q'])) (fun q' => hb (by simp [q'])) (fun q' => hb (by simp [q'])) q)) hf (Nat.le_refl _) new
  refine ⟨.ref s.heap.objs.size, _, I1, rfl, ⟨_, x, y, rfl, I.hok.fresh (Nat.le_refl _), rfl, hx, fun l hl => by rw [I.list_inj hl hqy]; exact hy⟩, ⟨z'', ?_, ⟨u, u2, ?_⟩, ?_, ?_⟩, fun c hcm => ?_⟩
  ·exact (sb.2 _ D.TIz).trans (hk _ _ D.TIz D.TITO D.TIi1 D.TIi2 hTI)
  ·exact (sb.2 _ D.TOz).trans TO'
  ·exact h1'.at fun o q => (sb.2 _ D.i1z).trans q
  ·exact h2'.at fun o q => (sb.2 _ D.i2z).trans q
  ·have hlt : c < s.heap.objs.size := by
    have e' : c = z ∨ c = TI ∨ c = TO ∨ c = i1 ∨ c = i2 := by simpa using hcm
    rcases e' with q | q | q | q | q
    ·rw [q]; exact hzl
    ·rw [q]; exact Heap.lt_size hTI
    ·rw [q]; exact Heap.lt_size hTO
    ·rw [q]; obtain ⟨_, e1, _⟩ := h1; exact Heap.lt_size e1
    ·rw [q]; obtain ⟨_, e2, _⟩ := h2; exact Heap.lt_size e2
   rw [upd_ne (Nat.ne_of_lt hlt)]
   exact (hf c hcm).1
 done := by
  intro X hP hw hK hc i pins s σ H E I hf st hg
  subst hP hw hK
  obtain ⟨hz, hTI, ⟨x0, y0, hTO⟩, h1, h2⟩ := st
  obtain ⟨ys, hqy, hend⟩ := hg
  obtain ⟨its, rv, ht⟩ := kt_tuple I.kIn k
  obtain ⟨its2, rv2, p2, _⟩ := I.list hqy
  have l1 := rv.length
  have l2 := rv2.length
  have he : its.toArray[i]? = none ∨ its2.toArray[i]? = none := by
   rcases hend with q | q
   ·exact .inl (by simp; omega)
   ·exact .inr (by simp; omega)
  exact nextZipTL_end (I.ok.hd hc) D hz hTI hTO h1 h2 ht p2.isList he fun h' hk => ⟨rfl, I.turnedL (t' := s.toks) (ch := [z, TI, TO, i1, i2]) (fun c o hb q =>
   hk c o (fun q' => hb (by simp [q'])) (fun q' => hb (by simp [q'])) (fun q' => hb (by simp [q'])) (fun q' => hb (by simp [q'])) q) hf⟩
 self := fun A i s Q E st h => wpAny_pyIter_zip st.1 h
def iZipT (K : PySem.W.Frag) (ta : TA) : TI := fun σ H R => ta σ H fun vs H1 => ∃ a b xs ys, vs = [.ref a, .ref b] ∧ KT K a xs ∧ SqL K H1 b ys ∧ R (ItzT K b xs) H1
theorem pi_zipT {X : Cx} {e e2 : Expr} {ta : TA} {p pos tpos : Pos} {elts : List Expr} {kk : Nat} (hg : Gl X "zip") (hm : X.mg "zip" = none) (ha : PA X [e, e2] ta)
  (hs : starEach [e, e2] X.env = (false, eval e X.env) :: starEach [e2] X.env := by rfl) (hpl : (backTo pos (starEach [e2] X.env)).any (·.1) = false := by rfl) :
  PI X (.Tuple elts kk tpos) (.Call (.Name "zip" p) [e, e2] [] pos) (iZipT X.K ta) := by
 intro pins s σ H R I h
 refine Call_ (ld_blt I hg hm boot_zip5 (PyProof.Rows.callWith_type1 (thn (ha pos pins s σ H _ I h) fun us s1 ⟨vs, H1, I1, r1, q1⟩ => ?_) hs hpl))
 obtain ⟨a, b, xs, ys, ex, hqx, hqy, q⟩ := q1
 subst ex
 cases r1 with
 | cons r rr =>
  cases rr with
  | cons r' rr =>
   cases rr
   cases r
   cases r'
   obtain ⟨its, rv, ht⟩ := kt_tuple I1.kIn hqx
   obtain ⟨its2, rv2, p2, _⟩ := I1.list hqy
   have la : a < s1.heap.objs.size := by obtain ⟨_, q, _⟩ := ht; exact Heap.lt_size q
   have lb : b < s1.heap.objs.size := p2.lt
   refine call_zipTL ht p2.isList fun h' hz hTI hTO h1 h2 hsz hk => wpAny_pyIter_zip hz ?_
   have I2 : Inv X pins σ H1 { s1 with heap := h' } := I1.kept (t' := s1.toks) hk
   refine ⟨s1.heap.objs.size + 4, [s1.heap.objs.size + 4, s1.heap.objs.size + 2, s1.heap.objs.size + 3, s1.heap.objs.size, s1.heap.objs.size + 1], _, _, H1, rfl, I2, turn_zipT hqx (PySem.W.ktu_apart s1.heap.objs.size a b la lb), ⟨hz, hTI, ⟨_, _, hTO⟩, h1, h2⟩, fun c hcm => ?_, q⟩
   have e' : c = s1.heap.objs.size + 4 ∨ c = s1.heap.objs.size + 2 ∨ c = s1.heap.objs.size + 3 ∨ c = s1.heap.objs.size ∨ c = s1.heap.objs.size + 1 := by simpa using hcm
   have hle : s1.heap.objs.size ≤ c := by
    rcases e' with z | z | z | z | z <;> (rw [z]; omega)
   exact I1.fpOk hle (I1.hok.fresh hle)
theorem for_zipT {K : PySem.W.Frag} {b : Addr} {xs ys : List V} {g : TG} {tb : TS} {D : Ends} {σ : L2.St} {H : Hp} (hlen : xs.length ≤ ys.length) (Pv : Nat → L2.St → Hp → Prop) (h0 : Pv 0 σ H) (hl : ∀ i σ H, i ≤ xs.length → Pv i σ H → SqL K H b ys)
  (hs : ∀ i x y σ H T, xs[i]? = some x → ys[i]? = some y → Pv i σ H → H T = none → g (.ref T) σ (upd H T (.tup [x, y])) fun σ2 H2 => tb { D with nx := Pv (i + 1), ct := Pv (i + 1), bk := D.nx } σ2 H2) (hd : ∀ σ H, Pv xs.length σ H → D.nx σ H) : forJ (ItzT K b xs) g tb D σ H := by
 refine ⟨fun i m σ H => m = xs.length - i ∧ i ≤ xs.length ∧ Pv i σ H, ⟨xs.length, by simp, Nat.zero_le _, h0⟩, ?_⟩
 rintro i m σ H ⟨rfl, hi, p⟩
 have q := hl i σ H hi p
 by_cases hlt : i < xs.length
 ·refine .inr ⟨⟨ys, ys[i], hlt, q, by simp⟩, Pv (i + 1), fun σ' H' p' => ⟨xs.length - (i + 1), by omega, rfl, hlt, p'⟩, fun x H' y => ?_⟩
  obtain ⟨T, x1, y1, rfl, hT, rfl, hx, hy⟩ := y
  exact hs i x1 y1 σ H T hx (hy ys q) p hT
 ·have e : i = xs.length := by omega
  subst e
  exact .inl ⟨⟨ys, q, .inl (Nat.le_refl _)⟩, hd σ H p⟩
theorem ap_iZipT {K : PySem.W.Frag} {tr : TA} {σ : L2.St} {H : Hp} {R : It → Hp → Prop} : iZipT K tr σ H R = tr σ H fun vs H1 => ∃ a b xs ys, vs = [.ref a, .ref b] ∧ KT K a xs ∧ SqL K H1 b ys ∧ R (ItzT K b xs) H1 := rfl
end
abbrev NE := NK × Addr × V
def NRel (p : NE) (q : NK × Addr × Value) : Prop := p.1 = q.1 ∧ p.2.1 = q.2.1 ∧ RelV p.2.2 q.2.2
def DN (P : Program) (w : World) (d : Addr) (kvs : List NE) : HO := .ext fun h => kvs.length ≤ sizeLine ∧ (d == sysModules) = false ∧ ∃ xs : List (NK × Addr × Value), Paired NRel kvs xs ∧
 ∃ o es ep, h.get? d = some o ∧ o.ExactDict ∧ o.data = .dict es ep ∧ es.toList = xs.map (entryOfKey (nestKind P w)) ∧ (xs.map (·.1)).Nodup
inductive NVals (H : Hp) : List V → NK → Prop
 | nil : NVals H [] []
 | non {vs : List V} {ks : NK} : NVals H vs ks → NVals H (.non :: vs) (none :: ks)
 | tup {a : Addr} {l : List Int} {vs : List V} {ks : NK} : H a = some (.tup (l.map V.int)) → NVals H vs ks → NVals H (.ref a :: vs) (some l :: ks)
def NKeyAt (H : Hp) (b : Addr) (ks : NK) : Prop := ∃ vs, H b = some (.tup vs) ∧ NVals H vs ks
theorem NVals.same {H H' : Hp} {vs : List V} {ks : NK} (x : NVals H vs ks) (s : ∀ b ys, H b = some (.tup ys) → H' b = some (.tup ys)) : NVals H' vs ks := by
 induction x with
 | nil => exact .nil
 | non _ ih => exact .non ih
 | tup e _ ih => exact .tup (s _ _ e) ih
theorem NKeyAt.same {H H' : Hp} {b : Addr} {ks : NK} (x : NKeyAt H b ks) (s : ∀ b ys, H b = some (.tup ys) → H' b = some (.tup ys)) : NKeyAt H' b ks := by
 obtain ⟨vs, e, q⟩ := x
 exact ⟨vs, s _ _ e, q.same s⟩
section
variable {P : Program} {w : World} {H : Hp} {h : Heap}
theorem int_items : ∀ {l : List Int} {us : List Value}, Vals (l.map V.int) us → ItemsAre (intKind P w) l us
 | [], _, r => by rw [List.map_nil] at r; cases r; exact .nil
 | k :: ks, _, r => by
  rw [List.map_cons] at r
  cases r with
  | cons h t =>
   obtain ⟨u, rfl⟩ := h
   exact .cons (by simp [intKind, Value.isInt]) (int_items t)
theorem nitems_of (ok : HOk P w H h) : ∀ {vs : List V} {ks : NK} {us : List Value}, NVals H vs ks → Vals vs us → NItems P w h ks us
 | _, _, _, .nil, r => by cases r; exact .nil
 | _, _, _, .non q, r => by
  cases r with
  | cons h t =>
   cases h
   exact .cons rfl (nitems_of ok q t)
 | _, _, _, .tup e q, r => by
  cases r with
  | cons h t =>
   cases h
   obtain ⟨_, its, rv, o, h1, h2, n, h3⟩ := (show ObjOk P w H _ _ (.tup _) from ok _ _ e)
   exact .cons ⟨_, rfl, o, its.toArray, n, h1, h2, h3, by simpa using int_items rv⟩ (nitems_of ok q t)
theorem nkey_of {b : Addr} {ks : NK} (ok : HOk P w H h) (x : NKeyAt H b ks) : IsNKey P w h ks b := by
 obtain ⟨vs, e, q⟩ := x
 obtain ⟨_, its, rv, o, h1, h2, n, h3⟩ := (show ObjOk P w H h b (.tup vs) from ok b _ e)
 exact ⟨o, its.toArray, n, h1, h2, h3, by simpa using nitems_of ok q rv⟩
def valN (kvs : List NE) (k : NK) : Option V := (kvs.find? fun kv => decide (kv.1 = k)).map (·.2.2)
theorem rel_val {kvs : List NE} {xs : List (NK × Addr × Value)} (r : Paired NRel kvs xs) (k : NK) : RelO (valN kvs k) ((atKey xs k).map (·.2)) := by
 induction r with
 | nil => exact True.intro
 | @cons p q ps qs h t ih =>
  obtain ⟨h1, _, h2⟩ := h
  by_cases e : p.1 = k
  ·have e' : q.1 = k := h1.symm.trans e
   have a1 : valN (p :: ps) k = some p.2.2 := by simp [valN, List.find?_cons, e]
   have b : atKey (q :: qs) k = some q.2 := by simp [atKey, List.find?_cons, e']
   rw [a1, b]; exact h2
  ·have e' : ¬ q.1 = k := fun z => e (h1.trans z)
   have a1 : valN (p :: ps) k = valN ps k := by simp [valN, List.find?_cons, e]
   have b : atKey (q :: qs) k = atKey qs k := by simp [atKey, List.find?_cons, e']
   rw [a1, b]; exact ih
theorem rel_keys {kvs : List NE} {xs : List (NK × Addr × Value)} (r : Paired NRel kvs xs) (hk : ∀ p ∈ kvs, NKeyAt H p.2.1 p.1) (ok : HOk P w H h) : ∀ x ∈ xs, (nestKind P w).is h x.1 x.2.1 := by
 induction r with
 | nil => intro x hx; cases hx
 | @cons p q ps qs e t ih =>
  intro x hx
  rcases List.mem_cons.mp hx with rfl | hx
  ·obtain ⟨h1, h2, _⟩ := e
   have := nkey_of ok (hk p (List.mem_cons_self ..))
   rw [h1, h2] at this
   exact this
  ·exact ih (fun p hp => hk p (List.mem_cons_of_mem _ hp)) x hx
end
section
variable {prog : Program} {w : World} {K : Type} [DecidableEq K] {knd : HeapKind prog w K} {A : Around} {E : Value → Shared → Prop} {s : Shared}
theorem setdef_heap {d a : Addr} {xs : List (K × Addr × Value)} {k : K} {v : Value} {Q : Value → Shared → Prop} (hu : knd.room A) (hkey : knd.is s.heap k a) (hm : s.heap.DictOfH knd d xs)
  (h1 : ∀ p, atKey xs k = some p → Q p.2 { s with toks := s.toks + knd.draws k }) (h2 : atKey xs k = none → ∀ g : Heap, g.DictOfH knd d (xs ++ [(k, a, v)]) → Heap.SameBut d s.heap g → Q v { s with heap := g, toks := s.toks + knd.draws k })
  (hsz : xs.length ≤ sizeLine) : wpAny (model prog w) A (dictSetDefault d (.ref a) v) Q E s := by
 obtain ⟨o, es, ep, ho, hc, hd, he, his, hn⟩ := hm
 unfold dictSetDefault
 try with_reducible refine wpAny_holding ?_
 refine wpAny_bind (knd.pyHash hu hkey (wpAny_bind (wpAny_dictFind_heap (s := { s with toks := s.toks + knd.draws k }) hu hkey ho hd he his hn ?_ ?_)))
 ·intro hno
  have hnot : k ∉ xs.map (·.1) := not_mem_keys_of_get hno
  refine wpAny_bind (wpAny_rule (wpAny_bind (wpAny_updateDictKeys (hz := by have e := size_of_entries he; omega) (s := { s with toks := s.toks + knd.draws k }) ho hd (wpAny_pure (h2 (atKey_none_of_get hno) _
   ⟨_, _, ep + 1, Heap.get?_update_self _ ho (Obj.isFreed_of_dict (Obj.data_mapDictKeys hd _)), hc.mapDictKeys _, Obj.data_mapDictKeys hd _, ?_, ?_, ?_⟩ (Heap.SameBut.update ..))))))
  ·simp [he, entryOfKey]
  ·intro x hx
   rcases List.mem_append.mp hx with hx | hx
   ·exact knd.keeps (his x hx) ho hd (Heap.SameBut.update ..)
   ·rw [List.mem_singleton.mp hx]
    exact knd.keeps hkey ho hd (Heap.SameBut.update ..)
  ·rw [List.map_append, List.nodup_append]
   refine ⟨hn, by simp, fun x hx y hy => ?_⟩
   rw [List.map_cons, List.map_nil] at hy
   rw [List.mem_singleton.mp hy]
   exact fun e => hnot (by rw [show k = x from e.symm]; exact hx)
 ·intro j p hj
  have q := h1 p (atKey_of_get hn hj)
  refine wpAny_bind (wpAny_dictEntries (s := { s with toks := s.toks + knd.draws k }) ho hd ?_)
  rw [entry_at he j, hj]
  exact wpAny_bind (wpAny_rule (wpAny_pure q))
theorem meets_setdef {d a : Addr} (hd : (d == sysModules) = false) (dflt : Value) :
  MeetsIn prog w (Builtin.«dict.setdefault» ⟨[.ref d, .ref a, dflt], []⟩) (fun A R s => knd.room A.in1 ∧ ∃ k xs, knd.is s.heap k a ∧ s.heap.DictOfH knd d xs ∧ xs.length ≤ sizeLine ∧
   (∀ p, atKey xs k = some p → R (.ok (.ret p.2)) { s with toks := s.toks + knd.draws k }) ∧
   (atKey xs k = none → ∀ g : Heap, g.DictOfH knd d (xs ++ [(k, a, dflt)]) → Heap.SameBut d s.heap g → R (.ok (.ret dflt)) { s with heap := g, toks := s.toks + knd.draws k })) :=
 .of_wp fun A R s ⟨hu, k, xs, hkey, hm, hz, h1, h2⟩ => by
  unfold Builtin.«dict.setdefault»
  refine wpAny_bind ?_
  unfold Builtin.Dict.keyAndDefault
  refine wpAny_bind (wpAny_notOrdered_dict hm.typeIs ?_)
  show wpAny _ _ (pure (d, Value.ref a, some dflt)) _ _ s
  refine wpAny_pure ?_
  show wpAny _ _ (if (d == sysModules) = true then _ else (dictSetDefault d (.ref a) dflt >>= _)) _ _ s
  rw [if_neg (by rw [hd]; exact Bool.false_ne_true)]
  exact wpAny_bind (setdef_heap hu hkey hm (fun p hp => wpAny_pure ⟨_, rfl, h1 p hp⟩) (fun hn g hg hs => wpAny_pure ⟨_, rfl, h2 hn g hg hs⟩) hz)
end
section
variable {X : Cx} {pins : List (Addr × Obj)} {σ : L2.St} {H : Hp} {s : Shared} {d : Addr} {kvs : List NE}
theorem dn_of (I : Inv X pins σ H s) (e : H d = some (DN X.prog X.w d kvs)) (hk : ∀ p ∈ kvs, NKeyAt H p.2.1 p.1) : kvs.length ≤ sizeLine ∧ (d == sysModules) = false ∧ ∃ xs, Paired NRel kvs xs ∧ s.heap.DictOfH (nestKind X.prog X.w) d xs := by
 obtain ⟨⟨z, hd, xs, r, o, es, ep, h1, h2, h3, h4, h5⟩, _, _⟩ := (show ObjOk X.prog X.w H s.heap d (DN X.prog X.w d kvs) from I.hok d _ e)
 exact ⟨z, hd, xs, r, o, es, ep, h1, h2, h3, h4, rel_keys r hk I.hok, h5⟩
theorem dn_type (I : Inv X pins σ H s) (e : H d = some (DN X.prog X.w d kvs)) : s.TypeIs (.ref d) "dict" ∧ (∀ b, Value.ref d = .ref b → ∃ ob, s.heap.get? b = some ob ∧ ob.dict = none) := by
 obtain ⟨⟨z, hd, xs, r, o, es, ep, h1, h2, h3, h4, h5⟩, _, _⟩ := (show ObjOk X.prog X.w H s.heap d (DN X.prog X.w d kvs) from I.hok d _ e)
 refine ⟨⟨o, h1, h2.1⟩, fun b q => ?_⟩
 cases q
 exact ⟨o, h1, h2.2.1⟩
theorem dn_ok {P : Program} {w : World} {H : Hp} {h : Heap} {kvs : List NE} {xs : List (NK × Addr × Value)} (z : kvs.length ≤ sizeLine) (hd : (d == sysModules) = false) (r : Paired NRel kvs xs) (q : ∃ o es ep, h.get? d = some o ∧ o.ExactDict ∧ o.data = .dict es ep ∧ es.toList = xs.map (entryOfKey (nestKind P w)) ∧ (xs.map (·.1)).Nodup) :
  ObjOk P w H h d (DN P w d kvs) := by
 refine ⟨⟨z, hd, xs, r, q⟩, ?_, ?_⟩
 ·obtain ⟨o, _, _, h1, _⟩ := q
  exact ⟨o, h1⟩
 ·rintro h1 h2 ⟨z, hd, xs, r, o, es, ep, e1, e2⟩ hk
  exact ⟨z, hd, xs, r, o, es, ep, hk o e1, e2⟩
end
def tDNewN (P : Program) (w : World) : TE := fun _ H Q => ∀ p, H p = none → Q (.ref p) (upd H p (DN P w p []))
theorem pe_dnewN {X : Cx} {pos : Pos} : PE X (.Dict [] [] pos) (tDNewN X.prog X.w) := fun pins s σ H Q I h =>
 wpAny_Dict_empty ⟨.ref s.heap.objs.size, _, I.laid (a := s.heap.objs.size) (o := DN X.prog X.w s.heap.objs.size []) (t' := s.toks) (fun _ _ q => Heap.get?_push_of_some _ q) (Nat.le_refl _)
  (dn_ok (Nat.zero_le _) (beq_eq_false_iff_ne.mpr (Ne.symm (Nat.ne_of_lt I.big))) .nil ⟨_, #[], 0, Heap.get?_push_size _ rfl, ⟨rfl, rfl, rfl⟩, rfl, rfl, List.nodup_nil⟩), rfl, h _ (I.hok.fresh (Nat.le_refl _))⟩
def tSetDef (P : Program) (w : World) (td ty tx : TE) : TE := fun σ H Q => td σ H fun x H1 => ∃ a, x = .ref a ∧ (∃ kvs, H1 a = some (DN P w a kvs)) ∧ ty σ H1 fun y H2 => tx σ H2 fun z H3 => ∃ b ks kvs, y = .ref b ∧ NKeyAt H3 b ks ∧ H3 a = some (DN P w a kvs) ∧
 (∀ p ∈ kvs, NKeyAt H3 p.2.1 p.1) ∧ kvs.length < sizeLine ∧ (∀ v, valN kvs ks = some v → Q v H3) ∧ (valN kvs ks = none → Q z (upd H3 a (DN P w a (kvs ++ [(ks, b, z)]))))
theorem pe_setdef {X : Cx} {o e f : Expr} {apos cpos : Pos} {td ty tx : TE} (hu : X.A.units + 64 < cLine) (ho : PE X o td) (he : PE X e ty) (hf : PE X f tx) (m : M2 X o "setdefault" apos e f cpos) : PE X (.Call (.Attribute o "setdefault" apos) [e, f] [] cpos) (tSetDef X.prog X.w td ty tx) := by
 intro pins s σ H Q I h
 refine wpAny_Call_method m.base m.few m.line PySem.F.plainAttrs_dict PySem.F.slot_dict_setdefault PySem.F.type_dict_setdefault (thn (ho pins s σ H _ I h) fun u s1 ⟨x, H1, I1, rx, a, ex, ⟨kvs0, d0⟩, q1⟩ => ?_)
 subst ex
 obtain rfl : u = Value.ref a := rx
 obtain ⟨t1, t2⟩ := dn_type I1 d0
 refine ⟨t1, t2, ?_⟩
 rw [m.trees]
 refine Calls.callWith_builtin rfl (Calls.evalArgs_plain (Calls.spliced_cons (thn (he pins s1 σ H1 _ I1 q1) fun iv s2 ⟨y, H2, I2, ry, q2⟩ =>
  Calls.spliced_cons (thn (hf pins s2 σ H2 _ I2 q2) fun fv s3 ⟨z, H3, I3, rz, b, ks, kvs, ey, hb, hd, hk, hl, g1, g2⟩ => Calls.spliced_nil ?_))))
 subst ey
 cases (show iv = Value.ref b from ry)
 obtain ⟨zz, hsys, xs, r, dd⟩ := dn_of I3 hd hk
 have hlen : kvs.length = xs.length := Paired.length r
 have hval := rel_val r ks
 refine call_meetsIn PySem.F.slot_dict_setdefault dd.typeIs PySem.F.entry_dict_setdefault (PySem.F.args_dict_setdefault_3 _ _ _) (meets_setdef (knd := nestKind X.prog X.w) hsys fv)
  ⟨show X.A.in1.units + 3 < cLine by simp only [Around.in1_units]; omega, ks, xs, nkey_of I3.hok hb, dd, by omega, fun p hp => ?_, fun hn g hg hs => ?_⟩
 ·rw [hp] at hval
  cases ev : valN kvs ks with
  | none => rw [ev] at hval; exact hval.elim
  | some v =>
   rw [ev] at hval
   exact ⟨v, H3, I3.tok _, hval, g1 v ev⟩
 ·rw [hn] at hval
  have ev : valN kvs ks = none := by
   cases ev : valN kvs ks with
   | none => rfl
   | some v => rw [ev] at hval; exact hval.elim
  obtain ⟨q, es, ep, hq, h2, h3, h4, _, h5⟩ := hg
  refine ⟨z, _, d_write I3 (by rw [hd]; exact True.intro) hs ⟨q, hq⟩ (dn_ok (xs := xs ++ [(ks, b, fv)]) (by rw [List.length_append]; show kvs.length + 1 ≤ sizeLine; omega) hsys (Paired.snoc r ⟨rfl, rfl, rz⟩) ⟨q, es, ep, hq, h2, h3, h4, h5⟩), rz, g2 ev⟩
def tGetN (P : Program) (w : World) (td ty tx : TE) : TE := fun σ H Q => td σ H fun x H1 => ∃ a, x = .ref a ∧ (∃ kvs, H1 a = some (DN P w a kvs)) ∧ ty σ H1 fun y H2 => tx σ H2 fun z H3 => ∃ b ks kvs, y = .ref b ∧ NKeyAt H3 b ks ∧ H3 a = some (DN P w a kvs) ∧
 (∀ p ∈ kvs, NKeyAt H3 p.2.1 p.1) ∧ Q ((valN kvs ks).getD z) H3
theorem pe_getN {X : Cx} {o e f : Expr} {apos cpos : Pos} {td ty tx : TE} (hu : X.A.units + 64 < cLine) (ho : PE X o td) (he : PE X e ty) (hf : PE X f tx) (m : M2 X o "get" apos e f cpos) : PE X (.Call (.Attribute o "get" apos) [e, f] [] cpos) (tGetN X.prog X.w td ty tx) := by
 intro pins s σ H Q I h
 refine wpAny_Call_method m.base m.few m.line PySem.F.plainAttrs_dict PySem.F.slot_dict_get PySem.F.type_dict_get (thn (ho pins s σ H _ I h) fun u s1 ⟨x, H1, I1, rx, a, ex, ⟨kvs0, d0⟩, q1⟩ => ?_)
 subst ex
 obtain rfl : u = Value.ref a := rx
 obtain ⟨t1, t2⟩ := dn_type I1 d0
 refine ⟨t1, t2, ?_⟩
 rw [m.trees]
 refine Calls.callWith_builtin rfl (Calls.evalArgs_plain (Calls.spliced_cons (thn (he pins s1 σ H1 _ I1 q1) fun iv s2 ⟨y, H2, I2, ry, q2⟩ =>
  Calls.spliced_cons (thn (hf pins s2 σ H2 _ I2 q2) fun fv s3 ⟨z, H3, I3, rz, b, ks, kvs, ey, hb, hd, hk, g⟩ => Calls.spliced_nil ?_))))
 subst ey
 cases (show iv = Value.ref b from ry)
 obtain ⟨zz, hsys, xs, r, dd⟩ := dn_of I3 hd hk
 have hval := rel_val r ks
 refine call_meetsIn PySem.F.slot_dict_get dd.typeIs PySem.F.entry_dict_get (PySem.F.args_dict_get_3 _ _ _) (meetsH_dict_get_default (nestKind X.prog X.w) a b hsys fv)
  ⟨show X.A.in1.units + 3 < cLine by simp only [Around.in1_units]; omega, ks, xs, nkey_of I3.hok hb, dd, ⟨_, H3, I3.tok _, hval.getD rz, g⟩⟩
local macro_rules | `(tactic| walk_at "S") => do
 let w := fun (s : String) => (s.splitOn " ").toArray.map fun x => Lean.mkIdent x.toName
 let a := w "ap_tVar ap_tC ap_tOp ap_tUn ap_rI ap_rI0 ap_rU ap_rEq ap_rNe ap_tTest ap_tB ap_tChain ap_tAnd ap_tOr ap_tNot ap_tAndV ap_tOrV ap_tNotV ap_tNext ap_tSeq ap_tDrop ap_tRet ap_tRetN ap_tIfS ap_gName ap_tAsg ap_tNil ap_tCons ap_tTup ap_tLst ap_tCall ap_tCB ap_tCT ap_rIxL ap_rIxT ap_scal ap_CDiv ap_CMul L2.start List.map_cons List.map_nil List.length_cons List.length_nil List.cons_append List.nil_append List.append_nil List.getElem?_cons_zero List.getElem?_cons_succ List.set_cons_zero List.set_cons_succ Option.some.injEq V.int.injEq V.bl.injEq V.ref.injEq V.str.injEq exists_eq_left exists_eq_left' exists_eq_right exists_and_left true_and and_true decide_eq_true_eq Nat.reduceAdd Nat.reduceSub List.reduceReplicate Bool.not_eq_true' decide_eq_false_iff_not List.cons.injEq and_self reduceCtorEq ap_tFor ap_tLc ap_iList ap_iTup ap_iRng1 ap_iRng2 ap_iEnum ap_iStr cx_K if_false if_true Bool.false_eq_true"
 let b := w "and_assoc ap_tBM ap_tBM0 ap_tyS ap_tYes ap_tMeth ap_tMake ap_tFld ap_sFld ap_tSl ap_tNoPart ap_tPart ap_rSlL ap_rAppend ap_rExtend ap_rCat ap_rEqD ap_rNeD ap_gTup ap_gNil ap_gCons HO.ins.injEq HO.lst.injEq HO.tup.injEq exists_and_right ap_iEnumT ap_iZipT ap_tCTT ap_rSlS ap_tDGet ap_sDPut ap_tDisp ap_tPairs0 ap_tPairs1 ap_tDNewK ap_rCatT"
 `(tactic| simp only [$[$a:ident],*, ↓reduceIte, $[$b:ident],*])
def PartsAt (H : Hp) (p : Addr) (ps : List Vaflxm.Text) : Prop := ∃ as : List Addr, H p = some (.lst (as.map V.ref)) ∧ as.length = ps.length ∧ ∀ (i : Nat) (a : Addr) (t : Vaflxm.Text), as[i]? = some a → ps[i]? = some t → H a = some (.lst (tv t))
section
variable {P : Program} {w : World} {K : PySem.W.Frag} {mg : Str → Option Value} {base : Heap}
theorem PartsAt.push {H : Hp} {p a : Addr} {ps : List Vaflxm.Text} {t : Vaflxm.Text} {as : List Addr} (hp : H p = some (.lst (as.map V.ref))) (hl : as.length = ps.length) (hs : ∀ (i : Nat) (a : Addr) (t : Vaflxm.Text), as[i]? = some a → ps[i]? = some t → H a = some (.lst (tv t)))
  (hne : a ≠ p) (hnp : ∀ b ∈ as, b ≠ p) (ha : H a = some (.lst (tv t))) : ∀ (i : Nat) (b : Addr) (u : Vaflxm.Text), (as ++ [a])[i]? = some b → (ps ++ [t])[i]? = some u → (upd H p (.lst ((as ++ [a]).map V.ref))) b = some (.lst (tv u)) := by
 intro i b u h1 h2
 by_cases hi : i < as.length
 ·rw [List.getElem?_append_left hi] at h1
  rw [List.getElem?_append_left (by omega)] at h2
  rw [upd_ne (hnp b (List.mem_of_getElem? h1))]
  exact hs i b u h1 h2
 ·rw [List.getElem?_append_right (by omega)] at h1
  rw [List.getElem?_append_right (by omega)] at h2
  have z : i = as.length := by
   have := (List.getElem?_eq_some_iff.mp h1).1
   simp at this
   omega
  subst z
  rw [Nat.sub_self] at h1
  rw [← hl, Nat.sub_self] at h2
  have e1 : a = b := Option.some.inj h1
  have e2 : t = u := Option.some.inj h2
  subst e1 e2
  rw [upd_ne hne]
  exact ha
def sp_split_at (K : PySem.W.Frag) : Sp := fun vs H Q _ => ∃ (a : Addr) (t : Vaflxm.Text) (s : UInt8), vs = [.ref a, .int (s.toNat : Nat)] ∧ SqL K H a (tv t) ∧ t.length ≤ 10000 ∧ ∀ p H', Same H H' → H p = none → PartsAt H' p (Tm.splitT s t) → Q (.ref p) H'
abbrev s_split_at : Stmt := top 30
theorem sc_split_at : FnScope ["text", "separator", "parts", "start", "place", "sign"] ["text", "separator"] (defScope s_split_at) := by walk_at "N"
theorem ok_split_at (T : Txt K mg) (D : Def K mg "split_at" s_split_at ["text", "separator"]) : Ok P w K mg base 1 "split_at" ["text", "separator"] (sp_split_at K) := by
 refine D.ok sc_split_at (fun vs H Q E h => ?_) (fun f cdv A outer s H vs Q E hr h => ?_)
 ·obtain ⟨y, m, g, rfl, _⟩ := h
  rfl
 ·obtain ⟨a, t, s, rfl, ha, hz, k⟩ := h
  refine ⟨_, (pss_cons (ps_set (i := 2) sc_split_at.nd rfl (Or.inl rfl) (pe_lst pa_nil))
   (pss_cons (ps_set (i := 3) sc_split_at.nd rfl (Or.inl rfl) pe_int)
   (pss_cons (ps_for PassesOwn.never rfl (pi_enum (by rfl) T.n_enumerate (pa_cons (pv 0) pa_nil)) (pg_tup (n := 2) rfl (pgs_cons (pg_name (i := 4) sc_split_at.nd rfl (Or.inl rfl)) (pgs_cons (pg_name (i := 5) sc_split_at.nd rfl (Or.inl rfl)) pgs_nil))) (pss_one (ps_if (pt_cmpR op_eq (pv 5) (pv 1) (nomark _)) (pss_cons (ps_expr (pe_bm PySem.F.plainAttrs_list PySem.F.slot_list_append PySem.F.type_list_append mt_append (pv 2) (pa_cons (pe_slice sl_list (pv 0) (po_some (pv 3)) (po_some (pv 4))) pa_nil)))
   (pss_one (ps_set (i := 3) sc_split_at.nd rfl (Or.inl rfl) (pe_op op_add (pv 4) pe_int)))) pss_nil)))
   (pss_cons (ps_expr (pe_bm PySem.F.plainAttrs_list PySem.F.slot_list_append PySem.F.type_list_append mt_append (pv 2) (pa_cons (pe_slice sl_list (pv 0) (po_some (pv 3)) po_none) pa_nil)))
   (pss_one (ps_ret (pv 2))))))), ?_⟩
  walk_at "S"
  refine ⟨Nat.zero_le _, fun p hp => ?_⟩
  have lt : (tv t).length = t.length := by simp [tv]
  have hs9 := sizeLine_eq
  obtain ⟨Pv, hPv⟩ : ∃ Pv : Nat → L2.St → Hp → Prop, Pv = fun i σ H' => ∃ (v4 v5 : Option V) (st : Nat), σ = [some (.ref a), some (.int (s.toNat : Nat)), some (.ref p), some (.int st), v4, v5] ∧ Same H H' ∧ st ≤ i ∧
   ∃ (as : List Addr) (ps : List Vaflxm.Text), H' p = some (.lst (as.map V.ref)) ∧ as.length = ps.length ∧ as.length ≤ i ∧ (∀ b ∈ as, b ≠ p) ∧ (∀ (i : Nat) (a : Addr) (t : Vaflxm.Text), as[i]? = some a → ps[i]? = some t → H' a = some (.lst (tv t))) ∧
    ps ++ Tm.splitGo s ((t.drop st).take (i - st)) (t.drop i) = Tm.splitT s t := ⟨_, rfl⟩
  have sa : ∀ {H' : Hp}, Same H H' → SqL K H' a (tv t) := fun s' => s'.seq ha
  refine ⟨⟨_, sa (same_new hp)⟩, for_enum (xs := tv t) Pv ?_ ?_ ?_ ?_⟩
  ·rw [hPv]
   exact ⟨none, none, 0, rfl, same_new hp, Nat.le_refl _, [], [], upd_same, rfl, Nat.le_refl _, (fun _ h => by cases h), (fun _ _ _ h => by simp at h), by simp [Tm.splitT]⟩
  ·intro i σ H' _ h
   rw [hPv] at h
   obtain ⟨v4, v5, st, rfl, hs, _⟩ := h
   exact sa hs
  ·intro i x σ H' T hx h hT
   rw [hPv] at h
   obtain ⟨v4, v5, st, rfl, hs, hst, as, ps, hpp, hal, hai, hnp, hat, he⟩ := h
   have hi : i < t.length := by
    have := (List.getElem?_eq_some_iff.mp hx).1
    omega
   have ex : x = .int ((t[i].toNat : Nat) : Int) := by
    have : (tv t)[i]? = some (.int ((t[i].toNat : Nat) : Int)) := by simp [tv, List.getElem?_eq_getElem hi]
    exact Option.some.inj (hx.symm.trans this)
   subst ex
   have npT : p ≠ T := ne_of_none hpp hT
   obtain ⟨H2, hH2⟩ : ∃ H2, H2 = upd H' T (.tup [.int (i : Nat), .int ((t[i].toNat : Nat) : Int)]) := ⟨_, rfl⟩
   have s12 : Same H' H2 := by rw [hH2]; exact same_new hT
   have s02 : Same H H2 := hs.trans s12
   have hT2 : H2 T = some (.tup [.int (i : Nat), .int ((t[i].toNat : Nat) : Int)]) := by rw [hH2]; exact upd_same
   have hp2 : H2 p = some (.lst (as.map V.ref)) := s12 _ _ hpp
   have hat2 : ∀ (i : Nat) (a : Addr) (t : Vaflxm.Text), as[i]? = some a → ps[i]? = some t → H2 a = some (.lst (tv t)) := fun i a t q1 q2 => s12 _ _ (hat i a t q1 q2)
   rw [← hH2]
   have hdr : t.drop i = t[i] :: t.drop (i + 1) := List.drop_eq_getElem_cons hi
   walk_at "S"
   refine ⟨_, sqT_of hT2, rfl, _, _, rfl, _, _, rfl, rfl, rfl, ?_⟩
   split
   ·rename_i hq
    have eq : t[i] = s := by
     rw [← UInt8.toNat_inj]
     injection hq with hq
     omega
    refine ⟨tyL_of (sqL_of hp2), _, rfl, _, sa s02, fun q hq2 => ?_⟩
    rw [cut_mid]
    have npq : p ≠ q := ne_of_none hp2 hq2
    have e5 : ((tv t).drop st).take (i - st) = tv ((t.drop st).take (i - st)) := by simp [tv, List.map_take, List.map_drop]
    rw [e5]
    obtain ⟨H3, hH3⟩ : ∃ H3, H3 = upd H2 q (.lst (tv ((t.drop st).take (i - st)))) := ⟨_, rfl⟩
    have s23 : Same H2 H3 := by rw [hH3]; exact same_new hq2
    have hq3 : H3 q = some (.lst (tv ((t.drop st).take (i - st)))) := by rw [hH3]; exact upd_same
    rw [← hH3]
    have hp3 := s23 _ _ hp2
    refine ⟨_, hp3, by rw [List.length_map]; omega, _, rfl, ?_⟩
    rw [hPv]
    refine ⟨_, _, i + 1, rfl, (s02.trans s23).put hp, Nat.le_refl _, as ++ [q], ps ++ [(t.drop st).take (i - st)], ?_, by simp [hal], by simp; omega, ?_, ?_, ?_⟩
    ·rw [upd_same]; simp
    ·intro b hb
     rcases List.mem_append.mp hb with h | h
     ·exact hnp b h
     ·rw [List.mem_singleton.mp h]; exact Ne.symm npq
    ·have := PartsAt.push (t := (t.drop st).take (i - st)) hp3 hal (fun i a t q1 q2 => s23 _ _ (hat2 i a t q1 q2)) (Ne.symm npq) hnp hq3
     simpa using this
    ·rw [← he, hdr, Tm.splitGo, if_pos eq, Nat.sub_self, List.take_zero]
     simp
   ·rename_i hq
    have ne : ¬ t[i] = s := fun z => hq (by rw [z])
    rw [hPv]
    refine ⟨_, _, st, rfl, s02, by omega, as, ps, hp2, hal, by omega, hnp, hat2, ?_⟩
    rw [← he, hdr, Tm.splitGo, if_neg ne]
    congr 2
    rw [show i + 1 - st = (i - st) + 1 by omega, List.take_succ_eq_append_getElem (by simp; omega)]
    simp only [List.getElem_drop]
    congr 3
    omega
  ·intro σ H' h
   rw [hPv] at h
   obtain ⟨v4, v5, st, rfl, hs, hst, as, ps, hpp, hal, hai, hnp, hat, he⟩ := h
   rw [lt] at hst he hai
   walk_at "S"
   refine ⟨tyL_of (sqL_of hpp), _, sa hs, fun q hq2 => ?_⟩
   have npq : p ≠ q := ne_of_none hpp hq2
   rw [cut_from]
   have e5 : (tv t).drop st = tv (t.drop st) := by simp [tv, List.map_drop]
   rw [e5]
   obtain ⟨H3, hH3⟩ : ∃ H3, H3 = upd H' q (.lst (tv (t.drop st))) := ⟨_, rfl⟩
   have s23 : Same H' H3 := by rw [hH3]; exact same_new hq2
   have hq3 : H3 q = some (.lst (tv (t.drop st))) := by rw [hH3]; exact upd_same
   rw [← hH3]
   have hp3 := s23 _ _ hpp
   refine ⟨_, hp3, by rw [List.length_map]; omega, k p _ ((hs.trans s23).put hp) hp ⟨as ++ [q], by rw [upd_same]; simp, ?_, ?_⟩⟩
   ·rw [← he, List.drop_length, Tm.splitGo]
    simp [hal]
   ·have := PartsAt.push (t := t.drop st) hp3 hal (fun i a t q1 q2 => s23 _ _ (hat i a t q1 q2)) (Ne.symm npq) hnp hq3
    have e6 : Tm.splitT s t = ps ++ [t.drop st] := by
     rw [← he, List.drop_length, Tm.splitGo, List.take_of_length_le (by simp)]
    rw [e6]
    simpa using this
end
def dfF (f : Vaflxm.DateForm) : List (Str × V) := putF "month_way" (.int f.month) (putF "day_way" (.int (Tm.dayWay f)) (putF "separator" (.int (f.sep.toNat : Nat)) (putF "order" (.int f.order) [])))
def DateAt (C : Addr) (H : Hp) (a : Addr) (f : Vaflxm.DateForm) : Prop := ∃ dx, H a = some (.ins C dx (dfF f))
theorem df_order (f : Vaflxm.DateForm) : (dfF f).lookup ("order" : Str) = some (V.int f.order) := by
 unfold dfF
 rw [lookup_putF, if_neg (by decide +kernel), lookup_putF, if_neg (by decide +kernel), lookup_putF, if_neg (by decide +kernel), lookup_putF, if_pos rfl]
theorem df_separator (f : Vaflxm.DateForm) : (dfF f).lookup ("separator" : Str) = some (V.int (f.sep.toNat : Nat)) := by
 unfold dfF
 rw [lookup_putF, if_neg (by decide +kernel), lookup_putF, if_neg (by decide +kernel), lookup_putF, if_pos rfl]
theorem df_day_way (f : Vaflxm.DateForm) : (dfF f).lookup ("day_way" : Str) = some (V.int (Tm.dayWay f)) := by
 unfold dfF
 rw [lookup_putF, if_neg (by decide +kernel), lookup_putF, if_pos rfl]
theorem df_month_way (f : Vaflxm.DateForm) : (dfF f).lookup ("month_way" : Str) = some (V.int f.month) := by
 unfold dfF
 rw [lookup_putF, if_pos rfl]
theorem df_no (f : Vaflxm.DateForm) {m : Str} (h1 : ¬ m = "month_way") (h2 : ¬ m = "day_way") (h3 : ¬ m = "separator") (h4 : ¬ m = "order") : (dfF f).lookup m = none := by
 unfold dfF
 rw [lookup_putF, if_neg h1, lookup_putF, if_neg h2, lookup_putF, if_neg h3, lookup_putF, if_neg h4]
 rfl
structure CD (K : PySem.W.Frag) (C : Addr) : Prop where
 cl : Cls K C
 order : NoAttr K C "order"
 separator : NoAttr K C "separator"
 day_way : NoAttr K C "day_way"
 month_way : NoAttr K C "month_way"
def monthStrs : List Str := ["January", "February", "March", "April", "May", "June", "July", "August", "September", "October", "November", "December"]
theorem names_are : ∀ k : Nat, k < 12 → ((monthStrs.getD k "").cps.toList = (Vaflxm.MONTHS.getD k []).map UInt8.toNat) := by decide +kernel
theorem lc_ord {σ : L2.St} {i : Nat} {z : Str} {t : Vaflxm.Text} {H : Hp} {Q : VK} (ez : z.cps.toList = t.map UInt8.toNat) (hl : t.length ≤ 10000) (hi : i < σ.length) (k : NewL H (tv t) Q) :
  lcJ (Its z) (gName i) tYes (tCB (fun xs H Q => ∃ x, xs = [V.str x] ∧ x.length = 1 ∧ Q (V.int ((x.cps.getD 0 0 : Nat) : Int)) H) (tCons (tVar i) tNil)) [i] σ H Q := by
 have el : z.cps.size = t.length := by rw [← Array.length_toList, ez, List.length_map]
 have hs := sizeLine_eq
 refine lc_pure (steps_str z) (fun j => .int (((t.map UInt8.toNat).getD j 0 : Nat) : Int)) (by omega) (fun _ _ => trivial) (fun j H' R hj _ q => ?_) (fun D hD => ?_)
 ·simp only [wipe]
  walk_at "S"
  refine ⟨by rw [List.set_set, List.set_set], _, by rw [List.getElem?_set_self (by simpa using hi)], _, rfl, rfl, ?_⟩
  rw [← ez] at q
  simpa [Array.getD_eq_getD_getElem?, List.getD] using q
 ·refine k D _ (same_new hD) hD ?_
  rw [upd_same, el]
  congr 2
  unfold tv
  refine List.ext_getElem (by simp) fun j h1 h2 => ?_
  simp at h1 h2
  simp [List.getD, List.getElem?_eq_getElem h2]
theorem cutS_3 (z : Str) : (L2.cutS z none (some 3)).cps.toList = z.cps.toList.take 3 := by
 unfold L2.cutS
 rw [show (some 3 : Option Int) = some ((3 : Nat) : Int) from rfl, HT.sIx_nat, HT.sIx_none]
 simp only [List.drop_zero, Nat.sub_zero]
 show z.cps.toList.take (min 3 z.cps.size) = _
 rw [← Array.length_toList, ← List.take_eq_take_min]
section
variable {P : Program} {w : World} {K : PySem.W.Frag} {mg : Str → Option Value} {base : Heap}
def sp_DateForm_init (C : Addr) : Sp := fun vs H Q _ => ∃ (p dx : Addr) (f : Vaflxm.DateForm), vs = [.ref p, .int f.order, .int (f.sep.toNat : Nat), .int (Tm.dayWay f), .int f.month] ∧ H p = some (.ins C dx []) ∧
 ∀ H' : Hp, H' p = some (.ins C dx (dfF f)) → (∀ b o, H b = some o → b ≠ p → H' b = some o) → Q .non H'
abbrev s_DateForm_init : Stmt := inClass (top 31) 0
theorem sc_DateForm_init : FnScope ["self", "order", "separator", "day_way", "month_way"] ["self", "order", "separator", "day_way", "month_way"] (defScope s_DateForm_init) := by walk_at "N"
theorem ok_DateForm_init {C : Addr} (N : CD K C) (D : Idef K mg C "DateForm" "DateForm.__init__" s_DateForm_init ["self", "order", "separator", "day_way", "month_way"]) : Oc P w K mg base C 1 "DateForm" ["self", "order", "separator", "day_way", "month_way"] (sp_DateForm_init C) := by
 refine D.ok sc_DateForm_init (fun vs H Q E h => ?_) (fun f cdv A outer s H vs Q E hr h => ?_)
 ·obtain ⟨p, dx, f, rfl, _⟩ := h
  rfl
 ·obtain ⟨p, dx, f, rfl, hp, k⟩ := h
  refine ⟨_, (pss_cons (ps_fld (pv 0) (pv 1) rfl)
   (pss_cons (ps_fld (pv 0) (pv 2) rfl)
   (pss_cons (ps_fld (pv 0) (pv 3) rfl)
   (pss_one (ps_fld (pv 0) (pv 4) rfl))))), ?_⟩
  walk_at "S"
  simp only [hp, upd_same]
  walk_at "S"
  have l1 := length_putF "order" (.int f.order) []
  have l2 := length_putF "separator" (.int (f.sep.toNat : Nat)) (putF "order" (.int f.order) [])
  have l3 := length_putF "day_way" (.int (Tm.dayWay f)) (putF "separator" (.int (f.sep.toNat : Nat)) (putF "order" (.int f.order) []))
  rw [List.length_nil] at l1
  refine ⟨N.cl, N.order, by decide, N.cl, N.separator, by omega, N.cl, N.day_way, by omega, N.cl, N.month_way, by omega, k _ upd_same fun b o e hb => ?_⟩
  rw [upd_ne hb, upd_ne hb, upd_ne hb, upd_ne hb]
  exact e
def sp_DateForm_told (C : Addr) : Sp := fun vs H Q _ => ∃ (a : Addr) (f : Vaflxm.DateForm), vs = [.ref a] ∧ DateAt C H a f ∧ NewL H ((Vaflxm.formNumbers (.date f)).map V.int) Q
abbrev s_DateForm_told : Stmt := inClass (top 31) 1
theorem sc_DateForm_told : FnScope ["self"] ["self"] (defScope s_DateForm_told) := by walk_at "N"
theorem om_DateForm_told {C : Addr} (T : Txt K mg) (N : CD K C) (D : Mdef K C "told" "DateForm.told" s_DateForm_told ["self"]) : Om P w K mg base C 1 "told" ["self"] (sp_DateForm_told C) := by
 refine D.ok N.cl sc_DateForm_told (fun vs H Q E h => ?_) (fun f cdv A outer s H vs Q E hr h => ?_)
 ·obtain ⟨p, f, rfl, _⟩ := h
  rfl
 ·obtain ⟨a, f, rfl, ⟨dx, ha⟩, k⟩ := h
  refine ⟨_, (pss_one (ps_ret (pe_lst (pa_cons (pe_ci T.DATE_KIND (by rfl)) (pa_cons (pe_fld (pv 0) rfl) (pa_cons (pe_fld (pv 0) rfl) (pa_cons (pe_fld (pv 0) rfl) (pa_cons (pe_fld (pv 0) rfl) pa_nil)))))))), ?_⟩
  walk_at "S"
  simp only [ha]
  walk_at "S"
  simp only [df_order, df_separator, df_day_way, df_month_way]
  walk_at "S"
  refine ⟨N.cl, N.order, N.cl, N.separator, N.cl, N.day_way, N.cl, N.month_way, by show 5 ≤ sizeLine; decide, fun p hp => k p _ (same_new hp) hp ?_⟩
  rw [upd_same]
  unfold Vaflxm.formNumbers Tm.dayWay Vaflxm.nat
  simp only [List.map_cons, List.map_nil]
  cases f.day2 <;> rfl
def sp_DateForm_month_written (C : Addr) : Sp := fun vs H Q _ => ∃ (a : Addr) (f : Vaflxm.DateForm) (m : Nat), vs = [.ref a, .int m] ∧ DateAt C H a f ∧ Tm.wfD f ∧ 1 ≤ m ∧ m ≤ 12 ∧ NewL H (tv (Vaflxm.monthText f.month m)) Q
abbrev s_DateForm_month_written : Stmt := inClass (top 31) 2
theorem sc_DateForm_month_written : FnScope ["self", "month", "name", "letter"] ["self", "month"] (defScope s_DateForm_month_written) := by walk_at "N"
theorem om_DateForm_month_written {C : Addr} (T : Txt K mg) (N : CD K C) (D : Mdef K C "month_written" "DateForm.month_written" s_DateForm_month_written ["self", "month"]) (ok_decimal_digits : Ok P w K mg base 1 "decimal_digits" ["number", "width"] sp_decimal_digits) :
  Om P w K mg base C 2 "month_written" ["self", "month"] (sp_DateForm_month_written C) := by
 refine D.ok N.cl sc_DateForm_month_written (fun vs H Q E h => ?_) (fun f cdv A outer s H vs Q E hr h => ?_)
 ·obtain ⟨p, f, m, rfl, _⟩ := h
  rfl
 ·obtain ⟨a, f, m, rfl, ⟨dx, ha⟩, ⟨_, _, ⟨wm1, wm4⟩, _⟩, m1, m2, k⟩ := h
  refine ⟨_, (pss_cons (ps_if (pt_cmpR op_le (pe_fld (pv 0) rfl) (pe_ci T.TWO_DIGITS (by rfl)) (nomark _)) (pss_one (ps_ret (pe_fn ok_decimal_digits (hr.mono (by decide)) (by rfl) (pa_cons (pv 1) (pa_cons (pe_fld (pv 0) rfl) pa_nil))))) pss_nil)
   (pss_cons (ps_set (i := 2) sc_DateForm_month_written.nd rfl (Or.inl rfl) (pe_ix ix_tup (pe_ct T.MONTH_NAMES (by rfl)) (pe_op op_sub (pv 1) pe_int) (fun _ _ => rfl)))
   (pss_cons (ps_if (pt_cmpR op_eq (pe_fld (pv 0) rfl) (pe_ci T.FIRST_LETTERS (by rfl)) (nomark _)) (pss_one (ps_set (i := 2) sc_DateForm_month_written.nd rfl (Or.inl rfl) (pe_slice sl_str (pv 2) po_none (po_some pe_int)))) pss_nil)
   (pss_one (ps_ret (pe_lc rfl sc_DateForm_month_written.nd (pi_str (pv 2)) (blkOk_by (own := [("letter", 3)]) (by show blkC ["self", "month", "name", "letter"] (defScope s_DateForm_month_written) _ _ = true; decide +kernel)) (fun _ _ _ _ _ => (pg_name (i := 3) sc_DateForm_month_written.nd rfl (Or.inl rfl))) (fun _ _ _ _ _ => pts_nil) (fun _ _ _ _ _ => (pe_callB call_ord (by rfl) T.n_ord boot_ord (pa_cons (pv 3) pa_nil))))))))), ?_⟩
  walk_at "S"
  simp only [ha]
  walk_at "S"
  simp only [df_month_way]
  walk_at "S"
  refine ⟨N.cl, N.month_way, ?_⟩
  have hk := (Tm.names_plain (m - 1) (by omega)).2
  split
  ·rename_i h
   rw [Tm.monthText_low f.month m wm1 (by omega)] at k
   refine ⟨N.cl, N.month_way, m, f.month, rfl, ?_, by omega, ?_, k⟩
   ·have : m.log2 ≤ m := Nat.log2_le_self m
    omega
   ·rw [Tm.padded_length]
    have := (Tm.dec_length m 2 (by omega)).mpr (by omega)
    omega
  ·rename_i h
   intro b kb
   have hn := names_are (m - 1) (by omega)
   have hg : monthStrs[m - 1]? = some (monthStrs.getD (m - 1) "") := by
    have : m - 1 < monthStrs.length := by show m - 1 < 12; omega
    simp [List.getD, List.getElem?_eq_getElem this]
   refine ⟨monthStrs.map V.str, kb.sq H, .str (monthStrs.getD (m - 1) ""), at_of (j := m - 1) (by omega) (by rw [List.getElem?_map, hg]; rfl), N.cl, N.month_way, ?_⟩
   have hlz : (monthStrs.getD (m - 1) "").length ≤ 9 := by
    show (monthStrs.getD (m - 1) "").cps.size ≤ 9
    rw [← Array.length_toList, hn, List.length_map]
    omega
   have hs9 := sizeLine_eq
   split
   ·rename_i h3
    have e3 : f.month = 3 := by omega
    refine ⟨_, rfl, by omega, lc_ord (t := (Vaflxm.MONTHS.getD (m - 1) []).take 3) ?_ (by rw [List.length_take]; omega) (by simp) ?_⟩
    ·rw [cutS_3, hn, List.map_take]
    ·have e : Vaflxm.monthText f.month m = (Vaflxm.MONTHS.getD (m - 1) []).take 3 := by
      unfold Vaflxm.monthText
      rw [if_neg (by omega), if_neg (by omega), if_pos e3]
     rw [e] at k
     exact k
   ·rename_i h3
    refine ⟨_, rfl, lc_ord (t := Vaflxm.MONTHS.getD (m - 1) []) hn (by omega) (by simp) ?_⟩
    have e : Vaflxm.monthText f.month m = Vaflxm.MONTHS.getD (m - 1) [] := by
     unfold Vaflxm.monthText
     rw [if_neg (by omega), if_neg (by omega), if_neg (by omega)]
    rw [e] at k
    exact k
def partNum (y m d : Nat) (part : Nat) : Nat := if part = 1 then y else if part = 2 then m else d
def partText (f : Vaflxm.DateForm) (part n : Nat) : Vaflxm.Text := if part = 1 then Vaflxm.padded 4 n else if part = 3 then Vaflxm.dayText f.day2 n else Vaflxm.monthText f.month n
def sp_DateForm_part_written (C : Addr) : Sp := fun vs H Q _ => ∃ (a : Addr) (f : Vaflxm.DateForm) (part n : Nat), vs = [.ref a, .int part, .int n] ∧ DateAt C H a f ∧ Tm.wfD f ∧ n ≤ 9999 ∧ (part = 2 → 1 ≤ n ∧ n ≤ 12) ∧ (part = 1 ∨ part = 2 ∨ part = 3) ∧ NewL H (tv (partText f part n)) Q
abbrev s_DateForm_part_written : Stmt := inClass (top 31) 3
theorem sc_DateForm_part_written : FnScope ["self", "part", "number"] ["self", "part", "number"] (defScope s_DateForm_part_written) := by walk_at "N"
theorem om_DateForm_part_written {C : Addr} (T : Txt K mg) (N : CD K C) (D : Mdef K C "part_written" "DateForm.part_written" s_DateForm_part_written ["self", "part", "number"]) (ok_decimal_digits : Ok P w K mg base 1 "decimal_digits" ["number", "width"] sp_decimal_digits)
  (om_DateForm_month_written : Om P w K mg base C 2 "month_written" ["self", "month"] (sp_DateForm_month_written C)) : Om P w K mg base C 3 "part_written" ["self", "part", "number"] (sp_DateForm_part_written C) := by
 refine D.ok N.cl sc_DateForm_part_written (fun vs H Q E h => ?_) (fun f cdv A outer s H vs Q E hr h => ?_)
 ·obtain ⟨p, f, m, n, rfl, _⟩ := h
  rfl
 ·obtain ⟨a, f, part, n, rfl, ⟨dx, ha⟩, wf, hn, h2, hp, k⟩ := h
  refine ⟨_, (pss_cons (ps_if (pt_cmpR op_eq (pv 1) (pe_ci T.YEAR (by rfl)) (nomark _)) (pss_one (ps_ret (pe_fn ok_decimal_digits (hr.mono (by decide)) (by rfl) (pa_cons (pv 2) (pa_cons (pe_ci T.YEAR_DIGITS (by rfl)) pa_nil))))) pss_nil)
   (pss_cons (ps_if (pt_cmpR op_eq (pv 1) (pe_ci T.DAY (by rfl)) (nomark _)) (pss_one (ps_ret (pe_fn ok_decimal_digits (hr.mono (by decide)) (by rfl) (pa_cons (pv 2) (pa_cons (pe_fld (pv 0) rfl) pa_nil))))) pss_nil)
   (pss_one (ps_ret (pe_mt (pv 0) om_DateForm_month_written (hr.mono (by decide)) (pa_cons (pv 2) pa_nil)))))), ?_⟩
  walk_at "S"
  have hlog : n.log2 < 1920 := by
   have : n.log2 ≤ n := Nat.log2_le_self n
   by_cases h0 : n < 1920
   ·omega
   ·rw [Nat.log2_lt (by omega)]
    exact Nat.lt_of_le_of_lt hn (by decide)
  have hlen : ∀ wd : Nat, wd ≤ 4 → (Vaflxm.padded wd n).length ≤ 10000 := by
   intro wd hw
   rw [Tm.padded_length]
   have := (Tm.dec_length n 4 (by omega)).mpr (by omega)
   omega
  split
  ·rename_i h1
   have e : partText f part n = Vaflxm.padded 4 n := by unfold partText; rw [if_pos (by omega)]
   rw [e] at k
   exact ⟨n, 4, rfl, hlog, by omega, hlen 4 (by omega), k⟩
  ·split
   ·rename_i h1 h3
    have e : partText f part n = Vaflxm.padded (Tm.dayWay f) n := by unfold partText; rw [if_neg (by omega), if_pos (by omega), Tm.dayText_eq]
    rw [e] at k
    have := Tm.dayWay_le f
    exact ⟨C, dx, _, ha, N.cl, N.day_way, _, df_day_way f, n, Tm.dayWay f, rfl, hlog, by omega, hlen _ (by omega), k⟩
   ·rename_i h1 h3
    have e : partText f part n = Vaflxm.monthText f.month n := by unfold partText; rw [if_neg (by omega), if_neg (by omega)]
    rw [e] at k
    obtain ⟨q1, q2⟩ := h2 (by omega)
    exact ⟨dx, _, ha, df_no f (by decide +kernel) (by decide +kernel) (by decide +kernel) (by decide +kernel), a, f, n, rfl, ⟨dx, ha⟩, wf, q1, q2, k⟩
end
def ordL (o : Nat) : List Nat := if o = 2 then [1, 2, 3] else if o = 1 then [2, 3, 1] else [3, 2, 1]
theorem ordL_len (o : Nat) : (ordL o).length = 3 := by
 unfold ordL
 split
 ·rfl
 ·split <;> rfl
theorem ordL_in (o i : Nat) (p : Nat) (h : (ordL o)[i]? = some p) : p = 1 ∨ p = 2 ∨ p = 3 := by
 have hi : i < 3 := by
  have := (List.getElem?_eq_some_iff.mp h).1
  rw [ordL_len] at this
  exact this
 unfold ordL at h
 have : i = 0 ∨ i = 1 ∨ i = 2 := by omega
 split at h
 ·rcases this with rfl | rfl | rfl <;> simp at h <;> omega
 ·split at h
  ·rcases this with rfl | rfl | rfl <;> simp at h <;> omega
  ·rcases this with rfl | rfl | rfl <;> simp at h <;> omega
def ordersV : List (List V) := [([3, 2, 1] : List Int).map V.int, ([2, 3, 1] : List Int).map V.int, ([1, 2, 3] : List Int).map V.int]
theorem orders_at (o : Nat) (h : o ≤ 2) : ordersV[o]? = some ((ordL o).map fun (n : Nat) => V.int n) := by
 have : o = 0 ∨ o = 1 ∨ o = 2 := by omega
 rcases this with rfl | rfl | rfl <;> rfl
def wrote (f : Vaflxm.DateForm) (y m d : Nat) : Nat → Vaflxm.Text
 | 0 => []
 | i + 1 => wrote f y m d i ++ ((if 0 < i then Vaflxm.sepText f.sep else []) ++ partText f ((ordL f.order).getD i 0) (partNum y m d ((ordL f.order).getD i 0)))
theorem wrote_all (f : Vaflxm.DateForm) (y m d : Nat) (h : f.order ≤ 2) : wrote f y m d 3 = Vaflxm.writeDate f y m d := by
 have : f.order = 0 ∨ f.order = 1 ∨ f.order = 2 := by omega
 unfold Vaflxm.writeDate Vaflxm.inOrder
 rcases this with e | e | e <;> simp [wrote, ordL, partText, partNum, e]
theorem part_len (f : Vaflxm.DateForm) (y m d p : Nat) (wf : Tm.wfD f) (h : Vaflxm.isDate y m d = true) (hp : p = 1 ∨ p = 2 ∨ p = 3) : (partText f p (partNum y m d p)).length ≤ 9 := by
 obtain ⟨y1, y2, m1, m2, d1, d2⟩ := Tm.days_le y m d h
 obtain ⟨_, _, ⟨hm1, hm4⟩, _⟩ := wf
 rcases hp with rfl | rfl | rfl
 ·show (Vaflxm.padded 4 y).length ≤ 9
  rw [Tm.year_len4 y y2]
  omega
 ·show (Vaflxm.monthText f.month m).length ≤ 9
  exact (Tm.month_len f.month m hm1 hm4 m1 m2).2
 ·show (Vaflxm.dayText f.day2 d).length ≤ 9
  have := Tm.dayWay_le f
  rw [Tm.dayText_eq]
  have := (Tm.day_len (Tm.dayWay f) d d2 (by omega) (by omega)).2.1
  omega
theorem wrote_len (f : Vaflxm.DateForm) (y m d : Nat) (wf : Tm.wfD f) (h : Vaflxm.isDate y m d = true) : ∀ i, i ≤ 3 → (wrote f y m d i).length ≤ 10 * i
 | 0, _ => by simp [wrote]
 | i + 1, hi => by
  have ih := wrote_len f y m d wf h i (by omega)
  have hp : (ordL f.order).getD i 0 = 1 ∨ (ordL f.order).getD i 0 = 2 ∨ (ordL f.order).getD i 0 = 3 := by
   refine ordL_in f.order i _ ?_
   have : i < (ordL f.order).length := by rw [ordL_len]; omega
   simp [List.getD, List.getElem?_eq_getElem this]
  have l1 := part_len f y m d _ wf h hp
  have l2 : (if 0 < i then Vaflxm.sepText f.sep else []).length ≤ 1 := by
   unfold Vaflxm.sepText
   split
   ·split <;> simp
   ·simp
  simp only [wrote, List.length_append]
  omega
section
variable {P : Program} {w : World} {K : PySem.W.Frag} {mg : Str → Option Value} {base : Heap}
def sp_DateForm_written (K : PySem.W.Frag) (C : Addr) : Sp := fun vs H Q _ => ∃ (a b : Addr) (f : Vaflxm.DateForm) (v : Vaflxm.Value), vs = [.ref a, .ref b] ∧ DateAt C H a f ∧ Tm.wfD f ∧ SqT K H b (vv v) ∧ okV v ∧ ResT H (Vaflxm.writeIn (.date f) v) Q
abbrev s_DateForm_written : Stmt := inClass (top 31) 4
theorem sc_DateForm_written : FnScope ["self", "value", "text", "place", "part"] ["self", "value"] (defScope s_DateForm_written) := by walk_at "N"
theorem om_DateForm_written {C : Addr} (T : Txt K mg) (N : CD K C) (D : Mdef K C "written" "DateForm.written" s_DateForm_written ["self", "value"]) (om_DateForm_part_written : Om P w K mg base C 3 "part_written" ["self", "part", "number"] (sp_DateForm_part_written C)) :
  Om P w K mg base C 4 "written" ["self", "value"] (sp_DateForm_written K C) := by
 refine D.ok N.cl sc_DateForm_written (fun vs H Q E h => ?_) (fun f cdv A outer s H vs Q E hr h => ?_)
 ·obtain ⟨p, f, m, n, rfl, _⟩ := h
  rfl
 ·obtain ⟨a, b, f, v, rfl, ⟨dx, ha⟩, wf, hb, ov, k⟩ := h
  refine ⟨_, (pss_cons (ps_if (pt_cmpR op_ne (pe_ix ix_tup (pv 1) pe_int (fun _ _ => rfl)) (pe_ci T.DATE_KIND (by rfl)) (nomark _)) (pss_one (ps_ret pe_non)) pss_nil)
   (pss_cons (ps_set (i := 2) sc_DateForm_written.nd rfl (Or.inl rfl) (pe_lst pa_nil))
   (pss_cons (ps_for PassesOwn.never rfl (pi_enumT (by rfl) T.n_enumerate (pa_cons (pe_ix ix_tup (pe_ctt T.PART_ORDERS (by rfl)) (pe_fld (pv 0) rfl) (fun _ _ => rfl)) pa_nil)) (pg_tup (n := 2) rfl (pgs_cons (pg_name (i := 3) sc_DateForm_written.nd rfl (Or.inl rfl)) (pgs_cons (pg_name (i := 4) sc_DateForm_written.nd rfl (Or.inl rfl)) pgs_nil))) (pss_cons (ps_if (pw_and (pt_cmpR op_gt (pv 3) pe_int (nomark _)) (pw_and1 (pt_cmpR op_ne (pe_fld (pv 0) rfl) pe_int (nomark _)))).pt (pss_one (ps_expr (pe_bm PySem.F.plainAttrs_list PySem.F.slot_list_append PySem.F.type_list_append mt_append (pv 2) (pa_cons (pe_fld (pv 0) rfl) pa_nil)))) pss_nil)
   (pss_one (ps_expr (pe_bm PySem.F.plainAttrs_list PySem.F.slot_list_extend PySem.F.type_list_extend mt_extend (pv 2) (pa_cons (pe_mt (pv 0) om_DateForm_part_written (hr.mono (by decide)) (pa_cons (pv 4) (pa_cons (pe_ix ix_tup (pv 1) (pv 4) (fun _ _ => rfl)) pa_nil))) pa_nil))))))
   (pss_one (ps_ret (pv 2)))))), ?_⟩
  walk_at "S"
  cases v with
  | number n s =>
   refine ⟨_, hb, .int 0, rfl, rfl, ?_⟩
   rw [if_pos (by intro z; cases z)]
   exact k H (Same.refl H)
  | date y m d =>
   have ov : Vaflxm.isDate y m d = true := ov
   refine ⟨_, hb, .int 1, rfl, rfl, ?_⟩
   rw [if_neg (by intro z; exact z rfl)]
   refine ⟨Nat.zero_le _, fun p hp => ?_⟩
   intro c as kc lc ec
   obtain ⟨b5, hb5⟩ : ∃ b5, as[f.order]? = some b5 := ⟨as[f.order]'(by have := wf.1; omega), List.getElem?_eq_getElem _⟩
   have k5 : KT K b5 ((ordL f.order).map fun (n : Nat) => V.int n) := ec f.order b5 _ hb5 (orders_at f.order wf.1)
   have na : a ≠ p := ne_of_none ha hp
   have hs9 := sizeLine_eq
   refine ⟨C, dx, _, by rw [upd_ne na]; exact ha, N.cl, N.order, _, df_order f, _, _, rfl, kc.sq _, _, at_of (j := f.order) rfl (by rw [List.getElem?_map, hb5]; rfl), b5, rfl, _, k5, ?_⟩
   obtain ⟨Pv, hPv⟩ : ∃ Pv : Nat → L2.St → Hp → Prop, Pv = fun i σ H' => ∃ v3 v4, σ = [some (.ref a), some (.ref b), some (.ref p), v3, v4] ∧ Same H H' ∧ H' p = some (.lst (tv (wrote f y m d i))) := ⟨_, rfl⟩
   refine for_enumT Pv ?_ ?_ ?_
   ·rw [hPv]
    exact ⟨none, none, rfl, same_new hp, upd_same⟩
   ·intro i x σ H' T hx h hT
    rw [hPv] at h
    obtain ⟨v3, v4, rfl, hs, ho⟩ := h
    rw [List.getElem?_map] at hx
    obtain ⟨q, hq, rfl⟩ : ∃ q, (ordL f.order)[i]? = some q ∧ x = V.int (q : Nat) := by
     cases e : (ordL f.order)[i]? with
     | none => rw [e] at hx; cases hx
     | some q => rw [e] at hx; exact ⟨q, rfl, (Option.some.inj hx).symm⟩
    have hi : i < 3 := by
     have := (List.getElem?_eq_some_iff.mp hq).1
     rw [ordL_len] at this
     exact this
    have hq3 := ordL_in f.order i q hq
    have eq0 : (ordL f.order).getD i 0 = q := by simp [List.getD, hq]
    have npT : p ≠ T := ne_of_none ho hT
    obtain ⟨H2, hH2⟩ : ∃ H2, H2 = upd H' T (.tup [.int (i : Nat), .int (q : Nat)]) := ⟨_, rfl⟩
    have s12 : Same H' H2 := by rw [hH2]; exact same_new hT
    have s02 : Same H H2 := hs.trans s12
    have hT2 : H2 T = some (.tup [.int (i : Nat), .int (q : Nat)]) := by rw [hH2]; exact upd_same
    have ho2 : H2 p = some (.lst (tv (wrote f y m d i))) := s12 _ _ ho
    rw [← hH2]
    have ltv : ∀ t : Vaflxm.Text, (tv t).length = t.length := fun t => by simp [tv]
    have hwl := wrote_len f y m d wf ov i (by omega)
    simp only [ap_gTup, ap_gCons, ap_gName, ap_gNil]
    refine ⟨T, _, rfl, sqT_of hT2, rfl, _, _, rfl, _, _, rfl, rfl, ?_⟩
    rw [ap_tSeq]
    refine cutS (fun σ' H3 => σ' = [some (.ref a), some (.ref b), some (.ref p), some (.int (i : Nat)), some (.int (q : Nat))] ∧ Same H H3 ∧ H3 p = some (.lst (tv (wrote f y m d i ++ (if 0 < i then Vaflxm.sepText f.sep else []))))) ?_ ?_
    ·intro Nx hN
     have ha2 := s02 _ _ ha
     walk_at "S"
     split
     ·rename_i hi0
      refine ⟨C, dx, _, ha2, N.cl, N.separator, _, df_separator f, rfl, ?_⟩
      split
      ·rename_i hz
       have hz' : ¬ f.sep = 0 := fun z => hz (by rw [z]; rfl)
       refine ⟨tyL_of (sqL_of ho2), C, dx, _, ha2, N.cl, N.separator, _, df_separator f, _, ho2, by rw [ltv]; omega, hN _ _ ⟨rfl, s02.put hp, ?_⟩⟩
       rw [upd_same, if_pos (by omega)]
       unfold Vaflxm.sepText
       rw [if_neg hz']
       simp [tv]
      ·rename_i hz
       have hz' : f.sep = 0 := by
        rw [← UInt8.toNat_inj]
        have : V.int ((f.sep.toNat : Nat) : Int) = V.int 0 := Classical.not_not.mp hz
        injection this with this
        show f.sep.toNat = 0
        omega
       refine hN _ _ ⟨rfl, s02, ?_⟩
       rw [if_pos (by omega)]
       unfold Vaflxm.sepText
       rw [if_pos hz', List.append_nil]
       exact ho2
     ·rename_i hi0
      refine hN _ _ ⟨rfl, s02, ?_⟩
      rw [if_neg (by omega), List.append_nil]
      exact ho2
    ·rintro σ' H3 ⟨rfl, s03, ho3⟩
     walk_at "S"
     have ha3 := s03 _ _ ha
     obtain ⟨y1, y2, m1, m2, d1, d2⟩ := Tm.days_le y m d ov
     have hv : atI (vv (.date y m d)) (q : Int) = some (.int ((partNum y m d q : Nat) : Int)) := by
      rcases hq3 with rfl | rfl | rfl <;> rfl
     have hpn : partNum y m d q ≤ 9999 := by
      rcases hq3 with rfl | rfl | rfl <;> simp [partNum] <;> omega
     refine ⟨tyL_of (sqL_of ho3), dx, _, ha3, df_no f (by decide +kernel) (by decide +kernel) (by decide +kernel) (by decide +kernel), _, s03.tup hb, _, hv, a, f, q, partNum y m d q, rfl, ⟨dx, ha3⟩, wf, hpn, ?_, hq3, ?_⟩
     ·intro e
      subst e
      exact ⟨m1, m2⟩
     ·intro p4 H4 s4 n4 h4
      have l4 := part_len f y m d q wf ov hq3
      have l3 : (wrote f y m d i ++ (if 0 < i then Vaflxm.sepText f.sep else [])).length ≤ 100 := by
       have l2 : (if 0 < i then Vaflxm.sepText f.sep else []).length ≤ 1 := by
        unfold Vaflxm.sepText
        split
        ·split <;> simp
        ·simp
       rw [List.length_append]
       omega
      refine ⟨p4, rfl, _, s4 _ _ ho3, _, h4, by rw [ltv, ltv]; omega, ?_⟩
      rw [hPv]
      refine ⟨_, _, rfl, (s03.trans s4).put hp, ?_⟩
      rw [upd_same]
      simp only [wrote, eq0]
      simp [tv]
   ·intro σ H' h
    rw [hPv] at h
    obtain ⟨v3, v4, rfl, hs, ho⟩ := h
    walk_at "S"
    rw [show ((ordL f.order).map fun (n : Nat) => V.int n).length = 3 by rw [List.length_map, ordL_len], wrote_all f y m d wf.1] at ho
    exact k p H' hs hp ho
end
def lenP (n p : Nat) : Nat := if p = 1 then 4 else if p = 2 then n - 6 else 2
def startP (o n : Nat) : Nat → Nat
 | 0 => 0
 | i + 1 => startP o n i + lenP n ((ordL o).getD i 0)
def cutsP (o : Nat) (t : Vaflxm.Text) : Nat → List Vaflxm.Text
 | 0 => []
 | i + 1 => cutsP o t i ++ [(t.drop (startP o t.length i)).take (lenP t.length ((ordL o).getD i 0))]
theorem cuts_all (f : Vaflxm.DateForm) (t : Vaflxm.Text) (h : f.order ≤ 2) (hz : f.sep = 0) : cutsP f.order t 3 = Tm.partsT f t := by
 have : f.order = 0 ∨ f.order = 1 ∨ f.order = 2 := by omega
 unfold Tm.partsT
 rw [if_pos hz]
 rcases this with e | e | e <;> simp [cutsP, startP, lenP, ordL, e]
section
variable {P : Program} {w : World} {K : PySem.W.Frag} {mg : Str → Option Value} {base : Heap}
def sp_DateForm_parts_by_length (K : PySem.W.Frag) (C : Addr) : Sp := fun vs H Q _ => ∃ (a b : Addr) (f : Vaflxm.DateForm) (t : Vaflxm.Text), vs = [.ref a, .ref b] ∧ DateAt C H a f ∧ f.order ≤ 2 ∧ SqL K H b (tv t) ∧ t.length ≤ 10000 ∧ ∀ p H', Same H H' → H p = none → PartsAt H' p (cutsP f.order t 3) → Q (.ref p) H'
abbrev s_DateForm_parts_by_length : Stmt := inClass (top 31) 5
theorem sc_DateForm_parts_by_length : FnScope ["self", "text", "month_signs", "lengths", "parts", "start", "part"] ["self", "text"] (defScope s_DateForm_parts_by_length) := by walk_at "N"
theorem om_DateForm_parts_by_length {C : Addr} (T : Txt K mg) (N : CD K C) (D : Mdef K C "parts_by_length" "DateForm.parts_by_length" s_DateForm_parts_by_length ["self", "text"]) : Om P w K mg base C 1 "parts_by_length" ["self", "text"] (sp_DateForm_parts_by_length K C) := by
 refine D.ok N.cl sc_DateForm_parts_by_length (fun vs H Q E h => ?_) (fun f cdv A outer s H vs Q E hr h => ?_)
 ·obtain ⟨p, f, m, n, rfl, _⟩ := h
  rfl
 ·obtain ⟨a, b, f, t, rfl, ⟨dx, ha⟩, ho, hb, hz, k⟩ := h
  refine ⟨_, (pss_cons (ps_set (i := 2) sc_DateForm_parts_by_length.nd rfl (Or.inl rfl) (pe_callB (call_max2 rfl) (by rfl) T.n_max boot_max (pa_cons pe_int (pa_cons (pe_op op_sub (pe_op op_sub (pe_callB call_len_seq (by rfl) T.n_len boot_len (pa_cons (pv 1) pa_nil)) (pe_ci T.YEAR_DIGITS (by rfl))) (pe_ci T.TWO_DIGITS (by rfl))) pa_nil))))
   (pss_cons (ps_set (i := 3) sc_DateForm_parts_by_length.nd rfl (Or.inl rfl) (pe_disp (pps_cons (pe_ci T.YEAR (by rfl)) (pe_ci T.YEAR_DIGITS (by rfl)) (pps_cons (pe_ci T.MONTH (by rfl)) (pv 2) (pps_cons (pe_ci T.DAY (by rfl)) (pe_ci T.TWO_DIGITS (by rfl)) pps_nil))) rfl rfl (by decide) (by decide)))
   (pss_cons (ps_set (i := 4) sc_DateForm_parts_by_length.nd rfl (Or.inl rfl) (pe_lst pa_nil))
   (pss_cons (ps_set (i := 5) sc_DateForm_parts_by_length.nd rfl (Or.inl rfl) pe_int)
   (pss_cons (ps_for PassesOwn.never rfl (pi_tup (pe_ix ix_tup (pe_ctt T.PART_ORDERS (by rfl)) (pe_fld (pv 0) rfl) (fun _ _ => rfl))) (pg_name (i := 6) sc_DateForm_parts_by_length.nd rfl (Or.inl rfl)) (pss_cons (ps_expr (pe_bm PySem.F.plainAttrs_list PySem.F.slot_list_append PySem.F.type_list_append mt_append (pv 4) (pa_cons (pe_slice sl_list (pv 1) (po_some (pv 5)) (po_some (pe_op op_add (pv 5) (pe_dget (hu_of hr) (pv 3) (pv 6) (fun _ _ => rfl))))) pa_nil)))
   (pss_one (ps_set (i := 5) sc_DateForm_parts_by_length.nd rfl (Or.inl rfl) (pe_op op_add (pv 5) (pe_dget (hu_of hr) (pv 3) (pv 6) (fun _ _ => rfl)))))))
   (pss_one (ps_ret (pv 4)))))))), ?_⟩
  walk_at "S"
  have ltv : ∀ t : Vaflxm.Text, (tv t).length = t.length := fun t => by simp [tv]
  have hs9 := sizeLine_eq
  obtain ⟨kvs, hkvs⟩ : ∃ kvs : List (Key × V), kvs = [(.inl 1, .int 4), (.inl 2, .int ((t.length - 6 : Nat) : Int)), (.inl 3, .int 2)] := ⟨_, rfl⟩
  have hget : ∀ q : Nat, (q = 1 ∨ q = 2 ∨ q = 3) → valV kvs (.inl (q : Int)) = some (.int ((lenP t.length q : Nat) : Int)) := by
   intro q hq
   rw [hkvs]
   rcases hq with rfl | rfl | rfl
   ·rfl
   ·rfl
   ·rfl
  refine ⟨_, .inl hb, fun pd hpd => ⟨upd_same, kvs, ?_, by rw [hkvs]; show 3 ≤ 15; decide, by omega, fun p hp => ?_⟩⟩
  ·rw [hkvs, ltv]
   have e : (if (t.length : Int) - 4 - 2 > 0 then (t.length : Int) - 4 - 2 else 0) = ((t.length - 6 : Nat) : Int) := by split <;> omega
   rw [e]
   rfl
  ·have em : mergeK [] kvs = kvs := by rw [hkvs]; rfl
   rw [em] at hp ⊢
   rw [upd_upd] at hp ⊢
   have npd : pd ≠ p := ne_of_none upd_same hp
   have hp0 : H p = none := by
    rw [upd_ne (Ne.symm npd)] at hp
    exact hp
   obtain ⟨H1, hH1⟩ : ∃ H1, H1 = upd (upd H pd (.dK kvs)) p (.lst []) := ⟨_, rfl⟩
   have s1 : Same H H1 := by rw [hH1]; exact (same_new hpd).put hp0
   have hd1 : H1 pd = some (.dK kvs) := by rw [hH1, upd_ne npd, upd_same]
   have hp1 : H1 p = some (.lst []) := by rw [hH1, upd_same]
   rw [← hH1]
   intro c as kc lc ec
   obtain ⟨b5, hb5⟩ : ∃ b5, as[f.order]? = some b5 := ⟨as[f.order]'(by omega), List.getElem?_eq_getElem _⟩
   have k5 : KT K b5 ((ordL f.order).map fun (n : Nat) => V.int n) := ec f.order b5 _ hb5 (orders_at f.order ho)
   refine ⟨C, dx, _, s1 _ _ ha, N.cl, N.order, _, df_order f, _, _, rfl, kc.sq _, _, at_of (j := f.order) rfl (by rw [List.getElem?_map, hb5]; rfl), b5, rfl, ⟨_, k5.sq _⟩, ?_⟩
   obtain ⟨Pv, hPv⟩ : ∃ Pv : Nat → L2.St → Hp → Prop, Pv = fun i σ H' => ∃ v6 v2, σ = [some (.ref a), some (.ref b), v2, some (.ref pd), some (.ref p), some (.int ((startP f.order t.length i : Nat) : Int)), v6] ∧ Same H H' ∧ H' pd = some (.dK kvs) ∧
    ∃ (as : List Addr), H' p = some (.lst (as.map V.ref)) ∧ as.length = (cutsP f.order t i).length ∧ as.length ≤ i ∧ (∀ b ∈ as, b ≠ p) ∧ (∀ (j : Nat) (a : Addr) (u : Vaflxm.Text), as[j]? = some a → (cutsP f.order t i)[j]? = some u → H' a = some (.lst (tv u))) := ⟨_, rfl⟩
   refine for_by (steps_tup K b5 _) Pv ?_ (fun _ _ _ _ _ => k5.sq _) ?_ ?_
   ·rw [hPv]
    exact ⟨none, _, rfl, s1, hd1, [], hp1, rfl, Nat.le_refl _, (fun _ h => by cases h), (fun _ _ _ h => by simp at h)⟩
   ·intro i σ H' hi h
    rw [hPv] at h
    obtain ⟨v6, v2, rfl, hs, hd, as2, hpp, hal, hai, hnp, hat⟩ := h
    have hi3 : i < 3 := by rw [List.length_map, ordL_len] at hi; exact hi
    obtain ⟨q, hq⟩ : ∃ q, (ordL f.order)[i]? = some q := ⟨(ordL f.order)[i]'(by rw [ordL_len]; exact hi3), List.getElem?_eq_getElem _⟩
    have hq3 := ordL_in f.order i q hq
    have eq0 : (ordL f.order).getD i 0 = q := by simp [List.getD, hq]
    have eit : ((ordL f.order).map fun (n : Nat) => V.int n).getD i .non = .int (q : Nat) := by simp [List.getD, List.getElem?_map, hq]
    rw [eit]
    walk_at "S"
    have dg : ∀ {H9 : Hp}, H9 pd = some (.dK kvs) → DGet H9 pd (.int (q : Nat)) (some (.int ((lenP t.length q : Nat) : Int))) := fun h9 => by
     have := DGet.k (k := Sum.inl (q : Int)) h9
     rw [hget q hq3] at this
     exact this
    refine ⟨tyL_of (sqL_of hpp), _, dg hd, _, rfl, _, hs.seq hb, fun c2 hc2 => ?_⟩
    have npc : p ≠ c2 := ne_of_none hpp hc2
    have ndc : pd ≠ c2 := ne_of_none hd hc2
    have e5 : cutV (tv t) (some ((startP f.order t.length i : Nat) : Int)) (some (((startP f.order t.length i : Nat) : Int) + ((lenP t.length q : Nat) : Int))) = tv ((t.drop (startP f.order t.length i)).take (lenP t.length q)) := by
     have := cut_mid (tv t) (startP f.order t.length i) (startP f.order t.length i + lenP t.length q)
     rw [Nat.add_sub_cancel_left] at this
     rw [show ((startP f.order t.length i : Nat) : Int) + ((lenP t.length q : Nat) : Int) = ((startP f.order t.length i + lenP t.length q : Nat) : Int) by omega, this]
     simp [tv, List.map_take, List.map_drop]
    rw [e5]
    obtain ⟨H3, hH3⟩ : ∃ H3, H3 = upd H' c2 (.lst (tv ((t.drop (startP f.order t.length i)).take (lenP t.length q)))) := ⟨_, rfl⟩
    have s23 : Same H' H3 := by rw [hH3]; exact same_new hc2
    have hc3 : H3 c2 = some (.lst (tv ((t.drop (startP f.order t.length i)).take (lenP t.length q)))) := by rw [hH3]; exact upd_same
    rw [← hH3]
    have hp3 := s23 _ _ hpp
    have ndp : pd ≠ p := ne_of hd hpp (by intro z; cases z)
    have hd4 : (upd H3 p (.lst (as2.map V.ref ++ [V.ref c2]))) pd = some (.dK kvs) := by rw [upd_ne ndp]; exact s23 _ _ hd
    refine ⟨_, hp3, by rw [List.length_map]; omega, _, dg hd4, _, rfl, ?_⟩
    rw [hPv]
    have ec : cutsP f.order t (i + 1) = cutsP f.order t i ++ [(t.drop (startP f.order t.length i)).take (lenP t.length q)] := by
     simp only [cutsP, eq0]
    refine ⟨some (.int (q : Nat)), v2, ?_, (hs.trans s23).put hp0, hd4, as2 ++ [c2], ?_, ?_, by simp; omega, ?_, ?_⟩
    ·simp only [startP, eq0]
     rfl
    ·rw [upd_same]; simp
    ·rw [ec]; simp [hal]
    ·intro b2 hb2
     rcases List.mem_append.mp hb2 with h | h
     ·exact hnp b2 h
     ·rw [List.mem_singleton.mp h]; exact Ne.symm npc
    ·rw [ec]
     have := PartsAt.push (t := (t.drop (startP f.order t.length i)).take (lenP t.length q)) hp3 hal (fun i a t q1 q2 => s23 _ _ (hat i a t q1 q2)) (Ne.symm npc) hnp hc3
     simpa using this
   ·intro σ H' h
    rw [hPv] at h
    obtain ⟨v6, v2, rfl, hs, hd, as2, hpp, hal, hai, hnp, hat⟩ := h
    rw [show ((ordL f.order).map fun (n : Nat) => V.int n).length = 3 by rw [List.length_map, ordL_len]] at hal hat
    walk_at "S"
    exact k p H' hs hp0 ⟨as2, hpp, hal, hat⟩
def sp_DateForm_parts_of (K : PySem.W.Frag) (C : Addr) : Sp := fun vs H Q _ => ∃ (a b : Addr) (f : Vaflxm.DateForm) (t : Vaflxm.Text), vs = [.ref a, .ref b] ∧ DateAt C H a f ∧ Tm.wfD f ∧ SqL K H b (tv t) ∧ t.length ≤ 10000 ∧ ∀ p H', Same H H' → H p = none → PartsAt H' p (Tm.partsT f t) → Q (.ref p) H'
abbrev s_DateForm_parts_of : Stmt := inClass (top 31) 6
theorem sc_DateForm_parts_of : FnScope ["self", "text"] ["self", "text"] (defScope s_DateForm_parts_of) := by walk_at "N"
theorem om_DateForm_parts_of {C : Addr} (T : Txt K mg) (N : CD K C) (D : Mdef K C "parts_of" "DateForm.parts_of" s_DateForm_parts_of ["self", "text"]) (om_DateForm_parts_by_length : Om P w K mg base C 1 "parts_by_length" ["self", "text"] (sp_DateForm_parts_by_length K C))
  (ok_split_at : Ok P w K mg base 1 "split_at" ["text", "separator"] (sp_split_at K)) : Om P w K mg base C 2 "parts_of" ["self", "text"] (sp_DateForm_parts_of K C) := by
 refine D.ok N.cl sc_DateForm_parts_of (fun vs H Q E h => ?_) (fun f cdv A outer s H vs Q E hr h => ?_)
 ·obtain ⟨p, f, m, n, rfl, _⟩ := h
  rfl
 ·obtain ⟨a, b, f, t, rfl, ⟨dx, ha⟩, wf, hb, hz, k⟩ := h
  refine ⟨_, (pss_cons (ps_if (pt_cmpR op_eq (pe_fld (pv 0) rfl) pe_int (nomark _)) (pss_one (ps_ret (pe_mt (pv 0) om_DateForm_parts_by_length (hr.mono (by decide)) (pa_cons (pv 1) pa_nil)))) pss_nil)
   (pss_one (ps_ret (pe_fn ok_split_at (hr.mono (by decide)) (by rfl) (pa_cons (pv 1) (pa_cons (pe_fld (pv 0) rfl) pa_nil)))))), ?_⟩
  walk_at "S"
  refine ⟨C, dx, _, ha, N.cl, N.separator, _, df_separator f, rfl, ?_⟩
  split
  ·rename_i h
   have h0 : f.sep = 0 := by
    rw [← UInt8.toNat_inj]
    injection h with h
    show f.sep.toNat = 0
    omega
   refine ⟨dx, _, ha, df_no f (by decide +kernel) (by decide +kernel) (by decide +kernel) (by decide +kernel), a, b, f, t, rfl, ⟨dx, ha⟩, wf.1, hb, hz, ?_⟩
   rw [cuts_all f t wf.1 h0]
   exact k
  ·rename_i h
   have h0 : ¬ f.sep = 0 := fun z => h (by rw [z]; rfl)
   refine ⟨C, dx, _, ha, N.cl, N.separator, _, df_separator f, b, t, f.sep, rfl, hb, hz, ?_⟩
   have e : Tm.partsT f t = Tm.splitT f.sep t := by unfold Tm.partsT; rw [if_neg h0]
   rw [e] at k
   exact k
end
def partReadT (f : Vaflxm.DateForm) (part : Nat) (t : Vaflxm.Text) : Nat := if part = 2 then Tm.monthRead f.month t else Tm.numOf t
theorem find_first (p : Nat → Bool) (i : Nat) : ∀ n, i < n → p (i + 1) = true → (∀ j, j < i → p (j + 1) = false) → ((List.range n).map (· + 1)).find? p = some (i + 1)
 | 0, h, _, _ => by omega
 | n + 1, h, hp, hn => by
  rw [List.range_succ, List.map_append, List.find?_append]
  by_cases e : i = n
  ·subst e
   have : ((List.range i).map (· + 1)).find? p = none := by
    rw [List.find?_eq_none]
    intro x hx
    obtain ⟨j, hj, rfl⟩ := List.mem_map.mp hx
    have := hn j (List.mem_range.mp hj)
    simp [this]
   rw [this]
   simp [hp]
  ·rw [find_first p i n (by omega) hp hn]
   rfl
theorem find_none (p : Nat → Bool) (n : Nat) (h : ∀ j, j < n → p (j + 1) = false) : ((List.range n).map (· + 1)).find? p = none := by
 rw [List.find?_eq_none]
 intro x hx
 obtain ⟨j, hj, rfl⟩ := List.mem_map.mp hx
 have := h j (List.mem_range.mp hj)
 simp [this]
def kvsR (f : Vaflxm.DateForm) (ps : List Vaflxm.Text) : Nat → List (Key × V)
 | 0 => []
 | i + 1 => kvsR f ps i ++ [(.inl (((ordL f.order).getD i 0 : Nat) : Int), .int ((partReadT f ((ordL f.order).getD i 0) (ps.getD i []) : Nat) : Int))]
theorem kvsR_put (f : Vaflxm.DateForm) (ps : List Vaflxm.Text) (i : Nat) (h : i < 3) (v : V) : putK (kvsR f ps i) (.inl (((ordL f.order).getD i 0 : Nat) : Int)) v = kvsR f ps i ++ [(.inl (((ordL f.order).getD i 0 : Nat) : Int), v)] := by
 have : i = 0 ∨ i = 1 ∨ i = 2 := by omega
 by_cases e2 : f.order = 2
 ·rcases this with rfl | rfl | rfl <;> simp [kvsR, ordL, e2, putK]
 ·by_cases e1 : f.order = 1
  ·rcases this with rfl | rfl | rfl <;> simp [kvsR, ordL, e1, putK]
  ·rcases this with rfl | rfl | rfl <;> simp [kvsR, ordL, e1, e2, putK]
theorem kvsR_len (f : Vaflxm.DateForm) (ps : List Vaflxm.Text) : ∀ i, (kvsR f ps i).length = i
 | 0 => rfl
 | i + 1 => by simp [kvsR, kvsR_len f ps i]
theorem kvsR_get (f : Vaflxm.DateForm) (a b c : Vaflxm.Text) (p : Nat) (hp : p = 1 ∨ p = 2 ∨ p = 3) :
  valV (kvsR f [a, b, c] 3) (.inl (p : Int)) = some (.int ((partNum (Tm.dateP f a b c).1 (Tm.dateP f a b c).2.1 (Tm.dateP f a b c).2.2 p : Nat) : Int)) := by
 by_cases e2 : f.order = 2
 ·rcases hp with rfl | rfl | rfl <;> simp [kvsR, ordL, e2, valV, partNum, partReadT, Tm.dateP]
 ·by_cases e1 : f.order = 1
  ·rcases hp with rfl | rfl | rfl <;> simp [kvsR, ordL, e1, valV, partNum, partReadT, Tm.dateP]
  ·rcases hp with rfl | rfl | rfl <;> simp [kvsR, ordL, e1, e2, valV, partNum, partReadT, Tm.dateP]
section
variable {P : Program} {w : World} {K : PySem.W.Frag} {mg : Str → Option Value} {base : Heap}
def sp_DateForm_part_read (K : PySem.W.Frag) (C : Addr) : Sp := fun vs H Q _ => ∃ (a b : Addr) (f : Vaflxm.DateForm) (part : Nat) (t : Vaflxm.Text), vs = [.ref a, .int part, .ref b] ∧ DateAt C H a f ∧ Tm.wfD f ∧ SqL K H b (tv t) ∧ ∀ H', Same H H' → Q (.int ((partReadT f part t : Nat) : Int)) H'
abbrev s_DateForm_part_read : Stmt := inClass (top 31) 7
theorem sc_DateForm_part_read : FnScope ["self", "part", "text", "month"] ["self", "part", "text"] (defScope s_DateForm_part_read) := by walk_at "N"
theorem om_DateForm_part_read {C : Addr} (T : Txt K mg) (N : CD K C) (D : Mdef K C "part_read" "DateForm.part_read" s_DateForm_part_read ["self", "part", "text"]) (ok_number_of_digits : Ok P w K mg base 1 "number_of_digits" ["text"] (sp_number_of_digits K))
  (om_DateForm_month_written : Om P w K mg base C 2 "month_written" ["self", "month"] (sp_DateForm_month_written C)) : Om P w K mg base C 3 "part_read" ["self", "part", "text"] (sp_DateForm_part_read K C) := by
 refine D.ok N.cl sc_DateForm_part_read (fun vs H Q E h => ?_) (fun f cdv A outer s H vs Q E hr h => ?_)
 ·obtain ⟨p, f, m, n, t, rfl, _⟩ := h
  rfl
 ·obtain ⟨a, b, f, part, t, rfl, ⟨dx, ha⟩, wf, hb, k⟩ := h
  refine ⟨_, (pss_cons (ps_if (pw_or (pt_cmpR op_ne (pv 1) (pe_ci T.MONTH (by rfl)) (nomark _)) (pw_or1 (pt_cmpR op_le (pe_fld (pv 0) rfl) (pe_ci T.TWO_DIGITS (by rfl)) (nomark _)))).pt (pss_one (ps_ret (pe_fn ok_number_of_digits (hr.mono (by decide)) (by rfl) (pa_cons (pv 2) pa_nil)))) pss_nil)
   (pss_cons (ps_for PassesOwn.never rfl (pi_range2 (by rfl) T.n_range (pa_cons pe_int (pa_cons pe_int pa_nil))) (pg_name (i := 3) sc_DateForm_part_read.nd rfl (Or.inl rfl)) (pss_one (ps_if (pt_cmpR (op_eqD hr.units) (pe_mt (pv 0) om_DateForm_month_written (hr.mono (by decide)) (pa_cons (pv 3) pa_nil)) (pv 2) (nomark _)) (pss_one (ps_ret (pv 3))) pss_nil)))
   (pss_one (ps_ret pe_int)))), ?_⟩
  walk_at "S"
  have num : (part = 2 → f.month ≤ 2) → sp_number_of_digits K [V.ref b] H Q E0 := fun h => by
   refine ⟨b, t, rfl, hb, ?_⟩
   have e : partReadT f part t = Vaflxm.digitsVal (t.filter Vaflxm.isDigit) := by
    unfold partReadT
    split
    ·rename_i z
     unfold Tm.monthRead
     rw [if_pos (h z)]
    ·rfl
   rw [← e]
   exact k H (Same.refl H)
  split
  ·rename_i h
   exact num fun z => absurd (by rw [z]; rfl) h
  ·rename_i h
   refine ⟨C, dx, _, ha, N.cl, N.month_way, _, df_month_way f, _, rfl, ?_⟩
   split
   ·rename_i hw
    exact num fun _ => by omega
   ·rename_i hw
    have hpart : part = 2 := by
     have : (part : Int) = 2 := Classical.not_not.mp h
     omega
    have er : partReadT f part t = (((List.range 12).map (· + 1)).find? fun m => Vaflxm.monthText f.month m == t).getD 0 := by
     unfold partReadT Tm.monthRead
     rw [if_pos hpart, if_neg (by omega)]
    rw [er] at k
    refine ⟨by decide, by decide, by decide, by decide, ?_⟩
    obtain ⟨Pv, hPv⟩ : ∃ Pv : Nat → L2.St → Hp → Prop, Pv = fun i σ H' => ∃ v, σ = [some (.ref a), some (.int part), some (.ref b), v] ∧ Same H H' ∧ ∀ j, j < i → (Vaflxm.monthText f.month (j + 1) == t) = false := ⟨_, rfl⟩
    refine for_by (steps_rng 1 _) Pv ?_ (fun _ _ _ _ _ => trivial) ?_ ?_
    ·rw [hPv]
     exact ⟨none, rfl, Same.refl H, fun j hj => by omega⟩
    ·intro i σ H' hi h
     rw [hPv] at h
     obtain ⟨v, rfl, hs, hno⟩ := h
     have hi12 : i < 12 := hi
     have ha1 := hs _ _ ha
     walk_at "S"
     refine ⟨dx, _, ha1, df_no f (by decide +kernel) (by decide +kernel) (by decide +kernel) (by decide +kernel), a, f, i + 1, by congr 2; congr 1; omega, ⟨dx, ha1⟩, wf, by omega, by omega, ?_⟩
     intro p H2 s2 n2 h2
     refine ⟨_, td_list (sqL_of h2), _, td_list ((hs.trans s2).seq hb), td_shaped _, td_shaped _, ?_⟩
     have ee : (PyData.list (td (Vaflxm.monthText f.month (i + 1)))).eqv (.list (td t)) = decide (Vaflxm.monthText f.month (i + 1) = t) := by
      rw [PyData.eqv]
      exact td_eqv _ _
     rw [ee]
     split
     ·rename_i h3
      have h3 := of_decide_eq_true h3
      have e := find_first (fun m => Vaflxm.monthText f.month m == t) i 12 hi12 (by simp [h3]) hno
      rw [e] at k
      have := k H2 (hs.trans s2)
      rw [show (1 : Int) + (i : Int) = ((i + 1 : Nat) : Int) by omega]
      exact this
     ·rename_i h3
      rw [hPv]
      refine ⟨_, rfl, hs.trans s2, fun j hj => ?_⟩
      by_cases e : j = i
      ·subst e
       simp only [beq_eq_false_iff_ne]
       exact fun z => h3 (decide_eq_true z)
      ·exact hno j (by omega)
    ·intro σ H' h
     rw [hPv] at h
     obtain ⟨v, rfl, hs, hno⟩ := h
     walk_at "S"
     have e := find_none (fun m => Vaflxm.monthText f.month m == t) 12 hno
     rw [e] at k
     exact k H' hs
def sp_DateForm_value_read (K : PySem.W.Frag) (C : Addr) : Sp := fun vs H Q _ => ∃ (a b : Addr) (f : Vaflxm.DateForm) (t : Vaflxm.Text), vs = [.ref a, .ref b] ∧ DateAt C H a f ∧ Tm.wfD f ∧ SqL K H b (tv t) ∧ ResV H (Vaflxm.readIn (.date f) t) Q
abbrev s_DateForm_value_read : Stmt := inClass (top 31) 8
theorem sc_DateForm_value_read : FnScope ["self", "text", "parts", "found", "value", "part", "part_text"] ["self", "text"] (defScope s_DateForm_value_read) := by walk_at "N"
theorem om_DateForm_value_read {C : Addr} (T : Txt K mg) (N : CD K C) (D : Mdef K C "value_read" "DateForm.value_read" s_DateForm_value_read ["self", "text"])
  (om_DateForm_parts_of : Om P w K mg base C 2 "parts_of" ["self", "text"] (sp_DateForm_parts_of K C)) (om_DateForm_part_read : Om P w K mg base C 3 "part_read" ["self", "part", "text"] (sp_DateForm_part_read K C))
  (om_DateForm_written : Om P w K mg base C 4 "written" ["self", "value"] (sp_DateForm_written K C)) (ok_is_date : Ok P w K mg base 3 "is_date" ["year", "month", "day"] sp_is_date) :
  Om P w K mg base C 5 "value_read" ["self", "text"] (sp_DateForm_value_read K C) := by
 refine D.ok N.cl sc_DateForm_value_read (fun vs H Q E h => ?_) (fun f cdv A outer s H vs Q E hr h => ?_)
 ·obtain ⟨p, f, m, t, rfl, _⟩ := h
  rfl
 ·obtain ⟨a, b, f, t, rfl, ⟨dx, ha⟩, wf, hb, k⟩ := h
  have kk : Vaflxm.readIn (.date f) t = Vaflxm.readDate f t := rfl
  rw [kk, ← Tm.readP_eq f t wf] at k
  unfold Tm.readP at k
  have ltv : ∀ t : Vaflxm.Text, (tv t).length = t.length := fun t => by simp [tv]
  have hs9 := sizeLine_eq
  refine ⟨_, (pss_cons (ps_if (pt_cmpR op_gt (pe_callB call_len_seq (by rfl) T.n_len boot_len (pa_cons (pv 1) pa_nil)) (pe_ci T.LONGEST_DATE (by rfl)) (nomark _)) (pss_one (ps_ret pe_non)) pss_nil)
   (pss_cons (ps_set (i := 2) sc_DateForm_value_read.nd rfl (Or.inl rfl) (pe_mt (pv 0) om_DateForm_parts_of (hr.mono (by decide)) (pa_cons (pv 1) pa_nil)))
   (pss_cons (ps_if (pt_cmpR op_ne (pe_callB call_len_seq (by rfl) T.n_len boot_len (pa_cons (pv 2) pa_nil)) pe_int (nomark _)) (pss_one (ps_ret pe_non)) pss_nil)
   (pss_cons (ps_set (i := 3) sc_DateForm_value_read.nd rfl (Or.inl rfl) pe_dnewK)
   (pss_cons (ps_for PassesOwn.never rfl (pi_zipT (by rfl) T.n_zip (pa_cons (pe_ix ix_tup (pe_ctt T.PART_ORDERS (by rfl)) (pe_fld (pv 0) rfl) (fun _ _ => rfl)) (pa_cons (pv 2) pa_nil))) (pg_tup (n := 2) rfl (pgs_cons (pg_name (i := 5) sc_DateForm_value_read.nd rfl (Or.inl rfl)) (pgs_cons (pg_name (i := 6) sc_DateForm_value_read.nd rfl (Or.inl rfl)) pgs_nil))) (pss_one (ps_dput (hu_of hr) (pv 3) (pv 5) (pe_mt (pv 0) om_DateForm_part_read (hr.mono (by decide)) (pa_cons (pv 5) (pa_cons (pv 6) pa_nil))) rfl)))
   (pss_cons (ps_if (pt_not (pt_val (pe_fn ok_is_date (hr.mono (by decide)) (by rfl) (pa_cons (pe_dget (hu_of hr) (pv 3) (pe_ci T.YEAR (by rfl)) (fun _ _ => rfl)) (pa_cons (pe_dget (hu_of hr) (pv 3) (pe_ci T.MONTH (by rfl)) (fun _ _ => rfl)) (pa_cons (pe_dget (hu_of hr) (pv 3) (pe_ci T.DAY (by rfl)) (fun _ _ => rfl)) pa_nil)))))) (pss_one (ps_ret pe_non)) pss_nil)
   (pss_cons (ps_set (i := 4) sc_DateForm_value_read.nd rfl (Or.inl rfl) (pe_tup (pa_cons (pe_ci T.DATE_KIND (by rfl)) (pa_cons (pe_dget (hu_of hr) (pv 3) (pe_ci T.YEAR (by rfl)) (fun _ _ => rfl)) (pa_cons (pe_dget (hu_of hr) (pv 3) (pe_ci T.MONTH (by rfl)) (fun _ _ => rfl)) (pa_cons (pe_dget (hu_of hr) (pv 3) (pe_ci T.DAY (by rfl)) (fun _ _ => rfl)) pa_nil))))))
   (pss_cons (ps_if (pt_cmpR (op_neD hr.units) (pe_mt (pv 0) om_DateForm_written (hr.mono (by decide)) (pa_cons (pv 4) pa_nil)) (pv 1) (nomark _)) (pss_one (ps_ret pe_non)) pss_nil)
   (pss_one (ps_ret (pv 4))))))))))), ?_⟩
  walk_at "S"
  refine ⟨_, .inl hb, ?_⟩
  rw [ltv]
  split
  ·rename_i hl
   rw [if_pos (by omega)] at k
   exact k H (Same.refl H)
  ·rename_i hl
   rw [if_neg (by omega)] at k
   refine ⟨dx, _, ha, df_no f (by decide +kernel) (by decide +kernel) (by decide +kernel) (by decide +kernel), a, b, f, t, rfl, ⟨dx, ha⟩, wf, hb, by omega, ?_⟩
   rintro p H1 s1 n1 ⟨as, hp1, hal, hat⟩
   refine ⟨p, rfl, _, .inl (sqL_of hp1), ?_⟩
   rw [List.length_map]
   split
   ·rename_i h3
    have e : ∀ a b c, Tm.partsT f t ≠ [a, b, c] := fun a b c z => by
     rw [z] at hal
     exact h3 (by rw [hal]; rfl)
    have k2 : ResV H none Q := by
     revert k
     split
     ·rename_i a b c z; exact fun _ => absurd z (e a b c)
     ·exact fun k => k
    exact k2 H1 s1
   ·rename_i h3
    have h3 : as.length = 3 := by
     have : (as.length : Int) = 3 := Classical.not_not.mp h3
     omega
    obtain ⟨A, B, C3, ep⟩ : ∃ A B C3, Tm.partsT f t = [A, B, C3] := by
     match hq : Tm.partsT f t with
     | [A, B, C3] => exact ⟨A, B, C3, rfl⟩
     | [] => rw [hq] at hal; simp only [List.length_cons, List.length_nil] at hal; omega
     | [_] => rw [hq] at hal; simp only [List.length_cons, List.length_nil] at hal; omega
     | [_, _] => rw [hq] at hal; simp only [List.length_cons, List.length_nil] at hal; omega
     | _ :: _ :: _ :: _ :: _ => rw [hq] at hal; simp only [List.length_cons, List.length_nil] at hal; omega
    rw [ep] at k hal hat
    have k : ResV H (if Vaflxm.isDate (Tm.dateP f A B C3).1 (Tm.dateP f A B C3).2.1 (Tm.dateP f A B C3).2.2 = true ∧ Vaflxm.writeDate f (Tm.dateP f A B C3).1 (Tm.dateP f A B C3).2.1 (Tm.dateP f A B C3).2.2 = t then some (.date (Tm.dateP f A B C3).1 (Tm.dateP f A B C3).2.1 (Tm.dateP f A B C3).2.2) else none) Q := k
    obtain ⟨⟨yy, mm, dd⟩, hymd⟩ : ∃ x, x = Tm.dateP f A B C3 := ⟨_, rfl⟩
    intro pf hpf c as2 kc lc ec
    have npf : p ≠ pf := ne_of_none hp1 hpf
    have npf0 : H pf = none := s1.free hpf
    obtain ⟨b5, hb5⟩ : ∃ b5, as2[f.order]? = some b5 := ⟨as2[f.order]'(by have := wf.1; omega), List.getElem?_eq_getElem _⟩
    have k5 : KT K b5 ((ordL f.order).map fun (n : Nat) => V.int n) := ec f.order b5 _ hb5 (orders_at f.order wf.1)
    have s2 : Same H1 (upd H1 pf (.dK [])) := same_new hpf
    have ha2 := s2 _ _ (s1 _ _ ha)
    refine ⟨C, dx, _, ha2, N.cl, N.order, _, df_order f, _, _, rfl, kc.sq _, _, at_of (j := f.order) rfl (by rw [List.getElem?_map, hb5]; rfl), b5, rfl, p, rfl, _, k5, ⟨_, sqL_of (s2 _ _ hp1)⟩, ?_⟩
    obtain ⟨Pv, hPv⟩ : ∃ Pv : Nat → L2.St → Hp → Prop, Pv = fun i σ H' => ∃ v4 v5 v6, σ = [some (.ref a), some (.ref b), some (.ref p), some (.ref pf), v4, v5, v6] ∧ Same H1 H' ∧ H' pf = some (.dK (kvsR f [A, B, C3] i)) := ⟨_, rfl⟩
    refine for_zipT (ys := as.map V.ref) (by rw [List.length_map, List.length_map, ordL_len]; omega) Pv ?_ ?_ ?_ ?_
    ·rw [hPv]
     exact ⟨none, none, none, rfl, s2, upd_same⟩
    ·intro i σ H' _ h
     rw [hPv] at h
     obtain ⟨v4, v5, v6, rfl, hs, _⟩ := h
     exact sqL_of (hs _ _ hp1)
    ·intro i x y σ H' T hx hy h hT
     rw [hPv] at h
     obtain ⟨v4, v5, v6, rfl, hs, hd⟩ := h
     rw [List.getElem?_map] at hx hy
     obtain ⟨q, hq, rfl⟩ : ∃ q, (ordL f.order)[i]? = some q ∧ x = V.int (q : Nat) := by
      cases e : (ordL f.order)[i]? with
      | none => rw [e] at hx; cases hx
      | some q => rw [e] at hx; exact ⟨q, rfl, (Option.some.inj hx).symm⟩
     obtain ⟨aa, hqa, rfl⟩ : ∃ aa, as[i]? = some aa ∧ y = V.ref aa := by
      cases e : as[i]? with
      | none => rw [e] at hy; cases hy
      | some q => rw [e] at hy; exact ⟨q, rfl, (Option.some.inj hy).symm⟩
     have hi : i < 3 := by
      have := (List.getElem?_eq_some_iff.mp hq).1
      rw [ordL_len] at this
      exact this
     have eq0 : (ordL f.order).getD i 0 = q := by simp [List.getD, hq]
     obtain ⟨u, hu⟩ : ∃ u, ([A, B, C3] : List Vaflxm.Text)[i]? = some u := ⟨_, List.getElem?_eq_getElem (show i < [A, B, C3].length from hi)⟩
     have eu : ([A, B, C3] : List Vaflxm.Text).getD i [] = u := by simp [List.getD, hu]
     have hau := hs _ _ (hat i aa u hqa hu)
     obtain ⟨H2, hH2⟩ : ∃ H2, H2 = upd H' T (.tup [.int (q : Nat), .ref aa]) := ⟨_, rfl⟩
     have s12 : Same H' H2 := by rw [hH2]; exact same_new hT
     have hT2 : H2 T = some (.tup [.int (q : Nat), .ref aa]) := by rw [hH2]; exact upd_same
     rw [← hH2]
     have ha3 := s12 _ _ (hs _ _ (s1 _ _ ha))
     simp only [ap_gTup, ap_gCons, ap_gName, ap_gNil]
     refine ⟨T, _, rfl, sqT_of hT2, rfl, _, _, rfl, _, _, rfl, rfl, ?_⟩
     walk_at "S"
     refine ⟨dx, _, ha3, df_no f (by decide +kernel) (by decide +kernel) (by decide +kernel) (by decide +kernel), a, aa, f, q, u, rfl, ⟨dx, ha3⟩, wf, sqL_of (s12 _ _ hau), ?_⟩
     intro H4 s4
     have hd4 := s4 _ _ (s12 _ _ hd)
     refine ⟨_, DPut.k (k := Sum.inl (q : Int)) hd4 (by rw [kvsR_len]; omega), ?_⟩
     rw [hPv]
     refine ⟨v4, _, _, rfl, ?_, ?_⟩
     ·intro c o e
      have nc : c ≠ pf := fun z => by rw [z, hpf] at e; cases e
      rw [upd_ne nc]
      exact s4 _ _ (s12 _ _ (hs _ _ e))
     ·rw [upd_same]
      have := kvsR_put f [A, B, C3] i hi (.int ((partReadT f q u : Nat) : Int))
      rw [eq0] at this
      rw [this]
      simp only [kvsR, eq0, eu]
    ·intro σ H' h
     rw [hPv] at h
     obtain ⟨v4, v5, v6, rfl, hs, hd⟩ := h
     rw [show ((ordL f.order).map fun (n : Nat) => V.int n).length = 3 by rw [List.length_map, ordL_len]] at hd
     have s01 : Same H H' := s1.trans hs
     have dg : ∀ (q : Nat), (q = 1 ∨ q = 2 ∨ q = 3) → DGet H' pf (.int (q : Nat)) (some (.int ((partNum yy mm dd q : Nat) : Int))) := fun q hq => by
      have := DGet.k (k := Sum.inl (q : Int)) hd
      rw [kvsR_get f A B C3 q hq, ← hymd] at this
      exact this
     rw [← hymd] at k
     walk_at "S"
     refine ⟨_, dg 1 (.inl rfl), _, dg 2 (.inr (.inl rfl)), _, dg 3 (.inr (.inr rfl)), _, _, _, rfl, ?_⟩
     refine ⟨_, rfl, ?_⟩
     have eg : Vaflxm.goodDate ((partNum yy mm dd 1 : Nat) : Int) ((partNum yy mm dd 2 : Nat) : Int) ((partNum yy mm dd 3 : Nat) : Int) = Vaflxm.isDate yy mm dd := Tm.goodDate_nat yy mm dd
     rw [eg]
     split
     ·rename_i hg
      rw [if_neg (by intro z; rw [hg] at z; exact absurd z.1 (by decide))] at k
      exact k H' s01
     ·rename_i hg
      have hg : Vaflxm.isDate yy mm dd = true := by
       cases e : Vaflxm.isDate yy mm dd with
       | true => rfl
       | false => exact absurd e hg
      refine ⟨_, dg 1 (.inl rfl), _, dg 2 (.inr (.inl rfl)), _, dg 3 (.inr (.inr rfl)), by omega, fun pv hpv => ?_⟩
      obtain ⟨H2, hH2⟩ : ∃ H2, H2 = upd H' pv (.tup (vv (.date yy mm dd))) := ⟨_, rfl⟩
      have s2 : Same H' H2 := by rw [hH2]; exact same_new hpv
      have h2 : H2 pv = some (.tup (vv (.date yy mm dd))) := by rw [hH2]; exact upd_same
      have e2 : upd H' pv (.tup [V.int 1, V.int ((partNum yy mm dd 1 : Nat) : Int), V.int ((partNum yy mm dd 2 : Nat) : Int), V.int ((partNum yy mm dd 3 : Nat) : Int)]) = H2 := by rw [hH2]; rfl
      rw [e2]
      have s02 : Same H H2 := s01.trans s2
      have ha4 := s02 _ _ ha
      refine ⟨dx, _, ha4, df_no f (by decide +kernel) (by decide +kernel) (by decide +kernel) (by decide +kernel), a, pv, f, .date yy mm dd, rfl, ⟨dx, ha4⟩, wf, sqT_of h2, hg, ?_⟩
      intro p4 H4 s4 n4 h4
      refine ⟨_, td_list (sqL_of h4), _, td_list ((s02.trans s4).seq hb), td_shaped _, td_shaped t, ?_⟩
      have ee : (PyData.list (td (Vaflxm.writeDate f yy mm dd))).eqv (.list (td t)) = decide (Vaflxm.writeDate f yy mm dd = t) := by
       rw [PyData.eqv]
       exact td_eqv _ t
      rw [ee]
      by_cases hq : Vaflxm.writeDate f yy mm dd = t
      ·rw [if_neg (by simp [hq])]
       rw [if_pos ⟨hg, hq⟩] at k
       exact k pv H4 (s02.trans s4) (s01.free hpv) (s4 _ _ h2)
      ·rw [if_pos (by simp [hq])]
       rw [if_neg (fun z => hq z.2)] at k
       exact k H4 (s02.trans s4)
end
def wfF : Vaflxm.Form → Prop
 | .num g => wfN g
 | .date g => Tm.wfD g
def fieldsOf : Vaflxm.Form → List (Str × V)
 | .num g => nfF g
 | .date g => dfF g
def clsOf (CN_ CD_ : Addr) : Vaflxm.Form → Addr
 | .num _ => CN_
 | .date _ => CD_
def FormAt (CN_ CD_ : Addr) (H : Hp) (a : Addr) (f : Vaflxm.Form) : Prop := ∃ dx, H a = some (.ins (clsOf CN_ CD_ f) dx (fieldsOf f))
theorem FormAt.same {CN_ CD_ : Addr} {H H' : Hp} {a : Addr} {f : Vaflxm.Form} (h : FormAt CN_ CD_ H a f) (s : Same H H') : FormAt CN_ CD_ H' a f := by
 obtain ⟨dx, h⟩ := h
 exact ⟨dx, s _ _ h⟩
def FormsAt (CN_ CD_ : Addr) (H : Hp) (p : Addr) (fs : List Vaflxm.Form) : Prop := ∃ as : List Addr, H p = some (.lst (as.map V.ref)) ∧ as.length = fs.length ∧ ∀ (i : Nat) (a : Addr) (f : Vaflxm.Form), as[i]? = some a → fs[i]? = some f → FormAt CN_ CD_ H a f
theorem FormsAt.same {CN_ CD_ : Addr} {H H' : Hp} {p : Addr} {fs : List Vaflxm.Form} (h : FormsAt CN_ CD_ H p fs) (s : Same H H') : FormsAt CN_ CD_ H' p fs := by
 obtain ⟨as, h1, h2, h3⟩ := h
 exact ⟨as, s _ _ h1, h2, fun i a f q1 q2 => (h3 i a f q1 q2).same s⟩
theorem FormAt.ne {CN_ CD_ : Addr} {H : Hp} {p a : Addr} {f : Vaflxm.Form} {xs : List V} (h : FormAt CN_ CD_ H a f) (hp : H p = some (.lst xs)) : a ≠ p := by
 obtain ⟨dx, h⟩ := h
 exact ne_of h hp (by intro z; cases z)
theorem FormsAt.join {CN_ CD_ : Addr} {H : Hp} {p : Addr} {as bs : List Addr} {fs gs : List Vaflxm.Form} (hp : H p = some (.lst (as.map V.ref))) (hl : as.length = fs.length) (hs : ∀ (i : Nat) (a : Addr) (f : Vaflxm.Form), as[i]? = some a → fs[i]? = some f → FormAt CN_ CD_ H a f)
  (hl2 : bs.length = gs.length) (hs2 : ∀ (i : Nat) (a : Addr) (f : Vaflxm.Form), bs[i]? = some a → gs[i]? = some f → FormAt CN_ CD_ H a f) : FormsAt CN_ CD_ (upd H p (.lst (as.map V.ref ++ bs.map V.ref))) p (fs ++ gs) := by
 refine ⟨as ++ bs, by rw [upd_same, List.map_append], by simp [hl, hl2], fun i a f q1 q2 => ?_⟩
 have key : FormAt CN_ CD_ H a f := by
  by_cases hi : i < as.length
  ·rw [List.getElem?_append_left hi] at q1
   rw [List.getElem?_append_left (by omega)] at q2
   exact hs i a f q1 q2
  ·rw [List.getElem?_append_right (by omega)] at q1
   rw [List.getElem?_append_right (by omega), ← hl] at q2
   exact hs2 _ a f q1 q2
 have ne := key.ne hp
 obtain ⟨dx, k⟩ := key
 exact ⟨dx, by rw [upd_ne ne]; exact k⟩
theorem read_ok (f : Vaflxm.Form) (t : Vaflxm.Text) (v : Vaflxm.Value) (wf : wfF f) (h : Vaflxm.readIn f t = some v) : okV v := by
 cases f with
 | num g =>
  have h : Vaflxm.readNum g t = some v := h
  rw [Tm.readNum_eq] at h
  split at h
  ·cases h
  ·rename_i hl
   split at h
   ·have e := Option.some.inj h
    subst e
    have h1 := Tm.lowest_small g.decimals (Tm.signed t)
    have h2 := (Tm.lowest_spec g.decimals (Tm.signed t)).1
    have h4 := Tm.digits_read_lt t (by omega)
    have h5 : (Tm.signed t).natAbs ≤ Vaflxm.digitsVal (t.filter Vaflxm.isDigit) := by
     unfold Tm.signed
     split <;> omega
    obtain ⟨_, _, w3⟩ := wf
    refine ⟨?_, by omega⟩
    have : (10 : Nat) ^ 25 < 10 ^ 40 := by decide
    omega
   ·cases h
 | date g =>
  obtain ⟨y, m, d, rfl, h1, _⟩ := Tm.readDate_only g t v h
  exact h1
def wholeL : List Vaflxm.Form := ([1, 2, 3, 4, 5, 6] : List Nat).flatMap fun w => ([0, 44, 46, 32] : List UInt8).map fun g => .num ⟨w, g, 0, 46⟩
def decL (d : Nat) (m : UInt8) : List Vaflxm.Form := ([1, 2, 3, 4, 5, 6] : List Nat).flatMap fun w => ([0, 44, 46, 32] : List UInt8).flatMap fun g => if g = m then [] else [.num ⟨w, g, d, m⟩]
def dateL (o : Nat) (s : UInt8) : List Vaflxm.Form := [true, false].flatMap fun b => ([2, 1, 3, 4] : List Nat).flatMap fun m => if s ≠ 0 ∨ (b = true ∧ m ≠ 1) then [.date ⟨o, s, b, m⟩] else []
theorem forms_eq : wholeL ++ (([1, 2, 3, 4] : List Nat).flatMap fun d => ([46, 44] : List UInt8).flatMap fun m => decL d m) ++ (([0, 1, 2] : List Nat).flatMap fun o => ([46, 47, 45, 32, 0] : List UInt8).flatMap fun s => dateL o s) = Vaflxm.forms := by decide +kernel
theorem forms_wf : ∀ f ∈ Vaflxm.forms, wfF f := by
 have h : Vaflxm.forms.all (fun f => match f with
  | .num g => decide (1 ≤ g.width) && decide (g.width ≤ 6) && decide (g.decimals ≤ 4)
  | .date g => decide (g.order ≤ 2) && (g.sep == 46 || g.sep == 47 || g.sep == 45 || g.sep == 32 || g.sep == 0) && decide (1 ≤ g.month) && decide (g.month ≤ 4) && (g.sep != 0 || (g.day2 && g.month != 1))) = true := by decide +kernel
 intro f hf
 have q := List.all_eq_true.mp h f hf
 cases f with
 | num g =>
  simp at q
  exact ⟨q.1.1, q.1.2, q.2⟩
 | date g =>
  simp at q
  refine ⟨q.1.1.1.1, ?_, ⟨q.1.1.2, q.1.2⟩, fun z => ?_⟩
  ·rcases q.1.1.1.2 with (((h | h) | h) | h) | h
   ·exact .inl h
   ·exact .inr (.inl h)
   ·exact .inr (.inr (.inl h))
   ·exact .inr (.inr (.inr (.inl h)))
   ·exact .inr (.inr (.inr (.inr h)))
  ·rcases q.2 with h | h
   ·exact absurd z h
   ·exact h
def gl : List UInt8 := [0, 44, 46, 32]
def wl : List Nat := [1, 2, 3, 4, 5, 6]
theorem take_one {α : Type} {l : List α} {i : Nat} {x : α} (h : l[i]? = some x) : l.take (i + 1) = l.take i ++ [x] := by
 obtain ⟨hi, e⟩ := List.getElem?_eq_some_iff.mp h
 rw [List.take_succ_eq_append_getElem hi, e]
theorem item_of {α : Type} {l : List α} {g : α → V} {i : Nat} (h : i < l.length) : ∃ x, l[i]? = some x ∧ (l.map g).getD i .non = g x := by
 refine ⟨l[i], List.getElem?_eq_getElem h, ?_⟩
 simp [List.getD, List.getElem?_eq_getElem h]
theorem FormsAt.push {CN_ CD_ : Addr} {H : Hp} {p x : Addr} {as : List Addr} {fs : List Vaflxm.Form} {f : Vaflxm.Form} (hp : H p = some (.lst (as.map V.ref))) (hl : as.length = fs.length) (hs : ∀ (i : Nat) (a : Addr) (f : Vaflxm.Form), as[i]? = some a → fs[i]? = some f → FormAt CN_ CD_ H a f)
  (hx : FormAt CN_ CD_ H x f) : FormsAt CN_ CD_ (upd H p (.lst (as.map V.ref ++ [V.ref x]))) p (fs ++ [f]) := by
 have := FormsAt.join (bs := [x]) (gs := [f]) hp hl hs rfl (fun i a g q1 q2 => by
  have hi : i = 0 := by
   have := (List.getElem?_eq_some_iff.mp q1).1
   simp at this
   exact this
  subst hi
  have e1 : x = a := Option.some.inj q1
  have e2 : f = g := Option.some.inj q2
  subst e1 e2
  exact hx)
 exact this
section
variable {P : Program} {w : World} {K : PySem.W.Frag} {mg : Str → Option Value} {base : Heap} {CN_ CD_ : Addr}
def NewForms (CN_ CD_ : Addr) (H : Hp) (fs : List Vaflxm.Form) (Q : VK) : Prop := ∀ p H', Same H H' → H p = none → FormsAt CN_ CD_ H' p fs → Q (.ref p) H'
def sp_whole_forms (CN_ CD_ : Addr) : Sp := fun vs H Q _ => vs = [] ∧ NewForms CN_ CD_ H wholeL Q
abbrev s_whole_forms : Stmt := top 61
theorem sc_whole_forms : FnScope ["forms", "width", "group"] [] (defScope s_whole_forms) := by walk_at "N"
theorem ok_whole_forms (T : Txt K mg) (D : Def K mg "whole_forms" s_whole_forms []) (cl_NumberForm : Oc P w K mg base CN_ 1 "NumberForm" ["self", "width", "group", "decimals", "mark"] (sp_NumberForm_init CN_)) : Ok P w K mg base 3 "whole_forms" [] (sp_whole_forms CN_ CD_) := by
 refine D.ok sc_whole_forms (fun vs H Q E h => ?_) (fun f cdv A outer s H vs Q E hr h => ?_)
 ·obtain ⟨rfl, _⟩ := h
  rfl
 ·obtain ⟨rfl, k⟩ := h
  have hs9 := sizeLine_eq
  refine ⟨_, (pss_cons (ps_set (i := 0) sc_whole_forms.nd rfl (Or.inl rfl) (pe_lst pa_nil))
   (pss_cons (ps_for PassesOwn.never rfl (pi_tup (pe_ct T.WIDTHS (by rfl))) (pg_name (i := 1) sc_whole_forms.nd rfl (Or.inl rfl)) (pss_one (ps_for PassesOwn.never rfl (pi_tup (pe_ct T.GROUPS (by rfl))) (pg_name (i := 2) sc_whole_forms.nd rfl (Or.inl rfl)) (pss_one (ps_expr (pe_bm PySem.F.plainAttrs_list PySem.F.slot_list_append PySem.F.type_list_append mt_append (pv 0) (pa_cons (pe_cls cl_NumberForm (hr.mono (by decide)) (by rfl) (pa_cons (pv 1) (pa_cons (pv 2) (pa_cons pe_int (pa_cons (pe_ci T.POINT (by rfl)) pa_nil))))) pa_nil)))))))
   (pss_one (ps_ret (pv 0))))), ?_⟩
  walk_at "S"
  refine ⟨Nat.zero_le _, fun p hp cW kW => ⟨⟨_, kW.sq _⟩, ?_⟩⟩
  have kW : KT K cW (wl.map fun (n : Nat) => V.int n) := kW
  obtain ⟨Po, hPo⟩ : ∃ Po : Nat → L2.St → Hp → Prop, Po = fun i σ H' => ∃ v1 v2, σ = [some (.ref p), v1, v2] ∧ Same H H' ∧ FormsAt CN_ CD_ H' p ((wl.take i).flatMap fun w => gl.map fun g => .num ⟨w, g, 0, 46⟩) := ⟨_, rfl⟩
  refine for_by (steps_tup K cW _) Po ?_ (fun _ _ _ _ _ => kW.sq _) ?_ ?_
  ·rw [hPo]
   exact ⟨none, none, rfl, same_new hp, [], upd_same, rfl, fun i a f h => by simp at h⟩
  ·intro i σ H' hi h
   rw [hPo] at h
   obtain ⟨v1, v2, rfl, hs, hf⟩ := h
   obtain ⟨wd, hwd, ew⟩ := item_of (g := fun (n : Nat) => V.int n) (show i < wl.length by simpa using hi)
   rw [ew]
   walk_at "S"
   intro cG kG
   refine ⟨⟨_, kG.sq _⟩, ?_⟩
   have kG : KT K cG (gl.map fun (g : UInt8) => V.int (g.toNat : Nat)) := kG
   obtain ⟨Pi, hPi⟩ : ∃ Pi : Nat → L2.St → Hp → Prop, Pi = fun j σ H' => ∃ v2, σ = [some (.ref p), some (.int wd), v2] ∧ Same H H' ∧ FormsAt CN_ CD_ H' p (((wl.take i).flatMap fun w => gl.map fun g => .num ⟨w, g, 0, 46⟩) ++ (gl.take j).map fun g => .num ⟨wd, g, 0, 46⟩) := ⟨_, rfl⟩
   refine for_by (steps_tup K cG _) Pi ?_ (fun _ _ _ _ _ => kG.sq _) ?_ ?_
   ·rw [hPi]
    exact ⟨v2, rfl, hs, by simpa using hf⟩
   ·intro j σ H2 hj h
    rw [hPi] at h
    obtain ⟨v2, rfl, hs2, as, hpp, hal, hat⟩ := h
    obtain ⟨g, hg, eg⟩ := item_of (g := fun (g : UInt8) => V.int (g.toNat : Nat)) (show j < gl.length by simpa using hj)
    rw [eg]
    have hi6 : i < 6 := by simpa [wl] using hi
    have hj4 : j < 4 := by simpa [gl] using hj
    have hlen : as.length ≤ 100 := by
     rw [hal]
     simp [gl]
     have : ((wl.take i).length) ≤ 6 := by rw [List.length_take]; omega
     simp [List.map_const']
     omega
    walk_at "S"
    refine ⟨tyL_of (sqL_of hpp), fun x dx hx hdx hne => ?_⟩
    refine ⟨x, dx, ⟨wd, g, 0, 46⟩, rfl, upd_same, fun H3 h3 kp => ⟨rfl, ?_⟩⟩
    have s23 : Same H2 H3 := Same.made hx hdx kp
    refine ⟨_, s23 _ _ hpp, by rw [List.length_map]; omega, ?_⟩
    rw [hPi]
    refine ⟨_, rfl, (hs2.trans s23).put hp, ?_⟩
    rw [take_one hg, List.map_append, ← List.append_assoc]
    exact FormsAt.push (f := .num ⟨wd, g, 0, 46⟩) (s23 _ _ hpp) hal (fun i a f q1 q2 => (hat i a f q1 q2).same s23) ⟨dx, h3⟩
   ·intro σ H2 h
    rw [hPi] at h
    obtain ⟨v2, rfl, hs2, hf2⟩ := h
    rw [hPo]
    refine ⟨_, _, rfl, hs2, ?_⟩
    rw [take_one hwd, List.flatMap_append]
    simpa using hf2
  ·intro σ H' h
   rw [hPo] at h
   obtain ⟨v1, v2, rfl, hs, hf⟩ := h
   walk_at "S"
   exact k p H' hs hp hf
def sp_decimal_forms (CN_ CD_ : Addr) : Sp := fun vs H Q _ => ∃ (d : Nat) (m : UInt8), vs = [.int d, .int (m.toNat : Nat)] ∧ NewForms CN_ CD_ H (decL d m) Q
abbrev s_decimal_forms : Stmt := top 62
theorem sc_decimal_forms : FnScope ["decimals", "mark", "forms", "width", "group"] ["decimals", "mark"] (defScope s_decimal_forms) := by walk_at "N"
theorem ok_decimal_forms (T : Txt K mg) (D : Def K mg "decimal_forms" s_decimal_forms ["decimals", "mark"]) (cl_NumberForm : Oc P w K mg base CN_ 1 "NumberForm" ["self", "width", "group", "decimals", "mark"] (sp_NumberForm_init CN_)) : Ok P w K mg base 3 "decimal_forms" ["decimals", "mark"] (sp_decimal_forms CN_ CD_) := by
 refine D.ok sc_decimal_forms (fun vs H Q E h => ?_) (fun f cdv A outer s H vs Q E hr h => ?_)
 ·obtain ⟨d, m, rfl, _⟩ := h
  rfl
 ·obtain ⟨d, m, rfl, k⟩ := h
  have hs9 := sizeLine_eq
  refine ⟨_, (pss_cons (ps_set (i := 2) sc_decimal_forms.nd rfl (Or.inl rfl) (pe_lst pa_nil))
   (pss_cons (ps_for PassesOwn.never rfl (pi_tup (pe_ct T.WIDTHS (by rfl))) (pg_name (i := 3) sc_decimal_forms.nd rfl (Or.inl rfl)) (pss_one (ps_for PassesOwn.never rfl (pi_tup (pe_ct T.GROUPS (by rfl))) (pg_name (i := 4) sc_decimal_forms.nd rfl (Or.inl rfl)) (pss_one (ps_if (pt_cmpR op_ne (pv 4) (pv 1) (nomark _)) (pss_one (ps_expr (pe_bm PySem.F.plainAttrs_list PySem.F.slot_list_append PySem.F.type_list_append mt_append (pv 2) (pa_cons (pe_cls cl_NumberForm (hr.mono (by decide)) (by rfl) (pa_cons (pv 3) (pa_cons (pv 4) (pa_cons (pv 0) (pa_cons (pv 1) pa_nil))))) pa_nil)))) pss_nil)))))
   (pss_one (ps_ret (pv 2))))), ?_⟩
  walk_at "S"
  refine ⟨Nat.zero_le _, fun p hp cW kW => ⟨⟨_, kW.sq _⟩, ?_⟩⟩
  have kW : KT K cW (wl.map fun (n : Nat) => V.int n) := kW
  obtain ⟨Po, hPo⟩ : ∃ Po : Nat → L2.St → Hp → Prop, Po = fun i σ H' => ∃ v1 v2, σ = [some (.int d), some (.int (m.toNat : Nat)), some (.ref p), v1, v2] ∧ Same H H' ∧ FormsAt CN_ CD_ H' p ((wl.take i).flatMap fun w => gl.flatMap fun g => if g = m then [] else [.num ⟨w, g, d, m⟩]) := ⟨_, rfl⟩
  refine for_by (steps_tup K cW _) Po ?_ (fun _ _ _ _ _ => kW.sq _) ?_ ?_
  ·rw [hPo]
   exact ⟨none, none, rfl, same_new hp, [], upd_same, rfl, fun i a f h => by simp at h⟩
  ·intro i σ H' hi h
   rw [hPo] at h
   obtain ⟨v1, v2, rfl, hs, hf⟩ := h
   obtain ⟨wd, hwd, ew⟩ := item_of (g := fun (n : Nat) => V.int n) (show i < wl.length by simpa using hi)
   rw [ew]
   walk_at "S"
   intro cG kG
   refine ⟨⟨_, kG.sq _⟩, ?_⟩
   have kG : KT K cG (gl.map fun (g : UInt8) => V.int (g.toNat : Nat)) := kG
   obtain ⟨Pi, hPi⟩ : ∃ Pi : Nat → L2.St → Hp → Prop, Pi = fun j σ H' => ∃ v2, σ = [some (.int d), some (.int (m.toNat : Nat)), some (.ref p), some (.int wd), v2] ∧ Same H H' ∧ FormsAt CN_ CD_ H' p (((wl.take i).flatMap fun w => gl.flatMap fun g => if g = m then [] else [.num ⟨w, g, d, m⟩]) ++ (gl.take j).flatMap fun g => if g = m then [] else [.num ⟨wd, g, d, m⟩]) := ⟨_, rfl⟩
   refine for_by (steps_tup K cG _) Pi ?_ (fun _ _ _ _ _ => kG.sq _) ?_ ?_
   ·rw [hPi]
    exact ⟨v2, rfl, hs, by simpa using hf⟩
   ·intro j σ H2 hj h
    rw [hPi] at h
    obtain ⟨v2, rfl, hs2, as, hpp, hal, hat⟩ := h
    obtain ⟨g, hg, eg⟩ := item_of (g := fun (g : UInt8) => V.int (g.toNat : Nat)) (show j < gl.length by simpa using hj)
    rw [eg]
    have hi6 : i < 6 := by simpa [wl] using hi
    have hj4 : j < 4 := by simpa [gl] using hj
    have hlen : as.length ≤ 100 := by
     rw [hal, List.length_append]
     have one : ∀ (w : Nat) (l : List UInt8), (l.flatMap fun g => if g = m then ([] : List Vaflxm.Form) else [.num ⟨w, g, d, m⟩]).length ≤ l.length := by
      intro w l
      induction l with
      | nil => simp
      | cons c r ih => simp only [List.flatMap_cons, List.length_append, List.length_cons]; split <;> simp at ih ⊢ <;> omega
     have two : ∀ l : List Nat, (l.flatMap fun w => gl.flatMap fun g => if g = m then ([] : List Vaflxm.Form) else [.num ⟨w, g, d, m⟩]).length ≤ 4 * l.length := by
      intro l
      induction l with
      | nil => simp
      | cons c r ih =>
       have := one c gl
       simp only [List.flatMap_cons, List.length_append, List.length_cons]
       simp only [show gl.length = 4 from rfl] at this
       omega
     have h1 := two (wl.take i)
     have h2 := one wd (gl.take j)
     have h3 : (wl.take i).length ≤ 6 := by rw [List.length_take]; omega
     have h4 : (gl.take j).length ≤ 4 := by rw [List.length_take]; omega
     omega
    walk_at "S"
    split
    ·rename_i hq
     have hgm : ¬ g = m := fun z => hq (by rw [z])
     refine ⟨tyL_of (sqL_of hpp), fun x dx hx hdx hne => ?_⟩
     refine ⟨x, dx, ⟨wd, g, d, m⟩, rfl, upd_same, fun H3 h3 kp => ⟨rfl, ?_⟩⟩
     have s23 : Same H2 H3 := Same.made hx hdx kp
     refine ⟨_, s23 _ _ hpp, by rw [List.length_map]; omega, ?_⟩
     rw [hPi]
     refine ⟨_, rfl, (hs2.trans s23).put hp, ?_⟩
     rw [take_one hg, List.flatMap_append, ← List.append_assoc]
     have e7 : ([g].flatMap fun g => if g = m then ([] : List Vaflxm.Form) else [.num ⟨wd, g, d, m⟩]) = [.num ⟨wd, g, d, m⟩] := by simp [hgm]
     rw [e7]
     exact FormsAt.push (f := .num ⟨wd, g, d, m⟩) (s23 _ _ hpp) hal (fun i a f q1 q2 => (hat i a f q1 q2).same s23) ⟨dx, h3⟩
    ·rename_i hq
     have hgm : g = m := by
      rw [← UInt8.toNat_inj]
      have : ((g.toNat : Nat) : Int) = ((m.toNat : Nat) : Int) := Classical.not_not.mp hq
      omega
     rw [hPi]
     refine ⟨_, rfl, hs2, ?_⟩
     have e7 : ([g].flatMap fun g => if g = m then ([] : List Vaflxm.Form) else [.num ⟨wd, g, d, m⟩]) = [] := by simp [hgm]
     rw [take_one hg, List.flatMap_append, e7, List.append_nil]
     exact ⟨as, hpp, hal, hat⟩
   ·intro σ H2 h
    rw [hPi] at h
    obtain ⟨v2, rfl, hs2, hf2⟩ := h
    rw [hPo]
    refine ⟨_, _, rfl, hs2, ?_⟩
    rw [take_one hwd, List.flatMap_append]
    simpa using hf2
  ·intro σ H' h
   rw [hPo] at h
   obtain ⟨v1, v2, rfl, hs, hf⟩ := h
   walk_at "S"
   exact k p H' hs hp hf
def bl2 : List Bool := [true, false]
def ml : List Nat := [2, 1, 3, 4]
def dwOf (b : Bool) : Nat := if b then 2 else 1
def sp_date_forms (CN_ CD_ : Addr) : Sp := fun vs H Q _ => ∃ (o : Nat) (s : UInt8), vs = [.int o, .int (s.toNat : Nat)] ∧ NewForms CN_ CD_ H (dateL o s) Q
abbrev s_date_forms : Stmt := top 63
theorem sc_date_forms : FnScope ["order", "separator", "forms", "day_way", "month_way"] ["order", "separator"] (defScope s_date_forms) := by walk_at "N"
theorem ok_date_forms (T : Txt K mg) (D : Def K mg "date_forms" s_date_forms ["order", "separator"]) (cl_DateForm : Oc P w K mg base CD_ 1 "DateForm" ["self", "order", "separator", "day_way", "month_way"] (sp_DateForm_init CD_)) : Ok P w K mg base 3 "date_forms" ["order", "separator"] (sp_date_forms CN_ CD_) := by
 refine D.ok sc_date_forms (fun vs H Q E h => ?_) (fun f cdv A outer s H vs Q E hr h => ?_)
 ·obtain ⟨d, m, rfl, _⟩ := h
  rfl
 ·obtain ⟨o, sp, rfl, k⟩ := h
  have hs9 := sizeLine_eq
  refine ⟨_, (pss_cons (ps_set (i := 2) sc_date_forms.nd rfl (Or.inl rfl) (pe_lst pa_nil))
   (pss_cons (ps_for PassesOwn.never rfl (pi_tup (pe_ct T.DAY_WAYS (by rfl))) (pg_name (i := 3) sc_date_forms.nd rfl (Or.inl rfl)) (pss_one (ps_for PassesOwn.never rfl (pi_tup (pe_ct T.MONTH_WAYS (by rfl))) (pg_name (i := 4) sc_date_forms.nd rfl (Or.inl rfl)) (pss_one (ps_if (pw_or (pt_cmpR op_ne (pv 1) (pe_ci T.NONE (by rfl)) (nomark _)) (pw_or1 (pw_and (pt_cmpR op_ne (pv 3) pe_int (nomark _)) (pw_and1 (pt_cmpR op_ne (pv 4) pe_int (nomark _)))).pt)).pt (pss_one (ps_expr (pe_bm PySem.F.plainAttrs_list PySem.F.slot_list_append PySem.F.type_list_append mt_append (pv 2) (pa_cons (pe_cls cl_DateForm (hr.mono (by decide)) (by rfl) (pa_cons (pv 0) (pa_cons (pv 1) (pa_cons (pv 3) (pa_cons (pv 4) pa_nil))))) pa_nil)))) pss_nil)))))
   (pss_one (ps_ret (pv 2))))), ?_⟩
  walk_at "S"
  refine ⟨Nat.zero_le _, fun p hp cW kW => ⟨⟨_, kW.sq _⟩, ?_⟩⟩
  have kW : KT K cW (bl2.map fun (b : Bool) => V.int (dwOf b)) := kW
  obtain ⟨Po, hPo⟩ : ∃ Po : Nat → L2.St → Hp → Prop, Po = fun i σ H' => ∃ v1 v2, σ = [some (.int o), some (.int (sp.toNat : Nat)), some (.ref p), v1, v2] ∧ Same H H' ∧ FormsAt CN_ CD_ H' p ((bl2.take i).flatMap fun b => ml.flatMap fun m => if sp ≠ 0 ∨ (b = true ∧ m ≠ 1) then [.date ⟨o, sp, b, m⟩] else []) := ⟨_, rfl⟩
  refine for_by (steps_tup K cW _) Po ?_ (fun _ _ _ _ _ => kW.sq _) ?_ ?_
  ·rw [hPo]
   exact ⟨none, none, rfl, same_new hp, [], upd_same, rfl, fun i a f h => by simp at h⟩
  ·intro i σ H' hi h
   rw [hPo] at h
   obtain ⟨v1, v2, rfl, hs, hf⟩ := h
   obtain ⟨b, hb, ew⟩ := item_of (g := fun (b : Bool) => V.int (dwOf b)) (show i < bl2.length by simpa using hi)
   rw [ew]
   walk_at "S"
   intro cG kG
   refine ⟨⟨_, kG.sq _⟩, ?_⟩
   have kG : KT K cG (ml.map fun (m : Nat) => V.int m) := kG
   obtain ⟨Pi, hPi⟩ : ∃ Pi : Nat → L2.St → Hp → Prop, Pi = fun j σ H' => ∃ v2, σ = [some (.int o), some (.int (sp.toNat : Nat)), some (.ref p), some (.int (dwOf b)), v2] ∧ Same H H' ∧ FormsAt CN_ CD_ H' p (((bl2.take i).flatMap fun b => ml.flatMap fun m => if sp ≠ 0 ∨ (b = true ∧ m ≠ 1) then [.date ⟨o, sp, b, m⟩] else []) ++ (ml.take j).flatMap fun m => if sp ≠ 0 ∨ (b = true ∧ m ≠ 1) then [.date ⟨o, sp, b, m⟩] else []) := ⟨_, rfl⟩
   refine for_by (steps_tup K cG _) Pi ?_ (fun _ _ _ _ _ => kG.sq _) ?_ ?_
   ·rw [hPi]
    exact ⟨v2, rfl, hs, by simpa using hf⟩
   ·intro j σ H2 hj h
    rw [hPi] at h
    obtain ⟨v2, rfl, hs2, as, hpp, hal, hat⟩ := h
    obtain ⟨m, hm, eg⟩ := item_of (g := fun (m : Nat) => V.int m) (show j < ml.length by simpa using hj)
    rw [eg]
    have hi6 : i < 2 := by simpa [bl2] using hi
    have hj4 : j < 4 := by simpa [ml] using hj
    have hlen : as.length ≤ 100 := by
     rw [hal, List.length_append]
     have one : ∀ (b : Bool) (l : List Nat), (l.flatMap fun m => if sp ≠ 0 ∨ (b = true ∧ m ≠ 1) then [.date ⟨o, sp, b, m⟩] else ([] : List Vaflxm.Form)).length ≤ l.length := by
      intro w l
      induction l with
      | nil => simp
      | cons c r ih => simp only [List.flatMap_cons, List.length_append, List.length_cons]; split <;> simp at ih ⊢ <;> omega
     have two : ∀ l : List Bool, (l.flatMap fun b => ml.flatMap fun m => if sp ≠ 0 ∨ (b = true ∧ m ≠ 1) then [.date ⟨o, sp, b, m⟩] else ([] : List Vaflxm.Form)).length ≤ 4 * l.length := by
      intro l
      induction l with
      | nil => simp
      | cons c r ih =>
       have := one c ml
       simp only [List.flatMap_cons, List.length_append, List.length_cons]
       simp only [show ml.length = 4 from rfl] at this
       omega
     have h1 := two (bl2.take i)
     have h2 := one b (ml.take j)
     have h3 : (bl2.take i).length ≤ 2 := by rw [List.length_take]; omega
     have h4 : (ml.take j).length ≤ 4 := by rw [List.length_take]; omega
     omega
    have yes : (sp ≠ 0 ∨ (b = true ∧ m ≠ 1)) → ∀ (x dx : Addr), H2 x = none → H2 dx = none → dx ≠ x → sp_DateForm_init CD_ [.ref x, .int o, .int (sp.toNat : Nat), .int (dwOf b), .int m] (upd (upd H2 dx (.own x)) x (.ins CD_ dx [])) (fun v H3 => v = .non ∧ ∃ ys, H3 p = some (.lst ys) ∧ ys.length < sizeLine ∧ Pi (j + 1) [some (.int o), some (.int (sp.toNat : Nat)), some (.ref p), some (.int (dwOf b)), some (.int m)] (upd H3 p (.lst (ys ++ [.ref x])))) E0 := by
     intro hc x dx hx hdx hne
     refine ⟨x, dx, ⟨o, sp, b, m⟩, rfl, upd_same, fun H3 h3 kp => ⟨rfl, ?_⟩⟩
     have s23 : Same H2 H3 := Same.made hx hdx kp
     refine ⟨_, s23 _ _ hpp, by rw [List.length_map]; omega, ?_⟩
     rw [hPi]
     refine ⟨_, rfl, (hs2.trans s23).put hp, ?_⟩
     rw [take_one hm, List.flatMap_append, ← List.append_assoc]
     have e7 : ([m].flatMap fun m => if sp ≠ 0 ∨ (b = true ∧ m ≠ 1) then [.date ⟨o, sp, b, m⟩] else ([] : List Vaflxm.Form)) = [.date ⟨o, sp, b, m⟩] := by
      rw [List.flatMap_cons, List.flatMap_nil, List.append_nil, if_pos hc]
     rw [e7]
     exact FormsAt.push (f := .date ⟨o, sp, b, m⟩) (s23 _ _ hpp) hal (fun i a f q1 q2 => (hat i a f q1 q2).same s23) ⟨dx, h3⟩
    have no : ¬ (sp ≠ 0 ∨ (b = true ∧ m ≠ 1)) → Pi (j + 1) [some (.int o), some (.int (sp.toNat : Nat)), some (.ref p), some (.int (dwOf b)), some (.int m)] H2 := by
     intro hc
     rw [hPi]
     refine ⟨_, rfl, hs2, ?_⟩
     have e7 : ([m].flatMap fun m => if sp ≠ 0 ∨ (b = true ∧ m ≠ 1) then [.date ⟨o, sp, b, m⟩] else ([] : List Vaflxm.Form)) = [] := by
      rw [List.flatMap_cons, List.flatMap_nil, List.append_nil, if_neg hc]
     rw [take_one hm, List.flatMap_append, e7, List.append_nil]
     exact ⟨as, hpp, hal, hat⟩
    have hsp : ((sp.toNat : Nat) : Int) = 0 → sp = 0 := fun z => by
     rw [← UInt8.toNat_inj]
     show sp.toNat = 0
     omega
    have hdw : ((dwOf b : Nat) : Int) = 1 → b = false := fun z => by
     unfold dwOf at z
     cases b
     ·rfl
     ·exact absurd z (by decide)
    walk_at "S"
    split
    ·rename_i h1
     exact ⟨tyL_of (sqL_of hpp), yes (.inl fun z => h1 (by rw [z]; rfl))⟩
    ·rename_i h1
     have e1 : sp = 0 := hsp (Classical.not_not.mp h1)
     split
     ·rename_i h2
      have e2 : b = true := by
       cases b
       ·exact absurd rfl h2
       ·rfl
      split
      ·rename_i h3
       exact ⟨tyL_of (sqL_of hpp), yes (.inr ⟨e2, fun z => h3 (by rw [z]; rfl)⟩)⟩
      ·rename_i h3
       have e3 : m = 1 := by
        have : (m : Int) = 1 := Classical.not_not.mp h3
        omega
       exact no fun z => z.elim (fun q => q e1) (fun q => q.2 e3)
     ·rename_i h2
      have e2 : b = false := hdw (Classical.not_not.mp h2)
      exact no fun z => z.elim (fun q => q e1) (fun q => by rw [e2] at q; exact absurd q.1 (by decide))
   ·intro σ H2 h
    rw [hPi] at h
    obtain ⟨v2, rfl, hs2, hf2⟩ := h
    rw [hPo]
    refine ⟨_, _, rfl, hs2, ?_⟩
    rw [take_one hb, List.flatMap_append]
    simpa using hf2
  ·intro σ H' h
   rw [hPo] at h
   obtain ⟨v1, v2, rfl, hs, hf⟩ := h
   walk_at "S"
   exact k p H' hs hp hf
def dcl : List Nat := [1, 2, 3, 4]
def mkl : List UInt8 := [46, 44]
def orl : List Nat := [0, 1, 2]
def spl5 : List UInt8 := [46, 47, 45, 32, 0]
theorem decL_len : ∀ d ∈ dcl, ∀ m ∈ mkl, (decL d m).length = 18 := by decide
theorem dateL_len : ∀ o ∈ orl, ∀ s ∈ spl5, (dateL o s).length ≤ 8 := by decide
theorem size1 : ∀ i : Nat, i < 5 → ∀ d ∈ dcl, ∀ j : Nat, j < 3 → ((wholeL ++ (dcl.take i).flatMap fun d => mkl.flatMap fun m => decL d m) ++ (mkl.take j).flatMap fun m => decL d m).length ≤ 1000 := by decide +kernel
def numsL : List Vaflxm.Form := wholeL ++ dcl.flatMap fun d => mkl.flatMap fun m => decL d m
theorem size2 : ∀ i : Nat, i < 4 → ∀ o ∈ orl, ∀ j : Nat, j < 6 → ((numsL ++ (orl.take i).flatMap fun o => spl5.flatMap fun s => dateL o s) ++ (spl5.take j).flatMap fun s => dateL o s).length ≤ 1000 := by decide +kernel
def sp_all_forms (CN_ CD_ : Addr) : Sp := fun vs H Q _ => vs = [] ∧ NewForms CN_ CD_ H Vaflxm.forms Q
abbrev s_all_forms : Stmt := top 64
theorem sc_all_forms : FnScope ["forms", "decimals", "order", "mark", "separator"] [] (defScope s_all_forms) := by walk_at "N"
theorem ok_all_forms (T : Txt K mg) (D : Def K mg "all_forms" s_all_forms []) (ok_whole_forms : Ok P w K mg base 3 "whole_forms" [] (sp_whole_forms CN_ CD_)) (ok_decimal_forms : Ok P w K mg base 3 "decimal_forms" ["decimals", "mark"] (sp_decimal_forms CN_ CD_)) (ok_date_forms : Ok P w K mg base 3 "date_forms" ["order", "separator"] (sp_date_forms CN_ CD_)) :
  Ok P w K mg base 4 "all_forms" [] (sp_all_forms CN_ CD_) := by
 refine D.ok sc_all_forms (fun vs H Q E h => ?_) (fun f cdv A outer s H vs Q E hr h => ?_)
 ·obtain ⟨rfl, _⟩ := h
  rfl
 ·obtain ⟨rfl, k⟩ := h
  have hs9 := sizeLine_eq
  refine ⟨_, (pss_cons (ps_set (i := 0) sc_all_forms.nd rfl (Or.inl rfl) (pe_fn0 ok_whole_forms (hr.mono (by decide)) (by rfl)))
   (pss_cons (ps_for PassesOwn.never rfl (pi_tup (pe_ct T.DECIMALS (by rfl))) (pg_name (i := 1) sc_all_forms.nd rfl (Or.inl rfl)) (pss_one (ps_for PassesOwn.never rfl (pi_tup (pe_ct T.MARKS (by rfl))) (pg_name (i := 3) sc_all_forms.nd rfl (Or.inl rfl)) (pss_one (ps_expr (pe_bm PySem.F.plainAttrs_list PySem.F.slot_list_extend PySem.F.type_list_extend mt_extend (pv 0) (pa_cons (pe_fn ok_decimal_forms (hr.mono (by decide)) (by rfl) (pa_cons (pv 1) (pa_cons (pv 3) pa_nil))) pa_nil)))))))
   (pss_cons (ps_for PassesOwn.never rfl (pi_tup (pe_ct T.ORDERS (by rfl))) (pg_name (i := 2) sc_all_forms.nd rfl (Or.inl rfl)) (pss_one (ps_for PassesOwn.never rfl (pi_tup (pe_ct T.SEPARATORS (by rfl))) (pg_name (i := 4) sc_all_forms.nd rfl (Or.inl rfl)) (pss_one (ps_expr (pe_bm PySem.F.plainAttrs_list PySem.F.slot_list_extend PySem.F.type_list_extend mt_extend (pv 0) (pa_cons (pe_fn ok_date_forms (hr.mono (by decide)) (by rfl) (pa_cons (pv 2) (pa_cons (pv 4) pa_nil))) pa_nil)))))))
   (pss_one (ps_ret (pv 0)))))), ?_⟩
  walk_at "S"
  refine ⟨rfl, ?_⟩
  intro p H0 s0 hp hF0
  refine fun cW kW => ⟨⟨_, kW.sq _⟩, ?_⟩
  have kW : KT K cW (dcl.map fun (n : Nat) => V.int n) := kW
  obtain ⟨Po, hPo⟩ : ∃ Po : Nat → L2.St → Hp → Prop, Po = fun i σ H' => ∃ v1 v3, σ = [some (.ref p), v1, none, v3, none] ∧ Same H H' ∧ FormsAt CN_ CD_ H' p (wholeL ++ (dcl.take i).flatMap fun d => mkl.flatMap fun m => decL d m) := ⟨_, rfl⟩
  refine for_by (steps_tup K cW _) Po ?_ (fun _ _ _ _ _ => kW.sq _) ?_ ?_
  ·rw [hPo]
   exact ⟨none, none, rfl, s0, by simpa using hF0⟩
  ·intro i σ H' hi h
   rw [hPo] at h
   obtain ⟨v1, v3, rfl, hs, hf⟩ := h
   obtain ⟨d, hd, ew⟩ := item_of (g := fun (n : Nat) => V.int n) (show i < dcl.length by simpa using hi)
   rw [ew]
   walk_at "S"
   intro cG kG
   refine ⟨⟨_, kG.sq _⟩, ?_⟩
   have kG : KT K cG (mkl.map fun (g : UInt8) => V.int (g.toNat : Nat)) := kG
   obtain ⟨Pi, hPi⟩ : ∃ Pi : Nat → L2.St → Hp → Prop, Pi = fun j σ H' => ∃ v3, σ = [some (.ref p), some (.int d), none, v3, none] ∧ Same H H' ∧ FormsAt CN_ CD_ H' p ((wholeL ++ (dcl.take i).flatMap fun d => mkl.flatMap fun m => decL d m) ++ (mkl.take j).flatMap fun m => decL d m) := ⟨_, rfl⟩
   refine for_by (steps_tup K cG _) Pi ?_ (fun _ _ _ _ _ => kG.sq _) ?_ ?_
   ·rw [hPi]
    exact ⟨v3, rfl, hs, by simpa using hf⟩
   ·intro j σ H2 hj h
    rw [hPi] at h
    obtain ⟨v3, rfl, hs2, as, hpp, hal, hat⟩ := h
    obtain ⟨m, hm, eg⟩ := item_of (g := fun (g : UInt8) => V.int (g.toNat : Nat)) (show j < mkl.length by simpa using hj)
    rw [eg]
    walk_at "S"
    refine ⟨tyL_of (sqL_of hpp), d, m, rfl, ?_⟩
    rintro q H3 s3 hq ⟨bs, hqq, hbl, hbt⟩
    have npq : p ≠ q := ne_of_none hpp hq
    have hi4 : i < 4 := by simpa [dcl] using hi
    have hj2 : j < 2 := by simpa [mkl] using hj
    have hsz : as.length ≤ 1000 ∧ bs.length ≤ 1000 := by
     rw [hal, hbl, decL_len d (List.mem_of_getElem? hd) m (List.mem_of_getElem? hm)]
     exact ⟨size1 i (by omega) d (List.mem_of_getElem? hd) j (by omega), by omega⟩
    refine ⟨q, rfl, _, s3 _ _ hpp, _, hqq, by rw [List.length_map, List.length_map]; omega, ?_⟩
    rw [hPi]
    refine ⟨_, rfl, (hs2.trans s3).put hp, ?_⟩
    rw [take_one hm, List.flatMap_append, ← List.append_assoc]
    have := FormsAt.join (s3 _ _ hpp) hal (fun i a f q1 q2 => (hat i a f q1 q2).same s3) hbl hbt
    simpa using this
   ·intro σ H2 h
    rw [hPi] at h
    obtain ⟨v3, rfl, hs2, hf2⟩ := h
    rw [hPo]
    refine ⟨_, _, rfl, hs2, ?_⟩
    rw [take_one hd, List.flatMap_append, ← List.append_assoc]
    simpa using hf2
  ·intro σ H' h
   rw [hPo] at h
   obtain ⟨v1, v3, rfl, hs, hf⟩ := h
   walk_at "S"
   have hf : FormsAt CN_ CD_ H' p numsL := hf
   refine fun cW kW => ⟨⟨_, kW.sq _⟩, ?_⟩
   have kW : KT K cW (orl.map fun (n : Nat) => V.int n) := kW
   obtain ⟨Po, hPo⟩ : ∃ Po : Nat → L2.St → Hp → Prop, Po = fun i σ H' => ∃ v2 v4, σ = [some (.ref p), v1, v2, v3, v4] ∧ Same H H' ∧ FormsAt CN_ CD_ H' p (numsL ++ (orl.take i).flatMap fun o => spl5.flatMap fun s => dateL o s) := ⟨_, rfl⟩
   refine for_by (steps_tup K cW _) Po ?_ (fun _ _ _ _ _ => kW.sq _) ?_ ?_
   ·rw [hPo]
    exact ⟨none, none, rfl, hs, by simpa using hf⟩
   ·intro i σ H' hi h
    rw [hPo] at h
    obtain ⟨v2, v4, rfl, hs, hf⟩ := h
    obtain ⟨o, hd, ew⟩ := item_of (g := fun (n : Nat) => V.int n) (show i < orl.length by simpa using hi)
    rw [ew]
    walk_at "S"
    intro cG kG
    refine ⟨⟨_, kG.sq _⟩, ?_⟩
    have kG : KT K cG (spl5.map fun (g : UInt8) => V.int (g.toNat : Nat)) := kG
    obtain ⟨Pi, hPi⟩ : ∃ Pi : Nat → L2.St → Hp → Prop, Pi = fun j σ H' => ∃ v4, σ = [some (.ref p), v1, some (.int o), v3, v4] ∧ Same H H' ∧ FormsAt CN_ CD_ H' p ((numsL ++ (orl.take i).flatMap fun o => spl5.flatMap fun s => dateL o s) ++ (spl5.take j).flatMap fun s => dateL o s) := ⟨_, rfl⟩
    refine for_by (steps_tup K cG _) Pi ?_ (fun _ _ _ _ _ => kG.sq _) ?_ ?_
    ·rw [hPi]
     exact ⟨v4, rfl, hs, by simpa using hf⟩
    ·intro j σ H2 hj h
     rw [hPi] at h
     obtain ⟨v4, rfl, hs2, as, hpp, hal, hat⟩ := h
     obtain ⟨m, hm, eg⟩ := item_of (g := fun (g : UInt8) => V.int (g.toNat : Nat)) (show j < spl5.length by simpa using hj)
     rw [eg]
     walk_at "S"
     refine ⟨tyL_of (sqL_of hpp), o, m, rfl, ?_⟩
     rintro q H3 s3 hq ⟨bs, hqq, hbl, hbt⟩
     have hi4 : i < 3 := by simpa [orl] using hi
     have hj2 : j < 5 := by simpa [spl5] using hj
     have hsz : as.length ≤ 1000 ∧ bs.length ≤ 1000 := by
      have := dateL_len o (List.mem_of_getElem? hd) m (List.mem_of_getElem? hm)
      rw [hal, hbl]
      exact ⟨size2 i (by omega) o (List.mem_of_getElem? hd) j (by omega), by omega⟩
     refine ⟨q, rfl, _, s3 _ _ hpp, _, hqq, by rw [List.length_map, List.length_map]; omega, ?_⟩
     rw [hPi]
     refine ⟨_, rfl, (hs2.trans s3).put hp, ?_⟩
     rw [take_one hm, List.flatMap_append, ← List.append_assoc]
     have := FormsAt.join (s3 _ _ hpp) hal (fun i a f q1 q2 => (hat i a f q1 q2).same s3) hbl hbt
     simpa using this
    ·intro σ H2 h
     rw [hPi] at h
     obtain ⟨v4, rfl, hs2, hf2⟩ := h
     rw [hPo]
     refine ⟨_, _, rfl, hs2, ?_⟩
     rw [take_one hd, List.flatMap_append, ← List.append_assoc]
     simpa using hf2
   ·intro σ H' h
    rw [hPo] at h
    obtain ⟨v2, v4, rfl, hs, hf⟩ := h
    walk_at "S"
    refine k p H' hs hp ?_
    rw [← forms_eq]
    exact hf
theorem rd_form {H : Hp} {a c : Addr} {f : Vaflxm.Form} {t : Vaflxm.Text} {Q : VK} (h : FormAt CN_ CD_ H a f) (wf : wfF f) (hc : SqL K H c (tv t)) (r : ResV H (Vaflxm.readIn f t) Q) :
  (∃ x x_1, H a = some (HO.ins CN_ x x_1) ∧ List.lookup ("value_read" : Str) x_1 = none ∧ sp_NumberForm_value_read K CN_ [V.ref a, V.ref c] H Q E0) ∨
  ∃ x x_1, H a = some (HO.ins CD_ x x_1) ∧ List.lookup ("value_read" : Str) x_1 = none ∧ sp_DateForm_value_read K CD_ [V.ref a, V.ref c] H Q E0 := by
 obtain ⟨dx, h⟩ := h
 cases f with
 | num g => exact .inl ⟨dx, _, h, nf_no g (by decide +kernel) (by decide +kernel) (by decide +kernel) (by decide +kernel), a, c, g, t, rfl, ⟨dx, h⟩, wf, hc, r⟩
 | date g => exact .inr ⟨dx, _, h, df_no g (by decide +kernel) (by decide +kernel) (by decide +kernel) (by decide +kernel), a, c, g, t, rfl, ⟨dx, h⟩, wf, hc, r⟩
theorem wr_form {H : Hp} {a c : Addr} {f : Vaflxm.Form} {v : Vaflxm.Value} {Q : VK} (h : FormAt CN_ CD_ H a f) (wf : wfF f) (hc : SqT K H c (vv v)) (ov : okV v) (r : ResT H (Vaflxm.writeIn f v) Q) :
  (∃ x x_1, H a = some (HO.ins CN_ x x_1) ∧ List.lookup ("written" : Str) x_1 = none ∧ sp_NumberForm_written K CN_ [V.ref a, V.ref c] H Q E0) ∨
  ∃ x x_1, H a = some (HO.ins CD_ x x_1) ∧ List.lookup ("written" : Str) x_1 = none ∧ sp_DateForm_written K CD_ [V.ref a, V.ref c] H Q E0 := by
 obtain ⟨dx, h⟩ := h
 cases f with
 | num g => exact .inl ⟨dx, _, h, nf_no g (by decide +kernel) (by decide +kernel) (by decide +kernel) (by decide +kernel), a, c, g, v, rfl, ⟨dx, h⟩, wf, hc, ov, r⟩
 | date g => exact .inr ⟨dx, _, h, df_no g (by decide +kernel) (by decide +kernel) (by decide +kernel) (by decide +kernel), a, c, g, v, rfl, ⟨dx, h⟩, wf, hc, ov, r⟩
theorem tl_form {H : Hp} {a : Addr} {f : Vaflxm.Form} {Q : VK} (h : FormAt CN_ CD_ H a f) (r : NewL H ((Vaflxm.formNumbers f).map V.int) Q) :
  (∃ x x_1, H a = some (HO.ins CN_ x x_1) ∧ List.lookup ("told" : Str) x_1 = none ∧ sp_NumberForm_told CN_ [V.ref a] H Q E0) ∨
  ∃ x x_1, H a = some (HO.ins CD_ x x_1) ∧ List.lookup ("told" : Str) x_1 = none ∧ sp_DateForm_told CD_ [V.ref a] H Q E0 := by
 obtain ⟨dx, h⟩ := h
 cases f with
 | num g => exact .inl ⟨dx, _, h, nf_no g (by decide +kernel) (by decide +kernel) (by decide +kernel) (by decide +kernel), a, g, rfl, ⟨dx, h⟩, r⟩
 | date g => exact .inr ⟨dx, _, h, df_no g (by decide +kernel) (by decide +kernel) (by decide +kernel) (by decide +kernel), a, g, rfl, ⟨dx, h⟩, r⟩
theorem ResT.same {H H' : Hp} {o : Option Vaflxm.Text} {Q : VK} (r : ResT H o Q) (s : Same H H') : ResT H' o Q := by
 cases o with
 | none => exact fun H2 s2 => r H2 (s.trans s2)
 | some t => exact fun p H2 s2 n h => r p H2 (s.trans s2) (s.free n) h
def sp_converted (K : PySem.W.Frag) (CN_ CD_ : Addr) : Sp := fun vs H Q _ => ∃ (a b c : Addr) (f g : Vaflxm.Form) (t : Vaflxm.Text), vs = [.ref a, .ref b, .ref c] ∧ FormAt CN_ CD_ H a f ∧ FormAt CN_ CD_ H b g ∧ wfF f ∧ wfF g ∧ SqL K H c (tv t) ∧ ResT H (Vaflxm.convert f g t) Q
abbrev s_converted : Stmt := top 65
theorem sc_converted : FnScope ["source", "target", "text", "value"] ["source", "target", "text"] (defScope s_converted) := by walk_at "N"
theorem ok_converted (T : Txt K mg) (D : Def K mg "converted" s_converted ["source", "target", "text"]) (om_NumberForm_value_read : Om P w K mg base CN_ 3 "value_read" ["self", "text"] (sp_NumberForm_value_read K CN_)) (om_DateForm_value_read : Om P w K mg base CD_ 5 "value_read" ["self", "text"] (sp_DateForm_value_read K CD_))
  (om_NumberForm_written : Om P w K mg base CN_ 2 "written" ["self", "value"] (sp_NumberForm_written K CN_)) (om_DateForm_written : Om P w K mg base CD_ 4 "written" ["self", "value"] (sp_DateForm_written K CD_)) :
  Ok P w K mg base 6 "converted" ["source", "target", "text"] (sp_converted K CN_ CD_) := by
 refine D.ok sc_converted (fun vs H Q E h => ?_) (fun f cdv A outer s H vs Q E hr h => ?_)
 ·obtain ⟨a, b, c, f, g, t, rfl, _⟩ := h
  rfl
 ·obtain ⟨a, b, c, f, g, t, rfl, ⟨dx, ha⟩, hb, wf, wg, hc, k⟩ := h
  refine ⟨_, (pss_cons (ps_set (i := 3) sc_converted.nd rfl (Or.inl rfl) (PE.or (pe_mt (pv 0) om_NumberForm_value_read (hr.mono (by decide)) (pa_cons (pv 2) pa_nil)) (pe_mt (pv 0) om_DateForm_value_read (hr.mono (by decide)) (pa_cons (pv 2) pa_nil))))
   (pss_cons (ps_if (pt_cmpR op_isN (pv 3) pe_non (nomark _)) (pss_one (ps_ret pe_non)) pss_nil)
   (pss_one (ps_ret (PE.or (pe_mt (pv 1) om_NumberForm_written (hr.mono (by decide)) (pa_cons (pv 3) pa_nil)) (pe_mt (pv 1) om_DateForm_written (hr.mono (by decide)) (pa_cons (pv 3) pa_nil))))))), ?_⟩
  walk_at "S"
  refine rd_form ⟨dx, ha⟩ wf hc ?_
  have kk : Vaflxm.convert f g t = (Vaflxm.readIn f t).bind (Vaflxm.writeIn g) := rfl
  rw [kk] at k
  cases e : Vaflxm.readIn f t with
  | none =>
   rw [e] at k
   intro H1 s1
   rw [if_pos rfl]
   exact k H1 s1
  | some v =>
   rw [e] at k
   intro p H1 s1 n1 h1
   rw [if_neg (by intro z; cases z)]
   exact wr_form (hb.same s1) wg (sqT_of h1) (read_ok f t v wf e) (ResT.same k s1)
end
def lnF (c : Addr) (pl : Nat) : List (Str × V) := putF "place" (.int pl) (putF "calls" (.ref c) [])
theorem ln_calls (c : Addr) (pl : Nat) : (lnF c pl).lookup ("calls" : Str) = some (V.ref c) := by
 unfold lnF
 rw [lookup_putF, if_neg (by decide +kernel), lookup_putF, if_pos rfl]
theorem ln_place (c : Addr) (pl : Nat) : (lnF c pl).lookup ("place" : Str) = some (V.int pl) := by
 unfold lnF
 rw [lookup_putF, if_pos rfl]
theorem ln_no (c : Addr) (pl : Nat) {m : Str} (h1 : ¬ m = "place") (h2 : ¬ m = "calls") : (lnF c pl).lookup m = none := by
 unfold lnF
 rw [lookup_putF, if_neg h1, lookup_putF, if_neg h2]
 rfl
theorem putF_cons (f g : Str) (v x : V) (r : List (Str × V)) : putF f v ((g, x) :: r) = if g = f then (g, v) :: r else (g, x) :: putF f v r := rfl
theorem putF_nil (f : Str) (v : V) : putF f v [] = [(f, v)] := rfl
theorem ln_put (c : Addr) (pl : Nat) (z : Int) (q : Nat) (e : z = q) : putF "place" (.int z) (lnF c pl) = lnF c q := by
 subst e
 unfold lnF
 rw [putF_nil, putF_cons, putF_cons, if_neg (by decide +kernel), if_neg (by decide +kernel), putF_nil, putF_nil, putF_cons, if_neg (by decide +kernel), putF_cons, if_pos rfl]
theorem ln_len (c : Addr) (pl : Nat) : (lnF c pl).length < 1000 := by
 have l1 := length_putF "calls" (.ref c) []
 have l2 := length_putF "place" (.int pl) (putF "calls" (.ref c) [])
 rw [List.length_nil] at l1
 show (putF "place" (.int pl) (putF "calls" (.ref c) [])).length < 1000
 omega
structure CL (K : PySem.W.Frag) (C : Addr) : Prop where
 cl : Cls K C
 calls : NoAttr K C "calls"
 place : NoAttr K C "place"
def LineAt (K : PySem.W.Frag) (C : Addr) (H : Hp) (a : Addr) (c : Addr) (pl : Nat) : Prop := ∃ dx, H a = some (.ins C dx (lnF c pl))
section
variable {P : Program} {w : World} {K : PySem.W.Frag} {mg : Str → Option Value} {base : Heap}
def sp_Line_init (C : Addr) : Sp := fun vs H Q _ => ∃ (p dx c : Addr), vs = [.ref p, .ref c] ∧ H p = some (.ins C dx []) ∧ ∀ H' : Hp, H' p = some (.ins C dx (lnF c 0)) → (∀ b o, H b = some o → b ≠ p → H' b = some o) → Q .non H'
abbrev s_Line_init : Stmt := inClass (top 78) 0
theorem sc_Line_init : FnScope ["self", "calls"] ["self", "calls"] (defScope s_Line_init) := by walk_at "N"
theorem ok_Line_init {C : Addr} (N : CL K C) (D : Idef K mg C "Line" "Line.__init__" s_Line_init ["self", "calls"]) : Oc P w K mg base C 1 "Line" ["self", "calls"] (sp_Line_init C) := by
 refine D.ok sc_Line_init (fun vs H Q E h => ?_) (fun f cdv A outer s H vs Q E hr h => ?_)
 ·obtain ⟨p, dx, f, rfl, _⟩ := h
  rfl
 ·obtain ⟨p, dx, c, rfl, hp, k⟩ := h
  refine ⟨_, (pss_cons (ps_fld (pv 0) (pv 1) rfl)
   (pss_one (ps_fld (pv 0) pe_int rfl))), ?_⟩
  walk_at "S"
  simp only [hp, upd_same]
  walk_at "S"
  have l1 := length_putF "calls" (.ref c) []
  rw [List.length_nil] at l1
  refine ⟨N.cl, N.calls, by decide, N.cl, N.place, by omega, k _ upd_same fun b o e hb => ?_⟩
  rw [upd_ne hb, upd_ne hb]
  exact e
def sp_Line_at_end (K : PySem.W.Frag) (C : Addr) : Sp := fun vs H Q _ => ∃ (a c : Addr) (pl : Nat) (ns : List Int), vs = [.ref a] ∧ LineAt K C H a c pl ∧ SqL K H c (ns.map V.int) ∧ Q (.bl (decide (ns.length ≤ pl))) H
abbrev s_Line_at_end : Stmt := inClass (top 78) 1
theorem sc_Line_at_end : FnScope ["self"] ["self"] (defScope s_Line_at_end) := by walk_at "N"
theorem om_Line_at_end {C : Addr} (T : Txt K mg) (N : CL K C) (D : Mdef K C "at_end" "Line.at_end" s_Line_at_end ["self"]) : Om P w K mg base C 1 "at_end" ["self"] (sp_Line_at_end K C) := by
 refine D.ok N.cl sc_Line_at_end (fun vs H Q E h => ?_) (fun f cdv A outer s H vs Q E hr h => ?_)
 ·obtain ⟨p, f, pl, ns, rfl, _⟩ := h
  rfl
 ·obtain ⟨a, c, pl, ns, rfl, ⟨dx, ha⟩, hc, k⟩ := h
  refine ⟨_, (pss_one (ps_ret (pe_cmpR op_ge (pe_fld (pv 0) rfl) (pe_callB call_len_seq (by rfl) T.n_len boot_len (pa_cons (pe_fld (pv 0) rfl) pa_nil)) (nomark _)))), ?_⟩
  walk_at "S"
  simp only [ha]
  walk_at "S"
  simp only [ln_calls, ln_place]
  walk_at "S"
  refine ⟨N.cl, N.place, N.cl, N.calls, _, .inl hc, ?_⟩
  have e : decide (((ns.map V.int).length : Int) ≤ (pl : Int)) = decide (ns.length ≤ pl) := by
   rw [Bool.eq_iff_iff]
   simp
  rw [e]
  exact k
def Moved (K : PySem.W.Frag) (C : Addr) (H : Hp) (a c : Addr) (pl : Nat) (H' : Hp) : Prop := LineAt K C H' a c pl ∧ ∀ b o, H b = some o → b ≠ a → H' b = some o
def sp_Line_take_number (K : PySem.W.Frag) (C : Addr) : Sp := fun vs H Q _ => ∃ (a c : Addr) (pl : Nat) (ns : List Int) (n : Int), vs = [.ref a] ∧ LineAt K C H a c pl ∧ SqL K H c (ns.map V.int) ∧ ns[pl]? = some n ∧ ∀ H', Moved K C H a c (pl + 1) H' → Q (.int n) H'
abbrev s_Line_take_number : Stmt := inClass (top 78) 2
theorem sc_Line_take_number : FnScope ["self", "number"] ["self"] (defScope s_Line_take_number) := by walk_at "N"
theorem om_Line_take_number {C : Addr} (T : Txt K mg) (N : CL K C) (D : Mdef K C "take_number" "Line.take_number" s_Line_take_number ["self"]) : Om P w K mg base C 1 "take_number" ["self"] (sp_Line_take_number K C) := by
 refine D.ok N.cl sc_Line_take_number (fun vs H Q E h => ?_) (fun f cdv A outer s H vs Q E hr h => ?_)
 ·obtain ⟨p, f, pl, ns, n, rfl, _⟩ := h
  rfl
 ·obtain ⟨a, c, pl, ns, n, rfl, ⟨dx, ha⟩, hc, hn, k⟩ := h
  refine ⟨_, (pss_cons (ps_set (i := 1) sc_Line_take_number.nd rfl (Or.inl rfl) (pe_ix ix_list (pe_fld (pv 0) rfl) (pe_fld (pv 0) rfl) (fun _ _ => rfl)))
   (pss_cons (ps_fld (pv 0) (pe_op op_add (pe_fld (pv 0) rfl) pe_int) rfl)
   (pss_one (ps_ret (pv 1))))), ?_⟩
  walk_at "S"
  simp only [ha]
  walk_at "S"
  simp only [ln_calls, ln_place]
  walk_at "S"
  refine ⟨N.cl, N.calls, N.cl, N.place, _, hc, .int n, at_of (j := pl) rfl (by rw [List.getElem?_map, hn]; rfl), N.cl, N.place, N.cl, N.place, ln_len c pl, ?_⟩
  rw [ln_put c pl ((pl : Int) + 1) (pl + 1) (by omega)]
  exact k _ ⟨⟨dx, upd_same⟩, fun b o e hb => by rw [upd_ne hb]; exact e⟩
theorem sq_ins {H H' : Hp} {a c L dx : Addr} {fs : List (Str × V)} {xs : List V} (h : SqL K H c xs) (ha : H a = some (.ins L dx fs)) (k : ∀ b o, H b = some o → b ≠ a → H' b = some o) : SqL K H' c xs := by
 rcases h with (h | ⟨o, h⟩) | h
 ·exact .inl (.inl (k _ _ h (ne_of h ha (by intro z; cases z))))
 ·exact .inl (.inr ⟨o, k _ _ h (ne_of h ha (by intro z; cases z))⟩)
 ·exact .inr h
def sp_Line_take_row (K : PySem.W.Frag) (C : Addr) : Sp := fun vs H Q _ => ∃ (a c : Addr) (pl : Nat) (ns : List Int) (len : Nat), vs = [.ref a] ∧ LineAt K C H a c pl ∧ SqL K H c (ns.map V.int) ∧ ns[pl]? = some (len : Int) ∧
 ∀ p H', H p = none → LineAt K C H' a c (pl + 1 + len) → (∀ b o, H b = some o → b ≠ a → H' b = some o) → H' p = some (.lst (((ns.drop (pl + 1)).take len).map V.int)) → Q (.ref p) H'
abbrev s_Line_take_row : Stmt := inClass (top 78) 3
theorem sc_Line_take_row : FnScope ["self", "length", "start"] ["self"] (defScope s_Line_take_row) := by walk_at "N"
theorem om_Line_take_row {C : Addr} (T : Txt K mg) (N : CL K C) (D : Mdef K C "take_row" "Line.take_row" s_Line_take_row ["self"]) (om_Line_take_number : Om P w K mg base C 1 "take_number" ["self"] (sp_Line_take_number K C)) : Om P w K mg base C 2 "take_row" ["self"] (sp_Line_take_row K C) := by
 refine D.ok N.cl sc_Line_take_row (fun vs H Q E h => ?_) (fun f cdv A outer s H vs Q E hr h => ?_)
 ·obtain ⟨p, f, pl, ns, n, rfl, _⟩ := h
  rfl
 ·obtain ⟨a, c, pl, ns, len, rfl, ⟨dx, ha⟩, hc, hn, k⟩ := h
  refine ⟨_, (pss_cons (ps_set (i := 1) sc_Line_take_row.nd rfl (Or.inl rfl) (pe_mt0 (pv 0) om_Line_take_number (hr.mono (by decide))))
   (pss_cons (ps_set (i := 2) sc_Line_take_row.nd rfl (Or.inl rfl) (pe_fld (pv 0) rfl))
   (pss_cons (ps_fld (pv 0) (pe_op op_add (pv 2) (pv 1)) rfl)
   (pss_one (ps_ret (pe_slice sl_list (pe_fld (pv 0) rfl) (po_some (pv 2)) (po_some (pe_fld (pv 0) rfl)))))))), ?_⟩
  walk_at "S"
  refine ⟨dx, _, ha, ln_no c pl (by decide +kernel) (by decide +kernel), a, c, pl, ns, (len : Int), rfl, ⟨dx, ha⟩, hc, hn, ?_⟩
  rintro H1 ⟨⟨dx1, ha1⟩, k1⟩
  have hc1 := sq_ins hc ha k1
  refine ⟨C, dx1, _, ha1, N.cl, N.place, _, ln_place c (pl + 1), _, rfl, _, rfl, C, dx1, _, ha1, N.cl, N.place, ln_len c (pl + 1), ?_⟩
  rw [ln_put c (pl + 1) (((pl + 1 : Nat) : Int) + (len : Int)) (pl + 1 + len) (by omega)]
  obtain ⟨H2, hH2⟩ : ∃ H2, H2 = upd H1 a (.ins C dx1 (lnF c (pl + 1 + len))) := ⟨_, rfl⟩
  have ha2 : H2 a = some (.ins C dx1 (lnF c (pl + 1 + len))) := by rw [hH2]; exact upd_same
  have k2 : ∀ b o, H b = some o → b ≠ a → H2 b = some o := fun b o e hb => by
   rw [hH2, upd_ne hb]
   exact k1 b o e hb
  rw [← hH2]
  refine ⟨C, dx1, _, ha2, N.cl, N.calls, _, ln_calls c _, _, rfl, C, dx1, _, ha2, N.cl, N.place, _, ln_place c _, _, rfl, c, rfl, _, sq_ins hc ha k2, fun p hp => ?_⟩
  have npa : p ≠ a := fun z => by rw [z, ha2] at hp; cases hp
  have e5 : cutV (ns.map V.int) (some ((pl + 1 : Nat) : Int)) (some ((pl + 1 + len : Nat) : Int)) = ((ns.drop (pl + 1)).take len).map V.int := by
   rw [cut_mid, Nat.add_sub_cancel_left]
   simp [List.map_take, List.map_drop]
  rw [e5]
  refine k p _ ?_ ⟨dx1, by rw [upd_ne (Ne.symm npa)]; exact ha2⟩ ?_ upd_same
  ·cases q : H p with
   | none => rfl
   | some o => rw [k2 p o q npa] at hp; cases hp
  ·intro b o e hb
   have nb : b ≠ p := fun z => by
    rw [z] at e hb
    rw [k2 p o e hb] at hp
    cases hp
   rw [upd_ne nb]
   exact k2 b o e hb
end
section
variable {prog : Program} {w : World} {A : Around} {E : Value → Shared → Prop} {s : Shared} {d : Addr} {od : Obj} {es : Array DictEntry} {ep : Nat}
theorem meets_items (hd : (d == sysModules) = false) : MeetsIn prog w (Builtin.«dict.items» ⟨[.ref d], []⟩) (fun _ R s => (∃ o, s.heap.get? d = some o ∧ o.ExactDict) ∧ R (.ok (.ret (.ref s.heap.objs.size))) { s with heap := s.heap.push { cls := .type "dict_items", data := .fields #[.ref d] } }) := .of_wp fun A R s ⟨⟨o, h1, h2⟩, q⟩ => by
 unfold Builtin.«dict.items»; refine wpAny_bind ?_; unfold Builtin.Dict.noArgs; refine wpAny_bind (wpAny_notOrdered_dict ⟨o, h1, h2.1⟩ ?_); show wpAny _ _ (pure d) _ _ s; refine wpAny_pure ?_
 show wpAny _ _ (Builtin.Dict.showsAll d >>= _) _ _ s; unfold Builtin.Dict.showsAll; rw [if_neg (by rw [hd]; exact Bool.false_ne_true)]; refine wpAny_bind (wpAny_pure ?_); exact wpAny_bind (wpAny_newObj_type (wpAny_pure ⟨_, rfl, q⟩))
theorem meets_extT (l : Addr) (items : Array Value) (n : Nat) (b : Addr) (items2 : Array Value) (n2 : Nat) (dct : Option Addr) (sl : Array (Option Value)) (h0 : ¬(!items.isEmpty && Builtin.List.listTooLong (items.size + items2.size)) = true) (h1 : items.size ≤ sizeLine) (h2 : items.size + items2.size ≤ sizeLine + 1) :
  Meets (Builtin.«list.extend» ⟨[.ref l, .ref b], []⟩) (fun _ R s => s.heap.get? l = some { cls := .type "list", dict := none, data := .seq items n, slots := #[] } ∧ s.heap.get? b = some { cls := .type "tuple", dict := dct, data := .seq items2 n2, slots := sl } ∧ R (.ok (.ret Value.none)) { s with heap := s.heap.update l (Obj.mapSeq fun x => x ++ items2), toks := s.toks }) :=
 .of_wp fun prog w A R s h => by
  obtain ⟨hp, g, d, tk, os⟩ := s; obtain ⟨hl, hb, h⟩ := h; have f1 := AutoSeq1.idx_int; have f2 := AutoSeq1.sub_tuple_tuple; have f3 := AutoSeq1.sub_list_list; have f4 := AutoSeq1.sub_tuple_list; have f5 := AutoSeq1.sub_list_tuple; have hz' : (items ++ items2).size ≤ sizeLine + 1 := (by rw [Array.size_append]; exact h2)
  wp_walk using (wpAny_updateSeq hl rfl (hz := h1) (_hz' := hz')), AutoSeq1.wpAny_loadPart' hl, AutoSeq1.wpAny_loadPart' hb; exact ⟨_, rfl, h⟩
theorem items_iter {v : Addr} {Q : Value → Shared → Prop} (hv : s.heap.IsItemsView v d) (ho : s.heap.get? d = some od) (hdat : od.data = .dict es ep)
  (q : Q (.ref s.heap.objs.size) { s with heap := s.heap.push { cls := .type "dict_itemiterator", data := .fields #[.none, .bool false, .ref d, .int 0 0, .int es.size 0, .int ep 0, .none, .none] } }) : wpAny (model prog w) A (pyIter (.ref v)) Q E s := by
 obtain ⟨ov, hov, hcv, hdv⟩ := id hv
 refine wpAny_pyIter_slot hv.typeIs PySem.F.slot_dict_items_iter (wpAny_call_entry PySem.F.slot_dict_items_iter hv.typeIs PySem.F.entry_dict_items_iter ?_ (PySem.F.args_dict_items_iter_1 _)); unfold Builtin.«dict_items.__iter__»; refine wpAny_bind (wpAny_pure ?_)
 refine wpAny_bind ?_; unfold Builtin.Dict_items.dictOf; refine wpAny_bind (wpAny_field hov hdv (x := .ref d) rfl (wpAny_pure ?_)); refine wpAny_bind ?_; unfold Builtin.Dict_items.newIterator
 refine wpAny_bind (wpAny_dictEntries ho hdat ?_); refine wpAny_bind (wpAny_dictEpoch ho hdat ?_)
 have hown : Builtin.Dict_items.ownsTuple "dict_itemiterator" = true := (by decide); simp only [hown, if_true]
 refine wpAny_newObj_type (wpAny_pure ⟨_, rfl, "dict_itemiterator", _, ⟨_, Heap.get?_push_size _ rfl, rfl⟩, PySem.F.slot_dict_itemiterator_next.lookup, ?_⟩) (by simp only [sizeOk, Builtin.Dict_items.ownedTupleFields, List.size_toArray, List.length_append, List.length_cons, List.length_nil, sizeLine_eq]; omega)
 simpa [rawInt, Builtin.Dict_items.ownedTupleFields] using q
theorem items_next {it : Addr} {i n : Nat} {en : DictEntry} {ok ov : Value} {Q : Option Value → Shared → Prop} (hit : IsItemIter s.heap it d i n ep ok ov) (hod : s.heap.get? d = some od) (hdd : od.data = .dict es ep) (hsz : es.size = n) (hx : es[i]? = some en)
  (q : ∀ g, IsItemIterOut g it d (i + 1) n ep en.key en.val s.heap.objs.size → g.get? s.heap.objs.size = some { cls := .type "tuple", data := .seq #[en.key, en.val] } → g.objs.size = s.heap.objs.size + 1 → (∀ b o, b ≠ it → s.heap.get? b = some o → g.get? b = some o) → Q (some (.ref s.heap.objs.size)) { s with heap := g }) :
  wpAny (model prog w) A (pyNext (.ref it)) Q E s := by
 obtain ⟨hp, g, dr, tk, os⟩ := s
 have hT : Shared.TypeIs ⟨hp, g, dr, tk, os⟩ (.ref it) "dict_itemiterator" := ⟨_, hit, rfl⟩; unfold pyNext
 refine wpAny_bind (wpAny_attempt (wpAny_callSpecial?_slot (name := Str.ofString "__next__") hT PySem.F.slot_dict_itemiterator_next (wpAny_call_entry PySem.F.slot_dict_itemiterator_next hT PySem.F.entry_dict_itemiterator_next ?_ (PySem.F.args_dict_itemiterator_next_1 _))))
 refine wpAny_bind (wpAny_pure ?_); refine wpAny_bind ?_; refine wpAny_bind ?_; first | refine wpAny_bind (wpAny_typeNameOfWhole_itemiter hT (wpAny_pure ?_)) | refine wpAny_bind (wpAny_typeNameOf_itemiter hT (wpAny_pure ?_))
 refine wpAny_bind (wpAny_fieldsOf hit rfl ?_); have hown : Builtin.Dict_items.ownsTuple "dict_itemiterator" = true := (by decide); simp only [hown, if_true]
 show wpAny _ _ (if (Value.ref d == Value.none) = true then _ else _) _ _ _; rw [if_neg (show ¬ ((Value.ref d == Value.none) = true) from Bool.false_ne_true)]; refine wpAny_bind (wpAny_pure ?_); refine wpAny_bind (wpAny_dictEntries hod hdd ?_)
 rw [if_neg (by rw [hsz]; simp)]; refine wpAny_bind (wpAny_pure ?_); refine wpAny_bind (wpAny_dictEpoch hod hdd ?_); rw [if_neg (by simp)]; refine wpAny_pure ?_
 obtain ⟨hlt', hen⟩ := Array.getElem?_eq_some_iff.mp hx; simp only [show ¬ ((i : Int) < 0) from by omega, if_false, Int.toNat_natCast, Array.getElem?_eq_getElem hlt']; rw [hen]
 refine wpAny_bind ?_; first | refine wpAny_bind (wpAny_typeNameOfWhole_itemiter hT (wpAny_pure ?_)) | refine wpAny_bind (wpAny_typeNameOf_itemiter hT (wpAny_pure ?_))
 refine wpAny_bind (wpAny_isOneOf_itemiter hT ?_); show wpAny _ _ (setField (.ref it) 3 (rawInt ((i : Int) + 1)) >>= _) _ _ ⟨hp, g, dr, tk, os⟩; refine wpAny_bind (wpAny_setField_rec hit (by simp) fun g1 e1 s1 => ?_)
 replace s1 : Heap.SameBut it hp g1 := s1
 replace e1 : IsItemIter g1 it d (i + 1) n ep ok ov := by
  have e : ((i + 1 : Nat) : Int) = (i : Int) + 1 := (by omega)
  unfold IsItemIter; rw [e]; simpa [rawInt] using e1
 have hT1 : Shared.TypeIs ⟨g1, g, dr, tk, os⟩ (.ref it) "dict_itemiterator" := ⟨_, e1, rfl⟩; refine wpAny_bind (wpAny_holding ?_); refine wpAny_bind (wpAny_isOneOf_itemiter hT1 ?_)
 refine wpAny_bind (wpAny_isOneOf_itemiter hT1 ?_); show wpAny _ _ (Builtin.Dict_items.pairFromOwner (.ref it) 6 en.key en.val) _ _ ⟨g1, g, dr, tk, os⟩; unfold Builtin.Dict_items.pairFromOwner; refine wpAny_bind (wpAny_newTuple ?_)
 have e2 : IsItemIter (g1.push { cls := .type "tuple", data := .seq #[en.key, en.val] }) it d (i + 1) n ep ok ov := Heap.get?_push_of_some _ e1
 generalize hg2 : g1.push { cls := .type "tuple", data := .seq #[en.key, en.val] } = g2 at e2
 have z1 : g1.objs.size = hp.objs.size := s1.1
 have hil : it < hp.objs.size := Heap.lt_size hit
 have t2 : g2.get? hp.objs.size = some { cls := .type "tuple", data := .seq #[en.key, en.val] } := (by rw [← hg2, ← z1]; exact Heap.get?_push_size _ rfl)
 have z2 : g2.objs.size = hp.objs.size + 1 := (by rw [← hg2, Heap.size_push, z1])
 have k2 : ∀ b o, b ≠ it → hp.get? b = some o → g2.get? b = some o := fun b o hb e => (by rw [← hg2]; exact Heap.get?_push_of_some _ (s1.extBut b o hb e))
 show wpAny _ _ (Builtin.Dict_items.ownedTupleIsFree (.ref it) >>= _) _ _ ⟨g2, g, dr, tk, os⟩; rw [z1]; clear hg2 e1 s1 hT1 z1 g1; refine wpAny_bind ?_; unfold Builtin.Dict_items.ownedTupleIsFree
 refine wpAny_bind (wpAny_field e2 rfl (x := .none) rfl (wpAny_pure ?_)); simp only [if_true]; refine wpAny_bind (wpAny_field e2 rfl (x := ok) rfl ?_); refine wpAny_bind (wpAny_field e2 rfl (x := ov) rfl ?_)
 refine wpAny_bind (wpAny_setField_rec e2 (by simp) fun g3 e3 s3 => ?_); replace s3 : Heap.SameBut it g2 g3 := s3; replace e3 : IsItemIter g3 it d (i + 1) n ep en.key ov := e3
 refine wpAny_bind (wpAny_setField_rec e3 (by simp) fun g4 e4 s4 => ?_); replace s4 : Heap.SameBut it g3 g4 := s4; replace e4 : IsItemIter g4 it d (i + 1) n ep en.key en.val := e4
 refine wpAny_bind (wpAny_setField_rec e4 (by simp) fun g5 e5 s5 => ?_); replace s5 : Heap.SameBut it g4 g5 := s5; replace e5 : IsItemIterOut g5 it d (i + 1) n ep en.key en.val hp.objs.size := e5
 refine wpAny_bind (wpAny_setField_rec e5 (by simp) fun g6 e6 s6 => ?_); replace s6 : Heap.SameBut it g5 g6 := s6; replace e6 : IsItemIterOut g6 it d (i + 1) n ep en.key en.val hp.objs.size := e6
 refine wpAny_bind (wpAny_letGo (wpAny_pure (wpAny_pure ⟨_, rfl, wpAny_pure (q g6 e6 ?_ ?_ ?_)⟩)))
 ·have ni : hp.objs.size ≠ it := Nat.ne_of_gt hil
  exact s6.extBut _ _ ni (s5.extBut _ _ ni (s4.extBut _ _ ni (s3.extBut _ _ ni t2)))
 ·show g6.objs.size = hp.objs.size + 1
  rw [s6.1, s5.1, s4.1, s3.1, z2]
 ·exact fun b o hb e => s6.extBut b o hb (s5.extBut b o hb (s4.extBut b o hb (s3.extBut b o hb (k2 b o hb e))))
theorem items_end {it : Addr} {i n : Nat} {ok ov : Value} {Q : Option Value → Shared → Prop} (hh : A.handled = none) (hit : IsItemIter s.heap it d i n ep ok ov) (hod : s.heap.get? d = some od) (hdd : od.data = .dict es ep) (hsz : es.size = n) (hge : n ≤ i)
  (q : ∀ g, Heap.ExtBut it s.heap g → Q none { s with heap := g }) : wpAny (model prog w) A (pyNext (.ref it)) Q E s := by
 have hT : s.TypeIs (.ref it) "dict_itemiterator" := ⟨_, hit, rfl⟩; unfold pyNext
 refine wpAny_bind (wpAny_attempt (wpAny_callSpecial?_slot (name := Str.ofString "__next__") hT PySem.F.slot_dict_itemiterator_next (wpAny_call_entry PySem.F.slot_dict_itemiterator_next hT PySem.F.entry_dict_itemiterator_next ?_ (PySem.F.args_dict_itemiterator_next_1 _))))
 refine wpAny_bind (wpAny_pure ?_); refine wpAny_bind ?_; refine wpAny_bind ?_; first | refine wpAny_bind (wpAny_typeNameOfWhole_itemiter hT (wpAny_pure ?_)) | refine wpAny_bind (wpAny_typeNameOf_itemiter hT (wpAny_pure ?_))
 refine wpAny_bind (wpAny_fieldsOf hit rfl ?_); have hown : Builtin.Dict_items.ownsTuple "dict_itemiterator" = true := (by decide); simp only [hown, if_true]
 show wpAny _ _ (if (Value.ref d == Value.none) = true then _ else _) _ _ s; rw [if_neg (show ¬ ((Value.ref d == Value.none) = true) from Bool.false_ne_true)]; refine wpAny_bind (wpAny_pure ?_); refine wpAny_bind (wpAny_dictEntries hod hdd ?_)
 rw [if_neg (by rw [hsz]; simp)]; refine wpAny_bind (wpAny_pure ?_); refine wpAny_bind (wpAny_dictEpoch hod hdd ?_); rw [if_neg (by simp)]; refine wpAny_pure ?_
 have hge' : es.size ≤ i := (by rw [hsz]; exact hge); simp only [show ¬ ((i : Int) < 0) from by omega, if_false, Int.toNat_natCast, Array.getElem?_eq_none hge']
 refine wpAny_bind ?_; first | refine wpAny_bind (wpAny_typeNameOfWhole_itemiter hT (wpAny_pure ?_)) | refine wpAny_bind (wpAny_typeNameOf_itemiter hT (wpAny_pure ?_))
 show wpAny _ _ (setField (.ref it) 2 .none >>= _) _ _ s; refine wpAny_bind (wpAny_setField hit rfl (by simp) ?_); show wpAny _ _ (newExc (.type "StopIteration") [] >>= _) _ _ _; refine wpAny_bind ?_; simp only [newExc, newTuple]
 refine wpAny_bind (wpAny_newObj_type ?_ (by size_fits)); refine wpAny_bind (m := firstArgMember _ _) (wpAny_of_eq (a := Value.none) (by first | rfl | (simp only [firstArgMember]; rfl)) ?_); refine wpAny_newObj_type ?_ (by size_fits)
 simp only [raiseNew]; refine wpAny_bind (wpAny_handled ?_); rw [show A.in1.handled = none from hh]; refine wpAny_bind (wpAny_pure (wpAny_throw ?_))
 refine wpAny_bind (wpAny_isInstance (T := "StopIteration") (b := true) ⟨_, Heap.get?_push_size _ rfl, rfl⟩ isSubtype_stop ?_); exact wpAny_pure (q _ (((Heap.SameBut.update ..).extBut.push _).push _))
theorem len_any (hd : (d == sysModules) = false) (ho : s.heap.get? d = some od) (hc : od.ExactDict) (hdat : od.data = .dict es ep) (hfit : (es.size : Int) < 2 ^ 63) {Q : Value → Shared → Prop} (q : ∀ t t', Q (.int es.size t) { s with toks := t' }) :
  wpAny (model prog w) A (call (.builtin "len") [.ref d]) Q E s := by
 have hT : s.TypeIs (.ref d) "dict" := ⟨od, ho, hc.1⟩
 refine Calls.call_function_entry kind_len plain_len entry_len (args_len1 _) ?_
 unfold Builtin.«len»; refine wpAny_bind (m := oneArg "len" _) (wpAny_pure ?_)
 have mt : MeetsIn prog w (Builtin.«dict.__len__» ⟨[.ref d], []⟩) (fun _ R s => (∃ o, s.heap.get? d = some o ∧ o.data = .dict es ep) ∧ R (.ok (.ret (.int es.size s.toks))) { s with toks := s.toks + 1 }) := .of_wp fun A R s ⟨⟨o, h1, h2⟩, h⟩ => by
  show wpAny _ _ (dictSize d >>= _) _ _ s; unfold dictSize; refine wpAny_bind (wpAny_bind (wpAny_dictEntries h1 h2 (wpAny_pure ?_)))
  show wpAny _ _ (Builtin.Dict.pendingCount d >>= _) _ _ s; refine wpAny_bind (wpAny_pendingCount_other hd ?_); refine wpAny_ret_mkInt ?_; rw [Nat.add_zero]; exact h
 refine wpAny_bind (m := callSpecial? (.ref d) (Str.ofString "__len__")) (wpAny_callSpecial?_slot (name := Str.ofString "__len__") hT PySem.F.slot_dict_len (call_meetsIn PySem.F.slot_dict_len hT PySem.F.entry_dict_len (PySem.F.args_dict_len_1 _) mt ⟨⟨od, ho, hdat⟩, ?_⟩))
 show wpAny _ _ _ _ _ { s with toks := s.toks + 1 }; refine wpAny_bind (wpAny_holding (wpAny_pure ?_)); refine wpAny_bind (wpAny_letGo ?_)
 show wpAny _ _ (if ((es.size : Nat) : Int) < 0 then _ else _) _ _ _; rw [if_neg (by omega)]; show wpAny _ _ (if ((es.size : Nat) : Int) ≥ 2 ^ 63 then _ else _) _ _ _; rw [if_neg (by omega)]
 exact wpAny_bind (wpAny_mkInt (wpAny_pure ⟨_, rfl, q _ _⟩))
end
theorem Inv.locked {X : Cx} {pins : List (Addr × Obj)} {σ : L2.St} {H : Hp} {s : Shared} {d : Addr} {o : Obj} {kvs : List (List Key × V)} (I : Inv X pins σ H s) (h : H d = some (.frz o (.dT kvs))) :
  (d == sysModules) = false ∧ s.heap.get? d = some o ∧ o.ExactDict ∧ ∃ (es : Array DictEntry) (ep : Nat), o.data = .dict es ep ∧ es.size = kvs.length ∧
   ∀ (i : Nat) (k : List Key) (v : V), kvs[i]? = some (k, v) → ∃ (en : DictEntry) (q : Addr), es[i]? = some en ∧ en.key = .ref q ∧ RelV v en.val ∧ H q = some (.tup (k.map kV)) := by
 obtain ⟨hd, z, hs, xs, pr, o', es, ep, ho, hx, hdt, he, _⟩ := I.hok d _ h
 rw [hd] at ho
 cases ho
 refine ⟨hs, hd, hx, es, ep, hdt, ?_, fun i k v e => ?_⟩
 ·have l1 : es.size = xs.length := size_of_entries he
  have l2 : kvs.length = xs.length := Paired.length pr
  omega
 ·obtain ⟨b, hb, e1, e2, e3⟩ := paired_get pr e
  have q := entry_at he i
  rw [hb] at q
  exact ⟨_, b.2.1, q, rfl, e3, e2⟩
def Itit (d : Addr) (o : Obj) (kvs : List (List Key × V)) : It :=
 ⟨fun i H => H d = some (.frz o (.dT kvs)) ∧ i < kvs.length, fun i H x H' => ∃ T k v q, kvs[i]? = some (k, v) ∧ x = .ref T ∧ H T = none ∧ H q = some (.tup (k.map kV)) ∧ H' = upd H T (.tup [.ref q, v]), fun i H => H d = some (.frz o (.dT kvs)) ∧ kvs.length ≤ i⟩
theorem turn_itemsT {P : Program} {w : World} {K : PySem.W.Frag} {d : Addr} {o : Obj} {es : Array DictEntry} {ep : Nat} {kvs : List (List Key × V)} {elts : List Expr} {kk : Nat} {tpos : Pos} (it : Addr) (hod : o.data = .dict es ep) :
  Turn P w K (.Tuple elts kk tpos) (Itit d o kvs) [it] it (fun i h => ∃ ok ov, IsItemIter h it d i kvs.length ep ok ov) where
 mem := by simp
 obj := fun i h st b hb => by
  have e : b = it := by simpa using hb
  subst e
  obtain ⟨ok, ov, e⟩ := st
  exact ⟨_, e, fun v z => nomatch z⟩
 keep := fun i h h' st k => let ⟨ok, ov, e⟩ := st; ⟨ok, ov, k it (by simp) _ e⟩
 item := by
  intro X hP hw hK hc i pins s σ H E I hf st hg
  subst hP hw hK
  obtain ⟨hd, hi⟩ := hg
  obtain ⟨hs, hgd, hx, es', ep', hdt, hsz, ent⟩ := Inv.locked I hd
  obtain ⟨rfl, rfl⟩ := dict_ep hod hdt
  obtain ⟨⟨k, v⟩, hkv⟩ : ∃ p, kvs[i]? = some p := ⟨kvs[i], List.getElem?_eq_getElem hi⟩
  obtain ⟨en, q, hen, hkey, rv, hq⟩ := ent i k v hkv
  obtain ⟨ok, ov, he⟩ := st
  have hlt : it < s.heap.objs.size := Heap.lt_size he
  refine items_next he hgd hdt hsz hen fun g ho hT hz hk => ?_
  refine ⟨_, rfl, wpAny_letOwnedTupleGo_items (s := { s with heap := g }) ho fun g2 he2 sb => ?_⟩
  have hT2 : g2.get? s.heap.objs.size = some { cls := .type "tuple", data := .seq #[en.key, en.val] } := (sb.2 _ (Nat.ne_of_gt hlt)).trans hT
  have new : ObjOk X.prog X.w (upd H s.heap.objs.size (.tup [.ref q, v])) g2 s.heap.objs.size (.tup [.ref q, v]) :=
   ⟨by show 2 ≤ sizeLine; decide, [en.key, en.val], .cons hkey (.cons rv .nil), ⟨_, hT2, rfl, _, rfl⟩⟩
  have I1 : Inv X pins σ (upd H s.heap.objs.size (.tup [.ref q, v])) { s with heap := g2 } :=
   I.turnedNew (t' := s.toks) (ch := [it]) (fun b ob hb e => (sb.2 b (by simpa using hb)).trans (hk b ob (by simpa using hb) e)) hf (Nat.le_refl _) new
  refine ⟨.ref s.heap.objs.size, _, I1, rfl, ⟨_, k, v, q, hkv, rfl, I.hok.fresh (Nat.le_refl _), hq, rfl⟩, ⟨en.key, en.val, he2⟩, fun b hb => ?_⟩
  have e : b = it := by simpa using hb
  rw [e, upd_ne (Nat.ne_of_lt hlt)]
  exact (hf it (by simp)).1
 done := by
  intro X hP hw hK hc i pins s σ H E I hf st hg
  subst hP hw hK
  obtain ⟨hd, hi⟩ := hg
  obtain ⟨f0, f1, f2, f3, f4, f5⟩ := hf it (by simp)
  obtain ⟨hs, hgd, hx, es', ep', hdt, hsz, ent⟩ := Inv.locked I hd
  obtain ⟨rfl, rfl⟩ := dict_ep hod hdt
  obtain ⟨ok, ov, he⟩ := st
  exact items_end (I.ok.hd hc) he hgd hdt hsz hi fun g eb => ⟨rfl, I.turned (t' := s.toks) (fun b ob hb e => eb b ob hb e) f0 f1 f3 f4 f5⟩
 self := fun A i s Q E st h => let ⟨_, _, e⟩ := st; PySem.W.kcp_self e h
def iItemsT (td : TE) : TI := fun σ H R => td σ H fun x H1 => ∃ d o kvs, x = .ref d ∧ H1 d = some (.frz o (.dT kvs)) ∧ R (Itit d o kvs) H1
theorem ap_iItemsT {td : TE} {σ : L2.St} {H : Hp} {R : It → Hp → Prop} : iItemsT td σ H R = td σ H fun x H1 => ∃ d o kvs, x = .ref d ∧ H1 d = some (.frz o (.dT kvs)) ∧ R (Itit d o kvs) H1 := rfl
section
variable {X : Cx} {e : Expr} {td : TE} {apos cpos : Pos}
theorem pi_itemsT {elts : List Expr} {kk : Nat} {tpos : Pos} (he : PE X e td) (hbase : attributeBase e "items" X.env (eval e X.env) = eval e X.env := by rfl) (hline : (apos.endLine == cpos.line) = true := by rfl) :
  PI X (.Tuple elts kk tpos) (.Call (.Attribute e "items" apos) [] [] cpos) (iItemsT td) := by
 intro pins s σ H R I h
 refine wpAny_Call_method (T := "dict") (id := "dict.items") hbase rfl hline PySem.F.plainAttrs_dict PySem.F.slot_dict_items PySem.F.type_dict_items (thn (he pins s σ H _ I h) fun u s1 ⟨x, H1, I1, rx, d, o, kvs, ex, hd, q⟩ => ?_)
 subst ex
 obtain rfl : u = Value.ref d := rx
 obtain ⟨hs, hgd, hx, es, ep, hdt, hsz, ent⟩ := Inv.locked I1 hd
 have hT : s1.TypeIs (.ref d) "dict" := ⟨o, hgd, hx.1⟩
 refine ⟨hT, fun b z => ?_, ?_⟩
 ·cases z
  exact ⟨o, hgd, hx.2.1⟩
 have I2 : Inv X pins σ H1 { s1 with heap := s1.heap.push { cls := .type "dict_items", data := .fields #[.ref d] } } := I1.kept (t' := s1.toks) fun b ob q => Heap.get?_push_of_some _ q
 have fin : wpAny (model X.prog X.w) X.A (pyIter (.ref s1.heap.objs.size)) (PIE X pins σ (.Tuple elts kk tpos) R) X.xe { s1 with heap := s1.heap.push { cls := .type "dict_items", data := .fields #[.ref d] } } := by
  refine items_iter (d := d) (od := o) (es := es) (ep := ep) ⟨_, Heap.get?_push_size _ rfl, rfl, rfl⟩ (Heap.get?_push_of_some _ hgd) hdt (pi_one (tk := s1.toks) I2 _ (turn_itemsT _ hdt) ⟨.none, .none, ?_⟩ q)
  rw [← hsz]
  exact Heap.get?_push_size _ rfl
 show wpAny _ _ (callWith cpos (.builtin "dict.items") [.ref d] [] []) _ X.xe s1
 exact method_meetsIn PySem.F.slot_dict_items PySem.F.entry_dict_items rfl (PySem.evalArgs_none ⟨rfl, hT, PySem.F.args_dict_items_1 _, _, meets_items hs, ⟨o, hgd, hx⟩, fin⟩)
theorem for_itemsT {d : Addr} {o : Obj} {kvs : List (List Key × V)} {g : TG} {tb : TS} {D : Ends} {σ : L2.St} {H : Hp} (Pv : Nat → L2.St → Hp → Prop) (h0 : Pv 0 σ H) (hl : ∀ i σ H, i ≤ kvs.length → Pv i σ H → H d = some (.frz o (.dT kvs)))
  (hs : ∀ i k v q σ H T, kvs[i]? = some (k, v) → Pv i σ H → H T = none → H q = some (.tup (k.map kV)) → g (.ref T) σ (upd H T (.tup [.ref q, v])) fun σ2 H2 => tb { D with nx := Pv (i + 1), ct := Pv (i + 1), bk := D.nx } σ2 H2) (hd : ∀ σ H, Pv kvs.length σ H → D.nx σ H) : forJ (Itit d o kvs) g tb D σ H := by
 refine ⟨fun i m σ H => m = kvs.length - i ∧ i ≤ kvs.length ∧ Pv i σ H, ⟨kvs.length, by simp, Nat.zero_le _, h0⟩, ?_⟩
 rintro i m σ H ⟨rfl, hi, p⟩
 have q := hl i σ H hi p
 by_cases hlt : i < kvs.length
 ·refine .inr ⟨⟨q, hlt⟩, Pv (i + 1), fun σ' H' p' => ⟨kvs.length - (i + 1), by omega, rfl, hlt, p'⟩, fun x H' y => ?_⟩
  obtain ⟨T, k, v, b, hkv, rfl, hT, hb, rfl⟩ := y
  exact hs i k v b σ H T hkv p hT hb
 ·have e : i = kvs.length := by omega
  subst e
  exact .inl ⟨⟨q, Nat.le_refl _⟩, hd σ H p⟩
theorem call_lenT : CallR X (.builtin "len") (fun xs H Q => ∃ a kvs, xs = [V.ref a] ∧ H a = some (.dT kvs) ∧ Q (.int kvs.length) H) := by
 intro pins s σ H xs us Q I r h
 obtain ⟨a, kvs, rfl, ha, q⟩ := h
 obtain ⟨u, rfl, ru⟩ := vals1 r
 cases ru
 obtain ⟨z, hs, xs, pr, o, es, ep, ho, hx, hdt, he, _⟩ := (show ObjOk X.prog X.w H s.heap a (.dT kvs) from I.hok a _ ha)
 have l1 : es.size = xs.length := size_of_entries he
 have l2 : kvs.length = xs.length := Paired.length pr
 have hsz : es.size = kvs.length := by omega
 refine len_any hs ho hx hdt (by rw [hsz]; rw [sizeLine_eq] at z; omega) fun t t' => ?_
 rw [hsz]
 exact ⟨.int kvs.length, H, I.tok _, ⟨t, rfl⟩, q⟩
def rExtT : V → List V → Hp → VK → Prop := fun x vs H Q => ∃ l b xs zs, x = .ref l ∧ vs = [.ref b] ∧ H l = some (.lst xs) ∧ H b = some (.tup zs) ∧ xs.length + zs.length ≤ sizeLine ∧ Q .non (upd H l (.lst (xs ++ zs)))
theorem ap_rExtT {x : V} {vs : List V} {H : Hp} {Q : VK} : rExtT x vs H Q = ∃ l b xs zs, x = .ref l ∧ vs = [.ref b] ∧ H l = some (.lst xs) ∧ H b = some (.tup zs) ∧ xs.length + zs.length ≤ sizeLine ∧ Q .non (upd H l (.lst (xs ++ zs))) := rfl
theorem mt_extendT : MtM X "list.extend" rExtT := by
 intro pins s σ H x vs v us Q I rx rv h
 obtain ⟨l, b, xs, zs, rfl, rfl, hH, hB, hz, q⟩ := h
 cases rx
 obtain ⟨u, rfl, ru⟩ := rv.one
 cases ru
 obtain ⟨z, its, n, r, hl, e⟩ := I.lstM hH
 obtain ⟨z2, its2, r2, o, e2, c2, n2, d2⟩ := (show ObjOk X.prog X.w H s.heap b (.tup zs) from I.hok b _ hB)
 obtain ⟨cls, dct, dat, sl⟩ := o
 cases c2
 cases d2
 have l2 := r2.length
 have hsz : its.toArray.size + its2.toArray.size ≤ sizeLine := by rw [List.size_toArray, List.size_toArray]; omega
 have hlong : ¬ (!its.toArray.isEmpty && Builtin.List.listTooLong (its.toArray.size + its2.toArray.size)) = true := by
  rw [notLongL hsz, Bool.and_false]
  exact Bool.false_ne_true
 refine call_meets PySem.F.slot_list_extend ⟨_, e, rfl⟩ PySem.F.entry_list_extend (PySem.F.args_list_extend_2 _ _) (meets_extT l its.toArray n b its2.toArray n2 dct sl hlong (by rw [List.size_toArray]; omega) (by omega)) ⟨e, e2, ?_⟩
 refine ⟨.non, _, I.lset (its' := its ++ its2) hH e (by simp) (r.append r2) ?_, rfl, q⟩
 rw [List.length_append]
 omega
end
structure FV (P : Program) (w : World) (K : PySem.W.Frag) (mg : Str → Option Value) (base : Heap) (k : Nat) (f : Addr) (sp : Sp) : Prop where
 ex : ∃ fd ps, FnOk P w K mg base CX0 k f fd ps sp ∧ PySem.W.keepIn K (.ref f) = true ∧ Binds K fd ps []
def tVal (X : Cx) (k i : Nat) (t : TA) : TE := fun σ H Q => ∃ f sp, σ[i]? = some (some (.ref f)) ∧ FV X.prog X.w X.K X.mg X.base k f sp ∧ t σ H fun vs H1 => sp vs H1 Q E0
theorem ap_tVal {X : Cx} {k i : Nat} {t : TA} {σ : L2.St} {H : Hp} {Q : VK} : tVal X k i t σ H Q = ∃ f sp, σ[i]? = some (some (.ref f)) ∧ FV X.prog X.w X.K X.mg X.base k f sp ∧ t σ H fun vs H1 => sp vs H1 Q E0 := rfl
theorem pe_val {X : Cx} {k i : Nat} {x : Str} {p pos : Pos} {e : Expr} {es : List Expr} {t : TA} (hv : PE X (.Name x p) (tVar i)) (hr : Room k X.A) (ha : PA X (e :: es) t)
  (he : starEach (e :: es) X.env = (false, eval e X.env) :: starEach es X.env := by rfl) (hpl : (backTo pos (starEach es X.env)).any (·.1) = false := by rfl) : PE X (.Call (.Name x p) (e :: es) [] pos) (tVal X k i t) := by
 intro pins s σ H Q I h
 obtain ⟨f, sp, hσ, ⟨fd, ps, F, hk, hb⟩, q⟩ := h
 refine wpAny_Call_Name_kw (thn (hv pins s σ H (fun v H' => v = .ref f ∧ H' = H) I ⟨.ref f, hσ, rfl, rfl⟩) fun u s1 ⟨y, H1, I1, ry, ey, eH⟩ => ?_)
 subst ey eH
 obtain rfl : u = Value.ref f := ry
 refine PySem.W.callWith_K (h₀ := X.base) I1.ok.mod.kin hk (thn (ha pos pins s1 σ _ _ I1 q) fun us s2 ⟨vs, H2, I2, r, q2⟩ => ⟨I2.kIn, ?_⟩) he hpl
 exact run_fn (dvs := []) F hr hb .nil pass0 I2 r (by rw [List.append_nil]; exact q2)
section
variable {X : Cx} {K : PySem.W.Frag} {a b e : Expr} {f : Str} {pos : Pos} {ta tb : TE}
theorem pe_ixLK (hK : X.K = K) (ha : PE X a ta) (hb : PE X b tb) (hs : PlainIx b) : PE X (.Subscript a b pos) (tOp (rIxL K) ta tb) := by
 subst hK
 exact pe_ix ix_list ha hb hs
theorem pe_fldK (hK : X.K = K) (he : PE X e ta) (hb : attributeBase e f X.env (eval e X.env) = eval e X.env) : PE X (.Attribute e f pos) (tFld K ta f) := by
 subst hK
 exact pe_fld he hb
end
structure Cs where
 num : Addr
 date : Addr
 ex : Addr
 desk : Addr
 line : Addr
def ValAt (H : Hp) (v : V) (o : Option Vaflxm.Value) : Prop := match o with
 | none => v = .non
 | some x => ∃ a, v = .ref a ∧ H a = some (.tup (vv x))
theorem ValAt.same {H H' : Hp} {v : V} {o : Option Vaflxm.Value} (h : ValAt H v o) (s : ∀ b xs, H b = some (.tup xs) → H' b = some (.tup xs)) : ValAt H' v o := by
 cases o with
 | none => exact h
 | some x =>
  obtain ⟨a, e, h⟩ := h
  exact ⟨a, e, s _ _ h⟩
def ValsAt (H : Hp) (p : Addr) (os : List (Option Vaflxm.Value)) : Prop := ∃ vs : List V, H p = some (.lst vs) ∧ vs.length = os.length ∧ ∀ (i : Nat) (v : V) (o : Option Vaflxm.Value), vs[i]? = some v → os[i]? = some o → ValAt H v o
def exF (p q : Addr) : List (Str × V) := putF "target_values" (.ref q) (putF "source_values" (.ref p) [])
theorem ex_source (p q : Addr) : (exF p q).lookup ("source_values" : Str) = some (V.ref p) := by
 unfold exF
 rw [lookup_putF, if_neg (by decide +kernel), lookup_putF, if_pos rfl]
theorem ex_target (p q : Addr) : (exF p q).lookup ("target_values" : Str) = some (V.ref q) := by
 unfold exF
 rw [lookup_putF, if_pos rfl]
def readsOf (t : Vaflxm.Text) : List (Option Vaflxm.Value) := Vaflxm.forms.map fun f => Vaflxm.readIn f t
def ExAt (C : Cs) (H : Hp) (e a : Addr) (x : Vaflxm.Text × Vaflxm.Text) : Prop := ∃ dx p q, H a = some (.ins C.ex dx (exF p q)) ∧ p ≠ e ∧ q ≠ e ∧ ValsAt H p (readsOf x.1) ∧ ValsAt H q (readsOf x.2)
def ExsAt (C : Cs) (H : Hp) (e : Addr) (exs : List (Vaflxm.Text × Vaflxm.Text)) : Prop := ∃ as : List Addr, H e = some (.lst (as.map V.ref)) ∧ as.length = exs.length ∧ ∀ (i : Nat) (a : Addr) (x : Vaflxm.Text × Vaflxm.Text), as[i]? = some a → exs[i]? = some x → ExAt C H e a x
theorem ValsAt.same {H H' : Hp} {p : Addr} {os : List (Option Vaflxm.Value)} (h : ValsAt H p os) (s : Same H H') : ValsAt H' p os := by
 obtain ⟨vs, h1, h2, h3⟩ := h
 exact ⟨vs, s _ _ h1, h2, fun i v o q1 q2 => (h3 i v o q1 q2).same fun b xs q => s _ _ q⟩
theorem ExAt.same {C : Cs} {H H' : Hp} {e a : Addr} {x : Vaflxm.Text × Vaflxm.Text} (h : ExAt C H e a x) (s : Same H H') : ExAt C H' e a x := by
 obtain ⟨dx, p, q, h1, n1, n2, h2, h3⟩ := h
 exact ⟨dx, p, q, s _ _ h1, n1, n2, h2.same s, h3.same s⟩
theorem ExsAt.same {C : Cs} {H H' : Hp} {e : Addr} {exs : List (Vaflxm.Text × Vaflxm.Text)} (h : ExsAt C H e exs) (s : Same H H') : ExsAt C H' e exs := by
 obtain ⟨as, h1, h2, h3⟩ := h
 exact ⟨as, s _ _ h1, h2, fun i a x q1 q2 => (h3 i a x q1 q2).same s⟩
def dkF (f e : Addr) : List (Str × V) := putF "examples" (.ref e) (putF "forms" (.ref f) [])
theorem dk_forms (f e : Addr) : (dkF f e).lookup ("forms" : Str) = some (V.ref f) := by
 unfold dkF
 rw [lookup_putF, if_neg (by decide +kernel), lookup_putF, if_pos rfl]
theorem dk_examples (f e : Addr) : (dkF f e).lookup ("examples" : Str) = some (V.ref e) := by
 unfold dkF
 rw [lookup_putF, if_pos rfl]
theorem dk_no (f e : Addr) {m : Str} (h1 : ¬ m = "examples") (h2 : ¬ m = "forms") : (dkF f e).lookup m = none := by
 unfold dkF
 rw [lookup_putF, if_neg h1, lookup_putF, if_neg h2]
 rfl
structure CK (K : PySem.W.Frag) (C : Addr) : Prop where
 cl : Cls K C
 forms : NoAttr K C "forms"
 examples : NoAttr K C "examples"
def DeskAt (C : Cs) (H : Hp) (d e : Addr) (exs : List (Vaflxm.Text × Vaflxm.Text)) : Prop := ∃ dx f, H d = some (.ins C.desk dx (dkF f e)) ∧ f ≠ e ∧ FormsAt C.num C.date H f Vaflxm.forms ∧ ExsAt C H e exs
theorem DeskAt.same {C : Cs} {H H' : Hp} {d e : Addr} {exs : List (Vaflxm.Text × Vaflxm.Text)} (h : DeskAt C H d e exs) (s : Same H H') : DeskAt C H' d e exs := by
 obtain ⟨dx, f, h1, h2, h3, h4⟩ := h
 exact ⟨dx, f, s _ _ h1, h2, h3.same s, h4.same s⟩
def After (C : Cs) (H : Hp) (d e : Addr) (r : Vaflxm.State × List Int) (Q : VK) : Prop := ∀ p H' e', (∀ b o, H b = some o → b ≠ d → b ≠ e → H' b = some o) → DeskAt C H' d e' r.1.examples → (e' = e ∨ H e' = none) → H p = none → H' p = some (.lst (r.2.map V.int)) → Q (.ref p) H'
theorem After.rd {C : Cs} {H : Hp} {d e : Addr} {s : Vaflxm.State} {l : List Int} {Q : VK} (k : After C H d e (s, l) Q) (h : DeskAt C H d e s.examples) : NewL H (l.map V.int) Q :=
 fun p H' s n q => k p H' e (fun b o x _ _ => s b o x) (h.same s) (.inl rfl) n q
def RowsAt (H : Hp) (r : Addr) (ts : List Vaflxm.Text) : Prop := ∃ as : List Addr, H r = some (.lst (as.map V.ref)) ∧ as.length = ts.length ∧ ∀ (i : Nat) (a : Addr) (t : Vaflxm.Text), as[i]? = some a → ts[i]? = some t → H a = some (.lst (tv t))
def spC (C : Cs) (W : List Int → List Vaflxm.Text → Vaflxm.Call → Prop) : Sp := fun vs H Q _ => ∃ (d n r e : Addr) (exs : List (Vaflxm.Text × Vaflxm.Text)) (ns : List Int) (ts : List Vaflxm.Text) (c : Vaflxm.Call), vs = [.ref d, .ref n, .ref r] ∧ DeskAt C H d e exs ∧ H n = some (.lst (ns.map V.int)) ∧ RowsAt H r ts ∧ W ns ts c ∧ exs.length ≤ 10 ∧ After C H d e (Vaflxm.step ⟨exs⟩ c) Q
theorem forms_len : Vaflxm.forms.length = 273 := by decide +kernel
theorem has_iff (i : Int) : (Vaflxm.formAt i).isSome = decide (0 ≤ i ∧ i < 273) := by
 unfold Vaflxm.formAt
 split
 ·rename_i h
  have : ¬ (0 ≤ i ∧ i < 273) := by omega
  simp [this]
 ·rename_i h
  have q : (Vaflxm.forms[i.toNat]?).isSome = decide (i.toNat < 273) := by
   rw [Bool.eq_iff_iff, Option.isSome_iff_exists, decide_eq_true_eq, ← forms_len]
   exact ⟨fun ⟨a, z⟩ => (List.getElem?_eq_some_iff.mp z).1, fun z => ⟨_, List.getElem?_eq_getElem z⟩⟩
  rw [q, decide_eq_decide]
  omega
theorem formAt_some {i : Int} {f : Vaflxm.Form} (h : Vaflxm.formAt i = some f) : 0 ≤ i ∧ Vaflxm.forms[i.toNat]? = some f := by
 unfold Vaflxm.formAt at h
 split at h
 ·cases h
 ·exact ⟨by omega, h⟩
theorem write_small (f : Vaflxm.Form) (v : Vaflxm.Value) (t : Vaflxm.Text) (wf : wfF f) (ov : okV v) (h : Vaflxm.writeIn f v = some t) : t.length ≤ 60 := by
 cases f with
 | num g =>
  cases v with
  | number n s =>
   have h : Vaflxm.writeNum g n s = some t := h
   obtain ⟨w1, w2, w3⟩ := wf
   unfold Vaflxm.writeNum at h
   split at h
   ·cases h
   ·dsimp only at h
    split at h
    ·cases h
    ·rename_i hw
     have hw := Nat.lt_of_not_le hw
     have e := Option.some.inj h
     subst e
     have l1 := (Tm.whole_small g.width _ (by omega)).mpr hw
     have l2 := Tm.grouped_length g.group (Vaflxm.padded g.width (n.natAbs * 10 ^ (g.decimals - s) / 10 ^ g.decimals))
     have l3 : (if g.decimals = 0 then ([] : Vaflxm.Text) else g.mark :: Vaflxm.padded g.decimals (n.natAbs * 10 ^ (g.decimals - s) % 10 ^ g.decimals)).length ≤ 5 := by
      split
      ·simp
      ·rename_i hd
       have := (Tm.dec_length (n.natAbs * 10 ^ (g.decimals - s) % 10 ^ g.decimals) g.decimals (by omega)).mpr (Nat.mod_lt _ (Nat.pos_of_ne_zero (by simp)))
       rw [List.length_cons, Tm.padded_length]
       omega
     have l4 : (if n < 0 then ([45] : Vaflxm.Text) else []).length ≤ 1 := by split <;> simp
     rw [List.length_append, List.length_append]
     omega
  | date y m d => cases h
 | date g =>
  cases v with
  | number n s => cases h
  | date y m d =>
   have e := Option.some.inj h
   subst e
   have := Tm.write_len g y m d wf ov
   omega
theorem desk_form {C : Cs} {H : Hp} {f : Addr} {i : Int} {g : Vaflxm.Form} (h : FormsAt C.num C.date H f Vaflxm.forms) (hf : Vaflxm.formAt i = some g) : ∃ (as : List Addr) (a : Addr), H f = some (.lst (as.map V.ref)) ∧ atI (as.map V.ref) i = some (.ref a) ∧ FormAt C.num C.date H a g ∧ wfF g := by
 obtain ⟨as, h1, h2, h3⟩ := h
 obtain ⟨h0, hg⟩ := formAt_some hf
 have hi : i.toNat < as.length := by rw [h2]; exact (List.getElem?_eq_some_iff.mp hg).1
 refine ⟨as, as[i.toNat], h1, at_of (j := i.toNat) (by omega) (by rw [List.getElem?_map, List.getElem?_eq_getElem hi]; rfl), h3 _ _ _ (List.getElem?_eq_getElem hi) hg, forms_wf g (List.mem_of_getElem? hg)⟩
section
variable {P : Program} {w : World} {K : PySem.W.Frag} {mg : Str → Option Value} {base : Heap} {C : Cs}
def sp_Desk_init (C : Cs) : Sp := fun vs H Q _ => ∃ (p dx : Addr), vs = [.ref p] ∧ H p = some (.ins C.desk dx []) ∧ ∀ H' e, DeskAt C H' p e [] → H e = none → (∀ b o, H b = some o → b ≠ p → H' b = some o) → Q .non H'
abbrev s_Desk_init : Stmt := inClass (top 77) 0
theorem sc_Desk_init : FnScope ["self"] ["self"] (defScope s_Desk_init) := by walk_at "N"
theorem ok_Desk_init (N : CK K C.desk) (D : Idef K mg C.desk "Desk" "Desk.__init__" s_Desk_init ["self"]) (ok_all_forms : Ok P w K mg base 4 "all_forms" [] (sp_all_forms C.num C.date)) : Oc P w K mg base C.desk 5 "Desk" ["self"] (sp_Desk_init C) := by
 refine D.ok sc_Desk_init (fun vs H Q E h => ?_) (fun f cdv A outer s H vs Q E hr h => ?_)
 ·obtain ⟨p, dx, rfl, _⟩ := h
  rfl
 ·obtain ⟨p, dx, rfl, hp, k⟩ := h
  refine ⟨_, (pss_cons (ps_fld (pv 0) (pe_fn0 ok_all_forms (hr.mono (by decide)) (by rfl)) rfl)
   (pss_one (ps_fld (pv 0) (pe_lst pa_nil) rfl))), ?_⟩
  walk_at "S"
  refine ⟨rfl, fun f H1 s1 hf hF => ?_⟩
  have l1 := length_putF "forms" (.ref f) []
  rw [List.length_nil] at l1
  refine ⟨C.desk, dx, [], s1 _ _ hp, N.cl, N.forms, by decide, Nat.zero_le _, fun e he => ?_⟩
  have ne : p ≠ e := fun z => by rw [← z, upd_same] at he; cases he
  have he1 : H1 e = none := by rw [upd_ne (Ne.symm ne)] at he; exact he
  refine ⟨C.desk, dx, _, by rw [upd_ne ne]; exact upd_same, N.cl, N.examples, by omega, ?_⟩
  have nfe : f ≠ e := by
   obtain ⟨as, q, _⟩ := hF
   exact ne_of_none q he1
  have nfp : f ≠ p := by
   obtain ⟨as, q, _⟩ := hF
   exact ne_of q (s1 _ _ hp) (by intro z; cases z)
  refine k _ e ⟨dx, f, upd_same, nfe, ?_, [], ?_, rfl, fun i a x h => by simp at h⟩ ?_ ?_
  ·obtain ⟨as, q1, q2, q3⟩ := hF
   refine ⟨as, by rw [upd_ne nfp, upd_ne nfe, upd_ne nfp]; exact q1, q2, fun i a g z1 z2 => ?_⟩
   obtain ⟨dx2, z⟩ := q3 i a g z1 z2
   have n1 : a ≠ e := ne_of_none z he1
   have n2 : a ≠ p := by
    intro y
    have z' := z
    rw [y, s1 _ _ hp] at z'
    have w1 := Option.some.inj z'
    injection w1 with _ _ w2
    cases g with
    | num g => have y2 := nf_width g; rw [show nfF g = [] from w2.symm] at y2; cases y2
    | date g => have y2 := df_order g; rw [show dfF g = [] from w2.symm] at y2; cases y2
   exact ⟨dx2, by rw [upd_ne n2, upd_ne n1, upd_ne n2]; exact z⟩
  ·rw [upd_ne (Ne.symm ne), upd_same]; rfl
  ·exact s1.free he1
  ·intro b o q hb
   rw [upd_ne hb, upd_ne (ne_of_none (s1 _ _ q) he1), upd_ne hb]
   exact s1 _ _ q
def sp_Desk_has_form (C : Cs) : Sp := fun vs H Q _ => ∃ (a e : Addr) (exs : List (Vaflxm.Text × Vaflxm.Text)) (i : Int), vs = [.ref a, .int i] ∧ DeskAt C H a e exs ∧ Q (.bl (Vaflxm.formAt i).isSome) H
abbrev s_Desk_has_form : Stmt := inClass (top 77) 1
theorem sc_Desk_has_form : FnScope ["self", "number"] ["self", "number"] (defScope s_Desk_has_form) := by walk_at "N"
theorem om_Desk_has_form (T : Txt K mg) (N : CK K C.desk) (D : Mdef K C.desk "has_form" "Desk.has_form" s_Desk_has_form ["self", "number"]) : Om P w K mg base C.desk 1 "has_form" ["self", "number"] (sp_Desk_has_form C) := by
 refine D.ok N.cl sc_Desk_has_form (fun vs H Q E h => ?_) (fun f cdv A outer s H vs Q E hr h => ?_)
 ·obtain ⟨p, e, exs, i, rfl, _⟩ := h
  rfl
 ·obtain ⟨a, e, exs, i, rfl, ⟨dx, f, ha, nfe, ⟨as, hf, hl, _⟩, _⟩, k⟩ := h
  rw [has_iff] at k
  refine ⟨_, (pss_one (ps_ret (pe_chain op_le op_lt pe_int (pv 1) (pe_callB call_len_seq (by rfl) T.n_len boot_len (pa_cons (pe_fld (pv 0) rfl) pa_nil))))), ?_⟩
  walk_at "S"
  split
  ·rename_i h0
   simp only [ha]
   walk_at "S"
   simp only [dk_forms]
   walk_at "S"
   refine ⟨N.cl, N.forms, _, .inl (sqL_of hf), ?_⟩
   have e1 : decide (i < ((as.map V.ref).length : Int)) = decide (0 ≤ i ∧ i < 273) := by
    rw [List.length_map, hl, forms_len, Bool.eq_iff_iff]
    simp
    omega
   rw [e1]
   exact k
  ·rename_i h0
   have e1 : decide (0 ≤ i ∧ i < 273) = false := by simp; omega
   rw [e1] at k
   exact k
def TextAt (H : Hp) (v : V) (o : Option Vaflxm.Text) : Prop := match o with
 | none => v = .non
 | some t => ∃ a, v = .ref a ∧ H a = some (.lst (tv t)) ∧ t.length ≤ 60
def sp_text_answer : Sp := fun vs H Q _ => ∃ (v : V) (o : Option Vaflxm.Text), vs = [v] ∧ TextAt H v o ∧ NewL H ((Vaflxm.textOr1 o).map V.int) Q
abbrev s_text_answer : Stmt := top 79
theorem sc_text_answer : FnScope ["text"] ["text"] (defScope s_text_answer) := by walk_at "N"
theorem ok_text_answer (T : Txt K mg) (D : Def K mg "text_answer" s_text_answer ["text"]) : Ok P w K mg base 1 "text_answer" ["text"] sp_text_answer := by
 refine D.ok sc_text_answer (fun vs H Q E h => ?_) (fun f cdv A outer s H vs Q E hr h => ?_)
 ·obtain ⟨v, o, rfl, _⟩ := h
  rfl
 ·obtain ⟨v, o, rfl, hv, k⟩ := h
  have hs9 := sizeLine_eq
  refine ⟨_, (pss_cons (ps_if (pt_cmpR op_isN (pv 0) pe_non (nomark _)) (pss_one (ps_ret (pe_lst (pa_cons (pe_ci T.NOT_POSSIBLE (by rfl)) pa_nil)))) pss_nil)
   (pss_one (ps_ret (pe_op op_cat (pe_lst (pa_cons (pe_ci T.DONE (by rfl)) pa_nil)) (pv 0))))), ?_⟩
  walk_at "S"
  cases o with
  | none =>
   have hv : v = .non := hv
   subst hv
   simp
   exact ⟨by omega, fun p hp => k p _ (same_new hp) hp upd_same⟩
  | some t =>
   obtain ⟨a, rfl, ha, hl⟩ := hv
   rw [if_neg (by simp)]
   refine ⟨by omega, fun p hp => ?_⟩
   have ne := ne_of_none ha hp
   refine ⟨a, rfl, _, upd_same, _, by rw [upd_ne ne]; exact ha, by simp [tv]; omega, fun q hq => ?_⟩
   have nq : q ≠ p := fun z => by rw [z, upd_same] at hq; cases hq
   have hq0 : H q = none := by rw [upd_ne nq] at hq; exact hq
   refine k q _ ((same_new hp).put hq0) hq0 ?_
   rw [upd_same]
   simp [Vaflxm.textOr1, Vaflxm.numbers, tv]
end
theorem ex2_or {α β : Type} {p q : α → β → Prop} (h : (∃ x y, p x y) ∨ ∃ x y, q x y) : ∃ x y, p x y ∨ q x y := by
 rcases h with ⟨x, y, h⟩ | ⟨x, y, h⟩
 ·exact ⟨x, y, .inl h⟩
 ·exact ⟨x, y, .inr h⟩
theorem or_args {A A' : Addr → List (Str × V) → Prop} {B : List (Str × V) → Prop} {S1 S2 S3 S4 : Prop} (h : (∃ x y, A x y ∧ B y ∧ S1) ∨ ∃ x y, A' x y ∧ B y ∧ S2) (h1 : S1 → S3) (h2 : S2 → S4) : ∃ x y, (A x y ∧ B y ∧ S3) ∨ (A' x y ∧ B y ∧ S4) := by
 rcases h with ⟨x, y, a, b, h⟩ | ⟨x, y, a, b, h⟩
 ·exact ⟨x, y, .inl ⟨a, b, h1 h⟩⟩
 ·exact ⟨x, y, .inr ⟨a, b, h2 h⟩⟩
theorem NewL.same {H H' : Hp} {xs : List V} {Q : VK} (k : NewL H xs Q) (s : Same H H') : NewL H' xs Q := fun p H2 s2 n h => k p H2 (s.trans s2) (s.free n) h
theorem day_in {m : Int} (h : Vaflxm.within 1 (Vaflxm.nat Vaflxm.MOST_DAY) m = true) : 1 ≤ m ∧ m ≤ 3652059 := by
 unfold Vaflxm.within at h
 rw [Bool.and_eq_true, decide_eq_true_eq, decide_eq_true_eq] at h
 exact h
theorem row_at {H : Hp} {r : Addr} {ts : List Vaflxm.Text} (h : RowsAt H r ts) (i : Nat) {t : Vaflxm.Text} (ht : ts[i]? = some t) : ∃ (as : List Addr) (a : Addr), H r = some (.lst (as.map V.ref)) ∧ atI (as.map V.ref) (i : Int) = some (.ref a) ∧ H a = some (.lst (tv t)) := by
 obtain ⟨as, h1, h2, h3⟩ := h
 have hi : i < as.length := by rw [h2]; exact (List.getElem?_eq_some_iff.mp ht).1
 exact ⟨as, as[i], h1, at_of (j := i) rfl (by rw [List.getElem?_map, List.getElem?_eq_getElem hi]; rfl), h3 _ _ _ (List.getElem?_eq_getElem hi) ht⟩
theorem res_text {H H1 : Hp} {o : Option Vaflxm.Text} {Q : VK} (s : Same H H1) (hl : ∀ t, o = some t → t.length ≤ 60) (k : NewL H ((Vaflxm.textOr1 o).map V.int) Q) : ResT H1 o (fun x H' => sp_text_answer [x] H' Q E0) := by
 cases o with
 | none => exact fun H2 s2 => ⟨.non, none, rfl, rfl, k.same (s.trans s2)⟩
 | some t => exact fun p H2 s2 hp h => ⟨.ref p, some t, rfl, ⟨p, rfl, h, hl t rfl⟩, k.same (s.trans s2)⟩
theorem convert_small (f g : Vaflxm.Form) (t u : Vaflxm.Text) (wf : wfF f) (wg : wfF g) (h : Vaflxm.convert f g t = some u) : u.length ≤ 60 := by
 unfold Vaflxm.convert at h
 cases e : Vaflxm.readIn f t with
 | none => rw [e] at h; cases h
 | some v =>
  rw [e] at h
  exact write_small g v u wg (read_ok f t v wf e) h
section
variable {P : Program} {w : World} {K : PySem.W.Frag} {mg : Str → Option Value} {base : Heap} {C : Cs}
def W_form : List Int → List Vaflxm.Text → Vaflxm.Call → Prop := fun ns ts c => ∃ i, ns = [i] ∧ ts = [] ∧ c = .form i
abbrev s_answer_form : Stmt := top 80
theorem sc_answer_form : FnScope ["desk", "numbers", "rows"] ["desk", "numbers", "rows"] (defScope s_answer_form) := by walk_at "N"
theorem ok_answer_form (T : Txt K mg) (N : CK K C.desk) (D : Def K mg "answer_form" s_answer_form ["desk", "numbers", "rows"]) (om_Desk_has_form : Om P w K mg base C.desk 1 "has_form" ["self", "number"] (sp_Desk_has_form C))
  (om_NumberForm_told : Om P w K mg base C.num 1 "told" ["self"] (sp_NumberForm_told C.num)) (om_DateForm_told : Om P w K mg base C.date 1 "told" ["self"] (sp_DateForm_told C.date)) : Ok P w K mg base 2 "answer_form" ["desk", "numbers", "rows"] (spC C W_form) := by
 refine D.ok sc_answer_form (fun vs H Q E h => ?_) (fun f cdv A outer s H vs Q E hr h => ?_)
 ·obtain ⟨d, n, r, e, exs, ns, ts, c, rfl, _⟩ := h
  rfl
 ·obtain ⟨d, n, r, e, exs, ns, ts, c, rfl, hd, hn, hr0, ⟨i, rfl, rfl, rfl⟩, h10, k⟩ := h
  have hs9 := sizeLine_eq
  have k := After.rd k hd
  obtain ⟨dx, pf, hdd, nfe, hF, hE⟩ := id hd
  refine ⟨_, (pss_cons (ps_if (pt_not (pt_val (pe_mt (pv 0) om_Desk_has_form (hr.mono (by decide)) (pa_cons (pe_ix ix_list (pv 1) pe_int (fun _ _ => rfl)) pa_nil)))) (pss_one (ps_ret (pe_lst (pa_cons (pe_ci T.NO_SUCH_FORM (by rfl)) pa_nil)))) pss_nil)
   (pss_one (ps_ret (pe_op op_cat (pe_lst (pa_cons (pe_ci T.DONE (by rfl)) pa_nil)) (PE.or (pe_mt0 (pe_ix ix_list (pe_fld (pv 0) rfl) (pe_ix ix_list (pv 1) pe_int (fun _ _ => rfl)) (fun _ _ => rfl)) om_NumberForm_told (hr.mono (by decide)) ) (pe_mt0 (pe_ix ix_list (pe_fld (pv 0) rfl) (pe_ix ix_list (pv 1) pe_int (fun _ _ => rfl)) (fun _ _ => rfl)) om_DateForm_told (hr.mono (by decide)) )))))), ?_⟩
  walk_at "S"
  simp only [← exists_or, ← and_or_left, hdd]
  walk_at "S"
  refine ⟨dk_no pf e (by decide +kernel) (by decide +kernel), _, sqL_of hn, _, rfl, d, e, exs, i, rfl, hd, ?_⟩
  have ek : Vaflxm.answerOf ⟨exs⟩ (.form i) = Vaflxm.withForm i fun f => 0 :: Vaflxm.formNumbers f := rfl
  rw [ek] at k
  unfold Vaflxm.withForm at k
  cases hf : Vaflxm.formAt i with
  | none =>
   rw [hf] at k
   walk_at "S"
   exact ⟨by omega, fun p hp => k p _ (same_new hp) hp upd_same⟩
  | some g =>
   rw [hf] at k
   walk_at "S"
   refine ⟨by omega, fun p hp => ?_⟩
   have s1 : Same H (upd H p (.lst [.int 0])) := same_new hp
   obtain ⟨as, a, q1, q2, q3, q4⟩ := desk_form (C := C) hF hf
   refine ⟨_, dx, _, s1 _ _ hdd, N.cl, N.forms, _, dk_forms pf e, _, sqL_of (s1 _ _ hn), _, rfl, pf, rfl, _, i, rfl, sqL_of (s1 _ _ q1), _, q2, a, rfl, ex2_or (tl_form (q3.same s1) ?_)⟩
   intro q H2 s2 hq hH2
   refine ⟨q, rfl, _, s2 _ _ upd_same, _, hH2, ?_, fun z hz => ?_⟩
   ·cases g <;> simp [Vaflxm.formNumbers] <;> omega
   ·have hz0 : H z = none := s1.free (s2.free hz)
    refine k z _ ((s1.trans s2).put hz0) hz0 ?_
    rw [upd_same]
    rfl
def W_read : List Int → List Vaflxm.Text → Vaflxm.Call → Prop := fun ns ts c => ∃ i t, ns = [i] ∧ ts = [t] ∧ c = .read i t
abbrev s_answer_read : Stmt := top 81
theorem sc_answer_read : FnScope ["desk", "numbers", "rows", "value"] ["desk", "numbers", "rows"] (defScope s_answer_read) := by walk_at "N"
theorem ok_answer_read (T : Txt K mg) (N : CK K C.desk) (D : Def K mg "answer_read" s_answer_read ["desk", "numbers", "rows"]) (om_Desk_has_form : Om P w K mg base C.desk 1 "has_form" ["self", "number"] (sp_Desk_has_form C))
  (om_NumberForm_value_read : Om P w K mg base C.num 3 "value_read" ["self", "text"] (sp_NumberForm_value_read K C.num)) (om_DateForm_value_read : Om P w K mg base C.date 5 "value_read" ["self", "text"] (sp_DateForm_value_read K C.date)) : Ok P w K mg base 6 "answer_read" ["desk", "numbers", "rows"] (spC C W_read) := by
 refine D.ok sc_answer_read (fun vs H Q E h => ?_) (fun f cdv A outer s H vs Q E hr h => ?_)
 ·obtain ⟨d, n, r, e, exs, ns, ts, c, rfl, _⟩ := h
  rfl
 ·obtain ⟨d, n, r, e, exs, ns, ts, c, rfl, hd, hn, hr0, ⟨i, t, rfl, rfl, rfl⟩, h10, k⟩ := h
  have hs9 := sizeLine_eq
  have k := After.rd k hd
  obtain ⟨dx, pf, hdd, nfe, hF, hE⟩ := id hd
  obtain ⟨rs, ra, r1, r2, r3⟩ := row_at hr0 0 rfl
  refine ⟨_, (pss_cons (ps_if (pt_not (pt_val (pe_mt (pv 0) om_Desk_has_form (hr.mono (by decide)) (pa_cons (pe_ix ix_list (pv 1) pe_int (fun _ _ => rfl)) pa_nil)))) (pss_one (ps_ret (pe_lst (pa_cons (pe_ci T.NO_SUCH_FORM (by rfl)) pa_nil)))) pss_nil)
   (pss_cons (ps_set (i := 3) sc_answer_read.nd rfl (Or.inl rfl) (PE.or (pe_mt (pe_ix ix_list (pe_fld (pv 0) rfl) (pe_ix ix_list (pv 1) pe_int (fun _ _ => rfl)) (fun _ _ => rfl)) om_NumberForm_value_read (hr.mono (by decide)) (pa_cons (pe_ix ix_list (pv 2) pe_int (fun _ _ => rfl)) pa_nil)) (pe_mt (pe_ix ix_list (pe_fld (pv 0) rfl) (pe_ix ix_list (pv 1) pe_int (fun _ _ => rfl)) (fun _ _ => rfl)) om_DateForm_value_read (hr.mono (by decide)) (pa_cons (pe_ix ix_list (pv 2) pe_int (fun _ _ => rfl)) pa_nil))))
   (pss_cons (ps_if (pt_cmpR op_isN (pv 3) pe_non (nomark _)) (pss_one (ps_ret (pe_lst (pa_cons (pe_ci T.NOT_POSSIBLE (by rfl)) pa_nil)))) pss_nil)
   (pss_one (ps_ret (pe_op op_cat (pe_lst (pa_cons (pe_ci T.DONE (by rfl)) pa_nil)) (pe_callTy call_list_of (by rfl) T.n_list boot_list (pa_cons (pv 3) pa_nil)))))))), ?_⟩
  walk_at "S"
  simp only [← exists_or, ← and_or_left, hdd]
  walk_at "S"
  refine ⟨dk_no pf e (by decide +kernel) (by decide +kernel), _, sqL_of hn, _, rfl, d, e, exs, i, rfl, hd, ?_⟩
  have ek : Vaflxm.answerOf ⟨exs⟩ (.read i t) = Vaflxm.withForm i fun f => match Vaflxm.readIn f t with
   | some v => 0 :: Vaflxm.valueNumbers v
   | none => [1] := rfl
  rw [ek] at k
  unfold Vaflxm.withForm at k
  cases hf : Vaflxm.formAt i with
  | none =>
   rw [hf] at k
   walk_at "S"
   exact ⟨by omega, fun p hp => k p _ (same_new hp) hp upd_same⟩
  | some g =>
   rw [hf] at k
   dsimp only at k
   walk_at "S"
   obtain ⟨as, a, q1, q2, q3, q4⟩ := desk_form (C := C) hF hf
   refine ⟨_, dx, _, hdd, N.cl, N.forms, _, dk_forms pf e, _, sqL_of hn, _, rfl, pf, rfl, _, i, rfl, sqL_of q1, _, q2, a, rfl, or_args (rd_form q3 q4 (sqL_of r3) ?_) (fun z => ⟨_, sqL_of r1, _, r2, z⟩) (fun z => ⟨_, sqL_of r1, _, r2, z⟩)⟩
   cases hv : Vaflxm.readIn g t with
   | none =>
    rw [hv] at k
    intro H1 s1
    rw [if_pos rfl]
    exact ⟨by omega, fun p hp => k p _ (s1.trans (same_new hp)) (s1.free hp) upd_same⟩
   | some v =>
    rw [hv] at k
    intro p H1 s1 hp hv1
    rw [if_neg (by intro z; cases z)]
    refine ⟨by omega, fun q hq => ?_⟩
    have s2 : Same H1 (upd H1 q (.lst [.int 0])) := same_new hq
    refine ⟨p, rfl, _, .inr (sqT_of (s2 _ _ hv1)), fun l hl => ?_⟩
    have nl : q ≠ l := fun z => by rw [← z, upd_same] at hl; cases hl
    refine ⟨_, by rw [upd_ne nl]; exact upd_same, _, upd_same, ?_, fun z hz => ?_⟩
    ·cases v <;> simp [vv, Vaflxm.valueNumbers] <;> omega
    ·have s3 : Same H1 (upd (upd H1 q (.lst [.int 0])) l (.lst (vv v))) := s2.trans (same_new hl)
     have hz0 : H z = none := s1.free (s3.free hz)
     refine k z _ ((s1.trans s3).put hz0) hz0 ?_
     rw [upd_same]
     rfl
def W_number : List Int → List Vaflxm.Text → Vaflxm.Call → Prop := fun ns ts c => ∃ i n s, ns = [i, n, s] ∧ ts = [] ∧ c = .number i n s ∧ n.natAbs ≤ 10 ^ 18
abbrev s_answer_number : Stmt := top 82
theorem sc_answer_number : FnScope ["desk", "numbers", "rows"] ["desk", "numbers", "rows"] (defScope s_answer_number) := by walk_at "N"
theorem ok_answer_number (T : Txt K mg) (N : CK K C.desk) (D : Def K mg "answer_number" s_answer_number ["desk", "numbers", "rows"]) (om_Desk_has_form : Om P w K mg base C.desk 1 "has_form" ["self", "number"] (sp_Desk_has_form C))
  (ok_text_answer : Ok P w K mg base 1 "text_answer" ["text"] sp_text_answer) (ok_number_value : Ok P w K mg base 1 "number_value" ["n", "s"] sp_number_value)
  (om_NumberForm_written : Om P w K mg base C.num 2 "written" ["self", "value"] (sp_NumberForm_written K C.num)) (om_DateForm_written : Om P w K mg base C.date 4 "written" ["self", "value"] (sp_DateForm_written K C.date)) : Ok P w K mg base 6 "answer_number" ["desk", "numbers", "rows"] (spC C W_number) := by
 refine D.ok sc_answer_number (fun vs H Q E h => ?_) (fun f cdv A outer s H vs Q E hr h => ?_)
 ·obtain ⟨d, n, r, e, exs, ns, ts, c, rfl, _⟩ := h
  rfl
 ·obtain ⟨d, n, r, e, exs, ns, ts, c, rfl, hd, hn, hr0, ⟨i, m, sc, rfl, rfl, rfl, hm⟩, h10, k⟩ := h
  have hs9 := sizeLine_eq
  have k := After.rd k hd
  obtain ⟨dx, pf, hdd, nfe, hF, hE⟩ := id hd
  refine ⟨_, (pss_cons (ps_if (pt_not (pt_val (pe_mt (pv 0) om_Desk_has_form (hr.mono (by decide)) (pa_cons (pe_ix ix_list (pv 1) pe_int (fun _ _ => rfl)) pa_nil)))) (pss_one (ps_ret (pe_lst (pa_cons (pe_ci T.NO_SUCH_FORM (by rfl)) pa_nil)))) pss_nil)
   (pss_cons (ps_if (pw_or (pt_cmpR op_lt (pe_ix ix_list (pv 1) pe_int (fun _ _ => rfl)) pe_int (nomark _)) (pw_or1 (pt_cmpR op_gt (pe_ix ix_list (pv 1) pe_int (fun _ _ => rfl)) (pe_ci T.MOST_TENS (by rfl)) (nomark _)))).pt (pss_one (ps_ret (pe_lst (pa_cons (pe_ci T.NO_SUCH_VALUE (by rfl)) pa_nil)))) pss_nil)
   (pss_one (ps_ret (pe_fn ok_text_answer (hr.mono (by decide)) (by rfl) (pa_cons (PE.or (pe_mt (pe_ix ix_list (pe_fld (pv 0) rfl) (pe_ix ix_list (pv 1) pe_int (fun _ _ => rfl)) (fun _ _ => rfl)) om_NumberForm_written (hr.mono (by decide)) (pa_cons (pe_fn ok_number_value (hr.mono (by decide)) (by rfl) (pa_cons (pe_ix ix_list (pv 1) pe_int (fun _ _ => rfl)) (pa_cons (pe_ix ix_list (pv 1) pe_int (fun _ _ => rfl)) pa_nil))) pa_nil)) (pe_mt (pe_ix ix_list (pe_fld (pv 0) rfl) (pe_ix ix_list (pv 1) pe_int (fun _ _ => rfl)) (fun _ _ => rfl)) om_DateForm_written (hr.mono (by decide)) (pa_cons (pe_fn ok_number_value (hr.mono (by decide)) (by rfl) (pa_cons (pe_ix ix_list (pv 1) pe_int (fun _ _ => rfl)) (pa_cons (pe_ix ix_list (pv 1) pe_int (fun _ _ => rfl)) pa_nil))) pa_nil))) pa_nil)))))), ?_⟩
  walk_at "S"
  simp only [← exists_or, ← and_or_left, hdd]
  walk_at "S"
  refine ⟨dk_no pf e (by decide +kernel) (by decide +kernel), _, sqL_of hn, _, rfl, d, e, exs, i, rfl, hd, ?_⟩
  have ek : Vaflxm.answerOf ⟨exs⟩ (.number i m sc) = Vaflxm.withForm i fun f => if Vaflxm.within 0 9 sc then Vaflxm.textOr1 (Vaflxm.writeIn f (.number (Vaflxm.lowest sc.toNat m sc.toNat).1 (Vaflxm.lowest sc.toNat m sc.toNat).2)) else [-3] := rfl
  rw [ek] at k
  unfold Vaflxm.withForm at k
  cases hf : Vaflxm.formAt i with
  | none =>
   rw [hf] at k
   walk_at "S"
   exact ⟨by omega, fun p hp => k p _ (same_new hp) hp upd_same⟩
  | some g =>
   rw [hf] at k
   dsimp only at k
   walk_at "S"
   refine ⟨_, sqL_of hn, _, rfl, sc, rfl, ?_⟩
   have bad : ¬ (0 ≤ sc ∧ sc ≤ 9) → 1 ≤ sizeLine ∧ ∀ (p : Addr), H p = none → Q (V.ref p) (upd H p (HO.lst [V.int (-3)])) := fun z => by
    have e0 : Vaflxm.within 0 9 sc = false := by
     unfold Vaflxm.within
     rw [Bool.and_eq_false_iff]
     simp only [decide_eq_false_iff_not]
     omega
    rw [e0] at k
    exact ⟨by omega, fun p hp => k p _ (same_new hp) hp upd_same⟩
   split
   ·exact bad (by omega)
   ·refine ⟨_, sqL_of hn, _, rfl, sc, rfl, ?_⟩
    split
    ·exact bad (by omega)
    ·have e0 : Vaflxm.within 0 9 sc = true := by
      unfold Vaflxm.within
      simp
      omega
     rw [e0, if_pos rfl] at k
     obtain ⟨as, a, q1, q2, q3, q4⟩ := desk_form (C := C) hF hf
     refine ⟨_, dx, _, hdd, N.cl, N.forms, _, dk_forms pf e, _, sqL_of hn, _, rfl, pf, rfl, _, i, rfl, sqL_of q1, _, q2, a, rfl, ?_⟩
     have ov : okV (.number (Vaflxm.lowest sc.toNat m sc.toNat).1 (Vaflxm.lowest sc.toNat m sc.toNat).2) := by
      have h1 := Tm.lowest_small sc.toNat m
      have h2 := (Tm.lowest_spec sc.toNat m).1
      have : (10 : Nat) ^ 18 < 10 ^ 40 := by decide
      exact ⟨by omega, by omega⟩
     have esc : (sc.toNat : Int) = sc := by omega
     have fin := fun H1 (s1 : Same H H1) => res_text (H1 := H1) s1 (fun t z => write_small g _ t q4 ov z) k
     obtain ⟨dx2, h⟩ := q3
     cases g with
     | num g =>
      refine ⟨dx2, _, .inl ⟨h, nf_no g (by decide +kernel) (by decide +kernel) (by decide +kernel) (by decide +kernel), _, sqL_of hn, _, rfl, _, sqL_of hn, _, rfl, m, sc.toNat, by rw [esc], fun p H1 s1 hp hv => ?_⟩⟩
      exact ⟨a, p, g, .number _ _, rfl, ⟨dx2, s1 _ _ h⟩, q4, sqT_of hv, ov, fin H1 s1⟩
     | date g =>
      refine ⟨dx2, _, .inr ⟨h, df_no g (by decide +kernel) (by decide +kernel) (by decide +kernel) (by decide +kernel), _, sqL_of hn, _, rfl, _, sqL_of hn, _, rfl, m, sc.toNat, by rw [esc], fun p H1 s1 hp hv => ?_⟩⟩
      exact ⟨a, p, g, .number _ _, rfl, ⟨dx2, s1 _ _ h⟩, q4, sqT_of hv, ov, fin H1 s1⟩
def W_date : List Int → List Vaflxm.Text → Vaflxm.Call → Prop := fun ns ts c => ∃ i y m d, ns = [i, y, m, d] ∧ ts = [] ∧ c = .date i y m d
abbrev s_answer_date : Stmt := top 83
theorem sc_answer_date : FnScope ["desk", "numbers", "rows"] ["desk", "numbers", "rows"] (defScope s_answer_date) := by walk_at "N"
theorem ok_answer_date (T : Txt K mg) (N : CK K C.desk) (D : Def K mg "answer_date" s_answer_date ["desk", "numbers", "rows"]) (om_Desk_has_form : Om P w K mg base C.desk 1 "has_form" ["self", "number"] (sp_Desk_has_form C))
  (ok_text_answer : Ok P w K mg base 1 "text_answer" ["text"] sp_text_answer) (ok_is_date : Ok P w K mg base 3 "is_date" ["year", "month", "day"] sp_is_date)
  (om_NumberForm_written : Om P w K mg base C.num 2 "written" ["self", "value"] (sp_NumberForm_written K C.num)) (om_DateForm_written : Om P w K mg base C.date 4 "written" ["self", "value"] (sp_DateForm_written K C.date)) : Ok P w K mg base 6 "answer_date" ["desk", "numbers", "rows"] (spC C W_date) := by
 refine D.ok sc_answer_date (fun vs H Q E h => ?_) (fun f cdv A outer s H vs Q E hr h => ?_)
 ·obtain ⟨d, n, r, e, exs, ns, ts, c, rfl, _⟩ := h
  rfl
 ·obtain ⟨d, n, r, e, exs, ns, ts, c, rfl, hd, hn, hr0, ⟨i, y, m, dd, rfl, rfl, rfl⟩, h10, k⟩ := h
  have hs9 := sizeLine_eq
  have k := After.rd k hd
  obtain ⟨dx, pf, hdd, nfe, hF, hE⟩ := id hd
  refine ⟨_, (pss_cons (ps_if (pt_not (pt_val (pe_mt (pv 0) om_Desk_has_form (hr.mono (by decide)) (pa_cons (pe_ix ix_list (pv 1) pe_int (fun _ _ => rfl)) pa_nil)))) (pss_one (ps_ret (pe_lst (pa_cons (pe_ci T.NO_SUCH_FORM (by rfl)) pa_nil)))) pss_nil)
   (pss_cons (ps_if (pt_not (pt_val (pe_fn ok_is_date (hr.mono (by decide)) (by rfl) (pa_cons (pe_ix ix_list (pv 1) pe_int (fun _ _ => rfl)) (pa_cons (pe_ix ix_list (pv 1) pe_int (fun _ _ => rfl)) (pa_cons (pe_ix ix_list (pv 1) pe_int (fun _ _ => rfl)) pa_nil)))))) (pss_one (ps_ret (pe_lst (pa_cons (pe_ci T.NO_SUCH_VALUE (by rfl)) pa_nil)))) pss_nil)
   (pss_one (ps_ret (pe_fn ok_text_answer (hr.mono (by decide)) (by rfl) (pa_cons (PE.or (pe_mt (pe_ix ix_list (pe_fld (pv 0) rfl) (pe_ix ix_list (pv 1) pe_int (fun _ _ => rfl)) (fun _ _ => rfl)) om_NumberForm_written (hr.mono (by decide)) (pa_cons (pe_tup (pa_cons (pe_ci T.DATE_KIND (by rfl)) (pa_cons (pe_ix ix_list (pv 1) pe_int (fun _ _ => rfl)) (pa_cons (pe_ix ix_list (pv 1) pe_int (fun _ _ => rfl)) (pa_cons (pe_ix ix_list (pv 1) pe_int (fun _ _ => rfl)) pa_nil))))) pa_nil)) (pe_mt (pe_ix ix_list (pe_fld (pv 0) rfl) (pe_ix ix_list (pv 1) pe_int (fun _ _ => rfl)) (fun _ _ => rfl)) om_DateForm_written (hr.mono (by decide)) (pa_cons (pe_tup (pa_cons (pe_ci T.DATE_KIND (by rfl)) (pa_cons (pe_ix ix_list (pv 1) pe_int (fun _ _ => rfl)) (pa_cons (pe_ix ix_list (pv 1) pe_int (fun _ _ => rfl)) (pa_cons (pe_ix ix_list (pv 1) pe_int (fun _ _ => rfl)) pa_nil))))) pa_nil))) pa_nil)))))), ?_⟩
  walk_at "S"
  simp only [← exists_or, ← and_or_left, hdd]
  walk_at "S"
  refine ⟨dk_no pf e (by decide +kernel) (by decide +kernel), _, sqL_of hn, _, rfl, d, e, exs, i, rfl, hd, ?_⟩
  have ek : Vaflxm.answerOf ⟨exs⟩ (.date i y m dd) = Vaflxm.withForm i fun f => if Vaflxm.goodDate y m dd then Vaflxm.textOr1 (Vaflxm.writeIn f (.date y.toNat m.toNat dd.toNat)) else [-3] := rfl
  rw [ek] at k
  unfold Vaflxm.withForm at k
  cases hf : Vaflxm.formAt i with
  | none =>
   rw [hf] at k
   walk_at "S"
   exact ⟨by omega, fun p hp => k p _ (same_new hp) hp upd_same⟩
  | some g =>
   rw [hf] at k
   dsimp only at k
   walk_at "S"
   refine ⟨_, sqL_of hn, _, rfl, _, sqL_of hn, _, rfl, _, sqL_of hn, _, rfl, y, m, dd, rfl, ?_⟩
   cases hg : Vaflxm.goodDate y m dd with
   | false =>
    rw [hg] at k
    walk_at "S"
    exact ⟨by omega, fun p hp => k p _ (same_new hp) hp upd_same⟩
   | true =>
    rw [hg, if_pos rfl] at k
    walk_at "S"
    obtain ⟨y1, y2, m1, m2, d1, d2⟩ := (Tm.goodDate_iff y m dd).mp hg
    have ov : okV (.date y.toNat m.toNat dd.toNat) := by
     show Vaflxm.isDate y.toNat m.toNat dd.toNat = true
     rw [Tm.isDate_iff]
     omega
    have ev : vv (.date y.toNat m.toNat dd.toNat) = [.int 1, .int y, .int m, .int dd] := by
     simp only [vv, Vaflxm.valueNumbers, List.map_cons, List.map_nil, Vaflxm.nat]
     rw [show (y.toNat : Int) = y by omega, show (m.toNat : Int) = m by omega, show (dd.toNat : Int) = dd by omega]
    obtain ⟨as, a, q1, q2, q3, q4⟩ := desk_form (C := C) hF hf
    refine ⟨_, dx, _, hdd, N.cl, N.forms, _, dk_forms pf e, _, sqL_of hn, _, rfl, pf, rfl, _, i, rfl, sqL_of q1, _, q2, a, rfl, ?_⟩
    have fin := fun H1 (s1 : Same H H1) => res_text (H1 := H1) s1 (fun t z => write_small g _ t q4 ov z) k
    obtain ⟨dx2, h⟩ := q3
    cases g with
    | num g =>
     refine ⟨dx2, _, .inl ⟨h, nf_no g (by decide +kernel) (by decide +kernel) (by decide +kernel) (by decide +kernel), _, sqL_of hn, _, rfl, _, sqL_of hn, _, rfl, _, sqL_of hn, _, rfl, by omega, fun p hp => ?_⟩⟩
     exact ⟨a, p, g, .date _ _ _, rfl, ⟨dx2, same_new hp _ _ h⟩, q4, sqT_of (by rw [upd_same, ev]), ov, fin _ (same_new hp)⟩
    | date g =>
     refine ⟨dx2, _, .inr ⟨h, df_no g (by decide +kernel) (by decide +kernel) (by decide +kernel) (by decide +kernel), _, sqL_of hn, _, rfl, _, sqL_of hn, _, rfl, _, sqL_of hn, _, rfl, by omega, fun p hp => ?_⟩⟩
     exact ⟨a, p, g, .date _ _ _, rfl, ⟨dx2, same_new hp _ _ h⟩, q4, sqT_of (by rw [upd_same, ev]), ov, fin _ (same_new hp)⟩
def W_convert : List Int → List Vaflxm.Text → Vaflxm.Call → Prop := fun ns ts c => ∃ i j t, ns = [i, j] ∧ ts = [t] ∧ c = .convert i j t
abbrev s_answer_convert : Stmt := top 84
theorem sc_answer_convert : FnScope ["desk", "numbers", "rows"] ["desk", "numbers", "rows"] (defScope s_answer_convert) := by walk_at "N"
theorem ok_answer_convert (T : Txt K mg) (N : CK K C.desk) (D : Def K mg "answer_convert" s_answer_convert ["desk", "numbers", "rows"]) (om_Desk_has_form : Om P w K mg base C.desk 1 "has_form" ["self", "number"] (sp_Desk_has_form C))
  (ok_text_answer : Ok P w K mg base 1 "text_answer" ["text"] sp_text_answer) (ok_converted : Ok P w K mg base 6 "converted" ["source", "target", "text"] (sp_converted K C.num C.date)) : Ok P w K mg base 7 "answer_convert" ["desk", "numbers", "rows"] (spC C W_convert) := by
 refine D.ok sc_answer_convert (fun vs H Q E h => ?_) (fun f cdv A outer s H vs Q E hr h => ?_)
 ·obtain ⟨d, n, r, e, exs, ns, ts, c, rfl, _⟩ := h
  rfl
 ·obtain ⟨d, n, r, e, exs, ns, ts, c, rfl, hd, hn, hr0, ⟨i, j, t, rfl, rfl, rfl⟩, h10, k⟩ := h
  have hs9 := sizeLine_eq
  have k := After.rd k hd
  obtain ⟨dx, pf, hdd, nfe, hF, hE⟩ := id hd
  obtain ⟨rs, ra, r1, r2, r3⟩ := row_at hr0 0 rfl
  refine ⟨_, (pss_cons (ps_if (pw_or (pt_not (pt_val (pe_mt (pv 0) om_Desk_has_form (hr.mono (by decide)) (pa_cons (pe_ix ix_list (pv 1) pe_int (fun _ _ => rfl)) pa_nil)))) (pw_or1 (pt_not (pt_val (pe_mt (pv 0) om_Desk_has_form (hr.mono (by decide)) (pa_cons (pe_ix ix_list (pv 1) pe_int (fun _ _ => rfl)) pa_nil)))))).pt (pss_one (ps_ret (pe_lst (pa_cons (pe_ci T.NO_SUCH_FORM (by rfl)) pa_nil)))) pss_nil)
   (pss_one (ps_ret (pe_fn ok_text_answer (hr.mono (by decide)) (by rfl) (pa_cons (pe_fn ok_converted (hr.mono (by decide)) (by rfl) (pa_cons (pe_ix ix_list (pe_fld (pv 0) rfl) (pe_ix ix_list (pv 1) pe_int (fun _ _ => rfl)) (fun _ _ => rfl)) (pa_cons (pe_ix ix_list (pe_fld (pv 0) rfl) (pe_ix ix_list (pv 1) pe_int (fun _ _ => rfl)) (fun _ _ => rfl)) (pa_cons (pe_ix ix_list (pv 2) pe_int (fun _ _ => rfl)) pa_nil)))) pa_nil))))), ?_⟩
  walk_at "S"
  simp only [hdd]
  walk_at "S"
  refine ⟨dk_no pf e (by decide +kernel) (by decide +kernel), _, sqL_of hn, _, rfl, d, e, exs, i, rfl, hd, ?_⟩
  have ek : Vaflxm.answerOf ⟨exs⟩ (.convert i j t) = Vaflxm.withForm i fun f => Vaflxm.withForm j fun g => Vaflxm.textOr1 (Vaflxm.convert f g t) := rfl
  rw [ek] at k
  unfold Vaflxm.withForm at k
  cases hf : Vaflxm.formAt i with
  | none =>
   rw [hf] at k
   walk_at "S"
   exact ⟨by omega, fun p hp => k p _ (same_new hp) hp upd_same⟩
  | some g =>
   rw [hf] at k
   dsimp only at k
   walk_at "S"
   refine ⟨_, _, hdd, dk_no pf e (by decide +kernel) (by decide +kernel), _, sqL_of hn, _, rfl, d, e, exs, j, rfl, hd, ?_⟩
   cases hf2 : Vaflxm.formAt j with
   | none =>
    rw [hf2] at k
    walk_at "S"
    exact ⟨by omega, fun p hp => k p _ (same_new hp) hp upd_same⟩
   | some g2 =>
    rw [hf2] at k
    dsimp only at k
    walk_at "S"
    obtain ⟨as, a, q1, q2, q3, q4⟩ := desk_form (C := C) hF hf
    obtain ⟨bs, b, z1, z2, z3, z4⟩ := desk_form (C := C) hF hf2
    refine ⟨_, dx, _, hdd, N.cl, N.forms, _, dk_forms pf e, _, sqL_of hn, _, rfl, pf, rfl, _, i, rfl, sqL_of q1, _, q2, _, dx, _, hdd, N.cl, N.forms, _, dk_forms pf e, _, sqL_of hn, _, rfl, pf, rfl, _, j, rfl, sqL_of z1, _, z2, _, sqL_of r1, _, r2, a, b, ra, g, g2, t, rfl, q3, z3, q4, z4, sqL_of r3, ?_⟩
    exact res_text (fun _ _ z => z) (fun u z => convert_small g g2 t u q4 z4 z) k
def W_day : List Int → List Vaflxm.Text → Vaflxm.Call → Prop := fun ns ts c => ∃ y m d, ns = [y, m, d] ∧ ts = [] ∧ c = .day y m d
abbrev s_answer_day : Stmt := top 86
theorem sc_answer_day : FnScope ["desk", "numbers", "rows", "number"] ["desk", "numbers", "rows"] (defScope s_answer_day) := by walk_at "N"
theorem ok_answer_day (T : Txt K mg) (D : Def K mg "answer_day" s_answer_day ["desk", "numbers", "rows"])
  (ok_is_date : Ok P w K mg base 3 "is_date" ["year", "month", "day"] sp_is_date) (ok_day_number : Ok P w K mg base 3 "day_number" ["year", "month", "day"] sp_day_number) (ok_weekday : Ok P w K mg base 1 "weekday" ["number"] sp_weekday) : Ok P w K mg base 6 "answer_day" ["desk", "numbers", "rows"] (spC C W_day) := by
 refine D.ok sc_answer_day (fun vs H Q E h => ?_) (fun f cdv A outer s H vs Q E hr h => ?_)
 ·obtain ⟨d, n, r, e, exs, ns, ts, c, rfl, _⟩ := h
  rfl
 ·obtain ⟨d, n, r, e, exs, ns, ts, c, rfl, hd, hn, hr0, ⟨y, m, dd, rfl, rfl, rfl⟩, h10, k⟩ := h
  have hs9 := sizeLine_eq
  have k := After.rd k hd
  refine ⟨_, (pss_cons (ps_if (pt_not (pt_val (pe_fn ok_is_date (hr.mono (by decide)) (by rfl) (pa_cons (pe_ix ix_list (pv 1) pe_int (fun _ _ => rfl)) (pa_cons (pe_ix ix_list (pv 1) pe_int (fun _ _ => rfl)) (pa_cons (pe_ix ix_list (pv 1) pe_int (fun _ _ => rfl)) pa_nil)))))) (pss_one (ps_ret (pe_lst (pa_cons (pe_ci T.NO_SUCH_VALUE (by rfl)) pa_nil)))) pss_nil)
   (pss_cons (ps_set (i := 3) sc_answer_day.nd rfl (Or.inl rfl) (pe_fn ok_day_number (hr.mono (by decide)) (by rfl) (pa_cons (pe_ix ix_list (pv 1) pe_int (fun _ _ => rfl)) (pa_cons (pe_ix ix_list (pv 1) pe_int (fun _ _ => rfl)) (pa_cons (pe_ix ix_list (pv 1) pe_int (fun _ _ => rfl)) pa_nil)))))
   (pss_one (ps_ret (pe_lst (pa_cons (pe_ci T.DONE (by rfl)) (pa_cons (pv 3) (pa_cons (pe_fn ok_weekday (hr.mono (by decide)) (by rfl) (pa_cons (pv 3) pa_nil)) pa_nil)))))))), ?_⟩
  walk_at "S"
  refine ⟨_, sqL_of hn, _, rfl, _, sqL_of hn, _, rfl, _, sqL_of hn, _, rfl, y, m, dd, rfl, ?_⟩
  have ek : Vaflxm.answerOf ⟨exs⟩ (.day y m dd) = if Vaflxm.goodDate y m dd then [0, Vaflxm.nat (Vaflxm.dayNumber y.toNat m.toNat dd.toNat), Vaflxm.nat ((Vaflxm.dayNumber y.toNat m.toNat dd.toNat + 6) % 7)] else [-3] := rfl
  rw [ek] at k
  cases hg : Vaflxm.goodDate y m dd with
  | false =>
   rw [hg] at k
   walk_at "S"
   exact ⟨by omega, fun p hp => k p _ (same_new hp) hp upd_same⟩
  | true =>
   rw [hg, if_pos rfl] at k
   walk_at "S"
   obtain ⟨y1, y2, m1, m2, d1, d2⟩ := (Tm.goodDate_iff y m dd).mp hg
   refine ⟨_, sqL_of hn, _, rfl, _, sqL_of hn, _, rfl, _, sqL_of hn, _, rfl, y.toNat, m.toNat, dd.toNat, ?_, by omega, by omega, by omega, _, rfl, by omega, fun p hp => k p _ (same_new hp) hp ?_⟩
   ·rw [show (y.toNat : Int) = y by omega, show (m.toNat : Int) = m by omega, show (dd.toNat : Int) = dd by omega]
   ·rw [upd_same]
    have e7 : ((Vaflxm.dayNumber y.toNat m.toNat dd.toNat : Nat) : Int) - 1 = ((Vaflxm.dayNumber y.toNat m.toNat dd.toNat : Nat) : Int) + 6 - 7 := by omega
    have e8 : (((Vaflxm.dayNumber y.toNat m.toNat dd.toNat : Nat) : Int) - 1) % 7 = Vaflxm.nat ((Vaflxm.dayNumber y.toNat m.toNat dd.toNat + 6) % 7) := by
     unfold Vaflxm.nat
     omega
    rw [e8]
    rfl
def W_dateof : List Int → List Vaflxm.Text → Vaflxm.Call → Prop := fun ns ts c => ∃ n, ns = [n] ∧ ts = [] ∧ c = .dateOf n
abbrev s_answer_dateof : Stmt := top 87
theorem sc_answer_dateof : FnScope ["desk", "numbers", "rows"] ["desk", "numbers", "rows"] (defScope s_answer_dateof) := by walk_at "N"
theorem ok_answer_dateof (T : Txt K mg) (D : Def K mg "answer_dateof" s_answer_dateof ["desk", "numbers", "rows"])
  (ok_is_day_number : Ok P w K mg base 1 "is_day_number" ["number"] sp_is_day_number) (ok_date_of_day : Ok P w K mg base 3 "date_of_day" ["number"] sp_date_of_day) : Ok P w K mg base 6 "answer_dateof" ["desk", "numbers", "rows"] (spC C W_dateof) := by
 refine D.ok sc_answer_dateof (fun vs H Q E h => ?_) (fun f cdv A outer s H vs Q E hr h => ?_)
 ·obtain ⟨d, n, r, e, exs, ns, ts, c, rfl, _⟩ := h
  rfl
 ·obtain ⟨d, n, r, e, exs, ns, ts, c, rfl, hd, hn, hr0, ⟨m, rfl, rfl, rfl⟩, h10, k⟩ := h
  have hs9 := sizeLine_eq
  have k := After.rd k hd
  refine ⟨_, (pss_cons (ps_if (pt_not (pt_val (pe_fn ok_is_day_number (hr.mono (by decide)) (by rfl) (pa_cons (pe_ix ix_list (pv 1) pe_int (fun _ _ => rfl)) pa_nil)))) (pss_one (ps_ret (pe_lst (pa_cons (pe_ci T.NO_SUCH_DAY (by rfl)) pa_nil)))) pss_nil)
   (pss_one (ps_ret (pe_op op_cat (pe_lst (pa_cons (pe_ci T.DONE (by rfl)) pa_nil)) (pe_callTy call_list_of (by rfl) T.n_list boot_list (pa_cons (pe_fn ok_date_of_day (hr.mono (by decide)) (by rfl) (pa_cons (pe_ix ix_list (pv 1) pe_int (fun _ _ => rfl)) pa_nil)) pa_nil)))))), ?_⟩
  walk_at "S"
  refine ⟨_, sqL_of hn, _, rfl, m, rfl, ?_⟩
  have ek : Vaflxm.answerOf ⟨exs⟩ (.dateOf m) = if Vaflxm.within 1 (Vaflxm.nat Vaflxm.MOST_DAY) m then [0, Vaflxm.nat (Vaflxm.dateOf m.toNat).1, Vaflxm.nat (Vaflxm.dateOf m.toNat).2.1, Vaflxm.nat (Vaflxm.dateOf m.toNat).2.2] else [-7] := rfl
  rw [ek] at k
  cases hg : Vaflxm.within 1 (Vaflxm.nat Vaflxm.MOST_DAY) m with
  | false =>
   rw [hg] at k
   walk_at "S"
   exact ⟨by omega, fun p hp => k p _ (same_new hp) hp upd_same⟩
  | true =>
    rw [hg, if_pos rfl] at k
    walk_at "S"
    have hb := day_in hg
    refine ⟨by omega, fun q hq => ?_⟩
    have s1 : Same H (upd H q (.lst [.int 0])) := same_new hq
    refine ⟨_, sqL_of (s1 _ _ hn), _, rfl, m.toNat, by rw [show (m.toNat : Int) = m by omega], by omega, by unfold Vaflxm.MOST_DAY; omega, fun p hp => ?_⟩
    have s2 : Same (upd H q (.lst [.int 0])) _ := same_new (o := .tup [V.int ((Vaflxm.dateOf m.toNat).1 : Nat), V.int ((Vaflxm.dateOf m.toNat).2.1 : Nat), V.int ((Vaflxm.dateOf m.toNat).2.2 : Nat)]) hp
    refine ⟨p, rfl, _, .inr (sqT_of upd_same), fun l hl => ?_⟩
    have s3 := same_new (o := .lst [V.int ((Vaflxm.dateOf m.toNat).1 : Nat), V.int ((Vaflxm.dateOf m.toNat).2.1 : Nat), V.int ((Vaflxm.dateOf m.toNat).2.2 : Nat)]) hl
    refine ⟨_, s3 _ _ (s2 _ _ upd_same), _, upd_same, by simp; omega, fun z hz => ?_⟩
    have hz0 : H z = none := ((s1.trans s2).trans s3).free hz
    refine k z _ (((s1.trans s2).trans s3).put hz0) hz0 ?_
    rw [upd_same]
    rfl
end
def fitsTo (t : Vaflxm.Text) (j : Nat) : List Int := ((Vaflxm.forms.zipIdx.take j).filter fun x => (Vaflxm.readIn x.1 t).isSome).map fun x => ((x.2 : Nat) : Int)
theorem fits_all (t : Vaflxm.Text) : (Vaflxm.fitting [t]).map (fun x => Vaflxm.nat x.1) = fitsTo t Vaflxm.forms.length := by
 unfold Vaflxm.fitting fitsTo
 rw [List.take_of_length_le (by simp), List.filter_map, List.map_map]
 congr 1
 congr 1
 funext x
 simp
theorem fits_step (t : Vaflxm.Text) (j : Nat) (f : Vaflxm.Form) (h : Vaflxm.forms[j]? = some f) : fitsTo t (j + 1) = fitsTo t j ++ if (Vaflxm.readIn f t).isSome then [(j : Int)] else [] := by
 have e : Vaflxm.forms.zipIdx[j]? = some (f, j) := by simp [h]
 unfold fitsTo
 rw [take_one e, List.filter_append, List.map_append]
 congr 1
 by_cases q : (Vaflxm.readIn f t).isSome = true
 ·rw [if_pos q]; simp [q]
 ·rw [if_neg q]; simp [q]
theorem fits_len (t : Vaflxm.Text) (j : Nat) : (fitsTo t j).length ≤ 273 := by
 unfold fitsTo
 rw [List.length_map]
 refine Nat.le_trans (List.length_filter_le _ _) ?_
 rw [List.length_take, List.length_zipIdx, forms_len]
 omega
section
variable {P : Program} {w : World} {K : PySem.W.Frag} {mg : Str → Option Value} {base : Heap} {C : Cs}
def W_fits : List Int → List Vaflxm.Text → Vaflxm.Call → Prop := fun ns ts c => ∃ t, ns = [] ∧ ts = [t] ∧ c = .fits t
abbrev s_answer_fits : Stmt := top 85
theorem sc_answer_fits : FnScope ["desk", "numbers", "rows", "answer", "number", "form"] ["desk", "numbers", "rows"] (defScope s_answer_fits) := by walk_at "N"
theorem ok_answer_fits (T : Txt K mg) (N : CK K C.desk) (D : Def K mg "answer_fits" s_answer_fits ["desk", "numbers", "rows"])
  (om_NumberForm_value_read : Om P w K mg base C.num 3 "value_read" ["self", "text"] (sp_NumberForm_value_read K C.num)) (om_DateForm_value_read : Om P w K mg base C.date 5 "value_read" ["self", "text"] (sp_DateForm_value_read K C.date)) : Ok P w K mg base 6 "answer_fits" ["desk", "numbers", "rows"] (spC C W_fits) := by
 refine D.ok sc_answer_fits (fun vs H Q E h => ?_) (fun f cdv A outer s H vs Q E hr h => ?_)
 ·obtain ⟨d, n, r, e, exs, ns, ts, c, rfl, _⟩ := h
  rfl
 ·obtain ⟨d, n, r, e, exs, ns, ts, c, rfl, hd, hn, hr0, ⟨t, rfl, rfl, rfl⟩, h10, k⟩ := h
  have hs9 := sizeLine_eq
  have k := After.rd k hd
  obtain ⟨dx, pf, hdd, nfe, ⟨as, q1, q2, q3⟩, hE⟩ := id hd
  obtain ⟨rs, ra, r1, r2, r3⟩ := row_at hr0 0 rfl
  refine ⟨_, (pss_cons (ps_set (i := 3) sc_answer_fits.nd rfl (Or.inl rfl) (pe_lst (pa_cons (pe_ci T.DONE (by rfl)) pa_nil)))
   (pss_cons (ps_for PassesOwn.never rfl (pi_enum (by rfl) T.n_enumerate (pa_cons (pe_fld (pv 0) rfl) pa_nil)) (pg_tup (n := 2) rfl (pgs_cons (pg_name (i := 4) sc_answer_fits.nd rfl (Or.inl rfl)) (pgs_cons (pg_name (i := 5) sc_answer_fits.nd rfl (Or.inl rfl)) pgs_nil))) (pss_one (ps_if (pt_cmpR op_notN (PE.or (pe_mt (pv 5) om_NumberForm_value_read (hr.mono (by decide)) (pa_cons (pe_ix ix_list (pv 2) pe_int (fun _ _ => rfl)) pa_nil)) (pe_mt (pv 5) om_DateForm_value_read (hr.mono (by decide)) (pa_cons (pe_ix ix_list (pv 2) pe_int (fun _ _ => rfl)) pa_nil))) pe_non (nomark _)) (pss_one (ps_expr (pe_bm PySem.F.plainAttrs_list PySem.F.slot_list_append PySem.F.type_list_append mt_append (pv 3) (pa_cons (pv 4) pa_nil)))) pss_nil)))
   (pss_one (ps_ret (pv 3))))), ?_⟩
  walk_at "S"
  refine ⟨by omega, fun p hp => ⟨_, dx, _, same_new hp _ _ hdd, N.cl, N.forms, _, dk_forms pf e, pf, rfl, ⟨_, sqL_of (same_new hp _ _ q1)⟩, ?_⟩⟩
  obtain ⟨Po, hPo⟩ : ∃ Po : Nat → L2.St → Hp → Prop, Po = fun i σ H' => ∃ v4 v5, σ = [some (.ref d), some (.ref n), some (.ref r), some (.ref p), v4, v5] ∧ Same H H' ∧ H' p = some (.lst ((0 :: fitsTo t i).map V.int)) := ⟨_, rfl⟩
  refine for_enum (xs := as.map V.ref) Po ?_ (fun i σ H' _ h => ?_) (fun i x σ H' T' hx h hT => ?_) (fun σ H' h => ?_)
  ·rw [hPo]
   exact ⟨none, none, rfl, same_new hp, upd_same⟩
  ·rw [hPo] at h
   obtain ⟨v4, v5, rfl, s1, _⟩ := h
   exact sqL_of (s1 _ _ q1)
  ·rw [hPo] at h
   obtain ⟨v4, v5, rfl, s1, hp1⟩ := h
   have hi : i < as.length := by
    have := (List.getElem?_eq_some_iff.mp hx).1
    simpa using this
   have hif : i < Vaflxm.forms.length := by rw [← q2]; exact hi
   rw [List.getElem?_map, List.getElem?_eq_getElem hi] at hx
   have hx := (Option.some.inj hx).symm
   subst hx
   have q4 := q3 i as[i] _ (List.getElem?_eq_getElem hi) (List.getElem?_eq_getElem hif)
   have hwf := forms_wf _ (List.getElem_mem hif)
   have s2 : Same H (upd H' T' (.tup [.int (i : Nat), .ref as[i]])) := s1.put (s1.free hT)
   have s2' : Same H' (upd H' T' (.tup [.int (i : Nat), .ref as[i]])) := same_new hT
   walk_at "S"
   simp only [← exists_or, ← and_or_left]
   refine ⟨_, sqT_of upd_same, rfl, _, _, rfl, _, _, rfl, rfl, ?_⟩
   walk_at "S"
   refine or_args (rd_form (q4.same s2) hwf (sqL_of (s2 _ _ r3)) ?_) (fun z => ⟨_, sqL_of (s2 _ _ r1), _, r2, z⟩) (fun z => ⟨_, sqL_of (s2 _ _ r1), _, r2, z⟩)
   have st := fits_step t i _ (List.getElem?_eq_getElem hif)
   cases hv : Vaflxm.readIn (Vaflxm.forms[i]) t with
   | none =>
    intro H3 s3
    rw [hPo]
    rw [hv] at st
    simp
    refine ⟨s2.trans s3, ?_⟩
    rw [st]
    simpa using s3 _ _ (s2' _ _ hp1)
   | some v =>
    intro q H3 s3 hq hq3
    rw [hPo]
    rw [hv] at st
    simp
    have hp3 := s3 _ _ (s2' _ _ hp1)
    refine ⟨tyL_of (sqL_of hp3), _, hp3, ?_, (s2.trans s3).put hp, ?_⟩
    ·have := fits_len t i
     simp
     omega
    ·rw [upd_same, st]
     simp
  ·rw [hPo] at h
   obtain ⟨v4, v5, rfl, s1, hp1⟩ := h
   walk_at "S"
   refine k p H' s1 hp ?_
   rw [hp1]
   have e1 : Vaflxm.answerOf ⟨exs⟩ (.fits t) = 0 :: (Vaflxm.fitting [t]).map (fun x => Vaflxm.nat x.1) := rfl
   rw [e1, fits_all, List.length_map, q2]
end
section
variable {σ : L2.St} {H : Hp} {Q : VK} {P : Program} {w : World} {td ty tx : TE} {K : PySem.W.Frag}
theorem ap_tDNewN : tDNewN P w σ H Q = ∀ p, H p = none → Q (.ref p) (upd H p (DN P w p [])) := rfl
theorem ap_tSetDef : tSetDef P w td ty tx σ H Q = td σ H fun x H1 => ∃ a, x = .ref a ∧ (∃ kvs, H1 a = some (DN P w a kvs)) ∧ ty σ H1 fun y H2 => tx σ H2 fun z H3 => ∃ b ks kvs, y = .ref b ∧ NKeyAt H3 b ks ∧ H3 a = some (DN P w a kvs) ∧
 (∀ p ∈ kvs, NKeyAt H3 p.2.1 p.1) ∧ kvs.length < sizeLine ∧ (∀ v, valN kvs ks = some v → Q v H3) ∧ (valN kvs ks = none → Q z (upd H3 a (DN P w a (kvs ++ [(ks, b, z)])))) := rfl
theorem ap_tGetN : tGetN P w td ty tx σ H Q = td σ H fun x H1 => ∃ a, x = .ref a ∧ (∃ kvs, H1 a = some (DN P w a kvs)) ∧ ty σ H1 fun y H2 => tx σ H2 fun z H3 => ∃ b ks kvs, y = .ref b ∧ NKeyAt H3 b ks ∧ H3 a = some (DN P w a kvs) ∧
 (∀ p ∈ kvs, NKeyAt H3 p.2.1 p.1) ∧ Q ((valN kvs ks).getD z) H3 := rfl
theorem ap_tDGet2 : tDGet2 td ty tx σ H Q = td σ H fun x H1 => ∃ a, x = .ref a ∧ IsD H1 a ∧ ty σ H1 fun y H2 => tx σ H2 fun z H3 => ∃ o, DGet H3 a y o ∧ Q (o.getD z) H3 := rfl
theorem ap_tDNewT : tDNewT σ H Q = ∀ p, H p = none → Q (.ref p) (upd H p (.dT [])) := rfl
theorem ap_rAll {vs : List V} : rAll K vs H Q = ∃ (a : Addr) (bs : List Bool), vs = [V.ref a] ∧ SqL K H a (bs.map V.bl) ∧ Q (.bl (bs.all id)) H := rfl
end
section
variable {CX : CXT} {P : Program} {w : World} {K : PySem.W.Frag} {mg : Str → Option Value} {base : Heap} {N : List Str} {qual : Str} {scope : Scope} {f : Addr} {cd : Value} {A : Around} {outer : List Env} {s : Shared} {H : Hp} {E : XK}
theorem cx_prog : (cxOf CX P w K mg base N qual scope f cd A outer s H E).prog = P := rfl
theorem cx_w : (cxOf CX P w K mg base N qual scope f cd A outer s H E).w = w := rfl
end
local macro_rules | `(tactic| walk_at "S") => do
 let w := fun (s : String) => (s.splitOn " ").toArray.map fun x => Lean.mkIdent x.toName
 let a := w "ap_tVar ap_tC ap_tOp ap_tUn ap_rI ap_rI0 ap_rU ap_rEq ap_rNe ap_tTest ap_tB ap_tChain ap_tAnd ap_tOr ap_tNot ap_tAndV ap_tOrV ap_tNotV ap_tNext ap_tSeq ap_tDrop ap_tRet ap_tRetN ap_tIfS ap_gName ap_tAsg ap_tNil ap_tCons ap_tTup ap_tLst ap_tCall ap_tCB ap_tCT ap_rIxL ap_rIxT ap_scal ap_CDiv ap_CMul L2.start List.map_cons List.map_nil List.length_cons List.length_nil List.cons_append List.nil_append List.append_nil List.getElem?_cons_zero List.getElem?_cons_succ List.set_cons_zero List.set_cons_succ Option.some.injEq V.int.injEq V.bl.injEq V.ref.injEq V.str.injEq exists_eq_left exists_eq_left' exists_eq_right exists_and_left true_and and_true decide_eq_true_eq Nat.reduceAdd Nat.reduceSub List.reduceReplicate Bool.not_eq_true' decide_eq_false_iff_not List.cons.injEq and_self reduceCtorEq ap_tFor ap_tLc ap_iList ap_iTup ap_iRng1 ap_iRng2 ap_iEnum ap_iStr cx_K if_false if_true Bool.false_eq_true"
 let b := w "and_assoc ap_tBM ap_tBM0 ap_tyS ap_tYes ap_tMeth ap_tMake ap_tFld ap_sFld ap_tSl ap_tNoPart ap_tPart ap_rSlL ap_rAppend ap_rExtend ap_rCat ap_rEqD ap_rNeD ap_gTup ap_gNil ap_gCons HO.ins.injEq HO.lst.injEq HO.tup.injEq exists_and_right ap_iEnumT ap_iZipT ap_tCTT ap_rSlS ap_tDGet ap_sDPut ap_tDisp ap_tPairs0 ap_tPairs1 ap_tDNewK ap_tVal ap_iItemsT ap_rExtT ap_tDNewN ap_tSetDef ap_tGetN ap_tDGet2 ap_tDNewT ap_rAll cx_prog cx_w ap_rCatT ap_rPopAt ap_rSum ap_tIf"
 `(tactic| simp only [$[$a:ident],*, ↓reduceIte, $[$b:ident],*])
theorem sq_same {K : PySem.W.Frag} {H H' : Hp} {a : Addr} {xs : List V} (e : Same H H') (h : SqL K H a xs) : SqL K H' a xs := by
 rcases h with (h | ⟨o, h⟩) | h
 ·exact .inl (.inl (e _ _ h))
 ·exact .inl (.inr ⟨o, e _ _ h⟩)
 ·exact .inr h
section
variable {P : Program} {w : World} {K : PySem.W.Frag} {mg : Str → Option Value} {base : Heap} {C : Cs}
def sp_may_be_example (K : PySem.W.Frag) : Sp := fun vs H Q _ => ∃ (a : Addr) (t : Vaflxm.Text), vs = [.ref a] ∧ SqL K H a (tv t) ∧ ∀ H', Same H H' → Q (.bl (Vaflxm.goodText t)) H'
abbrev s_may_be_example : Stmt := top 37
theorem sc_may_be_example : FnScope ["text", "sign"] ["text"] (defScope s_may_be_example) := by walk_at "N"
theorem ok_may_be_example (T : Txt K mg) (D : Def K mg "may_be_example" s_may_be_example ["text"]) : Ok P w K mg base 1 "may_be_example" ["text"] (sp_may_be_example K) := by
 refine D.ok sc_may_be_example (fun vs H Q E h => ?_) (fun f cdv A outer s H vs Q E hr h => ?_)
 ·obtain ⟨a, t, rfl, _⟩ := h
  rfl
 ·obtain ⟨a, t, rfl, ha, k⟩ := h
  have hs9 := sizeLine_eq
  have hl : (tv t).length = t.length := by simp [tv]
  refine ⟨_, (pss_cons (ps_if (pt_cmpR op_gt (pe_callB call_len_seq (by rfl) T.n_len boot_len (pa_cons (pv 0) pa_nil)) (pe_ci T.LONGEST_TEXT (by rfl)) (nomark _)) (pss_one (ps_ret pe_bl)) pss_nil)
   (pss_one (ps_ret (pe_callB (cr_all rfl) (by rfl) T.n_all boot_all (pa_cons (pe_lc rfl sc_may_be_example.nd (pi_list (pv 0)) (blkOk_by (own := [("sign", 1)]) (by show blkC ["text", "sign"] (defScope s_may_be_example) _ _ = true; decide +kernel)) (fun _ _ _ _ _ => (pg_name (i := 1) sc_may_be_example.nd rfl (Or.inl rfl))) (fun _ _ _ _ _ => pts_nil) (fun _ _ _ _ _ => (pe_chain op_le op_le (pe_ci T.FIRST_SIGN (by rfl)) (pv 1) (pe_ci T.LAST_SIGN (by rfl))))) pa_nil))))), ?_⟩
  walk_at "S"
  refine ⟨_, .inl ha, ?_⟩
  rw [hl]
  split
  ·rename_i h40
   have e : Vaflxm.goodText t = false := by
    unfold Vaflxm.goodText Vaflxm.MOST_TEXT
    rw [Bool.and_eq_false_iff]
    left
    simp
    omega
   rw [e] at k
   exact k H fun _ _ z => z
  ·rename_i h40
   refine ⟨⟨_, ha⟩, ?_⟩
   have hb : ∀ c : UInt8, Vaflxm.isByte c = (decide (32 ≤ ((c.toNat : Nat) : Int)) && decide (((c.toNat : Nat) : Int) ≤ 126)) := fun c => by
    unfold Vaflxm.isByte
    have e1 : (32 ≤ c) ↔ (32 ≤ ((c.toNat : Nat) : Int)) := by
     rw [UInt8.le_iff_toNat_le]
     show 32 ≤ c.toNat ↔ _
     omega
    have e2 : (c ≤ 126) ↔ (((c.toNat : Nat) : Int) ≤ 126) := by
     rw [UInt8.le_iff_toNat_le]
     show c.toNat ≤ 126 ↔ _
     omega
    rw [decide_eq_decide.mpr e1, decide_eq_decide.mpr e2]
   refine lc_pure (steps_list K a (tv t)) (fun i => .bl ((t.map Vaflxm.isByte).getD i false)) (by rw [hl]; omega) (fun H' s => sq_same s ha) (fun i H' R hi s r => ?_) (fun D hD => ?_)
   ·obtain ⟨c, hc, ec⟩ := item_of (l := t) (g := fun c : UInt8 => V.int (c.toNat : Nat)) (show i < t.length by rw [← hl]; exact hi)
    have ec : (tv t).getD i .non = V.int (c.toNat : Nat) := ec
    have e3 : (t.map Vaflxm.isByte).getD i false = Vaflxm.isByte c := by simp [List.getD, hc]
    rw [e3, hb] at r
    rw [ec]
    walk_at "S"
    refine ⟨rfl, _, rfl, _, rfl, ?_⟩
    split
    ·rename_i h1
     refine ⟨_, rfl, ?_⟩
     rw [decide_eq_true h1, Bool.true_and] at r
     exact r
    ·rename_i h1
     rw [decide_eq_false h1, Bool.false_and] at r
     exact r
   ·refine ⟨D, rfl, t.map Vaflxm.isByte, sqL_of ?_, ?_⟩
    ·rw [upd_same]
     congr 2
     apply List.ext_getElem?
     intro i
     by_cases hi : i < t.length
     ·simp [hl, hi]
     ·simp [hl, hi]
    ·have e : Vaflxm.goodText t = (t.map Vaflxm.isByte).all id := by
      unfold Vaflxm.goodText Vaflxm.MOST_TEXT
      rw [List.all_map, decide_eq_true (by omega), Bool.true_and]
      rfl
     rw [← e]
     exact k _ (same_new hD)
def tRd (K : PySem.W.Frag) (A B : Addr) (j : Nat) : TE := fun σ H Q => (∃ v, σ[4]? = some (some v) ∧ ∃ a, v = V.ref a ∧ ∃ x x_1, H a = some (HO.ins A x x_1) ∧ List.lookup ("value_read" : Str) x_1 = none ∧ ∃ v_1, σ[j]? = some (some v_1) ∧ sp_NumberForm_value_read K A [v, v_1] H Q E0) ∨
 ∃ v, σ[4]? = some (some v) ∧ ∃ a, v = V.ref a ∧ ∃ x x_1, H a = some (HO.ins B x x_1) ∧ List.lookup ("value_read" : Str) x_1 = none ∧ ∃ v_1, σ[j]? = some (some v_1) ∧ sp_DateForm_value_read K B [v, v_1] H Q E0
theorem lc_read {v0 v1 v2 v3 : Option V} {j : Nat} {f c : Addr} {t : Vaflxm.Text} {H : Hp} {Q : VK} (hj : ∀ x, [v0, v1, v2, v3, x][j]? = some (some (.ref c))) (hF : FormsAt C.num C.date H f Vaflxm.forms) (hc : SqL K H c (tv t))
  (k : ∀ D H', H D = none → Same H H' → ValsAt H' D (readsOf t) → Q (.ref D) H') : lcJ (Itl K f) (gName 4) tYes (tRd K C.num C.date j) [4] [v0, v1, v2, v3, none] H Q := by
 have hs9 := sizeLine_eq
 obtain ⟨as, q1, q2, q3⟩ := hF
 refine lc_by (steps_list K f (as.map V.ref)) fun D hD => ?_
 obtain ⟨Pv, hPv⟩ : ∃ Pv : Nat → Hp → Prop, Pv = fun i H' => ∃ vs : List V, Same H H' ∧ H' D = some (.lst vs) ∧ vs.length = i ∧ ∀ (n : Nat) (v : V) (g : Vaflxm.Form), vs[n]? = some v → Vaflxm.forms[n]? = some g → ValAt H' v (Vaflxm.readIn g t) := ⟨_, rfl⟩
 refine ⟨Pv, ?_, fun i H' _ h => ?_, fun i H' hi h => ?_, fun H' h => ?_⟩
 ·rw [hPv]
  exact ⟨[], same_new hD, upd_same, rfl, fun n v g z => by simp at z⟩
 ·rw [hPv] at h
  obtain ⟨vs, s1, _⟩ := h
  exact sqL_of (s1 _ _ q1)
 ·have hi : i < as.length := by simpa using hi
  have hif : i < Vaflxm.forms.length := by rw [← q2]; exact hi
  have hi2 : i < 273 := by rw [← forms_len]; exact hif
  have hwf := forms_wf _ (List.getElem_mem hif)
  have q4 := q3 i as[i] _ (List.getElem?_eq_getElem hi) (List.getElem?_eq_getElem hif)
  have ei : (as.map V.ref).getD i .non = .ref as[i] := by simp [List.getD, hi]
  rw [ei]
  have h' := h
  rw [hPv] at h'
  obtain ⟨vs, s1, hD1, hl, hv⟩ := h'
  refine ⟨rfl, ?_⟩
  show tRd K C.num C.date j [v0, v1, v2, v3, some (.ref as[i])] H' _
  have step : ∀ (y : V) (H4 : Hp), Same H' H4 → ValAt H4 y (Vaflxm.readIn Vaflxm.forms[i] t) → ∃ acc, H4 D = some (.lst acc) ∧ acc.length < sizeLine ∧ Pv (i + 1) (upd H4 D (.lst (acc ++ [y]))) := fun y H4 s4 hy => by
   have hD4 := s4 _ _ hD1
   refine ⟨vs, hD4, by omega, ?_⟩
   rw [hPv]
   have tp : ∀ b xs, H4 b = some (.tup xs) → upd H4 D (.lst (vs ++ [y])) b = some (.tup xs) := fun b xs z => by
    rw [upd_ne (ne_of z hD4 (by intro w; cases w))]
    exact z
   refine ⟨vs ++ [y], (s1.trans s4).put hD, upd_same, by simp [hl], fun n v g z1 z2 => ?_⟩
   by_cases hn : n < vs.length
   ·rw [List.getElem?_append_left hn] at z1
    exact ((hv n v g z1 z2).same fun b xs z => s4 _ _ z).same tp
   ·have en : n = i := by
     have := (List.getElem?_eq_some_iff.mp z1).1
     simp at this
     omega
    subst en
    rw [List.getElem?_append_right (by omega), hl, Nat.sub_self] at z1
    have ey : y = v := Option.some.inj z1
    rw [List.getElem?_eq_getElem hif] at z2
    have eg := Option.some.inj z2
    subst ey eg
    exact hy.same tp
  have res : ResV H' (Vaflxm.readIn Vaflxm.forms[i] t) fun y H4 => ∃ acc, H4 D = some (.lst acc) ∧ acc.length < sizeLine ∧ Pv (i + 1) (upd H4 D (.lst (acc ++ [y]))) := by
   cases hv : Vaflxm.readIn Vaflxm.forms[i] t with
   | none => exact fun H4 s4 => step .non H4 s4 (by rw [hv]; rfl)
   | some v => exact fun q H4 s4 hq h4 => step (.ref q) H4 s4 (by rw [hv]; exact ⟨q, rfl, h4⟩)
  rcases rd_form (K := K) (q4.same s1) hwf (sq_same s1 hc) res with ⟨x, y, z1, z2, z3⟩ | ⟨x, y, z1, z2, z3⟩
  ·exact .inl ⟨_, rfl, _, rfl, x, y, z1, z2, _, hj _, z3⟩
  ·exact .inr ⟨_, rfl, _, rfl, x, y, z1, z2, _, hj _, z3⟩
 ·rw [hPv] at h
  obtain ⟨vs, s1, hD1, hl, hv⟩ := h
  refine k D H' hD s1 ⟨vs, hD1, by rw [hl]; simp [readsOf, q2], fun n v o z1 z2 => ?_⟩
  unfold readsOf at z2
  rw [List.getElem?_map] at z2
  cases e : Vaflxm.forms[n]? with
  | none => rw [e] at z2; cases z2
  | some g =>
   rw [e] at z2
   have := Option.some.inj z2
   subst this
   exact hv n v g z1 e
def sp_Example_init (K : PySem.W.Frag) (C : Cs) : Sp := fun vs H Q _ => ∃ (p dx f a b : Addr) (t u : Vaflxm.Text), vs = [.ref p, .ref f, .ref a, .ref b] ∧ H p = some (.ins C.ex dx []) ∧ FormsAt C.num C.date H f Vaflxm.forms ∧ SqL K H a (tv t) ∧ SqL K H b (tv u) ∧
 ∀ H' l1 l2, H' p = some (.ins C.ex dx (exF l1 l2)) → H l1 = none → H l2 = none → ValsAt H' l1 (readsOf t) → ValsAt H' l2 (readsOf u) → (∀ b o, H b = some o → b ≠ p → H' b = some o) → Q .non H'
structure CE (K : PySem.W.Frag) (C : Addr) : Prop where
 cl : Cls K C
 source_values : NoAttr K C "source_values"
 target_values : NoAttr K C "target_values"
abbrev s_Example_init : Stmt := inClass (top 38) 0
theorem sc_Example_init : FnScope ["self", "forms", "source", "target", "form"] ["self", "forms", "source", "target"] (defScope s_Example_init) := by walk_at "N"
theorem ok_Example_init (N : CE K C.ex) (D : Idef K mg C.ex "Example" "Example.__init__" s_Example_init ["self", "forms", "source", "target"])
  (om_NumberForm_value_read : Om P w K mg base C.num 3 "value_read" ["self", "text"] (sp_NumberForm_value_read K C.num)) (om_DateForm_value_read : Om P w K mg base C.date 5 "value_read" ["self", "text"] (sp_DateForm_value_read K C.date)) : Oc P w K mg base C.ex 6 "Example" ["self", "forms", "source", "target"] (sp_Example_init K C) := by
 refine D.ok sc_Example_init (fun vs H Q E h => ?_) (fun f cdv A outer s H vs Q E hr h => ?_)
 ·obtain ⟨p, dx, f, a, b, t, u, rfl, _⟩ := h
  rfl
 ·obtain ⟨p, dx, f, a, b, t, u, rfl, hp, hF, ha, hb, k⟩ := h
  refine ⟨_, (pss_cons (ps_fld (pv 0) (pe_lc rfl sc_Example_init.nd (pi_list (pv 1)) (blkOk_by (own := [("form", 4)]) (by show blkC ["self", "forms", "source", "target", "form"] (defScope s_Example_init) _ _ = true; decide +kernel)) (fun _ _ _ _ _ => (pg_name (i := 4) sc_Example_init.nd rfl (Or.inl rfl))) (fun _ _ _ _ _ => pts_nil) (fun _ _ _ _ _ => (PE.or (pe_mt (pv 4) om_NumberForm_value_read (hr.mono (by decide)) (pa_cons (pv 2) pa_nil)) (pe_mt (pv 4) om_DateForm_value_read (hr.mono (by decide)) (pa_cons (pv 2) pa_nil))))) rfl)
   (pss_one (ps_fld (pv 0) (pe_lc rfl sc_Example_init.nd (pi_list (pv 1)) (blkOk_by (own := [("form", 4)]) (by show blkC ["self", "forms", "source", "target", "form"] (defScope s_Example_init) _ _ = true; decide +kernel)) (fun _ _ _ _ _ => (pg_name (i := 4) sc_Example_init.nd rfl (Or.inl rfl))) (fun _ _ _ _ _ => pts_nil) (fun _ _ _ _ _ => (PE.or (pe_mt (pv 4) om_NumberForm_value_read (hr.mono (by decide)) (pa_cons (pv 3) pa_nil)) (pe_mt (pv 4) om_DateForm_value_read (hr.mono (by decide)) (pa_cons (pv 3) pa_nil))))) rfl))), ?_⟩
  walk_at "S"
  refine ⟨let ⟨as, q, _⟩ := hF; ⟨_, sqL_of q⟩, ?_⟩
  refine lc_read (C := C) (j := 2) (fun _ => rfl) hF ha fun D1 H1 n1 s1 v1 => ?_
  have hp1 := s1 _ _ hp
  have l1 := length_putF "source_values" (.ref D1) []
  rw [List.length_nil] at l1
  refine ⟨C.ex, dx, [], hp1, N.cl, N.source_values, by decide, ?_⟩
  obtain ⟨H2, hH2⟩ : ∃ H2, H2 = upd H1 p (.ins C.ex dx (putF "source_values" (.ref D1) [])) := ⟨_, rfl⟩
  rw [← hH2]
  have hp2 : H2 p = some (.ins C.ex dx (putF "source_values" (.ref D1) [])) := by rw [hH2]; exact upd_same
  have k2 : ∀ b o, H1 b = some o → b ≠ p → H2 b = some o := fun b o z hb => by rw [hH2, upd_ne hb]; exact z
  have hF2 : FormsAt C.num C.date H2 f Vaflxm.forms := by
   obtain ⟨as, q1, q2, q3⟩ := hF
   refine ⟨as, k2 _ _ (s1 _ _ q1) (ne_of q1 hp (by intro z; cases z)), q2, fun i a g z1 z2 => ?_⟩
   obtain ⟨dx2, z⟩ := q3 i a g z1 z2
   refine ⟨dx2, k2 _ _ (s1 _ _ z) fun y => ?_⟩
   rw [y, hp] at z
   have w1 := Option.some.inj z
   injection w1 with _ _ w2
   cases g with
   | num g => have y2 := nf_width g; rw [show nfF g = [] from w2.symm] at y2; cases y2
   | date g => have y2 := df_order g; rw [show dfF g = [] from w2.symm] at y2; cases y2
  have lst2 : ∀ c xs, SqL K H c xs → SqL K H2 c xs := fun c xs z => by
   rcases z with (z | ⟨o, z⟩) | z
   ·exact .inl (.inl (k2 _ _ (s1 _ _ z) (ne_of z hp (by intro w; cases w))))
   ·exact .inl (.inr ⟨o, k2 _ _ (s1 _ _ z) (ne_of z hp (by intro w; cases w))⟩)
   ·exact .inr z
  refine ⟨let ⟨as, q, _⟩ := hF2; ⟨_, sqL_of q⟩, ?_⟩
  refine lc_read (C := C) (j := 3) (fun _ => rfl) hF2 (lst2 _ _ hb) fun D2 H3 n3 s3 v3 => ?_
  have hp3 := s3 _ _ hp2
  refine ⟨C.ex, dx, _, hp3, N.cl, N.target_values, by omega, ?_⟩
  have back : ∀ b o, H b = some o → b ≠ p → upd H3 p (.ins C.ex dx (exF D1 D2)) b = some o := fun b o z hb => by
   rw [upd_ne hb]
   exact s3 _ _ (k2 _ _ (s1 _ _ z) hb)
  have n3' : H D2 = none := by
   cases q : H D2 with
   | none => rfl
   | some o =>
    by_cases hb : D2 = p
    ·rw [hb, hp2] at n3; cases n3
    ·rw [k2 _ _ (s1 _ _ q) hb] at n3; cases n3
  have tp : ∀ b xs, H3 b = some (.tup xs) → upd H3 p (.ins C.ex dx (exF D1 D2)) b = some (.tup xs) := fun b xs z => by
   rw [upd_ne (ne_of z hp3 (by intro w; cases w))]
   exact z
  refine k _ D1 D2 upd_same n1 n3' ?_ ?_ back
  ·obtain ⟨vs, z1, z2, z3⟩ := v1
   have ne : D1 ≠ p := ne_of z1 hp1 (by intro w; cases w)
   refine ⟨vs, ?_, z2, fun i v o w1 w2 => ((z3 i v o w1 w2).same fun b xs y => s3 _ _ (k2 _ _ y (ne_of y hp1 (by intro w; cases w)))).same tp⟩
   rw [upd_ne ne]
   exact s3 _ _ (k2 _ _ z1 ne)
  ·obtain ⟨vs, z1, z2, z3⟩ := v3
   have ne : D2 ≠ p := ne_of z1 hp3 (by intro w; cases w)
   refine ⟨vs, ?_, z2, fun i v o w1 w2 => (z3 i v o w1 w2).same tp⟩
   rw [upd_ne ne]
   exact z1
end
theorem val_key {H : Hp} {v : V} {f : Vaflxm.Form} {t : Vaflxm.Text} {vs : List V} {ks : NK} (h : ValAt H v (Vaflxm.readIn f t)) (r : NVals H vs ks) : NVals H (v :: vs) (Tm.key f t :: ks) := by
 unfold Tm.key
 cases e : Vaflxm.readIn f t with
 | none =>
  rw [e] at h
  have h : v = .non := h
  subst h
  exact .non r
 | some x =>
  rw [e] at h
  obtain ⟨a, rfl, h⟩ := h
  exact .tup h r
theorem cols {C : Cs} {H : Hp} {e : Addr} {i : Nat} {f : Vaflxm.Form} (hf : Vaflxm.forms[i]? = some f) : ∀ (as : List Addr) (exs : List (Vaflxm.Text × Vaflxm.Text)), as.length = exs.length → (∀ (k : Nat) (a : Addr) (x : Vaflxm.Text × Vaflxm.Text), as[k]? = some a → exs[k]? = some x → ExAt C H e a x) →
  ∃ us vs : List V, us.length = exs.length ∧ vs.length = exs.length ∧ (∀ (k : Nat) (a : Addr), as[k]? = some a → ∃ dx p q l1 l2 u v, H a = some (.ins C.ex dx (exF p q)) ∧ H p = some (.lst l1) ∧ H q = some (.lst l2) ∧ l1[i]? = some u ∧ l2[i]? = some v ∧ us[k]? = some u ∧ vs[k]? = some v) ∧
   NVals H us (exs.map fun x => Tm.key f x.1) ∧ NVals H vs (exs.map fun x => Tm.key f x.2)
 | [], [], _, _ => ⟨[], [], rfl, rfl, fun k a h => by simp at h, .nil, .nil⟩
 | a :: as, x :: exs, hl, h => by
  obtain ⟨us, vs, h1, h2, h3, h4, h5⟩ := cols hf as exs (by simpa using hl) fun k b y z1 z2 => h (k + 1) b y (by simpa using z1) (by simpa using z2)
  obtain ⟨dx, p, q, e1, _, _, ⟨l1, p1, p2, p3⟩, l2, q1, q2, q3⟩ := h 0 a x rfl rfl
  have hi : i < Vaflxm.forms.length := (List.getElem?_eq_some_iff.mp hf).1
  have i1 : i < l1.length := by rw [p2]; simpa [readsOf] using hi
  have i2 : i < l2.length := by rw [q2]; simpa [readsOf] using hi
  have r1 : (readsOf x.1)[i]? = some (Vaflxm.readIn f x.1) := by unfold readsOf; rw [List.getElem?_map, hf]; rfl
  have r2 : (readsOf x.2)[i]? = some (Vaflxm.readIn f x.2) := by unfold readsOf; rw [List.getElem?_map, hf]; rfl
  have v1 := p3 i _ _ (List.getElem?_eq_getElem i1) r1
  have v2 := q3 i _ _ (List.getElem?_eq_getElem i2) r2
  refine ⟨l1[i] :: us, l2[i] :: vs, by simp [h1], by simp [h2], fun k b hb => ?_, val_key v1 h4, val_key v2 h5⟩
  cases k with
  | zero =>
   have : a = b := by simpa using hb
   subst this
   exact ⟨dx, p, q, l1, l2, l1[i], l2[i], e1, p1, q1, List.getElem?_eq_getElem i1, List.getElem?_eq_getElem i2, rfl, rfl⟩
  | succ k =>
   obtain ⟨dx, p, q, l1, l2, u, v, z1, z2, z3, z4, z5, z6, z7⟩ := h3 k b (by simpa using hb)
   exact ⟨dx, p, q, l1, l2, u, v, z1, z2, z3, z4, z5, by simpa using z6, by simpa using z7⟩
 | [], x :: exs, hl, _ => by simp at hl
 | a :: as, [], hl, _ => by simp at hl
theorem valN_snoc {kvs : List NE} {ks : NK} {b : Addr} {z : V} (h : valN kvs ks = none) (ks' : NK) : valN (kvs ++ [(ks, b, z)]) ks' = if ks' = ks then some z else valN kvs ks' := by
 have e : valN (kvs ++ [(ks, b, z)]) ks' = (match kvs.find? fun kv => decide (kv.1 = ks') with
  | some kv => some kv.2.2
  | none => if ks = ks' then some z else none) := by
  unfold valN
  rw [List.find?_append]
  cases kvs.find? fun kv => decide (kv.1 = ks') with
  | some kv => rfl
  | none =>
   by_cases q : ks = ks'
   ·simp [q]
   ·simp [q]
 rw [e]
 by_cases q : ks' = ks
 ·subst q
  rw [if_pos rfl]
  unfold valN at h
  cases e2 : kvs.find? fun kv => decide (kv.1 = ks') with
  | some kv => rw [e2] at h; cases h
  | none => simp
 ·rw [if_neg q]
  unfold valN
  cases e2 : kvs.find? fun kv => decide (kv.1 = ks') with
  | some kv => rfl
  | none =>
   have q' : ¬ ks = ks' := fun z => q z.symm
   simp [q']
def natsV (l : List Nat) : List V := l.map fun j => V.int (j : Nat)
structure ByT (P : Program) (w : World) (exs : List (Vaflxm.Text × Vaflxm.Text)) (H : Hp) (p : Addr) (n : Nat) (kvs : List NE) : Prop where
 dict : H p = some (DN P w p kvs)
 keys : ∀ q ∈ kvs, NKeyAt H q.2.1 q.1
 len : kvs.length ≤ n
 no : ∀ ks, valN kvs ks = none → Tm.hits exs ks n = []
 yes : ∀ ks v, valN kvs ks = some v → ∃ l, v = .ref l ∧ H l = some (.lst (natsV (Tm.hits exs ks n)))
theorem ByT.same {P : Program} {w : World} {exs : List (Vaflxm.Text × Vaflxm.Text)} {H H' : Hp} {p : Addr} {n : Nat} {kvs : List NE} (h : ByT P w exs H p n kvs) (s : Same H H') : ByT P w exs H' p n kvs where
 dict := s _ _ h.dict
 keys := fun q hq => (h.keys q hq).same fun b ys z => s _ _ z
 len := h.len
 no := h.no
 yes := fun ks v z => by
  obtain ⟨l, e, q⟩ := h.yes ks v z
  exact ⟨l, e, s _ _ q⟩
theorem ByT.old {P : Program} {w : World} {exs : List (Vaflxm.Text × Vaflxm.Text)} {H : Hp} {p l : Addr} {n : Nat} {kvs : List NE} (h : ByT P w exs H p n kvs) (inj : ∀ ks ks' v, valN kvs ks = some v → valN kvs ks' = some v → ks = ks') (hv : valN kvs (Tm.keyT exs n) = some (.ref l)) (hl : H l = some (.lst (natsV (Tm.hits exs (Tm.keyT exs n) n)))) :
  ByT P w exs (upd H l (.lst (natsV (Tm.hits exs (Tm.keyT exs n) n) ++ [.int (n : Nat)]))) p (n + 1) kvs where
 dict := by
  rw [upd_ne (ne_of h.dict hl (by intro z; cases z))]
  exact h.dict
 keys := fun q hq => (h.keys q hq).same fun b ys z => by
  rw [upd_ne (ne_of z hl (by intro y; cases y))]
  exact z
 len := Nat.le_succ_of_le h.len
 no := fun ks z => by
  have ne : ¬ Tm.keyT exs n = ks := fun y => by rw [y, z] at hv; cases hv
  rw [Tm.hits_succ, h.no ks z, if_neg ne]
  rfl
 yes := fun ks v z => by
  obtain ⟨l', e, q⟩ := h.yes ks v z
  subst e
  refine ⟨l', rfl, ?_⟩
  rw [Tm.hits_succ]
  by_cases y : Tm.keyT exs n = ks
  ·subst y
   rw [hv] at z
   cases z
   rw [upd_same, if_pos rfl]
   simp [natsV]
  ·have ne : l' ≠ l := fun x => y (inj _ _ _ hv (x ▸ z))
   rw [upd_ne ne, if_neg y, List.append_nil]
   exact q
theorem ByT.new {P : Program} {w : World} {exs : List (Vaflxm.Text × Vaflxm.Text)} {H : Hp} {p l b : Addr} {n : Nat} {kvs : List NE} (h : ByT P w exs H p n kvs) (hv : valN kvs (Tm.keyT exs n) = none) (hb : NKeyAt H b (Tm.keyT exs n)) (hl : H l = some (.lst [])) (fresh : ∀ ks, valN kvs ks ≠ some (.ref l)) :
  ByT P w exs (upd (upd H p (DN P w p (kvs ++ [(Tm.keyT exs n, b, .ref l)]))) l (.lst [.int (n : Nat)])) p (n + 1) (kvs ++ [(Tm.keyT exs n, b, .ref l)]) where
 dict := by
  rw [upd_ne (ne_of h.dict hl (by intro z; cases z)), upd_same]
 keys := fun q hq => by
  have tp : ∀ c ys, H c = some (.tup ys) → upd (upd H p (DN P w p (kvs ++ [(Tm.keyT exs n, b, .ref l)]))) l (.lst [.int (n : Nat)]) c = some (.tup ys) := fun c ys z => by
   rw [upd_ne (ne_of z hl (by intro y; cases y)), upd_ne (ne_of z h.dict (by intro y; cases y))]
   exact z
  rcases List.mem_append.mp hq with hq | hq
  ·exact (h.keys q hq).same tp
  ·rw [List.mem_singleton.mp hq]
   exact hb.same tp
 len := by
  rw [List.length_append]
  exact Nat.succ_le_succ h.len
 no := fun ks z => by
  rw [valN_snoc hv] at z
  split at z
  ·cases z
  ·rename_i ne
   rw [Tm.hits_succ, h.no ks z, if_neg (fun y => ne y.symm)]
   rfl
 yes := fun ks v z => by
  rw [valN_snoc hv] at z
  split at z
  ·rename_i e
   cases z
   subst e
   refine ⟨l, rfl, ?_⟩
   rw [upd_same, Tm.hits_succ, h.no _ hv, if_pos rfl]
   rfl
  ·rename_i ne
   obtain ⟨l', e, q⟩ := h.yes ks v z
   subst e
   refine ⟨l', rfl, ?_⟩
   have n1 : l' ≠ l := fun x => fresh ks (x ▸ z)
   have n2 : l' ≠ p := ne_of q h.dict (by intro y; cases y)
   rw [upd_ne n1, upd_ne n2, Tm.hits_succ, if_neg (fun y => ne y.symm), List.append_nil]
   exact q
theorem range_getD {vs : List V} {n : Nat} (h : vs.length = n) : (List.range n).map (fun k => vs.getD k .non) = vs := by
 apply List.ext_getElem?
 intro i
 by_cases hi : i < vs.length
 ·simp [← h, hi]
 ·have : n ≤ i := by omega
  simp [← h, hi]
theorem lc_col {K : PySem.W.Frag} {e : Addr} {as : List Addr} {fld : Str} {a b : Nat} {i : Int} {σ : L2.St} {H : Hp} {Q : VK} {vs : List V} (hl : as.length ≤ 1000) (ha : H e = some (.lst (as.map V.ref))) (hv : vs.length = as.length) (hs : a < σ.length) (hab : a ≠ b) (hb : σ[b]? = some (some (.int i)))
  (hc : ∀ (k : Nat) (x : Addr), as[k]? = some x → ∃ C dx fs q l v, H x = some (.ins C dx fs) ∧ Cls K C ∧ NoAttr K C fld ∧ fs.lookup fld = some (.ref q) ∧ H q = some (.lst l) ∧ atI l i = some v ∧ vs[k]? = some v) (k : ∀ D, H D = none → Q (.ref D) (upd H D (.lst vs))) :
  lcJ (Itl K e) (gName a) tYes (tOp (rIxL K) (tFld K (tVar a) fld) (tVar b)) [a] σ H Q := by
 have hs9 := sizeLine_eq
 refine lc_pure (steps_list K e (as.map V.ref)) (fun k => vs.getD k .non) (by simp; omega) (fun H' s => sqL_of (s _ _ ha)) (fun j H' R hj s r => ?_) (fun D hD => ?_)
 ·have hj : j < as.length := by simpa using hj
  have ei : (as.map V.ref).getD j .non = .ref as[j] := by simp [List.getD, hj]
  rw [ei]
  obtain ⟨C, dx, fs, q, l, v, z1, z2, z3, z4, z5, z6, z7⟩ := hc j as[j] (List.getElem?_eq_getElem hj)
  have ev : vs.getD j .non = v := by simp [List.getD, z7]
  simp only [wipe]
  walk_at "S"
  refine ⟨by rw [List.set_set, List.set_set], _, by rw [List.getElem?_set_self (by simpa using hs)], _, rfl, C, dx, fs, s _ _ z1, z2, z3, _, z4, _, ?_, q, rfl, l, i, rfl, sqL_of (s _ _ z5), v, z6, ev ▸ r⟩
  rw [List.getElem?_set_ne hab, List.getElem?_set_ne hab]
  exact hb
 ·have e2 := range_getD hv
  rw [List.length_map, e2]
  exact k D hD
section
variable {P : Program} {w : World} {K : PySem.W.Frag} {mg : Str → Option Value} {base : Heap} {C : Cs}
def sp_forms_by_targets (P : Program) (w : World) (C : Cs) : Sp := fun vs H Q _ => ∃ (e : Addr) (exs : List (Vaflxm.Text × Vaflxm.Text)), vs = [.ref e, .int 273] ∧ ExsAt C H e exs ∧ exs.length ≤ 10 ∧ ∀ p H' kvs, Same H H' → H p = none → ByT P w exs H' p Tm.count kvs → (∀ ks l, valN kvs ks = some (.ref l) → H l = none) → Q (.ref p) H'
abbrev s_forms_by_targets : Stmt := top 39
theorem sc_forms_by_targets : FnScope ["examples", "form_count", "found", "number", "values", "example"] ["examples", "form_count"] (defScope s_forms_by_targets) := by walk_at "N"
theorem ok_forms_by_targets (T : Txt K mg) (N : CE K C.ex) (D : Def K mg "forms_by_targets" s_forms_by_targets ["examples", "form_count"]) : Ok P w K mg base 1 "forms_by_targets" ["examples", "form_count"] (sp_forms_by_targets P w C) := by
 refine D.ok sc_forms_by_targets (fun vs H Q E h => ?_) (fun f cdv A outer s H vs Q E hr h => ?_)
 ·obtain ⟨e, exs, rfl, _⟩ := h
  rfl
 ·obtain ⟨e, exs, rfl, hE, h10, k⟩ := h
  have hs9 := sizeLine_eq
  obtain ⟨as, a1, a2, a3⟩ := hE
  refine ⟨_, (pss_cons (ps_set (i := 2) sc_forms_by_targets.nd rfl (Or.inl rfl) pe_dnewN)
   (pss_cons (ps_for PassesOwn.never rfl (pi_range1 (by rfl) T.n_range (pa_cons (pv 1) pa_nil)) (pg_name (i := 3) sc_forms_by_targets.nd rfl (Or.inr rfl)) (pss_cons (ps_set (i := 4) sc_forms_by_targets.nd rfl (Or.inl rfl) (pe_callTy call_tuple_of (by rfl) T.n_tuple boot_tuple (pa_cons (pe_lc rfl sc_forms_by_targets.nd (pi_list (pv 0)) (blkOk_by (own := [("example", 5)]) (by show blkC ["examples", "form_count", "found", "number", "values", "example"] (defScope s_forms_by_targets) _ _ = true; decide +kernel)) (fun _ _ _ _ _ => (pg_name (i := 5) sc_forms_by_targets.nd rfl (Or.inl rfl))) (fun _ _ _ _ _ => pts_nil) (fun _ _ _ _ _ => (pe_ixLK (K := K) (by rfl) (pe_fldK (K := K) (by rfl) (pv 5) (by rfl)) (pv 3) (by exact fun _ _ => rfl)))) pa_nil)))
   (pss_one (ps_expr (pe_bm PySem.F.plainAttrs_list PySem.F.slot_list_append PySem.F.type_list_append mt_append (pe_setdef hr.units (pv 2) (pv 4) (pe_lst pa_nil) ⟨rfl, rfl, rfl, rfl⟩) (pa_cons (pv 3) pa_nil))))))
   (pss_one (ps_ret (pv 2))))), ?_⟩
  walk_at "S"
  refine fun p hp => ⟨by decide, by decide, ?_⟩
  obtain ⟨Po, hPo⟩ : ∃ Po : Nat → L2.St → Hp → Prop, Po = fun i σ H' => ∃ v3 v4 v5 kvs, σ = [some (.ref e), some (.int 273), some (.ref p), v3, v4, v5] ∧ Same H H' ∧ ByT P w exs H' p i kvs ∧ (∀ ks ks' v, valN kvs ks = some v → valN kvs ks' = some v → ks = ks') ∧ (∀ ks l, valN kvs ks = some (.ref l) → H l = none) := ⟨_, rfl⟩
  refine for_by (steps_rng 0 273) Po ?_ (fun _ _ _ _ _ => trivial) ?_ ?_
  ·rw [hPo]
   exact ⟨none, none, none, [], rfl, same_new hp, ⟨upd_same, fun q hq => (by cases hq), Nat.zero_le _, fun ks _ => rfl, fun ks v z => (by cases z)⟩, fun _ _ _ z => (by cases z), fun _ _ z => (by cases z)⟩
  ·intro i σ H1 hi h
   rw [hPo] at h
   obtain ⟨v3, v4, v5, kvs, rfl, s1, hB, inj, new⟩ := h
   have hf := Tm.formN_at (i := i) hi
   walk_at "S"
   refine ⟨⟨_, sqL_of (s1 _ _ a1)⟩, ?_⟩
   obtain ⟨us, vs, c1, c2, c3, c4, c5⟩ := cols (C := C) (H := H1) (e := e) hf as exs a2 fun n a x z1 z2 => (a3 n a x z1 z2).same s1
   refine lc_col (as := as) (vs := vs) (i := (i : Int)) (by omega) (s1 _ _ a1) (by omega) (by show 5 < 6; omega) (by omega) (by simp) (fun n x hx => ?_) (fun D1 hD1 => ?_)
   ·obtain ⟨dx, p1, q1, l1, l2, u, v, z1, z2, z3, z4, z5, z6, z7⟩ := c3 n x hx
    exact ⟨C.ex, dx, _, q1, l2, v, z1, N.cl, N.target_values, ex_target p1 q1, z3, at_of (j := i) rfl z5, z7⟩
   ·refine ⟨D1, rfl, vs, .inl ⟨sqL_of upd_same, fun b hb => ?_⟩⟩
    obtain ⟨H2, hH2⟩ : ∃ H2, H2 = upd (upd H1 D1 (.lst vs)) b (.tup vs) := ⟨_, rfl⟩
    rw [← hH2]
    have s2 : Same H1 H2 := by rw [hH2]; exact (same_new hD1).trans (same_new hb)
    have hb2 : H2 b = some (.tup vs) := by rw [hH2]; exact upd_same
    refine ⟨⟨kvs, s2 _ _ hB.dict⟩, by omega, fun l0 hl0 => ?_⟩
    obtain ⟨H3, hH3⟩ : ∃ H3, H3 = upd H2 l0 (.lst []) := ⟨_, rfl⟩
    rw [← hH3]
    have s23 : Same H2 H3 := by rw [hH3]; exact same_new hl0
    have hl3 : H3 l0 = some (.lst []) := by rw [hH3]; exact upd_same
    have s3 : Same H1 H3 := s2.trans s23
    have hB3 := hB.same s3
    have hlt : (Tm.hits exs (Tm.keyT exs i) i).length ≤ 273 := Nat.le_trans (Tm.hits_len exs _ i) (by omega)
    have hk3 : NKeyAt H3 b (Tm.keyT exs i) := ⟨vs, s23 _ _ hb2, c5.same fun c ys z => s3 _ _ z⟩
    have h0 : H l0 = none := s1.free (s2.free hl0)
    have ei : (0 : Int) + (i : Int) = (i : Int) := by omega
    refine ⟨Tm.keyT exs i, hk3, kvs, hB3.dict, hB3.keys, by have := hB.len; omega, fun v hv => ?_, fun hv => ?_⟩
    ·obtain ⟨l, rfl, hl⟩ := hB3.yes _ v hv
     refine ⟨tyL_of (sqL_of hl), l, rfl, _, hl, by simp [natsV]; omega, ?_⟩
     rw [hPo, ei]
     exact ⟨_, _, _, kvs, rfl, ((s1.trans s3).put (new _ l hv)), hB3.old inj hv hl, inj, new⟩
    ·have hne : p ≠ l0 := ne_of hB3.dict hl3 (by intro z; cases z)
     have hl4 : upd H3 p (DN P w p (kvs ++ [(Tm.keyT exs i, b, V.ref l0)])) l0 = some (.lst []) := by rw [upd_ne (Ne.symm hne)]; exact hl3
     refine ⟨tyL_of (sqL_of hl4), _, hl4, by simp; omega, ?_⟩
     have fresh : ∀ ks, valN kvs ks ≠ some (.ref l0) := fun ks z => by
      obtain ⟨l, e1, q⟩ := hB.yes ks _ z
      cases e1
      rw [s2 _ _ q] at hl0
      cases hl0
     rw [hPo, ei]
     refine ⟨_, _, _, kvs ++ [(Tm.keyT exs i, b, V.ref l0)], rfl, ((s1.trans s3).put hp).put h0, hB3.new hv hk3 hl3 fresh, ?_, ?_⟩
     ·intro ks ks' v z1 z2
      rw [valN_snoc hv] at z1 z2
      split at z1
      ·rename_i w1
       cases z1
       split at z2
       ·rename_i w2
        rw [w1, w2]
       ·exact absurd z2 (fresh ks')
      ·split at z2
       ·cases z2
        exact absurd z1 (fresh ks)
       ·exact inj ks ks' v z1 z2
     ·intro ks l z1
      rw [valN_snoc hv] at z1
      split at z1
      ·cases z1
       exact h0
      ·exact new ks l z1
  ·intro σ H1 h
   rw [hPo] at h
   obtain ⟨v3, v4, v5, kvs, rfl, s1, hB, inj, new⟩ := h
   walk_at "S"
   exact k p H1 kvs s1 hp hB new
end
def TupsAt (H : Hp) (as : List Addr) (prs : List (Nat × Nat)) : Prop := as.length = prs.length ∧ ∀ (k : Nat) (a : Addr) (x : Nat × Nat), as[k]? = some a → prs[k]? = some x → H a = some (.tup [.int (x.1 : Nat), .int (x.2 : Nat)])
def PairsAt (H : Hp) (p : Addr) (prs : List (Nat × Nat)) : Prop := ∃ as : List Addr, H p = some (.lst (as.map V.ref)) ∧ TupsAt H as prs
theorem TupsAt.same {H H' : Hp} {as : List Addr} {prs : List (Nat × Nat)} (h : TupsAt H as prs) (s : ∀ b xs, H b = some (.tup xs) → H' b = some (.tup xs)) : TupsAt H' as prs := ⟨h.1, fun k a x z1 z2 => s _ _ (h.2 k a x z1 z2)⟩
theorem TupsAt.join {H : Hp} {as bs : List Addr} {prs qrs : List (Nat × Nat)} (h : TupsAt H as prs) (h2 : TupsAt H bs qrs) : TupsAt H (as ++ bs) (prs ++ qrs) := by
 refine ⟨by rw [List.length_append, List.length_append, h.1, h2.1], fun k a x z1 z2 => ?_⟩
 by_cases hk : k < as.length
 ·rw [List.getElem?_append_left hk] at z1
  rw [List.getElem?_append_left (by rw [← h.1]; exact hk)] at z2
  exact h.2 k a x z1 z2
 ·rw [List.getElem?_append_right (by omega)] at z1
  rw [List.getElem?_append_right (by rw [← h.1]; omega), ← h.1] at z2
  exact h2.2 _ a x z1 z2
theorem nvals_some {H : Hp} {vs : List V} {ks : NK} (h : NVals H vs ks) : (vs.map fun v => !decide (v = V.non)) = ks.map Option.isSome := by
 induction h with
 | nil => rfl
 | non _ ih => simp [ih]
 | tup _ _ ih => simp [ih]
section
variable {P : Program} {w : World} {K : PySem.W.Frag} {mg : Str → Option Value} {base : Heap} {C : Cs}
theorem lc_notNone {K : PySem.W.Frag} {b : Addr} {us : List V} {a : Nat} {σ : L2.St} {H : Hp} {Q : VK} (hl : us.length ≤ 1000) (hb : H b = some (.tup us)) (hs : a < σ.length) (k : ∀ D, H D = none → Q (.ref D) (upd H D (.lst ((us.map fun v => !decide (v = V.non)).map V.bl)))) :
  lcJ (Itt K b) (gName a) tYes (tOp (fun x y H Q => y = V.non ∧ Q (V.bl !decide (x = V.non)) H) (tVar a) (tC V.non)) [a] σ H Q := by
 have hs9 := sizeLine_eq
 refine lc_pure (steps_tup K b us) (fun i => .bl (!decide (us.getD i .non = V.non))) (by omega) (fun H' s => sqT_of (s _ _ hb)) (fun j H' R hj s r => ?_) (fun D hD => ?_)
 ·simp only [wipe]
  walk_at "S"
  exact ⟨by rw [List.set_set, List.set_set], _, by rw [List.getElem?_set_self (by simpa using hs)], r⟩
 ·have e : (List.range us.length).map (fun i => V.bl (!decide (us.getD i .non = V.non))) = (us.map fun v => !decide (v = V.non)).map V.bl := by
   have q := range_getD (vs := us) rfl
   have q2 := congrArg (List.map fun v => V.bl (!decide (v = V.non))) q
   rw [List.map_map] at q2
   rw [List.map_map]
   exact q2
  rw [e]
  exact k D hD
theorem lc_pairs {K : PySem.W.Frag} {a : Addr} {js : List Nat} {x y i : Nat} {σ : L2.St} {H : Hp} {Q : VK} (hl : js.length ≤ 1000) (ha : H a = some (.lst (natsV js))) (hs : x < σ.length) (hxy : x ≠ y) (hy : σ[y]? = some (some (.int (i : Nat))))
  (k : ∀ D H' (ps : List Addr), H D = none → Same H H' → H' D = some (.lst (ps.map V.ref)) → TupsAt H' ps (js.map fun j => (i, j)) → Q (.ref D) H') : lcJ (Itl K a) (gName x) tYes (tTup (tCons (tVar y) (tCons (tVar x) tNil))) [x] σ H Q := by
 have hs9 := sizeLine_eq
 have hnl : (natsV js).length = js.length := by simp [natsV]
 refine lc_by (steps_list K a (natsV js)) fun D hD => ?_
 obtain ⟨Pv, hPv⟩ : ∃ Pv : Nat → Hp → Prop, Pv = fun n H' => ∃ ps : List Addr, Same H H' ∧ H' D = some (.lst (ps.map V.ref)) ∧ TupsAt H' ps ((js.take n).map fun j => (i, j)) := ⟨_, rfl⟩
 refine ⟨Pv, ?_, fun n H' _ h => ?_, fun n H' hn h => ?_, fun H' h => ?_⟩
 ·rw [hPv]
  exact ⟨[], same_new hD, upd_same, rfl, fun n v g z => by simp at z⟩
 ·rw [hPv] at h
  obtain ⟨ps, s1, _⟩ := h
  exact sqL_of (s1 _ _ ha)
 ·obtain ⟨j, hj, ej⟩ := item_of (l := js) (g := fun j : Nat => V.int (j : Nat)) (show n < js.length by rw [← hnl]; exact hn)
  have ej : (natsV js).getD n .non = V.int (j : Nat) := ej
  rw [ej]
  have h' := h
  rw [hPv] at h'
  obtain ⟨ps, s1, hD1, htp⟩ := h'
  simp only [wipe]
  walk_at "S"
  refine ⟨by rw [List.set_set, List.set_set], _, by rw [List.getElem?_set_ne hxy, List.getElem?_set_ne hxy]; exact hy, _, by rw [List.getElem?_set_self (by simpa using hs)], by omega, fun q hq => ?_⟩
  have s2 : Same H' (upd H' q (.tup [.int (i : Nat), .int (j : Nat)])) := same_new hq
  have hD2 := s2 _ _ hD1
  have hq0 : H q = none := s1.free hq
  have hn : n < js.length := by rw [← hnl]; exact hn
  have hpl : ps.length = n := by rw [htp.1]; simp; omega
  refine ⟨_, hD2, by rw [List.length_map]; omega, ?_⟩
  rw [hPv]
  have tp : ∀ b xs, upd H' q (.tup [.int (i : Nat), .int (j : Nat)]) b = some (.tup xs) → upd (upd H' q (.tup [.int (i : Nat), .int (j : Nat)])) D (.lst (ps.map V.ref ++ [.ref q])) b = some (.tup xs) := fun b xs z => by
   rw [upd_ne (ne_of z hD2 (by intro w; cases w))]
   exact z
  refine ⟨ps ++ [q], (s1.trans s2).put hD, by rw [upd_same, List.map_append]; rfl, ?_⟩
  rw [take_one hj, List.map_append]
  refine ((htp.same fun b xs z => s2 _ _ z).same tp).join ⟨rfl, fun m c z w1 w2 => ?_⟩
  have em : m = 0 := by
   have := (List.getElem?_eq_some_iff.mp w1).1
   simp at this
   exact this
  subst em
  have e1 : q = c := Option.some.inj w1
  have e2 : (i, j) = z := Option.some.inj w2
  subst e1 e2
  exact tp _ _ upd_same
 ·rw [hPv] at h
  obtain ⟨ps, s1, hD1, htp⟩ := h
  rw [hnl, List.take_of_length_le (Nat.le_refl _)] at htp
  exact k D H' ps hD s1 hD1 htp
def TargsAt (B H : Hp) (p : Addr) (exs : List (Vaflxm.Text × Vaflxm.Text)) (n : Nat) : Prop := ∃ as : List Addr, H p = some (.lst (as.map V.ref)) ∧ as.length = n ∧ ∀ (i : Nat) (a : Addr), as[i]? = some a → a ≠ p ∧ B a = none ∧ H a = some (.lst (natsV (Tm.targs exs i)))
theorem TargsAt.snoc {B H : Hp} {p l : Addr} {exs : List (Vaflxm.Text × Vaflxm.Text)} {n : Nat} {as : List Addr} (h1 : H p = some (.lst (as.map V.ref))) (h2 : as.length = n) (h3 : ∀ (i : Nat) (a : Addr), as[i]? = some a → a ≠ p ∧ B a = none ∧ H a = some (.lst (natsV (Tm.targs exs i)))) (nl : l ≠ p) (bl : B l = none) (hl : H l = some (.lst (natsV (Tm.targs exs n)))) :
  TargsAt B (upd H p (.lst (as.map V.ref ++ [.ref l]))) p exs (n + 1) := by
 refine ⟨as ++ [l], by rw [upd_same, List.map_append]; rfl, by simp [h2], fun i a z => ?_⟩
 by_cases hi : i < as.length
 ·rw [List.getElem?_append_left hi] at z
  obtain ⟨w1, w3, w2⟩ := h3 i a z
  exact ⟨w1, w3, by rw [upd_ne w1]; exact w2⟩
 ·have en : i = as.length := by
   have := (List.getElem?_eq_some_iff.mp z).1
   simp at this
   omega
  subst en
  rw [List.getElem?_append_right (by omega), Nat.sub_self] at z
  have e1 : l = a := Option.some.inj z
  subst e1
  exact ⟨nl, bl, by rw [upd_ne nl, hl, h2]⟩
def sp_fitting_targets (C : Cs) : Sp := fun vs H Q _ => ∃ (e : Addr) (exs : List (Vaflxm.Text × Vaflxm.Text)), vs = [.ref e, .int 273] ∧ ExsAt C H e exs ∧ exs.length ≤ 10 ∧ ∀ p H', Same H H' → H p = none → TargsAt H H' p exs Tm.count → Q (.ref p) H'
abbrev s_fitting_targets : Stmt := top 40
theorem sc_fitting_targets : FnScope ["examples", "form_count", "by_targets", "fitting", "source", "values", "is_read", "example", "value"] ["examples", "form_count"] (defScope s_fitting_targets) := by walk_at "N"
theorem ok_fitting_targets (T : Txt K mg) (N : CE K C.ex) (D : Def K mg "fitting_targets" s_fitting_targets ["examples", "form_count"]) (ok_forms_by_targets : Ok P w K mg base 1 "forms_by_targets" ["examples", "form_count"] (sp_forms_by_targets P w C)) : Ok P w K mg base 2 "fitting_targets" ["examples", "form_count"] (sp_fitting_targets C) := by
 refine D.ok sc_fitting_targets (fun vs H Q E h => ?_) (fun f cdv A outer s H vs Q E hr h => ?_)
 ·obtain ⟨e, exs, rfl, _⟩ := h
  rfl
 ·obtain ⟨e, exs, rfl, hE, h10, k⟩ := h
  have hs9 := sizeLine_eq
  refine ⟨_, (pss_cons (ps_set (i := 2) sc_fitting_targets.nd rfl (Or.inl rfl) (pe_fn ok_forms_by_targets (hr.mono (by decide)) (by rfl) (pa_cons (pv 0) (pa_cons (pv 1) pa_nil))))
   (pss_cons (ps_set (i := 3) sc_fitting_targets.nd rfl (Or.inl rfl) (pe_lst pa_nil))
   (pss_cons (ps_for PassesOwn.never rfl (pi_range1 (by rfl) T.n_range (pa_cons (pv 1) pa_nil)) (pg_name (i := 4) sc_fitting_targets.nd rfl (Or.inr rfl)) (pss_cons (ps_set (i := 5) sc_fitting_targets.nd rfl (Or.inl rfl) (pe_callTy call_tuple_of (by rfl) T.n_tuple boot_tuple (pa_cons (pe_lc rfl sc_fitting_targets.nd (pi_list (pv 0)) (blkOk_by (own := [("example", 7)]) (by show blkC ["examples", "form_count", "by_targets", "fitting", "source", "values", "is_read", "example", "value"] (defScope s_fitting_targets) _ _ = true; decide +kernel)) (fun _ _ _ _ _ => (pg_name (i := 7) sc_fitting_targets.nd rfl (Or.inl rfl))) (fun _ _ _ _ _ => pts_nil) (fun _ _ _ _ _ => (pe_ixLK (K := K) (by rfl) (pe_fldK (K := K) (by rfl) (pv 7) (by rfl)) (pv 4) (by exact fun _ _ => rfl)))) pa_nil)))
   (pss_cons (ps_set (i := 6) sc_fitting_targets.nd rfl (Or.inl rfl) (pe_callB (cr_all rfl) (by rfl) T.n_all boot_all (pa_cons (pe_lc rfl sc_fitting_targets.nd (pi_tup (pv 5)) (blkOk_by (own := [("value", 8)]) (by show blkC ["examples", "form_count", "by_targets", "fitting", "source", "values", "is_read", "example", "value"] (defScope s_fitting_targets) _ _ = true; decide +kernel)) (fun _ _ _ _ _ => (pg_name (i := 8) sc_fitting_targets.nd rfl (Or.inl rfl))) (fun _ _ _ _ _ => pts_nil) (fun _ _ _ _ _ => (pe_cmpR op_notN (pv 8) pe_non (nomark _)))) pa_nil)))
   (pss_one (ps_expr (pe_bm PySem.F.plainAttrs_list PySem.F.slot_list_append PySem.F.type_list_append mt_append (pv 3) (pa_cons (pe_ifExp (pt_val (pv 6)) (pe_getN hr.units (pv 2) (pv 5) (pe_lst pa_nil) ⟨rfl, rfl, rfl, rfl⟩) (pe_lst pa_nil)) pa_nil)))))))
   (pss_one (ps_ret (pv 3)))))), ?_⟩
  walk_at "S"
  refine ⟨e, exs, rfl, hE, h10, fun d H0 kvs s0 hd hB new => ⟨Nat.zero_le _, fun p hp => ⟨by decide, by decide, ?_⟩⟩⟩
  obtain ⟨as, a1, a2, a3⟩ := hE
  have hp0 : H p = none := s0.free hp
  obtain ⟨Po, hPo⟩ : ∃ Po : Nat → L2.St → Hp → Prop, Po = fun i σ H' => ∃ v4 v5 v6 v7 v8, σ = [some (.ref e), some (.int 273), some (.ref d), some (.ref p), v4, v5, v6, v7, v8] ∧ Same H0 H' ∧ TargsAt H H' p exs i := ⟨_, rfl⟩
  refine for_by (steps_rng 0 273) Po ?_ (fun _ _ _ _ _ => trivial) ?_ ?_
  ·rw [hPo]
   exact ⟨none, none, none, none, none, rfl, same_new hp, [], upd_same, rfl, fun i a z => by simp at z⟩
  ·intro i σ H1 hi h
   rw [hPo] at h
   obtain ⟨v4, v5, v6, v7, v8, rfl, s1, ts, t1, t2, t3⟩ := h
   have hf := Tm.formN_at (i := i) hi
   walk_at "S"
   refine ⟨⟨_, sqL_of (s1 _ _ (s0 _ _ a1))⟩, ?_⟩
   obtain ⟨us, vs, c1, c2, c3, c4, c5⟩ := cols (C := C) (H := H1) (e := e) hf as exs a2 fun n a x z1 z2 => (a3 n a x z1 z2).same (s0.trans s1)
   refine lc_col (as := as) (vs := us) (i := (i : Int)) (by omega) (s1 _ _ (s0 _ _ a1)) (by omega) (by show 7 < 9; omega) (by omega) (by simp) (fun n x hx => ?_) (fun D1 hD1 => ?_)
   ·obtain ⟨dx, p1, q1, l1, l2, u, v, z1, z2, z3, z4, z5, z6, z7⟩ := c3 n x hx
    exact ⟨C.ex, dx, _, p1, l1, u, z1, N.cl, N.source_values, ex_source p1 q1, z2, at_of (j := i) rfl z4, z6⟩
   ·refine ⟨D1, rfl, us, .inl ⟨sqL_of upd_same, fun b hb => ?_⟩⟩
    obtain ⟨H2, hH2⟩ : ∃ H2, H2 = upd (upd H1 D1 (.lst us)) b (.tup us) := ⟨_, rfl⟩
    rw [← hH2]
    have s2 : Same H1 H2 := by rw [hH2]; exact (same_new hD1).trans (same_new hb)
    have hb2 : H2 b = some (.tup us) := by rw [hH2]; exact upd_same
    refine ⟨⟨_, sqT_of hb2⟩, ?_⟩
    refine lc_notNone (us := us) (by omega) hb2 (by show 8 < 9; omega) fun D2 hD2 => ⟨D2, rfl, _, sqL_of upd_same, ?_⟩
    obtain ⟨H3, hH3⟩ : ∃ H3, H3 = upd H2 D2 (.lst ((us.map fun v => !decide (v = V.non)).map V.bl)) := ⟨_, rfl⟩
    rw [← hH3]
    have s3 : Same H2 H3 := by rw [hH3]; exact same_new hD2
    have ew : (us.map fun v => !decide (v = V.non)).all id = Tm.whole (Tm.keyS exs i) := by
     rw [nvals_some c4, List.all_map]
     rfl
    rw [ew]
    have s13 : Same H1 H3 := s2.trans s3
    have t13 := s13 _ _ t1
    refine ⟨tyL_of (sqL_of t13), ?_⟩
    have hlt : ts.length < 274 := by omega
    split
    ·rename_i hw
     have et : Tm.targs exs i = Tm.hits exs (Tm.keyS exs i) Tm.count := if_pos hw
     have hB3 := hB.same (s1.trans s13)
     refine ⟨⟨kvs, hB3.dict⟩, Nat.zero_le _, fun l0 hl0 => ?_⟩
     obtain ⟨H4, hH4⟩ : ∃ H4, H4 = upd H3 l0 (.lst []) := ⟨_, rfl⟩
     rw [← hH4]
     have s4 : Same H3 H4 := by rw [hH4]; exact same_new hl0
     have hB4 := hB3.same s4
     have hk4 : NKeyAt H4 b (Tm.keyS exs i) := ⟨us, s4 _ _ (s3 _ _ hb2), c4.same fun c ys z => s4 _ _ (s13 _ _ z)⟩
     have hx : ∃ l, (valN kvs (Tm.keyS exs i)).getD (.ref l0) = .ref l ∧ H4 l = some (.lst (natsV (Tm.hits exs (Tm.keyS exs i) Tm.count))) ∧ l ≠ p ∧ H l = none := by
      cases hv : valN kvs (Tm.keyS exs i) with
      | none =>
       refine ⟨l0, rfl, ?_, fun z => ?_, s0.free (s1.free (s13.free hl0))⟩
       ·rw [hB4.no _ hv, hH4]
        exact upd_same
       ·rw [z, t13] at hl0
        cases hl0
      | some v =>
       obtain ⟨l, rfl, hl⟩ := hB.yes _ v hv
       exact ⟨l, rfl, s4 _ _ (s13 _ _ (s1 _ _ hl)), fun z => (by rw [z, hp] at hl; cases hl), new _ _ hv⟩
     obtain ⟨l, el, hl, nl, bl⟩ := hx
     refine ⟨Tm.keyS exs i, hk4, kvs, hB4.dict, hB4.keys, _, s4 _ _ t13, by rw [List.length_map]; omega, ?_⟩
     rw [hPo, el]
     exact ⟨_, _, _, _, _, rfl, (s1.trans (s13.trans s4)).put hp, TargsAt.snoc (s4 _ _ t13) t2 (fun j a z => ⟨(t3 j a z).1, (t3 j a z).2.1, s4 _ _ (s13 _ _ (t3 j a z).2.2)⟩) nl bl (by rw [et]; exact hl)⟩
    ·rename_i hw
     have et : Tm.targs exs i = [] := if_neg hw
     refine ⟨Nat.zero_le _, fun l0 hl0 => ?_⟩
     have s4 := same_new (o := .lst []) hl0
     refine ⟨_, s4 _ _ t13, by rw [List.length_map]; omega, ?_⟩
     rw [hPo]
     exact ⟨_, _, _, _, _, rfl, (s1.trans (s13.trans s4)).put hp, TargsAt.snoc (s4 _ _ t13) t2 (fun j a z => ⟨(t3 j a z).1, (t3 j a z).2.1, s4 _ _ (s13 _ _ (t3 j a z).2.2)⟩) (Ne.symm (ne_of_none t13 hl0)) (s0.free (s1.free (s13.free hl0))) (by rw [et]; exact upd_same)⟩
  ·intro σ H1 h
   rw [hPo] at h
   obtain ⟨v4, v5, v6, v7, v8, rfl, s1, hP⟩ := h
   walk_at "S"
   exact k p H1 (s0.trans s1) hp0 hP
def sp_fitting_pairs (C : Cs) : Sp := fun vs H Q _ => ∃ (e : Addr) (exs : List (Vaflxm.Text × Vaflxm.Text)), vs = [.ref e, .int 273] ∧ ExsAt C H e exs ∧ exs.length ≤ 10 ∧ ∀ p H', Same H H' → H p = none → PairsAt H' p (Tm.pairsTo exs Tm.count) → Q (.ref p) H'
abbrev s_fitting_pairs : Stmt := top 41
theorem sc_fitting_pairs : FnScope ["examples", "form_count", "pairs", "source", "targets", "target"] ["examples", "form_count"] (defScope s_fitting_pairs) := by walk_at "N"
theorem ok_fitting_pairs (T : Txt K mg) (D : Def K mg "fitting_pairs" s_fitting_pairs ["examples", "form_count"]) (ok_fitting_targets : Ok P w K mg base 2 "fitting_targets" ["examples", "form_count"] (sp_fitting_targets C)) : Ok P w K mg base 3 "fitting_pairs" ["examples", "form_count"] (sp_fitting_pairs C) := by
 refine D.ok sc_fitting_pairs (fun vs H Q E h => ?_) (fun f cdv A outer s H vs Q E hr h => ?_)
 ·obtain ⟨e, exs, rfl, _⟩ := h
  rfl
 ·obtain ⟨e, exs, rfl, hE, h10, k⟩ := h
  have hs9 := sizeLine_eq
  refine ⟨_, (pss_cons (ps_set (i := 2) sc_fitting_pairs.nd rfl (Or.inl rfl) (pe_lst pa_nil))
   (pss_cons (ps_for PassesOwn.never rfl (pi_enum (by rfl) T.n_enumerate (pa_cons (pe_fn ok_fitting_targets (hr.mono (by decide)) (by rfl) (pa_cons (pv 0) (pa_cons (pv 1) pa_nil))) pa_nil)) (pg_tup (n := 2) rfl (pgs_cons (pg_name (i := 3) sc_fitting_pairs.nd rfl (Or.inr rfl)) (pgs_cons (pg_name (i := 4) sc_fitting_pairs.nd rfl (Or.inl rfl)) pgs_nil))) (pss_one (ps_expr (pe_bm PySem.F.plainAttrs_list PySem.F.slot_list_extend PySem.F.type_list_extend mt_extend (pv 2) (pa_cons (pe_lc rfl sc_fitting_pairs.nd (pi_list (pv 4)) (blkOk_by (own := [("target", 5)]) (by show blkC ["examples", "form_count", "pairs", "source", "targets", "target"] (defScope s_fitting_pairs) _ _ = true; decide +kernel)) (fun _ _ _ _ _ => (pg_name (i := 5) sc_fitting_pairs.nd rfl (Or.inl rfl))) (fun _ _ _ _ _ => pts_nil) (fun _ _ _ _ _ => (pe_tup (pa_cons (pv 3) (pa_cons (pv 5) pa_nil))))) pa_nil)))))
   (pss_one (ps_ret (pv 2))))), ?_⟩
  walk_at "S"
  refine ⟨Nat.zero_le _, fun p hp => ⟨e, exs, rfl, hE.same (same_new hp), h10, fun tl H0 s0 htl hT => ?_⟩⟩
  obtain ⟨as, a1, a2, a3⟩ := hT
  have hp1 : H0 p = some (.lst []) := s0 _ _ upd_same
  have npt : p ≠ tl := fun z => by rw [← z, upd_same] at htl; cases htl
  have nap : ∀ (i : Nat) (a : Addr), as[i]? = some a → a ≠ p := fun i a z w => by
   have q := (a3 i a z).2.1
   rw [w, upd_same] at q
   cases q
  refine ⟨tl, rfl, ⟨_, sqL_of a1⟩, ?_⟩
  obtain ⟨Po, hPo⟩ : ∃ Po : Nat → L2.St → Hp → Prop, Po = fun i σ H' => ∃ v3 v4 v5, σ = [some (.ref e), some (.int 273), some (.ref p), v3, v4, v5] ∧ (∀ b o, H0 b = some o → b ≠ p → H' b = some o) ∧ PairsAt H' p (Tm.pairsTo exs i) := ⟨_, rfl⟩
  refine for_enum (xs := as.map V.ref) Po ?_ (fun i σ H' _ h => ?_) ?_ ?_
  ·rw [hPo]
   exact ⟨none, none, none, rfl, fun _ _ z _ => z, [], hp1, rfl, fun k a x z => by simp at z⟩
  ·rw [hPo] at h
   obtain ⟨v3, v4, v5, rfl, s1, _⟩ := h
   exact sqL_of (s1 _ _ a1 (Ne.symm npt))
  ·intro i x σ H1 TT hx h hTT
   rw [hPo] at h
   obtain ⟨v3, v4, v5, rfl, s1, ps, hps, htp⟩ := h
   rw [List.getElem?_map] at hx
   obtain ⟨l, hl, rfl⟩ := Option.map_eq_some_iff.mp hx
   obtain ⟨_, _, l3⟩ := a3 i l hl
   have hi : i < as.length := (List.getElem?_eq_some_iff.mp hl).1
   have hi : i < 273 := by rw [a2] at hi; exact hi
   have st := Tm.pairs_step exs i
   have s2 := same_new (o := .tup [.int (i : Nat), .ref l]) hTT
   walk_at "S"
   refine ⟨_, sqT_of upd_same, rfl, _, _, rfl, _, _, rfl, rfl, ?_⟩
   walk_at "S"
   have hps2 := s2 _ _ hps
   have hl2 := s2 _ _ (s1 _ _ l3 (nap i l hl))
   have hlh := Tm.targs_len exs i
   have hlp : ps.length ≤ 74529 := by
    rw [htp.1]
    refine Nat.le_trans (Tm.pairs_len exs i) ?_
    have : i * Tm.count ≤ 273 * 273 := Nat.mul_le_mul (by omega) (by decide)
    omega
   refine ⟨tyL_of (sqL_of hps2), ⟨_, sqL_of hl2⟩, ?_⟩
   refine lc_pairs (i := i) (by omega) hl2 (by show 5 < 6; omega) (by omega) (by simp) fun D3 H5 qs hD3 s5 hq5 ht5 => ?_
   have hps5 := s5 _ _ hps2
   refine ⟨D3, rfl, _, hps5, _, hq5, ?_, ?_⟩
   ·have := ht5.1
    rw [List.length_map] at this
    rw [List.length_map, List.length_map]
    omega
   ·rw [hPo]
    refine ⟨_, _, _, rfl, fun b o z n => ?_, ps ++ qs, by rw [upd_same, List.map_append], ?_⟩
    ·rw [upd_ne n]
     exact s5 _ _ (s2 _ _ (s1 _ _ z n))
    ·rw [st]
     refine TupsAt.same (H := H5) ((htp.same fun c ys z => s5 _ _ (s2 _ _ z)).join ht5) fun c ys z => ?_
     rw [upd_ne (ne_of z hps5 (by intro y; cases y))]
     exact z
  ·intro σ H1 h
   rw [hPo] at h
   obtain ⟨v3, v4, v5, rfl, s1, hP⟩ := h
   rw [List.length_map, a2] at hP
   walk_at "S"
   exact k p H1 (fun b o z => s1 _ _ (s0 _ _ (same_new hp _ _ z)) (ne_of_none z hp)) hp hP
end
theorem ValsAt.put {H : Hp} {p e : Addr} {xs ys : List V} {os : List (Option Vaflxm.Value)} (h : ValsAt H p os) (n : p ≠ e) (he : H e = some (.lst xs)) : ValsAt (upd H e (.lst ys)) p os := by
 obtain ⟨vs, h1, h2, h3⟩ := h
 refine ⟨vs, by rw [upd_ne n]; exact h1, h2, fun i v o q1 q2 => (h3 i v o q1 q2).same fun b zs q => ?_⟩
 rw [upd_ne (ne_of q he (by intro z; cases z))]
 exact q
theorem ExAt.put {C : Cs} {H : Hp} {e a : Addr} {xs ys : List V} {x : Vaflxm.Text × Vaflxm.Text} (h : ExAt C H e a x) (he : H e = some (.lst xs)) : ExAt C (upd H e (.lst ys)) e a x := by
 obtain ⟨dx, p, q, h1, n1, n2, v1, v2⟩ := h
 exact ⟨dx, p, q, by rw [upd_ne (ne_of h1 he (by intro z; cases z))]; exact h1, n1, n2, v1.put n1 he, v2.put n2 he⟩
theorem DeskAt.put {C : Cs} {H : Hp} {d e : Addr} {exs exs' : List (Vaflxm.Text × Vaflxm.Text)} (h : DeskAt C H d e exs) (bs : List Addr) (hl : bs.length = exs'.length) (hb : ∀ (i : Nat) (a : Addr) (x : Vaflxm.Text × Vaflxm.Text), bs[i]? = some a → exs'[i]? = some x → ExAt C H e a x) :
  DeskAt C (upd H e (.lst (bs.map V.ref))) d e exs' := by
 obtain ⟨dx, f, h1, h2, ⟨fs, f1, f2, f3⟩, as, e1, _, _⟩ := h
 refine ⟨dx, f, by rw [upd_ne (ne_of h1 e1 (by intro z; cases z))]; exact h1, h2, ⟨fs, by rw [upd_ne h2]; exact f1, f2, fun i a g q1 q2 => ?_⟩, bs, upd_same, hl, fun i a x q1 q2 => (hb i a x q1 q2).put e1⟩
 obtain ⟨dx2, z⟩ := f3 i a g q1 q2
 exact ⟨dx2, by rw [upd_ne (ne_of z e1 (by intro y; cases y))]; exact z⟩
section
variable {P : Program} {w : World} {K : PySem.W.Frag} {mg : Str → Option Value} {base : Heap} {C : Cs}
def W_add : List Int → List Vaflxm.Text → Vaflxm.Call → Prop := fun ns ts c => ∃ a b, ns = [] ∧ ts = [a, b] ∧ c = .add a b
abbrev s_answer_add : Stmt := top 89
theorem sc_answer_add : FnScope ["desk", "numbers", "rows"] ["desk", "numbers", "rows"] (defScope s_answer_add) := by walk_at "N"
theorem ok_answer_add (T : Txt K mg) (N : CK K C.desk) (D : Def K mg "answer_add" s_answer_add ["desk", "numbers", "rows"]) (ok_may_be_example : Ok P w K mg base 1 "may_be_example" ["text"] (sp_may_be_example K))
  (cl_Example : Oc P w K mg base C.ex 6 "Example" ["self", "forms", "source", "target"] (sp_Example_init K C)) : Ok P w K mg base 8 "answer_add" ["desk", "numbers", "rows"] (spC C W_add) := by
 refine D.ok sc_answer_add (fun vs H Q E h => ?_) (fun f cdv A outer s H vs Q E hr h => ?_)
 ·obtain ⟨d, n, r, e, exs, ns, ts, c, rfl, _⟩ := h
  rfl
 ·obtain ⟨d, n, r, e, exs, ns, ts, c, rfl, hd, hn, hr0, ⟨t, u, rfl, rfl, rfl⟩, h10, k⟩ := h
  have hs9 := sizeLine_eq
  obtain ⟨rs, ra, r1, r2, r3⟩ := row_at hr0 0 rfl
  obtain ⟨rs', rb, r1', r4, r5⟩ := row_at hr0 1 rfl
  have ers : rs' = rs := by
   rw [r1] at r1'
   have z := Option.some.inj r1'
   injection z with z
   exact (List.map_inj_right (by intro a b q; injection q)).mp z.symm
  subst ers
  have bad : (Vaflxm.goodText t && Vaflxm.goodText u) = false → ∀ H', Same H H' → 1 ≤ sizeLine ∧ ∀ (p : Addr), H' p = none → Q (V.ref p) (upd H' p (HO.lst [V.int (-1)])) := fun z H' s1 => by
   have ek : Vaflxm.step ⟨exs⟩ (.add t u) = (⟨exs⟩, [-1]) := by
    show (if (!(Vaflxm.goodText t && Vaflxm.goodText u)) = true then _ else _) = _
    rw [z]
    rfl
   rw [ek] at k
   have k := After.rd k hd
   exact ⟨by omega, fun p hp => k p _ (s1.trans (same_new hp)) (s1.free hp) upd_same⟩
  refine ⟨_, (pss_cons (ps_if (pw_or (pt_not (pt_val (pe_fn ok_may_be_example (hr.mono (by decide)) (by rfl) (pa_cons (pe_ix ix_list (pv 2) pe_int (fun _ _ => rfl)) pa_nil)))) (pw_or1 (pt_not (pt_val (pe_fn ok_may_be_example (hr.mono (by decide)) (by rfl) (pa_cons (pe_ix ix_list (pv 2) pe_int (fun _ _ => rfl)) pa_nil)))))).pt (pss_one (ps_ret (pe_lst (pa_cons (pe_ci T.BAD_EXAMPLE (by rfl)) pa_nil)))) pss_nil)
   (pss_cons (ps_if (pt_cmpR op_ge (pe_callB call_len_seq (by rfl) T.n_len boot_len (pa_cons (pe_fld (pv 0) rfl) pa_nil)) (pe_ci T.MOST_EXAMPLES (by rfl)) (nomark _)) (pss_one (ps_ret (pe_lst (pa_cons (pe_ci T.TOO_MANY_EXAMPLES (by rfl)) pa_nil)))) pss_nil)
   (pss_cons (ps_expr (pe_bm PySem.F.plainAttrs_list PySem.F.slot_list_append PySem.F.type_list_append mt_append (pe_fld (pv 0) rfl) (pa_cons (pe_cls cl_Example (hr.mono (by decide)) (by rfl) (pa_cons (pe_fld (pv 0) rfl) (pa_cons (pe_ix ix_list (pv 2) pe_int (fun _ _ => rfl)) (pa_cons (pe_ix ix_list (pv 2) pe_int (fun _ _ => rfl)) pa_nil)))) pa_nil)))
   (pss_one (ps_ret (pe_lst (pa_cons (pe_ci T.DONE (by rfl)) pa_nil))))))), ?_⟩
  walk_at "S"
  refine ⟨_, sqL_of r1, _, r2, ra, t, rfl, sqL_of r3, fun H1 s1 => ?_⟩
  walk_at "S"
  split
  ·rename_i hg
   exact bad (by rw [hg]; rfl) H1 s1
  ·rename_i hg
   have hg : Vaflxm.goodText t = true := by simpa using hg
   refine ⟨_, sqL_of (s1 _ _ r1), _, r4, rb, u, rfl, sqL_of (s1 _ _ r5), fun H2 s2 => ?_⟩
   walk_at "S"
   split
   ·rename_i hg2
    exact bad (by rw [hg, hg2]; rfl) H2 (s1.trans s2)
   ·rename_i hg2
    have hg2 : Vaflxm.goodText u = true := by simpa using hg2
    have s02 : Same H H2 := s1.trans s2
    have hd2 := hd.same s02
    obtain ⟨dx, f, d1, d2, d3, as, e1, e2, e3⟩ := id hd2
    refine ⟨_, dx, _, d1, N.cl, N.examples, _, dk_examples f e, e, rfl, _, .inl (sqL_of e1), ?_⟩
    have el : ((as.map V.ref).length : Int) = (exs.length : Nat) := by rw [List.length_map, e2]
    rw [el]
    have ek : Vaflxm.step ⟨exs⟩ (.add t u) = if 10 ≤ exs.length then (⟨exs⟩, [-6]) else (⟨exs ++ [(t, u)]⟩, [0]) := by
     show (if (!(Vaflxm.goodText t && Vaflxm.goodText u)) = true then _ else _) = _
     rw [hg, hg2]
     rfl
    rw [ek] at k
    split
    ·rename_i hm
     rw [if_pos (by omega)] at k
     have k := After.rd k hd
     exact ⟨by omega, fun p hp => k p _ (s02.trans (same_new hp)) (s02.free hp) upd_same⟩
    ·rename_i hm
     rw [if_neg (by omega)] at k
     refine ⟨_, dx, _, d1, N.cl, N.examples, _, dk_examples f e, tyL_of (sqL_of e1), _, dx, _, d1, N.cl, N.forms, _, dk_forms f e, _, sqL_of (s02 _ _ r1), _, r2, _, sqL_of (s02 _ _ r1), _, r4, fun x dy hx hdy hne => ?_⟩
     obtain ⟨H3, hH3⟩ : ∃ H3, H3 = upd (upd H2 dy (.own x)) x (.ins C.ex dy []) := ⟨_, rfl⟩
     rw [← hH3]
     have s23 : Same H2 H3 := by rw [hH3]; exact fun b o z => by rw [upd_ne (ne_of_none z hx), upd_ne (ne_of_none z hdy)]; exact z
     have hx3 : H3 x = some (.ins C.ex dy []) := by rw [hH3]; exact upd_same
     refine ⟨x, dy, f, ra, rb, t, u, rfl, hx3, d3.same s23, sqL_of (s23 _ _ (s02 _ _ r3)), sqL_of (s23 _ _ (s02 _ _ r5)), fun H4 l1 l2 hx4 n1 n2 v1 v2 kp => ⟨rfl, ?_⟩⟩
     have s24 : Same H2 H4 := fun b o z => kp b o (s23 _ _ z) (ne_of_none z hx)
     have he4 := s24 _ _ e1
     refine ⟨e, rfl, _, he4, by rw [List.length_map]; omega, by omega, fun p hp => ?_⟩
     have hE4 : ExAt C H4 e x (t, u) := ⟨dy, l1, l2, hx4, fun z => (by rw [z, s23 _ _ e1] at n1; cases n1), fun z => (by rw [z, s23 _ _ e1] at n2; cases n2), v1, v2⟩
     have hD5 := (hd2.same s24).put (exs' := exs ++ [(t, u)]) (as ++ [x]) (by simp [e2]) fun i a y q1 q2 => by
      by_cases hi : i < as.length
      ·rw [List.getElem?_append_left hi] at q1
       rw [List.getElem?_append_left (by omega)] at q2
       exact (e3 i a y q1 q2).same s24
      ·have en : i = as.length := by
        have := (List.getElem?_eq_some_iff.mp q1).1
        simp at this
        omega
       subst en
       rw [List.getElem?_append_right (by omega), Nat.sub_self] at q1
       rw [List.getElem?_append_right (by omega), e2, Nat.sub_self] at q2
       have w1 : x = a := Option.some.inj q1
       have w2 : (t, u) = y := Option.some.inj q2
       subst w1 w2
       exact hE4
     rw [List.map_append] at hD5
     have np : p ≠ e := fun z => by rw [z, upd_same] at hp; cases hp
     have hp2 : H2 p = none := s24.free (by rw [upd_ne np] at hp; exact hp)
     refine k p _ e (fun b o z zd ze => ?_) (hD5.same (same_new hp)) (.inl rfl) (s02.free hp2) upd_same
     rw [upd_ne (ne_of_none (s02 _ _ z) hp2), upd_ne ze]
     exact s24 _ _ (s02 _ _ z)
end
local macro_rules | `(tactic| walk_at "S") => do
 let w := fun (s : String) => (s.splitOn " ").toArray.map fun x => Lean.mkIdent x.toName
 let a := w "ap_tVar ap_tC ap_tOp ap_tUn ap_rI ap_rI0 ap_rU ap_rEq ap_rNe ap_tTest ap_tB ap_tChain ap_tAnd ap_tOr ap_tNot ap_tAndV ap_tOrV ap_tNotV ap_tNext ap_tSeq ap_tDrop ap_tRet ap_tRetN ap_tIfS ap_gName ap_tAsg ap_tNil ap_tCons ap_tTup ap_tLst ap_tCall ap_tCB ap_tCT ap_rIxL ap_rIxT ap_scal ap_CDiv ap_CMul L2.start List.map_cons List.map_nil List.length_cons List.length_nil List.cons_append List.nil_append List.append_nil List.getElem?_cons_zero List.getElem?_cons_succ List.set_cons_zero List.set_cons_succ Option.some.injEq V.int.injEq V.bl.injEq V.ref.injEq V.str.injEq exists_eq_left exists_eq_left' exists_eq_right exists_and_left true_and and_true decide_eq_true_eq Nat.reduceAdd Nat.reduceSub List.reduceReplicate Bool.not_eq_true' decide_eq_false_iff_not List.cons.injEq and_self reduceCtorEq ap_tFor ap_tLc ap_iList ap_iTup ap_iRng1 ap_iRng2 ap_iEnum ap_iStr cx_K if_false if_true Bool.false_eq_true"
 let b := w "and_assoc ap_tBM ap_tBM0 ap_tyS ap_tYes ap_tMeth ap_tMake ap_tFld ap_sFld ap_tSl ap_tNoPart ap_tPart ap_rSlL ap_rAppend ap_rExtend ap_rCat ap_rEqD ap_rNeD ap_gTup ap_gNil ap_gCons HO.ins.injEq HO.lst.injEq HO.tup.injEq exists_and_right ap_iEnumT ap_iZipT ap_tCTT ap_rSlS ap_tDGet ap_sDPut ap_tDisp ap_tPairs0 ap_tPairs1 ap_tDNewK ap_rCatT"
 `(tactic| simp only [$[$a:ident],*, ↓reduceIte, $[$b:ident],*])
theorem or_args2 {A A' : Addr → List (Str × V) → Prop} {B : List (Str × V) → Prop} {S1 S2 S3 S4 : Prop} (h : (∃ x y, A x y ∧ B y ∧ S1) ∨ ∃ x y, A' x y ∧ B y ∧ S2) (h1 : S1 → S3) (h2 : S2 → S4) : (∃ x y, A x y ∧ B y ∧ S3) ∨ ∃ x y, A' x y ∧ B y ∧ S4 := by
 rcases h with ⟨x, y, a, b, h⟩ | ⟨x, y, a, b, h⟩
 ·exact .inl ⟨x, y, a, b, h1 h⟩
 ·exact .inr ⟨x, y, a, b, h2 h⟩
section
variable {P : Program} {w : World} {K : PySem.W.Frag} {mg : Str → Option Value} {base : Heap} {C : Cs}
def W_shift : List Int → List Vaflxm.Text → Vaflxm.Call → Prop := fun ns ts c => ∃ i m t, ns = [i, m] ∧ ts = [t] ∧ c = .shift i m t
abbrev s_answer_shift : Stmt := top 88
theorem sc_answer_shift : FnScope ["desk", "numbers", "rows", "form", "value", "shifted"] ["desk", "numbers", "rows"] (defScope s_answer_shift) := by walk_at "N"
theorem ok_answer_shift (T : Txt K mg) (N : CK K C.desk) (D : Def K mg "answer_shift" s_answer_shift ["desk", "numbers", "rows"]) (om_Desk_has_form : Om P w K mg base C.desk 1 "has_form" ["self", "number"] (sp_Desk_has_form C))
  (om_NumberForm_value_read : Om P w K mg base C.num 3 "value_read" ["self", "text"] (sp_NumberForm_value_read K C.num)) (om_DateForm_value_read : Om P w K mg base C.date 5 "value_read" ["self", "text"] (sp_DateForm_value_read K C.date))
  (ok_day_number : Ok P w K mg base 3 "day_number" ["year", "month", "day"] sp_day_number) (ok_is_day_number : Ok P w K mg base 1 "is_day_number" ["number"] sp_is_day_number) (ok_date_of_day : Ok P w K mg base 3 "date_of_day" ["number"] sp_date_of_day)
  (ok_text_answer : Ok P w K mg base 1 "text_answer" ["text"] sp_text_answer)
  (om_NumberForm_written : Om P w K mg base C.num 2 "written" ["self", "value"] (sp_NumberForm_written K C.num)) (om_DateForm_written : Om P w K mg base C.date 4 "written" ["self", "value"] (sp_DateForm_written K C.date)) : Ok P w K mg base 6 "answer_shift" ["desk", "numbers", "rows"] (spC C W_shift) := by
 refine D.ok sc_answer_shift (fun vs H Q E h => ?_) (fun f cdv A outer s H vs Q E hr h => ?_)
 ·obtain ⟨d, n, r, e, exs, ns, ts, c, rfl, _⟩ := h
  rfl
 ·obtain ⟨d, n, r, e, exs, ns, ts, c, rfl, hd, hn, hr0, ⟨i, m, t, rfl, rfl, rfl⟩, h10, k⟩ := h
  have hs9 := sizeLine_eq
  have k := After.rd k hd
  obtain ⟨dx, pf, hdd, nfe, hF, hE⟩ := id hd
  obtain ⟨rs, ra, r1, r2, r3⟩ := row_at hr0 0 rfl
  refine ⟨_, (pss_cons (ps_if (pt_not (pt_val (pe_mt (pv 0) om_Desk_has_form (hr.mono (by decide)) (pa_cons (pe_ix ix_list (pv 1) pe_int (fun _ _ => rfl)) pa_nil)))) (pss_one (ps_ret (pe_lst (pa_cons (pe_ci T.NO_SUCH_FORM (by rfl)) pa_nil)))) pss_nil)
   (pss_cons (ps_set (i := 3) sc_answer_shift.nd rfl (Or.inl rfl) (pe_ix ix_list (pe_fld (pv 0) rfl) (pe_ix ix_list (pv 1) pe_int (fun _ _ => rfl)) (fun _ _ => rfl)))
   (pss_cons (ps_set (i := 4) sc_answer_shift.nd rfl (Or.inl rfl) (PE.or (pe_mt (pv 3) om_NumberForm_value_read (hr.mono (by decide)) (pa_cons (pe_ix ix_list (pv 2) pe_int (fun _ _ => rfl)) pa_nil)) (pe_mt (pv 3) om_DateForm_value_read (hr.mono (by decide)) (pa_cons (pe_ix ix_list (pv 2) pe_int (fun _ _ => rfl)) pa_nil))))
   (pss_cons (ps_if (pw_or (pt_cmpR op_isN (pv 4) pe_non (nomark _)) (pw_or1 (pt_cmpR op_ne (pe_ix ix_tup (pv 4) pe_int (fun _ _ => rfl)) (pe_ci T.DATE_KIND (by rfl)) (nomark _)))).pt (pss_one (ps_ret (pe_lst (pa_cons (pe_ci T.NOT_POSSIBLE (by rfl)) pa_nil)))) pss_nil)
   (pss_cons (ps_set (i := 5) sc_answer_shift.nd rfl (Or.inl rfl) (pe_op op_add (pe_fn ok_day_number (hr.mono (by decide)) (by rfl) (pa_cons (pe_ix ix_tup (pv 4) pe_int (fun _ _ => rfl)) (pa_cons (pe_ix ix_tup (pv 4) pe_int (fun _ _ => rfl)) (pa_cons (pe_ix ix_tup (pv 4) pe_int (fun _ _ => rfl)) pa_nil)))) (pe_ix ix_list (pv 1) pe_int (fun _ _ => rfl))))
   (pss_cons (ps_if (pt_not (pt_val (pe_fn ok_is_day_number (hr.mono (by decide)) (by rfl) (pa_cons (pv 5) pa_nil)))) (pss_one (ps_ret (pe_lst (pa_cons (pe_ci T.NO_SUCH_DAY (by rfl)) pa_nil)))) pss_nil)
   (pss_one (ps_ret (pe_fn ok_text_answer (hr.mono (by decide)) (by rfl) (pa_cons (PE.or (pe_mt (pv 3) om_NumberForm_written (hr.mono (by decide)) (pa_cons (pe_op op_catT (pe_tup (pa_cons (pe_ci T.DATE_KIND (by rfl)) pa_nil)) (pe_fn ok_date_of_day (hr.mono (by decide)) (by rfl) (pa_cons (pv 5) pa_nil))) pa_nil)) (pe_mt (pv 3) om_DateForm_written (hr.mono (by decide)) (pa_cons (pe_op op_catT (pe_tup (pa_cons (pe_ci T.DATE_KIND (by rfl)) pa_nil)) (pe_fn ok_date_of_day (hr.mono (by decide)) (by rfl) (pa_cons (pv 5) pa_nil))) pa_nil))) pa_nil)))))))))), ?_⟩
  walk_at "S"
  simp only [hdd]
  walk_at "S"
  refine ⟨dk_no pf e (by decide +kernel) (by decide +kernel), _, sqL_of hn, _, rfl, d, e, exs, i, rfl, hd, ?_⟩
  have ek : Vaflxm.answerOf ⟨exs⟩ (.shift i m t) = Vaflxm.withForm i fun f => Vaflxm.shiftAnswer f m t := rfl
  rw [ek] at k
  unfold Vaflxm.withForm at k
  cases hf : Vaflxm.formAt i with
  | none =>
   rw [hf] at k
   walk_at "S"
   exact ⟨by omega, fun p hp => k p _ (same_new hp) hp upd_same⟩
  | some g =>
   rw [hf] at k
   dsimp only at k
   walk_at "S"
   obtain ⟨as, a, q1, q2, q3, q4⟩ := desk_form (C := C) hF hf
   refine ⟨_, dx, _, hdd, N.cl, N.forms, _, dk_forms pf e, _, sqL_of hn, _, rfl, pf, rfl, _, i, rfl, sqL_of q1, _, q2, ?_⟩
   walk_at "S"
   refine or_args2 (rd_form q3 q4 (sqL_of r3) ?_) (fun z => ⟨_, sqL_of r1, _, r2, z⟩) (fun z => ⟨_, sqL_of r1, _, r2, z⟩)
   cases hv : Vaflxm.readIn g t with
   | none =>
    have e1 : Vaflxm.shiftAnswer g m t = [1] := by
     unfold Vaflxm.shiftAnswer
     rw [hv]
     cases g <;> rfl
    rw [e1] at k
    intro H1 s1
    rw [if_pos rfl]
    exact ⟨by omega, fun p hp => k p _ (s1.trans (same_new hp)) (s1.free hp) upd_same⟩
   | some v =>
    have ov := read_ok g t v q4 hv
    cases v with
    | number x y =>
     have e1 : Vaflxm.shiftAnswer g m t = [1] := by
      unfold Vaflxm.shiftAnswer
      rw [hv]
      cases g <;> rfl
     rw [e1] at k
     intro p H1 s1 hp hv1
     rw [if_neg (by intro z; cases z)]
     refine ⟨p, rfl, _, sqT_of hv1, _, rfl, rfl, ?_⟩
     rw [if_pos (by intro z; cases z)]
     exact ⟨by omega, fun q hq => k q _ (s1.trans (same_new hq)) (s1.free hq) upd_same⟩
    | date y mo dd =>
     cases g with
     | num g => exact absurd hv (Tm.num_reads g t y mo dd)
     | date g =>
      have e1 : Vaflxm.shiftAnswer (.date g) m t = if Vaflxm.within 1 (Vaflxm.nat Vaflxm.MOST_DAY) (Vaflxm.nat (Vaflxm.dayNumber y mo dd) + m) then 0 :: Vaflxm.numbers (Vaflxm.writeDate g (Vaflxm.dateOf (Vaflxm.nat (Vaflxm.dayNumber y mo dd) + m).toNat).1 (Vaflxm.dateOf (Vaflxm.nat (Vaflxm.dayNumber y mo dd) + m).toNat).2.1 (Vaflxm.dateOf (Vaflxm.nat (Vaflxm.dayNumber y mo dd) + m).toNat).2.2) else [-7] := by
       unfold Vaflxm.shiftAnswer
       rw [hv]
      rw [e1] at k
      have hD := (Tm.isDate_iff y mo dd).mp ov
      intro p H1 s1 hp hv1
      rw [if_neg (by intro z; cases z)]
      refine ⟨p, rfl, _, sqT_of hv1, _, rfl, rfl, ?_⟩
      rw [if_neg (fun z => z rfl)]
      refine ⟨p, rfl, _, sqT_of hv1, _, rfl, p, rfl, _, sqT_of hv1, _, rfl, p, rfl, _, sqT_of hv1, _, rfl, y, mo, dd, rfl, hD.1, hD.2.2.1, hD.2.2.2.1, ?_⟩
      walk_at "S"
      obtain ⟨x, hx⟩ : ∃ x : Int, x = ((Vaflxm.dayNumber y mo dd : Nat) : Int) + m := ⟨_, rfl⟩
      have hx2 : Vaflxm.nat (Vaflxm.dayNumber y mo dd) + m = x := hx.symm
      rw [hx2] at k
      refine ⟨_, sqL_of (s1 _ _ hn), _, rfl, m, rfl, _, rfl, _, rfl, ?_⟩
      rw [← hx]
      cases hg : Vaflxm.within 1 (Vaflxm.nat Vaflxm.MOST_DAY) x with
      | false =>
       rw [hg] at k
       rw [if_pos rfl]
       exact ⟨by omega, fun p hp => k p _ (s1.trans (same_new hp)) (s1.free hp) upd_same⟩
      | true =>
       rw [hg, if_pos rfl] at k
       rw [if_neg (by intro z; cases z)]
       have hb := day_in hg
       obtain ⟨dx2, h⟩ := q3.same s1
       refine .inr ⟨dx2, _, h, df_no g (by decide +kernel) (by decide +kernel) (by decide +kernel) (by decide +kernel), by omega, fun b hb2 => ?_⟩
       have s2 := same_new (o := .tup [.int 1]) hb2
       refine ⟨x.toNat, by rw [show (x.toNat : Int) = x by omega], by omega, by unfold Vaflxm.MOST_DAY; omega, fun c hc => ?_⟩
       have s3 := same_new (o := .tup [V.int ((Vaflxm.dateOf x.toNat).1 : Nat), V.int ((Vaflxm.dateOf x.toNat).2.1 : Nat), V.int ((Vaflxm.dateOf x.toNat).2.2 : Nat)]) hc
       refine ⟨c, rfl, _, sqT_of (s3 _ _ upd_same), _, sqT_of upd_same, by simp, by simp; omega, fun z => (by simp at z), fun _ l hl => ?_⟩
       have s4 := same_new (o := .tup (vv (.date (Vaflxm.dateOf x.toNat).1 (Vaflxm.dateOf x.toNat).2.1 (Vaflxm.dateOf x.toNat).2.2))) hl
       have s14 := ((s1.trans s2).trans s3).trans s4
       have ov2 : okV (.date (Vaflxm.dateOf x.toNat).1 (Vaflxm.dateOf x.toNat).2.1 (Vaflxm.dateOf x.toNat).2.2) := Tm.dateOf_good x.toNat (by omega) (by unfold Vaflxm.MOST_DAY; omega)
       exact ⟨a, l, g, .date _ _ _, rfl, ⟨dx2, s4 _ _ (s3 _ _ (s2 _ _ h))⟩, q4, sqT_of upd_same, ov2, res_text (o := some _) s14 (fun t z => write_small (.date g) _ t q4 ov2 z) k⟩
end
local macro_rules | `(tactic| walk_at "S") => do
 let w := fun (s : String) => (s.splitOn " ").toArray.map fun x => Lean.mkIdent x.toName
 let a := w "ap_tVar ap_tC ap_tOp ap_tUn ap_rI ap_rI0 ap_rU ap_rEq ap_rNe ap_tTest ap_tB ap_tChain ap_tAnd ap_tOr ap_tNot ap_tAndV ap_tOrV ap_tNotV ap_tNext ap_tSeq ap_tDrop ap_tRet ap_tRetN ap_tIfS ap_gName ap_tAsg ap_tNil ap_tCons ap_tTup ap_tLst ap_tCall ap_tCB ap_tCT ap_rIxL ap_rIxT ap_scal ap_CDiv ap_CMul L2.start List.map_cons List.map_nil List.length_cons List.length_nil List.cons_append List.nil_append List.append_nil List.getElem?_cons_zero List.getElem?_cons_succ List.set_cons_zero List.set_cons_succ Option.some.injEq V.int.injEq V.bl.injEq V.ref.injEq V.str.injEq exists_eq_left exists_eq_left' exists_eq_right exists_and_left true_and and_true decide_eq_true_eq Nat.reduceAdd Nat.reduceSub List.reduceReplicate Bool.not_eq_true' decide_eq_false_iff_not List.cons.injEq and_self reduceCtorEq ap_tFor ap_tLc ap_iList ap_iTup ap_iRng1 ap_iRng2 ap_iEnum ap_iStr cx_K if_false if_true Bool.false_eq_true"
 let b := w "and_assoc ap_tBM ap_tBM0 ap_tyS ap_tYes ap_tMeth ap_tMake ap_tFld ap_sFld ap_tSl ap_tNoPart ap_tPart ap_rSlL ap_rAppend ap_rExtend ap_rCat ap_rEqD ap_rNeD ap_gTup ap_gNil ap_gCons HO.ins.injEq HO.lst.injEq HO.tup.injEq exists_and_right ap_iEnumT ap_iZipT ap_tCTT ap_rSlS ap_tDGet ap_sDPut ap_tDisp ap_tPairs0 ap_tPairs1 ap_tDNewK ap_tVal ap_iItemsT ap_rExtT ap_tDNewN ap_tSetDef ap_tGetN ap_tDGet2 ap_tDNewT ap_rAll cx_prog cx_w ap_rCatT ap_rPopAt ap_rSum ap_tIf"
 `(tactic| simp only [$[$a:ident],*, ↓reduceIte, $[$b:ident],*])
theorem map_erase {α β : Type} {f : α → β} : ∀ (l : List α) (i : Nat), (l.map f).eraseIdx i = (l.eraseIdx i).map f
 | [], _ => rfl
 | _ :: _, 0 => rfl
 | a :: l, i + 1 => by
  show f a :: (l.map f).eraseIdx i = f a :: (l.eraseIdx i).map f
  rw [map_erase l i]
theorem formN_wf {i : Nat} (h : i < Tm.count) : wfF (Tm.formN i) := forms_wf _ (List.mem_of_getElem? (Tm.formN_at h))
section
variable {P : Program} {w : World} {K : PySem.W.Frag} {mg : Str → Option Value} {base : Heap} {C : Cs}
def sp_Desk_has_example (C : Cs) : Sp := fun vs H Q _ => ∃ (a e : Addr) (exs : List (Vaflxm.Text × Vaflxm.Text)) (i : Int), vs = [.ref a, .int i] ∧ DeskAt C H a e exs ∧ Q (.bl (decide (0 ≤ i ∧ i < (exs.length : Nat)))) H
abbrev s_Desk_has_example : Stmt := inClass (top 77) 2
theorem sc_Desk_has_example : FnScope ["self", "number"] ["self", "number"] (defScope s_Desk_has_example) := by walk_at "N"
theorem om_Desk_has_example (T : Txt K mg) (N : CK K C.desk) (D : Mdef K C.desk "has_example" "Desk.has_example" s_Desk_has_example ["self", "number"]) : Om P w K mg base C.desk 1 "has_example" ["self", "number"] (sp_Desk_has_example C) := by
 refine D.ok N.cl sc_Desk_has_example (fun vs H Q E h => ?_) (fun f cdv A outer s H vs Q E hr h => ?_)
 ·obtain ⟨p, e, exs, i, rfl, _⟩ := h
  rfl
 ·obtain ⟨a, e, exs, i, rfl, ⟨dx, f, ha, nfe, _, as, e1, e2, _⟩, k⟩ := h
  refine ⟨_, (pss_one (ps_ret (pe_chain op_le op_lt pe_int (pv 1) (pe_callB call_len_seq (by rfl) T.n_len boot_len (pa_cons (pe_fld (pv 0) rfl) pa_nil))))), ?_⟩
  walk_at "S"
  split
  ·rename_i h0
   simp only [ha]
   walk_at "S"
   simp only [dk_examples]
   walk_at "S"
   refine ⟨N.cl, N.examples, _, .inl (sqL_of e1), ?_⟩
   have e1 : decide (i < ((as.map V.ref).length : Int)) = decide (0 ≤ i ∧ i < (exs.length : Nat)) := by
    rw [List.length_map, e2, Bool.eq_iff_iff]
    simp
    omega
   rw [e1]
   exact k
  ·rename_i h0
   have e1 : decide (0 ≤ i ∧ i < (exs.length : Nat)) = false := by simp; omega
   rw [e1] at k
   exact k
def sp_Desk_targets_that_fit (C : Cs) : Sp := fun vs H Q _ => ∃ (a e : Addr) (exs : List (Vaflxm.Text × Vaflxm.Text)), vs = [.ref a] ∧ DeskAt C H a e exs ∧ exs.length ≤ 10 ∧ ∀ p H', Same H H' → H p = none → TargsAt H H' p exs Tm.count → Q (.ref p) H'
abbrev s_Desk_targets_that_fit : Stmt := inClass (top 77) 3
theorem sc_Desk_targets_that_fit : FnScope ["self"] ["self"] (defScope s_Desk_targets_that_fit) := by walk_at "N"
theorem om_Desk_targets_that_fit (T : Txt K mg) (N : CK K C.desk) (D : Mdef K C.desk "targets_that_fit" "Desk.targets_that_fit" s_Desk_targets_that_fit ["self"]) (ok_fitting_targets : Ok P w K mg base 2 "fitting_targets" ["examples", "form_count"] (sp_fitting_targets C)) : Om P w K mg base C.desk 3 "targets_that_fit" ["self"] (sp_Desk_targets_that_fit C) := by
 refine D.ok N.cl sc_Desk_targets_that_fit (fun vs H Q E h => ?_) (fun f cdv A outer s H vs Q E hr h => ?_)
 ·obtain ⟨a, e, exs, rfl, _⟩ := h
  rfl
 ·obtain ⟨a, e, exs, rfl, ⟨dx, pf, d1, d2, ⟨fs, f1, f2, _⟩, hE⟩, h10, k⟩ := h
  refine ⟨_, (pss_one (ps_ret (pe_fn ok_fitting_targets (hr.mono (by decide)) (by rfl) (pa_cons (pe_fld (pv 0) rfl) (pa_cons (pe_callB call_len_seq (by rfl) T.n_len boot_len (pa_cons (pe_fld (pv 0) rfl) pa_nil)) pa_nil))))), ?_⟩
  walk_at "S"
  refine ⟨_, dx, _, d1, N.cl, N.examples, _, dk_examples pf e, _, dx, _, d1, N.cl, N.forms, _, dk_forms pf e, pf, rfl, _, .inl (sqL_of f1), e, exs, ?_, hE, h10, k⟩
  rw [List.length_map, f2, forms_len]
  rfl
def sp_Desk_pairs_that_fit (C : Cs) : Sp := fun vs H Q _ => ∃ (a e : Addr) (exs : List (Vaflxm.Text × Vaflxm.Text)), vs = [.ref a] ∧ DeskAt C H a e exs ∧ exs.length ≤ 10 ∧ ∀ p H', Same H H' → H p = none → PairsAt H' p (Tm.pairsTo exs Tm.count) → Q (.ref p) H'
abbrev s_Desk_pairs_that_fit : Stmt := inClass (top 77) 4
theorem sc_Desk_pairs_that_fit : FnScope ["self"] ["self"] (defScope s_Desk_pairs_that_fit) := by walk_at "N"
theorem om_Desk_pairs_that_fit (T : Txt K mg) (N : CK K C.desk) (D : Mdef K C.desk "pairs_that_fit" "Desk.pairs_that_fit" s_Desk_pairs_that_fit ["self"]) (ok_fitting_pairs : Ok P w K mg base 3 "fitting_pairs" ["examples", "form_count"] (sp_fitting_pairs C)) : Om P w K mg base C.desk 4 "pairs_that_fit" ["self"] (sp_Desk_pairs_that_fit C) := by
 refine D.ok N.cl sc_Desk_pairs_that_fit (fun vs H Q E h => ?_) (fun f cdv A outer s H vs Q E hr h => ?_)
 ·obtain ⟨a, e, exs, rfl, _⟩ := h
  rfl
 ·obtain ⟨a, e, exs, rfl, ⟨dx, pf, d1, d2, ⟨fs, f1, f2, _⟩, hE⟩, h10, k⟩ := h
  refine ⟨_, (pss_one (ps_ret (pe_fn ok_fitting_pairs (hr.mono (by decide)) (by rfl) (pa_cons (pe_fld (pv 0) rfl) (pa_cons (pe_callB call_len_seq (by rfl) T.n_len boot_len (pa_cons (pe_fld (pv 0) rfl) pa_nil)) pa_nil))))), ?_⟩
  walk_at "S"
  refine ⟨_, dx, _, d1, N.cl, N.examples, _, dk_examples pf e, _, dx, _, d1, N.cl, N.forms, _, dk_forms pf e, pf, rfl, _, .inl (sqL_of f1), e, exs, ?_, hE, h10, k⟩
  rw [List.length_map, f2, forms_len]
  rfl
def sp_Desk_converted_by (K : PySem.W.Frag) (C : Cs) : Sp := fun vs H Q _ => ∃ (a e b c : Addr) (exs : List (Vaflxm.Text × Vaflxm.Text)) (p : Nat × Nat) (t : Vaflxm.Text), vs = [.ref a, .ref b, .ref c] ∧ DeskAt C H a e exs ∧ H b = some (.tup [.int (p.1 : Nat), .int (p.2 : Nat)]) ∧ p.1 < Tm.count ∧ p.2 < Tm.count ∧ SqL K H c (tv t) ∧ ResT H (Vaflxm.convert (Tm.formN p.1) (Tm.formN p.2) t) Q
abbrev s_Desk_converted_by : Stmt := inClass (top 77) 5
theorem sc_Desk_converted_by : FnScope ["self", "pair", "text"] ["self", "pair", "text"] (defScope s_Desk_converted_by) := by walk_at "N"
theorem om_Desk_converted_by (T : Txt K mg) (N : CK K C.desk) (D : Mdef K C.desk "converted_by" "Desk.converted_by" s_Desk_converted_by ["self", "pair", "text"]) (ok_converted : Ok P w K mg base 6 "converted" ["source", "target", "text"] (sp_converted K C.num C.date)) : Om P w K mg base C.desk 7 "converted_by" ["self", "pair", "text"] (sp_Desk_converted_by K C) := by
 refine D.ok N.cl sc_Desk_converted_by (fun vs H Q E h => ?_) (fun f cdv A outer s H vs Q E hr h => ?_)
 ·obtain ⟨a, e, b, c, exs, p, t, rfl, _⟩ := h
  rfl
 ·obtain ⟨a, e, b, c, exs, p, t, rfl, ⟨dx, pf, d1, d2, ⟨fs, f1, f2, f3⟩, hE⟩, hb, x1, x2, hc, k⟩ := h
  have g1 : ∀ j : Nat, j < Tm.count → ∃ a, atI (fs.map V.ref) (j : Int) = some (.ref a) ∧ FormAt C.num C.date H a (Tm.formN j) := fun j hj => by
   have hj2 : j < fs.length := by rw [f2, forms_len]; exact hj
   exact ⟨fs[j], at_of (j := j) rfl (by rw [List.getElem?_map, List.getElem?_eq_getElem hj2]; rfl), f3 j _ _ (List.getElem?_eq_getElem hj2) (Tm.formN_at hj)⟩
  obtain ⟨u, gu, guF⟩ := g1 _ x1
  obtain ⟨v, gv, gvF⟩ := g1 _ x2
  refine ⟨_, (pss_one (ps_ret (pe_fn ok_converted (hr.mono (by decide)) (by rfl) (pa_cons (pe_ix ix_list (pe_fld (pv 0) rfl) (pe_ix ix_tup (pv 1) pe_int (fun _ _ => rfl)) (fun _ _ => rfl)) (pa_cons (pe_ix ix_list (pe_fld (pv 0) rfl) (pe_ix ix_tup (pv 1) pe_int (fun _ _ => rfl)) (fun _ _ => rfl)) (pa_cons (pv 2) pa_nil)))))), ?_⟩
  walk_at "S"
  exact ⟨_, dx, _, d1, N.cl, N.forms, _, dk_forms pf e, _, sqT_of hb, _, rfl, pf, rfl, _, _, rfl, sqL_of f1, _, gu, _, dx, _, d1, N.cl, N.forms, _, dk_forms pf e, _, sqT_of hb, _, rfl, pf, rfl, _, _, rfl, sqL_of f1, _, gv, u, v, c, _, _, t, rfl, guF, gvF, formN_wf x1, formN_wf x2, hc, k⟩
def W_take : List Int → List Vaflxm.Text → Vaflxm.Call → Prop := fun ns ts c => ∃ i, ns = [i] ∧ ts = [] ∧ c = .take i
abbrev s_answer_take : Stmt := top 90
theorem sc_answer_take : FnScope ["desk", "numbers", "rows"] ["desk", "numbers", "rows"] (defScope s_answer_take) := by walk_at "N"
theorem ok_answer_take (T : Txt K mg) (N : CK K C.desk) (D : Def K mg "answer_take" s_answer_take ["desk", "numbers", "rows"]) (om_Desk_has_example : Om P w K mg base C.desk 1 "has_example" ["self", "number"] (sp_Desk_has_example C)) : Ok P w K mg base 8 "answer_take" ["desk", "numbers", "rows"] (spC C W_take) := by
 refine D.ok sc_answer_take (fun vs H Q E h => ?_) (fun f cdv A outer s H vs Q E hr h => ?_)
 ·obtain ⟨d, n, r, e, exs, ns, ts, c, rfl, _⟩ := h
  rfl
 ·obtain ⟨d, n, r, e, exs, ns, ts, c, rfl, hd, hn, hr0, ⟨i, rfl, rfl, rfl⟩, h10, k⟩ := h
  have hs9 := sizeLine_eq
  obtain ⟨dx, pf, d1, d2, d3, as, e1, e2, e3⟩ := id hd
  have ek : Vaflxm.step ⟨exs⟩ (.take i) = if i < 0 ∨ Vaflxm.nat exs.length ≤ i then (⟨exs⟩, [-2]) else (⟨exs.eraseIdx i.toNat⟩, [0]) := rfl
  rw [ek] at k
  refine ⟨_, (pss_cons (ps_if (pt_not (pt_val (pe_mt (pv 0) om_Desk_has_example (hr.mono (by decide)) (pa_cons (pe_ix ix_list (pv 1) pe_int (fun _ _ => rfl)) pa_nil)))) (pss_one (ps_ret (pe_lst (pa_cons (pe_ci T.NO_SUCH_EXAMPLE (by rfl)) pa_nil)))) pss_nil)
   (pss_cons (ps_expr (pe_bm PySem.F.plainAttrs_list PySem.F.slot_list_pop PySem.F.type_list_pop mt_popAt (pe_fld (pv 0) rfl) (pa_cons (pe_ix ix_list (pv 1) pe_int (fun _ _ => rfl)) pa_nil)))
   (pss_one (ps_ret (pe_lst (pa_cons (pe_ci T.DONE (by rfl)) pa_nil)))))), ?_⟩
  walk_at "S"
  refine ⟨dx, _, d1, dk_no pf e (by decide +kernel) (by decide +kernel), _, sqL_of hn, _, rfl, d, e, exs, i, rfl, hd, _, rfl, ?_⟩
  by_cases hi : 0 ≤ i ∧ i < (exs.length : Nat)
  ·rw [if_neg (by unfold Vaflxm.nat; omega)] at k
   rw [decide_eq_true hi, if_neg (by intro z; cases z)]
   have hl : (as.map V.ref).length = exs.length := by rw [List.length_map, e2]
   have hj : i.toNat < as.length := by omega
   refine ⟨_, dx, _, d1, N.cl, N.examples, _, dk_examples pf e, tyL_of (sqL_of e1), _, sqL_of hn, _, rfl, e, rfl, _, i, rfl, e1, by omega, by omega, i.toNat, PySem.StrLaws.seqIndex_nonneg hi.1 (by omega), ⟨_, List.getElem?_eq_getElem (by omega)⟩, by omega, fun p hp => ?_⟩
   have he : (as.map V.ref).eraseIdx i.toNat = (as.eraseIdx i.toNat).map V.ref := map_erase as i.toNat
   rw [he] at hp ⊢
   have hD := hd.put (exs' := exs.eraseIdx i.toNat) (as.eraseIdx i.toNat) (by rw [List.length_eraseIdx, List.length_eraseIdx, e2]) fun j a x q1 q2 => by
    rw [List.getElem?_eraseIdx] at q1 q2
    split at q1
    ·rename_i hlt
     rw [if_pos hlt] at q2
     exact e3 _ a x q1 q2
    ·rename_i hlt
     rw [if_neg hlt] at q2
     exact e3 _ a x q1 q2
   have np : p ≠ e := fun z => by rw [z, upd_same] at hp; cases hp
   refine k p _ e (fun b o z zd ze => ?_) (hD.same (same_new hp)) (.inl rfl) (by rw [upd_ne np] at hp; exact hp) upd_same
   rw [upd_ne (fun y => by rw [y] at z; rw [upd_ne np] at hp; rw [hp] at z; cases z), upd_ne ze]
   exact z
  ·rw [if_pos (by unfold Vaflxm.nat; omega)] at k
   rw [decide_eq_false hi, if_pos rfl]
   have k := After.rd k hd
   exact ⟨by omega, fun p hp => k p _ (same_new hp) hp upd_same⟩
end
theorem call_lenK {X : Cx} {K : PySem.W.Frag} (h : X.K = K) : CallR X (.builtin "len") fun xs H Q => ∃ p ys, xs = [V.ref p] ∧ (SqL K H p ys ∨ SqT K H p ys) ∧ Q (V.int (ys.length : Nat)) H := by
 subst h
 exact call_len_seq
theorem lc_lens {K : PySem.W.Frag} {b : Addr} {ls : List Addr} {fs : Nat → List V} {a : Nat} {σ : L2.St} {H : Hp} {Q : VK} (hl : ls.length ≤ 1000) (hb : H b = some (.lst (ls.map V.ref))) (hf : ∀ (i : Nat) (x : Addr), ls[i]? = some x → H x = some (.lst (fs i))) (hs : a < σ.length)
  (k : ∀ D, H D = none → Q (.ref D) (upd H D (.lst ((List.range ls.length).map fun i => V.int ((fs i).length : Nat))))) :
  lcJ (Itl K b) (gName a) tYes (tCB (fun xs H Q => ∃ p, xs = [V.ref p] ∧ ∃ x, (SqL K H p x ∨ SqT K H p x) ∧ Q (V.int (x.length : Nat)) H) (tCons (tVar a) tNil)) [a] σ H Q := by
 have hs9 := sizeLine_eq
 refine lc_pure (steps_list K b (ls.map V.ref)) (fun i => V.int ((fs i).length : Nat)) (by rw [List.length_map]; omega) (fun H' s => sqL_of (s _ _ hb)) (fun j H' R hj s r => ?_) (fun D hD => ?_)
 ·have hj : j < ls.length := by simpa using hj
  have ei : (ls.map V.ref).getD j .non = .ref ls[j] := by simp [List.getD, hj]
  rw [ei]
  simp only [wipe]
  walk_at "S"
  exact ⟨by rw [List.set_set, List.set_set], _, by rw [List.getElem?_set_self (by simpa using hs)], _, rfl, _, .inl (sqL_of (s _ _ (hf j _ (List.getElem?_eq_getElem hj)))), r⟩
 ·rw [List.length_map]
  exact k D hD
section
variable {P : Program} {w : World} {K : PySem.W.Frag} {mg : Str → Option Value} {base : Heap} {C : Cs}
def W_pairs : List Int → List Vaflxm.Text → Vaflxm.Call → Prop := fun ns ts c => ns = [] ∧ ts = [] ∧ c = .pairs
abbrev s_answer_pairs : Stmt := top 91
theorem sc_answer_pairs : FnScope ["desk", "numbers", "rows", "targets"] ["desk", "numbers", "rows"] (defScope s_answer_pairs) := by walk_at "N"
theorem ok_answer_pairs (T : Txt K mg) (N : CK K C.desk) (D : Def K mg "answer_pairs" s_answer_pairs ["desk", "numbers", "rows"]) (om_Desk_targets_that_fit : Om P w K mg base C.desk 3 "targets_that_fit" ["self"] (sp_Desk_targets_that_fit C)) : Ok P w K mg base 8 "answer_pairs" ["desk", "numbers", "rows"] (spC C W_pairs) := by
 refine D.ok sc_answer_pairs (fun vs H Q E h => ?_) (fun f cdv A outer s H vs Q E hr h => ?_)
 ·obtain ⟨d, n, r, e, exs, ns, ts, c, rfl, _⟩ := h
  rfl
 ·obtain ⟨d, n, r, e, exs, ns, ts, c, rfl, hd, hn, hr0, ⟨rfl, rfl, rfl⟩, h10, k⟩ := h
  have hs9 := sizeLine_eq
  have k := After.rd k hd
  have ek : Vaflxm.answerOf ⟨exs⟩ .pairs = [0, Vaflxm.nat (Tm.pairsTo exs Tm.count).length] := by
   show [0, Vaflxm.nat (Vaflxm.pairsOf exs).length] = _
   rw [Tm.pairs_count]
  rw [ek] at k
  obtain ⟨dx, pf, d1, d2, d3, as, e1, e2, e3⟩ := id hd
  refine ⟨_, (pss_one (ps_ret (pe_lst (pa_cons (pe_ci T.DONE (by rfl)) (pa_cons (pe_callB (cr_sum rfl) (by rfl) T.n_sum boot_sum (pa_cons (pe_lc rfl sc_answer_pairs.nd (pi_list (pe_mt0 (pv 0) om_Desk_targets_that_fit (hr.mono (by decide)))) (blkOk_by (own := [("targets", 3)]) (by show blkC ["desk", "numbers", "rows", "targets"] (defScope s_answer_pairs) _ _ = true; decide +kernel)) (fun _ _ _ _ _ => (pg_name (i := 3) sc_answer_pairs.nd rfl (Or.inl rfl))) (fun _ _ _ _ _ => pts_nil) (fun _ _ _ _ _ => (pe_callB (call_lenK (K := K) (by rfl)) (by rfl) T.n_len boot_len (pa_cons (pv 3) pa_nil)))) pa_nil)) pa_nil))))), ?_⟩
  walk_at "S"
  refine ⟨dx, _, d1, dk_no pf e (by decide +kernel) (by decide +kernel), d, e, exs, rfl, hd, h10, fun tl H0 s0 htl hT => ?_⟩
  obtain ⟨ls, a1, a2, a3⟩ := hT
  refine ⟨tl, rfl, ⟨_, sqL_of a1⟩, ?_⟩
  have a4 : ls.length ≤ 1000 := by rw [a2]; decide
  refine lc_lens (ls := ls) (fs := fun i => natsV (Tm.targs exs i)) a4 a1 (fun i x z => (a3 i x z).2.2) (by show 3 < 4; omega) fun D1 hD1 => ?_
  have s1 := same_new (o := .lst ((List.range ls.length).map fun i => V.int ((natsV (Tm.targs exs i)).length : Nat))) hD1
  refine ⟨D1, rfl, (List.range ls.length).map fun i => (((Tm.targs exs i).length : Nat) : Int), sqL_of ?_, by omega, fun p hp => ?_⟩
  ·rw [upd_same, List.map_map]
   simp only [natsV, List.length_map]
   rfl
  ·have es := Tm.pairs_sum exs ls.length
   rw [es]
   rw [← a2] at k
   exact k p _ ((s0.trans s1).trans (same_new hp)) ((s0.trans s1).free hp) upd_same
def W_least : List Int → List Vaflxm.Text → Vaflxm.Call → Prop := fun ns ts c => ns = [] ∧ ts = [] ∧ c = .least
abbrev s_answer_least : Stmt := top 92
theorem sc_answer_least : FnScope ["desk", "numbers", "rows", "source", "targets"] ["desk", "numbers", "rows"] (defScope s_answer_least) := by walk_at "N"
theorem ok_answer_least (T : Txt K mg) (N : CK K C.desk) (D : Def K mg "answer_least" s_answer_least ["desk", "numbers", "rows"]) (om_Desk_targets_that_fit : Om P w K mg base C.desk 3 "targets_that_fit" ["self"] (sp_Desk_targets_that_fit C)) : Ok P w K mg base 8 "answer_least" ["desk", "numbers", "rows"] (spC C W_least) := by
 refine D.ok sc_answer_least (fun vs H Q E h => ?_) (fun f cdv A outer s H vs Q E hr h => ?_)
 ·obtain ⟨d, n, r, e, exs, ns, ts, c, rfl, _⟩ := h
  rfl
 ·obtain ⟨d, n, r, e, exs, ns, ts, c, rfl, hd, hn, hr0, ⟨rfl, rfl, rfl⟩, h10, k⟩ := h
  have hs9 := sizeLine_eq
  have k := After.rd k hd
  have ek : Vaflxm.answerOf ⟨exs⟩ .least = match (Tm.pairsTo exs Tm.count).head? with
    | none => [1]
    | some p => [0, Vaflxm.nat p.1, Vaflxm.nat p.2] := by
   show (match (Vaflxm.pairsOf exs).head? with
    | none => [1]
    | some p => [0, Vaflxm.nat p.1.1, Vaflxm.nat p.2.1]) = _
   rw [Tm.pairs_eq]
   cases Tm.pairsTo exs Tm.count <;> rfl
  rw [ek] at k
  obtain ⟨dx, pf, d1, d2, d3, as, e1, e2, e3⟩ := id hd
  refine ⟨_, (pss_cons (ps_for PassesOwn.never rfl (pi_enum (by rfl) T.n_enumerate (pa_cons (pe_mt0 (pv 0) om_Desk_targets_that_fit (hr.mono (by decide))) pa_nil)) (pg_tup (n := 2) rfl (pgs_cons (pg_name (i := 3) sc_answer_least.nd rfl (Or.inl rfl)) (pgs_cons (pg_name (i := 4) sc_answer_least.nd rfl (Or.inl rfl)) pgs_nil))) (pss_one (ps_if (pt_cmpR op_gt (pe_callB call_len_seq (by rfl) T.n_len boot_len (pa_cons (pv 4) pa_nil)) pe_int (nomark _)) (pss_one (ps_ret (pe_lst (pa_cons (pe_ci T.DONE (by rfl)) (pa_cons (pv 3) (pa_cons (pe_ix ix_list (pv 4) pe_int (fun _ _ => rfl)) pa_nil)))))) pss_nil)))
   (pss_one (ps_ret (pe_lst (pa_cons (pe_ci T.NOT_POSSIBLE (by rfl)) pa_nil))))), ?_⟩
  walk_at "S"
  refine ⟨dx, _, d1, dk_no pf e (by decide +kernel) (by decide +kernel), d, e, exs, rfl, hd, h10, fun tl H0 s0 htl hT => ?_⟩
  obtain ⟨ls, a1, a2, a3⟩ := hT
  refine ⟨tl, rfl, ⟨_, sqL_of a1⟩, ?_⟩
  obtain ⟨Po, hPo⟩ : ∃ Po : Nat → L2.St → Hp → Prop, Po = fun i σ H' => ∃ v3 v4, σ = [some (.ref d), some (.ref n), some (.ref r), v3, v4] ∧ Same H0 H' ∧ ∀ j, j < i → Tm.targs exs j = [] := ⟨_, rfl⟩
  refine for_enum (xs := ls.map V.ref) Po ?_ (fun i σ H' _ h => ?_) ?_ ?_
  ·rw [hPo]
   exact ⟨none, none, rfl, fun _ _ z => z, fun j z => by omega⟩
  ·rw [hPo] at h
   obtain ⟨v3, v4, rfl, s1, _⟩ := h
   exact sqL_of (s1 _ _ a1)
  ·intro i x σ H1 TT hx h hTT
   rw [hPo] at h
   obtain ⟨v3, v4, rfl, s1, hz⟩ := h
   rw [List.getElem?_map] at hx
   obtain ⟨l, hl, rfl⟩ := Option.map_eq_some_iff.mp hx
   obtain ⟨_, _, l3⟩ := a3 i l hl
   have hi : i < ls.length := (List.getElem?_eq_some_iff.mp hl).1
   have hi : i < Tm.count := by rw [a2] at hi; exact hi
   have s2 := same_new (o := .tup [.int (i : Nat), .ref l]) hTT
   have hl2 := s2 _ _ (s1 _ _ l3)
   walk_at "S"
   refine ⟨_, sqT_of upd_same, rfl, _, _, rfl, _, _, rfl, rfl, ?_⟩
   walk_at "S"
   refine ⟨_, .inl (sqL_of hl2), ?_⟩
   cases ht : Tm.targs exs i with
   | nil =>
    rw [if_neg (by simp [natsV]), hPo]
    refine ⟨_, _, rfl, s1.trans s2, fun j hj => ?_⟩
    by_cases hji : j = i
    ·rw [hji, ht]
    ·exact hz j (by omega)
   | cons t0 rest =>
    rw [if_pos (by simp [natsV])]
    rw [Tm.pairs_head exs i t0 rest hi hz ht] at k
    rw [ht] at hl2
    exact ⟨_, sqL_of hl2, .int (t0 : Nat), at_of (j := 0) rfl rfl, by omega, fun p hp => k p _ ((s0.trans (s1.trans s2)).trans (same_new hp)) ((s0.trans (s1.trans s2)).free hp) upd_same⟩
  ·intro σ H1 h
   rw [hPo] at h
   obtain ⟨v3, v4, rfl, s1, hz⟩ := h
   rw [List.length_map, a2] at hz
   rw [Tm.pairs_none exs Tm.count hz] at k
   walk_at "S"
   exact ⟨by omega, fun p hp => k p _ ((s0.trans s1).trans (same_new hp)) ((s0.trans s1).free hp) upd_same⟩
def W_apply : List Int → List Vaflxm.Text → Vaflxm.Call → Prop := fun ns ts c => ∃ t, ns = [] ∧ ts = [t] ∧ c = .apply t
abbrev s_answer_apply : Stmt := top 93
theorem sc_answer_apply : FnScope ["desk", "numbers", "rows", "pair", "text"] ["desk", "numbers", "rows"] (defScope s_answer_apply) := by walk_at "N"
theorem ok_answer_apply (T : Txt K mg) (N : CK K C.desk) (D : Def K mg "answer_apply" s_answer_apply ["desk", "numbers", "rows"]) (om_Desk_pairs_that_fit : Om P w K mg base C.desk 4 "pairs_that_fit" ["self"] (sp_Desk_pairs_that_fit C)) (om_Desk_converted_by : Om P w K mg base C.desk 7 "converted_by" ["self", "pair", "text"] (sp_Desk_converted_by K C))
  (ok_text_answer : Ok P w K mg base 1 "text_answer" ["text"] sp_text_answer) : Ok P w K mg base 8 "answer_apply" ["desk", "numbers", "rows"] (spC C W_apply) := by
 refine D.ok sc_answer_apply (fun vs H Q E h => ?_) (fun f cdv A outer s H vs Q E hr h => ?_)
 ·obtain ⟨d, n, r, e, exs, ns, ts, c, rfl, _⟩ := h
  rfl
 ·obtain ⟨d, n, r, e, exs, ns, ts, c, rfl, hd, hn, hr0, ⟨t, rfl, rfl, rfl⟩, h10, k⟩ := h
  have hs9 := sizeLine_eq
  have k := After.rd k hd
  obtain ⟨rs, ra, r1, r2, r3⟩ := row_at hr0 0 rfl
  obtain ⟨dx, pf, d1, d2, d3, as, e1, e2, e3⟩ := id hd
  refine ⟨_, (pss_cons (ps_if (pt_cmpR op_eq (pe_callB call_len_seq (by rfl) T.n_len boot_len (pa_cons (pe_fld (pv 0) rfl) pa_nil)) pe_int (nomark _)) (pss_one (ps_ret (pe_lst (pa_cons (pe_ci T.NO_EXAMPLES (by rfl)) pa_nil)))) pss_nil)
   (pss_cons (ps_for PassesOwn.never rfl (pi_list (pe_mt0 (pv 0) om_Desk_pairs_that_fit (hr.mono (by decide)))) (pg_name (i := 3) sc_answer_apply.nd rfl (Or.inl rfl)) (pss_cons (ps_set (i := 4) sc_answer_apply.nd rfl (Or.inl rfl) (pe_mt (pv 0) om_Desk_converted_by (hr.mono (by decide)) (pa_cons (pv 3) (pa_cons (pe_ix ix_list (pv 2) pe_int (fun _ _ => rfl)) pa_nil))))
   (pss_one (ps_if (pt_cmpR op_notN (pv 4) pe_non (nomark _)) (pss_one (ps_ret (pe_fn ok_text_answer (hr.mono (by decide)) (by rfl) (pa_cons (pv 4) pa_nil)))) pss_nil))))
   (pss_one (ps_ret (pe_lst (pa_cons (pe_ci T.NOT_POSSIBLE (by rfl)) pa_nil)))))), ?_⟩
  walk_at "S"
  refine ⟨_, dx, _, d1, N.cl, N.examples, _, dk_examples pf e, e, rfl, _, .inl (sqL_of e1), ?_⟩
  have el : ((as.map V.ref).length : Int) = (exs.length : Nat) := by rw [List.length_map, e2]
  rw [el]
  have ek : Vaflxm.answerOf ⟨exs⟩ (.apply t) = if exs.isEmpty then [-8] else (match (Vaflxm.pairsOf exs).find? fun p => (Vaflxm.convert p.1.2 p.2.2 t).isSome with
   | none => [1]
   | some p => Vaflxm.textOr1 (Vaflxm.convert p.1.2 p.2.2 t)) := rfl
  rw [ek] at k
  split
  ·rename_i h0
   have : exs = [] := List.eq_nil_of_length_eq_zero (by omega)
   subst this
   exact ⟨by omega, fun p hp => k p _ (same_new hp) hp upd_same⟩
  ·rename_i h0
   have hne : exs.isEmpty = false := by
    cases exs with
    | nil => exact absurd rfl h0
    | cons => rfl
   rw [hne, if_neg (by intro z; cases z)] at k
   refine ⟨dx, _, d1, dk_no pf e (by decide +kernel) (by decide +kernel), d, e, exs, rfl, hd, h10, fun pl H2 s2 hpl2 hP => ?_⟩
   obtain ⟨prs, hprs⟩ : ∃ prs, prs = Tm.pairsTo exs Tm.count := ⟨_, rfl⟩
   have hlt : ∀ x ∈ prs, x.1 < Tm.count ∧ x.2 < Tm.count := fun x hx => by rw [hprs] at hx; exact Tm.pairs_lt exs _ x hx
   rw [← hprs] at hP
   obtain ⟨qs, q1, q2⟩ := hP
   refine ⟨pl, rfl, ⟨_, sqL_of q1⟩, ?_⟩
   obtain ⟨Po, hPo⟩ : ∃ Po : Nat → L2.St → Hp → Prop, Po = fun i σ H' => ∃ v3 v4, σ = [some (.ref d), some (.ref n), some (.ref r), v3, v4] ∧ Same H2 H' ∧ ∀ q ∈ prs.take i, Vaflxm.convert (Tm.formN q.1) (Tm.formN q.2) t = none := ⟨_, rfl⟩
   refine for_by (steps_list K pl (qs.map V.ref)) Po ?_ (fun i σ H' _ h => ?_) ?_ ?_
   ·rw [hPo]
    exact ⟨none, none, rfl, fun _ _ z => z, fun q z => by simp at z⟩
   ·rw [hPo] at h
    obtain ⟨v3, v4, rfl, s3, _⟩ := h
    exact sqL_of (s3 _ _ q1)
   ·intro i σ H3 hi h
    rw [hPo] at h
    obtain ⟨v3, v4, rfl, s3, hz⟩ := h
    have hi : i < qs.length := by simpa using hi
    have hi2 : i < prs.length := by rw [← q2.1]; exact hi
    have ei : (qs.map V.ref).getD i .non = .ref qs[i] := by simp [List.getD, hi]
    rw [ei]
    have s23 := s2.trans s3
    have hx := s3 _ _ (q2.2 i qs[i] prs[i] (List.getElem?_eq_getElem hi) (List.getElem?_eq_getElem hi2))
    obtain ⟨x1, x2⟩ := hlt prs[i] (List.getElem_mem hi2)
    walk_at "S"
    refine ⟨dx, _, s23 _ _ d1, dk_no pf e (by decide +kernel) (by decide +kernel), _, sqL_of (s23 _ _ r1), _, r2, d, e, qs[i], ra, exs, prs[i], t, rfl, hd.same s23, hx, x1, x2, sqL_of (s23 _ _ r3), ?_⟩
    cases hc : Vaflxm.convert (Tm.formN prs[i].1) (Tm.formN prs[i].2) t with
    | none =>
     intro H4 s4
     simp
     rw [hPo]
     refine ⟨_, _, rfl, s3.trans s4, fun q hq => ?_⟩
     rw [take_one (List.getElem?_eq_getElem hi2)] at hq
     rcases List.mem_append.mp hq with hq | hq
     ·exact hz q hq
     ·rw [List.mem_singleton.mp hq]
      exact hc
    | some u =>
     intro q H4 s4 hq hq4
     rw [if_pos (by intro z; cases z)]
     have fs := Tm.find_some exs t u i prs[i] (by rw [← hprs]; exact List.getElem?_eq_getElem hi2) (by rw [← hprs]; exact hz) hc
     rw [fs] at k
     have k : NewL H ((Vaflxm.textOr1 (some u)).map V.int) Q := by
      rw [← hc]
      exact k
     exact ⟨.ref q, some u, rfl, ⟨q, rfl, hq4, convert_small _ _ t u (formN_wf x1) (formN_wf x2) hc⟩, k.same (s23.trans s4)⟩
   ·intro σ H3 h
    rw [hPo] at h
    obtain ⟨v3, v4, rfl, s3, hz⟩ := h
    rw [List.length_map, q2.1, List.take_of_length_le (Nat.le_refl _), hprs] at hz
    rw [Tm.find_none exs t hz] at k
    have s23 := s2.trans s3
    walk_at "S"
    exact ⟨by omega, fun p hp => k p _ (s23.trans (same_new hp)) (s23.free hp) upd_same⟩
end
def keyOf (t : Vaflxm.Text) : List Key := t.map fun c => (.inl ((c.toNat : Nat) : Int) : Key)
theorem keyOf_kV (t : Vaflxm.Text) : (keyOf t).map kV = tv t := by
 unfold keyOf tv
 rw [List.map_map]
 rfl
theorem keyOf_inj {t u : Vaflxm.Text} (h : keyOf t = keyOf u) : t = u := by
 unfold keyOf at h
 refine (List.map_inj_right fun a b q => ?_).mp h
 injection q with q
 rw [← UInt8.toNat_inj]
 omega
def enc (l : List (Vaflxm.Text × Nat)) : List (List Key × V) := l.map fun x => (keyOf x.1, V.int (x.2 : Nat))
def cnt (t : Vaflxm.Text) : List (Vaflxm.Text × Nat) → Nat
 | [] => 0
 | x :: l => if x.1 = t then x.2 else cnt t l
theorem val_enc (t : Vaflxm.Text) : ∀ l, (valV (enc l) (keyOf t)).getD (.int 0) = .int (cnt t l : Nat)
 | [] => rfl
 | x :: l => by
  have ih := val_enc t l
  have e : valV (enc (x :: l)) (keyOf t) = if keyOf x.1 = keyOf t then some (V.int (x.2 : Nat)) else valV (enc l) (keyOf t) := by
   unfold enc valV
   rw [List.map_cons, List.find?_cons]
   by_cases h2 : keyOf x.1 = keyOf t <;> simp [h2]
  rw [e]
  unfold cnt
  by_cases h : x.1 = t
  ·rw [if_pos h, if_pos (by rw [h])]
   rfl
  ·rw [if_neg h, if_neg fun z => h (keyOf_inj z)]
   exact ih
theorem put_out {kvs : List (List Key × V)} {k : List Key} (v : V) (h : ∀ x ∈ kvs, x.1 ≠ k) : (kvs.any fun kv => decide (kv.1 = k)) = false ∧ kvs.map (fun kv => if kv.1 = k then (kv.1, v) else kv) = kvs := by
 constructor
 ·rw [List.any_eq_false]
  intro x hx
  simpa using h x hx
 ·have e := List.map_congr_left (f := fun kv : List Key × V => if kv.1 = k then (kv.1, v) else kv) (g := id) (l := kvs) (fun x hx => if_neg (h x hx))
  rw [e, List.map_id]
theorem put_enc (t : Vaflxm.Text) : ∀ l : List (Vaflxm.Text × Nat), (l.map (·.1)).Nodup → putK (enc l) (keyOf t) (.int ((cnt t l : Nat) + 1)) = enc (Vaflxm.countText t l)
 | [], _ => rfl
 | x :: l, hn => by
  rw [List.map_cons, List.nodup_cons] at hn
  obtain ⟨h1, h2⟩ := hn
  have ih := put_enc t l h2
  unfold Vaflxm.countText cnt
  by_cases h : x.1 = t
  ·rw [if_pos h, if_pos h]
   have out : ∀ y ∈ enc l, y.1 ≠ keyOf t := fun y hy z => by
    unfold enc at hy
    obtain ⟨a, ha, e⟩ := List.mem_map.mp hy
    subst e
    have := keyOf_inj z
    exact h1 (by rw [h, ← this]; exact List.mem_map_of_mem ha)
   obtain ⟨o1, o2⟩ := put_out (.int ((x.2 : Nat) + 1)) out
   unfold putK
   have e1 : enc (x :: l) = (keyOf t, V.int (x.2 : Nat)) :: enc l := by rw [← h]; rfl
   rw [e1, List.any_cons, if_pos (by simp), List.map_cons, o2, if_pos rfl]
   rfl
  ·rw [if_neg h, if_neg h]
   have hk : ¬ keyOf x.1 = keyOf t := fun z => h (keyOf_inj z)
   unfold putK at ih ⊢
   have e1 : enc (x :: l) = (keyOf x.1, V.int (x.2 : Nat)) :: enc l := rfl
   have e2 : enc (x :: Vaflxm.countText t l) = (keyOf x.1, V.int (x.2 : Nat)) :: enc (Vaflxm.countText t l) := rfl
   rw [e1, e2, List.any_cons, decide_eq_false hk, Bool.false_or, ← ih]
   split
   ·rw [List.map_cons, if_neg hk]
   ·rfl
theorem count_mem (t : Vaflxm.Text) : ∀ (l : List (Vaflxm.Text × Nat)) (x : Vaflxm.Text × Nat), x ∈ Vaflxm.countText t l → x.1 = t ∨ ∃ y ∈ l, y.1 = x.1
 | [], x, h => by
  have : x = (t, 1) := by simpa [Vaflxm.countText] using h
  exact .inl (by rw [this])
 | y :: l, x, h => by
  unfold Vaflxm.countText at h
  split at h
  ·rcases List.mem_cons.mp h with h | h
   ·exact .inl (by rw [h])
   ·exact .inr ⟨x, List.mem_cons_of_mem _ h, rfl⟩
  ·rcases List.mem_cons.mp h with h | h
   ·exact .inr ⟨y, List.mem_cons_self .., by rw [h]⟩
   ·rcases count_mem t l x h with z | ⟨z, hz, e⟩
    ·exact .inl z
    ·exact .inr ⟨z, List.mem_cons_of_mem _ hz, e⟩
theorem count_nodup (t : Vaflxm.Text) : ∀ l : List (Vaflxm.Text × Nat), (l.map (·.1)).Nodup → ((Vaflxm.countText t l).map (·.1)).Nodup
 | [], _ => by simp [Vaflxm.countText]
 | y :: l, h => by
  rw [List.map_cons, List.nodup_cons] at h
  obtain ⟨h1, h2⟩ := h
  unfold Vaflxm.countText
  split
  ·rename_i e
   rw [List.map_cons, List.nodup_cons]
   exact ⟨e ▸ h1, h2⟩
  ·rename_i e
   rw [List.map_cons, List.nodup_cons]
   refine ⟨fun m => ?_, count_nodup t l h2⟩
   obtain ⟨x, hx, ex⟩ := List.mem_map.mp m
   rcases count_mem t l x hx with z | ⟨z, hz, e2⟩
   ·exact e (by rw [← ex, z])
   ·exact h1 (by rw [← ex, ← e2]; exact List.mem_map_of_mem hz)
theorem count_len (t : Vaflxm.Text) : ∀ l : List (Vaflxm.Text × Nat), (Vaflxm.countText t l).length ≤ l.length + 1
 | [] => by simp [Vaflxm.countText]
 | y :: l => by
  unfold Vaflxm.countText
  split
  ·simp
  ·have := count_len t l
   simp
   omega
def outs (t : Vaflxm.Text) (prs : List (Nat × Nat)) : List (Vaflxm.Text × Nat) := (prs.filterMap fun p => Vaflxm.convert (Tm.formN p.1) (Tm.formN p.2) t).foldl (fun m u => Vaflxm.countText u m) []
theorem outs_snoc (t : Vaflxm.Text) (prs : List (Nat × Nat)) (p : Nat × Nat) : outs t (prs ++ [p]) = match Vaflxm.convert (Tm.formN p.1) (Tm.formN p.2) t with
  | none => outs t prs
  | some u => Vaflxm.countText u (outs t prs) := by
 unfold outs
 rw [List.filterMap_append, List.foldl_append]
 cases e : Vaflxm.convert (Tm.formN p.1) (Tm.formN p.2) t <;> simp [e]
theorem snoc_ind {α : Type} {M : List α → Prop} (h0 : M []) (hs : ∀ l x, M l → M (l ++ [x])) (l : List α) : M l := by
 have key : ∀ r : List α, M r.reverse := fun r => by
  induction r with
  | nil => exact h0
  | cons x r ih => rw [List.reverse_cons]; exact hs _ _ ih
 have := key l.reverse
 rwa [List.reverse_reverse] at this
theorem outs_ok (t : Vaflxm.Text) (prs : List (Nat × Nat)) : ((outs t prs).map (·.1)).Nodup ∧ (outs t prs).length ≤ prs.length ∧ ((∀ p ∈ prs, wfF (Tm.formN p.1) ∧ wfF (Tm.formN p.2)) → ∀ x ∈ outs t prs, x.1.length ≤ 60) := by
 refine snoc_ind (M := fun prs => ((outs t prs).map (·.1)).Nodup ∧ (outs t prs).length ≤ prs.length ∧ ((∀ p ∈ prs, wfF (Tm.formN p.1) ∧ wfF (Tm.formN p.2)) → ∀ x ∈ outs t prs, x.1.length ≤ 60)) ?_ (fun l p ih => ?_) prs
 ·exact ⟨by simp [outs], by simp [outs], fun _ x hx => by simp [outs] at hx⟩
 ·obtain ⟨i1, i2, i3⟩ := ih
  rw [outs_snoc]
  cases e : Vaflxm.convert (Tm.formN p.1) (Tm.formN p.2) t with
  | none => exact ⟨i1, by simp; omega, fun h x hx => i3 (fun q hq => h q (List.mem_append_left _ hq)) x hx⟩
  | some u =>
   refine ⟨count_nodup u _ i1, ?_, fun h x hx => ?_⟩
   ·have := count_len u (outs t l)
    simp
    omega
   ·rcases count_mem u _ x hx with z | ⟨y, hy, z⟩
    ·obtain ⟨w1, w2⟩ := h p (List.mem_append_right _ (List.mem_singleton.mpr rfl))
     rw [z]
     exact convert_small _ _ t u w1 w2 e
    ·rw [← z]
     exact i3 (fun q hq => h q (List.mem_append_left _ hq)) y hy
def told (l : List (Vaflxm.Text × Nat)) : List Int := l.flatMap fun x => Vaflxm.nat x.2 :: Vaflxm.counted x.1
theorem told_len : ∀ l : List (Vaflxm.Text × Nat), (∀ x ∈ l, x.1.length ≤ 60) → (told l).length ≤ 62 * l.length
 | [], _ => by simp [told]
 | x :: l, h => by
  have ih := told_len l fun y hy => h y (List.mem_cons_of_mem _ hy)
  have hx := h x (List.mem_cons_self ..)
  have e : told (x :: l) = (Vaflxm.nat x.2 :: Vaflxm.counted x.1) ++ told l := rfl
  have e2 : (Vaflxm.nat x.2 :: Vaflxm.counted x.1).length = x.1.length + 2 := by simp [Vaflxm.counted, Vaflxm.numbers]
  rw [e, List.length_append, e2, List.length_cons]
  omega
theorem ap_tLock {t : TS} {D : Ends} {σ : L2.St} {H : Hp} : tLock t D σ H = ∃ d u, H d = some u ∧ Mut (some u) ∧ ∀ od, t ⟨fun σ' H' => H' d = some (.frz od u) ∧ D.nx σ' (upd H' d u), fun v H' => H' d = some (.frz od u) ∧ D.rt v (upd H' d u), fun σ' H' => H' d = some (.frz od u) ∧ D.bk σ' (upd H' d u), fun σ' H' => H' d = some (.frz od u) ∧ D.ct σ' (upd H' d u)⟩ σ (upd H d (.frz od u)) := rfl
section
variable {P : Program} {w : World} {K : PySem.W.Frag} {mg : Str → Option Value} {base : Heap} {C : Cs}
def W_outputs : List Int → List Vaflxm.Text → Vaflxm.Call → Prop := fun ns ts c => ∃ t, ns = [] ∧ ts = [t] ∧ c = .outputs t
abbrev s_answer_outputs : Stmt := top 94
theorem sc_answer_outputs : FnScope ["desk", "numbers", "rows", "pair_counts", "pair", "answer", "text", "signs", "pair_count"] ["desk", "numbers", "rows"] (defScope s_answer_outputs) := by walk_at "N"
theorem ok_answer_outputs (T : Txt K mg) (N : CK K C.desk) (D : Def K mg "answer_outputs" s_answer_outputs ["desk", "numbers", "rows"]) (om_Desk_pairs_that_fit : Om P w K mg base C.desk 4 "pairs_that_fit" ["self"] (sp_Desk_pairs_that_fit C))
  (om_Desk_converted_by : Om P w K mg base C.desk 7 "converted_by" ["self", "pair", "text"] (sp_Desk_converted_by K C)) : Ok P w K mg base 8 "answer_outputs" ["desk", "numbers", "rows"] (spC C (fun ns ts c => W_outputs ns ts c)) := by
 refine D.ok sc_answer_outputs (fun vs H Q E h => ?_) (fun f cdv A outer s H vs Q E hr h => ?_)
 ·obtain ⟨d, n, r, e, exs, ns, ts, c, rfl, _⟩ := h
  rfl
 ·obtain ⟨d, n, r, e, exs, ns, ts, c, rfl, hd, hn, hr0, ⟨t, rfl, rfl, rfl⟩, h10, k⟩ := h
  have hs9 := sizeLine_eq
  have k := After.rd k hd
  obtain ⟨rs, ra, r1, r2, r3⟩ := row_at hr0 0 rfl
  obtain ⟨dx, pf, d1, d2, d3, as, e1, e2, e3⟩ := id hd
  obtain ⟨fs, f1, f2, f3⟩ := id d3
  refine ⟨_, (pss_cons (ps_if (pt_cmpR op_eq (pe_callB call_len_seq (by rfl) T.n_len boot_len (pa_cons (pe_fld (pv 0) rfl) pa_nil)) pe_int (nomark _)) (pss_one (ps_ret (pe_lst (pa_cons (pe_ci T.NO_EXAMPLES (by rfl)) pa_nil)))) pss_nil)
   (pss_cons (ps_set (i := 3) sc_answer_outputs.nd rfl (Or.inl rfl) pe_dnewT)
   (pss_cons (ps_for PassesOwn.never rfl (pi_list (pe_mt0 (pv 0) om_Desk_pairs_that_fit (hr.mono (by decide)))) (pg_name (i := 4) sc_answer_outputs.nd rfl (Or.inl rfl)) (pss_cons (ps_set (i := 6) sc_answer_outputs.nd rfl (Or.inl rfl) (pe_mt (pv 0) om_Desk_converted_by (hr.mono (by decide)) (pa_cons (pv 4) (pa_cons (pe_ix ix_list (pv 2) pe_int (fun _ _ => rfl)) pa_nil))))
   (pss_one (ps_if (pt_cmpR op_notN (pv 6) pe_non (nomark _)) (pss_one (ps_dput (hu_of hr) (pv 3) (pe_callTy call_tuple_of (by rfl) T.n_tuple boot_tuple (pa_cons (pv 6) pa_nil)) (pe_op op_add (pe_dget2 (hu_of hr) (pv 3) (pe_callTy call_tuple_of (by rfl) T.n_tuple boot_tuple (pa_cons (pv 6) pa_nil)) pe_int ⟨rfl, rfl, rfl, rfl⟩) pe_int) rfl)) pss_nil))))
   (pss_cons (ps_set (i := 5) sc_answer_outputs.nd rfl (Or.inl rfl) (pe_lst (pa_cons (pe_callB call_lenT (by rfl) T.n_len boot_len (pa_cons (pv 3) pa_nil)) pa_nil)))
   (pss_cons (ps_lock (ps_for PassesOwn.never rfl (pi_itemsT (pv 3)) (pg_tup (n := 2) rfl (pgs_cons (pg_name (i := 7) sc_answer_outputs.nd rfl (Or.inl rfl)) (pgs_cons (pg_name (i := 8) sc_answer_outputs.nd rfl (Or.inl rfl)) pgs_nil))) (pss_cons (ps_expr (pe_bm PySem.F.plainAttrs_list PySem.F.slot_list_append PySem.F.type_list_append mt_append (pv 5) (pa_cons (pv 8) pa_nil)))
   (pss_cons (ps_expr (pe_bm PySem.F.plainAttrs_list PySem.F.slot_list_append PySem.F.type_list_append mt_append (pv 5) (pa_cons (pe_callB call_len_seq (by rfl) T.n_len boot_len (pa_cons (pv 7) pa_nil)) pa_nil)))
   (pss_one (ps_expr (pe_bm PySem.F.plainAttrs_list PySem.F.slot_list_extend PySem.F.type_list_extend mt_extendT (pv 5) (pa_cons (pv 7) pa_nil))))))))
   (pss_one (ps_ret (pv 5)))))))), ?_⟩
  walk_at "S"
  refine ⟨_, dx, _, d1, N.cl, N.examples, _, dk_examples pf e, e, rfl, _, .inl (sqL_of e1), ?_⟩
  have el : ((as.map V.ref).length : Int) = (exs.length : Nat) := by rw [List.length_map, e2]
  rw [el]
  have ek : Vaflxm.answerOf ⟨exs⟩ (.outputs t) = if exs.isEmpty then [-8] else (let l := ((Vaflxm.pairsOf exs).filterMap fun p => Vaflxm.convert p.1.2 p.2.2 t).foldl (fun m u => Vaflxm.countText u m) []; Vaflxm.nat l.length :: l.flatMap fun x => Vaflxm.nat x.2 :: Vaflxm.counted x.1) := rfl
  rw [ek] at k
  split
  ·rename_i h0
   have : exs = [] := List.eq_nil_of_length_eq_zero (by omega)
   subst this
   exact ⟨by omega, fun p hp => k p _ (same_new hp) hp upd_same⟩
  ·rename_i h0
   have hne : exs.isEmpty = false := by
    cases exs with
    | nil => exact absurd rfl h0
    | cons => rfl
   rw [hne] at k
   have k : NewL H (List.map V.int (Vaflxm.nat (outs t (Tm.pairsTo exs Tm.count)).length :: told (outs t (Tm.pairsTo exs Tm.count)))) Q := by
    have e9 : ((Vaflxm.pairsOf exs).filterMap fun p => Vaflxm.convert p.1.2 p.2.2 t).foldl (fun m u => Vaflxm.countText u m) [] = outs t (Tm.pairsTo exs Tm.count) := by
     rw [Tm.pairs_eq, List.filterMap_map]
     rfl
    have k2 := k
    dsimp only at k2
    rw [e9] at k2
    exact k2
   obtain ⟨prs, hprs⟩ : ∃ prs, prs = Tm.pairsTo exs Tm.count := ⟨_, rfl⟩
   rw [← hprs] at k
   have hlt : ∀ x ∈ prs, x.1 < Tm.count ∧ x.2 < Tm.count := fun x hx => by rw [hprs] at hx; exact Tm.pairs_lt exs _ x hx
   have hpl : prs.length ≤ 74529 := by rw [hprs]; exact Tm.pairs_len exs Tm.count
   refine fun p hp => ⟨dx, _, same_new hp _ _ d1, dk_no pf e (by decide +kernel) (by decide +kernel), d, e, exs, rfl, hd.same (same_new hp), h10, fun pl H2 s2 hpl2 hP => ?_⟩
   rw [← hprs] at hP
   obtain ⟨qs, q1, q2⟩ := hP
   have hp2 : H2 p = some (.dT []) := s2 _ _ upd_same
   have s02 : Same H H2 := (same_new hp).trans s2
   refine ⟨pl, rfl, ⟨_, sqL_of q1⟩, ?_⟩
   obtain ⟨Po, hPo⟩ : ∃ Po : Nat → L2.St → Hp → Prop, Po = fun i σ H' => ∃ v4 v6, σ = [some (.ref d), some (.ref n), some (.ref r), some (.ref p), v4, none, v6, none, none] ∧ Same H H' ∧ H' p = some (.dT (enc (outs t (prs.take i)))) ∧ H' pl = some (.lst (qs.map V.ref)) ∧ TupsAt H' qs prs := ⟨_, rfl⟩
   refine for_by (steps_list K pl (qs.map V.ref)) Po ?_ (fun i σ H' _ h => ?_) ?_ ?_
   ·rw [hPo]
    exact ⟨none, none, rfl, s02, hp2, q1, q2⟩
   ·rw [hPo] at h
    obtain ⟨v4, v6, rfl, _, _, z, _⟩ := h
    exact sqL_of z
   ·intro i σ H3 hi h
    rw [hPo] at h
    obtain ⟨v4, v6, rfl, s3, hp3, hl3, ht3⟩ := h
    have hi : i < qs.length := by simpa using hi
    have hi2 : i < prs.length := by rw [← q2.1]; exact hi
    have ei : (qs.map V.ref).getD i .non = .ref qs[i] := by simp [List.getD, hi]
    rw [ei]
    have hx := ht3.2 i qs[i] prs[i] (List.getElem?_eq_getElem hi) (List.getElem?_eq_getElem hi2)
    obtain ⟨x1, x2⟩ := hlt prs[i] (List.getElem_mem hi2)
    walk_at "S"
    refine ⟨dx, _, s3 _ _ d1, dk_no pf e (by decide +kernel) (by decide +kernel), _, sqL_of (s3 _ _ r1), _, r2, d, e, qs[i], ra, exs, prs[i], t, rfl, hd.same s3, hx, x1, x2, sqL_of (s3 _ _ r3), ?_⟩
    have st : outs t (prs.take (i + 1)) = _ := (congrArg (outs t) (take_one (List.getElem?_eq_getElem hi2))).trans (outs_snoc t (prs.take i) prs[i])
    cases hc : Vaflxm.convert (Tm.formN prs[i].1) (Tm.formN prs[i].2) t with
    | none =>
     rw [hc] at st
     intro H4 s4
     simp
     rw [hPo]
     refine ⟨_, _, rfl, s3.trans s4, ?_, s4 _ _ hl3, ht3.same fun b xs z => s4 _ _ z⟩
     rw [st]
     exact s4 _ _ hp3
    | some u =>
     rw [hc] at st
     intro q H4 s4 hq hq4
     rw [if_pos (by intro z; cases z)]
     have hp4 := s4 _ _ hp3
     obtain ⟨o1, o2, o3⟩ := outs_ok t (prs.take i)
     refine ⟨.inr ⟨_, .inl hp4⟩, q, rfl, tv u, .inl ⟨sqL_of hq4, fun l1 hl1 => ?_⟩⟩
     have s5 : Same H4 (upd H4 l1 (.tup (tv u))) := same_new hl1
     refine ⟨_, DGet.t (k := keyOf u) (s5 _ _ hp4) (by rw [keyOf_kV]; exact upd_same), _, val_enc u _, q, rfl, tv u, .inl ⟨sqL_of (s5 _ _ hq4), fun l2 hl2 => ?_⟩⟩
     have s6 := same_new (o := .tup (tv u)) hl2
     have hp6 := s6 _ _ (s5 _ _ hp4)
     refine ⟨_, DPut.t (k := keyOf u) hp6 (by rw [keyOf_kV]; exact upd_same) ?_, ?_⟩
     ·have : (enc (outs t (prs.take i))).length = (outs t (prs.take i)).length := by simp [enc]
      have : (prs.take i).length ≤ prs.length := by rw [List.length_take]; omega
      omega
     ·rw [put_enc u _ o1, hPo]
      refine ⟨_, _, rfl, (s3.trans (s4.trans (s5.trans s6))).put hp, by rw [upd_same, st], ?_, ?_⟩
      ·have z := s6 _ _ (s5 _ _ (s4 _ _ hl3))
       rw [upd_ne (ne_of z hp6 (by intro y; cases y))]
       exact z
      ·refine ht3.same fun b xs z => ?_
       have z := s6 _ _ (s5 _ _ (s4 _ _ z))
       rw [upd_ne (ne_of z hp6 (by intro y; cases y))]
       exact z
   ·intro σ H3 h
    rw [hPo] at h
    obtain ⟨v4, v6, rfl, s3, hp3, hl3, ht3⟩ := h
    rw [List.length_map, q2.1, List.take_of_length_le (Nat.le_refl _)] at hp3
    clear hl3 ht3
    obtain ⟨o1, o2, o3⟩ := outs_ok t prs
    have o3 := o3 fun x hx => ⟨formN_wf (hlt x hx).1, formN_wf (hlt x hx).2⟩
    obtain ⟨L, hL⟩ : ∃ L, L = outs t prs := ⟨_, rfl⟩
    rw [← hL] at hp3 o1 o2 o3 k
    have eL : (enc L).length = L.length := by simp [enc]
    walk_at "S"
    refine ⟨_, hp3, by omega, fun ans hans => ?_⟩
    rw [eL]
    have hp4 : upd H3 ans (.lst [V.int (L.length : Nat)]) p = some (.dT (enc L)) := same_new hans _ _ hp3
    simp only [ap_tLock]
    refine ⟨p, _, hp4, trivial, fun od => ?_⟩
    walk_at "S"
    refine ⟨_, _, upd_same, ?_⟩
    have nap : ans ≠ p := Ne.symm (ne_of_none hp3 hans)
    obtain ⟨Pi, hPi⟩ : ∃ Pi : Nat → L2.St → Hp → Prop, Pi = fun i σ H' => ∃ v7 v8, σ = [some (.ref d), some (.ref n), some (.ref r), some (.ref p), v4, some (.ref ans), v6, v7, v8] ∧ (∀ b o, H b = some o → b ≠ p → H' b = some o) ∧ H' p = some (.frz od (.dT (enc L))) ∧ H' ans = some (.lst ((Vaflxm.nat L.length :: told (L.take i)).map V.int)) := ⟨_, rfl⟩
    refine for_itemsT (kvs := enc L) Pi ?_ (fun i σ H' _ h => ?_) ?_ ?_
    ·rw [hPi]
     refine ⟨none, none, rfl, fun b o z hb => ?_, upd_same, ?_⟩
     ·rw [upd_ne hb]
      exact same_new hans _ _ (s3 _ _ z)
     ·rw [upd_ne nap, upd_same]
      rfl
    ·rw [hPi] at h
     obtain ⟨_, _, _, _, z, _⟩ := h
     exact z
    ·intro i kk v q σ H4 T' hkv h hT hq
     rw [hPi] at h
     obtain ⟨v7, v8, rfl, k4, hp4, ha4⟩ := h
     have hi : i < L.length := by rw [← eL]; exact (List.getElem?_eq_some_iff.mp hkv).1
     have ex : (kk, v) = (keyOf L[i].1, V.int (L[i].2 : Nat)) := by
      unfold enc at hkv
      rw [List.getElem?_map, List.getElem?_eq_getElem hi] at hkv
      exact (Option.some.inj hkv).symm
     cases ex
     rw [keyOf_kV] at hq
     have s5 : Same H4 (upd H4 T' (.tup [.ref q, .int (L[i].2 : Nat)])) := same_new hT
     have ha5 := s5 _ _ ha4
     have hq5 := s5 _ _ hq
     have b1 := told_len (L.take i) fun x hx => o3 x (List.mem_of_mem_take hx)
     have b2 : (L.take i).length ≤ i := by rw [List.length_take]; omega
     have b3 := o3 L[i] (List.getElem_mem hi)
     walk_at "S"
     refine ⟨_, sqT_of upd_same, rfl, _, _, rfl, _, _, rfl, rfl, ?_⟩
     walk_at "S"
     have nq : q ≠ ans := ne_of hq5 ha5 (by intro z; cases z)
     have np : p ≠ ans := Ne.symm nap
     have hl1 : ((Vaflxm.nat L.length :: told (L.take i)).map V.int).length ≤ 5000000 := by
      rw [List.length_map, List.length_cons]
      omega
     have hl2 : (tv L[i].1).length ≤ 60 := by simpa [tv] using b3
     refine ⟨tyL_of (sqL_of ha5), _, ha5, by omega, ?_⟩
     refine ⟨tyL_of (sqL_of upd_same), _, .inr (sqT_of (by rw [upd_ne nq]; exact hq5)), _, upd_same, ?_, ?_⟩
     ·rw [List.length_append]
      show _ + 1 < _
      omega
     ·refine ⟨tyL_of (sqL_of upd_same), _, upd_same, _, by rw [upd_ne nq, upd_ne nq]; exact hq5, ?_, ?_⟩
      ·rw [List.length_append, List.length_append]
       show _ + 1 + 1 + _ ≤ _
       omega
      ·rw [hPi]
       refine ⟨_, _, rfl, fun b o z hb => ?_, ?_, ?_⟩
       ·have nb : b ≠ ans := ne_of_none z (s3.free hans)
        rw [upd_ne nb, upd_ne nb, upd_ne nb]
        exact s5 _ _ (k4 b o z hb)
       ·rw [upd_ne np, upd_ne np, upd_ne np]
        exact s5 _ _ hp4
       ·rw [upd_same, take_one (List.getElem?_eq_getElem hi)]
        generalize L.take i = Y
        simp [told, Vaflxm.nat, Vaflxm.counted, Vaflxm.numbers, tv]
    ·intro σ H4 h
     rw [hPi] at h
     obtain ⟨v7, v8, rfl, k4, hp4, ha4⟩ := h
     rw [eL, List.take_of_length_le (Nat.le_refl _)] at ha4
     walk_at "S"
     refine ⟨hp4, k ans _ (fun b o z => ?_) (s3.free hans) ?_⟩
     ·have nb : b ≠ p := ne_of_none z hp
      rw [upd_ne nb]
      exact k4 b o z nb
     ·rw [upd_ne nap]
      exact ha4
end
def But (H : Hp) (a : Addr) (H' : Hp) : Prop := ∀ b o, H b = some o → b ≠ a → H' b = some o
theorem But.trans {H H1 H2 : Hp} {a : Addr} (h : But H a H1) (h2 : But H1 a H2) : But H a H2 := fun b o z n => h2 b o (h b o z n) n
theorem But.free {H H' : Hp} {a b : Addr} {o : HO} (h : But H a H') (hb : H' b = none) (ha : H' a = some o) : H b = none := by
 cases q : H b with
 | none => rfl
 | some o =>
  by_cases e : b = a
  ·rw [e, ha] at hb; cases hb
  ·rw [h b o q e] at hb; cases hb
theorem ex_no (p q : Addr) {m : Str} (h1 : ¬ m = "source_values") (h2 : ¬ m = "target_values") : (exF p q).lookup m = none := by
 unfold exF
 rw [lookup_putF, if_neg h2, lookup_putF, if_neg h1]
 rfl
theorem ne_line {H : Hp} {a ln L dx C dy c : Addr} {pl : Nat} {fs : List (Str × V)} (h : H a = some (.ins L dx fs)) (hf : fs.lookup ("calls" : Str) = none) (hl : H ln = some (.ins C dy (lnF c pl))) : a ≠ ln := fun z => by
 rw [z, hl] at h
 have w1 := Option.some.inj h
 injection w1 with _ _ w2
 rw [← w2, ln_calls] at hf
 cases hf
theorem DeskAt.but {C : Cs} {H H' : Hp} {d e ln L dy c : Addr} {pl : Nat} {exs : List (Vaflxm.Text × Vaflxm.Text)} (h : DeskAt C H d e exs) (hl : H ln = some (.ins L dy (lnF c pl))) (s : But H ln H') : DeskAt C H' d e exs := by
 obtain ⟨dx, f, h1, h2, ⟨fs, f1, f2, f3⟩, as, e1, e2, e3⟩ := h
 have nl : ∀ b xs, H b = some (.lst xs) → b ≠ ln := fun b xs z => ne_of z hl (by intro y; cases y)
 have nt : ∀ b xs, H b = some (.tup xs) → b ≠ ln := fun b xs z => ne_of z hl (by intro y; cases y)
 have vals : ∀ p os, ValsAt H p os → ValsAt H' p os := fun p os ⟨vs, z1, z2, z3⟩ => ⟨vs, s _ _ z1 (nl _ _ z1), z2, fun i v o q1 q2 => (z3 i v o q1 q2).same fun b xs z => s _ _ z (nt _ _ z)⟩
 refine ⟨dx, f, s _ _ h1 (ne_line h1 (dk_no f e (by decide +kernel) (by decide +kernel)) hl), h2, ⟨fs, s _ _ f1 (nl _ _ f1), f2, fun i a g q1 q2 => ?_⟩, as, s _ _ e1 (nl _ _ e1), e2, fun i a x q1 q2 => ?_⟩
 ·obtain ⟨dx2, z⟩ := f3 i a g q1 q2
  refine ⟨dx2, s _ _ z (ne_line z ?_ hl)⟩
  cases g with
  | num g => exact nf_no g (by decide +kernel) (by decide +kernel) (by decide +kernel) (by decide +kernel)
  | date g => exact df_no g (by decide +kernel) (by decide +kernel) (by decide +kernel) (by decide +kernel)
 ·obtain ⟨dx2, p, q, z1, n1, n2, v1, v2⟩ := e3 i a x q1 q2
  exact ⟨dx2, p, q, s _ _ z1 (ne_line z1 (ex_no p q (by decide +kernel) (by decide +kernel)) hl), n1, n2, vals _ _ v1, vals _ _ v2⟩
theorem call_parts {l : List Int} {cl : List (List Int)} {rest : List Int} (h : PyFlat.call PyVaflxm.shape l = some (cl, rest)) : ∃ (p : Int) (ns tail : List Int) (rows : List (List Int)) (n k : Nat), l = p :: (ns ++ tail) ∧ PyVaflxm.shape p = some (n, k) ∧ ns.length = n ∧ cl = (p :: ns) :: rows ∧ PyFlat.rows k tail = some (rows, rest) := by
 cases l with
 | nil => cases h
 | cons p r =>
  have h : (match PyVaflxm.shape p with
   | none => none
   | some (n, k) => if r.length < n then none else match PyFlat.rows k (r.drop n) with
    | none => none
    | some (xs, t) => some ((p :: r.take n) :: xs, t)) = some (cl, rest) := h
  cases hs : PyVaflxm.shape p with
  | none => rw [hs] at h; cases h
  | some nk =>
   obtain ⟨n, k⟩ := nk
   rw [hs] at h
   dsimp only at h
   split at h
   ·cases h
   ·rename_i hlen
    cases hr : PyFlat.rows k (r.drop n) with
    | none => rw [hr] at h; cases h
    | some xt =>
     obtain ⟨xs, t⟩ := xt
     rw [hr] at h
     injection h with h
     injection h with h1 h2
     subst h1 h2
     exact ⟨p, r.take n, r.drop n, xs, n, k, by rw [List.take_append_drop], hs, by rw [List.length_take]; omega, rfl, hr⟩
theorem rows_len : ∀ (k : Nat) (l : List Int) (xs : List (List Int)) (t : List Int), PyFlat.rows k l = some (xs, t) → xs.length = k
 | 0, l, xs, t, h => by
  unfold PyFlat.rows at h
  injection h with h
  injection h with h1 h2
  rw [← h1]
  rfl
 | k + 1, l, xs, t, h => by
  unfold PyFlat.rows at h
  split at h
  ·cases h
  ·split at h
   ·cases h
   ·rename_i ys t' hr
    injection h with h
    injection h with h1 h2
    rw [← h1, List.length_cons, rows_len k _ _ _ hr]
theorem rows_step {k : Nat} {l : List Int} {x : List Int} {xs : List (List Int)} {t : List Int} (h : PyFlat.rows (k + 1) l = some (x :: xs, t)) : ∃ (len : Nat) (r : List Int), l = (len : Int) :: r ∧ x = r.take len ∧ len ≤ r.length ∧ PyFlat.rows k (r.drop len) = some (xs, t) := by
 unfold PyFlat.rows at h
 split at h
 ·cases h
 ·rename_i y s hr
  split at h
  ·cases h
  ·rename_i ys t' hr2
   injection h with h
   injection h with h1 h2
   injection h1 with h1 h3
   subst h1 h2 h3
   unfold PyFlat.row at hr
   split at hr
   ·cases hr
   ·rename_i n r
    split at hr
    ·rename_i hn
     injection hr with hr
     injection hr with w1 w2
     subst w1 w2
     exact ⟨n.toNat, r, by rw [show ((n.toNat : Nat) : Int) = n by omega], rfl, hn.2, hr2⟩
    ·cases hr
theorem drop_head {ns r : List Int} {pl : Nat} {x : Int} (h : ns.drop pl = x :: r) : ns[pl]? = some x ∧ ns.drop (pl + 1) = r := by
 have h0 : (ns.drop pl)[0]? = some x := by rw [h]; rfl
 rw [List.getElem?_drop] at h0
 refine ⟨by simpa using h0, ?_⟩
 rw [← List.drop_drop, h]
 rfl
section
variable {P : Program} {w : World} {K : PySem.W.Frag} {mg : Str → Option Value} {base : Heap} {C : Cs}
theorem line_lst {H H' : Hp} {ln L c D : Addr} {pl : Nat} {xs ys : List V} (h : LineAt K L H ln c pl) (hD : H D = some (.lst xs)) : LineAt K L (upd H D (.lst ys)) ln c pl := by
 obtain ⟨dx, h⟩ := h
 exact ⟨dx, by rw [upd_ne (ne_of h hD (by intro z; cases z))]; exact h⟩
theorem lc_nums {σ : L2.St} {L ln c : Addr} {pl n x y : Nat} {ns ms tail : List Int} {H : Hp} {Q : VK} (hn : ms.length = n) (hb : n ≤ 1000) (hd : ns.drop pl = ms ++ tail) (hL : LineAt K L H ln c pl) (hc : SqL K H c (ns.map V.int)) (hs : x < σ.length) (hxy : x ≠ y) (hy : σ[y]? = some (some (.ref ln)))
  (k : ∀ D H', H D = none → But H ln H' → LineAt K L H' ln c (pl + n) → H' D = some (.lst (ms.map V.int)) → Q (.ref D) H') : lcJ (Itr 0 n) (gName x) tYes (tMeth L "take_number" (sp_Line_take_number K L) [] E0 (tVar y) tNil) [x] σ H Q := by
 have hs9 := sizeLine_eq
 obtain ⟨dL, hL0⟩ := id hL
 refine lc_by (steps_rng 0 n) fun D hD => ?_
 obtain ⟨Pv, hPv⟩ : ∃ Pv : Nat → Hp → Prop, Pv = fun j H' => But H ln H' ∧ LineAt K L H' ln c (pl + j) ∧ H' D = some (.lst ((ms.take j).map V.int)) := ⟨_, rfl⟩
 refine ⟨Pv, ?_, fun _ _ _ _ => trivial, fun j H' hj h => ?_, fun H' h => ?_⟩
 ·rw [hPv]
  obtain ⟨dx, hL⟩ := hL
  exact ⟨fun b o z _ => same_new hD _ _ z, ⟨dx, same_new hD _ _ hL⟩, upd_same⟩
 ·have h' := h
  rw [hPv] at h'
  obtain ⟨k1, ⟨dx1, l1⟩, d1⟩ := h'
  have hjm : j < ms.length := by omega
  have e1 : ns[pl + j]? = some ms[j] := by
   have : (ns.drop pl)[j]? = (ms ++ tail)[j]? := by rw [hd]
   rw [List.getElem?_drop, List.getElem?_append_left hjm, List.getElem?_eq_getElem hjm] at this
   exact this
  simp only [wipe]
  walk_at "S"
  refine ⟨by rw [List.set_set, List.set_set], _, by rw [List.getElem?_set_ne hxy, List.getElem?_set_ne hxy]; exact hy, ln, rfl, dx1, _, l1, ln_no c _ (by decide +kernel) (by decide +kernel), ln, c, pl + j, ns, ms[j], rfl, ⟨dx1, l1⟩, sq_ins hc hL0 k1, e1, ?_⟩
  rintro H2 ⟨l2, k2⟩
  have nD : D ≠ ln := ne_of d1 l1 (by intro z; cases z)
  have d2 := k2 _ _ d1 nD
  refine ⟨_, d2, by rw [List.length_map, List.length_take]; omega, ?_⟩
  rw [hPv]
  refine ⟨fun b o z n => ?_, line_lst (H' := H2) l2 d2, ?_⟩
  ·rw [upd_ne (ne_of_none z hD)]
   exact k2 _ _ (k1 b o z n) n
  ·rw [upd_same, take_one (List.getElem?_eq_getElem hjm), List.map_append]
   rfl
 ·rw [hPv] at h
  obtain ⟨k1, l1, d1⟩ := h
  rw [List.take_of_length_le (by omega)] at d1
  exact k D H' hD k1 l1 d1
def RowsI (H : Hp) (as : List Addr) (rows : List (List Int)) : Prop := ∀ (i : Nat) (a : Addr) (x : List Int), as[i]? = some a → rows[i]? = some x → H a = some (.lst (x.map V.int))
theorem lc_rows {σ : L2.St} {L ln c : Addr} {pl n x y : Nat} {ns rest : List Int} {rows : List (List Int)} {H : Hp} {Q : VK} (hr : PyFlat.rows n (ns.drop pl) = some (rows, rest)) (hb : n ≤ 1000) (hL : LineAt K L H ln c pl) (hc : SqL K H c (ns.map V.int)) (hs : x < σ.length) (hxy : x ≠ y) (hy : σ[y]? = some (some (.ref ln)))
  (k : ∀ D H' pl' as, H D = none → But H ln H' → LineAt K L H' ln c pl' → ns.drop pl' = rest → H' D = some (.lst (as.map V.ref)) → as.length = rows.length → RowsI H' as rows → Q (.ref D) H') : lcJ (Itr 0 n) (gName x) tYes (tMeth L "take_row" (sp_Line_take_row K L) [] E0 (tVar y) tNil) [x] σ H Q := by
 have hs9 := sizeLine_eq
 have hrl := rows_len n _ _ _ hr
 obtain ⟨dL, hL0⟩ := id hL
 refine lc_by (steps_rng 0 n) fun D hD => ?_
 obtain ⟨Pv, hPv⟩ : ∃ Pv : Nat → Hp → Prop, Pv = fun j H' => ∃ (as : List Addr) (q : Nat), But H ln H' ∧ LineAt K L H' ln c q ∧ PyFlat.rows (n - j) (ns.drop q) = some (rows.drop j, rest) ∧ H' D = some (.lst (as.map V.ref)) ∧ as.length = j ∧ (∀ a ∈ as, a ≠ D) ∧ RowsI H' as rows := ⟨_, rfl⟩
 refine ⟨Pv, ?_, fun _ _ _ _ => trivial, fun j H' hj h => ?_, fun H' h => ?_⟩
 ·rw [hPv]
  obtain ⟨dx, hL⟩ := hL
  exact ⟨[], pl, fun b o z _ => same_new hD _ _ z, ⟨dx, same_new hD _ _ hL⟩, hr, upd_same, rfl, fun a z => (by cases z), fun i a x z => (by simp at z)⟩
 ·have h' := h
  rw [hPv] at h'
  obtain ⟨as, q, k1, ⟨dx1, l1⟩, r1, d1, al, an, ar⟩ := h'
  have hjr : j < rows.length := by omega
  rw [show n - j = (n - (j + 1)) + 1 by omega, List.drop_eq_getElem_cons hjr] at r1
  obtain ⟨len, r, e1, e2, e3, e4⟩ := rows_step r1
  obtain ⟨w1, w2⟩ := drop_head e1
  simp only [wipe]
  walk_at "S"
  refine ⟨by rw [List.set_set, List.set_set], _, by rw [List.getElem?_set_ne hxy, List.getElem?_set_ne hxy]; exact hy, ln, rfl, dx1, _, l1, ln_no c _ (by decide +kernel) (by decide +kernel), ln, c, q, ns, len, rfl, ⟨dx1, l1⟩, sq_ins hc hL0 k1, w1, ?_⟩
  intro p H2 hp l2 k2 hp2
  have nD : D ≠ ln := ne_of d1 l1 (by intro z; cases z)
  have d2 := k2 _ _ d1 nD
  have npD : p ≠ D := fun z => by rw [z, d1] at hp; cases hp
  refine ⟨_, d2, by rw [List.length_map]; omega, ?_⟩
  rw [hPv]
  refine ⟨as ++ [p], q + 1 + len, fun b o z n => ?_, line_lst (H' := H2) l2 d2, ?_, by rw [upd_same, List.map_append]; rfl, by simp [al], ?_, ?_⟩
  ·rw [upd_ne (ne_of_none z hD)]
   exact k2 _ _ (k1 b o z n) n
  ·rw [← List.drop_drop, w2]
   exact e4
  ·intro a ha
   rcases List.mem_append.mp ha with ha | ha
   ·exact an a ha
   ·rw [List.mem_singleton.mp ha]
    exact npD
  ·intro i a z q1 q2
   by_cases hi : i < as.length
   ·rw [List.getElem?_append_left hi] at q1
    have g := ar i a z q1 q2
    rw [upd_ne (an a (List.mem_of_getElem? q1))]
    exact k2 _ _ g (ne_of g l1 (by intro y; cases y))
   ·have en : i = as.length := by
     have := (List.getElem?_eq_some_iff.mp q1).1
     simp at this
     omega
    subst en
    rw [List.getElem?_append_right (by omega), Nat.sub_self] at q1
    have ea : p = a := Option.some.inj q1
    rw [al, List.getElem?_eq_getElem hjr] at q2
    have ez : rows[j] = z := Option.some.inj q2
    subst ea ez
    rw [upd_ne npD, hp2, w2, e2]
 ·rw [hPv] at h
  obtain ⟨as, q, k1, l1, r1, d1, al, an, ar⟩ := h
  rw [Nat.sub_self] at r1
  unfold PyFlat.rows at r1
  injection r1 with r1
  injection r1 with _ r1
  exact k D H' q as hD k1 l1 r1 d1 (by omega) ar
end
def callsT (fs : List Addr) : List (List V) := (List.zip Tm.tab fs).map fun x => [.int (x.1.1 : Nat), .int (x.1.2 : Nat), .ref x.2]
def sp_answer_call (K : PySem.W.Frag) (C : Cs) : Sp := fun vs H Q _ => ∃ (d ln e c : Addr) (pl : Nat) (exs : List (Vaflxm.Text × Vaflxm.Text)) (ns : List Int) (cl : List (List Int)) (rest : List Int) (cc : Vaflxm.Call), vs = [.ref d, .ref ln] ∧ DeskAt C H d e exs ∧ exs.length ≤ 10 ∧ LineAt K C.line H ln c pl ∧ SqL K H c (ns.map V.int) ∧
 PyFlat.call PyVaflxm.shape (ns.drop pl) = some (cl, rest) ∧ VaflxmNeutral.callOf cl = some cc ∧ VaflxmNeutral.asked1 cl = true ∧
 ∀ p H' e' pl', (∀ b o, H b = some o → b ≠ d → b ≠ e → b ≠ ln → H' b = some o) → DeskAt C H' d e' (Vaflxm.step ⟨exs⟩ cc).1.examples → (e' = e ∨ H e' = none) → LineAt K C.line H' ln c pl' → ns.drop pl' = rest → H p = none → H' p = some (.lst ((Vaflxm.step ⟨exs⟩ cc).2.map V.int)) → Q (.ref p) H'
section
variable {P : Program} {w : World} {K : PySem.W.Frag} {mg : Str → Option Value} {base : Heap} {C : Cs}
abbrev s_answer_call : Stmt := top 96
theorem sc_answer_call : FnScope ["desk", "line", "call", "numbers", "rows", "answer", "step"] ["desk", "line"] (defScope s_answer_call) := by walk_at "N"
theorem ok_answer_call (T : Txt K mg) (D : Def K mg "answer_call" s_answer_call ["desk", "line"]) (fs : List Addr) (hfl : fs.length = 15) (hCALLS : CTT K mg "CALLS" (callsT fs)) (hF : ∀ (i : Nat) (f : Addr), fs[i]? = some f → FV P w K mg base 8 f (spC C (Tm.WW i)))
  (om_Line_take_number : Om P w K mg base C.line 1 "take_number" ["self"] (sp_Line_take_number K C.line)) (om_Line_take_row : Om P w K mg base C.line 2 "take_row" ["self"] (sp_Line_take_row K C.line)) : Ok P w K mg base 9 "answer_call" ["desk", "line"] (sp_answer_call K C) := by
 refine D.ok sc_answer_call (fun vs H Q E h => ?_) (fun f cdv A outer s H vs Q E hr h => ?_)
 ·obtain ⟨d, ln, e, c, pl, exs, ns, cl, rest, cc, rfl, _⟩ := h
  rfl
 ·obtain ⟨d, ln, e, c, pl, exs, ns, cl, rest, cc, rfl, hd, h10, ⟨dy, hL⟩, hc, hcall, hcc, hask, k⟩ := h
  have hs9 := sizeLine_eq
  obtain ⟨p, ms, tail, rows, n, m, e1, e2, e3, e4, e5⟩ := call_parts hcall
  have hrl := rows_len _ _ _ _ e5
  subst e4
  obtain ⟨i, ts, rfl, hi, ets, hW⟩ := Tm.asked_call p ms rows n m e2 e3 hrl cc hcc hask
  have hi15 : i < 15 := (List.getElem?_eq_some_iff.mp hi).1
  have hnm : n ≤ 4 ∧ m ≤ 2 := by
   have : ∀ x ∈ Tm.tab, x.1 ≤ 4 ∧ x.2 ≤ 2 := by decide
   exact this _ (List.mem_of_getElem? hi)
  obtain ⟨w1, w2⟩ := drop_head e1
  have hif : i < fs.length := by omega
  have ext : (callsT fs)[i]? = some [.int (n : Nat), .int (m : Nat), .ref fs[i]] := by
   unfold callsT
   rw [List.getElem?_map, List.getElem?_zip_eq_some (z := ((n, m), fs[i])) |>.mpr ⟨hi, List.getElem?_eq_getElem hif⟩]
   rfl
  refine ⟨_, (pss_cons (ps_set (i := 2) sc_answer_call.nd rfl (Or.inl rfl) (pe_ix ix_tup (pe_ctt hCALLS (by rfl)) (pe_mt0 (pv 1) om_Line_take_number (hr.mono (by decide))) (fun _ _ => rfl)))
   (pss_cons (ps_setLc (i := 3) rfl sc_answer_call.nd rfl rfl (sw_true rfl rfl rfl rfl) (pi_range1 (by rfl) T.n_range (pa_cons (pe_ix ix_tup (pv 2) pe_int (fun _ _ => rfl)) pa_nil)) (blkOk_by (own := [("step", 6)]) (by show blkC ["desk", "line", "call", "numbers", "rows", "answer", "step"] (defScope s_answer_call) _ _ = true; decide +kernel)) (fun _ _ _ _ _ => (pg_name (i := 6) sc_answer_call.nd rfl (Or.inl rfl))) (fun _ _ _ _ _ => pts_nil) (fun _ _ _ _ _ => (pe_mt0 (pv 1) om_Line_take_number (hr.mono (by decide)))))
   (pss_cons (ps_setLc (i := 4) rfl sc_answer_call.nd rfl rfl (sw_true rfl rfl rfl rfl) (pi_range1 (by rfl) T.n_range (pa_cons (pe_ix ix_tup (pv 2) pe_int (fun _ _ => rfl)) pa_nil)) (blkOk_by (own := [("step", 6)]) (by show blkC ["desk", "line", "call", "numbers", "rows", "answer", "step"] (defScope s_answer_call) _ _ = true; decide +kernel)) (fun _ _ _ _ _ => (pg_name (i := 6) sc_answer_call.nd rfl (Or.inl rfl))) (fun _ _ _ _ _ => pts_nil) (fun _ _ _ _ _ => (pe_mt0 (pv 1) om_Line_take_row (hr.mono (by decide)))))
   (pss_cons (ps_set (i := 5) sc_answer_call.nd rfl (Or.inl rfl) (pe_ix ix_tup (pv 2) pe_int (fun _ _ => rfl)))
   (pss_one (ps_ret (pe_val (pv 5) hr (pa_cons (pv 0) (pa_cons (pv 3) (pa_cons (pv 4) pa_nil)))))))))), ?_⟩
  walk_at "S"
  intro ca as hK1 hK2 hK3
  have hia : i < as.length := by rw [hK2]; exact (List.getElem?_eq_some_iff.mp ext).1
  have hK := hK3 i as[i] _ (List.getElem?_eq_getElem hia) ext
  refine ⟨dy, _, hL, ln_no c pl (by decide +kernel) (by decide +kernel), ln, c, pl, ns, (i : Int), rfl, ⟨dy, hL⟩, hc, w1, ?_⟩
  rintro H1 ⟨l1, k1⟩
  have k1 : But H ln H1 := k1
  have hai : atI (as.map V.ref) (i : Int) = some (.ref as[i]) := at_of (j := i) rfl (by rw [List.getElem?_map, List.getElem?_eq_getElem hia]; rfl)
  refine ⟨_, (i : Int), rfl, hK1.sq _, _, hai, as[i], rfl, _, hK.sq _, _, rfl, (n : Int), rfl, by omega, by omega, ?_⟩
  rw [Int.toNat_natCast]
  refine lc_nums (ms := ms) e3 (by omega) w2 l1 (sq_ins hc hL k1) (by show 6 < 7; omega) (by omega) rfl fun D1 H2 nD1 k2 l2 v2 => ?_
  refine ⟨as[i], rfl, _, hK.sq _, _, rfl, (m : Int), rfl, by omega, by omega, ?_⟩
  rw [Int.toNat_natCast]
  have k12 : But H ln H2 := k1.trans k2
  have hd2 : ns.drop (pl + 1 + n) = tail := by
   rw [← List.drop_drop, w2, List.drop_append_of_le_length (by omega), List.drop_eq_nil_of_le (by omega)]
   rfl
  refine lc_rows (ns := ns) (rows := rows) (rest := rest) (by rw [hd2]; exact e5) (by omega) l2 (sq_ins hc hL k12) (by show 6 < 7; omega) (by omega) rfl fun D2 H3 pl3 bs nD2 k3 l3 ed3 v3 bl3 r3 => ?_
  have k13 : But H ln H3 := k12.trans k3
  obtain ⟨dy3, l3'⟩ := id l3
  refine ⟨as[i], rfl, _, hK.sq _, _, rfl, fs[i], rfl, _, hF i fs[i] (List.getElem?_eq_getElem hif), d, D1, D2, e, exs, ms, ts, cc, rfl, hd.but hL k13, ?_, ⟨bs, v3, ?_, fun j a t z1 z2 => ?_⟩, hW, h10, ?_⟩
  ·exact k3 _ _ v2 (let ⟨_, l2'⟩ := l2; ne_of v2 l2' (by intro z; cases z))
  ·rw [bl3, ets, List.length_map]
  ·have := r3 j a (Tm.intsOf t) z1 (by rw [ets, List.getElem?_map, z2]; rfl)
   rw [this]
   unfold Tm.intsOf tv
   rw [List.map_map]
   rfl
  ·intro q H4 e' fr hD4 he4 hq hq4
   have nd : ln ≠ d := by
    obtain ⟨dx, pf, z, _⟩ := hd
    exact Ne.symm (ne_line z (dk_no pf e (by decide +kernel) (by decide +kernel)) hL)
   have ne : ln ≠ e := by
    obtain ⟨dx, pf, z, z2, z3, as2, z4, _⟩ := hd
    exact ne_of hL z4 (by intro y; cases y)
   refine k q H4 e' pl3 (fun b o z zd ze zl => fr b o (k13 b o z zl) zd ze) hD4 ?_ ⟨dy3, fr _ _ l3' nd ne⟩ ed3 (k13.free hq l3') hq4
   rcases he4 with he4 | he4
   ·exact .inl he4
   ·exact .inr (k13.free he4 l3')
end
theorem DeskAt.ints {C : Cs} {H : Hp} {d e g : Addr} {exs : List (Vaflxm.Text × Vaflxm.Text)} {given : List Int} {ys : List V} (h : DeskAt C H d e exs) (hg : H g = some (.lst (given.map V.int))) (hge : g ≠ e) : DeskAt C (upd H g (.lst ys)) d e exs := by
 obtain ⟨dx, f, h1, h2, ⟨fs, f1, f2, f3⟩, as, e1, e2, e3⟩ := h
 have ni : ∀ (b : Addr) (v : V) (r : List V), H b = some (.lst (v :: r)) → (∀ i, v ≠ .int i) → b ≠ g := fun b v r z hv y => by
  rw [y, hg] at z
  have w1 := Option.some.inj z
  injection w1 with w1
  cases given with
  | nil => cases w1
  | cons x xs =>
   rw [List.map_cons] at w1
   injection w1 with w1 _
   exact hv x w1.symm
 have nt : ∀ b xs, H b = some (.tup xs) → upd H g (.lst ys) b = some (.tup xs) := fun b xs z => by
  rw [upd_ne (ne_of z hg (by intro y; cases y))]
  exact z
 have h0 : 0 < Vaflxm.forms.length := by rw [forms_len]; decide
 have nf : f ≠ g := by
  cases fs with
  | nil => rw [← f2] at h0; exact absurd h0 (by decide)
  | cons a r => exact ni f (.ref a) _ f1 fun i z => by cases z
 have vals : ∀ p t, ValsAt H p (readsOf t) → ValsAt (upd H g (.lst ys)) p (readsOf t) := fun p t ⟨vs, z1, z2, z3⟩ => by
  have hl : vs.length = Vaflxm.forms.length := by rw [z2]; simp [readsOf]
  have np : p ≠ g := by
   cases vs with
   | nil => rw [← hl] at h0; exact absurd h0 (by decide)
   | cons v r =>
    refine ni p v r z1 fun i z => ?_
    subst z
    have hr0 : (readsOf t)[0]? = some (Vaflxm.readIn (Vaflxm.forms[0]) t) := by
     unfold readsOf
     rw [List.getElem?_map, List.getElem?_eq_getElem h0]
     rfl
    have q := z3 0 (.int i) _ rfl hr0
    cases e : Vaflxm.readIn (Vaflxm.forms[0]) t with
    | none => rw [e] at q; cases q
    | some x => rw [e] at q; obtain ⟨a, q, _⟩ := q; cases q
  exact ⟨vs, by rw [upd_ne np]; exact z1, z2, fun i v o q1 q2 => (z3 i v o q1 q2).same nt⟩
 refine ⟨dx, f, by rw [upd_ne (ne_of h1 hg (by intro z; cases z))]; exact h1, h2, ⟨fs, by rw [upd_ne nf]; exact f1, f2, fun i a x q1 q2 => ?_⟩, as, by rw [upd_ne (Ne.symm hge)]; exact e1, e2, fun i a x q1 q2 => ?_⟩
 ·obtain ⟨dx2, z⟩ := f3 i a x q1 q2
  exact ⟨dx2, by rw [upd_ne (ne_of z hg (by intro y; cases y))]; exact z⟩
 ·obtain ⟨dx2, p, q, z1, n1, n2, v1, v2⟩ := e3 i a x q1 q2
  exact ⟨dx2, p, q, by rw [upd_ne (ne_of z1 hg (by intro y; cases y))]; exact z1, n1, n2, vals _ _ v1, vals _ _ v2⟩
theorem step_len (exs : List (Vaflxm.Text × Vaflxm.Text)) (c : Vaflxm.Call) (h : exs.length ≤ 10) : (Vaflxm.step ⟨exs⟩ c).1.examples.length ≤ 10 := by
 cases c with
 | add a b =>
  show (if (!(Vaflxm.goodText a && Vaflxm.goodText b)) = true then ((⟨exs⟩ : Vaflxm.State), ([-1] : List Int)) else if Vaflxm.MOST_EXAMPLES ≤ exs.length then (⟨exs⟩, [-6]) else (⟨exs ++ [(a, b)]⟩, [0])).1.examples.length ≤ 10
  unfold Vaflxm.MOST_EXAMPLES
  split
  ·exact h
  ·split
   ·exact h
   ·simp
    omega
 | take i =>
  show (if i < 0 ∨ Vaflxm.nat exs.length ≤ i then ((⟨exs⟩ : Vaflxm.State), ([-2] : List Int)) else (⟨exs.eraseIdx i.toNat⟩, [0])).1.examples.length ≤ 10
  split
  ·exact h
  ·exact Nat.le_trans (List.length_eraseIdx_le exs i.toNat) h
 | _ => exact h
theorem calls_step {f : Nat} {l : List Int} {cs : List (List (List Int))} (h : PyFlat.calls PyVaflxm.shape f l = some cs) (hl : l ≠ []) : ∃ (g : Nat) (cl : List (List Int)) (rest : List Int) (r : List (List (List Int))), PyFlat.call PyVaflxm.shape l = some (cl, rest) ∧ PyFlat.calls PyVaflxm.shape g rest = some r ∧ cs = cl :: r := by
 cases l with
 | nil => exact absurd rfl hl
 | cons p q =>
  cases f with
  | zero => cases h
  | succ f =>
   have h : (match PyFlat.call PyVaflxm.shape (p :: q) with
    | none => none
    | some (c, t) => match PyFlat.calls PyVaflxm.shape f t with
     | none => none
     | some cs => some (c :: cs)) = some cs := h
   cases e : PyFlat.call PyVaflxm.shape (p :: q) with
   | none => rw [e] at h; cases h
   | some ct =>
    obtain ⟨c, t⟩ := ct
    rw [e] at h
    dsimp only at h
    cases e2 : PyFlat.calls PyVaflxm.shape f t with
    | none => rw [e2] at h; cases h
    | some r =>
     rw [e2] at h
     exact ⟨f, c, t, r, rfl, e2, (Option.some.inj h).symm⟩
theorem calls_nil {f : Nat} {cs : List (List (List Int))} (h : PyFlat.calls PyVaflxm.shape f [] = some cs) : cs = [] := by
 cases f <;> exact (Option.some.inj h).symm
theorem played_cons (exs : List (Vaflxm.Text × Vaflxm.Text)) (cl : List (List Int)) (r : List (List (List Int))) (cc : Vaflxm.Call) (h : VaflxmNeutral.callOf cl = some cc) :
  PyFlat.told (PyFlat.played VaflxmNeutral.step ⟨exs⟩ (cl :: r)) = (((Vaflxm.step ⟨exs⟩ cc).2.length : Nat) : Int) :: ((Vaflxm.step ⟨exs⟩ cc).2 ++ PyFlat.told (PyFlat.played VaflxmNeutral.step ⟨(Vaflxm.step ⟨exs⟩ cc).1.examples⟩ r)) := by
 have e : VaflxmNeutral.step ⟨exs⟩ cl = ((Vaflxm.step ⟨exs⟩ cc).1, (Vaflxm.step ⟨exs⟩ cc).2) := by
  unfold VaflxmNeutral.step
  rw [h]
  rfl
 show PyFlat.told ((VaflxmNeutral.step ⟨exs⟩ cl).2 :: PyFlat.played VaflxmNeutral.step (VaflxmNeutral.step ⟨exs⟩ cl).1 r) = _
 rw [e]
 rfl
theorem asked_parts {ns : List Int} (h : PyVaflxm.answers_asked ns = true) : ∃ cs, PyFlat.calls PyVaflxm.shape ns.length ns = some cs ∧ (∀ cl ∈ cs, VaflxmNeutral.asked1 cl = true ∧ ∃ cc, VaflxmNeutral.callOf cl = some cc) ∧ PyVaflxm.answers ns = PyFlat.told (PyFlat.played VaflxmNeutral.step ⟨[]⟩ cs) ∧ (PyVaflxm.answers ns).length ≤ 10000000 := by
 unfold PyVaflxm.answers_asked at h
 cases e : PyFlat.calls PyVaflxm.shape ns.length ns with
 | none => rw [e] at h; cases h
 | some cs =>
  rw [e] at h
  dsimp only at h
  have ew : cs.map PyVaflxm.whole = cs := by
   rw [List.map_congr_left (g := id) fun c _ => Tm.whole_eq c, List.map_id]
  rw [ew] at h
  simp only [Bool.and_eq_true] at h
  obtain ⟨⟨⟨_, _⟩, h3⟩, h4⟩ := h
  unfold VaflxmNeutral.asked at h3
  simp only [Bool.and_eq_true] at h3
  refine ⟨cs, rfl, fun cl hcl => ⟨List.all_eq_true.mp h3.1.1 cl hcl, ?_⟩, ?_, by simpa [PyFlat.short] using h4⟩
  ·exact Option.isSome_iff_exists.mp (List.all_eq_true.mp h3.1.2 cl hcl)
  ·unfold PyVaflxm.answers PyVaflxm.calls
   rw [e]
   dsimp only
   rw [ew]
   rfl
section
variable {P : Program} {w : World} {K : PySem.W.Frag} {mg : Str → Option Value} {base : Heap} {C : Cs}
def sp_answers (K : PySem.W.Frag) : Sp := fun vs H Q _ => ∃ (c : Addr) (ns : List Int), vs = [.ref c] ∧ SqL K H c (ns.map V.int) ∧ PyVaflxm.answers_asked ns = true ∧ NewL H ((PyVaflxm.answers ns).map V.int) Q
abbrev s_answers : Stmt := top 97
theorem sc_answers : FnScope ["calls", "desk", "line", "given", "answer"] ["calls"] (defScope s_answers) := by walk_at "N"
theorem fn_answers {f : Addr} {fd : FuncData} (T : Txt K mg) (NL : CL K C.line) (ok_answer_call : Ok P w K mg base 9 "answer_call" ["desk", "line"] (sp_answer_call K C)) (cl_Desk : Oc P w K mg base C.desk 5 "Desk" ["self"] (sp_Desk_init C)) (cl_Line : Oc P w K mg base C.line 1 "Line" ["self", "calls"] (sp_Line_init C.line))
  (om_Line_at_end : Om P w K mg base C.line 1 "at_end" ["self"] (sp_Line_at_end K C.line)) (F : Fun K "answers" "answers" s_answers f fd) : FnOk P w K mg base CX0 10 f fd ["calls"] (sp_answers K) := by
 refine F.ok sc_answers (fun vs H Q E h => ?_) (fun cdv A outer s H vs Q E hr h => ?_)
 ·obtain ⟨c, ns, rfl, _⟩ := h
  rfl
 ·obtain ⟨c, ns, rfl, hc, hask, k⟩ := h
  have hs9 := sizeLine_eq
  obtain ⟨cs, a1, a2, a3, a4⟩ := asked_parts hask
  refine ⟨_, (pss_cons (ps_set (i := 1) sc_answers.nd rfl (Or.inl rfl) (pe_cls0 cl_Desk (hr.mono (by decide)) (by rfl)))
   (pss_cons (ps_set (i := 2) sc_answers.nd rfl (Or.inl rfl) (pe_cls cl_Line (hr.mono (by decide)) (by rfl) (pa_cons (pv 0) pa_nil)))
   (pss_cons (ps_set (i := 3) sc_answers.nd rfl (Or.inl rfl) (pe_lst pa_nil))
   (pss_cons (ps_while PassesOwn.never (pt_not (pt_val (pe_mt0 (pv 2) om_Line_at_end (hr.mono (by decide))))) (pss_cons (ps_set (i := 4) sc_answers.nd rfl (Or.inl rfl) (pe_fn ok_answer_call (hr.mono (by decide)) (by rfl) (pa_cons (pv 1) (pa_cons (pv 2) pa_nil))))
   (pss_cons (ps_expr (pe_bm PySem.F.plainAttrs_list PySem.F.slot_list_append PySem.F.type_list_append mt_append (pv 3) (pa_cons (pe_callB call_len_seq (by rfl) T.n_len boot_len (pa_cons (pv 4) pa_nil)) pa_nil)))
   (pss_one (ps_expr (pe_bm PySem.F.plainAttrs_list PySem.F.slot_list_extend PySem.F.type_list_extend mt_extend (pv 3) (pa_cons (pv 4) pa_nil)))))))
   (pss_one (ps_ret (pv 3))))))), ?_⟩
  walk_at "S"
  intro d dx hd0 hdx0 hdn
  obtain ⟨H1, hH1⟩ : ∃ H1, H1 = upd (upd H dx (.own d)) d (.ins C.desk dx []) := ⟨_, rfl⟩
  rw [← hH1]
  have s1 : Same H H1 := by rw [hH1]; exact fun b o z => by rw [upd_ne (ne_of_none z hd0), upd_ne (ne_of_none z hdx0)]; exact z
  have hd1 : H1 d = some (.ins C.desk dx []) := by rw [hH1]; exact upd_same
  refine ⟨d, dx, rfl, hd1, fun H2 e hD2 he2 k2 => ⟨rfl, ?_⟩⟩
  have s2 : Same H H2 := fun b o z => k2 b o (s1 _ _ z) (ne_of_none z hd0)
  intro ln dy hl0 hdy0 hln
  obtain ⟨H3, hH3⟩ : ∃ H3, H3 = upd (upd H2 dy (.own ln)) ln (.ins C.line dy []) := ⟨_, rfl⟩
  rw [← hH3]
  have s3 : Same H2 H3 := by rw [hH3]; exact fun b o z => by rw [upd_ne (ne_of_none z hl0), upd_ne (ne_of_none z hdy0)]; exact z
  have hl3 : H3 ln = some (.ins C.line dy []) := by rw [hH3]; exact upd_same
  refine ⟨ln, dy, c, rfl, hl3, fun H4 hl4 k4 => ⟨rfl, Nat.zero_le _, fun g hg => ?_⟩⟩
  have s24 : Same H2 H4 := fun b o z => k4 b o (s3 _ _ z) (ne_of_none z hl0)
  have s5 : Same H4 (upd H4 g (.lst [])) := same_new hg
  have hD5 : DeskAt C (upd H4 g (.lst [])) d e [] := (hD2.same s24).same s5
  have he0 : H e = none := s1.free he2
  have nge : g ≠ e := by
   obtain ⟨_, _, _, _, _, as, z, _⟩ := hD2
   exact Ne.symm (ne_of_none (s24 _ _ z) hg)
  have hg0 : H g = none := s2.free (s24.free hg)
  have hln0 : H ln = none := s2.free hl0
  obtain ⟨Pv, hPv⟩ : ∃ Pv : Nat → L2.St → Hp → Prop, Pv = fun n σ H5 => ∃ (e : Addr) (pl : Nat) (exs : List (Vaflxm.Text × Vaflxm.Text)) (r : List (List (List Int))) (fuel : Nat) (given : List Int) (v4 : Option V), σ = [some (.ref c), some (.ref d), some (.ref ln), some (.ref g), v4] ∧ n = r.length ∧ PyFlat.calls PyVaflxm.shape fuel (ns.drop pl) = some r ∧ (∀ cl ∈ r, cl ∈ cs) ∧
   DeskAt C H5 d e exs ∧ exs.length ≤ 10 ∧ LineAt K C.line H5 ln c pl ∧ H5 g = some (.lst (given.map V.int)) ∧ g ≠ e ∧ given ++ PyFlat.told (PyFlat.played VaflxmNeutral.step ⟨exs⟩ r) = PyVaflxm.answers ns ∧ Same H H5 ∧ H e = none := ⟨_, rfl⟩
  refine ⟨Pv, ⟨cs.length, by rw [hPv]; exact ⟨e, 0, [], cs, ns.length, [], none, rfl, rfl, a1, fun _ z => z, hD5, Nat.zero_le _, ⟨dy, s5 _ _ hl4⟩, upd_same, nge, a3.symm, (s2.trans s24).trans s5, he0⟩⟩, fun n σ H5 h => ?_⟩
  rw [hPv] at h
  obtain ⟨e, pl, exs, r, fuel, given, v4, rfl, rfl, b1, b2, b3, b4, ⟨dz, b5⟩, b6, b7, b8, b9, b10⟩ := h
  walk_at "S"
  refine ⟨dz, _, b5, ln_no c pl (by decide +kernel) (by decide +kernel), ln, c, pl, ns, rfl, ⟨dz, b5⟩, sq_same b9 hc, _, rfl, ?_⟩
  by_cases hend : ns.length ≤ pl
  ·rw [decide_eq_true hend, if_neg (by decide)]
   rw [List.drop_eq_nil_of_le hend] at b1
   have := calls_nil b1
   subst this
   have e9 : given = PyVaflxm.answers ns := by
    have : PyFlat.told (PyFlat.played VaflxmNeutral.step ⟨exs⟩ []) = [] := rfl
    rw [this, List.append_nil] at b8
    exact b8
   refine k g H5 b9 hg0 ?_
   rw [b6, e9]
  ·rw [decide_eq_false hend, if_pos rfl]
   have hne : ns.drop pl ≠ [] := fun z => by
    have := congrArg List.length z
    rw [List.length_drop] at this
    simp at this
    omega
   obtain ⟨fuel2, cl, rest, r2, c1, c2, rfl⟩ := calls_step b1 hne
   obtain ⟨m1, cc, m2⟩ := a2 cl (b2 cl (List.mem_cons_self ..))
   have pc := played_cons exs cl r2 cc m2
   rw [pc] at b8
   have hlen := congrArg List.length b8
   rw [List.length_append, List.length_cons, List.length_append] at hlen
   refine ⟨fun σ' H' => ∃ m, m < (cl :: r2).length ∧ Pv m σ' H', fun σ' H' z => z, d, ln, e, c, pl, exs, ns, cl, rest, cc, rfl, b3, b4, ⟨dz, b5⟩, sq_same b9 hc, c1, m2, m1, fun p H6 e' pl' fr hD6 he6 hL6 hr6 hp6 hv6 => ?_⟩
   have ngd : g ≠ d := by
    obtain ⟨_, _, z, _⟩ := b3
    exact ne_of b6 z (by intro y; cases y)
   have ngl : g ≠ ln := ne_of b6 b5 (by intro y; cases y)
   have b6' := fr _ _ b6 ngd b7 ngl
   have npg : p ≠ g := Ne.symm (ne_of_none b6 hp6)
   have hsz : ((Vaflxm.step ⟨exs⟩ cc).2.map V.int).length = (Vaflxm.step ⟨exs⟩ cc).2.length := List.length_map ..
   refine ⟨tyL_of (sqL_of b6'), p, rfl, _, .inl (sqL_of hv6), _, b6', by rw [List.length_map]; omega, tyL_of (sqL_of upd_same), p, rfl, _, upd_same, _, by rw [upd_ne npg]; exact hv6, ?_, ?_⟩
   ·rw [List.length_append, List.length_map, List.length_map]
    show given.length + 1 + _ ≤ _
    omega
   ·have s6 : Same H H6 := fun b o z => fr b o (b9 _ _ z) (ne_of_none z hd0) (ne_of_none z b10) (ne_of_none z hln0)
    have nge' : g ≠ e' := by
     rcases he6 with z | z
     ·rw [z]; exact b7
     ·exact ne_of_none b6 z
    refine ⟨r2.length, by simp, ?_⟩
    rw [hPv]
    refine ⟨e', pl', (Vaflxm.step ⟨exs⟩ cc).1.examples, r2, fuel2, given ++ (((Vaflxm.step ⟨exs⟩ cc).2.length : Nat) : Int) :: (Vaflxm.step ⟨exs⟩ cc).2, _, rfl, rfl, by rw [hr6]; exact c2, fun x hx => b2 x (List.mem_cons_of_mem _ hx), ?_, step_len exs cc b4, ?_, ?_, nge', ?_, (s6.put hg0).put hg0, ?_⟩
    ·rw [upd_upd]
     exact hD6.ints b6' nge'
    ·exact line_lst (H' := H6) (line_lst (H' := H6) hL6 b6') upd_same
    ·rw [upd_same, hsz]
     simp
    ·rw [← b8]
     simp
    ·rcases he6 with z | z
     ·rw [z]; exact b10
     ·exact b9.free z
end
section
variable {K : PySem.W.Frag} {h : Heap} {mg : Str → Option Value}
theorem ci_mk {x : Str} {i : Int} {t : Tok} (X : K.In h) (G : h.Ns mainGlobals mg) (a : PySem.W.nsIn K mainGlobals x = some (some (.int i t))) : CI mg x i := ⟨t, PySem.W.mg_of X G a⟩
def okInts : List Int → List Value → Bool
 | [], [] => true
 | i :: l, .int j _ :: us => decide (i = j) && okInts l us
 | _, _ => false
theorem okInts_vals : ∀ (l : List Int) (us : List Value), okInts l us = true → Vals (l.map V.int) us
 | [], [], _ => .nil
 | i :: l, .int j t :: us, h => by
  rw [okInts, Bool.and_eq_true, decide_eq_true_eq] at h
  rw [h.1]
  exact .cons ⟨t, rfl⟩ (okInts_vals l us h.2)
def okStrs : List Str → List Value → Bool
 | [], [] => true
 | i :: l, .str j _ :: us => decide (i = j) && okStrs l us
 | _, _ => false
theorem okStrs_vals : ∀ (l : List Str) (us : List Value), okStrs l us = true → Vals (l.map V.str) us
 | [], [], _ => .nil
 | i :: l, .str j t :: us, h => by
  rw [okStrs, Bool.and_eq_true, decide_eq_true_eq] at h
  rw [h.1]
  exact .cons ⟨t, rfl⟩ (okStrs_vals l us h.2)
theorem ct_ints {x : Str} {l : List Int} {a : Addr} {od : Option Addr} {its : Array Value} {n : Nat} {sl : Array (Option Value)} (X : K.In h) (G : h.Ns mainGlobals mg) (e : PySem.W.nsIn K mainGlobals x = some (some (.ref a))) (lk : K.lookup a = some ⟨.type "tuple", od, .seq its n, sl⟩) (z : decide (its.size ≤ sizeLine) = true) (c : okInts l its.toList = true) : CT K mg x (l.map V.int) :=
 ⟨a, PySem.W.mg_of X G e, _, its, n, lk, rfl, rfl, of_decide_eq_true z, okInts_vals l _ c⟩
theorem ct_strs {x : Str} {l : List Str} {a : Addr} {od : Option Addr} {its : Array Value} {n : Nat} {sl : Array (Option Value)} (X : K.In h) (G : h.Ns mainGlobals mg) (e : PySem.W.nsIn K mainGlobals x = some (some (.ref a))) (lk : K.lookup a = some ⟨.type "tuple", od, .seq its n, sl⟩) (z : decide (its.size ≤ sizeLine) = true) (c : okStrs l its.toList = true) : CT K mg x (l.map V.str) :=
 ⟨a, PySem.W.mg_of X G e, _, its, n, lk, rfl, rfl, of_decide_eq_true z, okStrs_vals l _ c⟩
def cellV : Sum Int Addr → V
 | .inl i => .int i
 | .inr a => .ref a
def okRow : List (Sum Int Addr) → List Value → Bool
 | [], [] => true
 | .inl i :: l, .int j _ :: us => decide (i = j) && okRow l us
 | .inr a :: l, .ref b :: us => decide (a = b) && okRow l us
 | _, _ => false
theorem okRow_vals : ∀ (l : List (Sum Int Addr)) (us : List Value), okRow l us = true → Vals (l.map cellV) us
 | [], [], _ => .nil
 | .inl i :: l, .int j t :: us, h => by
  rw [okRow, Bool.and_eq_true, decide_eq_true_eq] at h
  rw [h.1]
  exact .cons ⟨t, rfl⟩ (okRow_vals l us h.2)
 | .inr i :: l, .ref j :: us, h => by
  rw [okRow, Bool.and_eq_true, decide_eq_true_eq] at h
  rw [h.1]
  exact .cons rfl (okRow_vals l us h.2)
def isTupO (o : Obj) (r : List (Sum Int Addr)) : Bool := match o.cls, o.data with
 | .type n, .seq its _ => decide (n = "tuple") && (decide (its.size ≤ sizeLine) && okRow r its.toList)
 | _, _ => false
theorem isTupO_kt {a : Addr} {o : Obj} {r : List (Sum Int Addr)} (l : K.lookup a = some o) (e : isTupO o r = true) : KT K a (r.map cellV) := by
 obtain ⟨cls, dct, dat, sl⟩ := o
 unfold isTupO at e
 split at e
 ·rename_i n its m h1 h2
  dsimp only at h1 h2
  subst h1 h2
  rw [Bool.and_eq_true, Bool.and_eq_true, decide_eq_true_eq, decide_eq_true_eq] at e
  obtain ⟨e1, e2, e3⟩ := e
  subst e1
  exact ⟨_, its, m, l, rfl, rfl, e2, okRow_vals r _ e3⟩
 ·cases e
def rowsOk (K : PySem.W.Frag) : List (List (Sum Int Addr)) → List Value → Bool
 | [], [] => true
 | r :: rs, .ref b :: us => (match K.lookup b with
  | some o => isTupO o r
  | none => false) && rowsOk K rs us
 | _, _ => false
theorem rowsOk_vals : ∀ (rows : List (List (Sum Int Addr))) (us : List Value), rowsOk K rows us = true → ∃ as : List Addr, Vals (as.map V.ref) us ∧ as.length = rows.length ∧ ∀ (i : Nat) (b : Addr) (r : List (Sum Int Addr)), as[i]? = some b → rows[i]? = some r → KT K b (r.map cellV)
 | [], [], _ => ⟨[], .nil, rfl, fun i b r z => by simp at z⟩
 | r :: rs, .ref b :: us, e => by
  rw [rowsOk, Bool.and_eq_true] at e
  obtain ⟨as, h1, h2, h3⟩ := rowsOk_vals rs us e.2
  refine ⟨b :: as, .cons rfl h1, by simp [h2], fun i c q z1 z2 => ?_⟩
  cases i with
  | zero =>
   have e1 : b = c := by simpa using z1
   have e2 : r = q := by simpa using z2
   subst e1 e2
   have e0 := e.1
   cases l : K.lookup b with
   | none => rw [l] at e0; cases e0
   | some o => rw [l] at e0; exact isTupO_kt l e0
  | succ i => exact h3 i c q (by simpa using z1) (by simpa using z2)
theorem ctt_mk {x : Str} {rows : List (List (Sum Int Addr))} {a : Addr} {od : Option Addr} {its : Array Value} {n : Nat} {sl : Array (Option Value)} (X : K.In h) (G : h.Ns mainGlobals mg) (e : PySem.W.nsIn K mainGlobals x = some (some (.ref a))) (lk : K.lookup a = some ⟨.type "tuple", od, .seq its n, sl⟩) (z : decide (its.size ≤ sizeLine) = true) (c : rowsOk K rows its.toList = true) :
  CTT K mg x (rows.map fun r => r.map cellV) := by
 obtain ⟨as, h1, h2, h3⟩ := rowsOk_vals rows _ c
 refine ⟨a, as, PySem.W.mg_of X G e, ⟨_, its, n, lk, rfl, rfl, of_decide_eq_true z, h1⟩, by rw [h2, List.length_map], fun i b xs z1 z2 => ?_⟩
 rw [List.getElem?_map] at z2
 cases q : rows[i]? with
 | none => rw [q] at z2; cases z2
 | some r =>
  rw [q] at z2
  have := Option.some.inj z2
  subst this
  exact h3 i b r z1 q
def callRows (fs : List Addr) : List (List (Sum Int Addr)) := (List.zip Tm.tab fs).map fun x => [.inl ((x.1.1 : Nat) : Int), .inl ((x.1.2 : Nat) : Int), .inr x.2]
theorem callsT_eq (fs : List Addr) : callsT fs = (callRows fs).map fun r => r.map cellV := by
 unfold callsT callRows
 rw [List.map_map]
 rfl
theorem ln0 {P : List Value → Prop} (h : P []) : ∀ us : List Value, us.length = 0 → P us
 | [], _ => h
theorem ln1 {P : List Value → Prop} (h : ∀ a, P [a]) : ∀ us : List Value, us.length = 1 → P us
 | [a], _ => h a
theorem ln2 {P : List Value → Prop} (h : ∀ a b, P [a, b]) : ∀ us : List Value, us.length = 2 → P us
 | [a, b], _ => h a b
theorem ln3 {P : List Value → Prop} (h : ∀ a b c, P [a, b, c]) : ∀ us : List Value, us.length = 3 → P us
 | [a, b, c], _ => h a b c
theorem ln4 {P : List Value → Prop} (h : ∀ a b c d, P [a, b, c, d]) : ∀ us : List Value, us.length = 4 → P us
 | [a, b, c, d], _ => h a b c d
theorem ln5 {P : List Value → Prop} (h : ∀ a b c d e, P [a, b, c, d, e]) : ∀ us : List Value, us.length = 5 → P us
 | [a, b, c, d, e], _ => h a b c d e
theorem def_mk {name : Str} {st : Stmt} {ps : List Str} {f : Addr} {oc : Value} {od an : Option Addr} {osl : Array (Option Value)} {kV doc pm cdv ct : Value} (X : K.In h) (G : h.Ns mainGlobals mg) (a : PySem.W.nsIn K mainGlobals name = some (some (.ref f)))
  (l : K.lookup f = some ⟨oc, od, .func (PySem.W.fnOf name name (defArgs st) (defBody st) (defScope st) .none kV doc pm an cdv ct), osl⟩) (c : PySem.W.codeIn K cdv name = true) (k : PySem.W.keepIn K (.ref f) = true)
  (b : ∀ (kV doc pm : Value) (an : Option Addr) (cdv ct : Value) (us : List Value), us.length = ps.length → bindArgs (PySem.W.fnOf name name (defArgs st) (defBody st) (defScope st) .none kV doc pm an cdv ct) ⟨us, []⟩ = pure (ps.zip us)) : Def K mg name st ps :=
 have F := fun_mk (st := st) l c k
 ⟨f, _, F, PySem.W.mg_of X G a, F.binds b⟩
theorem mdef_mk {C : Addr} {m qual : Str} {st : Stmt} {ps : List Str} {f : Addr} {oc : Value} {od an : Option Addr} {osl : Array (Option Value)} {kV doc pm cdv ct : Value} (a : PySem.W.findIn K (.ref C) m = some (some (.ref f))) (i : PySem.W.isFn K (.ref f) = true)
  (l : K.lookup f = some ⟨oc, od, .func (PySem.W.fnOf m qual (defArgs st) (defBody st) (defScope st) .none kV doc pm an cdv ct), osl⟩) (c : PySem.W.codeIn K cdv qual = true) (k : PySem.W.keepIn K (.ref f) = true)
  (b : ∀ (kV doc pm : Value) (an : Option Addr) (cdv ct : Value) (us : List Value), us.length = ps.length → bindArgs (PySem.W.fnOf m qual (defArgs st) (defBody st) (defScope st) .none kV doc pm an cdv ct) ⟨us, []⟩ = pure (ps.zip us)) : Mdef K C m qual st ps :=
 have F := fun_mk (st := st) l c k
 ⟨f, _, F, ⟨a, i, k⟩, F.binds b⟩
theorem idef_mk {C : Addr} {name qual : Str} {st : Stmt} {ps : List Str} {f : Addr} {oc : Value} {od an : Option Addr} {osl : Array (Option Value)} {kV doc pm cdv ct : Value} (X : K.In h) (G : h.Ns mainGlobals mg) (n : PySem.W.nsIn K mainGlobals name = some (some (.ref C))) (m : PySem.W.makesIn K C = true) (q : PySem.W.keepIn K (.ref C) = true)
  (a : PySem.W.findIn K (.ref C) "__init__" = some (some (.ref f))) (i : PySem.W.isFn K (.ref f) = true)
  (l : K.lookup f = some ⟨oc, od, .func (PySem.W.fnOf "__init__" qual (defArgs st) (defBody st) (defScope st) .none kV doc pm an cdv ct), osl⟩) (c : PySem.W.codeIn K cdv qual = true) (k : PySem.W.keepIn K (.ref f) = true)
  (b : ∀ (kV doc pm : Value) (an : Option Addr) (cdv ct : Value) (us : List Value), us.length = ps.length → bindArgs (PySem.W.fnOf "__init__" qual (defArgs st) (defBody st) (defScope st) .none kV doc pm an cdv ct) ⟨us, []⟩ = pure (ps.zip us)) : Idef K mg C name qual st ps :=
 have F := fun_mk (st := st) l c k
 ⟨f, _, F, ⟨m, a, i, q⟩, PySem.W.mg_of X G n, F.binds b⟩
theorem FV.of_ok {P : Program} {w : World} {base : Heap} {k : Nat} {name : Str} {ps : List Str} {sp : Sp} {f : Addr} (h : Ok P w K mg base k name ps sp) (e : mg name = some (.ref f)) : FV P w K mg base k f sp := by
 obtain ⟨g, fd, a, b, c, d⟩ := h.ex
 rw [e] at b
 cases b
 exact ⟨fd, ps, a, c, d⟩
end
def callNames : List Str := ["answer_form", "answer_read", "answer_number", "answer_date", "answer_convert", "answer_fits", "answer_day", "answer_dateof", "answer_shift", "answer_add", "answer_take", "answer_pairs", "answer_least", "answer_apply", "answer_outputs"]
structure Ds (K : PySem.W.Frag) (mg : Str → Option Value) (cN cD cE cK cL : Addr) : Prop where
 is_leap : Def K mg "is_leap" s_is_leap ["year"]
 month_length : Def K mg "month_length" s_month_length ["year", "month"]
 is_date : Def K mg "is_date" s_is_date ["year", "month", "day"]
 days_before_year : Def K mg "days_before_year" s_days_before_year ["year"]
 day_number : Def K mg "day_number" s_day_number ["year", "month", "day"]
 weekday : Def K mg "weekday" s_weekday ["number"]
 is_day_number : Def K mg "is_day_number" s_is_day_number ["number"]
 date_of_day : Def K mg "date_of_day" s_date_of_day ["number"]
 decimal_digits : Def K mg "decimal_digits" s_decimal_digits ["number", "width"]
 number_of_digits : Def K mg "number_of_digits" s_number_of_digits ["text"]
 times_ten : Def K mg "times_ten" s_times_ten ["number", "times"]
 number_value : Def K mg "number_value" s_number_value ["n", "s"]
 grouped : Def K mg "grouped" s_grouped ["digits", "group"]
 NumberForm_init : Idef K mg cN "NumberForm" "NumberForm.__init__" s_NumberForm_init ["self", "width", "group", "decimals", "mark"]
 NumberForm_told : Mdef K cN "told" "NumberForm.told" s_NumberForm_told ["self"]
 NumberForm_written : Mdef K cN "written" "NumberForm.written" s_NumberForm_written ["self", "value"]
 NumberForm_value_read : Mdef K cN "value_read" "NumberForm.value_read" s_NumberForm_value_read ["self", "text"]
 split_at : Def K mg "split_at" s_split_at ["text", "separator"]
 DateForm_init : Idef K mg cD "DateForm" "DateForm.__init__" s_DateForm_init ["self", "order", "separator", "day_way", "month_way"]
 DateForm_told : Mdef K cD "told" "DateForm.told" s_DateForm_told ["self"]
 DateForm_month_written : Mdef K cD "month_written" "DateForm.month_written" s_DateForm_month_written ["self", "month"]
 DateForm_part_written : Mdef K cD "part_written" "DateForm.part_written" s_DateForm_part_written ["self", "part", "number"]
 DateForm_written : Mdef K cD "written" "DateForm.written" s_DateForm_written ["self", "value"]
 DateForm_parts_by_length : Mdef K cD "parts_by_length" "DateForm.parts_by_length" s_DateForm_parts_by_length ["self", "text"]
 DateForm_parts_of : Mdef K cD "parts_of" "DateForm.parts_of" s_DateForm_parts_of ["self", "text"]
 DateForm_part_read : Mdef K cD "part_read" "DateForm.part_read" s_DateForm_part_read ["self", "part", "text"]
 DateForm_value_read : Mdef K cD "value_read" "DateForm.value_read" s_DateForm_value_read ["self", "text"]
 whole_forms : Def K mg "whole_forms" s_whole_forms []
 decimal_forms : Def K mg "decimal_forms" s_decimal_forms ["decimals", "mark"]
 date_forms : Def K mg "date_forms" s_date_forms ["order", "separator"]
 all_forms : Def K mg "all_forms" s_all_forms []
 converted : Def K mg "converted" s_converted ["source", "target", "text"]
 Line_init : Idef K mg cL "Line" "Line.__init__" s_Line_init ["self", "calls"]
 Line_at_end : Mdef K cL "at_end" "Line.at_end" s_Line_at_end ["self"]
 Line_take_number : Mdef K cL "take_number" "Line.take_number" s_Line_take_number ["self"]
 Line_take_row : Mdef K cL "take_row" "Line.take_row" s_Line_take_row ["self"]
 Desk_init : Idef K mg cK "Desk" "Desk.__init__" s_Desk_init ["self"]
 Desk_has_form : Mdef K cK "has_form" "Desk.has_form" s_Desk_has_form ["self", "number"]
 text_answer : Def K mg "text_answer" s_text_answer ["text"]
 answer_form : Def K mg "answer_form" s_answer_form ["desk", "numbers", "rows"]
 answer_read : Def K mg "answer_read" s_answer_read ["desk", "numbers", "rows"]
 answer_number : Def K mg "answer_number" s_answer_number ["desk", "numbers", "rows"]
 answer_date : Def K mg "answer_date" s_answer_date ["desk", "numbers", "rows"]
 answer_convert : Def K mg "answer_convert" s_answer_convert ["desk", "numbers", "rows"]
 answer_day : Def K mg "answer_day" s_answer_day ["desk", "numbers", "rows"]
 answer_dateof : Def K mg "answer_dateof" s_answer_dateof ["desk", "numbers", "rows"]
 answer_fits : Def K mg "answer_fits" s_answer_fits ["desk", "numbers", "rows"]
 may_be_example : Def K mg "may_be_example" s_may_be_example ["text"]
 Example_init : Idef K mg cE "Example" "Example.__init__" s_Example_init ["self", "forms", "source", "target"]
 forms_by_targets : Def K mg "forms_by_targets" s_forms_by_targets ["examples", "form_count"]
 fitting_targets : Def K mg "fitting_targets" s_fitting_targets ["examples", "form_count"]
 fitting_pairs : Def K mg "fitting_pairs" s_fitting_pairs ["examples", "form_count"]
 answer_add : Def K mg "answer_add" s_answer_add ["desk", "numbers", "rows"]
 answer_shift : Def K mg "answer_shift" s_answer_shift ["desk", "numbers", "rows"]
 Desk_has_example : Mdef K cK "has_example" "Desk.has_example" s_Desk_has_example ["self", "number"]
 Desk_targets_that_fit : Mdef K cK "targets_that_fit" "Desk.targets_that_fit" s_Desk_targets_that_fit ["self"]
 Desk_pairs_that_fit : Mdef K cK "pairs_that_fit" "Desk.pairs_that_fit" s_Desk_pairs_that_fit ["self"]
 Desk_converted_by : Mdef K cK "converted_by" "Desk.converted_by" s_Desk_converted_by ["self", "pair", "text"]
 answer_take : Def K mg "answer_take" s_answer_take ["desk", "numbers", "rows"]
 answer_pairs : Def K mg "answer_pairs" s_answer_pairs ["desk", "numbers", "rows"]
 answer_least : Def K mg "answer_least" s_answer_least ["desk", "numbers", "rows"]
 answer_apply : Def K mg "answer_apply" s_answer_apply ["desk", "numbers", "rows"]
 answer_outputs : Def K mg "answer_outputs" s_answer_outputs ["desk", "numbers", "rows"]
 answer_call : Def K mg "answer_call" s_answer_call ["desk", "line"]
theorem all_ok {P : Program} {w : World} {K : PySem.W.Frag} {mg : Str → Option Value} {base : Heap} {C : Cs} (T : Txt K mg) (NN : CN K C.num) (ND : CD K C.date) (NE : CE K C.ex) (NK : CK K C.desk) (NLn : CL K C.line)
  (D : Ds K mg C.num C.date C.ex C.desk C.line) (fs : List Addr) (hfl : fs.length = 15) (hCALLS : CTT K mg "CALLS" (callsT fs)) (hN : ∀ (i : Nat) (f : Addr), fs[i]? = some f → mg (callNames.getD i "") = some (.ref f)) (f : Addr) (fd : FuncData) (F : Fun K "answers" "answers" s_answers f fd) :
  FnOk P w K mg base CX0 10 f fd ["calls"] (sp_answers K) := by
 have ok_is_leap := Tf.ok_is_leap (P := P) (w := w) (base := base) D.is_leap
 have ok_month_length := Tf.ok_month_length (P := P) (w := w) (base := base) T D.month_length ok_is_leap
 have ok_is_date := Tf.ok_is_date (P := P) (w := w) (base := base) T D.is_date ok_month_length
 have ok_days_before_year := Tf.ok_days_before_year (P := P) (w := w) (base := base) D.days_before_year
 have ok_day_number := Tf.ok_day_number (P := P) (w := w) (base := base) T D.day_number ok_month_length ok_days_before_year
 have ok_weekday := Tf.ok_weekday (P := P) (w := w) (base := base) D.weekday
 have ok_is_day_number := Tf.ok_is_day_number (P := P) (w := w) (base := base) T D.is_day_number
 have ok_date_of_day := Tf.ok_date_of_day (P := P) (w := w) (base := base) T D.date_of_day ok_month_length ok_days_before_year
 have ok_decimal_digits := Tf.ok_decimal_digits (P := P) (w := w) (base := base) T D.decimal_digits
 have ok_number_of_digits := Tf.ok_number_of_digits (P := P) (w := w) (base := base) T D.number_of_digits
 have ok_times_ten := Tf.ok_times_ten (P := P) (w := w) (base := base) T D.times_ten
 have ok_number_value := Tf.ok_number_value (P := P) (w := w) (base := base) T D.number_value
 have ok_grouped := Tf.ok_grouped (P := P) (w := w) (base := base) T D.grouped
 have ok_NumberForm_init := Tf.ok_NumberForm_init (P := P) (w := w) (base := base) NN D.NumberForm_init
 have cl_NumberForm := ok_NumberForm_init
 have om_NumberForm_told := Tf.om_NumberForm_told (P := P) (w := w) (base := base) T NN D.NumberForm_told
 have om_NumberForm_written := Tf.om_NumberForm_written (P := P) (w := w) (base := base) T NN D.NumberForm_written ok_times_ten ok_decimal_digits ok_grouped
 have om_NumberForm_value_read := Tf.om_NumberForm_value_read (P := P) (w := w) (base := base) T NN D.NumberForm_value_read ok_number_of_digits ok_number_value om_NumberForm_written
 have ok_split_at := Tf.ok_split_at (P := P) (w := w) (base := base) T D.split_at
 have ok_DateForm_init := Tf.ok_DateForm_init (P := P) (w := w) (base := base) ND D.DateForm_init
 have cl_DateForm := ok_DateForm_init
 have om_DateForm_told := Tf.om_DateForm_told (P := P) (w := w) (base := base) T ND D.DateForm_told
 have om_DateForm_month_written := Tf.om_DateForm_month_written (P := P) (w := w) (base := base) T ND D.DateForm_month_written ok_decimal_digits
 have om_DateForm_part_written := Tf.om_DateForm_part_written (P := P) (w := w) (base := base) T ND D.DateForm_part_written ok_decimal_digits om_DateForm_month_written
 have om_DateForm_written := Tf.om_DateForm_written (P := P) (w := w) (base := base) T ND D.DateForm_written om_DateForm_part_written
 have om_DateForm_parts_by_length := Tf.om_DateForm_parts_by_length (P := P) (w := w) (base := base) T ND D.DateForm_parts_by_length
 have om_DateForm_parts_of := Tf.om_DateForm_parts_of (P := P) (w := w) (base := base) T ND D.DateForm_parts_of om_DateForm_parts_by_length ok_split_at
 have om_DateForm_part_read := Tf.om_DateForm_part_read (P := P) (w := w) (base := base) T ND D.DateForm_part_read ok_number_of_digits om_DateForm_month_written
 have om_DateForm_value_read := Tf.om_DateForm_value_read (P := P) (w := w) (base := base) T ND D.DateForm_value_read om_DateForm_parts_of om_DateForm_part_read om_DateForm_written ok_is_date
 have ok_whole_forms := Tf.ok_whole_forms (P := P) (w := w) (base := base) (CN_ := C.num) (CD_ := C.date) T D.whole_forms cl_NumberForm
 have ok_decimal_forms := Tf.ok_decimal_forms (P := P) (w := w) (base := base) (CN_ := C.num) (CD_ := C.date) T D.decimal_forms cl_NumberForm
 have ok_date_forms := Tf.ok_date_forms (P := P) (w := w) (base := base) (CN_ := C.num) (CD_ := C.date) T D.date_forms cl_DateForm
 have ok_all_forms := Tf.ok_all_forms (P := P) (w := w) (base := base) (CN_ := C.num) (CD_ := C.date) T D.all_forms ok_whole_forms ok_decimal_forms ok_date_forms
 have ok_converted := Tf.ok_converted (P := P) (w := w) (base := base) (CN_ := C.num) (CD_ := C.date) T D.converted om_NumberForm_value_read om_DateForm_value_read om_NumberForm_written om_DateForm_written
 have ok_Line_init := Tf.ok_Line_init (P := P) (w := w) (base := base) NLn D.Line_init
 have cl_Line := ok_Line_init
 have om_Line_at_end := Tf.om_Line_at_end (P := P) (w := w) (base := base) T NLn D.Line_at_end
 have om_Line_take_number := Tf.om_Line_take_number (P := P) (w := w) (base := base) T NLn D.Line_take_number
 have om_Line_take_row := Tf.om_Line_take_row (P := P) (w := w) (base := base) T NLn D.Line_take_row om_Line_take_number
 have ok_Desk_init := Tf.ok_Desk_init (P := P) (w := w) (base := base) (C := C) NK D.Desk_init ok_all_forms
 have cl_Desk := ok_Desk_init
 have om_Desk_has_form := Tf.om_Desk_has_form (P := P) (w := w) (base := base) (C := C) T NK D.Desk_has_form
 have ok_text_answer := Tf.ok_text_answer (P := P) (w := w) (base := base) T D.text_answer
 have ok_answer_form := Tf.ok_answer_form (P := P) (w := w) (base := base) (C := C) T NK D.answer_form om_Desk_has_form om_NumberForm_told om_DateForm_told
 have ok_answer_read := Tf.ok_answer_read (P := P) (w := w) (base := base) (C := C) T NK D.answer_read om_Desk_has_form om_NumberForm_value_read om_DateForm_value_read
 have ok_answer_number := Tf.ok_answer_number (P := P) (w := w) (base := base) (C := C) T NK D.answer_number om_Desk_has_form ok_text_answer ok_number_value om_NumberForm_written om_DateForm_written
 have ok_answer_date := Tf.ok_answer_date (P := P) (w := w) (base := base) (C := C) T NK D.answer_date om_Desk_has_form ok_text_answer ok_is_date om_NumberForm_written om_DateForm_written
 have ok_answer_convert := Tf.ok_answer_convert (P := P) (w := w) (base := base) (C := C) T NK D.answer_convert om_Desk_has_form ok_text_answer ok_converted
 have ok_answer_day := Tf.ok_answer_day (P := P) (w := w) (base := base) (C := C) T D.answer_day ok_is_date ok_day_number ok_weekday
 have ok_answer_dateof := Tf.ok_answer_dateof (P := P) (w := w) (base := base) (C := C) T D.answer_dateof ok_is_day_number ok_date_of_day
 have ok_answer_fits := Tf.ok_answer_fits (P := P) (w := w) (base := base) (C := C) T NK D.answer_fits om_NumberForm_value_read om_DateForm_value_read
 have ok_may_be_example := Tf.ok_may_be_example (P := P) (w := w) (base := base) T D.may_be_example
 have ok_Example_init := Tf.ok_Example_init (P := P) (w := w) (base := base) (C := C) NE D.Example_init om_NumberForm_value_read om_DateForm_value_read
 have cl_Example := ok_Example_init
 have ok_forms_by_targets := Tf.ok_forms_by_targets (P := P) (w := w) (base := base) (C := C) T NE D.forms_by_targets
 have ok_fitting_targets := Tf.ok_fitting_targets (P := P) (w := w) (base := base) (C := C) T NE D.fitting_targets ok_forms_by_targets
 have ok_fitting_pairs := Tf.ok_fitting_pairs (P := P) (w := w) (base := base) (C := C) T D.fitting_pairs ok_fitting_targets
 have ok_answer_add := Tf.ok_answer_add (P := P) (w := w) (base := base) (C := C) T NK D.answer_add ok_may_be_example cl_Example
 have ok_answer_shift := Tf.ok_answer_shift (P := P) (w := w) (base := base) (C := C) T NK D.answer_shift om_Desk_has_form om_NumberForm_value_read om_DateForm_value_read ok_day_number ok_is_day_number ok_date_of_day ok_text_answer om_NumberForm_written om_DateForm_written
 have om_Desk_has_example := Tf.om_Desk_has_example (P := P) (w := w) (base := base) (C := C) T NK D.Desk_has_example
 have om_Desk_targets_that_fit := Tf.om_Desk_targets_that_fit (P := P) (w := w) (base := base) (C := C) T NK D.Desk_targets_that_fit ok_fitting_targets
 have om_Desk_pairs_that_fit := Tf.om_Desk_pairs_that_fit (P := P) (w := w) (base := base) (C := C) T NK D.Desk_pairs_that_fit ok_fitting_pairs
 have om_Desk_converted_by := Tf.om_Desk_converted_by (P := P) (w := w) (base := base) (C := C) T NK D.Desk_converted_by ok_converted
 have ok_answer_take := Tf.ok_answer_take (P := P) (w := w) (base := base) (C := C) T NK D.answer_take om_Desk_has_example
 have ok_answer_pairs := Tf.ok_answer_pairs (P := P) (w := w) (base := base) (C := C) T NK D.answer_pairs om_Desk_targets_that_fit
 have ok_answer_least := Tf.ok_answer_least (P := P) (w := w) (base := base) (C := C) T NK D.answer_least om_Desk_targets_that_fit
 have ok_answer_apply := Tf.ok_answer_apply (P := P) (w := w) (base := base) (C := C) T NK D.answer_apply om_Desk_pairs_that_fit om_Desk_converted_by ok_text_answer
 have ok_answer_outputs := Tf.ok_answer_outputs (P := P) (w := w) (base := base) (C := C) T NK D.answer_outputs om_Desk_pairs_that_fit om_Desk_converted_by
 have hF : ∀ (i : Nat) (f : Addr), fs[i]? = some f → FV P w K mg base 8 f (spC C (Tm.WW i)) := by
  intro i f hf
  have hi : i < 15 := by rw [← hfl]; exact (List.getElem?_eq_some_iff.mp hf).1
  have hm := hN i f hf
  match i, hi, hm with
  | 0, _, hm => exact FV.of_ok (Ok.mono (ok_answer_form) (by decide)) hm
  | 1, _, hm => exact FV.of_ok (Ok.mono (ok_answer_read) (by decide)) hm
  | 2, _, hm => exact FV.of_ok (Ok.mono (ok_answer_number) (by decide)) hm
  | 3, _, hm => exact FV.of_ok (Ok.mono (ok_answer_date) (by decide)) hm
  | 4, _, hm => exact FV.of_ok (Ok.mono (ok_answer_convert) (by decide)) hm
  | 5, _, hm => exact FV.of_ok (Ok.mono (ok_answer_fits) (by decide)) hm
  | 6, _, hm => exact FV.of_ok (Ok.mono (ok_answer_day) (by decide)) hm
  | 7, _, hm => exact FV.of_ok (Ok.mono (ok_answer_dateof) (by decide)) hm
  | 8, _, hm => exact FV.of_ok (Ok.mono (ok_answer_shift) (by decide)) hm
  | 9, _, hm => exact FV.of_ok (Ok.mono (ok_answer_add) (by decide)) hm
  | 10, _, hm => exact FV.of_ok (Ok.mono (ok_answer_take) (by decide)) hm
  | 11, _, hm => exact FV.of_ok (Ok.mono (ok_answer_pairs) (by decide)) hm
  | 12, _, hm => exact FV.of_ok (Ok.mono (ok_answer_least) (by decide)) hm
  | 13, _, hm => exact FV.of_ok (Ok.mono (ok_answer_apply) (by decide)) hm
  | 14, _, hm => exact FV.of_ok (Ok.mono (ok_answer_outputs) (by decide)) hm
 have ok_answer_call := Tf.ok_answer_call (P := P) (w := w) (base := base) (C := C) T D.answer_call fs hfl hCALLS hF om_Line_take_number om_Line_take_row
 exact fn_answers T NLn ok_answer_call cl_Desk cl_Line om_Line_at_end F
theorem final_mk {P : Program} {w : World} {K : PySem.W.Frag} {h : Heap} {mg : Str → Option Value} {fa : Addr} (X : K.In h) (G : h.Ns mainGlobals mg) (hfa : mg "answers" = some (.ref fa)) (T : Txt K mg) {c_NumberForm : Addr} {c_DateForm : Addr} {c_Example : Addr} {c_Desk : Addr} {c_Line : Addr}
  {ca n : Nat} {its : Array Value} {od od2 an : Option Addr} {sl sl2 : Array (Option Value)} {oc kV doc pm cdv ct : Value} {ff f0 f1 f2 f3 f4 f5 f6 f7 f8 f9 f10 f11 f12 f13 f14 : Addr}
  (e_NumberForm : PySem.W.nsIn K mainGlobals "NumberForm" = some (some (.ref c_NumberForm))) (a_NumberForm_cl : Cls K c_NumberForm) (a_NumberForm_width : PySem.W.findIn K (.ref c_NumberForm) "width" = some none) (a_NumberForm_group : PySem.W.findIn K (.ref c_NumberForm) "group" = some none) (a_NumberForm_decimals : PySem.W.findIn K (.ref c_NumberForm) "decimals" = some none) (a_NumberForm_mark : PySem.W.findIn K (.ref c_NumberForm) "mark" = some none)
  (e_DateForm : PySem.W.nsIn K mainGlobals "DateForm" = some (some (.ref c_DateForm))) (a_DateForm_cl : Cls K c_DateForm) (a_DateForm_order : PySem.W.findIn K (.ref c_DateForm) "order" = some none) (a_DateForm_separator : PySem.W.findIn K (.ref c_DateForm) "separator" = some none) (a_DateForm_day_way : PySem.W.findIn K (.ref c_DateForm) "day_way" = some none) (a_DateForm_month_way : PySem.W.findIn K (.ref c_DateForm) "month_way" = some none)
  (e_Example : PySem.W.nsIn K mainGlobals "Example" = some (some (.ref c_Example))) (a_Example_cl : Cls K c_Example) (a_Example_source_values : PySem.W.findIn K (.ref c_Example) "source_values" = some none) (a_Example_target_values : PySem.W.findIn K (.ref c_Example) "target_values" = some none)
  (e_Desk : PySem.W.nsIn K mainGlobals "Desk" = some (some (.ref c_Desk))) (a_Desk_cl : Cls K c_Desk) (a_Desk_forms : PySem.W.findIn K (.ref c_Desk) "forms" = some none) (a_Desk_examples : PySem.W.findIn K (.ref c_Desk) "examples" = some none)
  (e_Line : PySem.W.nsIn K mainGlobals "Line" = some (some (.ref c_Line))) (a_Line_cl : Cls K c_Line) (a_Line_calls : PySem.W.findIn K (.ref c_Line) "calls" = some none) (a_Line_place : PySem.W.findIn K (.ref c_Line) "place" = some none)
  (D : Ds K mg c_NumberForm c_DateForm c_Example c_Desk c_Line)
  (cE : PySem.W.nsIn K mainGlobals "CALLS" = some (some (.ref ca))) (cL : K.lookup ca = some ⟨.type "tuple", od, .seq its n, sl⟩)
  (m0 : PySem.W.nsIn K mainGlobals "answer_form" = some (some (.ref f0)))
  (m1 : PySem.W.nsIn K mainGlobals "answer_read" = some (some (.ref f1)))
  (m2 : PySem.W.nsIn K mainGlobals "answer_number" = some (some (.ref f2)))
  (m3 : PySem.W.nsIn K mainGlobals "answer_date" = some (some (.ref f3)))
  (m4 : PySem.W.nsIn K mainGlobals "answer_convert" = some (some (.ref f4)))
  (m5 : PySem.W.nsIn K mainGlobals "answer_fits" = some (some (.ref f5)))
  (m6 : PySem.W.nsIn K mainGlobals "answer_day" = some (some (.ref f6)))
  (m7 : PySem.W.nsIn K mainGlobals "answer_dateof" = some (some (.ref f7)))
  (m8 : PySem.W.nsIn K mainGlobals "answer_shift" = some (some (.ref f8)))
  (m9 : PySem.W.nsIn K mainGlobals "answer_add" = some (some (.ref f9)))
  (m10 : PySem.W.nsIn K mainGlobals "answer_take" = some (some (.ref f10)))
  (m11 : PySem.W.nsIn K mainGlobals "answer_pairs" = some (some (.ref f11)))
  (m12 : PySem.W.nsIn K mainGlobals "answer_least" = some (some (.ref f12)))
  (m13 : PySem.W.nsIn K mainGlobals "answer_apply" = some (some (.ref f13)))
  (m14 : PySem.W.nsIn K mainGlobals "answer_outputs" = some (some (.ref f14)))
  (cZ : decide (its.size ≤ sizeLine) = true) (cC : rowsOk K (callRows [f0, f1, f2, f3, f4, f5, f6, f7, f8, f9, f10, f11, f12, f13, f14]) its.toList = true)
  (fA : PySem.W.nsIn K mainGlobals "answers" = some (some (.ref ff))) (fL : K.lookup ff = some ⟨oc, od2, .func (PySem.W.fnOf "answers" "answers" (defArgs s_answers) (defBody s_answers) (defScope s_answers) .none kV doc pm an cdv ct), sl2⟩) (fC : PySem.W.codeIn K cdv "answers" = true) (fK : PySem.W.keepIn K (.ref ff) = true) :
  ∃ fd : FuncData, (∀ (s : Shared) (us : List Value), us.length = (["calls"] : List Str).length → BindsTo s fd ⟨us, []⟩ ((["calls"] : List Str).zip us)) ∧ ∀ base : Heap, K.In base → base.Ns mainGlobals mg → FnOk P w K mg base CX0 10 fa fd ["calls"] (sp_answers K) := by
 have e := hfa.symm.trans (PySem.W.mg_of X G fA)
 cases e
 have FF := fun_mk (st := s_answers) fL fC fK
 refine ⟨_, fun s us hu => match us, hu with | [_], _ => .of_eq rfl, fun base _ _ => all_ok (C := ⟨c_NumberForm, c_DateForm, c_Example, c_Desk, c_Line⟩) T ⟨a_NumberForm_cl, a_NumberForm_width, a_NumberForm_group, a_NumberForm_decimals, a_NumberForm_mark⟩ ⟨a_DateForm_cl, a_DateForm_order, a_DateForm_separator, a_DateForm_day_way, a_DateForm_month_way⟩ ⟨a_Example_cl, a_Example_source_values, a_Example_target_values⟩ ⟨a_Desk_cl, a_Desk_forms, a_Desk_examples⟩ ⟨a_Line_cl, a_Line_calls, a_Line_place⟩
  D [f0, f1, f2, f3, f4, f5, f6, f7, f8, f9, f10, f11, f12, f13, f14] rfl ?_ ?_ _ _ FF⟩
 ·rw [callsT_eq]
  exact ctt_mk X G cE cL cZ cC
 ·intro i f hf
  have hi : i < 15 := (List.getElem?_eq_some_iff.mp hf).1
  match i, hi, hf with
  | 0, _, hf => cases (Option.some.inj hf); exact PySem.W.mg_of X G m0
  | 1, _, hf => cases (Option.some.inj hf); exact PySem.W.mg_of X G m1
  | 2, _, hf => cases (Option.some.inj hf); exact PySem.W.mg_of X G m2
  | 3, _, hf => cases (Option.some.inj hf); exact PySem.W.mg_of X G m3
  | 4, _, hf => cases (Option.some.inj hf); exact PySem.W.mg_of X G m4
  | 5, _, hf => cases (Option.some.inj hf); exact PySem.W.mg_of X G m5
  | 6, _, hf => cases (Option.some.inj hf); exact PySem.W.mg_of X G m6
  | 7, _, hf => cases (Option.some.inj hf); exact PySem.W.mg_of X G m7
  | 8, _, hf => cases (Option.some.inj hf); exact PySem.W.mg_of X G m8
  | 9, _, hf => cases (Option.some.inj hf); exact PySem.W.mg_of X G m9
  | 10, _, hf => cases (Option.some.inj hf); exact PySem.W.mg_of X G m10
  | 11, _, hf => cases (Option.some.inj hf); exact PySem.W.mg_of X G m11
  | 12, _, hf => cases (Option.some.inj hf); exact PySem.W.mg_of X G m12
  | 13, _, hf => cases (Option.some.inj hf); exact PySem.W.mg_of X G m13
  | 14, _, hf => cases (Option.some.inj hf); exact PySem.W.mg_of X G m14
end Tf
set_option Elab.async false
set_option linter.all false
set_option maxRecDepth 100000
open PySem PySem.W PyProof.Rows
local macro_rules | `(tactic| walk_at "C") => `(tactic| first | (refine' Tf.ci_mk (by assumption) (by assumption) ?za; (case za => k_is)) | (refine' PySem.W.mg_none_of (by assumption) (by assumption) ?za; (case za => k_is)) | (refine' Tf.ct_ints (by assumption) (by assumption) ?za ?zl ?zz ?zc; (case za => k_is); (case zl => k_is); (case zz => kernel_rfl); (case zc => kernel_rfl)) | (refine' Tf.ct_strs (by assumption) (by assumption) ?za ?zl ?zz ?zc; (case za => k_is); (case zl => k_is); (case zz => kernel_rfl); (case zc => kernel_rfl)) | (refine' Tf.ctt_mk (rows := [[.inl 3, .inl 2, .inl 1], [.inl 2, .inl 3, .inl 1], [.inl 1, .inl 2, .inl 3]]) (by assumption) (by assumption) ?za ?zl ?zz ?zc; (case za => k_is); (case zl => k_is); (case zz => kernel_rfl); (case zc => kernel_rfl)))
local macro_rules | `(tactic| walk_at "B") => `(tactic| first | (exact fun _ _ _ _ _ _ => Tf.ln1 fun _ => rfl) | (exact fun _ _ _ _ _ _ => Tf.ln2 fun _ _ => rfl) | (exact fun _ _ _ _ _ _ => Tf.ln3 fun _ _ _ => rfl) | (exact fun _ _ _ _ _ _ => Tf.ln0 rfl) | (exact fun _ _ _ _ _ _ => Tf.ln4 fun _ _ _ _ => rfl) | (exact fun _ _ _ _ _ _ => Tf.ln5 fun _ _ _ _ _ => rfl))
local macro_rules | `(tactic| walk_at "D") => `(tactic| first | (refine' Tf.def_mk (by assumption) (by assumption) ?za ?zl ?zc ?zk ?zb; (case za => k_is); (case zl => k_is); (case zc => k_is); (case zk => k_is); (case zb => walk_at "B")) | (refine' Tf.mdef_mk ?za ?zi ?zl ?zc ?zk ?zb; (case za => k_is); (case zi => k_is); (case zl => k_is); (case zc => k_is); (case zk => k_is); (case zb => walk_at "B")) | (refine' Tf.idef_mk (by assumption) (by assumption) ?zn ?zm ?zq ?za ?zi ?zl ?zc ?zk ?zb; (case zn => k_is); (case zm => k_is); (case zq => k_is); (case za => k_is); (case zi => k_is); (case zl => k_is); (case zc => k_is); (case zk => k_is); (case zb => walk_at "B")))
local macro_rules | `(command| lay_quick $x:ident) => do
 let own := fun (s : String) => (`PySem.Challenge.cw_toldforms_s01_answers_holds).str s
 let many := fun (k : String) (l : List Nat) => (l.map fun i => own (k ++ toString i)).toArray
 let ns := #[`PySem.Challenge.pw_toldforms_s01_answers] ++ many "view_" [1] ++ many "heap_" [1, 8, 570] ++ many "tree_" [9, 81, 102, 179, 220, 236, 283, 325, 383, 441, 525, 569] ++ many "sts_" [11, 82, 103, 180, 221, 237, 284, 326, 384, 442, 526] ++ many "o_" (List.range 571)
 let cs ← ns.mapM fun n => `(theorem $(Lean.mkIdent (x.getId.str ("tw" ++ toString n.hash))) : True := trivial)
 return Lean.mkNullNode cs
lay_quick PySem.W.Fast
set_option maxRecDepth 100000 in
set_option maxHeartbeats 0 in
theorem PySem.Challenge.cw_toldforms_s01_answers_holds : PySem.Challenge.rw_toldforms_s01_answers.Holds := by
 w_on; k_headS; (case hw => exact ⟨[.list [.int 7, .int 1]], by decide +kernel, by decide +kernel⟩)
 k_fillS
 refine L2.walk_specK (r := PySem.Challenge.rw_toldforms_s01_answers) (k := 10) (CX := L2.CX0) (ps := ["calls"]) (sp := Tf.sp_answers) (by decide +kernel) rfl rfl ⟨rfl, by decide, by decide⟩ (fun w h Y => PySem.W.kIn_of Y) ?F ?S (fun _ _ _ _ z => z)
 case F =>
  intro w mg fa h Y KX G hmg
  refine' Tf.final_mk KX G hmg ?T ?c_NumberForm ?a_NumberForm_cl ?a_NumberForm_width ?a_NumberForm_group ?a_NumberForm_decimals ?a_NumberForm_mark ?c_DateForm ?a_DateForm_cl ?a_DateForm_order ?a_DateForm_separator ?a_DateForm_day_way ?a_DateForm_month_way ?c_Example ?a_Example_cl ?a_Example_source_values ?a_Example_target_values ?c_Desk ?a_Desk_cl ?a_Desk_forms ?a_Desk_examples ?c_Line ?a_Line_cl ?a_Line_calls ?a_Line_place ?D ?cE ?cL ?m0 ?m1 ?m2 ?m3 ?m4 ?m5 ?m6 ?m7 ?m8 ?m9 ?m10 ?m11 ?m12 ?m13 ?m14 ?cZ ?cC ?fA ?fL ?fC ?fK
  (case T => constructor <;> walk_at "C")
  (case c_NumberForm => k_is)
  (case a_NumberForm_cl => refine' ⟨?x1, ?x2, ?x3, ?x4⟩; (case x1 => k_is); (case x2 => k_is); (case x3 => k_is); (case x4 => k_is))
  (case a_NumberForm_width => k_is)
  (case a_NumberForm_group => k_is)
  (case a_NumberForm_decimals => k_is)
  (case a_NumberForm_mark => k_is)
  (case c_DateForm => k_is)
  (case a_DateForm_cl => refine' ⟨?x1, ?x2, ?x3, ?x4⟩; (case x1 => k_is); (case x2 => k_is); (case x3 => k_is); (case x4 => k_is))
  (case a_DateForm_order => k_is)
  (case a_DateForm_separator => k_is)
  (case a_DateForm_day_way => k_is)
  (case a_DateForm_month_way => k_is)
  (case c_Example => k_is)
  (case a_Example_cl => refine' ⟨?x1, ?x2, ?x3, ?x4⟩; (case x1 => k_is); (case x2 => k_is); (case x3 => k_is); (case x4 => k_is))
  (case a_Example_source_values => k_is)
  (case a_Example_target_values => k_is)
  (case c_Desk => k_is)
  (case a_Desk_cl => refine' ⟨?x1, ?x2, ?x3, ?x4⟩; (case x1 => k_is); (case x2 => k_is); (case x3 => k_is); (case x4 => k_is))
  (case a_Desk_forms => k_is)
  (case a_Desk_examples => k_is)
  (case c_Line => k_is)
  (case a_Line_cl => refine' ⟨?x1, ?x2, ?x3, ?x4⟩; (case x1 => k_is); (case x2 => k_is); (case x3 => k_is); (case x4 => k_is))
  (case a_Line_calls => k_is)
  (case a_Line_place => k_is)
  (case D => constructor <;> walk_at "D")
  (case cE => k_is); (case cL => k_is)
  (case m0 => k_is); (case m1 => k_is); (case m2 => k_is); (case m3 => k_is); (case m4 => k_is); (case m5 => k_is); (case m6 => k_is); (case m7 => k_is); (case m8 => k_is); (case m9 => k_is); (case m10 => k_is); (case m11 => k_is); (case m12 => k_is); (case m13 => k_is); (case m14 => k_is)
  (case cZ => kernel_rfl); (case cC => kernel_rfl); (case fA => k_is); (case fL => k_is); (case fC => k_is); (case fK => k_is)
 case S =>
  intro K H xs a hO hwi hask hx
  cases hx with
  | cons h1 h2 =>
   cases h2
   cases h1 with
   | lst hs ha =>
    have e := L2.ints_dw a.1 _ ha
    subst e
    exact ⟨_, a.1, rfl, hs, hask, fun p H' _ _ hp => .lst (L2.SqL.of hp) (L2.dw_ints _)⟩
#print axioms PySem.Challenge.cw_toldforms_s01_answers_holds
