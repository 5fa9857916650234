import PyProof.Rows.All
import Wide.All
import OpenK.AllK
import Wide.FinOn
import PyProof.EqAt
import PyProof.EqKinds
import PyProof.TupleCall
import KE.BitLaws
import KE.KDictSum
import PyProof.AutoSeq1
import PyProof.MinMaxWalk
import PyProof.CollectIter
import PyProof.TupleOfGen
import PyProof.Rows.CallKwBuiltin
import PyProof.WalkInts
import PyProof.TupleOps
import PySem.Challenge.RW_seeall_k61_kings_on_great_boards
section
set_option Elab.async false
set_option linter.all false
set_option maxRecDepth 100000
namespace L2
open PySem PySem.Spec PyProof.Rows
abbrev Key := Sum Int Str
def keyIs : Key → Value → Bool
  | .inl k, v => Value.isInt k v
  | .inr x, v => Value.isStrOf x v
def keyH (w : World) : Key → Int
  | .inl k => hashInt k
  | .inr x => hashStr w x
theorem keyIs_shape : ∀ {k : Key} {v : Value}, keyIs k v = true → (∃ i t, k = Sum.inl i ∧ v = Value.int i t) ∨ (∃ x t, k = Sum.inr x ∧ v = Value.str x t)
  | .inl i, v, h => by
    obtain ⟨t, e⟩ := Value.isInt_shape (k := i) (v := v) h
    exact .inl ⟨i, t, rfl, e⟩
  | .inr x, v, h => by
    obtain ⟨t, e⟩ := Value.isStrOf_shape (x := x) (v := v) h
    exact .inr ⟨x, t, rfl, e⟩
theorem key_ll (a b : Int) : decide ((Sum.inl a : Key) = Sum.inl b) = (a == b) := by
  by_cases e : a = b
  · subst e; simp
  · have h : ¬ (Sum.inl a : Key) = Sum.inl b := fun q => e (Sum.inl.inj q)
    rw [decide_eq_false h]
    exact (beq_eq_false_iff_ne.mpr e).symm
theorem key_rr (a b : Str) : decide ((Sum.inr a : Key) = Sum.inr b) = decide (a = b) := by
  by_cases e : a = b
  · subst e; simp
  · have h : ¬ (Sum.inr a : Key) = Sum.inr b := fun q => e (Sum.inr.inj q)
    rw [decide_eq_false h, decide_eq_false e]
theorem key_lr (a : Int) (b : Str) : decide ((Sum.inl a : Key) = Sum.inr b) = false := decide_eq_false (fun q => nomatch q)
theorem key_rl (a : Str) (b : Int) : decide ((Sum.inr a : Key) = Sum.inl b) = false := decide_eq_false (fun q => nomatch q)

def mixKind (prog : Program) (w : World) : PySem.KeyKind prog w Key where
  is := keyIs
  hash := keyH w
  inj := fun v a b ha hb => by
    rcases keyIs_shape ha with ⟨i, t, rfl, rfl⟩ | ⟨x, t, rfl, rfl⟩
    · rcases keyIs_shape hb with ⟨j, u, rfl, e⟩ | ⟨y, u, rfl, e⟩
      · injection e with e1 _; rw [e1]
      · exact nomatch e
    · rcases keyIs_shape hb with ⟨j, u, rfl, e⟩ | ⟨y, u, rfl, e⟩
      · exact nomatch e
      · injection e with e1 _; rw [e1]
  byValue := fun k v h => by
    rcases keyIs_shape h with ⟨i, t, rfl, rfl⟩ | ⟨x, t, rfl, rfl⟩ <;> rfl
  pyHash := fun hv h => by
    rcases keyIs_shape hv with ⟨i, t, rfl, rfl⟩ | ⟨x, t, rfl, rfl⟩
    · exact wpAny_pyHash_int h
    · exact wpAny_pyHash_str h
  eqBool := fun hu hv h => by
    rcases keyIs_shape hu with ⟨i, t, rfl, rfl⟩ | ⟨x, t, rfl, rfl⟩
    · rcases keyIs_shape hv with ⟨j, u, rfl, rfl⟩ | ⟨y, u, rfl, rfl⟩
      · rw [key_ll] at h; exact wpAny_eqBool_int h
      · rw [key_lr] at h; exact SeqAt.EqAt.int_str i t y u _ _ _ _ h
    · rcases keyIs_shape hv with ⟨j, u, rfl, rfl⟩ | ⟨y, u, rfl, rfl⟩
      · rw [key_rl] at h; exact SeqAt.EqAt.str_int x t j u _ _ _ _ h
      · rw [key_rr] at h; exact wpAny_eqBool_str h
  «strs» := fun k x t v h => by
    rcases keyIs_shape h with ⟨i, u, rfl, e⟩ | ⟨y, u, rfl, e⟩
    · exact nomatch e
    · injection e with e1 _
      subst e1
      cases v <;> rfl

end L2
namespace L2
open PySem PySem.Spec PyProof.Rows
inductive V where
  | non | bl (b : Bool) | int (i : Int) | str (x : Str) | byt (b : Array UInt8) | flt (b : UInt64) | ref (a : Addr) | ty (n : String)
  deriving DecidableEq

def RelV : V → Value → Prop
  | .non, u => u = Value.none
  | .bl b, u => u = Value.bool b
  | .int i, u => ∃ t, u = Value.int i t
  | .str x, u => ∃ t, u = Value.str x t
  | .byt b, u => ∃ t, u = Value.bytes b t
  | .flt b, u => ∃ t, u = Value.float b t
  | .ref a, u => u = Value.ref a
  | .ty n, u => u = Value.type n

abbrev Vals : List V → List Value → Prop := Paired RelV
theorem Vals.length {xs : List V} {us : List Value} (r : Vals xs us) : xs.length = us.length := Paired.length r
theorem Vals.get : ∀ {xs : List V} {us : List Value} {i : Nat} {x : V}, Vals xs us → xs[i]? = some x → ∃ u, us[i]? = some u ∧ RelV x u
  | _, _, _, _, .nil, e => by simp at e
  | _, _, 0, _, .cons r _, e => by simp at e; subst e; exact ⟨_, rfl, r⟩
  | _, _, i + 1, x, .cons _ t, e => by
    obtain ⟨u, h1, h2⟩ := Vals.get (i := i) (x := x) t (by simpa using e)
    exact ⟨u, by simpa using h1, h2⟩
theorem Vals.set {x : V} {u : Value} (r : RelV x u) : ∀ {xs : List V} {us : List Value} (i : Nat), Vals xs us → Vals (xs.set i x) (us.set i u)
  | _, _, _, .nil => .nil
  | _, _, 0, .cons _ t => .cons r t
  | _, _, i + 1, .cons q t => .cons q (Vals.set r i t)
theorem Vals.append : ∀ {xs ys : List V} {us ws : List Value}, Vals xs us → Vals ys ws → Vals (xs ++ ys) (us ++ ws)
  | _, _, _, _, .nil, s => s
  | _, _, _, _, .cons r t, s => .cons r (Vals.append t s)
theorem Vals.take : ∀ {xs : List V} {us : List Value} (n : Nat), Vals xs us → Vals (xs.take n) (us.take n)
  | _, _, 0, _ => .nil
  | _, _, _ + 1, .nil => .nil
  | _, _, n + 1, .cons r t => .cons r (Vals.take n t)
theorem Vals.drop : ∀ {xs : List V} {us : List Value} (n : Nat), Vals xs us → Vals (xs.drop n) (us.drop n)
  | _, _, 0, r => r
  | _, _, _ + 1, .nil => .nil
  | _, _, n + 1, .cons _ t => Vals.drop n t
def RelO : Option V → Option Value → Prop
  | some v, some u => RelV v u
  | none, none => True
  | _, _ => False
def KV {κ : Type} : List (κ × V) → List (κ × Value) → Prop := Paired fun (p : κ × V) (q : κ × Value) => p.1 = q.1 ∧ RelV p.2 q.2


def kV : Key → V
  | .inl i => .int i
  | .inr x => .str x


inductive HO where
  
  | lst (xs : List V)
  
  | tup (xs : List V)
  
  | dK (kvs : List (Key × V)) | dT (kvs : List (List Key × V))
  
  | set (S : Int → Bool) (n : Nat)
  
  | ins (C dx : Addr) (fs : List (Str × V))
  
  | own (x : Addr)
  
  | xd (fs : List (Str × V))
  
  | met (f x : Addr)
  
  | rng (lo hi : Int)
  
  | frz (o : Obj) (u : HO)
  
  | tbl (ps : Array Value)
  
  | ext (φ : Heap → Prop)

abbrev Hp := Addr → Option HO
def upd (H : Hp) (a : Addr) (o : HO) : Hp := fun b => if b = a then some o else H b
theorem upd_same {H : Hp} {a : Addr} {o : HO} : upd H a o a = some o := by unfold upd; rw [if_pos rfl]
theorem upd_ne {H : Hp} {a b : Addr} {o : HO} (h : b ≠ a) : upd H a o b = H b := by unfold upd; rw [if_neg h]
theorem ne_of_none {H : Hp} {a b : Addr} {o : HO} (h : H a = some o) (h' : H b = none) : a ≠ b := by
  intro e; subst e; rw [h] at h'; cases h'

section
variable (P : Program) (w : World)
def ObjOk (H : Hp) (h : Heap) (a : Addr) : HO → Prop
  | .lst xs => xs.length ≤ sizeLine ∧ ∃ (its : List Value) (n : Nat), Vals xs its ∧ h.get? a = some { cls := .type "list", data := .seq its.toArray n }
  | .tup xs => xs.length ≤ sizeLine ∧ ∃ its : List Value, Vals xs its ∧ IsTup h a its.toArray
  | .dK kvs => kvs.length ≤ sizeLine ∧ (a == sysModules) = false ∧ ∃ vs, KV kvs vs ∧ h.DictOf (mixKind P w) a vs
  | .dT kvs => kvs.length ≤ sizeLine ∧ (a == sysModules) = false ∧ ∃ xs : List (List Key × Addr × Value),
      Paired (fun (p : List Key × V) (q : List Key × Addr × Value) => p.1 = q.1 ∧ H q.2.1 = some (.tup (p.1.map kV)) ∧ RelV p.2 q.2.2) kvs xs ∧
      ∃ o es ep, h.get? a = some o ∧ o.ExactDict ∧ o.data = .dict es ep ∧ es.toList = xs.map (entryOfKey (tupleKind (mixKind P w))) ∧ (xs.map (·.1)).Nodup
  | .set S n => h.SetOf (intKind P w) a S n
  | .ins C dx fs => H dx = some (.own a) ∧ fs.length ≤ 1000 ∧ dx ≠ a ∧ h.get? a = some (PySem.W.instObj C dx) ∧
      ∃ mA, h.Ns1 dx mA ∧ (∀ f, RelO (fs.lookup f) (mA f)) ∧ PySem.Within mA (fs.map (·.1))
  | .own _ => ∃ o, h.get? a = some o
  | .xd fs => ∃ mA, h.Ns1 a mA ∧ ∀ f, RelO (fs.lookup f) (mA f)
  | .rng lo hi => ∃ t u v, h.get? a = some { cls := .type "range", data := .fields #[.int lo t, .int hi u, .int 1 v] }
  | .frz o u => h.get? a = some o ∧ ObjOk H h a u
  | .tbl ps => h.get? a = some { cls := .none, data := .fields ps }
  | .met f x => h.get? a = some (PySem.W.methodObj (.ref f) (.ref x))
  | .ext φ => φ h ∧ (∃ o, h.get? a = some o) ∧ ∀ h1 h2 : Heap, φ h1 → (∀ o, h1.get? a = some o → h2.get? a = some o) → φ h2

def HOk (H : Hp) (h : Heap) : Prop := ∀ a o, H a = some o → ObjOk P w H h a o
end
section
variable {P : Program} {w : World} {H H' : Hp} {h h' : Heap} {a : Addr} {o : HO}
theorem ObjOk.lt (x : ObjOk P w H h a o) : a < h.objs.size := by
  cases o with
  | lst xs => obtain ⟨_, _, _, _, e⟩ := x; exact Heap.lt_size e
  | tup xs => obtain ⟨_, _, _, p⟩ := x; exact p.lt
  | dK kvs => obtain ⟨_, _, _, _, o, _, _, e, _⟩ := x; exact Heap.lt_size e
  | dT kvs => obtain ⟨_, _, _, _, o, _, _, e, _⟩ := x; exact Heap.lt_size e
  | set S n => obtain ⟨o, _, _, _, e, _⟩ := x; exact Heap.lt_size e
  | ins C dx fs => obtain ⟨_, _, _, e, _⟩ := x; exact Heap.lt_size e
  | own y => obtain ⟨_, e⟩ := x; exact Heap.lt_size e
  | xd fs => obtain ⟨_, ⟨_, _, _, e, _⟩, _⟩ := x; exact Heap.lt_size e
  | rng lo hi => obtain ⟨_, _, _, e⟩ := x; exact Heap.lt_size e
  | frz ob u => obtain ⟨e, _⟩ := x; exact Heap.lt_size e
  | tbl ps => exact Heap.lt_size (show h.get? a = some _ from x)
  | met f y => exact Heap.lt_size (show h.get? a = some _ from x)
  | ext φ => obtain ⟨_, ⟨_, e⟩, _⟩ := x; exact Heap.lt_size e
theorem Paired.mapP {α β : Type} {F G : α → β → Prop} : ∀ {l₁ : List α} {l₂ : List β}, Paired F l₁ l₂ → (∀ a b, F a b → G a b) → Paired G l₁ l₂
  | _, _, .nil, _ => .nil
  | _, _, .cons r t, f => .cons (f _ _ r) (Paired.mapP t f)
theorem ObjOk.stay (x : ObjOk P w H h a o) (k : ∀ b u, (b = a ∨ H b = some (.own a)) → h.get? b = some u → h'.get? b = some u)
    (ho : ∀ b, H b = some (.own a) → H' b = some (.own a)) (ht : ∀ b xs, H b = some (.tup xs) → H' b = some (.tup xs)) : ObjOk P w H' h' a o := by
  induction o with
  | lst xs => obtain ⟨z, its, n, r, e⟩ := x; exact ⟨z, its, n, r, k _ _ (.inl rfl) e⟩
  | tup xs => obtain ⟨z, its, r, ob, e, c⟩ := x; exact ⟨z, its, r, ob, k _ _ (.inl rfl) e, c⟩
  | dK kvs => obtain ⟨z, y, vs, r, ob, es, ep, e, c⟩ := x; exact ⟨z, y, vs, r, ob, es, ep, k _ _ (.inl rfl) e, c⟩
  | dT kvs =>
    obtain ⟨z, y, xs, r, ob, es, ep, e, c⟩ := x
    exact ⟨z, y, xs, Paired.mapP r fun p q z => ⟨z.1, ht _ _ z.2.1, z.2.2⟩, ob, es, ep, k _ _ (.inl rfl) e, c⟩
  | set S n => obtain ⟨ob, es, ep, t, e, c⟩ := x; exact ⟨ob, es, ep, t, k _ _ (.inl rfl) e, c⟩
  | ins C dx fs =>
    obtain ⟨d, z, ne, e, mA, ⟨od, es, ep, e2, c⟩, r⟩ := x
    exact ⟨ho _ d, z, ne, k _ _ (.inl rfl) e, mA, ⟨od, es, ep, k _ _ (.inr d) e2, c⟩, r⟩
  | own y => obtain ⟨ob, e⟩ := x; exact ⟨ob, k _ _ (.inl rfl) e⟩
  | xd fs => obtain ⟨mA, ⟨od, es, ep, e, c⟩, r⟩ := x; exact ⟨mA, ⟨od, es, ep, k _ _ (.inl rfl) e, c⟩, r⟩
  | rng lo hi => obtain ⟨t, u, v, e⟩ := x; exact ⟨t, u, v, k _ _ (.inl rfl) e⟩
  | frz ob u ih => obtain ⟨e, q⟩ := x; exact ⟨k _ _ (.inl rfl) e, ih q⟩
  | tbl ps =>
    have e : h.get? a = some { cls := .none, data := .fields ps } := x
    show h'.get? a = some { cls := .none, data := .fields ps }
    exact k a _ (.inl rfl) e
  | met f y =>
    have e : h.get? a = some (PySem.W.methodObj (.ref f) (.ref y)) := x
    show h'.get? a = some (PySem.W.methodObj (.ref f) (.ref y))
    exact k a _ (.inl rfl) e
  | ext φ => obtain ⟨p, ⟨o, e⟩, st⟩ := x; exact ⟨st _ _ p fun o q => k _ _ (.inl rfl) q, ⟨o, k _ _ (.inl rfl) e⟩, st⟩
theorem HOk.lt (x : HOk P w H h) (e : H a = some o) : a < h.objs.size := (x a o e).lt
theorem HOk.fresh (x : HOk P w H h) (e : h.objs.size ≤ a) : H a = none := by
  cases q : H a with
  | none => rfl
  | some u => exact absurd (Nat.lt_of_lt_of_le (x.lt q) e) (Nat.lt_irrefl _)

theorem HOk.kept (x : HOk P w H h) (k : ∀ b u, h.get? b = some u → h'.get? b = some u) : HOk P w H h' := fun a o e =>
  (x a o e).stay (fun b u _ q => k b u q) (fun _ q => q) fun _ _ q => q

theorem HOk.laid (x : HOk P w H h) (k : ∀ b u, h.get? b = some u → h'.get? b = some u) (hp : h.objs.size ≤ a) (new : ObjOk P w (upd H a o) h' a o) : HOk P w (upd H a o) h' := fun b u e => by
  have hn := x.fresh hp
  by_cases hb : b = a
  · subst hb; rw [upd_same] at e; cases e; exact new
  · rw [upd_ne hb] at e
    exact (x b u e).stay (fun c v _ q => k c v q) (fun c q => by rw [upd_ne (ne_of_none q hn)]; exact q) fun c xs q => by rw [upd_ne (ne_of_none q hn)]; exact q
end
def Rd (H : Hp) (a : Addr) (u : HO) : Prop := H a = some u ∨ ∃ o, H a = some (.frz o u)
theorem Rd.of {H : Hp} {a : Addr} {u : HO} (h : H a = some u) : Rd H a u := .inl h
theorem Rd.ok {P : Program} {w : World} {H : Hp} {h : Heap} {a : Addr} {u : HO} (r : Rd H a u) (x : HOk P w H h) : ObjOk P w H h a u := by
  rcases r with r | ⟨o, r⟩
  · exact x a u r
  · obtain ⟨_, q⟩ := x a _ r
    exact q

def Mut : Option HO → Prop
  | some (.lst _) => True
  | some (.dK _) => True
  | some (.dT _) => True
  | some (.set _ _) => True
  | some (.ins _ _ _) => True
  | some (.ext _) => True
  | _ => False
section
variable {P : Program} {w : World} {H : Hp} {h h' : Heap} {x e : Addr} {o' : HO}
theorem HOk.write (ok : HOk P w H h) (mu : Mut (H x)) (he : e = x ∨ H e = some (.own x)) (k : ∀ b u, b ≠ e → h.get? b = some u → h'.get? b = some u) (heo : ∃ u, h'.get? e = some u)
    (new : ObjOk P w (upd H x o') h' x o') : HOk P w (upd H x o') h' := fun b u q => by
  have nown : ∀ c y, H c = some (.own y) → c ≠ x := fun c y r z => by subst z; rw [r] at mu; exact mu
  have ntup : ∀ c xs, H c = some (.tup xs) → c ≠ x := fun c xs r z => by subst z; rw [r] at mu; exact mu
  by_cases hb : b = x
  · subst hb; rw [upd_same] at q; cases q; exact new
  · rw [upd_ne hb] at q
    by_cases hbe : b = e
    · have q' : H b = some (.own x) := by
        rcases he with z | z
        · exact absurd (hbe.trans z) hb
        · rw [hbe]; exact z
      rw [q] at q'; cases q'
      obtain ⟨v, hv⟩ := heo
      exact ⟨v, by rw [hbe]; exact hv⟩
    · refine (ok b u q).stay (fun c v hc r => k c v ?_ r) (fun c r => by rw [upd_ne (nown c b r)]; exact r) fun c xs r => by rw [upd_ne (ntup c xs r)]; exact r
      rcases hc with rfl | hc
      · exact hbe
      · rintro rfl
        rcases he with z | z
        · exact nown c b hc z
        · rw [hc] at z; cases z; exact hb rfl
end
structure Un (fs ex : List Addr) (H H' : Hp) (h h' : Heap) : Prop where
  keep : ∀ b o, h.get? b = some o → H b = none → b ∉ fs → b ∉ ex → h'.get? b = some o
  slot : ∀ b o, h.get? b = some o → H b = none → b ∈ fs → b ∉ ex → ∃ sl, h'.get? b = some { o with slots := sl }
  free : ∀ b o, h.get? b = some o → H b = none → b ∉ ex → H' b = none
  there : ∀ b o, h.get? b = some o → b ∉ ex → ∃ o', h'.get? b = some o'
  tups : ∀ b xs, H b = some (.tup xs) → H' b = some (.tup xs)
  frzs : ∀ b o u, H b = some (.frz o u) → H' b = some (.frz o u)
  tbls : ∀ b ps, H b = some (.tbl ps) → ∃ more, H' b = some (.tbl (ps ++ more))
section
variable {fs fs' ex ex' : List Addr} {H H1 H2 : Hp} {h h1 h2 h' : Heap} {a x e : Addr} {o : HO}
theorem Un.any (u : Un fs ex H H1 h h1) {b : Addr} {ob : Obj} (q : h.get? b = some ob) (n : H b = none) (hx : b ∉ ex) : ∃ sl, h1.get? b = some { ob with slots := sl } := by
  by_cases hb : b ∈ fs
  · exact u.slot b ob q n hb hx
  · exact ⟨ob.slots, u.keep b ob q n hb hx⟩
theorem Un.trans (a : Un fs ex H H1 h h1) (b : Un fs ex H1 H2 h1 h2) : Un fs ex H H2 h h2 where
  keep := fun c ob q n hc hx => b.keep c ob (a.keep c ob q n hc hx) (a.free c ob q n hx) hc hx
  slot := fun c ob q n hc hx => by
    obtain ⟨sl, e1⟩ := a.slot c ob q n hc hx
    obtain ⟨sl', e2⟩ := b.slot c _ e1 (a.free c ob q n hx) hc hx
    exact ⟨sl', e2⟩
  free := fun c ob q n hx => by
    obtain ⟨o', e1⟩ := a.there c ob q hx
    exact b.free c o' e1 (a.free c ob q n hx) hx
  there := fun c ob q hx => by
    obtain ⟨o', e1⟩ := a.there c ob q hx
    exact b.there c o' e1 hx
  tups := fun c xs q => b.tups c xs (a.tups c xs q)
  frzs := fun c ob xs q => b.frzs c ob xs (a.frzs c ob xs q)
  tbls := fun c ps q => by
    obtain ⟨m1, e1⟩ := a.tbls c ps q
    obtain ⟨m2, e2⟩ := b.tbls c _ e1
    exact ⟨m1 ++ m2, by rw [e2, Array.append_assoc]⟩
theorem Un.kept (k : ∀ b u, h.get? b = some u → h'.get? b = some u) : Un fs ex H H h h' :=
  ⟨fun b ob q _ _ _ => k b ob q, fun b ob q _ _ _ => ⟨ob.slots, k b ob q⟩, fun _ _ _ n _ => n, fun b ob q _ => ⟨ob, k b ob q⟩, fun _ _ q => q, fun _ _ _ q => q, fun _ ps q => ⟨#[], by rw [q]; simp⟩⟩
theorem Un.refl : Un fs ex H H h h := Un.kept fun _ _ q => q
theorem Un.laid (k : ∀ b u, h.get? b = some u → h'.get? b = some u) (hp : h.objs.size ≤ a) (hn : H a = none) : Un fs ex H (upd H a o) h h' where
  keep := fun b u q _ _ _ => k b u q
  slot := fun b u q _ _ _ => ⟨u.slots, k b u q⟩
  free := fun b u q n _ => by rw [upd_ne (Nat.ne_of_lt (Nat.lt_of_lt_of_le (Heap.lt_size q) hp))]; exact n
  there := fun b u q _ => ⟨u, k b u q⟩
  tups := fun b xs q => by rw [upd_ne (ne_of_none q hn)]; exact q
  frzs := fun b u xs q => by rw [upd_ne (ne_of_none q hn)]; exact q
  tbls := fun b ps q => ⟨#[], by rw [upd_ne (ne_of_none q hn), q]; simp⟩
theorem Un.write (mu : Mut (H x)) (he : e = x ∨ H e = some (.own x)) (k : ∀ b u, b ≠ e → h.get? b = some u → h'.get? b = some u) (heo : ∃ u, h'.get? e = some u) : Un fs ex H (upd H x o) h h' := by
  have hx : ∀ b, H b = none → b ≠ x := fun b n z => by subst z; rw [n] at mu; exact mu
  have hb : ∀ b, H b = none → b ≠ e := fun b n z => by
    subst z
    rcases he with r | r
    · exact hx b n r
    · rw [n] at r; cases r
  have hm : ∀ b u, H b = some u → ¬ Mut (some u) → b ≠ x := fun b u q nm z => by subst z; rw [q] at mu; exact nm mu
  refine ⟨fun b u q n _ _ => k b u (hb b n) q, fun b u q n _ _ => ⟨u.slots, k b u (hb b n) q⟩, fun b u q n _ => by rw [upd_ne (hx b n)]; exact n, fun b u q _ => ?_,
    fun b xs q => by rw [upd_ne (hm b _ q fun z => z)]; exact q, fun b u xs q => by rw [upd_ne (hm b _ q fun z => z)]; exact q, fun b ps q => ⟨#[], by rw [upd_ne (hm b _ q fun z => z), q]; simp⟩⟩
  by_cases hbe : b = e
  · subst hbe; exact heo
  · exact ⟨u, k b u hbe q⟩
theorem Un.mono (u : Un fs ex H H1 h h1) (hs : ∀ b ∈ fs, b ∈ fs') (hx : ∀ b ∈ ex, b ∈ ex') : Un fs' ex' H H1 h h1 :=
  ⟨fun b ob q n hb he => u.keep b ob q n (fun z => hb (hs b z)) fun z => he (hx b z), fun _ _ q n _ he => u.any q n fun z => he (hx _ z), fun b ob q n he => u.free b ob q n fun z => he (hx b z), fun b ob q he => u.there b ob q fun z => he (hx b z), u.tups, u.frzs, u.tbls⟩
end
def trk (h : Heap) (H : Hp) : List Addr := (List.range h.objs.size).filter fun a => (H a).isSome
def hidT (h : Heap) (H : Hp) : Heap := PySem.W.hideAll h (trk h H)
theorem hidT_size (h : Heap) (H : Hp) : (hidT h H).objs.size = h.objs.size := PySem.W.hideAll_size _ _
theorem hidT_get {h : Heap} {H : Hp} {b : Addr} {o : Obj} (e : h.get? b = some o) (n : H b = none) : (hidT h H).get? b = some o :=
  PySem.W.hideAll_get _ e fun hm => by
    have q : (H b).isSome = true := (List.mem_filter.mp hm).2
    rw [n] at q; simp at q
theorem of_hidT {h : Heap} {H : Hp} {b : Addr} {o : Obj} (e : (hidT h H).get? b = some o) : h.get? b = some o ∧ H b = none := by
  have e' : h.get? b = some o := PySem.W.of_hideAll (trk h H) e
  refine ⟨e', ?_⟩
  cases q : H b with
  | none => rfl
  | some x =>
    have hm : b ∈ trk h H := List.mem_filter.mpr ⟨List.mem_range.mpr (Heap.lt_size e'), by simp [q]⟩
    have z : (hidT h H).get? b = none := PySem.W.hideAll_none (trk h H) hm
    rw [z] at e; cases e


def allNews (g h : Heap) (L : Addr) : List (Addr × Obj) := (List.range h.objs.size).filterMap fun a => if a = L ∨ (g.get? a).isSome = true then none else (h.get? a).map fun o => (a, o)
def rest (g h : Heap) (L d : Addr) : List (Addr × Obj) := (allNews g h L).filter fun p => decide (p.1 ≠ d)
end L2
namespace L2
open PySem PySem.Spec PyProof.Rows
structure Mod (K : PySem.W.Frag) (mg : Str → Option Value) (base : Heap) : Prop where
  kin : K.In base
  glob : base.Ns mainGlobals mg
  blt : ∃ mb, base.Ns builtinsNs mb ∧ ∀ x : Str, x ≠ "__name__" → mb x = bootBuiltins x
  nolimit : base.NoLimit


structure Cx where
  prog : Program
  w : World
  K : PySem.W.Frag
  mg : Str → Option Value
  base : Heap
  A : Around
  N : List Str
  s_0 : Shared
  H_0 : Hp
  env : Env
  outer : List Env
  stack : List Env
  ex : List Addr
  fn : Str → Bool
  calm : Bool
  pn : List (Addr × Obj)
  xe : Value → Shared → Prop

def frs (l : List Env) : List Addr := l.filterMap (·.frame)
abbrev Cx.fs (X : Cx) : List Addr := frs X.outer

def Vis (sc : Scope) (x : Str) : Prop := sc.names.lookup x = some .local ∨ sc.names.lookup x = some .cell ∨ sc.names.lookup x = some .free
def Loc (sc : Scope) (x : Str) : Prop := sc.names.lookup x = some .local ∨ sc.names.lookup x = some .cell
def Look (env : Env) (h : Heap) (m : Str → Option Value) (x : Str) (u : Value) : Prop :=
  (env.kindOf x = some .local ∧ m x = some u) ∨ ((env.kindOf x = some .cell ∨ env.kindOf x = some .free) ∧ ∃ c, env.cells.lookup x = some c ∧ h.IsCell c (some u))

structure Cx.Ok (X : Cx) : Prop where
  mod : Mod X.K X.mg X.base
  kind : X.env.scope.kind = .function
  glob : X.env.globals = mainGlobals
  blt : X.env.builtins = builtinsNs
  above : X.s_0.heap.objs.size ≤ X.env.locals
  inj : ∀ x y c, X.env.cells.lookup x = some c → X.env.cells.lookup y = some c → x = y
  has : ∀ x, (X.env.kindOf x = some .cell ∨ X.env.kindOf x = some .free) → ∃ c, X.env.cells.lookup x = some c
  cab : ∀ x c, X.fn x = true → X.env.cells.lookup x = some c → X.s_0.heap.objs.size ≤ c
  hd : X.calm = true → X.A.handled = none
  frames : X.A.frames = some X.stack
  stk : X.stack = X.outer ∨ (X.stack = X.env :: X.outer ∧ X.env.frame = some X.env.locals)
  exf : ∀ b ∈ X.ex, b ≠ X.env.locals ∧ ∀ x c, X.env.cells.lookup x = some c → c ≠ b
  bs : ∀ b o, X.base.get? b = some o → X.s_0.heap.get? b = some o ∧ X.H_0 b = none
  bsz : X.base.objs.size ≤ X.s_0.heap.objs.size
  noex : ∀ b o, X.base.get? b = some o → b ∉ X.ex
  exfs : ∀ b ∈ X.ex, b ∉ X.fs
  funs : X.s_0.heap.FunFrames X.base X.outer
  frf : ∀ b ∈ X.fs, X.H_0 b = none

structure Inv (X : Cx) (pins : List (Addr × Obj)) (σ : List (Option V)) (H : Hp) (s : Shared) : Prop where
  ok : X.Ok
  os : s.os = X.s_0.os
  bare : AllBare s.gens
  base : Un X.fs X.ex X.H_0 H X.s_0.heap s.heap
  loc : ∃ m, s.heap.Ns X.env.locals m ∧ ∀ (i : Nat) (x : Str) (v : V), X.N[i]? = some x → σ[i]? = some (some v) → Vis X.env.scope x → ∃ u, RelV v u ∧ Look X.env s.heap m x u
  cell : ∀ x c, X.env.cells.lookup x = some c → ∃ v, s.heap.IsCell c v
  free : H X.env.locals = none
  freeC : ∀ x c, X.env.cells.lookup x = some c → H c = none
  pin : ∀ p ∈ X.pn ++ pins, s.heap.get? p.1 = some p.2 ∧ H p.1 = none ∧ p.1 ≠ X.env.locals ∧ p.1 ∉ X.fs ∧ ∀ v, p.2.data ≠ .cell v
  hok : HOk X.prog X.w H s.heap
  len : σ.length = X.N.length

section
variable {X : Cx} {pins : List (Addr × Obj)} {σ : List (Option V)} {H H' : Hp} {s : Shared} {h' : Heap}
theorem Cx.Ok.nofr (ok : X.Ok) {b : Addr} {o : Obj} (e : X.base.get? b = some o) : b ∉ X.fs := fun hb => by
  have := (ok.funs.mem hb).1
  rw [e] at this; cases this
theorem Inv.bs (I : Inv X pins σ H s) : ∀ b o, X.base.get? b = some o → s.heap.get? b = some o ∧ H b = none := fun b o e =>
  ⟨I.base.keep b o (I.ok.bs b o e).1 (I.ok.bs b o e).2 (I.ok.nofr e) (I.ok.noex b o e), I.base.free b o (I.ok.bs b o e).1 (I.ok.bs b o e).2 (I.ok.noex b o e)⟩
theorem Inv.bk (I : Inv X pins σ H s) : ∀ b o, X.base.get? b = some o → s.heap.get? b = some o := fun b o e => (I.bs b o e).1
theorem Inv.mod (I : Inv X pins σ H s) : Mod X.K X.mg X.base := I.ok.mod
theorem Inv.kIn (I : Inv X pins σ H s) : X.K.In s.heap := I.ok.mod.kin.keeps I.bk
theorem Inv.nolimit (I : Inv X pins σ H s) : s.heap.NoLimit := I.ok.mod.nolimit.keeps I.bk

theorem Inv.fr (I : Inv X pins σ H s) : ∃ m, Fr X.base X.env.locals s.heap m :=
  let ⟨m, hn, _⟩ := I.loc
  ⟨m, hn, I.bk, Nat.le_trans I.ok.bsz I.ok.above⟩
theorem Inv.lt (I : Inv X pins σ H s) : X.env.locals < s.heap.objs.size := let ⟨_, hn, _⟩ := I.loc; hn.lt
theorem Inv.sz (I : Inv X pins σ H s) : X.s_0.heap.objs.size ≤ s.heap.objs.size := Nat.le_trans I.ok.above (Nat.le_of_lt I.lt)
theorem Inv.nofs (I : Inv X pins σ H s) {a : Addr} (h : s.heap.objs.size ≤ a) : a ∉ X.fs := fun hb => by
  obtain ⟨_, o, ho, _⟩ := I.ok.funs.mem hb
  exact absurd (Nat.lt_of_lt_of_le (Heap.lt_size ho) (Nat.le_trans I.sz h)) (Nat.lt_irrefl _)
theorem Inv.cne (I : Inv X pins σ H s) : ∀ x c, X.env.cells.lookup x = some c → c ≠ X.env.locals := fun x c e z => by
  obtain ⟨v, o, ho, hd⟩ := I.cell x c e
  obtain ⟨m, ⟨o', es, ep, ho', hd', _⟩, _⟩ := I.loc
  rw [z, ho'] at ho; cases ho; rw [hd'] at hd; cases hd
theorem Inv.funs (I : Inv X pins σ H s) : s.heap.FunFrames X.base X.outer := by
  have all : ∀ (l : List Env), (∀ b ∈ frs l, b ∈ X.fs) → X.s_0.heap.FunFrames X.base l → s.heap.FunFrames X.base l := by
    intro l
    induction l with
    | nil => intro _ _; trivial
    | cons env r ih =>
      intro hs hl
      obtain ⟨hk, ⟨L, o, hf, hn, ho, hd⟩, hr⟩ := hl
      have hL : L ∈ X.fs := hs L (by unfold frs; rw [List.filterMap_cons, hf]; exact List.mem_cons_self)
      obtain ⟨sl, e⟩ := I.base.slot L o ho (I.ok.frf L hL) hL fun z => I.ok.exfs L z hL
      exact ⟨hk, ⟨L, _, hf, hn, e, hd⟩, ih (fun b hb => hs b (by unfold frs; rw [List.filterMap_cons, hf]; exact List.mem_cons_of_mem _ hb)) hr⟩
  exact all X.outer (fun _ hb => hb) I.ok.funs


theorem Inv.stack (I : Inv X pins σ H s) : s.heap.FunFrames X.base X.stack := by
  rcases I.ok.stk with e | ⟨e, hf⟩
  · rw [e]; exact I.funs
  · rw [e]
    obtain ⟨m, hn, _⟩ := I.loc
    refine .cons (by rw [I.ok.kind]; decide) hf hn ?_ I.funs
    exact Heap.get?_none_of_le (Nat.le_trans I.ok.bsz I.ok.above)
theorem Inv.stkSub (I : Inv X pins σ H s) : ∀ b ∈ frs X.stack, b ∈ X.env.locals :: X.fs := fun b hb => by
  rcases I.ok.stk with e | ⟨e, hf⟩
  · rw [e] at hb; exact List.mem_cons_of_mem _ hb
  · rw [e] at hb
    unfold frs at hb
    rw [List.filterMap_cons, hf] at hb
    exact hb
theorem Inv.stkFree (I : Inv X pins σ H s) : ∀ b ∈ frs X.stack, H b = none := fun b hb => by
  rcases List.mem_cons.mp (I.stkSub b hb) with e | hb
  · rw [e]; exact I.free
  · obtain ⟨_, o, ho, _⟩ := I.ok.funs.mem hb
    exact I.base.free b o ho (I.ok.frf b hb) fun z => I.ok.exfs b z hb


theorem Inv.step {g' : Array GenState} {t' : Nat} {d' : Drawn} {ch : List Addr} (I : Inv X pins σ H s)
    (hch : ∀ b ∈ ch, (b ∈ X.ex ∨ X.s_0.heap.objs.size ≤ b) ∧ b ≠ X.env.locals ∧ (∀ x c, X.env.cells.lookup x = some c → c ≠ b) ∧ ∀ p ∈ X.pn ++ pins, p.1 ≠ b)
    (keep : ∀ b o, b ≠ X.env.locals → b ∉ X.fs → b ∉ ch → s.heap.get? b = some o → H b = none → h'.get? b = some o)
    (slot : ∀ b o, b ≠ X.env.locals → b ∈ X.fs → b ∉ ch → s.heap.get? b = some o → H b = none → ∃ sl, h'.get? b = some { o with slots := sl }) (free : ∀ b o, b ∉ ch → s.heap.get? b = some o → H b = none → H' b = none)
    (there : ∀ b o, b ∉ ch → s.heap.get? b = some o → ∃ o', h'.get? b = some o')
    (tups : ∀ b xs, H b = some (.tup xs) → H' b = some (.tup xs)) (frzs : ∀ b o u, H b = some (.frz o u) → H' b = some (.frz o u)) (tbls : ∀ b ps, H b = some (.tbl ps) → ∃ more, H' b = some (.tbl (ps ++ more)))
    (ns : ∀ m, s.heap.Ns X.env.locals m → h'.Ns X.env.locals m) (hok : HOk X.prog X.w H' h') (hg : AllBare g') :
    Inv X pins σ H' { s with heap := h', gens := g', drawn := d', toks := t' } := by
  have neL : ∀ b o, X.s_0.heap.get? b = some o → b ≠ X.env.locals := fun b o e => Nat.ne_of_lt (Nat.lt_of_lt_of_le (Heap.lt_size e) I.ok.above)
  have neC : ∀ b o, X.s_0.heap.get? b = some o → b ∉ X.ex → b ∉ ch := fun b o e hx hb => by
    rcases (hch b hb).1 with z | z
    · exact hx z
    · exact absurd (Nat.lt_of_lt_of_le (Heap.lt_size e) z) (Nat.lt_irrefl _)
  have cellK : ∀ x c, X.env.cells.lookup x = some c → ∀ v, s.heap.IsCell c v → h'.IsCell c v := fun x c e v ⟨o, ho, hd⟩ => by
    have nch : c ∉ ch := fun z => (hch c z).2.2.1 x c e rfl
    by_cases hc : c ∈ X.fs
    · obtain ⟨sl, q⟩ := slot c o (I.cne x c e) hc nch ho (I.freeC x c e)
      exact ⟨_, q, hd⟩
    · exact ⟨o, keep c o (I.cne x c e) hc nch ho (I.freeC x c e), hd⟩
  refine ⟨I.ok, I.os, hg, ⟨fun b o e n hb hx => ?_, fun b o e n hb hx => ?_, fun b o e n hx => ?_, fun b o e hx => ?_, fun b xs e => tups b xs (I.base.tups b xs e), fun b o xs e => frzs b o xs (I.base.frzs b o xs e), fun b ps e => ?_⟩, ?_, fun x c e => ?_, ?_, fun x c e => ?_, fun p hp => ?_, hok, I.len⟩
  · exact keep b o (neL b o e) hb (neC b o e hx) (I.base.keep b o e n hb hx) (I.base.free b o e n hx)
  · obtain ⟨sl, e1⟩ := I.base.slot b o e n hb hx
    obtain ⟨sl', e2⟩ := slot b _ (neL b o e) hb (neC b o e hx) e1 (I.base.free b o e n hx)
    exact ⟨sl', e2⟩
  · obtain ⟨o', e1⟩ := I.base.there b o e hx
    exact free b o' (neC b o e hx) e1 (I.base.free b o e n hx)
  · obtain ⟨o', e1⟩ := I.base.there b o e hx
    exact there b o' (neC b o e hx) e1
  · obtain ⟨m1, e1⟩ := I.base.tbls b ps e
    obtain ⟨m2, e2⟩ := tbls b _ e1
    exact ⟨m1 ++ m2, by rw [e2, Array.append_assoc]⟩
  · obtain ⟨m, hn, hl⟩ := I.loc
    refine ⟨m, ns m hn, fun i x v e1 e2 e3 => ?_⟩
    obtain ⟨u, r, l⟩ := hl i x v e1 e2 e3
    refine ⟨u, r, ?_⟩
    rcases l with l | ⟨k, c, e, z⟩
    · exact .inl l
    · exact .inr ⟨k, c, e, cellK x c e _ z⟩
  · obtain ⟨v, z⟩ := I.cell x c e
    exact ⟨v, cellK x c e v z⟩
  · obtain ⟨m, ⟨o, _, _, ho, _⟩, _⟩ := I.loc
    exact free _ o (fun z => (hch _ z).2.1 rfl) ho I.free
  · obtain ⟨v, o, ho, hd⟩ := I.cell x c e
    exact free c o (fun z => (hch c z).2.2.1 x c e rfl) ho (I.freeC x c e)
  · obtain ⟨e, n, ne, nf, d⟩ := I.pin p hp
    have nch : p.1 ∉ ch := fun z => (hch p.1 z).2.2.2 p hp rfl
    exact ⟨keep p.1 p.2 ne nf nch e n, free p.1 p.2 nch e n, ne, nf, d⟩

theorem Inv.un {t' : Nat} (I : Inv X pins σ H s) (u : Un X.fs [] H H' s.heap h') (hok : HOk X.prog X.w H' h') : Inv X pins σ H' { s with heap := h', toks := t' } := by
  obtain ⟨m, ⟨o, es, ep, ho, r⟩, _⟩ := id I.loc
  obtain ⟨sl, hL⟩ := u.any ho I.free (by simp)
  exact I.step (g' := s.gens) (d' := s.drawn) (ch := []) (fun _ z => nomatch z) (fun b o _ hb _ e n => u.keep b o e n hb (by simp)) (fun b o _ hb _ e n => u.slot b o e n hb (by simp)) (fun b o _ e n => u.free b o e n (by simp)) (fun b o _ e => u.there b o e (by simp)) u.tups u.frzs u.tbls (fun m' hm => by
    obtain ⟨o', es', ep', ho', r'⟩ := hm
    rw [ho] at ho'; cases ho'
    exact ⟨_, es', ep', hL, r'⟩) hok I.bare

theorem Inv.call {g' : Array GenState} {t' : Nat} {d' : Drawn} {ch : List Addr} (I : Inv X pins σ H s) (u : Un (frs X.stack) ch H H' s.heap h') (hok : HOk X.prog X.w H' h') (hg : AllBare g')
    (hch : ∀ b ∈ ch, (b ∈ X.ex ∨ X.s_0.heap.objs.size ≤ b) ∧ b ≠ X.env.locals ∧ (∀ x c, X.env.cells.lookup x = some c → c ≠ b) ∧ ∀ p ∈ X.pn ++ pins, p.1 ≠ b) :
    Inv X pins σ H' { s with heap := h', gens := g', drawn := d', toks := t' } := by
  obtain ⟨m, ⟨o, es, ep, ho, r⟩, _⟩ := id I.loc
  obtain ⟨sl, hL⟩ := u.any ho I.free fun z => (hch _ z).2.1 rfl
  exact I.step (ch := ch) hch (fun b o hL hb hc e n => u.keep b o e n (fun z => (List.mem_cons.mp (I.stkSub b z)).elim hL hb) hc) (fun b o _ _ hc e n => u.any e n hc) (fun b o hc e n => u.free b o e n hc) (fun b o hc e => u.there b o e hc) u.tups u.frzs u.tbls (fun m' hm => by
    obtain ⟨o', es', ep', ho', r'⟩ := hm
    rw [ho] at ho'; cases ho'
    exact ⟨_, es', ep', hL, r'⟩) hok hg

theorem Inv.turned {t' : Nat} {it : Addr} (I : Inv X pins σ H s) (k : ∀ b o, b ≠ it → s.heap.get? b = some o → h'.get? b = some o) (hn : H it = none) (hL : it ≠ X.env.locals)
    (h1 : it ∈ X.ex ∨ X.s_0.heap.objs.size ≤ it) (h2 : ∀ x c, X.env.cells.lookup x = some c → c ≠ it) (h3 : ∀ p ∈ X.pn ++ pins, p.1 ≠ it) : Inv X pins σ H { s with heap := h', toks := t' } := by
  have nit : ∀ b u, H b = some u → b ≠ it := fun b u e z => by rw [z, hn] at e; cases e
  refine I.step (g' := s.gens) (d' := s.drawn) (ch := [it]) (fun b hb => ?_) (fun b o _ _ hc e _ => k b o (fun z => hc (by simp [z])) e) (fun b o _ _ hc e _ => ⟨o.slots, k b o (fun z => hc (by simp [z])) e⟩) (fun _ _ _ _ n => n)
    (fun b o hc e => ⟨o, k b o (fun z => hc (by simp [z])) e⟩) (fun _ _ e => e) (fun _ _ _ e => e) (fun b ps e => ⟨#[], by rw [e]; simp⟩) (fun m hm => ?_) (fun b u e => ?_) I.bare
  · have e : b = it := by simpa using hb
    subst e
    exact ⟨h1, hL, h2, h3⟩
  · obtain ⟨o, es, ep, ho, r⟩ := hm
    exact ⟨o, es, ep, k _ o (Ne.symm hL) ho, r⟩
  · refine (I.hok b u e).stay (fun c v hc q => k c v ?_ q) (fun _ q => q) fun _ _ q => q
    rcases hc with z | z
    · rw [z]; exact nit b u e
    · exact nit c _ z
theorem Inv.tok (I : Inv X pins σ H s) (t : Nat) : Inv X pins σ H { s with toks := t } := I.un (h' := s.heap) (t' := t) Un.refl I.hok

theorem Inv.kept {t' : Nat} (I : Inv X pins σ H s) (k : ∀ b u, s.heap.get? b = some u → h'.get? b = some u) : Inv X pins σ H { s with heap := h', toks := t' } := I.un (Un.kept k) (I.hok.kept k)

theorem Inv.laid {a : Addr} {o : HO} {t' : Nat} (I : Inv X pins σ H s) (k : ∀ b u, s.heap.get? b = some u → h'.get? b = some u) (hp : s.heap.objs.size ≤ a) (new : ObjOk X.prog X.w (upd H a o) h' a o) :
    Inv X pins σ (upd H a o) { s with heap := h', toks := t' } := I.un (Un.laid k hp (I.hok.fresh hp)) (I.hok.laid k hp new)

theorem Inv.write {x e : Addr} {o : HO} {t' : Nat} (I : Inv X pins σ H s) (mu : Mut (H x)) (he : e = x ∨ H e = some (.own x)) (k : ∀ b u, b ≠ e → s.heap.get? b = some u → h'.get? b = some u) (heo : ∃ u, h'.get? e = some u)
    (new : ObjOk X.prog X.w (upd H x o) h' x o) : Inv X pins σ (upd H x o) { s with heap := h', toks := t' } := I.un (Un.write mu he k heo) (I.hok.write mu he k heo new)

theorem Inv.weak {σ' : List (Option V)} (I : Inv X pins σ H s) (hl : σ'.length = σ.length) (w : ∀ (i : Nat) v, σ'[i]? = some (some v) → σ[i]? = some (some v)) : Inv X pins σ' H s :=
  ⟨I.ok, I.os, I.bare, I.base, let ⟨m, hn, hl'⟩ := I.loc; ⟨m, hn, fun i x v e1 e2 e3 => hl' i x v e1 (w i v e2) e3⟩, I.cell, I.free, I.freeC, I.pin, I.hok, hl.trans I.len⟩
theorem Inv.pins_of {pins' : List (Addr × Obj)} (I : Inv X pins σ H s) (h : ∀ p ∈ pins', s.heap.get? p.1 = some p.2 ∧ H p.1 = none ∧ p.1 ≠ X.env.locals ∧ p.1 ∉ X.fs ∧ ∀ v, p.2.data ≠ .cell v) : Inv X pins' σ H s :=
  ⟨I.ok, I.os, I.bare, I.base, I.loc, I.cell, I.free, I.freeC, fun p hp => (List.mem_append.mp hp).elim (fun z => I.pin p (List.mem_append_left _ z)) (h p), I.hok, I.len⟩

theorem nodup_ix {N : List Str} (hN : N.Nodup) {i j : Nat} {x : Str} (a : N[i]? = some x) (b : N[j]? = some x) : i = j := by
  obtain ⟨h1, e1⟩ := List.getElem?_eq_some_iff.mp a
  obtain ⟨h2, e2⟩ := List.getElem?_eq_some_iff.mp b
  exact (List.getElem_inj hN).mp (e1.trans e2.symm)


theorem store_ok2 {M : Model} {A : Around} {E : Value → Shared → Prop} {i : Nat} {x : Str} {v : V} {u : Value} {Q : Unit → Shared → Prop} (I : Inv X pins σ H s) (hN : X.N.Nodup) (hi : X.N[i]? = some x) (hx : Loc X.env.scope x) (r : RelV v u)
    (h : ∀ s', Inv X pins (σ.set i (some v)) H s' → (∃ a, Heap.SameBut a s.heap s'.heap ∧ (a = X.env.locals ∨ X.env.cells.lookup x = some a)) → Q () s') (hf : X.fn x = true ∨ X.env.scope.names.lookup x = some .local := by first | exact .inl rfl | exact .inr rfl | assumption) : wpAny M A (storeName X.env x u) Q E s := by
  obtain ⟨m, hn, hl⟩ := id I.loc
  have hcls : (X.env.scope.kind == .class || (X.env.scope.kind == .module && X.env.locals != X.env.globals)) = false := by rw [I.ok.kind]; rfl
  have hiσ : i < σ.length := by rw [I.len]; exact (List.getElem?_eq_some_iff.mp hi).1
  have cne := I.cne
  have tracked : ∀ {a : Addr} {h' : Heap}, (∃ o, s.heap.get? a = some o ∧ H a = none) → Heap.SameBut a s.heap h' → HOk X.prog X.w H h' := fun {a h'} ha hs b ob e => by
    obtain ⟨_, _, hfree⟩ := ha
    refine (I.hok b ob e).stay (fun c w' hc q => (hs.2 c ?_).trans q) (fun _ q => q) fun _ _ q => q
    rintro rfl
    rcases hc with rfl | hc
    · rw [hfree] at e; cases e
    · rw [hfree] at hc; cases hc
  rcases hx with hk | hk
  · refine wpAny_storeName_local hk hn (fun h' hn' hs => ?_) hcls
    obtain ⟨oL, _, _, hoL, _⟩ := id hn
    refine h _ ⟨I.ok, I.os, I.bare, ⟨fun b o e n hb hx => ?_, fun b o e n hb hx => ?_, I.base.free, fun b o e hx => ?_, I.base.tups, I.base.frzs, I.base.tbls⟩, ⟨_, hn', fun j y v' e1 e2 e3 => ?_⟩, fun y c e => ?_, I.free, I.freeC, fun p hp => ?_, tracked ⟨oL, hoL, I.free⟩ hs, by simpa using I.len⟩ ⟨_, hs, .inl rfl⟩
    · exact (hs.2 b (Nat.ne_of_lt (Nat.lt_of_lt_of_le (Heap.lt_size e) I.ok.above))).trans (I.base.keep b o e n hb hx)
    · obtain ⟨sl, e1⟩ := I.base.slot b o e n hb hx
      exact ⟨sl, (hs.2 b (Nat.ne_of_lt (Nat.lt_of_lt_of_le (Heap.lt_size e) I.ok.above))).trans e1⟩
    · obtain ⟨o', e1⟩ := I.base.there b o e hx
      exact ⟨o', (hs.2 b (Nat.ne_of_lt (Nat.lt_of_lt_of_le (Heap.lt_size e) I.ok.above))).trans e1⟩
    · by_cases hj : j = i
      · subst hj
        rw [hi] at e1; cases e1
        rw [List.getElem?_set_self hiσ] at e2
        cases e2
        exact ⟨u, r, .inl ⟨hk, by simp⟩⟩
      · rw [List.getElem?_set_ne (Ne.symm hj)] at e2
        obtain ⟨u', r', q⟩ := hl j y v' e1 e2 e3
        refine ⟨u', r', ?_⟩
        rcases q with ⟨k, e⟩ | ⟨k, c, e, z⟩
        · refine .inl ⟨k, ?_⟩
          have : y ≠ x := fun e => hj (nodup_ix hN e1 (e ▸ hi))
          simp [this, e]
        · exact .inr ⟨k, c, e, z.sameBut hs (cne y c e)⟩
    · obtain ⟨w', z⟩ := I.cell y c e
      exact ⟨w', z.sameBut hs (cne y c e)⟩
    · obtain ⟨e, n, ne, nf, d⟩ := I.pin p hp
      exact ⟨(hs.2 p.1 ne).trans e, n, ne, nf, d⟩
  · have hfn : X.fn x = true := by
      rcases hf with z | z
      · exact z
      · rw [z] at hk; cases hk
    obtain ⟨c, hc⟩ := I.ok.has x (.inl hk)
    obtain ⟨w', z⟩ := I.cell x c hc
    refine wpAny_storeName_cell I.ok.kind hk hc z (fun h' hc' hs => ?_)
    obtain ⟨oc, hoc, hocd⟩ := id z
    refine h { s with heap := h' } ⟨I.ok, I.os, I.bare, ⟨fun b o e n hb hx => ?_, fun b o e n hb hx => ?_, I.base.free, fun b o e hx => ?_, I.base.tups, I.base.frzs, I.base.tbls⟩, ⟨m, hn.sameBut hs (Ne.symm (cne x c hc)), fun j y v' e1 e2 e3 => ?_⟩, fun y c' e => ?_, I.free, I.freeC, fun p hp => ?_, tracked ⟨oc, hoc, I.freeC x c hc⟩ hs, by simpa using I.len⟩ ⟨c, hs, .inr hc⟩
    · exact (hs.2 b (Nat.ne_of_lt (Nat.lt_of_lt_of_le (Heap.lt_size e) (I.ok.cab x c hfn hc)))).trans (I.base.keep b o e n hb hx)
    · obtain ⟨sl, e1⟩ := I.base.slot b o e n hb hx
      exact ⟨sl, (hs.2 b (Nat.ne_of_lt (Nat.lt_of_lt_of_le (Heap.lt_size e) (I.ok.cab x c hfn hc)))).trans e1⟩
    · obtain ⟨o', e1⟩ := I.base.there b o e hx
      exact ⟨o', (hs.2 b (Nat.ne_of_lt (Nat.lt_of_lt_of_le (Heap.lt_size e) (I.ok.cab x c hfn hc)))).trans e1⟩
    · by_cases hj : j = i
      · subst hj
        rw [hi] at e1; cases e1
        rw [List.getElem?_set_self hiσ] at e2
        cases e2
        exact ⟨u, r, .inr ⟨.inl hk, c, hc, hc'⟩⟩
      · rw [List.getElem?_set_ne (Ne.symm hj)] at e2
        obtain ⟨u', r', q⟩ := hl j y v' e1 e2 e3
        refine ⟨u', r', ?_⟩
        rcases q with q | ⟨k, c', e, z'⟩
        · exact .inl q
        · refine .inr ⟨k, c', e, z'.sameBut hs ?_⟩
          rintro rfl
          exact hj (nodup_ix hN e1 (I.ok.inj _ _ _ e hc ▸ hi))
    · by_cases hcc : c' = c
      · subst hcc; exact ⟨_, hc'⟩
      · obtain ⟨w2, z2⟩ := I.cell y c' e
        exact ⟨w2, z2.sameBut hs hcc⟩
    · obtain ⟨e, n, ne, nf, d⟩ := I.pin p hp
      refine ⟨(hs.2 p.1 ?_).trans e, n, ne, nf, d⟩
      intro q
      rw [q, hoc] at e
      have q' : oc = p.2 := Option.some.inj e
      exact d w' (by rw [← q']; exact hocd)
theorem store_ok {M : Model} {A : Around} {E : Value → Shared → Prop} {i : Nat} {x : Str} {v : V} {u : Value} {Q : Unit → Shared → Prop} (I : Inv X pins σ H s) (hN : X.N.Nodup) (hi : X.N[i]? = some x) (hx : Loc X.env.scope x) (r : RelV v u)
    (h : ∀ s', Inv X pins (σ.set i (some v)) H s' → Q () s') (hf : X.fn x = true ∨ X.env.scope.names.lookup x = some .local := by first | exact .inl rfl | exact .inr rfl | assumption) : wpAny M A (storeName X.env x u) Q E s :=
  store_ok2 I hN hi hx r (fun s' I' _ => h s' I') hf

theorem Inv.call' {s' : Shared} {ch : List Addr} (I : Inv X pins σ H s) (ho : s'.os = s.os) (u : Un (frs X.stack) ch H H' s.heap s'.heap) (hok : HOk X.prog X.w H' s'.heap) (hg : AllBare s'.gens)
    (hch : ∀ b ∈ ch, (b ∈ X.ex ∨ X.s_0.heap.objs.size ≤ b) ∧ b ≠ X.env.locals ∧ (∀ x c, X.env.cells.lookup x = some c → c ≠ b) ∧ ∀ p ∈ X.pn ++ pins, p.1 ≠ b) : Inv X pins σ H' s' := by
  obtain ⟨h', g', d', t', o'⟩ := s'
  have e : o' = s.os := ho
  subst e
  exact I.call (g' := g') (t' := t') (d' := d') u hok hg hch
end
abbrev XK := Value → Option Addr → Hp → Prop
abbrev St := List (Option V)
abbrev VK := V → Hp → Prop

abbrev TE := St → Hp → VK → Prop
abbrev TT := St → Hp → (Bool → Hp → Prop) → Prop
abbrev TA := St → Hp → (List V → Hp → Prop) → Prop

structure Ends where
  nx : St → Hp → Prop
  rt : VK
  bk : St → Hp → Prop := fun _ _ => False
  ct : St → Hp → Prop := fun _ _ => False
abbrev TS := Ends → St → Hp → Prop

def EP (X : Cx) (pins : List (Addr × Obj)) (σ : St) (Q : VK) (u : Value) (s' : Shared) : Prop := ∃ v H', Inv X pins σ H' s' ∧ RelV v u ∧ Q v H'
def TP (X : Cx) (pins : List (Addr × Obj)) (σ : St) (Q : Bool → Hp → Prop) (b : Bool) (s' : Shared) : Prop := ∃ H', Inv X pins σ H' s' ∧ Q b H'
def AP (X : Cx) (pins : List (Addr × Obj)) (σ : St) (Q : List V → Hp → Prop) (us : List Value) (s' : Shared) : Prop := ∃ vs H', Inv X pins σ H' s' ∧ Vals vs us ∧ Q vs H'
def SP (X : Cx) (pins : List (Addr × Obj)) (D : Ends) (f : Flow) (s' : Shared) : Prop :=
  match f with
  | .next => ∃ σ' H', Inv X pins σ' H' s' ∧ D.nx σ' H'
  | .brk => ∃ σ' H', Inv X pins σ' H' s' ∧ D.bk σ' H'
  | .cont => ∃ σ' H', Inv X pins σ' H' s' ∧ D.ct σ' H'
  | .ret u => ∃ v σ' H', Inv X pins σ' H' s' ∧ RelV v u ∧ D.rt v H'

def PE (X : Cx) (e : Expr) (t : TE) : Prop :=
  ∀ (pins : List (Addr × Obj)) (s : Shared) (σ : St) (H : Hp) (Q : VK), Inv X pins σ H s → t σ H Q → wpAny (model X.prog X.w) X.A (eval e X.env) (EP X pins σ Q) X.xe s
def PT (X : Cx) (e : Expr) (t : TT) : Prop :=
  ∀ (pins : List (Addr × Obj)) (s : Shared) (σ : St) (H : Hp) (Q : Bool → Hp → Prop), Inv X pins σ H s → t σ H Q → wpAny (model X.prog X.w) X.A (isTrue e X.env (eval e X.env)) (TP X pins σ Q) X.xe s

def PW (X : Cx) (e : Expr) (t : TT) : Prop :=
  ∀ (whole : Sem Value) (pins : List (Addr × Obj)) (s : Shared) (σ : St) (H : Hp) (Q : Bool → Hp → Prop), Inv X pins σ H s → t σ H Q → wpAny (model X.prog X.w) X.A (isTrue e X.env whole) (TP X pins σ Q) X.xe s
theorem PW.pt {X : Cx} {e : Expr} {t : TT} (h : PW X e t) : PT X e t := h _

def PA (X : Cx) (es : List Expr) (t : TA) : Prop :=
  ∀ (pos : Pos) (pins : List (Addr × Obj)) (s : Shared) (σ : St) (H : Hp) (Q : List V → Hp → Prop), Inv X pins σ H s → t σ H Q → wpAny (model X.prog X.w) X.A (spliced (backTo pos (starEach es X.env))) (AP X pins σ Q) X.xe s
def PS (X : Cx) (st : Stmt) (t : TS) : Prop :=
  ∀ (pins : List (Addr × Obj)) (s : Shared) (σ : St) (H : Hp) (D : Ends), Inv X pins σ H s → t D σ H → wpAny (model X.prog X.w) X.A (exec st X.env) (SP X pins D) X.xe s
def PSs (X : Cx) (st : List Stmt) (t : TS) : Prop :=
  ∀ (pins : List (Addr × Obj)) (s : Shared) (σ : St) (H : Hp) (D : Ends), Inv X pins σ H s → t D σ H → wpAny (model X.prog X.w) X.A (execs st X.env) (SP X pins D) X.xe s

theorem thn {α : Type} {t : Sem α} {Q Q' : α → Shared → Prop} {M : Model} {A : Around} {E : Value → Shared → Prop} {s : Shared} (h : wpAny M A t Q E s) (hQ : ∀ a s, Q a s → Q' a s) : wpAny M A t Q' E s := wpAny_mono h hQ fun _ _ x => x
end L2
namespace L2
open PySem PySem.Spec PyProof.Rows
section
variable {X : Cx}
def tVar (i : Nat) : TE := fun σ H Q => ∃ v, σ[i]? = some (some v) ∧ Q v H
def tC (v : V) : TE := fun _ H Q => Q v H
theorem pe_var {i : Nat} {x : Str} {pos : Pos} (hN : X.N[i]? = some x) (hv : Vis X.env.scope x) (hd : (x == ("__debug__" : Str)) = false := by decide) (hcd : (x == ("__classdict__" : Str)) = false := by decide) : PE X (.Name x pos) (tVar i) := by
  intro pins s σ H Q I h
  obtain ⟨v, e, h⟩ := h
  obtain ⟨m, hn, hl⟩ := I.loc
  obtain ⟨u, r, l⟩ := hl i x v hN e hv
  have fin : EP X pins σ Q u s := ⟨v, H, I, r, h⟩
  rcases l with ⟨hk, hm⟩ | ⟨hk, c, hc, hcell⟩
  · exact wpAny_Name (wpAny_loadName_local I.ok.kind hk hn hm fin) hd
  · rcases hk with hk | hk
    · exact wpAny_Name (wpAny_loadName_cell I.ok.kind hk hc hcell fin) hd
    · exact wpAny_Name (wpAny_loadName_free I.ok.kind hk hc hcell fin hcd) hd
theorem pe_int {i j pos} : PE X (.Constant (.int i) j pos) (tC (.int i)) := fun _ _ _ H _ I h => wpAny_Constant_int ⟨.int i, H, I.tok _, ⟨_, rfl⟩, h⟩
theorem pe_bl {b j pos} : PE X (.Constant (.bool b) j pos) (tC (.bl b)) := fun _ _ _ H _ I h => Constant_bool ⟨.bl b, H, I, rfl, h⟩
theorem pe_non {j pos} : PE X (.Constant .none j pos) (tC .non) := fun _ _ _ H _ I h => Constant_none ⟨.non, H, I, rfl, h⟩
theorem pe_str {x j pos} : PE X (.Constant (.str x) j pos) (tC (.str x)) := fun _ _ _ H _ I h => Calls.Constant_str ⟨.str x, H, I.tok _, ⟨_, rfl⟩, h⟩


def Gl (X : Cx) (x : Str) : Prop := X.env.kindOf x = some .globalImplicit
theorem ld_glob {E : Value → Shared → Prop} {pins : List (Addr × Obj)} {s : Shared} {σ : St} {H : Hp} {x : Str} {u : Value} {pos : Pos} {Q : Value → Shared → Prop} (I : Inv X pins σ H s) (hg : Gl X x) (hm : X.mg x = some u) (h : Q u s)
    (hd : (x == ("__debug__" : Str)) = false := by decide) : wpAny (model X.prog X.w) X.A (eval (.Name x pos) X.env) Q E s :=
  Calls.Name_function_global I.ok.kind hg (Calls.loadGlobal_global (by rw [I.ok.glob]; exact I.mod.glob.keeps I.bk) hm h) hd
theorem ld_blt {E : Value → Shared → Prop} {pins : List (Addr × Obj)} {s : Shared} {σ : St} {H : Hp} {x : Str} {u : Value} {pos : Pos} {Q : Value → Shared → Prop} (I : Inv X pins σ H s) (hg : Gl X x) (hm : X.mg x = none) (hv : bootBuiltins x = some u) (h : Q u s)
    (hn : x ≠ "__name__" := by decide) (hd : (x == ("__debug__" : Str)) = false := by decide) : wpAny (model X.prog X.w) X.A (eval (.Name x pos) X.env) Q E s := by
  obtain ⟨mb, h1, h2⟩ := I.mod.blt
  exact Calls.Name_function_global I.ok.kind hg (Calls.loadGlobal_builtin (by rw [I.ok.glob]; exact I.mod.glob.keeps I.bk) hm (by rw [I.ok.blt]; exact h1.keeps I.bk) ((h2 x hn).trans hv) h) hd

theorem pe_glob {x : Str} {v : V} {u : Value} {pos : Pos} (hg : Gl X x) (hm : X.mg x = some u) (r : RelV v u) (hd : (x == ("__debug__" : Str)) = false := by decide) : PE X (.Name x pos) (tC v) :=
  fun _ _ _ H _ I h => ld_glob I hg hm ⟨v, H, I, r, h⟩ hd
theorem pe_bltn {x : Str} {v : V} {u : Value} {pos : Pos} (hg : Gl X x) (hm : X.mg x = none) (hv : bootBuiltins x = some u) (r : RelV v u) (hn : x ≠ "__name__" := by decide) (hd : (x == ("__debug__" : Str)) = false := by decide) : PE X (.Name x pos) (tC v) :=
  fun _ _ _ H _ I h => ld_blt I hg hm hv ⟨v, H, I, r, h⟩ hn hd



variable {a b : Expr} {ta tb : TE} {pos : Pos}
def tB (t : TE) : TT := fun σ H Q => t σ H fun x H1 => ∃ c, x = .bl c ∧ Q c H1
theorem pt_val {e : Expr} {t : TE} (h : PE X e t) (he : ∀ whole, isTrue e X.env whole = (do let v ← whole; standAt e.pos; holding [v] (truthy v)) := by intro _; rfl) : PT X e (tB t) := by
  intro pins s σ H Q I hw
  refine isTrue_plain (thn (h pins s σ H _ I hw) fun v s1 ⟨x, H1, I1, r1, q1⟩ => ?_) (he _)
  obtain ⟨d, rfl, q⟩ := q1
  cases r1
  exact wpAny_truthy_bool ⟨H1, I1, q⟩


variable {tA tB' : TT} {rest : List Expr}
def tOr (t u : TT) : TT := fun σ H Q => t σ H fun c H1 => if c = true then Q true H1 else u σ H1 Q
def tNot (t : TT) : TT := fun σ H Q => t σ H fun c H1 => Q (!c) H1
theorem pw_or1 (ha : PT X a tA) : PW X (.BoolOp .Or [a] pos) tA := by
  intro wh pins s σ H Q I h
  refine isTrue_or (thn (ha pins s σ H Q I h) fun c s1 e => ?_)
  cases c with
  | false => exact isTrue_or_nil e
  | true => exact e
theorem pw_or (ha : PT X a tA) (hb : PW X (.BoolOp .Or (b :: rest) pos) tB') : PW X (.BoolOp .Or (a :: b :: rest) pos) (tOr tA tB') := by
  intro wh pins s σ H Q I h
  refine isTrue_or (thn (ha pins s σ H _ I h) fun c s1 ⟨H1, I1, q1⟩ => ?_)
  cases c with
  | true => exact ⟨H1, I1, q1⟩
  | false => exact hb wh pins s1 σ H1 Q I1 q1
theorem pt_not (ha : PT X a tA) : PT X (.UnaryOp .Not a pos) (tNot tA) := by
  intro pins s σ H Q I h
  exact isTrue_not (ha pins s σ H (fun c H1 => Q (!c) H1) I h)

def tAndV (ta tb : TE) : TE := fun σ H Q => ta σ H fun x H1 => ∃ c, x = .bl c ∧ if c = true then tb σ H1 Q else Q (.bl false) H1
def tNotV (ta : TE) : TE := fun σ H Q => ta σ H fun x H1 => ∃ c, x = .bl c ∧ Q (.bl (!c)) H1
theorem pe_one {op} {t : TE} (h : PE X a t) : PE X (.BoolOp op [a] pos) t := fun pins s σ H Q I hw => BoolOp_one (h pins s σ H Q I hw)
theorem pe_and (ha : PE X a ta) (hb : PE X (.BoolOp .And (b :: rest) pos) tb) : PE X (.BoolOp .And (a :: b :: rest) pos) (tAndV ta tb) := by
  intro pins s σ H Q I h
  refine BoolOp_and (thn (ha pins s σ H _ I h) fun v s1 ⟨x, H1, I1, r1, q1⟩ => ?_)
  obtain ⟨c, rfl, q1⟩ := q1
  cases r1
  refine wpAny_truthy_bool ?_
  cases c with
  | true => exact hb pins s1 σ H1 Q I1 q1
  | false => exact ⟨.bl false, H1, I1, rfl, q1⟩
theorem pe_not (ha : PE X a ta) : PE X (.UnaryOp .Not a pos) (tNotV ta) := by
  intro pins s σ H Q I h
  refine UnaryOp_ (thn (ha pins s σ H _ I h) fun v s1 ⟨x, H1, I1, r1, q1⟩ => ?_)
  obtain ⟨c, rfl, q1⟩ := q1
  cases r1
  exact not_of (wpAny_truthy_bool ⟨.bl (!c), H1, I1, rfl, q1⟩)

end
end L2
namespace L2
open PySem PySem.Spec PyProof.Rows
def SqL (K : PySem.W.Frag) (H : Hp) (a : Addr) (xs : List V) : Prop :=
  Rd H a (.lst xs) ∨
    ∃ (o : Obj) (its : Array Value) (n : Nat), K.lookup a = some o ∧ o.cls = .type "list" ∧ o.dict = none ∧ o.data = .seq its n ∧ its.size ≤ sizeLine ∧ Vals xs its.toList
def SqT (K : PySem.W.Frag) (H : Hp) (a : Addr) (xs : List V) : Prop :=
  Rd H a (.tup xs) ∨
    ∃ (o : Obj) (its : Array Value) (n : Nat), K.lookup a = some o ∧ o.cls = .type "tuple" ∧ o.data = .seq its n ∧ its.size ≤ sizeLine ∧ Vals xs its.toList
def absV : Value → Option V
  | .none => some .non
  | .bool b => some (.bl b)
  | .int i _ => some (.int i)
  | .str x _ => some (.str x)
  | .bytes b _ => some (.byt b)
  | .float b _ => some (.flt b)
  | .ref a => some (.ref a)
  | .type n => some (.ty n)
  | _ => none
theorem RelV.abs {x : V} {u : Value} (r : RelV x u) : absV u = some x := by
  cases x with
  | non => cases r; rfl
  | bl _ => cases r; rfl
  | int _ => obtain ⟨t, rfl⟩ := r; rfl
  | str _ => obtain ⟨t, rfl⟩ := r; rfl
  | byt _ => obtain ⟨t, rfl⟩ := r; rfl
  | flt _ => obtain ⟨t, rfl⟩ := r; rfl
  | ref _ => cases r; rfl
  | ty _ => cases r; rfl
theorem RelV.inj {x y : V} {u : Value} (r : RelV x u) (q : RelV y u) : x = y := Option.some.inj (r.abs.symm.trans q.abs)
theorem Vals.inj : ∀ {xs ys : List V} {us : List Value}, Vals xs us → Vals ys us → xs = ys
  | _, _, _, .nil, .nil => rfl
  | _, _, _, .cons r t, .cons r' t' => by rw [r.inj r', Vals.inj t t']
section
variable {X : Cx} {pins : List (Addr × Obj)} {σ : St} {H : Hp} {s : Shared} {a : Addr} {xs ys : List V}
theorem SqL.of {K : PySem.W.Frag} (h : H a = some (.lst xs)) : SqL K H a xs := .inl (.inl h)
theorem SqT.of {K : PySem.W.Frag} (h : H a = some (.tup xs)) : SqT K H a xs := .inl (.inl h)
theorem Inv.list (I : Inv X pins σ H s) (h : SqL X.K H a xs) : ∃ its : List Value, Vals xs its ∧ PlainL s.heap a its.toArray ∧ xs.length ≤ sizeLine := by
  rcases h with h | ⟨o, its, n, hk, hc, hd, hs, hz, r⟩
  · obtain ⟨z, its, n, r, e⟩ := h.ok I.hok
    exact ⟨its, r, ⟨_, n, e, rfl, rfl, rfl⟩, z⟩
  · refine ⟨its.toList, r, ⟨o, n, I.kIn a o hk, hc, hd, by simpa using hs⟩, ?_⟩
    have e := r.length
    simp only [Array.length_toList] at e
    omega
theorem Inv.tuple (I : Inv X pins σ H s) (h : SqT X.K H a xs) : ∃ its : List Value, Vals xs its ∧ IsTup s.heap a its.toArray ∧ xs.length ≤ sizeLine := by
  rcases h with h | ⟨o, its, n, hk, hc, hs, hz, r⟩
  · obtain ⟨z, its, r, p⟩ := h.ok I.hok
    exact ⟨its, r, p, z⟩
  · refine ⟨its.toList, r, ⟨o, I.kIn a o hk, hc, n, by simpa using hs⟩, ?_⟩
    have e := r.length
    simp only [Array.length_toList] at e
    omega
theorem Inv.list_inj (I : Inv X pins σ H s) (h : SqL X.K H a xs) (h' : SqL X.K H a ys) : xs = ys := by
  obtain ⟨its, r, ⟨o, n, e, _, _, d⟩, _⟩ := I.list h
  obtain ⟨its', r', ⟨o', n', e', _, _, d'⟩, _⟩ := I.list h'
  rw [e] at e'; cases e'
  rw [d] at d'
  injection d' with d1 _
  have : its = its' := by simpa using congrArg Array.toList d1
  subst this
  exact r.inj r'
theorem Inv.tuple_inj (I : Inv X pins σ H s) (h : SqT X.K H a xs) (h' : SqT X.K H a ys) : xs = ys := by
  obtain ⟨its, r, ⟨o, e, _, n, d⟩, _⟩ := I.tuple h
  obtain ⟨its', r', ⟨o', e', _, n', d'⟩, _⟩ := I.tuple h'
  rw [e] at e'; cases e'
  rw [d] at d'
  injection d' with d1 _
  have : its = its' := by simpa using congrArg Array.toList d1
  subst this
  exact r.inj r'
end
abbrev Cx.wish (X : Cx) (E : Value → Shared → Prop) : Cx := { X with xe := E }

abbrev Cx.nox (X : Cx) : Cx := X.wish fun _ _ => False
theorem Cx.Ok.wish {X : Cx} (ok : X.Ok) (E : Value → Shared → Prop) : (X.wish E).Ok :=
  ⟨ok.mod, ok.kind, ok.glob, ok.blt, ok.above, ok.inj, ok.has, ok.cab, ok.hd, ok.frames, ok.stk, ok.exf, ok.bs, ok.bsz, ok.noex, ok.exfs, ok.funs, ok.frf⟩
theorem Cx.Ok.unwish {X : Cx} {E : Value → Shared → Prop} (ok : (X.wish E).Ok) : X.Ok :=
  ⟨ok.mod, ok.kind, ok.glob, ok.blt, ok.above, ok.inj, ok.has, ok.cab, ok.hd, ok.frames, ok.stk, ok.exf, ok.bs, ok.bsz, ok.noex, ok.exfs, ok.funs, ok.frf⟩
section
variable {X : Cx} {pins : List (Addr × Obj)} {σ : St} {H : Hp} {s : Shared} {E : Value → Shared → Prop}
theorem Inv.wish (I : Inv X pins σ H s) (E : Value → Shared → Prop) : Inv (X.wish E) pins σ H s := ⟨I.ok.wish E, I.os, I.bare, I.base, I.loc, I.cell, I.free, I.freeC, I.pin, I.hok, I.len⟩
theorem Inv.unwish (I : Inv (X.wish E) pins σ H s) : Inv X pins σ H s := ⟨I.ok.unwish, I.os, I.bare, I.base, I.loc, I.cell, I.free, I.freeC, I.pin, I.hok, I.len⟩
theorem SP.unwish {D : Ends} {f : Flow} {s' : Shared} (h : SP (X.wish E) pins D f s') : SP X pins D f s' := by
  cases f with
  | next => obtain ⟨σ', H', I, q⟩ := h; exact ⟨σ', H', I.unwish, q⟩
  | brk => obtain ⟨σ', H', I, q⟩ := h; exact ⟨σ', H', I.unwish, q⟩
  | cont => obtain ⟨σ', H', I, q⟩ := h; exact ⟨σ', H', I.unwish, q⟩
  | ret u => obtain ⟨v, σ', H', I, r, q⟩ := h; exact ⟨v, σ', H', I.unwish, r, q⟩
theorem PE.nox {e : Expr} {t : TE} (h : PE X.nox e t) : PE X e t := fun pins s σ H Q I hw =>
  wpAny_mono (h pins s σ H Q (I.wish _) hw) (fun _ _ ⟨v, H', I', r, q⟩ => ⟨v, H', I'.unwish, r, q⟩) fun _ _ z => False.elim z
theorem PT.nox {e : Expr} {t : TT} (h : PT X.nox e t) : PT X e t := fun pins s σ H Q I hw =>
  wpAny_mono (h pins s σ H Q (I.wish _) hw) (fun _ _ ⟨H', I', q⟩ => ⟨H', I'.unwish, q⟩) fun _ _ z => False.elim z
theorem PSs.nox {st : List Stmt} {t : TS} (h : PSs X.nox st t) : PSs X st t := fun pins s σ H D I hw =>
  wpAny_mono (h pins s σ H D (I.wish _) hw) (fun _ _ q => q.unwish) fun _ _ z => False.elim z
end
section
variable {X : Cx} {st : Stmt} {rest : List Stmt} {t u : TS} {e : Expr} {te : TE} {pos : Pos}
def tNext : TS := fun D σ H => D.nx σ H
def tSeq (t u : TS) : TS := fun D σ H => t { D with nx := u D } σ H
theorem pss_nil : PSs X [] tNext := fun _ _ σ H _ I h => wpAny_execs_nil ⟨σ, H, I, h⟩
theorem pss_cons (h1 : PS X st t) (h2 : PSs X rest u) : PSs X (st :: rest) (tSeq t u) := by
  intro pins s σ H D I h
  refine wpAny_execs_cons (thn (h1 pins s σ H { D with nx := u D } I h) fun f s1 q => ?_)
  cases f with
  | next =>
    obtain ⟨σ', H', I', q⟩ := q
    exact h2 pins s1 σ' H' D I' q
  | ret v => exact q
  | brk => exact q
  | cont => exact q
theorem pss_one (h1 : PS X st t) : PSs X [st] t := by
  intro pins s σ H D I h
  refine wpAny_execs_cons (thn (h1 pins s σ H D I h) fun f s1 q => ?_)
  cases f with
  | next => exact wpAny_execs_nil q
  | ret v => exact q
  | brk => exact q
  | cont => exact q
theorem Inv.quiet {pins : List (Addr × Obj)} {σ : St} {H : Hp} {s : Shared} (I : Inv X pins σ H s) : interactive X.env = false := by simp [interactive, I.ok.kind]

def tDrop (te : TE) : TS := fun D σ H => te σ H fun _ H1 => D.nx σ H1
theorem ps_expr (he : PE X e te) (hs : swapsWith e none pos.line X.env = pure false := by rfl) : PS X (.Expr e pos) (tDrop te) := by
  intro pins s σ H D I h
  exact wpAny_Expr_any (thn (he pins s σ H _ I h) fun v s1 ⟨x, H1, I1, r1, q1⟩ => ⟨σ, H1, I1, q1⟩) I.quiet hs
def tRet (te : TE) : TS := fun D σ H => te σ H D.rt
theorem ps_ret (he : PE X e te) : PS X (.Return (some e) pos) (tRet te) := by
  intro pins s σ H D I h
  exact wpAny_Return_some (thn (he pins s σ H _ I h) fun v s1 ⟨x, H1, I1, r1, q1⟩ => ⟨x, σ, H1, I1, r1, q1⟩)
def tIfS (c : TT) (t u : TS) : TS := fun D σ H => c σ H fun b H1 => if b = true then t D σ H1 else u D σ H1
theorem ps_if {c : Expr} {a b : List Stmt} {tc : TT} (hc : PT X c tc) (ha : PSs X a t) (hb : PSs X b u) : PS X (.If c a b pos) (tIfS tc t u) := by
  intro pins s σ H D I h
  refine wpAny_If (thn (hc pins s σ H _ I h) fun d s1 ⟨H1, I1, q1⟩ => ?_)
  cases d with
  | true => exact ha pins s1 σ H1 D I1 q1
  | false => exact hb pins s1 σ H1 D I1 q1

end
abbrev TG := V → St → Hp → (St → Hp → Prop) → Prop
abbrev TGs := List V → St → Hp → (St → Hp → Prop) → Prop
def PG (X : Cx) (target : Expr) (t : TG) : Prop :=
  ∀ (pins : List (Addr × Obj)) (s : Shared) (σ : St) (H : Hp) (v : V) (u : Value) (Q : St → Hp → Prop), Inv X pins σ H s → RelV v u → t v σ H Q →
    wpAny (model X.prog X.w) X.A (assign target X.env u) (fun _ s' => ∃ σ' H', Inv X pins σ' H' s' ∧ Q σ' H') X.xe s

def PGs (X : Cx) (ts : List Expr) (t : TGs) : Prop :=
  ∀ (pins : List (Addr × Obj)) (s : Shared) (σ : St) (H : Hp) (vs : List V) (us : List Value) (Q : St → Hp → Prop), Inv X pins σ H s → Vals vs us → t vs σ H Q →
    wpAny (model X.prog X.w) X.A (assignInOrder ((assignEach ts X.env).map (·.2)) us) (fun _ s' => ∃ σ' H', Inv X pins σ' H' s' ∧ Q σ' H') X.xe s

abbrev TSet := V → V → V → Hp → (Hp → Prop) → Prop
def PSet (X : Cx) (t : TSet) : Prop :=
  ∀ (pins : List (Addr × Obj)) (s : Shared) (σ : St) (H : Hp) (o i v : V) (ov iv u : Value) (Q : Hp → Prop), Inv X pins σ H s → RelV o ov → RelV i iv → RelV v u → t o i v H Q →
    wpAny (model X.prog X.w) X.A (setItem ov iv u) (fun _ s' => ∃ H', Inv X pins σ H' s' ∧ Q H') X.xe s

section
variable {X : Cx} {pos : Pos}
def gName (i : Nat) : TG := fun v σ H Q => Q (σ.set i (some v)) H
theorem pg_name {i : Nat} {x : Str} (hN : X.N.Nodup) (hi : X.N[i]? = some x) (hx : Loc X.env.scope x) (hf : X.fn x = true ∨ X.env.scope.names.lookup x = some .local := by first | exact .inl rfl | exact .inr rfl | assumption) : PG X (.Name x pos) (gName i) := by
  intro pins s σ H v u Q I r h
  exact wpAny_assign_Name (store_ok I hN hi hx r (fun s' I' => ⟨_, H, I', h⟩) hf)
def gNil : TGs := fun vs σ H Q => vs = [] ∧ Q σ H
def gCons (t : TG) (u : TGs) : TGs := fun vs σ H Q => ∃ v r, vs = v :: r ∧ t v σ H fun σ' H' => u r σ' H' Q
theorem pgs_nil : PGs X [] gNil := by
  intro pins s σ H vs us Q I r h
  obtain ⟨e, h⟩ := h
  subst e
  cases r
  exact assignInOrder_nil ⟨σ, H, I, h⟩
theorem pgs_cons {e : Expr} {es : List Expr} {t : TG} {u : TGs} (h1 : PG X e t) (h2 : PGs X es u)
    (hs : (assignEach (e :: es) X.env).map (·.2) = assign e X.env :: (assignEach es X.env).map (·.2) := by rfl) : PGs X (e :: es) (gCons t u) := by
  intro pins s σ H vs us Q I r h
  obtain ⟨v, vr, e1, h⟩ := h
  subst e1
  cases r with
  | cons r rr =>
    rw [hs]
    refine assignInOrder_cons (thn (h1 pins s σ H _ _ _ I r h) fun _ s1 ⟨σ1, H1, I1, q1⟩ => ?_)
    exact h2 pins s1 σ1 H1 _ _ Q I1 rr q1

def gTup (K : PySem.W.Frag) (n : Nat) (t : TGs) : TG := fun v σ H Q => ∃ a xs, v = .ref a ∧ SqT K H a xs ∧ xs.length = n ∧ t xs σ H Q
theorem pg_tup {es : List Expr} {k : Nat} {t : TGs} {n : Nat} (hc : X.calm = true) (h : PGs X es t)
    (hn : (assignEach es X.env).length = n := by rfl) (hst : (assignEach es X.env).findIdx? (·.1) = none := by rfl) : PG X (.Tuple es k pos) (gTup X.K n t) := by
  intro pins s σ H v u Q I r hw
  obtain ⟨a, xs, e1, hq, hl, hw⟩ := hw
  subst e1
  cases r
  obtain ⟨its, rv, ht, hz⟩ := I.tuple hq
  refine assign_Tuple_tuple (I.ok.hd hc) ht (by simp [hn, ← hl, rv.length]) hst fun h' hx => ?_
  have I1 : Inv X pins σ H { s with heap := h' } := I.kept (t' := s.toks) fun b o e => hx b o (Nat.ne_of_lt (Heap.lt_size e)) e
  exact h pins _ σ H xs _ Q I1 (by simpa using rv) hw

def gSub (to ti : TE) (t : TSet) : TG := fun v σ H Q => to σ H fun o H1 => ti σ H1 fun i H2 => t o i v H2 fun H3 => Q σ H3
theorem pg_sub {o i : Expr} {to ti : TE} {t : TSet} (ho : PE X o to) (hi : PE X i ti) (hs : PSet X t)
    (ha : ∀ v, assign (.Subscript o i pos) X.env v = (do
      let ov ← holding [v] (eval o X.env)
      let iv ← holding [v, ov] (eval i X.env)
      standAt pos
      holding [v, ov, iv] (setItem ov iv v)
      release [v, ov, iv] []) := by intro _; rfl) : PG X (.Subscript o i pos) (gSub to ti t) := by
  intro pins s σ H v u Q I r h
  rw [ha]
  refine wpAny_bind (wpAny_holding (thn (ho pins s σ H _ I h) fun ov s1 ⟨x, H1, I1, r1, q1⟩ => ?_))
  refine wpAny_bind (wpAny_holding (thn (hi pins s1 σ H1 _ I1 q1) fun iv s2 ⟨y, H2, I2, r2, q2⟩ => ?_))
  refine wpAny_bind (wpAny_standAt (wpAny_bind (wpAny_holding (thn (hs pins s2 σ H2 x y v ov iv u _ I2 r1 r2 r q2) fun _ s3 ⟨H3, I3, q3⟩ => ?_))))
  exact wpAny_release ⟨σ, H3, I3, q3⟩

def tAsg (te : TE) (g : TG) : TS := fun D σ H => te σ H fun x H1 => g x σ H1 D.nx
theorem ps_asg {tg e : Expr} {te : TE} {g : TG} (he : PE X e te) (hg : PG X tg g) (hs : swapsWithSole [tg] e pos.line X.env = pure false := by rfl) (hw : swappedStores [tg] e X.env = pure none := by rfl)
    (h1 : (assignEach [tg] X.env).map (·.2) = [assign tg X.env] := by rfl) : PS X (.Assign [tg] e pos) (tAsg te g) := by
  intro pins s σ H D I h
  refine wpAny_Assign_stores (thn (he pins s σ H _ I h) fun v s1 ⟨x, H1, I1, r1, q1⟩ => ?_) hs hw
  rw [h1]
  exact thn (hg pins s1 σ H1 x v _ I1 r1 q1) fun _ s2 q => q

theorem ps_set {i : Nat} {x : Str} {e : Expr} {te : TE} {pos' : Pos} (hN : X.N.Nodup) (hi : X.N[i]? = some x) (hx : Loc X.env.scope x) (he : PE X e te) (hs : swapsWith e (some (.Name x pos')) pos.line X.env = pure false := by rfl) (hf : X.fn x = true ∨ X.env.scope.names.lookup x = some .local := by first | exact .inl rfl | exact .inr rfl | assumption) :
    PS X (.Assign [.Name x pos'] e pos) (tAsg te (gName i)) := by
  intro pins s σ H D I h
  refine wpAny_Assign_Name (thn (he pins s σ H _ I h) fun v s1 ⟨y, H1, I1, r1, q1⟩ => ?_) hs
  exact store_ok I1 hN hi hx r1 (fun s2 I2 => ⟨_, H1, I2, q1⟩) hf

def tPar (i j : Nat) (ta : TA) : TS := fun D σ H => ta σ H fun vs H1 => ∃ v w, vs = [v, w] ∧ D.nx ((σ.set i (some v)).set j (some w)) H1
theorem ps_par {i j : Nat} {x y : Str} {a b : Expr} {ta : TA} {px py pt : Pos} {kt k2 pt2} (hc : X.calm = true) (hN : X.N.Nodup) (hi : X.N[i]? = some x) (hj : X.N[j]? = some y) (hij : i ≠ j)
    (hx : X.env.scope.names.lookup x = some .local) (hy : X.env.scope.names.lookup y = some .local) (ha : PA X [a, b] ta)
    (hw : swappedStores [.Tuple [.Name x px, .Name y py] kt pt] (.Tuple [a, b] k2 pt2) X.env = pure (some [x, y]))
    (hs : swapsWithSole [.Tuple [.Name x px, .Name y py] kt pt] (.Tuple [a, b] k2 pt2) pos.line X.env = pure false := by rfl) :
    PS X (.Assign [.Tuple [.Name x px, .Name y py] kt pt] (.Tuple [a, b] k2 pt2) pos) (tPar i j ta) := by
  intro pins s σ H D I h
  rw [exec_Assign_arm]
  refine wpAny_bind (wpAny_standAt ?_)
  rw [hs]
  refine wpAny_bind (wpAny_pure ?_)
  rw [if_neg (by decide)]
  refine wpAny_bind (Tuple_ (thn (ha _ pins s σ H _ I h) fun us s1 ⟨vs, H1, I1, r1, q1⟩ => ?_))
  obtain ⟨v, w, e1, q1⟩ := q1
  subst e1
  obtain ⟨u1, u2, rfl, rv, rw'⟩ : ∃ u1 u2, us = [u1, u2] ∧ RelV v u1 ∧ RelV w u2 := by
    cases r1 with
    | cons p q =>
      cases q with
      | cons p' q' =>
        cases q'
        exact ⟨_, _, rfl, p, p'⟩
  refine wpAny_newObj_type ?_ (by show 2 ≤ sizeLine; decide)
  have I2 : Inv X pins σ H1 { s1 with heap := s1.heap.push { cls := .type "tuple", data := .seq [u1, u2].toArray } } := I1.kept (t' := s1.toks) fun b o e => Heap.get?_push_of_some _ e
  rw [hw]
  refine wpAny_bind (wpAny_pure ?_)
  show wpAny (model X.prog X.w) X.A (do rule "assign.swapped-stores"; let items ← unpackItems (.ref s1.heap.objs.size) 2 none; assignInOrder [fun v => bindName X.env y v, fun v => bindName X.env x v] items.reverse; pure Flow.next) _ _ _
  refine wpAny_bind (wpAny_rule (wpAny_bind (unpackItems_tuple (items := #[u1, u2]) (I.ok.hd hc) (IsTup.new s1.heap _) fun h' hx' => ?_)))
  have I3 := I2.kept (h' := h') (t' := s1.toks) fun b o e => hx' b o (Nat.ne_of_lt (Heap.lt_size e)) e
  show wpAny _ _ (assignInOrder [fun v => bindName X.env y v, fun v => bindName X.env x v] [u2, u1] >>= fun _ => pure Flow.next) _ _ _
  refine wpAny_bind (assignInOrder_cons (wpAny_bindName (store_ok I3 hN hj (.inl hy) rw' (fun s2 I4 => ?_) (.inr hy))))
  refine assignInOrder_cons (wpAny_bindName (store_ok I4 hN hi (.inl hx) rv (fun s3 I5 => assignInOrder_nil (wpAny_pure ?_)) (.inr hx)))
  rw [List.set_comm _ _ (Ne.symm hij)] at I5
  exact ⟨_, H1, I5, q1⟩

end
section
variable {X : Cx} {pos : Pos}
end
structure It where
  go : Nat → Hp → Prop
  yld : Nat → Hp → V → Hp → Prop
  stop : Nat → Hp → Prop

def FpOk (X : Cx) (pins : List (Addr × Obj)) (H : Hp) (b : Addr) : Prop :=
  H b = none ∧ b ≠ X.env.locals ∧ b ∉ X.fs ∧ (b ∈ X.ex ∨ X.s_0.heap.objs.size ≤ b) ∧ (∀ x c, X.env.cells.lookup x = some c → c ≠ b) ∧ ∀ p ∈ X.pn ++ pins, p.1 ≠ b
theorem Inv.fpOk {X : Cx} {pins : List (Addr × Obj)} {σ : St} {H H' : Hp} {s : Shared} {b : Addr} (I : Inv X pins σ H s) (hb : s.heap.objs.size ≤ b) (hn : H' b = none) : FpOk X pins H' b := by
  refine ⟨hn, Nat.ne_of_gt (Nat.lt_of_lt_of_le I.lt hb), I.nofs hb, .inr (Nat.le_trans I.sz hb), fun x c e z => ?_, fun p hp z => ?_⟩
  · obtain ⟨v, q⟩ := I.cell x c e
    exact absurd (Nat.lt_of_lt_of_le q.lt (by rw [z]; exact hb)) (Nat.lt_irrefl _)
  · exact absurd (Nat.lt_of_lt_of_le (Heap.lt_size (I.pin p hp).1) (by rw [z]; exact hb)) (Nat.lt_irrefl _)
structure Turn (P : Program) (w : World) (K : PySem.W.Frag) (tg : Expr) (J : It) (fp : List Addr) (it : Addr) (tn : Nat → Heap → Prop) : Prop where
  mem : it ∈ fp
  obj : ∀ i h, tn i h → ∀ b ∈ fp, ∃ o, h.get? b = some o ∧ ∀ v, o.data ≠ .cell v
  keep : ∀ i h h', tn i h → (∀ b ∈ fp, ∀ o, h.get? b = some o → h'.get? b = some o) → tn i h'
  item : ∀ (X : Cx), X.prog = P → X.w = w → X.K = K → X.calm = true → ∀ (i : Nat) (pins : List (Addr × Obj)) (s : Shared) (σ : St) (H : Hp) (E : Value → Shared → Prop), Inv X pins σ H s → (∀ b ∈ fp, FpOk X pins H b) → tn i s.heap → J.go i H →
    wpAny (model P w) X.A (pyNext (.ref it)) (fun r s1 => ∃ u, r = some u ∧
      wpAny (model P w) X.A (letOwnedTupleGo tg (.ref it) u) (fun _ s2 => ∃ x H', Inv X pins σ H' s2 ∧ RelV x u ∧ J.yld i H x H' ∧ tn (i + 1) s2.heap ∧ ∀ b ∈ fp, H' b = none) E s1) E s
  done : ∀ (X : Cx), X.prog = P → X.w = w → X.K = K → X.calm = true → ∀ (i : Nat) (pins : List (Addr × Obj)) (s : Shared) (σ : St) (H : Hp) (E : Value → Shared → Prop), Inv X pins σ H s → (∀ b ∈ fp, FpOk X pins H b) → tn i s.heap → J.stop i H →
    wpAny (model P w) X.A (pyNext (.ref it)) (fun r s1 => r = none ∧ Inv X pins σ H s1) E s
  self : ∀ (A : Around) (i : Nat) (s : Shared) (Q : Value → Shared → Prop) (E : Value → Shared → Prop), tn i s.heap → Q (.ref it) s → wpAny (model P w) A (pyIter (.ref it)) Q E s
abbrev TI := St → Hp → (It → Hp → Prop) → Prop

def PIE (X : Cx) (pins : List (Addr × Obj)) (σ : St) (tg : Expr) (R : It → Hp → Prop) (itv : Value) (s2 : Shared) : Prop :=
  ∃ (it : Addr) (fp : List Addr) (tn : Nat → Heap → Prop) (J : It) (H' : Hp), itv = .ref it ∧ Inv X pins σ H' s2 ∧ Turn X.prog X.w X.K tg J fp it tn ∧ tn 0 s2.heap ∧ (∀ b ∈ fp, FpOk X pins H' b) ∧ R J H'
def PI (X : Cx) (tg iter : Expr) (wi : TI) : Prop :=
  ∀ (pins : List (Addr × Obj)) (s : Shared) (σ : St) (H : Hp) (R : It → Hp → Prop), Inv X pins σ H s → wi σ H R →
    wpAny (model X.prog X.w) X.A (eval iter X.env) (fun v s1 => wpAny (model X.prog X.w) X.A (pyIter v) (PIE X pins σ tg R) X.xe s1) X.xe s


theorem go_of {M : Model} {A : Around} {E : Value → Shared → Prop} {s : Shared} {tg : Expr} {it : Addr} {u : Value} {o : Obj} {n : String} {vs : Array Value} {Q : Unit → Shared → Prop} (ho : s.heap.get? it = some o) (hc : o.cls = .type n) (hd : o.data = .fields vs)
    (hn : ["enumerate", "zip", "dict_itemiterator", "dict_reverseitemiterator", "odict_iterator", "itertools.zip_longest", "itertools.pairwise"].contains n = false) (hQ : Q () s) : wpAny M A (letOwnedTupleGo tg (.ref it) u) Q E s := by
  unfold letOwnedTupleGo
  cases tg <;> first
    | exact wpAny_pure hQ
    | (cases u <;> first
        | exact wpAny_pure hQ
        | (refine wpAny_bind (wpAny_load ho ?_)
           rw [hc, hd]
           show wpAny M A (if (["enumerate", "zip", "dict_itemiterator", "dict_reverseitemiterator", "odict_iterator", "itertools.zip_longest", "itertools.pairwise"].contains n && vs[0]? == some (rawInt _)) = true then _ else _) Q E s
           rw [if_neg (by intro h; rw [hn, Bool.false_and] at h; cases h)]
           exact wpAny_pure hQ))


def Itl (K : PySem.W.Frag) (a : Addr) : It :=
  ⟨fun i H => ∃ xs x, SqL K H a xs ∧ xs[i]? = some x, fun i H x H' => H' = H ∧ ∀ xs, SqL K H a xs → xs[i]? = some x, fun i H => ∃ xs, SqL K H a xs ∧ xs.length ≤ i⟩
def Itt (K : PySem.W.Frag) (a : Addr) : It :=
  ⟨fun i H => ∃ xs x, SqT K H a xs ∧ xs[i]? = some x, fun i H x H' => H' = H ∧ ∀ xs, SqT K H a xs → xs[i]? = some x, fun i H => ∃ xs, SqT K H a xs ∧ xs.length ≤ i⟩

def Itr (lo : Int) (n : Nat) : It := ⟨fun i _ => i < n, fun i H x H' => H' = H ∧ x = .int (lo + i), fun i _ => n ≤ i⟩
theorem turn_list {P : Program} {w : World} {K : PySem.W.Frag} {tg : Expr} (a it : Addr) : Turn P w K tg (Itl K a) [it] it (fun i h => h.IsListIter it a i) where
  mem := by simp
  obj := fun i h st b hb => by
    have e : b = it := by simpa using hb
    subst e
    obtain ⟨o, e, c, d⟩ := st
    exact ⟨o, e, fun v z => by rw [d] at z; cases z⟩
  keep := fun i h h' st k => st.at fun o e => k it (by simp) o e
  item := by
    intro X hP hw hK hc i pins s σ H E I hf st hg
    subst hP hw hK
    obtain ⟨xs, x, hq, hx⟩ := hg
    obtain ⟨its, rv, p, hz⟩ := I.list hq
    obtain ⟨u, hu, ru⟩ := rv.get hx
    obtain ⟨f0, f1, f2, f3, f4, f5⟩ := hf it (by simp)
    refine wpAny_pyNext_list_item st p.isList (x := u) (by simpa using hu) fun h' st' sb => ?_
    have I1 : Inv X pins σ H { s with heap := h' } := I.turned (t' := s.toks) (fun b o hb e => (sb.2 b hb).trans e) f0 f1 f3 f4 f5
    obtain ⟨o, e, c, d⟩ := id st'
    exact ⟨u, rfl, go_of (s := { s with heap := h' }) e c d (by decide) ⟨x, H, I1, ru, ⟨rfl, fun ys hy => by rw [I.list_inj hy hq]; exact hx⟩, st', fun b hb => (hf b hb).1⟩⟩
  done := by
    intro X hP hw hK hc i pins s σ H E I hf st hg
    subst hP hw hK
    obtain ⟨xs, hq, hx⟩ := hg
    obtain ⟨its, rv, p, hz⟩ := I.list hq
    obtain ⟨f0, f1, f2, f3, f4, f5⟩ := hf it (by simp)
    have hl := rv.length
    exact wpAny_pyNext_list_end (I.ok.hd hc) st p.isList (by simp; omega) fun h' eb => ⟨rfl, I.turned (t' := s.toks) (fun b o hb e => eb b o hb e) f0 f1 f3 f4 f5⟩
  self := fun _ _ _ _ _ st h => wpAny_pyIter_listiter st h
theorem turn_tuple {P : Program} {w : World} {K : PySem.W.Frag} {tg : Expr} (a it : Addr) : Turn P w K tg (Itt K a) [it] it (fun i h => h.IsTupleIter it a i) where
  mem := by simp
  obj := fun i h st b hb => by
    have e : b = it := by simpa using hb
    subst e
    obtain ⟨o, e, c, d⟩ := st
    exact ⟨o, e, fun v z => by rw [d] at z; cases z⟩
  keep := fun i h h' st k => st.at fun o e => k it (by simp) o e
  item := by
    intro X hP hw hK hc i pins s σ H E I hf st hg
    subst hP hw hK
    obtain ⟨xs, x, hq, hx⟩ := hg
    obtain ⟨its, rv, p, hz⟩ := I.tuple hq
    obtain ⟨u, hu, ru⟩ := rv.get hx
    obtain ⟨f0, f1, f2, f3, f4, f5⟩ := hf it (by simp)
    refine wpAny_pyNext_tuple_item st (show s.heap.IsTuple a its.toArray from p) (x := u) (by simpa using hu) fun h' st' sb => ?_
    have I1 : Inv X pins σ H { s with heap := h' } := I.turned (t' := s.toks) (fun b o hb e => (sb.2 b hb).trans e) f0 f1 f3 f4 f5
    obtain ⟨o, e, c, d⟩ := id st'
    exact ⟨u, rfl, go_of (s := { s with heap := h' }) e c d (by decide) ⟨x, H, I1, ru, ⟨rfl, fun ys hy => by rw [I.tuple_inj hy hq]; exact hx⟩, st', fun b hb => (hf b hb).1⟩⟩
  done := by
    intro X hP hw hK hc i pins s σ H E I hf st hg
    subst hP hw hK
    obtain ⟨xs, hq, hx⟩ := hg
    obtain ⟨its, rv, p, hz⟩ := I.tuple hq
    obtain ⟨f0, f1, f2, f3, f4, f5⟩ := hf it (by simp)
    have hl := rv.length
    exact wpAny_pyNext_tuple_end (I.ok.hd hc) st (show s.heap.IsTuple a its.toArray from p) (by simp; omega) fun h' eb => ⟨rfl, I.turned (t' := s.toks) (fun b o hb e => eb b o hb e) f0 f1 f3 f4 f5⟩
  self := fun _ _ _ _ _ st h => wpAny_pyIter_tupleiter st h
theorem turn_range {P : Program} {w : World} {K : PySem.W.Frag} {tg : Expr} (it : Addr) (lo : Int) (n : Nat) : Turn P w K tg (Itr lo n) [it] it (fun i h => IsRangeIter h it (lo + (i : Nat) * 1) ((n : Int) - (i : Nat)) 1) where
  mem := by simp
  obj := fun i h st b hb => by
    have e : b = it := by simpa using hb
    subst e
    exact ⟨_, st, fun v z => by
      have z' : Data.fields _ = Data.cell v := z
      cases z'⟩
  keep := fun i h h' st k => k it (by simp) _ st
  item := by
    intro X hP hw hK hc i pins s σ H E I hf st hg
    subst hP hw hK
    obtain ⟨f0, f1, f2, f3, f4, f5⟩ := hf it (by simp)
    have W := Walks.range (prog := X.prog) (w := X.w) (I.ok.hd hc) it lo 1 n
    refine W.item i s _ _ hg st fun v h' tk hv st' kk => ?_
    obtain ⟨t, rfl⟩ := hv
    have I1 : Inv X pins σ H { s with heap := h', toks := tk } := I.turned (fun b o hb e => kk b o (by simpa using hb) e) f0 f1 f3 f4 f5
    refine ⟨_, rfl, go_of (s := { s with heap := h', toks := tk }) (n := "range_iterator") st' rfl rfl (by decide) ⟨.int (lo + i), H, I1, ⟨t, ?_⟩, ⟨rfl, rfl⟩, st', fun b hb => (hf b hb).1⟩⟩
    rw [Int.mul_one]
  done := by
    intro X hP hw hK hc i pins s σ H E I hf st hg
    subst hP hw hK
    obtain ⟨f0, f1, f2, f3, f4, f5⟩ := hf it (by simp)
    exact wpAny_pyNext_range_end (I.ok.hd hc) st (by have : n ≤ i := hg; omega) fun h' eb => ⟨rfl, I.turned (t' := s.toks) (fun b o hb e => eb b o hb e) f0 f1 f3 f4 f5⟩
  self := fun _ _ _ _ _ st h => wpAny_pyIter_rangeiter st h
end L2
namespace L2
open PySem PySem.Spec PyProof.Rows
section
variable {X : Cx} {tg : Expr}
theorem range_it {pins : List (Addr × Obj)} {σ : St} {H : Hp} {s : Shared} {R : It → Hp → Prop} {E : Value → Shared → Prop} {lo hi : Int} {t u v : Tok} {tk : Nat} (I : Inv X pins σ H s) (h1 : -(2 ^ 62) ≤ lo) (h2 : lo < 2 ^ 62) (h3 : -(2 ^ 62) ≤ hi) (h4 : hi < 2 ^ 62)
    (q : R (Itr lo (hi - lo).toNat) H) : wpAny (model X.prog X.w) X.A (pyIter (.ref s.heap.objs.size)) (PIE X pins σ tg R) E { s with heap := s.heap.push { cls := .type "range", data := .fields #[.int lo t, .int hi u, .int 1 v] }, toks := tk } := by
  refine wpAny_pyIter_range (IsRange.new ..) (small_one h1 h2 h3 h4) ?_
  have I1 : Inv X pins σ H { s with heap := s.heap.push { cls := .type "range", data := .fields #[.int lo t, .int hi u, .int 1 v] }, toks := tk } := I.kept fun b o e => Heap.get?_push_of_some _ e
  refine ⟨(s.heap.push { cls := .type "range", data := .fields #[.int lo t, .int hi u, .int 1 v] }).objs.size, [(s.heap.push { cls := .type "range", data := .fields #[.int lo t, .int hi u, .int 1 v] }).objs.size], _, _, H, rfl,
    I1.kept (t' := tk) fun b o e => Heap.get?_push_of_some _ e, turn_range _ lo (hi - lo).toNat, ?_, fun b hb => ?_, q⟩
  · have e1 : lo + ((0 : Nat) : Int) * 1 = lo := by simp
    have e2 : (((hi - lo).toNat : Nat) : Int) - ((0 : Nat) : Int) = Builtin.Range.rangeSize lo hi 1 := by rw [rangeSize_one]; split <;> omega
    show IsRangeIter _ _ (lo + ((0 : Nat) : Int) * 1) ((((hi - lo).toNat : Nat) : Int) - ((0 : Nat) : Int)) 1
    rw [e1, e2]
    exact Heap.get?_push_size _ rfl
  · have e : b = (s.heap.push { cls := .type "range", data := .fields #[.int lo t, .int hi u, .int 1 v] }).objs.size := by simpa using hb
    subst e
    exact I1.fpOk (Nat.le_refl _) (I1.hok.fresh (Nat.le_refl _))
def iRng1 (ta : TA) : TI := fun σ H R => ta σ H fun vs H1 => ∃ j : Int, vs = [.int j] ∧ -(2 ^ 62) ≤ j ∧ j < 2 ^ 62 ∧ R (Itr 0 j.toNat) H1
theorem pi_range1 {a : Expr} {ta : TA} {p pos : Pos} (hg : Gl X "range") (hm : X.mg "range" = none) (ha : PA X [a] ta) (hs : starEach [a] X.env = [(false, eval a X.env)] := by rfl) : PI X tg (.Call (.Name "range" p) [a] [] pos) (iRng1 ta) := by
  intro pins s σ H R I h
  refine Call_ (ld_blt I hg hm boot_range (PyProof.Rows.callWith_type1 (thn (ha pos pins s σ H _ I h) fun us s1 ⟨vs, H1, I1, r1, q1⟩ => ?_) hs rfl))
  obtain ⟨j, e, q1, q2, q⟩ := q1
  subst e
  cases r1 with
  | cons r rr =>
    cases rr
    obtain ⟨t, rfl⟩ := r
    exact call_range_1 (range_it I1 (by omega) (by omega) q1 q2 (by simpa using q))
def tFor (wi : TI) (g : TG) (tb : TS) : TS := fun D σ H => wi σ H fun J H1 => ∃ W : Nat → Nat → St → Hp → Prop, (∃ m, W 0 m σ H1) ∧ ∀ i m σ H, W i m σ H →
  (J.stop i H ∧ D.nx σ H) ∨ (J.go i H ∧ ∃ N : St → Hp → Prop, (∀ σ' H', N σ' H' → ∃ m', m' < m ∧ W (i + 1) m' σ' H') ∧ ∀ x H', J.yld i H x H' → g x σ H' fun σ2 H2 => tb { D with nx := N, ct := N, bk := D.nx } σ2 H2)

def pinsAt (fp : List Addr) (h : Heap) : List (Addr × Obj) := fp.filterMap fun b => (h.get? b).map fun o => (b, o)
theorem mem_pinsAt {fp : List Addr} {h : Heap} {b : Addr} {o : Obj} (hb : b ∈ fp) (e : h.get? b = some o) : (b, o) ∈ pinsAt fp h := List.mem_filterMap.mpr ⟨b, hb, by rw [e]; rfl⟩
theorem of_pinsAt {fp : List Addr} {h : Heap} {p : Addr × Obj} (hp : p ∈ pinsAt fp h) : p.1 ∈ fp ∧ h.get? p.1 = some p.2 := by
  obtain ⟨b, hb, e⟩ := List.mem_filterMap.mp hp
  cases q : h.get? b with
  | none => rw [q] at e; cases e
  | some o =>
    rw [q] at e
    have e' : (b, o) = p := Option.some.inj e
    subst e'
    exact ⟨hb, q⟩
theorem Inv.pinned {pins : List (Addr × Obj)} {σ : St} {H : Hp} {s : Shared} {fp : List Addr} (I : Inv X pins σ H s) (hf : ∀ b ∈ fp, FpOk X pins H b) (ho : ∀ b ∈ fp, ∃ o, s.heap.get? b = some o ∧ ∀ v, o.data ≠ .cell v) : Inv X (pins ++ pinsAt fp s.heap) σ H s :=
  I.pins_of fun p hp => (List.mem_append.mp hp).elim (fun z => I.pin p (List.mem_append_right _ z)) fun z => by
    obtain ⟨hb, e⟩ := of_pinsAt z
    obtain ⟨f0, f1, f2, _⟩ := hf p.1 hb
    obtain ⟨o, e', d⟩ := ho p.1 hb
    rw [e] at e'; cases e'
    exact ⟨e, f0, f1, f2, d⟩
theorem Inv.unpinned {pins pl : List (Addr × Obj)} {σ : St} {H : Hp} {s : Shared} (I : Inv X (pins ++ pl) σ H s) : Inv X pins σ H s := I.pins_of fun p hp => I.pin p (List.mem_append_right _ (List.mem_append_left _ hp))
theorem ps_for {iter : Expr} {body : List Stmt} {wi : TI} {g : TG} {tb : TS} {pos : Pos} (hp : PassesOwn (model X.prog X.w) X.A X.env X.xe) (hc : X.calm = true) (hi : PI X tg iter wi) (hg : PG X tg g) (hb : PSs X body tb)
    (hs : ∀ x, foldedSetIterable iter X.env x = pure x := by intro _; rfl) : PS X (.For tg iter body [] pos) (tFor wi g tb) := by
  intro pins s σ H D I h
  refine wpAny_For (thn (hi pins s σ H _ I h) fun v s1 h1 => thn h1 fun itv s2 h2 => ?_) hs
  obtain ⟨it, fp, tn, J, H2, e, I2, T, st2, f2, W, ⟨m0, w0⟩, turn⟩ := h2
  subst e
  -- what stays true of the iterator's objects through the loop
  have stat : ∀ {H' : Hp}, (∀ b ∈ fp, H' b = none) → ∀ b ∈ fp, FpOk X pins H' b := fun hn b hb => ⟨hn b hb, (f2 b hb).2⟩
  refine codeAny_forLoop_any (fun n s' => ∃ i σ' H', Inv X pins σ' H' s' ∧ tn i s'.heap ∧ (∀ b ∈ fp, H' b = none) ∧ W i n σ' H') ?_ m0 ⟨0, σ, H2, I2, st2, fun b hb => (f2 b hb).1, w0⟩
  rintro n s3 ⟨i, σ3, H3, I3, st3, fr3, w3⟩
  rcases turn i n σ3 H3 w3 with ⟨stop, qn⟩ | ⟨go, N, hN, step⟩
  · refine wpAny_passesOwn hp (thn (T.done X rfl rfl rfl hc i pins s3 σ3 H3 X.xe I3 (stat fr3) st3 stop) fun r s4 ⟨hr, I4⟩ => ?_)
    subst hr
    exact wpAny_execs_nil ⟨σ3, H3, I4, qn⟩
  · refine wpAny_passesOwn hp (thn (T.item X rfl rfl rfl hc i pins s3 σ3 H3 X.xe I3 (stat fr3) st3 go) fun r s4 ⟨u, hr, h4⟩ => ?_)
    subst hr
    refine wpAny_passesOwn hp (thn h4 fun _ s5 ⟨x, H5, I5, r5, y5, st5, fr5⟩ => ?_)
    have I5' := I5.pinned (stat fr5) (T.obj _ _ st5)
    refine wpAny_passesOwn hp (thn (hg _ s5 σ3 H5 x u _ I5' r5 (step x H5 y5)) fun _ s6 ⟨σ6, H6, I6, q6⟩ => ?_)
    refine wpAny_passesOwn hp (thn (hb _ s6 σ6 H6 _ I6 q6) fun f s7 q7 => ?_)
    have again : ∀ {σ7 : St} {H7 : Hp}, Inv X (pins ++ pinsAt fp s5.heap) σ7 H7 s7 → N σ7 H7 → ∃ m, m < n ∧ ∃ i σ' H', Inv X pins σ' H' s7 ∧ tn i s7.heap ∧ (∀ b ∈ fp, H' b = none) ∧ W i m σ' H' := fun {σ7 H7} I7 n7 => by
      obtain ⟨m', hm, w7⟩ := hN σ7 H7 n7
      refine ⟨m', hm, i + 1, σ7, H7, I7.unpinned, T.keep _ _ _ st5 fun b hb o e => (I7.pin (b, o) (List.mem_append_right _ (List.mem_append_right _ (mem_pinsAt hb e)))).1, fun b hb => ?_, w7⟩
      obtain ⟨o, e, d⟩ := T.obj _ _ st5 b hb
      exact (I7.pin (b, o) (List.mem_append_right _ (List.mem_append_right _ (mem_pinsAt hb e)))).2.1
    cases f with
    | next => obtain ⟨σ7, H7, I7, n7⟩ := q7; exact again I7 n7
    | cont => obtain ⟨σ7, H7, I7, n7⟩ := q7; exact again I7 n7
    | brk => obtain ⟨σ7, H7, I7, q7⟩ := q7; exact ⟨σ7, H7, I7.unpinned, q7⟩
    | ret v => obtain ⟨x7, σ7, H7, I7, r7, q7⟩ := q7; exact ⟨x7, σ7, H7, I7.unpinned, r7, q7⟩
end
end L2
namespace L2
open PySem PySem.Spec PyProof.Rows
abbrev R2 := V → V → Hp → VK → Prop

def OpR (X : Cx) (f : Value → Value → Sem Value) (r : R2) : Prop :=
  ∀ (pins : List (Addr × Obj)) (s : Shared) (σ : St) (H : Hp) (x y : V) (v u : Value) (Q : VK), Inv X pins σ H s → RelV x v → RelV y u → r x y H Q →
    wpAny (model X.prog X.w) X.A (f v u) (EP X pins σ Q) X.xe s

def UnR (X : Cx) (f : Value → Sem Value) (r : V → Hp → VK → Prop) : Prop :=
  ∀ (pins : List (Addr × Obj)) (s : Shared) (σ : St) (H : Hp) (x : V) (v : Value) (Q : VK), Inv X pins σ H s → RelV x v → r x H Q →
    wpAny (model X.prog X.w) X.A (f v) (EP X pins σ Q) X.xe s

def CallR (X : Cx) (f : Value) (r : List V → Hp → VK → Prop) : Prop :=
  ∀ (pins : List (Addr × Obj)) (s : Shared) (σ : St) (H : Hp) (xs : List V) (us : List Value) (Q : VK), Inv X pins σ H s → Vals xs us → r xs H Q →
    wpAny (model X.prog X.w) X.A (call f us) (EP X pins σ Q) X.xe s

def tOp (r : R2) (ta tb : TE) : TE := fun σ H Q => ta σ H fun x H1 => tb σ H1 fun y H2 => r x y H2 Q
def tUn (r : V → Hp → VK → Prop) (ta : TE) : TE := fun σ H Q => ta σ H fun x H1 => r x H1 Q

def rI (C : Int → Int → Prop) (g : Int → Int → V) : R2 := fun x y H Q => ∃ i j, x = .int i ∧ y = .int j ∧ C i j ∧ Q (g i j) H
def rI0 (g : Int → Int → V) : R2 := fun x y H Q => ∃ i j, x = .int i ∧ y = .int j ∧ Q (g i j) H
def rU (g : Int → V) : V → Hp → VK → Prop := fun x H Q => ∃ i, x = .int i ∧ Q (g i) H

section
variable {X : Cx} {a b c : Expr} {ta tb tc : TE} {pos : Pos}
theorem binT (ha : PE X a ta) (hb : PE X b tb) {pins : List (Addr × Obj)} {s : Shared} {σ : St} {H : Hp} {R : V → V → Hp → Prop} (I : Inv X pins σ H s)
    (h : ta σ H fun x H1 => tb σ H1 fun y H2 => R x y H2) {Q : Value → Shared → Prop} {f : Value → Value → Sem Value}
    (hf : ∀ v u s2 x y H2, Inv X pins σ H2 s2 → RelV x v → RelV y u → R x y H2 → wpAny (model X.prog X.w) X.A (f v u) Q X.xe s2) :
    wpAny (model X.prog X.w) X.A (eval a X.env) (fun v s₁ => wpAny (model X.prog X.w) X.A (eval b X.env) (fun u s₂ => wpAny (model X.prog X.w) X.A (f v u) Q X.xe s₂) X.xe s₁) X.xe s := by
  refine thn (ha pins s σ H _ I h) fun v s1 ⟨x, H1, I1, r1, q1⟩ => ?_
  refine thn (hb pins s1 σ H1 _ I1 q1) fun u s2 ⟨y, H2, I2, r2, q2⟩ => ?_
  exact hf v u s2 x y H2 I2 r1 r2 q2

theorem pe_op {op : Operator} {r : R2} (ho : OpR X (binaryOp op) r) (ha : PE X a ta) (hb : PE X b tb) : PE X (.BinOp a op b pos) (tOp r ta tb) := by
  intro pins s σ H Q I h
  exact wpAny_BinOp (binT ha hb I h fun v u s2 x y H2 I2 rx ry q => ho pins s2 σ H2 x y v u Q I2 rx ry q)
theorem pe_un {op : UnaryOp} {r : V → Hp → VK → Prop} (ho : UnR X (unaryOp op) r) (ha : PE X a ta) : PE X (.UnaryOp op a pos) (tUn r ta) := by
  intro pins s σ H Q I h
  exact UnaryOp_ (thn (ha pins s σ H _ I h) fun v s1 ⟨x, H1, I1, r1, q1⟩ => ho pins s1 σ H1 x v Q I1 r1 q1)

theorem opI {f : Value → Value → Sem Value} {C : Int → Int → Prop} {g : Int → Int → Int}
    (rule : ∀ (i j : Int) (t u : Tok) (s : Shared) (Q : Value → Shared → Prop) (E : Value → Shared → Prop), C i j → Q (.int (g i j) s.toks) { s with toks := s.toks + 1 } → wpAny (model X.prog X.w) X.A (f (.int i t) (.int j u)) Q E s) :
    OpR X f (rI C fun i j => .int (g i j)) := by
  intro pins s σ H x y v u Q I rx ry h
  obtain ⟨i, j, rfl, rfl, hc, q⟩ := h
  obtain ⟨t, rfl⟩ := rx
  obtain ⟨t', rfl⟩ := ry
  exact rule i j t t' s _ _ hc ⟨.int (g i j), H, I.tok _, ⟨_, rfl⟩, q⟩
theorem opI0 {f : Value → Value → Sem Value} {g : Int → Int → Int}
    (rule : ∀ (i j : Int) (t u : Tok) (s : Shared) (Q : Value → Shared → Prop) (E : Value → Shared → Prop), Q (.int (g i j) s.toks) { s with toks := s.toks + 1 } → wpAny (model X.prog X.w) X.A (f (.int i t) (.int j u)) Q E s) :
    OpR X f (rI0 fun i j => .int (g i j)) := by
  intro pins s σ H x y v u Q I rx ry h
  obtain ⟨i, j, rfl, rfl, q⟩ := h
  obtain ⟨t, rfl⟩ := rx
  obtain ⟨t', rfl⟩ := ry
  exact rule i j t t' s _ _ ⟨.int (g i j), H, I.tok _, ⟨_, rfl⟩, q⟩
theorem opB0 {f : Value → Value → Sem Value} {g : Int → Int → Bool}
    (rule : ∀ (i j : Int) (t u : Tok) (s : Shared) (Q : Value → Shared → Prop) (E : Value → Shared → Prop), Q (.bool (g i j)) s → wpAny (model X.prog X.w) X.A (f (.int i t) (.int j u)) Q E s) :
    OpR X f (rI0 fun i j => .bl (g i j)) := by
  intro pins s σ H x y v u Q I rx ry h
  obtain ⟨i, j, rfl, rfl, q⟩ := h
  obtain ⟨t, rfl⟩ := rx
  obtain ⟨t', rfl⟩ := ry
  exact rule i j t t' s _ _ ⟨.bl (g i j), H, I, rfl, q⟩

def CDiv (i j : Int) : Prop := 0 < j ∧ j < 1073741824
def CPow (i j : Int) : Prop := 0 ≤ j ∧ j ≤ 1000000 ∧ i.natAbs < 2 ^ 64
def CMul (i j : Int) : Prop := (-(2 ^ 64) < i ∧ i < 2 ^ 64) ∨ (-(2 ^ 64) < j ∧ j < 2 ^ 64)
theorem CMul.ok {i j : Int} (h : CMul i j) : IntMulOk i j := by
  rcases h with ⟨h1, h2⟩ | ⟨h1, h2⟩
  · exact .of_left (intBits_le_64 h1 h2)
  · exact .of_right (intBits_le_64 h1 h2)
theorem op_add : OpR X (binaryOp .Add) (rI0 fun i j => .int (i + j)) := opI0 fun _ _ _ _ _ _ _ q => add_int q
theorem op_sub : OpR X (binaryOp .Sub) (rI0 fun i j => .int (i - j)) := opI0 fun _ _ _ _ _ _ _ q => sub_int q
theorem op_mul : OpR X (binaryOp .Mult) (rI CMul fun i j => .int (i * j)) := opI fun _ _ _ _ _ _ _ hc q => mul_int q hc.ok

theorem op_mod : OpR X (binaryOp .Mod) (rI (fun _ j => 0 < j) fun i j => .int (i % j)) := opI fun i j _ _ _ _ _ hc q => by
  have h1 : (0 : Int) < j := hc
  exact mod_int' (by omega) (by rw [Int.fmod_eq_emod_of_nonneg i (by omega)]; exact q)
theorem op_pow : OpR X (binaryOp .Pow) (rI CPow fun i j => .int (i ^ j.toNat)) := opI fun _ _ _ _ _ _ _ hc q => pow_int_small hc.1 hc.2.1 hc.2.2 q
theorem unI {f : Value → Sem Value} {g : Int → Int}
    (rule : ∀ (i : Int) (t : Tok) (s : Shared) (Q : Value → Shared → Prop) (E : Value → Shared → Prop), Q (.int (g i) s.toks) { s with toks := s.toks + 1 } → wpAny (model X.prog X.w) X.A (f (.int i t)) Q E s) :
    UnR X f (rU fun i => .int (g i)) := by
  intro pins s σ H x v Q I rx h
  obtain ⟨i, rfl, q⟩ := h
  obtain ⟨t, rfl⟩ := rx
  exact rule i t s _ _ ⟨.int (g i), H, I.tok _, ⟨_, rfl⟩, q⟩
theorem un_neg : UnR X (unaryOp .USub) (rU fun i => .int (-i)) := unI fun _ _ _ _ _ q => neg_int q
end
def scal : V → V → Bool
  | .non, .non => true | .non, .int _ => true | .int _, .non => true | .non, .bl _ => true | .bl _, .non => true | .non, .str _ => true | .str _, .non => true
  | .int _, .int _ => true | .bl _, .bl _ => true | .str _, .str _ => true | .byt _, .byt _ => true
  | .int _, .str _ => true | .str _, .int _ => true | .bl _, .str _ => true | .str _, .bl _ => true
  | _, _ => false
def rEq : R2 := fun x y H Q => scal x y = true ∧ Q (.bl (decide (x = y))) H
def rNe : R2 := fun x y H Q => scal x y = true ∧ Q (.bl (!decide (x = y))) H

theorem dec_int {i j : Int} : decide (V.int i = V.int j) = (i == j) := by
  rw [Bool.eq_iff_iff]
  simp
theorem dec_bl {i j : Bool} : decide (V.bl i = V.bl j) = (i == j) := by
  rw [Bool.eq_iff_iff]
  simp
theorem dec_str {i j : Str} : decide (V.str i = V.str j) = (i == j) := by
  rw [Bool.eq_iff_iff]
  simp
theorem dec_byt {i j : Array UInt8} : decide (V.byt i = V.byt j) = (i.toList == j.toList) := by
  rw [Bool.eq_iff_iff]
  cases i
  cases j
  simp

section
variable {X : Cx} {a b c : Expr} {ta tb tc : TE} {pos : Pos}
theorem fin_bl {pins : List (Addr × Obj)} {σ : St} {H : Hp} {s : Shared} {Q : VK} {k k' : Bool} (I : Inv X pins σ H s) (q : Q (.bl k) H) (e : k = k') : EP X pins σ Q (.bool k') s := by
  subst e
  exact ⟨.bl k, H, I, rfl, q⟩
theorem op_eq : OpR X (compareOp .Eq) rEq := by
  intro pins s σ H x y v u Q I rx ry h
  obtain ⟨hs, q⟩ := h
  cases x with
  | non =>
    cases rx
    cases y with
    | non => cases ry; exact PySem.EqNone.eq_none_none (fin_bl I q (by simp))
    | bl j => cases ry; exact PySem.EqNone.eq_none_bool (fin_bl I q (by simp))
    | int j => obtain ⟨t', rfl⟩ := ry; exact PySem.EqNone.eq_none_int (fin_bl I q (by simp))
    | str j => obtain ⟨t', rfl⟩ := ry; exact PySem.EqNone.eq_none_str (fin_bl I q (by simp))
    | _ => exact absurd (show false = true from hs) Bool.false_ne_true
  | bl i =>
    cases rx
    cases y with
    | non => cases ry; exact PySem.EqNone.eq_bool_none (fin_bl I q (by simp))
    | bl j => cases ry; exact eq_bool (fin_bl I q dec_bl)
    | str j => obtain ⟨t', rfl⟩ := ry; exact PySem.EqMixed.eq_bool_str (fin_bl I q (by simp))
    | _ => exact absurd (show false = true from hs) Bool.false_ne_true
  | int i =>
    obtain ⟨t, rfl⟩ := rx
    cases y with
    | non => cases ry; exact PySem.EqNone.eq_int_none (fin_bl I q (by simp))
    | int j => obtain ⟨t', rfl⟩ := ry; exact eq_int (fin_bl I q dec_int)
    | str j => obtain ⟨t', rfl⟩ := ry; exact PySem.EqMixed.eq_int_str (fin_bl I q (by simp))
    | _ => exact absurd (show false = true from hs) Bool.false_ne_true
  | str i =>
    obtain ⟨t, rfl⟩ := rx
    cases y with
    | non => cases ry; exact PySem.EqNone.eq_str_none (fin_bl I q (by simp))
    | bl j => cases ry; exact PySem.EqMixed.eq_str_bool (fin_bl I q (by simp))
    | int j => obtain ⟨t', rfl⟩ := ry; exact PySem.EqMixed.eq_str_int (fin_bl I q (by simp))
    | str j => obtain ⟨t', rfl⟩ := ry; exact eq_str (fin_bl I q dec_str)
    | _ => exact absurd (show false = true from hs) Bool.false_ne_true
  | byt i =>
    obtain ⟨t, rfl⟩ := rx
    cases y with
    | byt j => obtain ⟨t', rfl⟩ := ry; exact PySem.W.eq_bytes (fin_bl I q dec_byt)
    | _ => exact absurd (show false = true from hs) Bool.false_ne_true
  | _ => cases y <;> exact absurd (show false = true from hs) Bool.false_ne_true
theorem op_ne : OpR X (compareOp .NotEq) rNe := by
  intro pins s σ H x y v u Q I rx ry h
  obtain ⟨hs, q⟩ := h
  cases x with
  | non =>
    cases rx
    cases y with
    | non => cases ry; exact PySem.EqNone.ne_none_none (fin_bl I q (by simp))
    | bl j => cases ry; exact PySem.EqNone.ne_none_bool (fin_bl I q (by simp))
    | int j => obtain ⟨t', rfl⟩ := ry; exact PySem.EqNone.ne_none_int (fin_bl I q (by simp))
    | str j => obtain ⟨t', rfl⟩ := ry; exact PySem.EqNone.ne_none_str (fin_bl I q (by simp))
    | _ => exact absurd (show false = true from hs) Bool.false_ne_true
  | bl i =>
    cases rx
    cases y with
    | non => cases ry; exact PySem.EqNone.ne_bool_none (fin_bl I q (by simp))
    | bl j => cases ry; exact ne_bool (fin_bl I q (congrArg not dec_bl))
    | str j => obtain ⟨t', rfl⟩ := ry; exact PySem.EqMixed.ne_bool_str (fin_bl I q (by simp))
    | _ => exact absurd (show false = true from hs) Bool.false_ne_true
  | int i =>
    obtain ⟨t, rfl⟩ := rx
    cases y with
    | non => cases ry; exact PySem.EqNone.ne_int_none (fin_bl I q (by simp))
    | int j => obtain ⟨t', rfl⟩ := ry; exact ne_int (fin_bl I q (congrArg not dec_int))
    | str j => obtain ⟨t', rfl⟩ := ry; exact PySem.EqMixed.ne_int_str (fin_bl I q (by simp))
    | _ => exact absurd (show false = true from hs) Bool.false_ne_true
  | str i =>
    obtain ⟨t, rfl⟩ := rx
    cases y with
    | non => cases ry; exact PySem.EqNone.ne_str_none (fin_bl I q (by simp))
    | bl j => cases ry; exact PySem.EqMixed.ne_str_bool (fin_bl I q (by simp))
    | int j => obtain ⟨t', rfl⟩ := ry; exact PySem.EqMixed.ne_str_int (fin_bl I q (by simp))
    | str j => obtain ⟨t', rfl⟩ := ry; exact ne_str (fin_bl I q (congrArg not dec_str))
    | _ => exact absurd (show false = true from hs) Bool.false_ne_true
  | byt i =>
    obtain ⟨t, rfl⟩ := rx
    cases y with
    | byt j => obtain ⟨t', rfl⟩ := ry; exact PySem.W.ne_bytes (fin_bl I q (congrArg not dec_byt))
    | _ => exact absurd (show false = true from hs) Bool.false_ne_true
  | _ => cases y <;> exact absurd (show false = true from hs) Bool.false_ne_true

theorem op_lt : OpR X (compareOp .Lt) (rI0 fun i j => .bl (decide (i < j))) := opB0 fun _ _ _ _ _ _ _ q => lt_int q
theorem op_le : OpR X (compareOp .LtE) (rI0 fun i j => .bl (decide (i ≤ j))) := opB0 fun _ _ _ _ _ _ _ q => le_int q
theorem op_gt : OpR X (compareOp .Gt) (rI0 fun i j => .bl (decide (j < i))) := opB0 fun _ _ _ _ _ _ _ q => gt_int q
theorem pe_cmpR {op : CmpOp} {r : R2} (ho : OpR X (compareOp op) r) (ha : PE X a ta) (hb : PE X b tb) (hm : behindInMarks op b = false) : PE X (.Compare a [op] [b] pos) (tOp r ta tb) := by
  intro pins s σ H Q I h
  exact wpAny_Compare1 (binT ha hb I h fun v u s2 x y H2 I2 rx ry q => ho pins s2 σ H2 x y v u Q I2 rx ry q) hm

def tTest (t : TE) : TT := fun σ H Q => t σ H fun x H' => ∃ k, x = .bl k ∧ Q k H'
theorem pt_cmpR {op : CmpOp} {r : R2} (ho : OpR X (compareOp op) r) (ha : PE X a ta) (hb : PE X b tb) (hm : behindInMarks op b = false) : PT X (.Compare a [op] [b] pos) (tTest (tOp r ta tb)) := by
  intro pins s σ H Q I h
  refine wpAny_isTrue_Compare1 (thn (ha pins s σ H _ I h) fun v s1 ⟨x, H1, I1, r1, q1⟩ => thn (hb pins s1 σ H1 _ I1 q1) fun u s2 ⟨y, H2, I2, r2, q2⟩ =>
    thn (ho pins s2 σ H2 x y v u _ I2 r1 r2 q2) fun c s3 ⟨z, H3, I3, r3, k, e, q3⟩ => ?_) hm
  subst e
  cases r3
  exact wpAny_truthy_bool ⟨H3, I3, q3⟩

def tChain (r r' : R2) (ta tb tc : TE) : TE := fun σ H Q => ta σ H fun x H1 => tb σ H1 fun y H2 => r x y H2 fun z H3 => ∃ k, z = .bl k ∧
  (if k = true then tc σ H3 fun w' H4 => r' y w' H4 Q else Q (.bl false) H3)
theorem pe_chain {op op' : CmpOp} {r r' : R2} (ho : OpR X (compareOp op) r) (ho' : OpR X (compareOp op') r') (ha : PE X a ta) (hb : PE X b tb) (hc : PE X c tc)
    (hm : lastMarks [op, op'] [b, c] = false := by with_unfolding_all rfl) : PE X (.Compare a [op, op'] [b, c] pos) (tChain r r' ta tb tc) := by
  intro pins s σ H Q I h
  refine Compare_chain (thn (ha pins s σ H _ I h) fun v s1 ⟨x, H1, I1, r1, q1⟩ => chain_link (thn (hb pins s1 σ H1 _ I1 q1) fun u s2 ⟨y, H2, I2, r2, q2⟩ =>
    thn (ho pins s2 σ H2 x y v u _ I2 r1 r2 q2) fun d s3 ⟨z, H3, I3, r3, k, e, q3⟩ => ?_)) hm
  subst e
  cases r3
  refine wpAny_truthy_bool ?_
  cases k with
  | false => exact ite_ff ⟨.bl false, H3, I3, rfl, q3⟩
  | true => exact ite_tt (chain_last (thn (hc pins s3 σ H3 _ I3 q3) fun w' s4 ⟨z', H4, I4, r4, q4⟩ => ho' pins s4 σ H4 y z' u w' Q I4 r2 r4 q4))
theorem line63 : (sizeLine : Nat) < 2 ^ 63 := by rw [sizeLine_eq]; decide
theorem op_add_str : OpR X (binaryOp .Add) (fun x y H Q => ∃ i j, x = .str i ∧ y = .str j ∧ i.length + j.length ≤ sizeLine ∧ Q (.str (i ++ j)) H) := by
  intro pins s σ H x y v u Q I rx ry h
  obtain ⟨i, j, rfl, rfl, hz, q⟩ := h
  obtain ⟨t, rfl⟩ := rx
  obtain ⟨t', rfl⟩ := ry
  exact add_str (fun t' tk => ⟨.str (i ++ j), H, I.tok _, ⟨_, rfl⟩, q⟩) hz
theorem vals1 {x : V} {us : List Value} (r : Vals [x] us) : ∃ u, us = [u] ∧ RelV x u := by
  cases r with
  | cons r1 r2 => cases r2; exact ⟨_, rfl, r1⟩
theorem vals2 {x y : V} {us : List Value} (r : Vals [x, y] us) : ∃ u w', us = [u, w'] ∧ RelV x u ∧ RelV y w' := by
  cases r with
  | cons r1 r2 =>
    cases r2 with
    | cons r3 r4 => cases r4; exact ⟨_, _, rfl, r1, r3⟩
theorem call_abs : CallR X (.builtin "abs") (fun xs H Q => ∃ i, xs = [.int i] ∧ Q (.int (if i < 0 then -i else i)) H) := by
  intro pins s σ H xs us Q I r h
  obtain ⟨i, rfl, q⟩ := h
  obtain ⟨u, rfl, t, rfl⟩ := vals1 r
  exact call_abs_int fun u tk => ⟨.int (if i < 0 then -i else i), H, I.tok _, ⟨_, rfl⟩, q⟩
theorem call_max2 (hc : X.calm = true) : CallR X (.builtin "max") (fun xs H Q => ∃ i j, xs = [.int i, .int j] ∧ Q (.int (if j > i then j else i)) H) := by
  intro pins s σ H xs us Q I r h
  obtain ⟨i, j, rfl, q⟩ := h
  obtain ⟨u, w', rfl, ⟨t, rfl⟩, ⟨t', rfl⟩⟩ := vals2 r
  refine max_two_ints (I.ok.hd hc) fun h' tk k => ⟨_, H, I.kept k, ?_, q⟩
  by_cases hj : j > i
  · rw [if_pos hj, if_pos hj]; exact ⟨_, rfl⟩
  · rw [if_neg hj, if_neg hj]; exact ⟨_, rfl⟩
theorem call_min2 (hc : X.calm = true) : CallR X (.builtin "min") (fun xs H Q => ∃ i j, xs = [.int i, .int j] ∧ Q (.int (if j < i then j else i)) H) := by
  intro pins s σ H xs us Q I r h
  obtain ⟨i, j, rfl, q⟩ := h
  obtain ⟨u, w', rfl, ⟨t, rfl⟩, ⟨t', rfl⟩⟩ := vals2 r
  refine min_two_ints (I.ok.hd hc) fun h' tk k => ⟨_, H, I.kept k, ?_, q⟩
  by_cases hj : j < i
  · rw [if_pos hj, if_pos hj]; exact ⟨_, rfl⟩
  · rw [if_neg hj, if_neg hj]; exact ⟨_, rfl⟩
theorem call_divmod : CallR X (.builtin "divmod") (fun xs H Q => ∃ i j, xs = [.int i, .int j] ∧ CDiv i j ∧ ∀ p, H p = none → Q (.ref p) (upd H p (.tup [.int (i / j), .int (i % j)]))) := by
  intro pins s σ H xs us Q I r h
  obtain ⟨i, j, rfl, ⟨h1, h2⟩, q⟩ := h
  obtain ⟨u, w', rfl, ⟨t, rfl⟩, ⟨t', rfl⟩⟩ := vals2 r
  refine divmod_int (by omega) ?_ (.inl (PyProof.noPylong_small (by omega)))
  rw [Int.fdiv_eq_ediv_of_nonneg i (by omega), Int.fmod_eq_emod_of_nonneg i (by omega)]
  have hn : H s.heap.objs.size = none := I.hok.fresh (Nat.le_refl _)
  refine ⟨.ref s.heap.objs.size, _, ?_, rfl, q _ hn⟩
  refine I.laid (fun b o e => Heap.get?_push_of_some _ e) (Nat.le_refl _) ⟨by simp only [List.length_cons, List.length_nil]; rw [sizeLine_eq]; decide, [.int (i / j) s.toks, .int (i % j) (s.toks + 1)], .cons ⟨_, rfl⟩ (.cons ⟨_, rfl⟩ .nil), ?_⟩
  exact ⟨_, Heap.get?_push_size s.heap rfl, rfl, 0, rfl⟩
end
end L2
namespace L2
open PySem PySem.Spec PyProof.Rows
structure ObjM (h : Heap) (x dx C : Addr) (mA : Str → Option Value) : Prop where
  obj : h.get? x = some (PySem.W.instObj C dx)
  ns : h.Ns1 dx mA
  ne : dx ≠ x

theorem lookIn_ns {h : Heap} {dx : Addr} {mA : Str → Option Value} (n : h.Ns1 dx mA) : ∃ od, h.get? dx = some od ∧ ∀ name, PySem.W.lookIn name od = some (mA name) := by
  obtain ⟨o, es, ep, ho, hd, hk, _, hm⟩ := n
  refine ⟨o, ho, fun name => ?_⟩
  have e := hm name
  unfold nsFind findBy at e
  rw [← Array.find?_toList] at e
  unfold PySem.W.lookIn
  rw [hd]
  dsimp only
  split
  · rename_i y q
    rw [q] at e
    exact congrArg some e
  · rename_i q
    rw [q] at e
    have a : es.toList.any (·.refKey) = false := by
      rw [List.any_eq_false]
      intro y hy
      obtain ⟨z, t, hkey⟩ := hk y (Array.mem_toList_iff.mp hy)
      simp [DictEntry.refKey, hkey]
    have a' : ¬ es.toList.any (·.refKey) = true := by rw [a]; exact Bool.false_ne_true
    rw [if_neg a']
    exact congrArg some e

theorem ObjM.look {h : Heap} {x dx C : Addr} {mA : Str → Option Value} (I : ObjM h x dx C mA) : ∃ od, PySem.W.InstAt h x (PySem.W.instObj C dx) C (some od) ∧ ∀ name, PySem.W.lookIn name od = some (mA name) :=
  let ⟨od, ho, hl⟩ := lookIn_ns I.ns
  ⟨od, ⟨I.obj, rfl, rfl, ho⟩, hl⟩

section
variable {prog : Program} {w : World} {A : Around} {E : Value → Shared → Prop} {s : Shared} {K : PySem.W.Frag} {x dx C f : Addr} {mA : Str → Option Value} {name : Str} {v : Value}
end
section
variable {P : Program} {w : World} {H H' : Hp} {h h' : Heap} {a C dx : Addr} {fs fs' : List (Str × V)}
theorem ins_get (hok : HOk P w H h) (e : H a = some (.ins C dx fs)) : ∃ mA, ObjM h a dx C mA ∧ (∀ f, RelO (fs.lookup f) (mA f)) ∧ PySem.Within mA (fs.map (·.1)) ∧ fs.length ≤ 1000 ∧ H dx = some (.own a) := by
  obtain ⟨d, z, ne, ob, mA, n, r, q⟩ := (show ObjOk P w H h a (.ins C dx fs) from hok a _ e)
  exact ⟨mA, ⟨ob, n, ne⟩, r, q, z, d⟩
end
structure Cls (K : PySem.W.Frag) (C : Addr) : Prop where
  pg : PySem.W.plainGet K C Str.empty = true
  hd : PySem.W.hasDictIn K C = true
  po : PySem.W.plainOver K C = true
  sa : PySem.W.findIn K (.ref C) "__setattr__" = some (some (.builtin "object.__setattr__"))
theorem Cls.get {K : PySem.W.Frag} {C : Addr} (c : Cls K C) (f : Str) : PySem.W.plainGet K C f = true := c.pg

section
variable {X : Cx} {pins : List (Addr × Obj)} {σ : St} {H : Hp} {s : Shared} {a C dx : Addr} {fs : List (Str × V)} {f : Str} {v : V} {A : Around} {E : Value → Shared → Prop}
end
section
variable {X : Cx} {o e value : Expr} {f : Str} {pos pos' tpos : Pos} {ta tv : TE}
end
section
variable {X : Cx} {pins : List (Addr × Obj)} {σ : St} {H : Hp} {s : Shared} {A : Around} {E : Value → Shared → Prop} {Q : Value → Shared → Prop} {c : Value} {b : Bool}
inductive TyOf (K : PySem.W.Frag) (H : Hp) : V → Value → Prop where
  | non : TyOf K H .non (.type "NoneType")
  | bl (x : Bool) : TyOf K H (.bl x) (.type "bool")
  | int (i : Int) : TyOf K H (.int i) (.type "int")
  | str (x : Str) : TyOf K H (.str x) (.type "str")
  | flt (x : UInt64) : TyOf K H (.flt x) (.type "float")
  | lst {a : Addr} {xs : List V} (e : H a = some (.lst xs)) : TyOf K H (.ref a) (.type "list")
  | frz {a : Addr} {o : Obj} {xs : List V} (e : H a = some (.frz o (.lst xs))) : TyOf K H (.ref a) (.type "list")
  | tup {a : Addr} {xs : List V} (e : H a = some (.tup xs)) : TyOf K H (.ref a) (.type "tuple")
  | dK {a : Addr} {kvs : List (Key × V)} (e : H a = some (.dK kvs)) : TyOf K H (.ref a) (.type "dict")
  | dT {a : Addr} {kvs : List (List Key × V)} (e : H a = some (.dT kvs)) : TyOf K H (.ref a) (.type "dict")
  | ins {a C dx : Addr} {fs : List (Str × V)} (e : H a = some (.ins C dx fs)) (cl : Cls K C) (ha : PySem.W.findIn K (.ref C) "__class__" = some (some (.builtin "object.__class__")))
      (hn : PySem.W.specialIn K (.builtin "object.__class__") "__get__" = some (some (.builtin "getset_descriptor.__get__"))) (htk : PySem.W.takesIn K (.builtin "object.__class__") = some true)
      (hm : PySem.W.mroIn K C (.type "object") = some true) : TyOf K H (.ref a) (.ref C)

theorem isinst_ok {x : V} {u t : Value} (I : Inv X pins σ H s) (rx : RelV x u) (ty : TyOf X.K H x t) (e : PySem.W.kitOne X.K t c = some b) (h : ∀ tk, Q (.bool b) { s with toks := tk }) :
    wpAny (model X.prog X.w) A (call (.builtin "isinstance") [u, c]) Q E s := by
  cases ty with
  | non => cases (show u = Value.none from rx); exact PySem.W.kia_one PySem.W.kitx_none I.kIn True.intro e (fun z => nomatch z) h
  | bl y => cases (show u = Value.bool y from rx); exact PySem.W.kia_one PySem.W.kitx_bool I.kIn True.intro e (fun z => nomatch z) h
  | int i => obtain ⟨t, q⟩ := (show ∃ t, u = Value.int i t from rx); cases q; exact PySem.W.kia_one PySem.W.kitx_int I.kIn True.intro e (fun z => nomatch z) h
  | str y => obtain ⟨t, q⟩ := (show ∃ t, u = Value.str y t from rx); cases q; exact PySem.W.kia_one PySem.W.kitx_str I.kIn True.intro e (fun z => nomatch z) h
  | flt y => obtain ⟨t, q⟩ := (show ∃ t, u = Value.float y t from rx); cases q; exact PySem.W.kia_one PySem.W.kitx_float I.kIn True.intro e (fun z => nomatch z) h
  | @lst a xs ea =>
    cases (show u = Value.ref a from rx)
    obtain ⟨_, _, n, _, h1⟩ := (show ObjOk X.prog X.w H s.heap a (.lst xs) from I.hok a _ ea)
    exact PySem.W.kia_one PySem.W.kitx_list I.kIn ⟨_, h1, rfl⟩ e (fun z => nomatch z) h
  | @frz a ob xs ea =>
    cases (show u = Value.ref a from rx)
    obtain ⟨_, _, _, n, _, h1⟩ := (show ObjOk X.prog X.w H s.heap a (.frz ob (.lst xs)) from I.hok a _ ea)
    exact PySem.W.kia_one PySem.W.kitx_list I.kIn ⟨_, h1, rfl⟩ e (fun z => nomatch z) h
  | @tup a xs ea =>
    cases (show u = Value.ref a from rx)
    obtain ⟨_, _, _, p⟩ := (show ObjOk X.prog X.w H s.heap a (.tup xs) from I.hok a _ ea)
    obtain ⟨o, h1, h2, _⟩ := p
    exact PySem.W.kia_one PySem.W.kitx_tuple I.kIn ⟨o, h1, h2⟩ e (fun z => nomatch z) h
  | @dK a kvs ea =>
    cases (show u = Value.ref a from rx)
    obtain ⟨_, _, vs, _, p⟩ := (show ObjOk X.prog X.w H s.heap a (.dK kvs) from I.hok a _ ea)
    obtain ⟨o, es, ep, h1, h2, _⟩ := p
    exact PySem.W.kia_one PySem.W.kitx_dict I.kIn ⟨o, h1, h2.1⟩ e (fun z => nomatch z) h
  | @dT a kvs ea =>
    cases (show u = Value.ref a from rx)
    obtain ⟨_, _, xs, _, o, es, ep, h1, h2, _⟩ := (show ObjOk X.prog X.w H s.heap a (.dT kvs) from I.hok a _ ea)
    exact PySem.W.kia_one PySem.W.kitx_dict I.kIn ⟨o, h1, h2.1⟩ e (fun z => nomatch z) h
  | @ins a C dx fs ea cl ha hn htk hm =>
    cases (show u = Value.ref a from rx)
    obtain ⟨mA, O, _⟩ := ins_get I.hok ea
    obtain ⟨od, J, _⟩ := O.look
    exact PySem.W.kia_one (PySem.W.kitx_own (cl.get _) cl.hd ha hn htk hm) I.kIn J e (fun z => nomatch z) h
end
end L2
namespace L2
open PySem PySem.Spec PyProof.Rows
structure Room (k : Nat) (A : Around) : Prop where
  hd : A.handled = none
  dp : A.depth + 3 * k + 5 < recursionLimit
  un : A.units + 16 * k + 200 < cLine
  gd : A.guards = some []
theorem Room.mono {j k : Nat} {A : Around} (r : Room k A) (h : j ≤ k) : Room j A := ⟨r.hd, by have := r.dp; omega, by have := r.un; omega, r.gd⟩
theorem Room.deeper {k : Nat} {A : Around} (r : Room (k + 1) A) (env : Env) : Room k (A.deeper env) :=
  ⟨r.hd, by have := r.dp; show A.depth + 1 + 3 * k + 5 < _; omega, by have := r.un; show A.units + 3 + 16 * k + 200 < _; omega, r.gd⟩
theorem Room.in1 {k : Nat} {A : Around} (r : Room (k + 1) A) : Room k A.in1 :=
  ⟨r.hd, by have := r.dp; show A.depth + 3 * k + 5 < _; omega, by have := r.un; show A.units + 1 + 16 * k + 200 < _; omega, r.gd⟩
theorem Room.depth {k : Nat} {A : Around} (r : Room k A) : A.depth < recursionLimit := by have := r.dp; omega
theorem Room.units {k : Nat} {A : Around} (r : Room k A) : A.units + 64 < cLine := by have := r.un; omega
theorem Room.units0 {k : Nat} {A : Around} (r : Room k A) : A.units < cLine := by have := r.un; omega


def tNil : TA := fun _ H Q => Q [] H
def tCons (ta : TE) (tr : TA) : TA := fun σ H Q => ta σ H fun x H1 => tr σ H1 fun xs H2 => Q (x :: xs) H2
section
variable {X : Cx} {e : Expr} {es : List Expr} {te : TE} {t : TA} {pos : Pos}
theorem pa_nil : PA X [] tNil := fun _ _ _ _ H Q I h => Calls.spliced_nil ⟨[], H, I, .nil, h⟩
theorem pa_cons (ha : PE X e te) (hr : PA X es t) (hs : starEach (e :: es) X.env = (false, eval e X.env) :: starEach es X.env := by rfl) : PA X (e :: es) (tCons te t) := by
  intro pos pins s σ H Q I h
  rw [hs]
  show wpAny _ _ (spliced ((false, eval e X.env) :: backTo pos (starEach es X.env))) _ _ s
  refine Calls.spliced_cons (thn (ha pins s σ H _ I h) fun u s1 ⟨x, H1, I1, r1, q1⟩ => ?_)
  exact thn (hr pos pins s1 σ H1 _ I1 q1) fun us s2 ⟨xs, H2, I2, r2, q2⟩ => ⟨x :: xs, H2, I2, .cons r1 r2, q2⟩


def tTup (t : TA) : TE := fun σ H Q => t σ H fun xs H1 => xs.length ≤ sizeLine ∧ ∀ p, H1 p = none → Q (.ref p) (upd H1 p (.tup xs))
def tLst (t : TA) : TE := fun σ H Q => t σ H fun xs H1 => xs.length ≤ sizeLine ∧ ∀ p, H1 p = none → Q (.ref p) (upd H1 p (.lst xs))
theorem pe_tup {x1} (h : PA X es t) : PE X (.Tuple es x1 pos) (tTup t) := by
  intro pins s σ H Q I hq
  refine wpAny_Tuple_spliced (thn (h pos pins s σ H _ I hq) fun us s1 ⟨xs, H1, I1, r, z, q⟩ => ⟨by rw [← r.length]; exact z, ?_⟩)
  have hf : H1 s1.heap.objs.size = none := I1.hok.fresh (Nat.le_refl _)
  refine ⟨.ref s1.heap.objs.size, upd H1 s1.heap.objs.size (.tup xs), I1.laid (t' := s1.toks) (fun b u e => Heap.get?_push_of_some _ e) (Nat.le_refl _) ?_, rfl, q _ hf⟩
  exact ⟨z, us, r, ⟨_, Heap.get?_push_size _ rfl, rfl, _, rfl⟩⟩
theorem pe_lst (h : PA X es t) : PE X (.List es pos) (tLst t) := by
  intro pins s σ H Q I hq
  refine wpAny_List_spliced (thn (h pos pins s σ H _ I hq) fun us s1 ⟨xs, H1, I1, r, z, q⟩ => ⟨by rw [← r.length]; exact z, ?_⟩)
  have hf : H1 s1.heap.objs.size = none := I1.hok.fresh (Nat.le_refl _)
  refine ⟨.ref s1.heap.objs.size, upd H1 s1.heap.objs.size (.lst xs), I1.laid (t' := s1.toks) (fun b u e => Heap.get?_push_of_some _ e) (Nat.le_refl _) ?_, rfl, q _ hf⟩
  exact ⟨z, us, 0, r, Heap.get?_push_size _ rfl⟩
end
abbrev Sp := List V → Hp → VK → XK → Prop

abbrev CXT := List Env → Hp → Shared → XK → Value → Shared → Prop


structure Env0 (P : Program) (w : World) (K : PySem.W.Frag) (mg : Str → Option Value) (base : Heap) (A : Around) (outer : List Env) (s : Shared) (H : Hp) : Prop where
  frames : A.frames = some outer
  mod : Mod K mg base
  bs : ∀ b o, base.get? b = some o → s.heap.get? b = some o ∧ H b = none
  bsz : base.objs.size ≤ s.heap.objs.size
  funs : s.heap.FunFrames base outer
  frf : ∀ b ∈ frs outer, H b = none
  hok : HOk P w H s.heap
  bare : AllBare s.gens

def CE (outer : List Env) (P : Program) (w : World) (H : Hp) (s : Shared) (Q : VK) (u : Value) (s' : Shared) : Prop :=
  ∃ v H', s'.os = s.os ∧ AllBare s'.gens ∧ Un (frs outer) [] H H' s.heap s'.heap ∧ HOk P w H' s'.heap ∧ RelV v u ∧ Q v H'
def CR (CX : CXT) (outer : List Env) (P : Program) (w : World) (H : Hp) (s : Shared) (Q : VK) (E : XK) (r : Result) (s' : Shared) : Prop :=
  match r with
  | .ok (.ret u) => CE outer P w H s Q u s'
  | .ok _ => False
  | .error e => CX outer H s E e s'
structure FnOk (P : Program) (w : World) (K : PySem.W.Frag) (mg : Str → Option Value) (base : Heap) (CX : CXT) (k : Nat) (f : Addr) (fd : FuncData) (ps : List Str) (sp : Sp) : Prop where
  len : ∀ vs H Q E, sp vs H Q E → vs.length = ps.length
  run : ∀ (A : Around) (outer : List Env) (s : Shared) (H : Hp) (args : Args) (us : List Value) (vs : List V) (Q : VK) (E : XK), Room k A → Env0 P w K mg base A outer s H → BindsTo s fd args (ps.zip us) → Vals vs us → sp vs H Q E →
    codeAny (model P w) A (.call (.ref f) args) (CR CX outer P w H s Q E) s
theorem FnOk.mono {P : Program} {w : World} {K : PySem.W.Frag} {mg : Str → Option Value} {base : Heap} {CX : CXT} {j k : Nat} {f : Addr} {fd : FuncData} {ps : List Str} {sp : Sp} (F : FnOk P w K mg base CX j f fd ps sp) (h : j ≤ k) :
    FnOk P w K mg base CX k f fd ps sp := ⟨F.len, fun A outer s H args us vs Q E hr => F.run A outer s H args us vs Q E (hr.mono h)⟩

theorem FnOk.imp {P : Program} {w : World} {K : PySem.W.Frag} {mg : Str → Option Value} {base : Heap} {CX : CXT} {k : Nat} {f : Addr} {fd : FuncData} {ps : List Str} {sp sp' : Sp} (F : FnOk P w K mg base CX k f fd ps sp)
    (h : ∀ vs H Q E, sp' vs H Q E → sp vs H Q E) : FnOk P w K mg base CX k f fd ps sp' :=
  ⟨fun vs H Q E q => F.len vs H Q E (h _ _ _ _ q), fun A outer s H args us vs Q E hr he hb hv hs => F.run A outer s H args us vs Q E hr he hb hv (h _ _ _ _ hs)⟩

theorem Env0.in1 {P : Program} {w : World} {K : PySem.W.Frag} {mg : Str → Option Value} {base : Heap} {A : Around} {outer : List Env} {s : Shared} {H : Hp} (e : Env0 P w K mg base A outer s H) :
    Env0 P w K mg base A.in1 outer s H := ⟨e.frames, e.mod, e.bs, e.bsz, e.funs, e.frf, e.hok, e.bare⟩

section
variable {X : Cx} {pins : List (Addr × Obj)} {σ : St} {H : Hp} {s s' : Shared}
theorem Inv.env0 (I : Inv X pins σ H s) : Env0 X.prog X.w X.K X.mg X.base X.A X.stack s H :=
  ⟨I.ok.frames, I.ok.mod, I.bs, Nat.le_trans I.ok.bsz I.sz, I.stack, I.stkFree, I.hok, I.bare⟩

theorem Inv.after {Q : VK} {u : Value} (I : Inv X pins σ H s) (h : CE X.stack X.prog X.w H s Q u s') : EP X pins σ Q u s' := by
  obtain ⟨v, H', os, bare, un, hok, r, q⟩ := h
  obtain ⟨hh, g, d, t, os'⟩ := s'
  obtain rfl : os' = s.os := os
  exact ⟨v, H', I.call (h' := hh) (g' := g) (d' := d) (t' := t) (ch := []) un hok bare (fun b z => absurd z (by simp)), r, q⟩
end
def tCall (sp : Sp) (dvs : List V) (E : XK) (t : TA) : TE := fun σ H Q => t σ H fun vs H1 => sp (vs ++ dvs) H1 Q E

def Binds (K : PySem.W.Frag) (fd : FuncData) (ps : List Str) (ds : List Value) : Prop :=
  ∀ (s : Shared) (us : List Value), K.In s.heap → (us ++ ds).length = ps.length → BindsTo s fd ⟨us, []⟩ (ps.zip (us ++ ds))

theorem Binds.all {K : PySem.W.Frag} {fd : FuncData} {ps : List Str} (h : ∀ us : List Value, us.length = ps.length → bindArgs fd ⟨us, []⟩ = pure (ps.zip us)) : Binds K fd ps [] := fun s us _ hl => by
  rw [List.append_nil] at hl ⊢
  exact .of_eq (h us hl)


def Passes (CX : CXT) (X : Cx) (E : XK) : Prop := ∀ (pins : List (Addr × Obj)) (σ : St) (H : Hp) (s : Shared) (e : Value) (s' : Shared), Inv X pins σ H s → CX X.stack H s E e s' → X.xe e s'

section
variable {X : Cx} {CX : CXT} {k : Nat} {f C : Addr} {fd : FuncData} {ps : List Str} {sp : Sp} {dvs : List V} {ds : List Value} {E : XK} {x m : Str} {p pos apos : Pos} {e o : Expr} {es : List Expr} {ta : TE} {t : TA}
theorem run_fn {pins : List (Addr × Obj)} {σ : St} {H : Hp} {s : Shared} {Q : VK} {us : List Value} {vs : List V} (F : FnOk X.prog X.w X.K X.mg X.base CX k f fd ps sp) (hr : Room k X.A) (hb : Binds X.K fd ps ds) (hd : Vals dvs ds) (hx : Passes CX X E)
    (I : Inv X pins σ H s) (r : Vals vs us) (h : sp (vs ++ dvs) H Q E) : wpAny (model X.prog X.w) X.A (call (.ref f) us) (EP X pins σ Q) X.xe s := by
  have r2 : Vals (vs ++ dvs) (us ++ ds) := r.append hd
  have hl : (us ++ ds).length = ps.length := by rw [← r2.length]; exact F.len _ _ _ _ h
  refine wpAny_call (codeAny_mono (F.run X.A X.stack s H ⟨us, []⟩ (us ++ ds) (vs ++ dvs) Q E hr I.env0 (hb s us I.kIn hl) r2 h) fun r s' hq => ?_)
  cases r with
  | error e => exact hx pins σ H s e s' I hq
  | ok fl =>
    cases fl with
    | ret u => exact I.after hq
    | next => exact False.elim hq
    | brk => exact False.elim hq
    | cont => exact False.elim hq

theorem pe_call (F : FnOk X.prog X.w X.K X.mg X.base CX k f fd ps sp) (hr : Room k X.A) (hg : Gl X x) (hm : X.mg x = some (.ref f)) (hk : PySem.W.keepIn X.K (.ref f) = true) (hb : Binds X.K fd ps ds) (hd : Vals dvs ds) (hx : Passes CX X E)
    (ha : PA X (e :: es) t) (hdb : (x == ("__debug__" : Str)) = false := by decide) (he : starEach (e :: es) X.env = (false, eval e X.env) :: starEach es X.env := by rfl) (hpl : (backTo pos (starEach es X.env)).any (·.1) = false := by rfl) :
    PE X (.Call (.Name x p) (e :: es) [] pos) (tCall sp dvs E t) := by
  intro pins s σ H Q I h
  refine wpAny_Call_Name_kw (ld_glob I hg hm ?_ hdb)
  refine PySem.W.callWith_K (h₀ := X.base) I.ok.mod.kin hk (thn (ha pos pins s σ H _ I h) fun us s1 ⟨vs, H1, I1, r, q⟩ => ⟨I1.kIn, ?_⟩) he hpl
  exact run_fn F hr hb hd hx I1 r q
end
section
variable {X : Cx} {CX : CXT} {k : Nat} {f C : Addr} {fd : FuncData} {ps ks : List Str} {sp : Sp} {E : XK} {x m : Str} {p pos apos kpos : Pos} {e o : Expr} {es : List Expr} {kws : List Keyword} {te ta : TE} {t tk : TA} {nm : Option Str}
variable {g : List Value → List Value → List Value} {gV : List V → List V → List V}
end
structure FnScope (N P : List Str) (sc : Scope) : Prop where
  kind : sc.kind = .function
  co : sc.isCoroutine = false
  gen : sc.isGenerator = false
  nd : N.Nodup
  pre : N.take P.length = P
  par : ∀ x ∈ P, sc.names.lookup x = some .local ∨ sc.names.lookup x = some .cell
  nofree : ∀ y ∈ sc.names, y.2 ≠ .free

theorem bindL_out {kindOf : Str → Option NameKind} {x : Str} : ∀ {binds : List (Str × Value)} {m : Str → Option Value}, (∀ v, (x, v) ∉ binds) → bindL kindOf binds m x = m x
  | [], _, _ => rfl
  | (n, v) :: r, m, h => by
    unfold bindL
    rw [bindL_out fun w hw => h w (List.mem_cons_of_mem _ hw)]
    split
    · have : x ≠ n := by rintro rfl; exact h v List.mem_cons_self
      simp [this]
    · rfl
theorem bindC_out {kindOf : Str → Option NameKind} {x : Str} : ∀ {binds : List (Str × Value)} {m : Str → Option Value}, (∀ v, (x, v) ∉ binds) → bindC kindOf binds m x = m x
  | [], _, _ => rfl
  | (n, v) :: r, m, h => by
    unfold bindC
    rw [bindC_out fun w hw => h w (List.mem_cons_of_mem _ hw)]
    split
    · rfl
    · have : x ≠ n := by rintro rfl; exact h v List.mem_cons_self
      simp [this]
theorem bindL_get {kindOf : Str → Option NameKind} {x : Str} {v : Value} : ∀ {P : List Str} {vs : List Value} {i : Nat} {m : Str → Option Value}, P.Nodup → P[i]? = some x → vs[i]? = some v → kindOf x = some .local →
    bindL kindOf (P.zip vs) m x = some v
  | [], _, _, _, _, h, _, _ => by simp at h
  | _ :: _, [], _, _, _, _, h, _ => by simp at h
  | p :: P, w :: vs, 0, m, nd, h1, h2, hk => by
    simp at h1 h2; subst h1; subst h2
    show bindL kindOf ((p, w) :: P.zip vs) m p = _
    unfold bindL
    rw [bindL_out fun v hv => (List.nodup_cons.mp nd).1 (List.of_mem_zip hv).1, if_pos hk]
    simp
  | p :: P, w :: vs, i + 1, m, nd, h1, h2, hk => by
    show bindL kindOf ((p, w) :: P.zip vs) m x = _
    unfold bindL
    exact bindL_get (i := i) (List.nodup_cons.mp nd).2 (by simpa using h1) (by simpa using h2) hk
theorem bindC_get {kindOf : Str → Option NameKind} {x : Str} {v : Value} : ∀ {P : List Str} {vs : List Value} {i : Nat} {m : Str → Option Value}, P.Nodup → P[i]? = some x → vs[i]? = some v → kindOf x ≠ some .local →
    bindC kindOf (P.zip vs) m x = some v
  | [], _, _, _, _, h, _, _ => by simp at h
  | _ :: _, [], _, _, _, _, h, _ => by simp at h
  | p :: P, w :: vs, 0, m, nd, h1, h2, hk => by
    simp at h1 h2; subst h1; subst h2
    show bindC kindOf ((p, w) :: P.zip vs) m p = _
    unfold bindC
    rw [bindC_out fun v hv => (List.nodup_cons.mp nd).1 (List.of_mem_zip hv).1, if_neg hk]
    simp
  | p :: P, w :: vs, i + 1, m, nd, h1, h2, hk => by
    show bindC kindOf ((p, w) :: P.zip vs) m x = _
    unfold bindC
    exact bindC_get (i := i) (List.nodup_cons.mp nd).2 (by simpa using h1) (by simpa using h2) hk


def start (N : List Str) (vs : List V) : St := vs.map some ++ List.replicate (N.length - vs.length) none


def cxOf (CX : CXT) (P : Program) (w : World) (K : PySem.W.Frag) (mg : Str → Option Value) (base : Heap) (N : List Str) (qual : Str) (scope : Scope) (f : Addr) (cd : Value) (A : Around) (outer : List Env) (s : Shared) (H : Hp) (E : XK) : Cx where
  prog := P
  w := w
  K := K
  mg := mg
  base := base
  A := A.deeper (envOfC qual scope s.heap.objs.size f cd)
  N := N
  s_0 := s
  H_0 := H
  env := envOfC qual scope s.heap.objs.size f cd
  outer := outer
  stack := envOfC qual scope s.heap.objs.size f cd :: outer
  ex := []
  calm := true
  fn := fun _ => true
  pn := []
  xe := fun e s' => wpAny (model P w) (A.deeper (envOfC qual scope s.heap.objs.size f cd)) (leaving (envOfC qual scope s.heap.objs.size f cd) e) (fun _ s'' => CX outer H s E e s'') (fun e' s'' => CX outer H s E e' s'') s'

theorem cell_has {sc : Scope} {n : Nat} {x : Str} (h : sc.names.lookup x = some .cell) : ∃ c, (cellsFrom n sc.names []).lookup x = some c := by
  have q := PySem.W.cellsFrom_some sc.names n [] (.inl h)
  exact Option.isSome_iff_exists.mp q

theorem inv_start {CX : CXT} {P : Program} {w : World} {K : PySem.W.Frag} {mg : Str → Option Value} {base : Heap} {N ps : List Str} {qual : Str} {scope : Scope} {f : Addr} {cd : Value} {A : Around} {outer : List Env} {s s1 : Shared} {H : Hp} {E : XK} {us : List Value} {vs : List V}
    (S : FnScope N ps scope) (hd : A.handled = none) (e0 : Env0 P w K mg base A outer s H) (hl : vs.length = ps.length) (r : Vals vs us)
    (x : InCallC s s.heap.objs.size (bindL (envOfC qual scope s.heap.objs.size f cd).kindOf (ps.zip us) fun _ => none) (cellsFrom (s.heap.objs.size + 1) scope.names []) (bindC (envOfC qual scope s.heap.objs.size f cd).kindOf (ps.zip us) fun _ => none) s1) :
    Inv (cxOf CX P w K mg base N qual scope f cd A outer s H E) [] (start N vs) H s1 := by
  have hpl : ps.length ≤ N.length := by have := congrArg List.length S.pre; rw [List.length_take] at this; omega
  obtain ⟨h1, tk, rfl, hk⟩ := x.done
  have noA : ∀ b : Addr, b ∉ (cxOf CX P w K mg base N qual scope f cd A outer s H E).ex := fun b z => absurd (show b ∈ ([] : List Addr) from z) (by simp)
  refine ⟨⟨e0.mod, S.kind, rfl, rfl, Nat.le_refl _, fun y z c h1 h2 => ?_, fun y hy => ?_, fun y c _ h => ?_, fun _ => hd, Around.frames_deeper e0.frames, .inr ⟨rfl, rfl⟩, fun b z => absurd z (noA b), e0.bs, e0.bsz, fun b _ _ => noA b, fun b z => absurd z (noA b), e0.funs, e0.frf⟩,
    rfl, e0.bare, Un.kept hk, ⟨_, x.toInCall.ns, fun i y v h1 h2 h3 => ?_⟩, fun y c h => ⟨_, x.cell y c h⟩, e0.hok.fresh (Nat.le_refl _), fun y c h => ?_, fun p hp => absurd (show p ∈ ([] : List (Addr × Obj)) from hp) (by simp), e0.hok.kept hk, ?_⟩
  · exact name_of_addr x.apart (PySem.mem_of_lookup h1) (PySem.mem_of_lookup h2)
  · have hy : scope.names.lookup y = some .cell ∨ scope.names.lookup y = some .free := hy
    rcases hy with hy | hy
    · exact cell_has hy
    · exact absurd rfl (S.nofree _ (PySem.mem_of_lookup hy))
  · exact Nat.le_of_lt (x.above y c (PySem.mem_of_lookup h))
  · have hi : i < vs.length := by
      unfold start at h2
      by_cases hi : i < vs.length
      · exact hi
      · rw [List.getElem?_append_right (by simpa using hi)] at h2
        rw [List.getElem?_replicate] at h2
        split at h2 <;> cases h2
    have ha : vs[i]? = some v := by
      unfold start at h2
      rw [List.getElem?_append_left (by simpa using hi), List.getElem?_map] at h2
      cases e : vs[i]? with
      | none => rw [e] at h2; cases h2
      | some a => rw [e] at h2; cases h2; rfl
    obtain ⟨u, hu, rv⟩ := r.get ha
    have hp : ps[i]? = some y := by
      rw [← S.pre, List.getElem?_take_of_lt (by omega)]; exact h1
    have ndP : ps.Nodup := by rw [← S.pre]; exact S.nd.sublist (List.take_sublist _ _)
    refine ⟨u, rv, ?_⟩
    rcases S.par y (List.mem_of_getElem? hp) with k | k
    · exact .inl ⟨k, bindL_get ndP hp hu k⟩
    · obtain ⟨c, e⟩ := cell_has (n := s.heap.objs.size + 1) k
      refine .inr ⟨.inl k, c, e, ?_⟩
      have q := x.cell y c e
      rw [bindC_get ndP hp hu (by show scope.names.lookup y ≠ _; rw [k]; decide)] at q
      exact q
  · exact e0.hok.fresh (Nat.le_of_lt (x.above y c (PySem.mem_of_lookup h)))
  · unfold start
    show _ = N.length
    rw [List.length_append, List.length_map, List.length_replicate]
    omega


theorem fn_of {CX : CXT} {P : Program} {w : World} {K : PySem.W.Frag} {mg : Str → Option Value} {base : Heap} {k : Nat} {f : Addr} {name qual : Str} {params : Arguments} {body : List Stmt} {scope : Scope} {dV kV doc pm cdv ct oc : Value} {an od : Option Addr}
    {osl : Array (Option Value)} {N ps : List Str} {sp : Sp} (lk : K.lookup f = some ⟨oc, od, .func (PySem.W.fnOf name qual params body scope dV kV doc pm an cdv ct), osl⟩) (hcd : PySem.W.codeIn K cdv qual = true) (S : FnScope N ps scope)
    (len : ∀ vs H Q E, sp vs H Q E → vs.length = ps.length)
    (hbody : ∀ (A : Around) (outer : List Env) (s : Shared) (H : Hp) (vs : List V) (Q : VK) (E : XK), Room k (A.deeper (envOfC qual scope s.heap.objs.size f cdv)) → sp vs H Q E →
      ∃ t, PSs (cxOf CX P w K mg base N qual scope f cdv A outer s H E) body t ∧ t { nx := fun _ H' => Q .non H', rt := Q } (start N vs) H) :
    FnOk P w K mg base CX (k + 1) f (PySem.W.fnOf name qual params body scope dV kV doc pm an cdv ct) ps sp := by
  refine ⟨len, fun A outer s H args us vs Q E hr e0 hb r hsp => ?_⟩
  have hl := len _ _ _ _ hsp
  have KX : K.In s.heap := e0.mod.kin.keeps fun b o e => (e0.bs b o e).1
  have lim : s.heap.NoLimit := e0.mod.nolimit.keeps fun b o e => (e0.bs b o e).1
  have hkind : ∀ y ∈ ps.zip us, scope.names.lookup y.1 = some .local ∨ (scope.names.lookup y.1 = some .cell ∧ ((cellsFrom (s.heap.objs.size + 1) scope.names []).lookup y.1).isSome = true) := fun ⟨n, v⟩ hy => by
    rcases S.par n (List.of_mem_zip hy).1 with q | q
    · exact .inl q
    · exact .inr ⟨q, PySem.W.cellsFrom_some _ _ _ (.inl q)⟩
  refine codeAny_call_function hr.depth (KX _ _ lk) rfl S.co S.gen rfl (PySem.W.codeRec_of KX hcd) (hb _ _ _ _ ?_)
  refine wpAny_newFunctionEnv_cells S.kind hkind fun env he s1 x => ?_
  subst he
  refine ⟨lim.keeps x.toInCall.keep, codeAny_func ?_⟩
  obtain ⟨t, ht, hq⟩ := hbody A outer s H vs Q E (hr.deeper _) hsp
  have I : Inv (cxOf CX P w K mg base N qual scope f cdv A outer s H E) [] (start N vs) H s1 := inv_start S hr.hd e0 hl r x
  refine wpAny_mono (ht [] s1 (start N vs) H _ I hq) (fun fl s' hs => ?_) fun e s' hs => hs
  have fin : ∀ {σ' : St} {H' : Hp} {v : V} {u : Value}, Inv (cxOf CX P w K mg base N qual scope f cdv A outer s H E) [] σ' H' s' → RelV v u → Q v H' → CE outer P w H s Q u s' :=
    fun {σ' H' v u} J rv q => ⟨v, H', J.os, J.bare, J.base, J.hok, rv, q⟩
  cases fl with
  | ret u =>
    obtain ⟨v, σ', H', J, rv, q⟩ := hs
    exact fin J rv q
  | next =>
    obtain ⟨σ', H', J, q⟩ := hs
    exact fin (v := V.non) (u := Value.none) J rfl q
  | brk =>
    obtain ⟨_, _, _, q⟩ := hs
    exact False.elim q
  | cont =>
    obtain ⟨_, _, _, q⟩ := hs
    exact False.elim q
end L2
namespace L2
open PySem PySem.Spec PyProof.Rows
section
variable {X : Cx} {x : Str} {p pos : Pos} {e : Expr} {es : List Expr} {t : TA} {id T : String} {r : List V → Hp → VK → Prop}
def tCB (r : List V → Hp → VK → Prop) (t : TA) : TE := fun σ H Q => t σ H fun vs H1 => r vs H1 Q

theorem pe_callB (hc : CallR X (.builtin id) r) (hg : Gl X x) (hm : X.mg x = none) (hv : bootBuiltins x = some (.builtin id)) (ha : PA X (e :: es) t) (hn : x ≠ "__name__" := by decide) (hdb : (x == ("__debug__" : Str)) = false := by decide)
    (he : starEach (e :: es) X.env = (false, eval e X.env) :: starEach es X.env := by rfl) (hpl : (backTo pos (starEach es X.env)).any (·.1) = false := by rfl) : PE X (.Call (.Name x p) (e :: es) [] pos) (tCB r t) := by
  intro pins s σ H Q I h
  refine wpAny_Call_Name_kw (ld_blt I hg hm hv ?_ hn hdb)
  exact PyProof.Rows.callWith_builtin1 (thn (ha pos pins s σ H _ I h) fun us s1 ⟨vs, H1, I1, r1, q1⟩ => hc pins s1 σ H1 vs us Q I1 r1 q1) he hpl

end
end L2
namespace HT
open PySem PyProof.Rows
def lexLt : List Int → List Int → Bool
  | [], [] => false
  | [], _ :: _ => true
  | _ :: _, [] => false
  | x :: xs, y :: ys => if x = y then lexLt xs ys else decide (x < y)
theorem lexLt_cons (x y : Int) (xs ys : List Int) : lexLt (x :: xs) (y :: ys) = if x = y then lexLt xs ys else decide (x < y) := rfl
theorem lexLt_nil_nil : lexLt [] [] = false := rfl
theorem lexLt_nil_cons (y : Int) (ys : List Int) : lexLt [] (y :: ys) = true := rfl
theorem lexLt_cons_nil (x : Int) (xs : List Int) : lexLt (x :: xs) [] = false := rfl

theorem eqAt_int (A : Around) (s : Shared) (a : Int) (t : Tok) (c : Int) (u : Tok) : ∃ e, SeqAt.EqAt A s (.int a t) (.int c u) e ∧ (e = true ↔ a = c) :=
  ⟨(a == c), SeqAt.EqAt.int_int a t c u, by simp⟩
theorem rcLt_int (A : Around) (s : Shared) (a : Int) (t : Tok) (c : Int) (u : Tok) (prog : Program) (w : World) (E : Value → Shared → Prop) (Q : Value → Shared → Prop) (h : Q (.bool (decide (a < c))) s) :
    wpAny (model prog w) A (richCompare .Lt (.int a t) (.int c u)) Q E s :=
  (PyProof.Rows.lt_int h : wpAny (model prog w) A (compareOp .Lt (.int a t) (.int c u)) Q E s)

section
open PySem.SeqAt
open PySem.AutoSeq1 (wpAny_loadPart')
open PySem.MeetsSeq PySem.MeetsSeq2 PySem.MeetsSeq3
theorem tuple_lt_ints (l b : Addr) (items items2 : Array Value) (n n2 : Nat) (dd dd2 : Option Addr) (sl sl2 : Array (Option Value)) (ns ms : List Int) (hi : IntsAre items.toList ns) (hj : IntsAre items2.toList ms) :
    Meets (Builtin.«tuple.__lt__» ⟨[.ref l, .ref b], []⟩)
      (fun _ R s => s.heap.get? l = some { cls := .type "tuple", dict := dd, data := .seq items n, slots := sl } ∧ s.heap.get? b = some { cls := .type "tuple", dict := dd2, data := .seq items2 n2, slots := sl2 } ∧
        R (.ok (.ret (.bool (lexLt ns ms)))) s) :=
  .of_wp fun prog w A R s h => by
    obtain ⟨hp, g, d, tk, os⟩ := s; obtain ⟨hl, hb, h⟩ := h
    have f2 := AutoSeq1.sub_tuple_tuple
    have z1 : items.size = ns.length := by rw [← hi.length]; simp
    have z2 : items2.size = ms.length := by rw [← hj.length]; simp
    wp_walk using wpAny_loadPart' hl, wpAny_loadPart' hb, wpAny_forIn_list _ (fun rest b s' => b.1 = none ∧ s' = ⟨hp, g, d, tk, os⟩ ∧ ∃ (vs ws : List Value) (ns' ms' : List Int), rest = vs.zip ws ∧
      IntsAre vs ns' ∧ IntsAre ws ms' ∧ ns'.length + items2.size = ms'.length + items.size ∧ R (.ok (.ret (.bool (lexLt ns' ms')))) ⟨hp, g, d, tk, os⟩) _
    case turn =>
      rintro ⟨y, x⟩ rest b s' ⟨hb', rfl, vs, ws, ns', ms', hz, hvi, hwi, hlen, hR⟩
      cases hvi with
      | nil => rw [List.zip_nil_left] at hz; cases hz
      | cons a t hvi' =>
        cases hwi with
        | nil => rw [List.zip_nil_right] at hz; cases hz
        | cons c u hwi' =>
          rw [List.zip_cons_cons] at hz
          injection hz with hyx hrest
          injection hyx with hy hx
          subst hy hx
          rw [lexLt_cons] at hR
          simp only [List.length_cons] at hlen
          obtain ⟨e, he, hiff⟩ := eqAt_int A.in1 ⟨hp, g, d, tk, os⟩ a t c u
          refine wpAny_bind (he prog w _ _ ?_)
          cases e with
          | true =>
            rw [if_pos (hiff.mp rfl)] at hR
            wp_walk
            exact ⟨rfl, rfl, _, _, _, _, hrest, hvi', hwi', by omega, hR⟩
          | false =>
            rw [if_neg (fun q => absurd (hiff.mpr q) Bool.false_ne_true)] at hR
            have hri := rcLt_int A.in1 ⟨hp, g, d, tk, os⟩ a t c u prog w
            wp_walk using hri
            exact ⟨_, rfl, by simpa using hR⟩
    case fin =>
      rintro ⟨b1, b2⟩ s' ⟨hb', rfl, vs, ws, ns', ms', hz, hvi, hwi, hlen, hR⟩
      simp only at hb'
      subst hb'
      have hv : lexLt ns' ms' = decide (items.size < items2.size) := by
        cases hvi with
        | nil =>
          cases hwi with
          | nil =>
            simp only [List.length_nil] at hlen
            rw [lexLt_nil_nil]
            exact (decide_eq_false (by omega)).symm
          | cons c u hw =>
            simp only [List.length_nil, List.length_cons] at hlen
            rw [lexLt_nil_cons]
            exact (decide_eq_true (by omega)).symm
        | cons a t hv =>
          cases hwi with
          | nil =>
            simp only [List.length_nil, List.length_cons] at hlen
            rw [lexLt_cons_nil]
            exact (decide_eq_false (by omega)).symm
          | cons c u hw =>
            rw [List.zip_cons_cons] at hz
            cases hz
      rw [hv] at hR
      wp_walk
      exact ⟨_, rfl, by simpa [Builtin.Tuple.tupleCompareSizes] using hR⟩
    case h =>
      exact ⟨rfl, rfl, items.toList, items2.toList, ns, ms, rfl, hi, hj, by omega, h⟩
end
section
variable {prog : Program} {w : World} {A : Around} {E : Value → Shared → Prop} {s : Shared}
theorem lt_tupInts {l b : Addr} {items items2 : Array Value} {ns ms : List Int} {Q : Value → Shared → Prop} (hl : IsTup s.heap l items) (hb : IsTup s.heap b items2) (hi : IntsAre items.toList ns) (hj : IntsAre items2.toList ms)
    (hu : A.units < cLine) (h : Q (.bool (lexLt ns ms)) s) : wpAny (model prog w) A (compareOp .Lt (.ref l) (.ref b)) Q E s := by
  obtain ⟨⟨cls, dd, data, sl⟩, ho, hc, n, hd⟩ := id hl
  obtain ⟨⟨cls2, dd2, data2, sl2⟩, ho2, hc2, n2, hd2⟩ := id hb
  simp only at hc hd hc2 hd2
  subst hc hd hc2 hd2
  exact richCompare_meets_room (op := .Lt) ⟨_, ho, rfl⟩ ⟨_, ho2, rfl⟩ PySem.F.slot_tuple_lt PySem.F.entry_tuple_lt (PySem.F.args_tuple_lt_2 _ _) (tuple_lt_ints l b items items2 n n2 dd dd2 sl sl2 ns ms hi hj)
    ⟨ho, ho2, show Value.bool (lexLt ns ms) ≠ Value.notImplemented ∧ Q (.bool (lexLt ns ms)) s from ⟨(fun x => nomatch x), h⟩⟩ hu


theorem cat_tup {t b : Addr} {vs ws : List Value} {Q : Value → Shared → Prop} (ht : IsTup s.heap t vs.toArray) (hb : IsTup s.heap b ws.toArray) (hv : vs ≠ [])
    (h1 : ws = [] → Q (.ref t) s) (h2 : ws ≠ [] → Q (.ref s.heap.objs.size) { s with heap := s.heap.push { cls := .type "tuple", data := .seq (vs ++ ws).toArray } })
    (hsz : vs.length + ws.length ≤ sizeLine) : wpAny (model prog w) A (binaryOp .Add (.ref t) (.ref b)) Q E s := by
  obtain ⟨⟨cls, dd, data, sl⟩, ho, hc, n, hd⟩ := id ht
  obtain ⟨⟨cls2, dd2, data2, sl2⟩, ho2, hc2, n2, hd2⟩ := id hb
  simp only at hc hd hc2 hd2
  subst hc hd hc2 hd2
  have e : vs.toArray ++ ws.toArray = (vs ++ ws).toArray := by simp
  by_cases hw : ws = []
  · exact concat_meets ⟨_, ho, rfl⟩ ⟨_, ho2, rfl⟩ noFill_tuple_add seq_tuple_add PySem.F.slot_tuple_add PySem.F.entry_tuple_add (PySem.F.args_tuple_add_2 _ _)
      (tuple_addW1 t b vs.toArray ws.toArray n n2 dd dd2 sl sl2 (by simpa using hv) (by simp [hw])) ⟨ho, ho2, h1 hw⟩
  · refine concat_meets ⟨_, ho, rfl⟩ ⟨_, ho2, rfl⟩ noFill_tuple_add seq_tuple_add PySem.F.slot_tuple_add PySem.F.entry_tuple_add (PySem.F.args_tuple_add_2 _ _)
      (tuple_addW2 t b vs.toArray ws.toArray n n2 dd dd2 sl sl2 (by simpa using hv) (by simpa using hw) (by rw [List.size_toArray, List.size_toArray]; exact hsz)) ⟨ho, ho2, ?_⟩
    rw [e]
    exact h2 hw



def sIx (n d : Nat) : Option Int → Nat
  | none => d
  | some v => if v < 0 then (v + (n : Int)).toNat else min v.toNat n
end
end HT
namespace L2
open PySem PySem.Spec PyProof.Rows
abbrev TO := St → Hp → (Option Int → Hp → Prop) → Prop

theorem intsAre_of {ns : List Int} : ∀ {us : List Value}, Vals (ns.map V.int) us → IntsAre us ns := by
  induction ns with
  | nil => intro us r; rw [List.map_nil] at r; cases r; exact .nil
  | cons n ns ih =>
    intro us r
    rw [List.map_cons] at r
    cases r with
    | cons r1 r2 =>
      obtain ⟨t, e⟩ := r1
      subst e
      exact .cons n t (ih r2)

section
variable {X : Cx} {e : Expr} {te : TE} {lo hi : Option Expr} {tl th : TO} {pos p2 : Pos}
def rLtT (K : PySem.W.Frag) : R2 := fun x y H Q => ∃ a b ns ms, x = .ref a ∧ y = .ref b ∧ SqT K H a (ns.map V.int) ∧ SqT K H b (ms.map V.int) ∧ Q (.bl (HT.lexLt ns ms)) H
theorem op_ltT (hu : X.A.units < cLine) : OpR X (compareOp .Lt) (rLtT X.K) := by
  intro pins s σ H x y v u Q I rx ry h
  obtain ⟨a, b, ns, ms, rfl, rfl, ha, hb, q⟩ := h
  cases rx
  cases ry
  obtain ⟨its, r1, p1, _⟩ := I.tuple ha
  obtain ⟨its2, r2, p2, _⟩ := I.tuple hb
  have i1 : IntsAre its.toArray.toList ns := intsAre_of r1
  have i2 : IntsAre its2.toArray.toList ms := intsAre_of r2
  exact HT.lt_tupInts p1 p2 i1 i2 hu ⟨.bl (HT.lexLt ns ms), H, I, rfl, q⟩

def rCatT (K : PySem.W.Frag) : R2 := fun x y H Q => ∃ a b xs ys, x = .ref a ∧ y = .ref b ∧ SqT K H a xs ∧ SqT K H b ys ∧ xs ≠ [] ∧ xs.length + ys.length ≤ sizeLine ∧
  (ys = [] → Q (.ref a) H) ∧ (ys ≠ [] → ∀ p, H p = none → Q (.ref p) (upd H p (.tup (xs ++ ys))))
theorem Vals.nil_iff {xs : List V} {us : List Value} (r : Vals xs us) : us = [] ↔ xs = [] := by
  cases r with
  | nil => simp
  | cons _ _ => simp
theorem op_catT : OpR X (binaryOp .Add) (rCatT X.K) := by
  intro pins s σ H x y v u Q I rx ry h
  obtain ⟨a, b, xs, ys, rfl, rfl, ha, hb, hx, hz, q1, q2⟩ := h
  cases rx
  cases ry
  obtain ⟨its, r1, p1, _⟩ := I.tuple ha
  obtain ⟨its2, r2, p2, _⟩ := I.tuple hb
  refine HT.cat_tup p1 p2 (fun z => hx (r1.nil_iff.mp z)) (fun z => ⟨.ref a, H, I, rfl, q1 (r2.nil_iff.mp z)⟩) (fun z => ?_) (by rw [← r1.length, ← r2.length]; exact hz)
  refine ⟨.ref s.heap.objs.size, _, I.laid (t' := s.toks) (o := .tup (xs ++ ys)) (fun b ob q => Heap.get?_push_of_some _ q) (Nat.le_refl _) ?_, rfl, q2 (fun w => z (r2.nil_iff.mpr w)) _ (I.hok.fresh (Nat.le_refl _))⟩
  exact ⟨by rw [List.length_append]; exact hz, _, r1.append r2, IsTup.new _ _⟩

end
end L2
namespace L2
open PySem PySem.Spec PyProof.Rows
def ixN (n : Nat) (i : Int) : Option Nat := if 0 ≤ i then (if i < n then some i.toNat else none) else if -(n : Int) ≤ i then some (i + n).toNat else none
def atI {α : Type} (xs : List α) (i : Int) : Option α := (ixN xs.length i).bind fun j => xs[j]?
theorem ixN_seq {n : Nat} {i : Int} {j : Nat} (h : ixN n i = some j) : seqIndex? i n = some j ∧ j < n ∧ -(n : Int) ≤ i ∧ i < n := by
  unfold ixN at h
  by_cases h0 : 0 ≤ i
  · rw [if_pos h0] at h
    by_cases h1 : i < n
    · rw [if_pos h1] at h
      have e : i.toNat = j := Option.some.inj h
      exact ⟨by rw [seqIndex_of h0 h1, e], by omega, by omega, h1⟩
    · rw [if_neg h1] at h; cases h
  · rw [if_neg h0] at h
    by_cases h1 : -(n : Int) ≤ i
    · rw [if_pos h1] at h
      have e : (i + n).toNat = j := Option.some.inj h
      exact ⟨by rw [seqIndex_neg (by omega) h1, e], by omega, h1, by omega⟩
    · rw [if_neg h1] at h; cases h
theorem atI_get {α : Type} {xs : List α} {i : Int} {v : α} (h : atI xs i = some v) : ∃ j, seqIndex? i xs.length = some j ∧ xs[j]? = some v ∧ j < xs.length ∧ -(xs.length : Int) ≤ i ∧ i < xs.length := by
  unfold atI at h
  cases e : ixN xs.length i with
  | none => rw [e] at h; cases h
  | some j =>
    rw [e] at h
    obtain ⟨h1, h2, h3, h4⟩ := ixN_seq e
    exact ⟨j, h1, h, h2, h3, h4⟩
def PlainIx (b : Expr) : Prop := ∀ o i, subscripted b false o i = operate [o, i] (getItem o i)

def IxR (X : Cx) (r : R2) : Prop :=
  ∀ (value slice : Expr) (pins : List (Addr × Obj)) (s : Shared) (σ : St) (H : Hp) (x y : V) (v u : Value) (Q : VK), Inv X pins σ H s → RelV x v → RelV y u → r x y H Q →
    subscripted slice false v u = operate [v, u] (getItem v u) → wpAny (model X.prog X.w) X.A (subscriptTail value slice v u) (EP X pins σ Q) X.xe s

def MtR (X : Cx) (id : String) (r : V → List V → Hp → VK → Prop) : Prop :=
  ∀ (pins : List (Addr × Obj)) (s : Shared) (σ : St) (H : Hp) (x : V) (xs : List V) (v : Value) (us : List Value) (Q : VK), Inv X pins σ H s → RelV x v → Vals xs us → r x xs H Q →
    wpAny (model X.prog X.w) X.A (call (.builtin id) (v :: us)) (EP X pins σ Q) X.xe s
section
variable {X : Cx} {a b : Expr} {ta tb : TE} {pos : Pos}
theorem pe_ix {r : R2} (hr : IxR X r) (ha : PE X a ta) (hb : PE X b tb) (hs : PlainIx b) : PE X (.Subscript a b pos) (tOp r ta tb) := by
  intro pins s σ H Q I h
  exact Subscript_ (binT ha hb I h fun v u s2 x y H2 I2 rx ry q => hr a b pins s2 σ H2 x y v u Q I2 rx ry q (hs _ _))

def rIxL (K : PySem.W.Frag) : R2 := fun x y H Q => ∃ p xs i v, x = .ref p ∧ y = .int i ∧ SqL K H p xs ∧ atI xs i = some v ∧ Q v H
def rIxT (K : PySem.W.Frag) : R2 := fun x y H Q => ∃ p xs i v, x = .ref p ∧ y = .int i ∧ SqT K H p xs ∧ atI xs i = some v ∧ Q v H
def rIxS : R2 := fun x y H Q => ∃ z i c, x = .str z ∧ y = .int i ∧ z.length ≤ sizeLine ∧ atI z.cps.toList i = some c ∧ Q (.str ⟨#[c]⟩) H
theorem ix_list : IxR X (rIxL X.K) := by
  intro value slice pins s σ H x y v u Q I rx ry h hs
  obtain ⟨p, xs, i, z, rfl, rfl, hq, he, q⟩ := h
  cases rx
  obtain ⟨t, rfl⟩ := ry
  obtain ⟨its, r, pl, hz⟩ := I.list hq
  obtain ⟨j, h1, h2, h3, h4, h5⟩ := atI_get he
  obtain ⟨w, ew, rw'⟩ := r.get h2
  have hl := r.length
  have hn := line63
  have fin : EP X pins σ Q w s := ⟨z, H, I, rw', q⟩
  by_cases h0 : 0 ≤ i
  · have hj : i.toNat = j := by
      rw [seqIndex_of h0 h5] at h1
      exact Option.some.inj h1
    exact item_listR pl.isList h0 (by omega) (by rw [hj]; simpa using ew) fin hs
  · have hj : (i + (its.toArray.size : Int)).toNat = j := by
      rw [seqIndex_neg (by omega) h4] at h1
      rw [List.size_toArray, ← hl]
      exact Option.some.inj h1
    exact subscriptTail_builtinR (x := w) pl.isList.typeIs slot_list_getitem.lookup
      (wpAny_getItem_list_neg (Q := fun r s' => r = w ∧ EP X pins σ Q r s') pl.isList (by omega) (by rw [List.size_toArray] <;> omega) (by omega) (by rw [hj]; simpa using ew) ⟨rfl, fin⟩) hs
theorem ix_tup : IxR X (rIxT X.K) := by
  intro value slice pins s σ H x y v u Q I rx ry h hs
  obtain ⟨p, xs, i, z, rfl, rfl, hq, he, q⟩ := h
  cases rx
  obtain ⟨t, rfl⟩ := ry
  obtain ⟨its, r, pl, hz⟩ := I.tuple hq
  obtain ⟨j, h1, h2, h3, h4, h5⟩ := atI_get he
  obtain ⟨w, ew, rw'⟩ := r.get h2
  have hl := r.length
  have hn := line63
  have fin : EP X pins σ Q w s := ⟨z, H, I, rw', q⟩
  exact subscriptTail_builtinR (x := w) pl.typeIs slot_tuple_getitem.lookup
    (getItem_tuple (j := j) (Q := fun r s' => r = w ∧ EP X pins σ Q r s') pl (by omega) (by omega) (by rw [List.size_toArray, ← hl]; exact h1) (by simpa using ew) ⟨rfl, fin⟩) hs
theorem ix_str : IxR X rIxS := by
  intro value slice pins s σ H x y v u Q I rx ry h hs
  obtain ⟨z, i, c, rfl, rfl, hz, he, q⟩ := h
  obtain ⟨t, rfl⟩ := rx
  obtain ⟨t', rfl⟩ := ry
  obtain ⟨j, h1, h2, h3, h4, h5⟩ := atI_get he
  have hl : z.cps.toList.length = z.length := by simp [Str.length]
  rw [hl] at h1 h4 h5
  have hn := line63
  exact tail_any (typeIs_str s z t) slot_str_getitem.lookup (getItem_str (c := c) (by
    have e1 : decide (i < -(2 ^ 63 : Int)) = false := decide_eq_false (by omega)
    have e2 : decide (i ≥ 2 ^ 63) = false := decide_eq_false (by omega)
    rw [e1, e2, Bool.or_false]) (by rw [h1]; simpa using h2) ⟨.str ⟨#[c]⟩, H, I.tok _, ⟨_, rfl⟩, q⟩) hs

theorem mapSeq_set (its : List Value) (n j : Nat) (u : Value) : Obj.mapSeq (·.setIfInBounds j u) { cls := .type "list", data := .seq its.toArray n } = { cls := .type "list", data := .seq (its.set j u).toArray n } := by
  simp [Obj.mapSeq]
theorem Inv.lst {pins : List (Addr × Obj)} {σ : St} {H : Hp} {s : Shared} {p : Addr} {xs : List V} (I : Inv X pins σ H s) (h : H p = some (.lst xs)) :
    ∃ (its : List Value) (n : Nat), Vals xs its ∧ s.heap.get? p = some { cls := .type "list", data := .seq its.toArray n } ∧ xs.length ≤ sizeLine := by
  obtain ⟨z, its, n, r, e⟩ := I.hok p _ h
  exact ⟨its, n, r, e, z⟩

theorem Inv.lstUpd {pins : List (Addr × Obj)} {σ : St} {H : Hp} {s : Shared} {p : Addr} {xs ys : List V} {its its' : List Value} {n n' : Nat} {f : Obj → Obj} (I : Inv X pins σ H s) (h : H p = some (.lst xs))
    (ho : s.heap.get? p = some { cls := .type "list", data := .seq its.toArray n }) (hf : f { cls := .type "list", data := .seq its.toArray n } = { cls := .type "list", data := .seq its'.toArray n' }) (r : Vals ys its') (hz : ys.length ≤ sizeLine) (t : Nat) :
    Inv X pins σ (upd H p (.lst ys)) { s with heap := s.heap.update p f, toks := t } := by
  have e : (s.heap.update p f).get? p = some { cls := .type "list", data := .seq its'.toArray n' } := by
    rw [Heap.get?_update_self f ho (by rw [hf] <;> rfl), hf]
  refine I.write (x := p) (e := p) (by rw [h]; trivial) (.inl rfl) (fun b u hb q => (Heap.get?_update_other _ _ (Ne.symm hb)).trans q) ⟨_, e⟩ ?_
  exact ⟨hz, its', n', r, e⟩
def rSetL : V → V → V → Hp → (Hp → Prop) → Prop := fun o i v H Q => ∃ p xs k j, o = .ref p ∧ i = .int k ∧ H p = some (.lst xs) ∧ ixN xs.length k = some j ∧ Q (upd H p (.lst (xs.set j v)))
theorem set_list : PSet X rSetL := by
  intro pins s σ H o i v ov iv u Q I ro ri rv h
  obtain ⟨p, xs, k, j, rfl, rfl, hp, hj, q⟩ := h
  cases ro
  obtain ⟨t, rfl⟩ := ri
  obtain ⟨its, n, r, ho, hz⟩ := I.lst hp
  obtain ⟨h1, h2, h3, h4⟩ := ixN_seq hj
  have hl := r.length
  have hn := line63
  have I' : Inv X pins σ (upd H p (.lst (xs.set j v))) { s with heap := s.heap.update p (Obj.mapSeq (·.setIfInBounds j u)) } :=
    I.lstUpd hp ho (mapSeq_set its n j u) (r.set rv j) (by rw [List.length_set]; exact hz) s.toks
  by_cases h0 : 0 ≤ k
  · have hk : k.toNat = j := by
      rw [seqIndex_of h0 h4] at h1
      exact Option.some.inj h1
    exact PySem.W.ki_setAt ho h0 (by omega) (by rw [List.size_toArray, ← hl]; exact h4) (by rw [hk]; exact ⟨_, I', q⟩)
  · have hk : (k + (its.toArray.size : Int)).toNat = j := by
      rw [seqIndex_neg (by omega) h3] at h1
      rw [List.size_toArray, ← hl]
      exact Option.some.inj h1
    exact PySem.W.ki_setBack ho (by omega) (by rw [List.size_toArray, ← hl]; exact h3) (by omega) (by rw [hk]; exact ⟨_, I', q⟩)


def flatV : V → Bool
  | .non => true
  | .bl _ => true
  | .int _ => true
  | .str _ => true
  | _ => false

def eqV : V → V → Bool
  | .non, .non => true
  | .bl a, .bl b => a == b
  | .bl a, .int b => (if a then 1 else 0) == b
  | .int a, .bl b => a == (if b then 1 else 0)
  | .int a, .int b => a == b
  | .str a, .str b => a == b
  | _, _ => false
theorem eqAt_V {A : Around} {s : Shared} {y x : V} {u v : Value} (ry : RelV y u) (rx : RelV x v) (fy : flatV y = true) (fx : flatV x = true) : SeqAt.EqAt A s u v (eqV y x) := by
  cases y with
  | non =>
    cases ry
    cases x with
    | non => cases rx; exact SeqAt.EqAt.same _
    | bl b => cases rx; exact SeqAt.EqAt.none_bool b
    | int b => obtain ⟨t, rfl⟩ := rx; exact SeqAt.EqAt.none_int b t
    | str b => obtain ⟨t, rfl⟩ := rx; exact SeqAt.EqAt.none_str b t
    | _ => exact absurd (show false = true from fx) Bool.false_ne_true
  | bl a =>
    cases ry
    cases x with
    | non => cases rx; exact SeqAt.EqAt.bool_none a
    | bl b => cases rx; exact SeqAt.EqAt.bool_bool a b
    | int b => obtain ⟨t, rfl⟩ := rx; exact SeqAt.EqAt.bool_int a b t
    | str b => obtain ⟨t, rfl⟩ := rx; exact SeqAt.EqAt.bool_str a b t
    | _ => exact absurd (show false = true from fx) Bool.false_ne_true
  | int a =>
    obtain ⟨t', rfl⟩ := ry
    cases x with
    | non => cases rx; exact SeqAt.EqAt.int_none a t'
    | bl b => cases rx; exact SeqAt.EqAt.int_bool a t' b
    | int b => obtain ⟨t, rfl⟩ := rx; exact SeqAt.EqAt.int_int a t' b t
    | str b => obtain ⟨t, rfl⟩ := rx; exact SeqAt.EqAt.int_str a t' b t
    | _ => exact absurd (show false = true from fx) Bool.false_ne_true
  | str a =>
    obtain ⟨t', rfl⟩ := ry
    cases x with
    | non => cases rx; exact SeqAt.EqAt.str_none a t'
    | bl b => cases rx; exact SeqAt.EqAt.str_bool a t' b
    | int b => obtain ⟨t, rfl⟩ := rx; exact SeqAt.EqAt.str_int a t' b t
    | str b => obtain ⟨t, rfl⟩ := rx; exact SeqAt.EqAt.str_str a t' b t
    | _ => exact absurd (show false = true from fx) Bool.false_ne_true
  | _ => exact absurd (show false = true from fy) Bool.false_ne_true

def eqU (x : V) (u : Value) : Bool := match u with
  | .none => eqV .non x
  | .bool b => eqV (.bl b) x
  | .int i _ => eqV (.int i) x
  | .str z _ => eqV (.str z) x
  | _ => false
theorem eqU_of {x y : V} {u : Value} (r : RelV y u) (f : flatV y = true) : eqU x u = eqV y x := by
  cases y with
  | non => cases r; rfl
  | bl b => cases r; rfl
  | int i => obtain ⟨t, rfl⟩ := r; rfl
  | str z => obtain ⟨t, rfl⟩ := r; rfl
  | _ => exact absurd (show false = true from f) Bool.false_ne_true
theorem mem_eqAt {A : Around} {s : Shared} {x : V} {v : Value} (rx : RelV x v) (fx : flatV x = true) : ∀ {xs : List V} {us : List Value}, Vals xs us → xs.all flatV = true → ∀ u ∈ us, SeqAt.EqAt A s u v (eqU x u)
  | _, _, .nil, _ => fun u hu => by cases hu
  | y :: xs, u :: us, .cons r t, f => fun u' hu => by
    rw [List.all_cons, Bool.and_eq_true] at f
    rcases List.mem_cons.mp hu with rfl | hu
    · rw [eqU_of r f.1]; exact eqAt_V r rx f.1 fx
    · exact mem_eqAt rx fx t f.2 u' hu
theorem call_len_seq : CallR X (.builtin "len") (fun xs H Q => ∃ p ys, xs = [.ref p] ∧ (SqL X.K H p ys ∨ SqT X.K H p ys) ∧ Q (.int ys.length) H) := by
  intro pins s σ H xs us Q I r h
  obtain ⟨p, ys, rfl, hq, q⟩ := h
  obtain ⟨u, rfl, rx⟩ := vals1 r
  cases rx
  have hn := line63
  rcases hq with hq | hq
  · obtain ⟨its, r', pl, hz⟩ := I.list hq
    have hlen := r'.length
    exact Calls.call_len_list pl.isList (by simp only [List.size_toArray] <;> omega) ⟨.int ys.length, H, I.tok _, ⟨s.toks + 1, by rw [List.size_toArray, hlen]⟩, q⟩
  · obtain ⟨its, r', pl, hz⟩ := I.tuple hq
    have hlen := r'.length
    exact len_tuple pl (by simp only [List.size_toArray] <;> omega) ⟨.int ys.length, H, I.tok _, ⟨s.toks + 1, by rw [List.size_toArray, hlen]⟩, q⟩
theorem call_len_str : CallR X (.builtin "len") (fun xs H Q => ∃ z, xs = [.str z] ∧ z.length ≤ sizeLine ∧ Q (.int z.length) H) := by
  intro pins s σ H xs us Q I r h
  obtain ⟨z, rfl, hz, q⟩ := h
  obtain ⟨u, rfl, t, rfl⟩ := vals1 r
  have hn := line63
  exact len_str (by omega) ⟨.int z.length, H, I.tok _, ⟨_, rfl⟩, q⟩
def tyV (K : PySem.W.Frag) (T : String) (x : V) (H : Hp) : Prop := match x with
  | .str _ => T = "str"
  | .int _ => T = "int"
  | .ref p => (T = "list" ∧ ∃ xs, SqL K H p xs) ∨ (T = "tuple" ∧ ∃ o, K.lookup p = some o ∧ o.cls = .type "tuple" ∧ o.dict = none) ∨
      (T = "dict" ∧ ((∃ kvs, H p = some (.dK kvs)) ∨ ∃ kvs, H p = some (.dT kvs))) ∨ (T = "set" ∧ ∃ S n, H p = some (.set S n))
  | _ => False
theorem tyV_is {pins : List (Addr × Obj)} {σ : St} {H : Hp} {s : Shared} {T : String} {x : V} {v : Value} (I : Inv X pins σ H s) (r : RelV x v) (ty : tyV X.K T x H) :
    s.TypeIs v T ∧ ∀ a, v = .ref a → ∃ ob, s.heap.get? a = some ob ∧ ob.dict = none := by
  cases x with
  | str z =>
    obtain ⟨t, rfl⟩ := r
    cases (show T = "str" from ty)
    exact ⟨typeIs_str s z t, fun _ e => nomatch e⟩
  | int i =>
    obtain ⟨t, rfl⟩ := r
    cases (show T = "int" from ty)
    exact ⟨typeIs_int s i t, fun _ e => nomatch e⟩
  | ref p =>
    cases r
    rcases ty with ⟨rfl, xs, hq⟩ | ⟨rfl, o, hk, hc, hd⟩ | ⟨rfl, hk⟩ | ⟨rfl, S, n, hk⟩
    · obtain ⟨its, _, pl, _⟩ := I.list hq
      refine ⟨pl.isList.typeIs, fun a e => ?_⟩
      cases e
      obtain ⟨o, n, e, c, hd, _⟩ := pl
      exact ⟨o, e, hd⟩
    · refine ⟨⟨o, I.kIn p o hk, hc⟩, fun a e => ?_⟩
      cases e
      exact ⟨o, I.kIn _ o hk, hd⟩
    · have z : ∃ o, s.heap.get? p = some o ∧ o.ExactDict := by
        rcases hk with ⟨kvs, hk⟩ | ⟨kvs, hk⟩
        · obtain ⟨_, _, _, _, o, _, _, e, ex, _⟩ := I.hok p _ hk
          exact ⟨o, e, ex⟩
        · obtain ⟨_, _, _, _, o, _, _, e, ex, _⟩ := I.hok p _ hk
          exact ⟨o, e, ex⟩
      obtain ⟨o, e, ex⟩ := z
      refine ⟨⟨o, e, ex.1⟩, fun a e2 => ?_⟩
      cases e2
      exact ⟨o, e, ex.2.1⟩
    · obtain ⟨o, _, _, _, e, ex, _⟩ := I.hok p _ hk
      refine ⟨⟨o, e, ex.1⟩, fun a e2 => ?_⟩
      cases e2
      exact ⟨o, e, ex.2.1⟩
  | _ => exact False.elim ty
def tBM (K : PySem.W.Frag) (T : String) (r : V → List V → Hp → VK → Prop) (to : TE) (t : TA) : TE := fun σ H Q => to σ H fun x H1 => tyV K T x H1 ∧ t σ H1 fun xs H2 => r x xs H2 Q
variable {o e : Expr} {es : List Expr} {to : TE} {t : TA} {name : Str} {apos cpos : Pos} {T id : String} {r : V → List V → Hp → VK → Prop}
theorem pe_bm (pa : PlainAttrs T) (slot : Slot T name id) (hty : typeOf (.builtin id) = pure (.type "method_descriptor")) (hm : MtR X id r) (ho : PE X o to) (ha : PA X (e :: es) t)
    (hbase : attributeBase o name X.env (eval o X.env) = eval o X.env := by rfl)
    (hfew : ((backTo cpos (starEach (e :: es) X.env)).all (fun x => !x.1) && (backToKw cpos (keywordEach [] X.env)).all (fun x => x.1.isSome)
      && decide ((e :: es).length + ([] : List Keyword).length + (if ([] : List Keyword).isEmpty then 0 else 1) < 30)) = true := by rfl)
    (hline : (apos.endLine == cpos.line) = true := by rfl) (hs : starEach (e :: es) X.env = (false, eval e X.env) :: starEach es X.env := by rfl) (hplain : (backTo cpos (starEach es X.env)).any (·.1) = false := by rfl) :
    PE X (.Call (.Attribute o name apos) (e :: es) [] cpos) (tBM X.K T r to t) := by
  intro pins s σ H Q I h
  refine wpAny_Call_method_late hbase hfew hline rfl (thn (ho pins s σ H _ I h) fun v s1 ⟨x, H1, I1, r1, ty, q1⟩ => ?_)
  obtain ⟨h1, h2⟩ := tyV_is I1 r1 ty
  refine ⟨T, id, pa, slot, hty, h1, h2, ?_⟩
  have hA := ha cpos pins s1 σ H1 _ I1 q1
  rw [hs] at hA ⊢
  refine Calls.callWith_builtin (by show (false || (backTo cpos (starEach es X.env)).any (·.1)) = false; rw [hplain] <;> rfl) (Calls.evalArgs_plain ?_)
  exact thn hA fun us s2 ⟨vs, H2, I2, r2, q2⟩ => hm pins s2 σ H2 x vs v us Q I2 r1 r2 q2

end
end L2
namespace L2
open PySem PySem.Spec PyProof.Rows
def MtM (X : Cx) (id : String) (r : V → List V → Hp → VK → Prop) : Prop :=
  ∀ (pins : List (Addr × Obj)) (s : Shared) (σ : St) (H : Hp) (x : V) (xs : List V) (v : Value) (us : List Value) (Q : VK), Inv X pins σ H s → RelV x v → Vals xs us → r x xs H Q →
    wpAny (model X.prog X.w) X.A (call (.builtin id) (v :: us)) (EP X pins σ Q) X.xe s


theorem Vals.one : ∀ {x : V} {us : List Value}, Vals [x] us → ∃ u, us = [u] ∧ RelV x u
  | _, _, .cons r .nil => ⟨_, rfl, r⟩
theorem Vals.two : ∀ {x y : V} {us : List Value}, Vals [x, y] us → ∃ u v, us = [u, v] ∧ RelV x u ∧ RelV y v
  | _, _, _, .cons r (.cons q .nil) => ⟨_, _, rfl, r, q⟩
theorem Vals.zero : ∀ {us : List Value}, Vals [] us → us = []
  | _, .nil => rfl
theorem Vals.reverse {xs : List V} {us : List Value} (h : Vals xs us) : Vals xs.reverse us.reverse := by
  induction h with
  | nil => exact .nil
  | cons r t ih => rw [List.reverse_cons, List.reverse_cons]; exact Vals.append ih (.cons r .nil)
theorem Vals.rep {xs : List V} {us : List Value} (h : Vals xs us) : ∀ k : Nat, Vals (List.replicate k xs).flatten (List.replicate k us).flatten
  | 0 => .nil
  | k + 1 => by
    rw [List.replicate_succ, List.replicate_succ, List.flatten_cons, List.flatten_cons]
    exact Vals.append h (Vals.rep h k)
theorem foldl_rep (its : List Value) : ∀ (k : Nat) (acc : List Value),
    List.foldl (fun x1 x2 => x1 ++ x2) acc.toArray (List.replicate k its.toArray) = (acc ++ (List.replicate k its).flatten).toArray
  | 0, acc => by simp
  | k + 1, acc => by
    have e : acc.toArray ++ its.toArray = (acc ++ its).toArray := by simp
    have e2 : (acc ++ its) ++ (List.replicate k its).flatten = acc ++ (List.replicate (k + 1) its).flatten := by
      rw [List.replicate_succ, List.flatten_cons, List.append_assoc]
    rw [← e2, ← foldl_rep its k (acc ++ its), ← e, List.replicate_succ, List.foldl_cons]

section
variable {X : Cx} {pins : List (Addr × Obj)} {σ : St} {H : Hp} {s : Shared} {l b : Addr} {xs ys zs : List V}
theorem Inv.lset {its its' : List Value} {n : Nat} {f : Array Value → Array Value} {t' : Nat} (I : Inv X pins σ H s) (hH : H l = some (.lst xs))
    (e : s.heap.get? l = some { cls := .type "list", data := .seq its.toArray n }) (hf : f its.toArray = its'.toArray) (hv : Vals ys its') (hz : ys.length ≤ sizeLine) :
    Inv X pins σ (upd H l (.lst ys)) { s with heap := s.heap.update l (Obj.mapSeq f), toks := t' } := by
  have q := PySem.IsL.update e f
  rw [hf] at q
  refine I.write (x := l) (e := l) (by rw [hH]; exact trivial) (.inl rfl) (fun b' u hb hu => (Heap.get?_update_other s.heap (Obj.mapSeq f) (Ne.symm hb)).trans hu) ⟨_, q⟩ ?_
  exact ⟨hz, its', _, hv, q⟩
theorem Inv.lnew {its : List Value} {t' : Nat} (I : Inv X pins σ H s) (hv : Vals ys its) (hz : ys.length ≤ sizeLine) :
    Inv X pins σ (upd H s.heap.objs.size (.lst ys)) { s with heap := s.heap.push { cls := .type "list", data := .seq its.toArray }, toks := t' } :=
  I.laid (fun _ _ q => Heap.get?_push_of_some _ q) (Nat.le_refl _) ⟨hz, its, 0, hv, Heap.get?_push_size _ rfl⟩
theorem Inv.fresh (I : Inv X pins σ H s) : H s.heap.objs.size = none := I.hok.fresh (Nat.le_refl _)
theorem Inv.lstM (I : Inv X pins σ H s) (hH : H l = some (.lst xs)) : xs.length ≤ sizeLine ∧ ∃ (its : List Value) (n : Nat), Vals xs its ∧ xs.length = its.length ∧ s.heap.get? l = some { cls := .type "list", data := .seq its.toArray n } := by
  obtain ⟨z, its, n, r, e⟩ := I.hok l _ hH
  exact ⟨z, its, n, r, r.length, e⟩

theorem notLongL {n : Nat} (h : n ≤ sizeLine) : Builtin.List.listTooLong n = false := by
  unfold Builtin.List.listTooLong
  exact decide_eq_false (by omega)
end
section
variable {X : Cx}
def rAppend : V → List V → Hp → VK → Prop := fun x vs H Q => ∃ l xs y, x = .ref l ∧ vs = [y] ∧ H l = some (.lst xs) ∧ xs.length < sizeLine ∧ Q .non (upd H l (.lst (xs ++ [y])))
theorem mt_append : MtM X "list.append" rAppend := by
  intro pins s σ H x vs v us Q I rx rv h
  obtain ⟨l, xs, y, rfl, rfl, hH, hz, q⟩ := h
  cases rx
  obtain ⟨u, rfl, ru⟩ := rv.one
  obtain ⟨z, its, n, r, hl, e⟩ := I.lstM hH
  refine call_meets F.slot_list_append ⟨_, e, rfl⟩ F.entry_list_append (F.args_list_append_2 _ _) (PySem.list_append l its.toArray n u (by rw [List.size_toArray]; omega)) ⟨e, ?_⟩
  refine ⟨.non, _, I.lset (its' := its ++ [u]) hH e (by simp) (r.append (.cons ru .nil)) ?_, rfl, q⟩
  rw [List.length_append, List.length_singleton]
  omega

def rCat : R2 := fun x y H Q => ∃ l b xs zs, x = .ref l ∧ y = .ref b ∧ H l = some (.lst xs) ∧ H b = some (.lst zs) ∧ xs.length + zs.length ≤ sizeLine ∧ ∀ p, H p = none → Q (.ref p) (upd H p (.lst (xs ++ zs)))
theorem op_cat : OpR X (binaryOp .Add) rCat := by
  intro pins s σ H x y v u Q I rx ry h
  obtain ⟨l, b, xs, zs, rfl, rfl, hH, hB, hz, q⟩ := h
  cases rx
  cases ry
  obtain ⟨z, its, n, r, hl, e⟩ := I.lstM hH
  obtain ⟨z2, its2, n2, r2, hl2, e2⟩ := I.lstM hB
  refine PySem.P.add_list e e2 ?_ (by rw [List.size_toArray, List.size_toArray]; omega)
  have ea : its.toArray ++ its2.toArray = (its ++ its2).toArray := by simp
  rw [ea]
  exact ⟨.ref _, _, I.lnew (t' := s.toks) (r.append r2) (by rw [List.length_append]; omega), rfl, q _ I.fresh⟩

def rRep : R2 := fun x y H Q => ∃ l k xs, x = .ref l ∧ y = .int k ∧ H l = some (.lst xs) ∧ -(2 ^ 63) ≤ k ∧ k < 2 ^ 63 ∧ xs.length * k.toNat ≤ sizeLine ∧
  ∀ p, H p = none → Q (.ref p) (upd H p (.lst (List.replicate k.toNat xs).flatten))
theorem len_rep {α : Type} (xs : List α) (k : Nat) : (List.replicate k xs).flatten.length = k * xs.length := by
  induction k with
  | zero => simp
  | succ k ih => rw [List.replicate_succ, List.flatten_cons, List.length_append, ih, Nat.succ_mul, Nat.add_comm]
theorem op_rep : OpR X (binaryOp .Mult) rRep := by
  intro pins s σ H x y v u Q I rx ry h
  obtain ⟨l, k, xs, rfl, rfl, hH, h1, h2, hz, q⟩ := h
  cases rx
  obtain ⟨t, rfl⟩ := ry
  obtain ⟨z, its, n, r, hl, e⟩ := I.lstM hH
  have hlen : its.toArray.size * k.toNat ≤ sizeLine := by rw [List.size_toArray, ← hl]; exact hz
  have hcap : ¬ its.toArray.size * k.toNat > (2 ^ 63 - 1) / 8 := by
    have : (sizeLine : Nat) ≤ (2 ^ 63 - 1) / 8 := by decide
    omega
  have hfit : ¬ (!Builtin.List.listFitsIndex k) = true := by
    rw [fitsIndex_both h1 h2]
    exact Bool.false_ne_true
  have hlong : ¬ Builtin.List.listTooLong (its.toArray.size * k.toNat) = true := by
    rw [notLongL hlen]
    exact Bool.false_ne_true
  have hnew : List.foldl (fun x1 x2 => x1 ++ x2) #[] (List.replicate (if its.toArray.isEmpty = true then 0 else k.toNat) its.toArray) = (List.replicate k.toNat its).flatten.toArray := by
    have f0 : ∀ m : Nat, List.foldl (fun x1 x2 => x1 ++ x2) #[] (List.replicate m its.toArray) = (List.replicate m its).flatten.toArray := fun m => by
      have := foldl_rep its m []
      rw [List.nil_append] at this
      exact this
    rw [f0]
    cases its with
    | nil => simp
    | cons a r' => rw [if_neg (by simp)]
  refine wpAny_binaryOp_repeat_ref (T := "list") (U := "int") (by decide) ⟨_, e, rfl⟩ (fun s' => typeIs_int s' k t) noFill_list_mul F.fills_int_mul F.slot_int_rmul repeat_list F.slot_int_index.lookup
    (call_meets F.slot_int_rmul (typeIs_int s k t) F.entry_int_rmul (F.args_int_rmul_2 _ _) (int___rmul___int_list k t l its.toArray n)
      ⟨e, rfl, ⟨_, e, rfl⟩, call_meets F.slot_list_mul ⟨_, e, rfl⟩ F.entry_list_mul (F.args_list_mul_2 _ _) (AutoListH.list___mul___list_int_3 l its.toArray n k t hfit hcap hlong) ⟨e, ?_⟩⟩)
  rw [hnew]
  exact ⟨.ref _, _, I.lnew (t' := s.toks) (r.rep k.toNat) (by rw [len_rep, Nat.mul_comm]; exact hz), rfl, q _ I.fresh⟩


end
section
variable {prog : Program} {w : World} {A : Around} {E : Value → Shared → Prop} {s : Shared}
end
section
variable {X : Cx}
end
end L2
namespace L2
open PySem PySem.Spec PyProof.Rows
theorem Vals.strs : ∀ {xs : List Str} {us : List Value}, Vals (xs.map V.str) us → StrsAre us xs
  | [], us, h => by
    rw [List.map_nil] at h
    cases h
    exact StrsAre.nil
  | x :: xs, us, h => by
    rw [List.map_cons] at h
    cases h with
    | cons r t =>
      obtain ⟨k, rfl⟩ := r
      exact StrsAre.cons x k (Vals.strs t)
section
variable {prog : Program} {w : World} {A : Around} {E : Value → Shared → Prop} {s : Shared} {l : Addr} {its : List Value} {ns : List Int} {Q : Value → Shared → Prop}
end
section
variable {X : Cx}
end
section
variable {X : Cx}
def rIndex (K : PySem.W.Frag) : V → List V → Hp → VK → Prop := fun x xs H Q => ∃ (a : Addr) (ys : List V) (y : V) (j : Nat) (z : V), x = V.ref a ∧ xs = [y] ∧ SqL K H a ys ∧ flatV y = true ∧ ys.all flatV = true ∧ ys[j]? = some z ∧ eqV z y = true ∧
  (∀ (m : Nat) (z' : V), m < j → ys[m]? = some z' → eqV z' y = false) ∧ Q (.int (j : Nat)) H
theorem flat_at {ys : List V} (f : ys.all flatV = true) {j : Nat} {z : V} (h : ys[j]? = some z) : flatV z = true := List.all_eq_true.mp f z (List.mem_of_getElem? h)
theorem mt_index : MtR X "list.index" (rIndex X.K) := by
  intro pins s σ H x xs v us Q I rx rxs h
  obtain ⟨a, ys, y, j, z, rfl, rfl, hs, fy, fys, hz, hzj, hno, q⟩ := h
  cases rx
  cases rxs with
  | cons ry rt =>
    rename_i uy ut
    cases rt
    obtain ⟨its, rv, ⟨⟨cls, dd, data, sl⟩, n, ho, hc, hdn, hd⟩, hlen⟩ := I.list hs
    simp only at hc hd
    subst hc hd
    obtain ⟨u, hu, ru⟩ := rv.get hz
    obtain ⟨hjl, hje⟩ := List.getElem?_eq_some_iff.mp hu
    have hvl := rv.length
    have hj : j < its.toArray.size := by simpa using hjl
    have hsl := sizeLine_eq
    refine call_meets PySem.F.slot_list_index ⟨_, ho, rfl⟩ PySem.F.entry_list_index (PySem.F.args_list_index_2 _ _)
      (SeqAt.list_indexAt a its.toArray n dd sl uy (eqU y) j hj (by omega) ?_ ?_) ⟨ho, fun u' hu' => mem_eqAt ry fy rv fys u' (by simpa using hu'), ?_⟩
    · have e1 : its.toArray[j] = u := by simpa using hje
      rw [e1, eqU_of ru (flat_at fys hz)]
      exact hzj
    · intro m hm hmj
      have hml : m < its.length := by simpa using hm
      have hmy : m < ys.length := by omega
      have hy' : ys[m]? = some ys[m] := List.getElem?_eq_getElem hmy
      obtain ⟨u2, hu2, ru2⟩ := rv.get hy'
      obtain ⟨_, hme⟩ := List.getElem?_eq_some_iff.mp hu2
      have e1 : its.toArray[m] = u2 := by simpa using hme
      rw [e1, eqU_of ru2 (flat_at fys hy')]
      exact hno m _ hmj hy'
    · exact ⟨.int (j : Nat), H, I.tok _, ⟨_, rfl⟩, q⟩
end
section
variable {X : Cx}
end
theorem all_range : ∀ bs : List Bool, (List.range bs.length).all (fun i => bs.getD i false) = bs.all id
  | [] => rfl
  | b :: bs => by
    rw [List.length_cons, List.range_succ_eq_map, List.all_cons, List.all_map, List.all_cons, ← all_range bs]
    all_goals rfl
section
variable {X : Cx}
end
mutual
inductive Dp (K : PySem.W.Frag) (H : Hp) : V → PyData → Prop
  | non : Dp K H .non .none
  | bl (b : Bool) : Dp K H (.bl b) (.bool b)
  | int (i : Int) : Dp K H (.int i) (.int i)
  | str (x : Str) : Dp K H (.str x) (.str x)
  | lst {a : Addr} {xs : List V} {ds : List PyData} : SqL K H a xs → DpAll K H xs ds → Dp K H (.ref a) (.list ds)
  | tup {a : Addr} {xs : List V} {ds : List PyData} : SqT K H a xs → DpAll K H xs ds → Dp K H (.ref a) (.tuple ds)
inductive DpAll (K : PySem.W.Frag) (H : Hp) : List V → List PyData → Prop
  | nil : DpAll K H [] []
  | cons {v : V} {vs : List V} {d : PyData} {ds : List PyData} : Dp K H v d → DpAll K H vs ds → DpAll K H (v :: vs) (d :: ds)
end
section
variable {X : Cx} {pins : List (Addr × Obj)} {σ : St} {H : Hp} {s : Shared}
mutual
theorem Dp.reads (I : Inv X pins σ H s) : ∀ (d : PyData) (v : V) (u : Value), Dp X.K H v d → RelV v u → ∃ as, Reads s.heap u d as
  | .none, _, _, h, r => by
    cases h
    cases r
    exact ⟨_, Reads.none⟩
  | .bool b, _, _, h, r => by
    cases h
    cases r
    exact ⟨_, Reads.bool b⟩
  | .int i, _, _, h, r => by
    cases h
    obtain ⟨t, rfl⟩ := r
    exact ⟨_, Reads.int i t⟩
  | .str x, _, _, h, r => by
    cases h
    obtain ⟨t, rfl⟩ := r
    exact ⟨_, Reads.str x t⟩
  | .list ds, _, _, h, r => by
    cases h with
    | lst hs ha =>
      cases r
      obtain ⟨its, rv, ⟨o, n, ho, hc, _, hd⟩, _⟩ := I.list hs
      obtain ⟨as, hr⟩ := Dp.readsAll I ds _ its ha rv
      exact ⟨_, Reads.list ho hc hd hr⟩
  | .tuple ds, _, _, h, r => by
    cases h with
    | tup hs ha =>
      cases r
      obtain ⟨its, rv, ⟨o, ho, hc, n, hd⟩, _⟩ := I.tuple hs
      obtain ⟨as, hr⟩ := Dp.readsAll I ds _ its ha rv
      exact ⟨_, Reads.tuple ho hc hd hr⟩
  | .dict _, _, _, h, _ => by cases h
theorem Dp.readsAll (I : Inv X pins σ H s) : ∀ (ds : List PyData) (vs : List V) (us : List Value), DpAll X.K H vs ds → Vals vs us → ∃ as, ReadsAll s.heap us ds as
  | [], _, _, h, r => by
    cases h
    cases r
    exact ⟨_, ReadsAll.nil⟩
  | d :: ds, _, _, h, r => by
    cases h with
    | cons h1 h2 =>
      cases r with
      | cons r1 r2 =>
        obtain ⟨as, q1⟩ := Dp.reads I d _ _ h1 r1
        obtain ⟨bs, q2⟩ := Dp.readsAll I ds _ _ h2 r2
        exact ⟨_, ReadsAll.cons q1 q2⟩
end
end
section
variable {X : Cx}
def rEqD (K : PySem.W.Frag) : R2 := fun x y H Q => ∃ d e, Dp K H x d ∧ Dp K H y e ∧ SeqAt.shaped d = true ∧ SeqAt.shaped e = true ∧ Q (.bl (PyData.eqv d e)) H
def rNeD (K : PySem.W.Frag) : R2 := fun x y H Q => ∃ d e, Dp K H x d ∧ Dp K H y e ∧ SeqAt.shaped d = true ∧ SeqAt.shaped e = true ∧ Q (.bl (!PyData.eqv d e)) H
theorem op_eqD (hu : X.A.units + 64 < cLine) : OpR X (compareOp .Eq) (rEqD X.K) := by
  intro pins s σ H x y v u Q I rx ry h
  obtain ⟨d, e, hd, he, sd, se, q⟩ := h
  obtain ⟨as, r1⟩ := Dp.reads I d x v hd rx
  obtain ⟨bs, r2⟩ := Dp.reads I e y u he ry
  exact SeqAt.compareEq_shaped r1 r2 sd se hu ⟨.bl _, H, I, rfl, q⟩
theorem op_neD (hu : X.A.units + 64 < cLine) : OpR X (compareOp .NotEq) (rNeD X.K) := by
  intro pins s σ H x y v u Q I rx ry h
  obtain ⟨d, e, hd, he, sd, se, q⟩ := h
  obtain ⟨as, r1⟩ := Dp.reads I d x v hd rx
  obtain ⟨bs, r2⟩ := Dp.reads I e y u he ry
  exact SeqAt.compareNe_shaped r1 r2 sd se hu ⟨.bl _, H, I, rfl, q⟩
end
end L2
namespace L2
open PySem PySem.Spec PyProof.Rows
abbrev CellAt (h : Heap) (c : Addr) (v : Option Value) : Prop := h.IsCell c v
def relS (scope sc : Scope) : Scope :=
  { scope with names := scope.names.map fun (n, k) => if (k == .free && sc.kind == .function && sc.names.lookup n == some .cell) then (n, .cell) else (n, k) }

def cloFrom (cells : List (Str × Addr)) : List (Str × NameKind) → List (Str × Addr) → List (Str × Addr)
  | [], acc => acc
  | (n, k) :: r, acc => if k == .free then cloFrom cells r ((n, (cells.lookup n).getD 0) :: acc) else cloFrom cells r acc

theorem closure_loop (env : Env) (f : Str × NameKind → List (Str × Addr) → Sem (ForInStep (List (Str × Addr))))
    (hf : ∀ n k c, f (n, k) c = if k == .free then (do let a ← cellOf env n; pure (.yield ((n, a) :: c))) else pure (.yield c)) :
    ∀ (names : List (Str × NameKind)) (acc : List (Str × Addr)), (∀ y ∈ names, y.2 = .free → ∃ c, env.cells.lookup y.1 = some c) → forIn names acc f = pure (cloFrom env.cells names acc)
  | [], acc, _ => by rw [List.forIn_nil]; rfl
  | (n, k) :: r, acc, h => by
    rw [List.forIn_cons, hf]
    have ih := fun acc => closure_loop env f hf r acc fun y hy => h y (List.mem_cons_of_mem _ hy)
    unfold cloFrom
    by_cases hk : (k == NameKind.free) = true
    · rw [if_pos hk, if_pos hk]
      obtain ⟨c, hc⟩ := h (n, k) List.mem_cons_self (by simpa using hk)
      have e : cellOf env n = pure c := by unfold cellOf; rw [hc]
      rw [e]
      have e2 : (env.cells.lookup n).getD 0 = c := by rw [hc]; rfl
      rw [e2]
      exact ih _
    · rw [if_neg hk, if_neg hk]
      exact ih _
theorem closure_ok {scope : Scope} {env : Env} (h : ∀ y ∈ scope.names, y.2 = .free → ∃ c, env.cells.lookup y.1 = some c) : closureFor scope env = pure (cloFrom env.cells scope.names []) := by
  simp only [closureFor]
  rw [closure_loop env _ (fun n k c => rfl) scope.names [] h]
  rfl

theorem mem_lookup {α : Type} : ∀ {l : List (Str × α)} {n : Str} {c : α}, (n, c) ∈ l → ∃ c', l.lookup n = some c'
  | (k, v) :: r, n, c, h => by
    rw [List.lookup_cons]
    cases hb : n == k with
    | true => exact ⟨_, rfl⟩
    | false =>
      rcases List.mem_cons.mp h with e | h
      · cases e; simp at hb
      · exact mem_lookup h

theorem cloFrom_mem {cells : List (Str × Addr)} : ∀ {names : List (Str × NameKind)} {acc : List (Str × Addr)} {n : Str} {c : Addr}, (n, c) ∈ cloFrom cells names acc → (n, c) ∈ acc ∨ ((n, .free) ∈ names ∧ c = (cells.lookup n).getD 0)
  | [], _, _, _, h => .inl h
  | (m, k) :: r, acc, n, c, h => by
    unfold cloFrom at h
    split at h
    · rename_i hk
      have hk : k = .free := by simpa using hk
      rcases cloFrom_mem h with h | ⟨h1, h2⟩
      · rcases List.mem_cons.mp h with e | h
        · cases e; exact .inr ⟨hk ▸ List.mem_cons_self, rfl⟩
        · exact .inl h
      · exact .inr ⟨List.mem_cons_of_mem _ h1, h2⟩
    · rcases cloFrom_mem h with h | ⟨h1, h2⟩
      · exact .inl h
      · exact .inr ⟨List.mem_cons_of_mem _ h1, h2⟩
theorem cloFrom_acc {cells : List (Str × Addr)} : ∀ {names : List (Str × NameKind)} {acc : List (Str × Addr)} {p : Str × Addr}, p ∈ acc → p ∈ cloFrom cells names acc
  | [], _, _, h => h
  | (m, k) :: r, acc, p, h => by
    unfold cloFrom
    split
    · exact cloFrom_acc (List.mem_cons_of_mem _ h)
    · exact cloFrom_acc h
theorem cloFrom_has {cells : List (Str × Addr)} : ∀ {names : List (Str × NameKind)} {acc : List (Str × Addr)} {n : Str}, (n, .free) ∈ names → (n, (cells.lookup n).getD 0) ∈ cloFrom cells names acc
  | (m, k) :: r, acc, n, h => by
    unfold cloFrom
    rcases List.mem_cons.mp h with e | h
    · cases e
      exact cloFrom_acc List.mem_cons_self
    · split
      · exact cloFrom_has h
      · exact cloFrom_has h

theorem cells_mem : ∀ {names : List (Str × NameKind)} {h : Heap} {acc : List (Str × Addr)} {x : Str} {c : Addr}, (x, c) ∈ cellsFrom h.objs.size names acc →
    (x, c) ∈ acc ∨ ((x, .cell) ∈ names ∧ h.objs.size ≤ c ∧ CellAt (pushCells h names) c none)
  | [], _, _, _, _, h => .inl h
  | (n, k) :: r, h, acc, x, c, hm => by
    unfold cellsFrom at hm
    unfold pushCells
    split at hm
    · rename_i hk
      rw [if_pos hk]
      have hk : k = .cell := by simpa using hk
      rw [← Heap.size_push h { cls := .type "cell", data := .cell none }] at hm
      rcases cells_mem hm with hm | ⟨h1, h2, h3⟩
      · rcases List.mem_cons.mp hm with e | hm
        · cases e
          exact .inr ⟨hk ▸ List.mem_cons_self, Nat.le_refl _, _, pushCells_keeps r _ _ _ (Heap.get?_push_size _ rfl), rfl⟩
        · exact .inl hm
      · rw [Heap.size_push] at h2
        exact .inr ⟨List.mem_cons_of_mem _ h1, Nat.le_of_succ_le h2, h3⟩
    · rename_i hk
      rw [if_neg hk]
      rcases cells_mem hm with hm | ⟨h1, h2, h3⟩
      · exact .inl hm
      · exact .inr ⟨List.mem_cons_of_mem _ h1, h2, h3⟩
theorem cells_acc : ∀ {names : List (Str × NameKind)} {n : Nat} {acc : List (Str × Addr)} {p : Str × Addr}, p ∈ acc → p ∈ cellsFrom n names acc
  | [], _, _, _, h => h
  | (m, k) :: r, n, acc, p, h => by
    unfold cellsFrom
    split
    · exact cells_acc (List.mem_cons_of_mem _ h)
    · exact cells_acc h
theorem cells_has : ∀ {names : List (Str × NameKind)} {n : Nat} {acc : List (Str × Addr)} {x : Str}, (x, .cell) ∈ names → ∃ c, (x, c) ∈ cellsFrom n names acc
  | (m, k) :: r, n, acc, x, h => by
    unfold cellsFrom
    rcases List.mem_cons.mp h with e | h
    · cases e
      exact ⟨n, cells_acc List.mem_cons_self⟩
    · split
      · exact cells_has h
      · exact cells_has h
theorem cells_inj : ∀ {names : List (Str × NameKind)} {h : Heap} {acc : List (Str × Addr)} {x y : Str} {c : Addr}, (∀ p ∈ acc, p.2 < h.objs.size) → (∀ x y c, (x, c) ∈ acc → (y, c) ∈ acc → x = y) →
    (x, c) ∈ cellsFrom h.objs.size names acc → (y, c) ∈ cellsFrom h.objs.size names acc → x = y
  | [], _, _, _, _, _, _, hi, h1, h2 => hi _ _ _ h1 h2
  | (n, k) :: r, h, acc, x, y, c, hl, hi, h1, h2 => by
    unfold cellsFrom at h1 h2
    split at h1
    · rename_i hk
      rw [if_pos hk] at h2
      rw [← Heap.size_push h { cls := .type "cell", data := .cell none }] at h1 h2
      refine cells_inj (h := h.push _) (fun p hp => ?_) (fun x y c a b => ?_) h1 h2
      · rw [Heap.size_push]
        rcases List.mem_cons.mp hp with rfl | hp
        · exact Nat.lt_succ_self _
        · exact Nat.lt_succ_of_lt (hl p hp)
      · rcases List.mem_cons.mp a with e | a <;> rcases List.mem_cons.mp b with e' | b
        · cases e; cases e'; rfl
        · cases e; exact absurd (hl _ b) (Nat.lt_irrefl _)
        · cases e'; exact absurd (hl _ a) (Nat.lt_irrefl _)
        · exact hi _ _ _ a b
    · rename_i hk
      rw [if_neg hk] at h2
      exact cells_inj hl hi h1 h2

theorem newEnv_comp {M : Model} {A : Around} {E : Value → Shared → Prop} {s : Shared} {scope : Scope} {globals : Addr} {closure : List (Str × Addr)} {qual : Str} {func : Option Addr} {code : Value} {around : Env} {builtins : Addr} {Q : Env → Shared → Prop}
    (h : Q (newEnv scope s.heap.objs.size globals (cellsFrom (s.heap.objs.size + 1) scope.names closure) qual func code (some around) builtins)
      { s with heap := pushCells (s.heap.push { cls := .type "dict", data := .dict #[] }) scope.names }) :
    wpAny M A (newFunctionEnv scope globals closure [] qual func code (some around) builtins) Q E s := by
  simp only [newFunctionEnv, Option.isSome_some, if_true]
  refine wpAny_bind (wpAny_alloc ?_)
  refine wpAny_bind (wpAny_layCells _ (fun n k c => rfl) scope.names closure _ _ ?_)
  rw [show ({ s with heap := s.heap.push { cls := .type "dict", data := .dict #[] } } : Shared).heap.objs.size = s.heap.objs.size + 1 from Heap.size_push ..]
  rw [List.forIn_nil]
  exact wpAny_bind (wpAny_pure (wpAny_pure h))


theorem lookup_relS {sc : Scope} : ∀ {names : List (Str × NameKind)} {x : Str} {k : NameKind},
    (names.map fun (n, k) => if (k == NameKind.free && sc.kind == .function && sc.names.lookup n == some .cell) then (n, NameKind.cell) else (n, k)).lookup x = some k →
    ∃ k', names.lookup x = some k' ∧ (k = k' ∨ (k' = .free ∧ k = .cell))
  | [], _, _, h => by simp at h
  | (n, k₀) :: r, x, k, h => by
    have ih := @lookup_relS sc r x k
    have h' : List.lookup x ((if (k₀ == NameKind.free && sc.kind == .function && sc.names.lookup n == some .cell) = true then (n, NameKind.cell) else (n, k₀)) :: (r.map _)) = some k := h
    cases hx : x == n with
    | true =>
      simp only [List.lookup_cons, hx]
      by_cases hc : (k₀ == NameKind.free && sc.kind == .function && sc.names.lookup n == some .cell) = true
      · rw [if_pos hc] at h'
        simp only [List.lookup_cons, hx] at h'
        cases h'
        simp only [Bool.and_eq_true, beq_iff_eq] at hc
        exact ⟨k₀, rfl, .inr ⟨hc.1.1, rfl⟩⟩
      · rw [if_neg hc] at h'
        simp only [List.lookup_cons, hx] at h'
        cases h'
        exact ⟨_, rfl, .inl rfl⟩
    | false =>
      simp only [List.lookup_cons, hx]
      by_cases hc : (k₀ == NameKind.free && sc.kind == .function && sc.names.lookup n == some .cell) = true
      · rw [if_pos hc] at h'
        simp only [List.lookup_cons, hx] at h'
        exact ih h'
      · rw [if_neg hc] at h'
        simp only [List.lookup_cons, hx] at h'
        exact ih h'
structure BlkOk (N : List Str) (sc scope : Scope) (own : List (Str × Nat)) : Prop where
  kind : scope.kind = .function
  uniq : ∀ y ∈ scope.names, scope.names.lookup y.1 = some y.2
  ix : ∀ p ∈ own, N[p.2]? = some p.1
  free : ∀ y ∈ scope.names, y.2 = .free → sc.names.lookup y.1 = some .cell ∨ sc.names.lookup y.1 = some .free
  own : ∀ y ∈ scope.names, y.2 = .local ∨ y.2 = .cell → y.1 ∈ own.map (·.1) ∨ y.1 ∉ N

def wipe (σ : St) : List Nat → St
  | [] => σ
  | v :: vs => (wipe σ vs).set v none
theorem wipe_length (σ : St) : ∀ vs : List Nat, (wipe σ vs).length = σ.length
  | [] => rfl
  | v :: vs => by unfold wipe; rw [List.length_set, wipe_length σ vs]
theorem wipe_some {σ : St} {i : Nat} {x : V} : ∀ {vs : List Nat}, (wipe σ vs)[i]? = some (some x) → σ[i]? = some (some x) ∧ i ∉ vs
  | [], h => ⟨h, by simp⟩
  | v :: vs, h => by
    unfold wipe at h
    by_cases hi : v = i
    · subst hi
      by_cases hv : v < (wipe σ vs).length
      · rw [List.getElem?_set_self hv] at h; cases h
      · rw [List.getElem?_eq_none (by simpa using hv)] at h; cases h
    · rw [List.getElem?_set_ne hi] at h
      obtain ⟨h1, h2⟩ := wipe_some h
      exact ⟨h1, by simp only [List.mem_cons, not_or]; exact ⟨fun e => hi e.symm, h2⟩⟩


abbrev Cx.blk (X : Cx) (s : Shared) (H : Hp) (scope : Scope) (cenv : Env) (fp : List Addr) : Cx := { X with s_0 := s, H_0 := H, env := cenv, outer := X.stack, ex := fp, fn := fun x => scope.names.lookup x == some .cell, pn := [], xe := fun _ _ => False }
section
variable {X : Cx} {pins : List (Addr × Obj)} {σ : St} {H : Hp} {s : Shared}
theorem block_start {scope : Scope} {own : List (Str × Nat)} {fp : List Addr} (I : Inv X pins σ H s) (ok : BlkOk X.N X.env.scope scope own) (hN : X.N.Nodup) (hfp : ∀ b ∈ fp, FpOk X pins H b ∧ b < s.heap.objs.size) :
    Inv (X.blk s H scope (compEnvC scope (cellsFrom (s.heap.objs.size + 1) scope.names (cloFrom X.env.cells scope.names [])) s.heap.objs.size X.env) fp) [] (wipe σ (own.map (·.2))) H { s with heap := pushCells (s.heap.push { cls := .type "dict", data := .dict #[] }) scope.names } := by
  have hfree : ∀ y ∈ scope.names, y.2 = .free → ∃ c, X.env.cells.lookup y.1 = some c := fun y hy e => by
    rcases ok.free y hy e with k | k
    · exact I.ok.has _ (.inl k)
    · exact I.ok.has _ (.inr k)
  generalize hcenv : compEnvC scope (cellsFrom (s.heap.objs.size + 1) scope.names (cloFrom X.env.cells scope.names [])) s.heap.objs.size X.env = cenv
  have kp : ∀ b o, s.heap.get? b = some o → (pushCells (s.heap.push { cls := .type "dict", data := .dict #[] }) scope.names).get? b = some o := fun b o e => pushCells_keeps _ _ _ _ (Heap.get?_push_of_some _ e)
  have hL : cenv.locals = s.heap.objs.size := by rw [← hcenv]; rfl
  have hcl : cenv.cells = cellsFrom (s.heap.objs.size + 1) scope.names (cloFrom X.env.cells scope.names []) := by rw [← hcenv]; rfl
  have hsc : cenv.scope = relS scope X.env.scope := by rw [← hcenv]; rfl
  rw [← Heap.size_push s.heap { cls := .type "dict", data := .dict #[] }] at hcl
  have cm : ∀ {y c}, (y, c) ∈ cloFrom X.env.cells scope.names [] → X.env.cells.lookup y = some c ∧ c < s.heap.objs.size := fun {y c} hm => by
    rcases cloFrom_mem hm with hm | ⟨h1, rfl⟩
    · cases hm
    · obtain ⟨c, hc⟩ := hfree _ h1 rfl
      rw [hc]
      obtain ⟨w, z⟩ := I.cell _ _ hc
      exact ⟨rfl, z.lt⟩
  have mem : ∀ {y c}, cenv.cells.lookup y = some c → (X.env.cells.lookup y = some c ∧ c < s.heap.objs.size) ∨ (s.heap.objs.size + 1 ≤ c ∧ CellAt (pushCells (s.heap.push { cls := .type "dict", data := .dict #[] }) scope.names) c none) := fun {y c} e => by
    rw [hcl] at e
    rcases cells_mem (PySem.mem_of_lookup e) with hm | ⟨_, h2, h3⟩
    · exact .inl (cm hm)
    · rw [Heap.size_push] at h2; exact .inr ⟨h2, h3⟩
  have look : ∀ {y}, scope.names.lookup y = some .free → ∃ c, cenv.cells.lookup y = some c ∧ X.env.cells.lookup y = some c := fun {y} hl => by
    have hy : (y, NameKind.free) ∈ scope.names := PySem.mem_of_lookup hl
    obtain ⟨c', e'⟩ := mem_lookup (cells_acc (names := scope.names) (n := (s.heap.push { cls := .type "dict", data := .dict #[] }).objs.size) (cloFrom_has (cells := X.env.cells) (acc := []) hy))
    rw [← hcl] at e'
    refine ⟨c', e', ?_⟩
    rw [hcl] at e'
    rcases cells_mem (PySem.mem_of_lookup e') with hm | ⟨h1, _, _⟩
    · exact (cm hm).1
    · have := ok.uniq _ h1
      rw [hl] at this; cases this
  have okB : (X.blk s H scope cenv fp).Ok := by
    refine ⟨I.ok.mod, by show cenv.scope.kind = _; rw [hsc]; exact ok.kind, by show cenv.globals = _; rw [← hcenv]; exact I.ok.glob, by show cenv.builtins = _; rw [← hcenv]; exact I.ok.blt, by show s.heap.objs.size ≤ cenv.locals; rw [hL]; exact Nat.le_refl _,
      fun y z c e1 e2 => ?_, fun y hy => ?_, fun y c z e => ?_, I.ok.hd, I.ok.frames, .inl rfl, fun b hb => ⟨?_, fun y c e z => ?_⟩, I.bs, Nat.le_trans I.ok.bsz I.sz, fun b o e hb => ?_, fun b hb z => ?_, I.stack, I.stkFree⟩
    · have e1 : cenv.cells.lookup y = some c := e1
      have e2 : cenv.cells.lookup z = some c := e2
      rw [hcl] at e1 e2
      refine cells_inj (fun p hp => ?_) (fun y z c a b => I.ok.inj y z c (cm a).1 (cm b).1) (PySem.mem_of_lookup e1) (PySem.mem_of_lookup e2)
      rw [Heap.size_push]
      exact Nat.lt_succ_of_lt (cm (y := p.1) (c := p.2) hp).2
    · show ∃ c, cenv.cells.lookup y = some c
      have key : ∀ k, cenv.kindOf y = some k → (k = .cell ∨ k = .free) → ∃ c, cenv.cells.lookup y = some c := fun k hk hk' => by
        unfold Env.kindOf at hk
        rw [hsc] at hk
        obtain ⟨k', e, r⟩ := lookup_relS hk
        have : k' = .cell ∨ k' = .free := by
          rcases r with rfl | ⟨rfl, _⟩
          · exact hk'
          · exact .inr rfl
        rcases this with rfl | rfl
        · obtain ⟨c, hm⟩ := cells_has (n := (s.heap.push { cls := .type "dict", data := .dict #[] }).objs.size) (acc := cloFrom X.env.cells scope.names []) (PySem.mem_of_lookup e)
          obtain ⟨c', e'⟩ := mem_lookup hm
          exact ⟨c', by rw [hcl]; exact e'⟩
        · obtain ⟨c, h1, _⟩ := look e
          exact ⟨c, h1⟩
      rcases hy with hy | hy
      · exact key _ hy (.inl rfl)
      · exact key _ hy (.inr rfl)
    · have z : (scope.names.lookup y == some NameKind.cell) = true := z
      have z : scope.names.lookup y = some .cell := by simpa using z
      have e : cenv.cells.lookup y = some c := e
      rw [hcl] at e
      rcases cells_mem (PySem.mem_of_lookup e) with hm | ⟨_, h2, _⟩
      · rcases cloFrom_mem hm with hm | ⟨h1, _⟩
        · cases hm
        · have q := ok.uniq _ h1
          rw [z] at q; cases q
      · rw [Heap.size_push] at h2
        exact Nat.le_of_succ_le h2
    · show b ≠ cenv.locals
      rw [hL]; exact Nat.ne_of_lt (hfp b hb).2
    · have e : cenv.cells.lookup y = some c := e
      rcases mem e with ⟨h1, _⟩ | ⟨h1, _⟩
      · exact (hfp b hb).1.2.2.2.2.1 y c h1 z
      · have h2 : s.heap.objs.size + 1 ≤ b := by rw [← z]; exact h1
        exact absurd (Nat.lt_of_lt_of_le (hfp b hb).2 (Nat.le_of_succ_le h2)) (Nat.lt_irrefl _)
    · rcases (hfp b hb).1.2.2.2.1 with z | z
      · exact I.ok.noex b o e z
      · exact absurd (Nat.lt_of_lt_of_le (Heap.lt_size e) (Nat.le_trans I.ok.bsz z)) (Nat.lt_irrefl _)
    · rcases List.mem_cons.mp (I.stkSub b z) with z | z
      · exact (hfp b hb).1.2.1 z
      · exact (hfp b hb).1.2.2.1 z
  refine ⟨okB, rfl, I.bare, Un.kept kp, ⟨fun _ => none, ?_, fun i y av e1 e2 e3 => ?_⟩, fun y c e => ?_, ?_, fun y c e => ?_, fun p hp => ?_, I.hok.kept kp, by rw [wipe_length]; exact I.len⟩
  · show Heap.Ns _ cenv.locals _
    rw [hL]
    exact Heap.Ns.keeps (Heap.Ns.new ..) fun b o e => pushCells_keeps _ _ _ _ e
  · obtain ⟨e2, hne⟩ := wipe_some e2
    have hfr : scope.names.lookup y = some .free ∧ (cenv.kindOf y = some .cell ∨ cenv.kindOf y = some .free) := by
      have key : ∀ k, cenv.scope.names.lookup y = some k → k = .local ∨ k = .cell ∨ k = .free → scope.names.lookup y = some .free ∧ (cenv.kindOf y = some .cell ∨ cenv.kindOf y = some .free) := fun k hk hk' => by
        have hk0 := hk
        rw [hsc] at hk
        obtain ⟨k', e, r⟩ := lookup_relS hk
        have no : ¬ (k' = .local ∨ k' = .cell) := fun hh => by
          rcases ok.own _ (PySem.mem_of_lookup e) hh with e' | e'
          · obtain ⟨p, hp, hpy⟩ := List.mem_map.mp e'
            have e3 := ok.ix p hp
            have : p.1 = y := hpy
            rw [this] at e3
            exact hne (List.mem_map.mpr ⟨p, hp, nodup_ix hN e3 e1⟩)
          · exact e' (List.mem_of_getElem? e1)
        rcases r with rfl | ⟨rfl, rfl⟩
        · rcases hk' with rfl | rfl | rfl
          · exact absurd (.inl rfl) no
          · exact absurd (.inr rfl) no
          · exact ⟨e, .inr hk0⟩
        · exact ⟨e, .inl hk0⟩
      have e3 : Vis cenv.scope y := e3
      rcases e3 with e3 | e3 | e3
      · exact key _ e3 (.inl rfl)
      · exact key _ e3 (.inr (.inl rfl))
      · exact key _ e3 (.inr (.inr rfl))
    obtain ⟨m, hn, hl⟩ := I.loc
    have hvis : Vis X.env.scope y := (ok.free _ (PySem.mem_of_lookup hfr.1) rfl).elim (fun k => .inr (.inl k)) (fun k => .inr (.inr k))
    obtain ⟨w, r, q⟩ := hl i y av e1 e2 hvis
    refine ⟨w, r, .inr ⟨hfr.2, ?_⟩⟩
    obtain ⟨c, h1, h2⟩ := look hfr.1
    rcases q with ⟨k, _⟩ | ⟨_, c', e', z⟩
    · have k : X.env.scope.names.lookup y = some .local := k
      rcases ok.free _ (PySem.mem_of_lookup hfr.1) rfl with k' | k' <;> rw [show X.env.scope.names.lookup y = _ from k'] at k <;> cases k
    · rw [h2] at e'; cases e'
      exact ⟨c, h1, z.keeps kp⟩
  · have e : cenv.cells.lookup y = some c := e
    rcases mem e with ⟨h1, _⟩ | ⟨_, z⟩
    · obtain ⟨w, z⟩ := I.cell y c h1
      exact ⟨w, z.keeps kp⟩
    · exact ⟨_, z⟩
  · show H cenv.locals = none
    rw [hL]; exact I.hok.fresh (Nat.le_refl _)
  · have e : cenv.cells.lookup y = some c := e
    rcases mem e with ⟨h1, _⟩ | ⟨h1, _⟩
    · exact I.freeC y c h1
    · exact I.hok.fresh (Nat.le_of_succ_le h1)
  · exact absurd (show p ∈ ([] : List (Addr × Obj)) ++ [] from hp) (by simp)


theorem app_ok {E : Value → Shared → Prop} {D : Addr} {xs : List V} {y : V} {v : Value} {Q : Value → Shared → Prop} (I : Inv X pins σ H s) (hD : H D = some (.lst xs)) (hz : xs.length < sizeLine) (r : RelV y v)
    (h : ∀ s', Inv X pins σ (upd H D (.lst (xs ++ [y]))) s' → Q .none s') : wpAny (model X.prog X.w) X.A (call (.builtin "list.append") [.ref D, v]) Q E s := by
  obtain ⟨hz', its, n, ri, e⟩ := I.hok D _ hD
  have hl := ri.length
  refine append_at (hsz := by rw [List.size_toArray]; omega) e fun h' sb ho' => ?_
  refine h { s with heap := h' } (I.write (t' := s.toks) (by rw [hD]; trivial) (.inl rfl) (fun b u hb q => (sb.2 b hb).trans q) ⟨_, ho'⟩ ⟨by rw [List.length_append]; exact hz, its ++ [v], n + 1, ri.append (.cons r .nil), ?_⟩)
  rw [ho']
  simp


def PTs (X : Cx) (ifs : List Expr) (t : TT) : Prop :=
  ∀ (pins : List (Addr × Obj)) (s : Shared) (σ : St) (H : Hp) (Q : Bool → Hp → Prop), Inv X pins σ H s → t σ H Q →
    wpAny (model X.prog X.w) X.A (forIn ifs true fun c r => if r = true then do let ok ← isTrue c X.env (eval c X.env); pure (ForInStep.yield ok) else pure (ForInStep.yield r)) (TP X pins σ Q) X.xe s
def tYes : TT := fun _ H Q => Q true H
theorem pts_nil : PTs X [] tYes := fun _ _ _ H _ I h => wpAny_tests_nil ⟨H, I, h⟩
end
theorem thnF {α : Type} {t : Sem α} {Q Q' : α → Shared → Prop} {M : Model} {A : Around} {E : Value → Shared → Prop} {s : Shared} (h : wpAny M A t Q (fun _ _ => False) s) (hQ : ∀ a s, Q a s → Q' a s) : wpAny M A t Q' E s := wpAny_mono h hQ fun _ _ z => False.elim z


theorem compLoop_any {prog : Program} {w : World} {A : Around} {R : Result → Shared → Prop} {s : Shared} {elt target iter : Expr} {ifs : List Expr} {scope : Scope} {pos : Pos} {it acc : Value} {env : Env} (I : Nat → Shared → Prop)
    (turn : ∀ n s, I n s → wpAny (model prog w) A (pyNext it) (fun r s₁ => match r with
      | none => R (.ok .next) s₁
      | some v => wpAny (model prog w) A (letOwnedTupleGo target it v) (fun _ s₁' => wpAny (model prog w) A (assign target env v) (fun _ s₂ =>
          wpAny (model prog w) A (forIn ifs true fun c r => if r = true then do let ok ← isTrue c env (eval c env); pure (ForInStep.yield ok) else pure (ForInStep.yield r)) (fun ok s₃ =>
            if ok = true then wpAny (model prog w) A (eval elt env) (fun x s₄ =>
              wpAny (model prog w) A (call (.builtin "list.append") [acc, x]) (fun _ s₅ => ∃ m, m < n ∧ I m s₅) (notedBy (model prog w) A env fun e s' => R (.error e) s') s₄) (notedBy (model prog w) A env fun e s' => R (.error e) s') s₃
            else ∃ m, m < n ∧ I m s₃) (notedBy (model prog w) A env fun e s' => R (.error e) s') s₂) (notedBy (model prog w) A env fun e s' => R (.error e) s') s₁') (notedBy (model prog w) A env fun e s' => R (.error e) s') s₁) (notedBy (model prog w) A env fun e s' => R (.error e) s') s)
    (n : Nat) (h : I n s) :
    codeAny (model prog w) A (.compLoop (.ListComp elt [⟨target, iter, ifs, 0⟩] scope pos) 0 it acc env) R s := by
  refine codeAny_loop rfl I (fun n s hI => ?_) n h
  show wpAny _ A ((compTurn (.ListComp elt [⟨target, iter, ifs, 0⟩] scope pos) 0 it acc env).onRaise (fun x => do noteFrame x env; theTreesLotGoes x)) _ _ s
  refine wpAny_noted ?_
  rw [compTurn_list]
  refine wpAny_bind (wpAny_standAt (wpAny_bind (wpAny_mono (turn n s hI) (fun r s₁ h₁ => ?_) fun _ _ h' => h')))
  cases r with
  | none => exact wpAny_pure h₁
  | some v =>
    refine wpAny_bind (wpAny_mono h₁ (fun _ s₁' h₁' => ?_) fun _ _ h' => h')
    refine wpAny_bind (wpAny_mono h₁' (fun _ s₂ h₂ => wpAny_bind (wpAny_mono h₂ (fun ok s₃ h₃ => ?_) fun _ _ h' => h')) fun _ _ h' => h')
    cases ok with
    | false => exact wpAny_pure ⟨rfl, h₃⟩
    | true =>
      exact wpAny_bind (wpAny_bind (wpAny_mono h₃ (fun x s₄ h₄ => wpAny_bind (wpAny_mono h₄ (fun _ s₅ h₅ => wpAny_pure (wpAny_pure ⟨rfl, h₅⟩)) fun _ _ h' => h')) fun _ _ h' => h'))

section
variable {X : Cx}
def tLc (wi : TI) (g : TG) (tt : TT) (te : TE) (vs : List Nat) : TE := fun σ H Q => wi σ H fun J H1 => ∀ D, H1 D = none → ∃ W : Nat → Nat → Hp → Prop, (∃ m, W 0 m (upd H1 D (.lst []))) ∧ ∀ i m H, W i m H →
  (J.stop i H ∧ Q (.ref D) H) ∨ (J.go i H ∧ ∃ Nx : Hp → Prop, (∀ H', Nx H' → ∃ m', m' < m ∧ W (i + 1) m' H') ∧ ∀ x H', J.yld i H x H' → g x (wipe σ vs) H' fun σ2 H2 => wipe σ2 vs = wipe σ vs ∧ tt σ2 H2 fun b H3 =>
    if b = true then te σ2 H3 fun y H4 => ∃ acc, H4 D = some (.lst acc) ∧ acc.length < sizeLine ∧ Nx (upd H4 D (.lst (acc ++ [y]))) else Nx H3)

def PEw (X : Cx) (vs : List Nat) (σw : St) (e : Expr) (t : TE) : Prop :=
  ∀ (pins : List (Addr × Obj)) (s : Shared) (σ : St) (H : Hp) (Q : VK), Inv X pins σ H s → wipe σ vs = σw → t σ H Q → wpAny (model X.prog X.w) X.A (eval e X.env) (EP X pins σ Q) X.xe s
theorem PE.w {X : Cx} {vs : List Nat} {σw : St} {e : Expr} {t : TE} (h : PE X e t) : PEw X vs σw e t := fun pins s σ H Q I _ q => h pins s σ H Q I q
theorem lc_core {pins : List (Addr × Obj)} {s : Shared} {σ : St} {H : Hp} {Q : VK} {elt tg iter : Expr} {ifs : List Expr} {scope : Scope} {own : List (Str × Nat)} {pos pos' : Pos} {wi : TI} {g : TG} {tt : TT} {te : TE} {use : Option (Value → Sem Unit)} {Qf : Value → Shared → Prop}
    (hc : X.calm = true) (hN : X.N.Nodup) (I : Inv X pins σ H s) (hi : PI X tg iter wi) (ok : BlkOk X.N X.env.scope scope own)
    (hg : ∀ (s : Shared) (H : Hp) (C : Addr) (cl : List (Str × Addr)) (fp : List Addr), PG (X.blk s H scope (compEnvC scope cl C X.env) fp) tg g) (ht : ∀ (s : Shared) (H : Hp) (C : Addr) (cl : List (Str × Addr)) (fp : List Addr), PTs (X.blk s H scope (compEnvC scope cl C X.env) fp) ifs tt)
    (he : ∀ (s : Shared) (H : Hp) (C : Addr) (cl : List (Str × Addr)) (fp : List Addr) (pins0 : List (Addr × Obj)) (σ0 : St), Inv X pins0 σ0 H s → (∀ b ∈ fp, ∀ x c, X.env.cells.lookup x = some c → c ≠ b) → PEw (X.blk s H scope (compEnvC scope cl C X.env) fp) (own.map (·.2)) (wipe σ0 (own.map (·.2))) elt te) (hs : ∀ x, foldedSetIterable iter X.env x = pure x)
    (h : tLc wi g tt te (own.map (·.2)) σ H Q)
    (hRR : ∀ D C s' m H', Inv X pins σ H' s' → Q (.ref D) H' → s'.heap.Ns C m → FpOk X pins H' C → compPost (model X.prog X.w) X.A X.xe use Qf (.ref D) C (.ok .next) s') :
    wpAny (model X.prog X.w) X.A (comprehension (.ListComp elt [⟨tg, iter, ifs, 0⟩] scope pos) scope X.env pos' (newList []) false (eval iter X.env) use) Qf X.xe s := by
  have hfree : ∀ y ∈ scope.names, y.2 = .free → ∃ c, X.env.cells.lookup y.1 = some c := fun y hy e => by
    rcases ok.free y hy e with k | k
    · exact I.ok.has _ (.inl k)
    · exact I.ok.has _ (.inr k)
  refine wpAny_comprehension_free (use := use) rfl hs (closure_ok hfree) ok.kind (fun y hy e => by rw [ok.uniq y hy, e])
    (thn (hi pins s σ H _ I h) fun xv s1 hx => thn hx fun itv s2 h2 => ?_)
  obtain ⟨it, fp, tn, J, H2, e, I2, T, st2, f2, q⟩ := h2
  subst e
  refine wpAny_newObj_type (newEnv_comp ?_) (by show 0 ≤ sizeLine; decide)
  generalize hD : s2.heap.objs.size = D
  have hDn : H2 D = none := I2.hok.fresh (Nat.le_of_eq hD)
  obtain ⟨W, ⟨m0, w0⟩, turn⟩ := q D hDn
  -- the new list
  generalize hs3 : ({ s2 with heap := s2.heap.push { cls := .type "list", data := .seq ([] : List Value).toArray } } : Shared) = s3
  have I3 : Inv X pins σ (upd H2 D (.lst [])) s3 := by
    rw [← hs3]
    refine I2.laid (t' := s2.toks) (fun b o e => Heap.get?_push_of_some _ e) (Nat.le_of_eq hD) ⟨Nat.zero_le _, [], 0, .nil, ?_⟩
    rw [← hD]
    exact Heap.get?_push_size _ rfl
  have h3 : s3.heap = s2.heap.push { cls := .type "list", data := .seq ([] : List Value).toArray } := by rw [← hs3]
  have sz : ∀ b ∈ fp, b < s2.heap.objs.size := fun b hb => by
    obtain ⟨o, e, _⟩ := T.obj _ _ st2 b hb
    exact Heap.lt_size e
  have f3 : ∀ b ∈ fp, FpOk X pins (upd H2 D (.lst [])) b ∧ b < s3.heap.objs.size := fun b hb => by
    have hlt := sz b hb
    refine ⟨⟨?_, (f2 b hb).2⟩, by rw [h3, Heap.size_push]; exact Nat.lt_succ_of_lt hlt⟩
    rw [upd_ne (by rw [← hD]; exact Nat.ne_of_lt hlt)]
    exact (f2 b hb).1
  have st3 : tn 0 s3.heap := T.keep _ _ _ st2 fun b _ o e => by rw [h3]; exact Heap.get?_push_of_some _ e
  have I4 := block_start I3 ok hN f3
  have pg := hg s3 (upd H2 D (.lst [])) s3.heap.objs.size (cellsFrom (s3.heap.objs.size + 1) scope.names (cloFrom X.env.cells scope.names [])) fp
  have pt := ht s3 (upd H2 D (.lst [])) s3.heap.objs.size (cellsFrom (s3.heap.objs.size + 1) scope.names (cloFrom X.env.cells scope.names [])) fp
  have pe := he s3 (upd H2 D (.lst [])) s3.heap.objs.size (cellsFrom (s3.heap.objs.size + 1) scope.names (cloFrom X.env.cells scope.names [])) fp pins σ I3 fun b hb => (f3 b hb).1.2.2.2.2.1
  show codeAny _ _ (.compStart (.ListComp elt [⟨tg, iter, ifs, 0⟩] scope pos) 0 (.ref it) (.ref D) (compEnvC scope (cellsFrom (s3.heap.objs.size + 1) scope.names (cloFrom X.env.cells scope.names [])) s3.heap.objs.size X.env)) (compPost (model X.prog X.w) X.A X.xe use Qf (.ref D) s3.heap.objs.size) { s3 with heap := pushCells (s3.heap.push { cls := .type "dict", data := .dict #[] }) scope.names }
  have nfp : ∀ b ∈ fp, (upd H2 D (.lst [])) b = none := fun b hb => (f3 b hb).1.1
  generalize hce : compEnvC scope (cellsFrom (s3.heap.objs.size + 1) scope.names (cloFrom X.env.cells scope.names [])) s3.heap.objs.size X.env = ce at I4 pg pt pe ⊢
  have cL : ce.locals = s3.heap.objs.size := by subst hce; rfl
  generalize hH3 : upd H2 D (.lst []) = H3 at I3 I4 pg pt pe w0 nfp f3
  generalize hs4 : ({ s3 with heap := pushCells (s3.heap.push { cls := .type "dict", data := .dict #[] }) scope.names } : Shared) = s4 at I4 ⊢
  have st4 : tn 0 s4.heap := T.keep _ _ _ st3 fun b _ o e => by rw [← hs4]; exact pushCells_keeps _ _ _ _ (Heap.get?_push_of_some _ e)
  have stat : ∀ {σ' : St} {H' : Hp} {s' : Shared}, Inv (X.blk s3 H3 scope ce fp) [] σ' H' s' → (∀ b ∈ fp, H' b = none) → ∀ b ∈ fp, FpOk (X.blk s3 H3 scope ce fp) [] H' b := fun {σ' H' s'} I' hn b hb =>
    ⟨hn b hb, (I'.ok.exf b hb).1, I'.ok.exfs b hb, .inl hb, fun x c e => (I'.ok.exf b hb).2 x c e, fun p hp => absurd (show p ∈ ([] : List (Addr × Obj)) ++ [] from hp) (by simp)⟩
  have loop : codeAny (model X.prog X.w) X.A (.compLoop (.ListComp elt [⟨tg, iter, ifs, 0⟩] scope pos) 0 (.ref it) (.ref D) ce) (compPost (model X.prog X.w) X.A X.xe use Qf (.ref D) s3.heap.objs.size) s4 := by
    refine compLoop_any (fun n s' => ∃ i H', Inv (X.blk s3 H3 scope ce fp) [] (wipe σ (own.map (·.2))) H' s' ∧ tn i s'.heap ∧ (∀ b ∈ fp, H' b = none) ∧ W i n H') ?_ m0 ⟨0, H3, I4, st4, nfp, w0⟩
    rintro n s5 ⟨i, H5, I5, st5, n5, w5⟩
    rcases turn i n H5 w5 with ⟨stop, qq⟩ | ⟨go, Nx, hNx, step⟩
    · have td := T.done (X.blk s3 H3 scope ce fp) rfl rfl rfl hc i [] s5 _ H5 (fun _ _ => False) I5 (stat I5 n5) st5 stop
      refine thnF td fun r s6 ⟨hr, I6⟩ => ?_
      subst hr
      -- back in the def's context
      have I7 : Inv X pins σ H5 s6 := I3.call' (ch := fp) I6.os I6.base I6.hok I6.bare fun b hb => ⟨(f3 b hb).1.2.2.2.1, (f3 b hb).1.2.1, (f3 b hb).1.2.2.2.2.1, (f3 b hb).1.2.2.2.2.2⟩
      have nC : H5 s3.heap.objs.size = none := by
        have z : H5 ce.locals = none := I6.free
        rw [cL] at z
        exact z
      obtain ⟨m, hn, _⟩ := I6.loc
      have hn : s6.heap.Ns ce.locals m := hn
      rw [cL] at hn
      exact hRR D s3.heap.objs.size s6 m H5 I7 qq hn (I3.fpOk (Nat.le_refl _) nC)
    · have ti := T.item (X.blk s3 H3 scope ce fp) rfl rfl rfl hc i [] s5 _ H5 (fun _ _ => False) I5 (stat I5 n5) st5 go
      refine thnF ti fun r s6 ⟨u, hr, h6⟩ => ?_
      subst hr
      refine thnF h6 fun _ s7 ⟨x, H7, I7, r7, y7, st7, n7⟩ => ?_
      have I7' := I7.pinned (stat I7 n7) (T.obj _ _ st7)
      refine thnF (pg _ s7 _ H7 x u _ I7' r7 (step x H7 y7)) fun _ s8 ⟨σ8, H8, I8, hw8, q8⟩ => ?_
      refine thnF (pt _ s8 σ8 H8 _ I8 q8) fun b s9 ⟨H9, I9, q9⟩ => ?_
      -- the turn's end
      have fin : ∀ {s' : Shared} {H' : Hp}, Inv (X.blk s3 H3 scope ce fp) ([] ++ pinsAt fp s7.heap) σ8 H' s' → Nx H' → ∃ m, m < n ∧ ∃ i H', Inv (X.blk s3 H3 scope ce fp) [] (wipe σ (own.map (·.2))) H' s' ∧ tn i s'.heap ∧ (∀ b ∈ fp, H' b = none) ∧ W i m H' := fun {s' H'} I' nx => by
        obtain ⟨m', hm, w'⟩ := hNx H' nx
        have pin' : ∀ b ∈ fp, ∀ o, s7.heap.get? b = some o → s'.heap.get? b = some o ∧ H' b = none := fun b hb o e =>
          let z := I'.pin (b, o) (List.mem_append_right _ (List.mem_append_right _ (mem_pinsAt hb e)))
          ⟨z.1, z.2.1⟩
        have hl : (wipe σ (own.map (·.2))).length = σ8.length := by rw [← hw8, wipe_length]
        refine ⟨m', hm, i + 1, H', (I'.unpinned (pins := [])).weak hl (fun j v e => ?_), T.keep _ _ _ st7 fun b hb o e => (pin' b hb o e).1, fun b hb => ?_, w'⟩
        · rw [← hw8] at e
          exact (wipe_some e).1
        · obtain ⟨o, e, _⟩ := T.obj _ _ st7 b hb
          exact (pin' b hb o e).2
      cases b with
      | false =>
        simp only [Bool.false_eq_true, if_false] at q9 ⊢
        exact fin I9 q9
      | true =>
        simp only [if_true] at q9 ⊢
        refine thnF (pe _ s9 σ8 H9 _ I9 hw8 q9) fun z s10 ⟨yv, H10, I10, r10, acc, hD10, hz10, nx⟩ => ?_
        exact app_ok (X := X.blk s3 H3 scope ce fp) I10 hD10 hz10 r10 fun s11 I11 => fin I11 nx
  exact codeAny_compStart_list loop (T.self X.A 0 _ _ _ st4 loop)

theorem pe_lc {elt tg iter : Expr} {ifs : List Expr} {scope : Scope} {own : List (Str × Nat)} {pos : Pos} {wi : TI} {g : TG} {tt : TT} {te : TE} (hc : X.calm = true) (hN : X.N.Nodup) (hi : PI X tg iter wi) (ok : BlkOk X.N X.env.scope scope own)
    (hg : ∀ (s : Shared) (H : Hp) (C : Addr) (cl : List (Str × Addr)) (fp : List Addr), PG (X.blk s H scope (compEnvC scope cl C X.env) fp) tg g) (ht : ∀ (s : Shared) (H : Hp) (C : Addr) (cl : List (Str × Addr)) (fp : List Addr), PTs (X.blk s H scope (compEnvC scope cl C X.env) fp) ifs tt)
    (he : ∀ (s : Shared) (H : Hp) (C : Addr) (cl : List (Str × Addr)) (fp : List Addr) (pins0 : List (Addr × Obj)) (σ0 : St), Inv X pins0 σ0 H s → (∀ b ∈ fp, ∀ x c, X.env.cells.lookup x = some c → c ≠ b) → PEw (X.blk s H scope (compEnvC scope cl C X.env) fp) (own.map (·.2)) (wipe σ0 (own.map (·.2))) elt te) (hs : ∀ x, foldedSetIterable iter X.env x = pure x := by intro _; rfl) :
    PE X (.ListComp elt [⟨tg, iter, ifs, 0⟩] scope pos) (tLc wi g tt te (own.map (·.2))) := by
  intro pins s σ H Q I h
  rw [eval_ListComp]
  refine lc_core hc hN I hi ok hg ht he hs h fun D C s' m H' I' q hn f => ⟨m, hn, fun h'' sb => ?_⟩
  obtain ⟨f0, f1, f2, f3, f4, f5⟩ := f
  exact ⟨.ref D, H', I'.turned (t' := s'.toks) (fun b o hb e => (sb.2 b hb).trans e) f0 f1 f3 f4 f5, rfl, q⟩

end
end L2
namespace L2
open PySem PySem.Spec PyProof.Rows
section
variable {prog : Program} {w : World} {A : Around} {R : Result → Shared → Prop} {s : Shared} {elt t0 i0 t1 i1 : Expr} {ifs0 ifs1 : List Expr} {scope : Scope} {pos : Pos} {it acc : Value} {env : Env}
end
theorem wipe_out {σ : St} {i : Nat} : ∀ {vs : List Nat}, i ∉ vs → (wipe σ vs)[i]? = σ[i]?
  | [], _ => rfl
  | v :: vs, h => by
    have h1 : v ≠ i := fun e => h (by rw [e]; exact List.mem_cons_self)
    have h2 : i ∉ vs := fun m => h (List.mem_cons_of_mem _ m)
    unfold wipe
    rw [List.getElem?_set_ne h1]
    exact wipe_out h2
section
variable {X : Cx}
end
end L2
namespace L2
open PySem PySem.Spec PyProof.Rows
section
variable {κ : Type} [DecidableEq κ]
def valV (kvs : List (κ × V)) (k : κ) : Option V := (kvs.find? fun kv => decide (kv.1 = k)).map (·.2)

def putK (kvs : List (κ × V)) (k : κ) (v : V) : List (κ × V) :=
  if (kvs.any fun kv => decide (kv.1 = k)) = true then kvs.map (fun kv => if kv.1 = k then (kv.1, v) else kv) else kvs ++ [(k, v)]
def dropK (kvs : List (κ × V)) (k : κ) : List (κ × V) := kvs.filter fun kv => decide (kv.1 ≠ k)

theorem valV_pos {p : κ × V} {r : List (κ × V)} {k : κ} (e : p.1 = k) : valV (p :: r) k = some p.2 := by simp [valV, List.find?_cons, e]
theorem valV_neg {p : κ × V} {r : List (κ × V)} {k : κ} (e : ¬ p.1 = k) : valV (p :: r) k = valV r k := by simp [valV, List.find?_cons, e]
theorem RelO.getD {o : Option V} {u : Option Value} {d : V} {d' : Value} (r : RelO o u) (rd : RelV d d') : RelV (o.getD d) (u.getD d') := by
  cases o with
  | none => cases u with
    | none => exact rd
    | some _ => exact (show False from r).elim
  | some _ => cases u with
    | none => exact (show False from r).elim
    | some _ => exact r


theorem KV.val {kvs : List (κ × V)} {vs : List (κ × Value)} (r : KV kvs vs) (k : κ) : RelO (valV kvs k) (valueAt vs k) := by
  unfold KV at r
  induction r with
  | nil => exact True.intro
  | @cons p q ps qs h t ih =>
    obtain ⟨h1, h2⟩ := h
    by_cases e : p.1 = k
    · have e' : q.1 = k := h1.symm.trans e
      have b : valueAt (q :: qs) k = some q.2 := by simp [valueAt, List.find?_cons, e']
      rw [valV_pos e, b]; exact h2
    · have e' : ¬ q.1 = k := fun z => e (h1.trans z)
      have b : valueAt (q :: qs) k = valueAt qs k := by simp [valueAt, List.find?_cons, e']
      rw [valV_neg e, b]; exact ih
theorem KV.any {kvs : List (κ × V)} {vs : List (κ × Value)} (r : KV kvs vs) (k : κ) : (kvs.any fun kv => decide (kv.1 = k)) = vs.any fun kv => decide (kv.1 = k) := by
  unfold KV at r
  induction r with
  | nil => rfl
  | cons h t ih => rw [List.any_cons, List.any_cons, ih, h.1]
theorem KV.drop {kvs : List (κ × V)} {vs : List (κ × Value)} (r : KV kvs vs) (k : κ) : KV (dropK kvs k) (without vs k) := by
  unfold KV at r ⊢
  unfold dropK without
  induction r with
  | nil => exact .nil
  | @cons p q ps qs h t ih =>
    obtain ⟨h1, h2⟩ := h
    rw [List.filter_cons, List.filter_cons]
    by_cases e : p.1 = k
    · have a : ¬ decide (p.1 ≠ k) = true := by simp [e]
      have b : ¬ decide (q.1 ≠ k) = true := by simp [h1.symm.trans e]
      rw [if_neg a, if_neg b]; exact ih
    · have e' : ¬ q.1 = k := fun z => e (h1.trans z)
      have a : decide (p.1 ≠ k) = true := by simp [e]
      have b : decide (q.1 ≠ k) = true := by simp [e']
      rw [if_pos a, if_pos b]; exact .cons ⟨h1, h2⟩ ih
theorem KV.length {kvs : List (κ × V)} {vs : List (κ × Value)} (r : KV kvs vs) : kvs.length = vs.length := Paired.length r
end
abbrev KT (H : Hp) : List (List Key × V) → List (List Key × Addr × Value) → Prop := Paired fun p q => p.1 = q.1 ∧ H q.2.1 = some (.tup (p.1.map kV)) ∧ RelV p.2 q.2.2
theorem KT.val {H : Hp} {kvs : List (List Key × V)} {xs : List (List Key × Addr × Value)} (r : KT H kvs xs) (k : List Key) : RelO (valV kvs k) ((atKey xs k).map (·.2)) := by
  induction r with
  | nil => exact True.intro
  | @cons p q ps qs h t ih =>
    obtain ⟨h1, _, h2⟩ := h
    by_cases e : p.1 = k
    · have e' : q.1 = k := h1.symm.trans e
      have b : atKey (q :: qs) k = some q.2 := by simp [atKey, List.find?_cons, e']
      rw [valV_pos e, b]; exact h2
    · have e' : ¬ q.1 = k := fun z => e (h1.trans z)
      have b : atKey (q :: qs) k = atKey qs k := by simp [atKey, List.find?_cons, e']
      rw [valV_neg e, b]; exact ih
theorem KT.keeps {H H' : Hp} {kvs : List (List Key × V)} {xs : List (List Key × Addr × Value)} (r : KT H kvs xs) (ht : ∀ b ys, H b = some (.tup ys) → H' b = some (.tup ys)) : KT H' kvs xs :=
  Paired.mapP r fun _ _ z => ⟨z.1, ht _ _ z.2.1, z.2.2⟩

section
variable {P : Program} {w : World} {H : Hp} {h : Heap} {a : Addr}
theorem rd_of {u : HO} (ok : HOk P w H h) (e : Rd H a u) : ObjOk P w H h a u := e.ok ok
theorem dk_rd {kvs : List (Key × V)} (ok : HOk P w H h) (e : Rd H a (.dK kvs)) : kvs.length ≤ sizeLine ∧ (a == sysModules) = false ∧ ∃ vs, KV kvs vs ∧ h.DictOf (mixKind P w) a vs :=
  show ObjOk P w H h a (.dK kvs) from rd_of ok e
end
def DGet (H : Hp) (a : Addr) (y : V) (r : Option V) : Prop :=
  (∃ kvs k, Rd H a (.dK kvs) ∧ y = kV k ∧ r = valV kvs k) ∨ ∃ kvs k b, Rd H a (.dT kvs) ∧ y = .ref b ∧ H b = some (.tup (k.map kV)) ∧ r = valV kvs k

def DPut (H : Hp) (a : Addr) (y v : V) (H' : Hp) : Prop :=
  (∃ kvs k, H a = some (.dK kvs) ∧ y = kV k ∧ kvs.length < sizeLine ∧ H' = upd H a (.dK (putK kvs k v))) ∨
  ∃ kvs k b, H a = some (.dT kvs) ∧ y = .ref b ∧ H b = some (.tup (k.map kV)) ∧ kvs.length < sizeLine ∧ H' = upd H a (.dT (putK kvs k v))
theorem DGet.k {H : Hp} {a : Addr} {kvs : List (Key × V)} {k : Key} (e : H a = some (.dK kvs)) : DGet H a (kV k) (valV kvs k) := .inl ⟨kvs, k, .inl e, rfl, rfl⟩
theorem DGet.t {H : Hp} {a b : Addr} {kvs : List (List Key × V)} {k : List Key} (e : H a = some (.dT kvs)) (eb : H b = some (.tup (k.map kV))) : DGet H a (.ref b) (valV kvs k) := .inr ⟨kvs, k, b, .inl e, rfl, eb, rfl⟩
theorem DPut.k {H : Hp} {a : Addr} {kvs : List (Key × V)} {k : Key} {v : V} (e : H a = some (.dK kvs)) (hl : kvs.length < sizeLine) : DPut H a (kV k) v (upd H a (.dK (putK kvs k v))) := .inl ⟨kvs, k, e, rfl, hl, rfl⟩
theorem DPut.t {H : Hp} {a b : Addr} {kvs : List (List Key × V)} {k : List Key} {v : V} (e : H a = some (.dT kvs)) (eb : H b = some (.tup (k.map kV))) (hl : kvs.length < sizeLine) :
    DPut H a (.ref b) v (upd H a (.dT (putK kvs k v))) := .inr ⟨kvs, k, b, e, rfl, eb, hl, rfl⟩


section
variable {X : Cx} {pins : List (Addr × Obj)} {σ : St} {H : Hp} {s : Shared} {a : Addr} {y v : V} {u r : Value} {o : Option V} {A : Around} {E : Value → Shared → Prop}
end
section
variable {X : Cx} {pins : List (Addr × Obj)} {σ : St} {H : Hp} {s : Shared} {a : Addr} {kvs : List (Key × V)} {k : Key} {u : Value} {A : Around} {E : Value → Shared → Prop}
theorem d_len {Q : Value → Shared → Prop} (I : Inv X pins σ H s) (e : Rd H a (.dK kvs)) (h : ∀ t s', Inv X pins σ H s' → Q (.int kvs.length t) s') : wpAny (model X.prog X.w) A (call (.builtin "len") [.ref a]) Q E s := by
  obtain ⟨z, hd, vs, rel, dd⟩ := dk_rd I.hok e
  refine call_len_dict hd dd (by rw [← rel.length]; rw [sizeLine_eq] at z; omega) ?_
  rw [← rel.length]
  exact h _ _ (I.tok _)

end
section
variable {X : Cx} {o i e value : Expr} {pos pos' tpos : Pos} {td ty tv : TE}
end
section
variable {X : Cx} {pos : Pos}
end
section
variable {X : Cx} {pins : List (Addr × Obj)} {σ : St} {H : Hp} {s : Shared} {a : Addr} {y d : V} {u r : Value} {o : Option V} {A : Around} {E : Value → Shared → Prop}
end
section
variable {X : Cx} {o e f : Expr} {apos cpos : Pos} {td ty tx : TE}
end
section
variable {X : Cx} {pins : List (Addr × Obj)} {σ : St} {H : Hp} {s : Shared} {a : Addr} {kvs : List (Key × V)} {A : Around} {E : Value → Shared → Prop}
end
section
variable {X : Cx} {pins : List (Addr × Obj)} {σ : St} {H : Hp} {s : Shared} {a : Addr} {y : V} {u : Value} {A : Around} {E : Value → Shared → Prop}
end
end L2
namespace L2
open PySem PySem.Spec PyProof.Rows
section
variable {prog : Program} {w : World} {A : Around} {E : Value → Shared → Prop}
end
section
variable {X : Cx}
end
end L2
namespace L2
open PySem PySem.Spec PyProof.Rows
section
variable {X : Cx} {pins : List (Addr × Obj)} {σ : St} {H : Hp} {s : Shared} {h' : Heap}
end
section
variable {X : Cx}
end
section
variable {X : Cx} {tg : Expr}
end
section
variable {X : Cx} {tg : Expr}
end
section
variable {prog : Program} {w : World} {A : Around} {E : Value → Shared → Prop} {s : Shared}
end
section
variable {X : Cx} {pins : List (Addr × Obj)} {σ : St} {H : Hp} {s : Shared} {d : Addr} {o : Obj}
end
section
variable {P : Program} {w : World} {K : PySem.W.Frag} {tg : Expr} {d : Addr} {o : Obj} {es : Array DictEntry} {ep : Nat}
end
section
variable {X : Cx} {tg e : Expr} {td : TE} {apos cpos : Pos}
end
end L2
section 
namespace Bits
open PySem PyProof.Rows
end Bits
end 
section 
namespace TL
open PySem PySem.Builtin PySem.Builtin.Str PySem.StrLaws
abbrev tl (x : Str) : List Nat := x.cps.toList
def pre (S l : List Nat) : Bool := l.take S.length == S

def par (S : List Nat) : List Nat → List Nat → Option (List Nat × List Nat)
  | _, [] => none
  | acc, c :: r => if pre S (c :: r) = true then some (acc, (c :: r).drop S.length) else par S (acc ++ [c]) r

end TL
end 
namespace L2
open PySem PySem.Spec PyProof.Rows
section
variable {X : Cx} {pins : List (Addr × Obj)} {σ : St} {H : Hp} {s : Shared} {Q : VK}
end
section
variable {X : Cx}
end
section
variable {X : Cx} {o e : Expr} {to te : TE}
end
end L2
namespace L2
open PySem PySem.Spec PyProof.Rows
section
variable {X : Cx}
end
def cutS (z : Str) (lo hi : Option Int) : Str :=
  ⟨((z.cps.toList.drop (HT.sIx z.length 0 lo)).take (HT.sIx z.length z.length hi - HT.sIx z.length 0 lo)).toArray⟩
end L2
namespace Att
open PySem PySem.W PySem.Calls PyProof.Rows
theorem ints_of_wellAll {P : Params} {h : Heap} : ∀ (ns : List Int) (vs : List Value), WellAll P h vs (ns.map WData.int) → IntsAre vs ns := by
  intro ns
  induction ns with
  | nil =>
    intro vs w
    rw [List.map_nil] at w
    cases w
    exact .nil
  | cons n ns ih =>
    intro vs w
    rw [List.map_cons] at w
    cases w with
    | cons a b =>
      cases a
      exact .cons _ _ (ih _ b)

theorem script_of {l : OpenLaw} {n : Nat} (hn : l.most = some n) {P : Params} {h : Heap} {args : List WData} {vals : List Value}
    (hpre : l.row.toRowW.claim.pre args = true) (hwl : WellAll P h vals args) :
    ∃ a vs ns, vals = [Value.ref a] ∧ args = [WData.list (ns.map WData.int)] ∧ h.get? a = some { cls := .type "list", data := .seq vs.toArray } ∧ IntsAre vs ns ∧ ns.length ≤ n := by
  have hsh : WShape.hasAll [] args [.list .int] = true := (pre_splitW hpre).1
  have hc : l.pre.holds [] { args := args } = true := (pre_splitW hpre).2
  obtain ⟨d, r, rfl, h1, h2⟩ := hasAllW_cons hsh
  obtain rfl := hasAllW_nil h2
  obtain ⟨xs, rfl, h3⟩ := hasW_list h1
  obtain ⟨ns, rfl⟩ := items_int h3
  have hlen : ns.length ≤ n := by
    unfold OpenLaw.pre at hc
    have h4 : (WTm.not (.lt (.lit (.int (n : Int))) (.len (.arg 0)))).holds [] { args := [.list (ns.map .int)] } = true := by
      have h4 := (holds_andW hc).1
      rw [hn] at h4
      exact h4
    have h5 := condW_of h4 (w_not (w_lt w_lit (w_len_list (w_arg rfl))))
    rw [List.length_map] at h5
    refine Nat.le_of_not_lt fun q => ?_
    have q' : (n : Int) < ((ns.length : Nat) : Int) := by omega
    first
      | (rw [decide_eq_true q'] at h5; exact absurd h5 (by decide))
      | (simp at h5; omega)
  cases hwl with
  | cons w1 w2 =>
    cases w2
    cases w1 with
    | list ho hall => exact ⟨_, _, ns, rfl, rfl, ho, ints_of_wellAll ns _ hall, hlen⟩

theorem post_true (l : OpenLaw) (args : List WData) : l.row.toRowW.claim.post args (.bool true) args = true :=
  postW_of (r := l.row.toRowW) (X := (true == true))
    (show WShape.has [] (.bool true) .bool = true by first | rfl | decide | simp [WShape.has, WShape.arms, WShape.armsAll])
    (show (WTm.eq .res (.lit (.bool true))).value [] { args := args, res := some (.bool true), after := args } = some (.bool (true == true)) from w_eq_bool (w_res rfl) w_lit) rfl


theorem attach_call {l : OpenLaw} {n : Nat} {q : Program} {loose : List Str} {XP : (Str → Option Value) → Heap → Prop} {YP : World → Heap → Prop} {d : DefRec}
    (hn : l.most = some n) (hdf : d.params.defaults = [])
    (call : ∀ (w : World) (s₀ s₁ : Shared) (mg mb : Str → Option Value) (fa : Addr) (o : Obj) (pm cd doc : Value) (a : Addr) (vs : List Value) (ns : List Int),
      Ground q loose [] XP w s₀ mg mb s₁.heap → YP w s₁.heap →
      s₁.heap.get? fa = some o → o.data = .func (docDef d.name d.params d.body d.scope pm cd doc) → s₁.heap.CodeRec cd d.name → mg d.name = some (.ref fa) →
      s₁.heap.get? a = some { cls := .type "list", data := .seq vs.toArray } → IntsAre vs ns → ns.length ≤ n → s₁.gens = #[] →
      codeAny (model l.prog w) callerA (.call (.ref fa) ⟨[.ref a], []⟩) (fun r s' => r = .ok (.ret (.bool true)) ∧ OldK s₁.heap s'.heap ∧ s'.os = s₁.os ∧ AllBare s'.gens) s₁) :
    WalkO q loose XP YP l.row.toRowW d [] (fun f vs => PySem.call f vs) := by
  intro w s₀ s₁ mg mb G Y fa o pm cd doc dV kV ho hd hcd hD hmg hg args vals as hpre hlay hrd hwl hlo
  obtain rfl : dV = .none := Dflts.none hD hdf
  obtain rfl : kV = .none := Dflts.noKw hD
  obtain ⟨a, vs, ns, rfl, rfl, hobj, hints, hlen⟩ := script_of hn hpre hwl
  refine enter_call (codeAny_mono (call w s₀ s₁ mg mb fa o pm cd doc a vs ns G Y ho (fd_plain hd) hcd hmg hobj hints hlen hg) fun r s' hq => ?_)
  obtain ⟨rfl, h2, h3, h4⟩ := hq
  exact ⟨.inl ⟨.bool true, .bool true, [], rfl, fun _ => rfl, .bool true, post_true l _, fun _ => ⟨List.Pairwise.nil, fun _ hm => (nomatch hm)⟩⟩, h2, h3, h4⟩


section
variable {prog : Program} {w : World} {A : Around} {E : Value → Shared → Prop} {s : Shared} {K : Frag}
theorem call_fn {R : Result → Shared → Prop} {name qual : Str} {params : Arguments} {body : List Stmt} {scope : Scope} {dV kV doc pm cdv ct oc : Value} {an od : Option Addr} {osl : Array (Option Value)} {f : Addr} {args : Args} {binds : List (Str × Value)}
    (X : K.In s.heap) (hlim : s.heap.NoLimit) (ho : K.lookup f = some ⟨oc, od, .func (fnOf name qual params body scope dV kV doc pm an cdv ct), osl⟩) (hcd : codeIn K cdv qual = true) (hroom : A.depth < recursionLimit)
    (hbind : BindsTo s (fnOf name qual params body scope dV kV doc pm an cdv ct) args binds)
    (hkind : (binds.all fun y => scope.names.lookup y.1 == some .local || scope.names.lookup y.1 == some .cell) = true)
    (h : ∀ s₁, InCallC s s.heap.objs.size (bindL (envOfC qual scope s.heap.objs.size f cdv).kindOf binds fun _ => none) (cellsFrom (s.heap.objs.size + 1) scope.names [])
        (bindC (envOfC qual scope s.heap.objs.size f cdv).kindOf binds fun _ => none) s₁ →
      wpAny (model prog w) (A.deeper (envOfC qual scope s.heap.objs.size f cdv)) (execs body (envOfC qual scope s.heap.objs.size f cdv))
        (fun fl s' => R (.ok (.ret (match fl with | .ret v => v | _ => .none))) s')
        (fun e s' => wpAny (model prog w) (A.deeper (envOfC qual scope s.heap.objs.size f cdv)) (leaving (envOfC qual scope s.heap.objs.size f cdv) e) (fun _ s'' => R (.error e) s'') (fun e' s'' => R (.error e') s'') s') s₁)
    (hco : scope.isCoroutine = false) (hgen : scope.isGenerator = false) (hk : scope.kind = .function) : codeAny (model prog w) A (.call (.ref f) args) R s := by
  refine codeAny_call_function hroom (X _ _ ho) rfl hco hgen rfl (codeRec_of X hcd) (hbind _ _ _ _ ?_)
  refine wpAny_newFunctionEnv_cells hk (kindsX hkind _) fun env he s₁ x => ?_
  subst he
  exact ⟨hlim.keeps x.toInCall.keep, codeAny_func (h s₁ x)⟩


end
end Att
namespace L2
open PySem PySem.Spec PyProof.Rows
theorem vals_ints : ∀ {vs : List Value} {ns : List Int}, IntsAre vs ns → Vals (ns.map V.int) vs
  | _, _, .nil => .nil
  | _, _, .cons n t h => .cons ⟨t, rfl⟩ (vals_ints h)


end L2
namespace L2
open PySem PySem.Spec PyProof.Rows
end L2
namespace L2
open PySem PySem.Spec PyProof.Rows
def defArgs (s : Stmt) : Arguments := match s with
  | .FunctionDef _ a _ _ _ _ _ _ _ _ => a
  | _ => { posonlyargs := [], args := [], vararg := none, kwonlyargs := [], kw_defaults := [], kwarg := none, defaults := [] }
def defBody (s : Stmt) : List Stmt := match s with
  | .FunctionDef _ _ b _ _ _ _ _ _ _ => b
  | _ => []
def defScope (s : Stmt) : Scope := match s with
  | .FunctionDef _ _ _ _ _ _ sc _ _ _ => sc
  | _ => { kind := .function, names := [], isGenerator := false, isCoroutine := false }


abbrev CX0 : CXT := fun _ _ _ _ _ _ => False
abbrev E0 : XK := fun _ _ _ => False
structure Fun (K : PySem.W.Frag) (x qual : Str) (st : Stmt) (f : Addr) (fd : FuncData) : Prop where
  ex : ∃ (oc : Value) (od : Option Addr) (kV doc pm : Value) (an : Option Addr) (cdv ct : Value) (osl : Array (Option Value)),
    fd = PySem.W.fnOf x qual (defArgs st) (defBody st) (defScope st) .none kV doc pm an cdv ct ∧ K.lookup f = some ⟨oc, od, .func fd, osl⟩ ∧ PySem.W.codeIn K cdv qual = true
  kp : PySem.W.keepIn K (.ref f) = true
section
variable {P : Program} {w : World} {K : PySem.W.Frag} {mg : Str → Option Value} {base : Heap}
theorem Fun.ok {x qual : Str} {st : Stmt} {f : Addr} {fd : FuncData} {N ps : List Str} {k : Nat} {sp : Sp} (F : Fun K x qual st f fd) (S : FnScope N ps (defScope st)) (len : ∀ vs H Q E, sp vs H Q E → vs.length = ps.length)
    (hbody : ∀ (cdv : Value) (A : Around) (outer : List Env) (s : Shared) (H : Hp) (vs : List V) (Q : VK) (E : XK), Room k (A.deeper (envOfC qual (defScope st) s.heap.objs.size f cdv)) → sp vs H Q E →
      ∃ t, PSs (cxOf CX0 P w K mg base N qual (defScope st) f cdv A outer s H E).nox (defBody st) t ∧ t { nx := fun _ H' => Q .non H', rt := Q } (start N vs) H) : FnOk P w K mg base CX0 (k + 1) f fd ps sp := by
  obtain ⟨oc, od, kV, doc, pm, an, cdv, ct, osl, rfl, lk, hcd⟩ := F.ex
  refine fn_of lk hcd S len fun A outer s H vs Q E hr hsp => ?_
  obtain ⟨t, h, q⟩ := hbody cdv A outer s H vs Q E hr hsp
  exact ⟨t, h.nox, q⟩

theorem Fun.binds {x qual : Str} {st : Stmt} {f : Addr} {fd : FuncData} {ps : List Str} (F : Fun K x qual st f fd)
    (h : ∀ (kV doc pm : Value) (an : Option Addr) (cdv ct : Value) (us : List Value), us.length = ps.length → bindArgs (PySem.W.fnOf x qual (defArgs st) (defBody st) (defScope st) .none kV doc pm an cdv ct) ⟨us, []⟩ = pure (ps.zip us)) : Binds K fd ps [] := by
  obtain ⟨oc, od, kV, doc, pm, an, cdv, ct, osl, rfl, lk, hcd⟩ := F.ex
  exact .all (h kV doc pm an cdv ct)
theorem fun_mk {x qual : Str} {st : Stmt} {f : Addr} {oc : Value} {od an : Option Addr} {osl : Array (Option Value)} {kV doc pm cdv ct : Value} (l : K.lookup f = some ⟨oc, od, .func (PySem.W.fnOf x qual (defArgs st) (defBody st) (defScope st) .none kV doc pm an cdv ct), osl⟩)
    (c : PySem.W.codeIn K cdv qual = true) (k : PySem.W.keepIn K (.ref f) = true) : Fun K x qual st f (PySem.W.fnOf x qual (defArgs st) (defBody st) (defScope st) .none kV doc pm an cdv ct) := ⟨⟨oc, od, kV, doc, pm, an, cdv, ct, osl, rfl, l, c⟩, k⟩
end
section
variable {X : Cx}
theorem call_lenD : CallR X (.builtin "len") (fun xs H Q => ∃ a kvs, xs = [V.ref a] ∧ H a = some (.dK kvs) ∧ Q (.int kvs.length) H) := by
  intro pins s σ H xs us Q I r h
  obtain ⟨a, kvs, rfl, ha, q⟩ := h
  obtain ⟨u, rfl, ru⟩ := vals1 r
  cases ru
  exact d_len I (.inl ha) fun t s' I' => ⟨.int kvs.length, H, I', ⟨t, rfl⟩, q⟩
end
def Same (H H' : Hp) : Prop := ∀ b o, H b = some o → H' b = some o
theorem Same.refl (H : Hp) : Same H H := fun _ _ h => h
theorem Same.trans {H H1 H2 : Hp} (a : Same H H1) (b : Same H1 H2) : Same H H2 := fun c o h => b c o (a c o h)
theorem Same.free {H H' : Hp} (e : Same H H') {l : Addr} (h : H' l = Option.none) : H l = Option.none := by
  cases q : H l with
  | none => rfl
  | some o =>
    rw [e l o q] at h
    cases h
theorem Same.seq {K : PySem.W.Frag} {H H' : Hp} {a : Addr} {xs : List V} (e : Same H H') (h : SqL K H a xs) : SqL K H' a xs := by
  rcases h with (h | ⟨o, h⟩) | h
  · exact .inl (.inl (e _ _ h))
  · exact .inl (.inr ⟨o, e _ _ h⟩)
  · exact .inr h


section
variable {κ : Type} [DecidableEq κ]
end
end L2
end
section
set_option Elab.async false
set_option linter.all false
set_option maxRecDepth 100000
namespace Ev
open PySem L2
inductive D where
  | non | bl (b : Bool) | int (i : Int) | str (x : Str) | tup (xs : List D) | fl (xs : List D) | ref (n : Nat) | ty (n : String) | kc (a : Addr) | kt (xs : List D)
inductive Cell where
  | lst (xs : List D) | dk (kvs : List (Key × D)) | dt (kvs : List (List Key × D)) | clo (k : Nat) | dead | dz (kvs : List (List Key × D))

def Cell.mut : Cell → Bool
  | .clo _ => false
  | .dead => false
  | .dz _ => false
  | _ => true
abbrev Sto := List Cell
abbrev Loc := List (Option D)
inductive Exn where
  | c (n : Nat) | great (a b : Int)
inductive R (α : Type) where
  | ok (a : α) | ex (x : Exn)
abbrev O (α : Type) := Option (R α × Sto)
abbrev EM := Loc → Sto → O D
abbrev TM := Loc → Sto → O Bool
abbrev AM := Loc → Sto → O (List D)
inductive FD where
  | nx (L : Loc) | rt (d : D) | bk (L : Loc) | ct (L : Loc)
inductive FV where
  | nx (s : St) | rt (v : V) | bk (s : St) | ct (s : St)
abbrev SM := Loc → Sto → O FD


def FzL (K : PySem.W.Frag) (H : Hp) (a : Addr) (vs : List V) : Prop := (∃ o, H a = some (.frz o (.lst vs))) ∨ SqL K (fun _ => none) a vs
theorem FzL.sq {K : PySem.W.Frag} {H : Hp} {a : Addr} {vs : List V} (h : FzL K H a vs) : SqL K H a vs := by
  rcases h with ⟨o, h⟩ | h
  · exact .inl (.inr ⟨o, h⟩)
  · rcases h with h | h
    · rcases h with h | ⟨_, h⟩ <;> cases h
    · exact .inr h

def HTup (H : Hp) (a : Addr) (vs : List V) : Prop := H a = some (.tup vs)
theorem HTup.sq {K : PySem.W.Frag} {H : Hp} {a : Addr} {vs : List V} (h : HTup H a vs) : SqT K H a vs := .inl (.inl h)
theorem sqT_any {K : PySem.W.Frag} {H : Hp} {a : Addr} {vs : List V} (h : SqT K (fun _ => none) a vs) : SqT K H a vs := by
  rcases h with h | h
  · rcases h with h | ⟨_, h⟩ <;> cases h
  · exact .inr h
mutual
inductive Rep (K : PySem.W.Frag) (H : Hp) (p : List Addr) : D → V → Prop where
  | non : Rep K H p .non .non
  | bl (b : Bool) : Rep K H p (.bl b) (.bl b)
  | int (i : Int) : Rep K H p (.int i) (.int i)
  | str (x : Str) : Rep K H p (.str x) (.str x)
  | tup {a : Addr} {ds : List D} {vs : List V} : HTup H a vs → RepL K H p ds vs → Rep K H p (.tup ds) (.ref a)
  | fl {a : Addr} {ds : List D} {vs : List V} : FzL K H a vs → RepL K H p ds vs → Rep K H p (.fl ds) (.ref a)
  | ref {n : Nat} {a : Addr} : p[n]? = some a → Rep K H p (.ref n) (.ref a)
  | ty (n : String) : Rep K H p (.ty n) (.ty n)
  | kc (a : Addr) : Rep K H p (.kc a) (.ref a)
  | kt {a : Addr} {ds : List D} {vs : List V} : SqT K (fun _ => none) a vs → RepL K H p ds vs → Rep K H p (.kt ds) (.ref a)
inductive RepL (K : PySem.W.Frag) (H : Hp) (p : List Addr) : List D → List V → Prop where
  | nil : RepL K H p [] []
  | cons {d : D} {v : V} {ds : List D} {vs : List V} : Rep K H p d v → RepL K H p ds vs → RepL K H p (d :: ds) (v :: vs)
end
structure Ext (H H' : Hp) : Prop where
  tup : ∀ a xs, H a = some (.tup xs) → H' a = some (.tup xs)
  frz : ∀ a o u, H a = some (.frz o u) → H' a = some (.frz o u)
  ext : ∀ a φ, H a = some (.ext φ) → H' a = some (.ext φ)
  dom : ∀ a, H' a = none → H a = none
theorem Ext.refl (H : Hp) : Ext H H := ⟨fun _ _ h => h, fun _ _ _ h => h, fun _ _ h => h, fun _ h => h⟩
theorem Ext.trans {H1 H2 H3 : Hp} (a : Ext H1 H2) (b : Ext H2 H3) : Ext H1 H3 := ⟨fun x y h => b.tup x y (a.tup x y h), fun x y z h => b.frz x y z (a.frz x y z h), fun x y h => b.ext x y (a.ext x y h), fun x h => a.dom x (b.dom x h)⟩
theorem Ext.sqT {K : PySem.W.Frag} {H H' : Hp} {a : Addr} {vs : List V} (e : Ext H H') (h : SqT K H a vs) : SqT K H' a vs := by
  rcases h with (h | ⟨o, h⟩) | h
  · exact .inl (.inl (e.tup _ _ h))
  · exact .inl (.inr ⟨o, e.frz _ _ _ h⟩)
  · exact .inr h
theorem Ext.fzL {K : PySem.W.Frag} {H H' : Hp} {a : Addr} {vs : List V} (e : Ext H H') (h : FzL K H a vs) : FzL K H' a vs := by
  rcases h with ⟨o, h⟩ | h
  · exact .inl ⟨o, e.frz _ _ _ h⟩
  · exact .inr h
def Pre (p q : List Addr) : Prop := ∃ m, q = p ++ m
theorem Pre.refl (p : List Addr) : Pre p p := ⟨[], by simp⟩
theorem Pre.trans {a b c : List Addr} (x : Pre a b) (y : Pre b c) : Pre a c := by
  obtain ⟨m, rfl⟩ := x
  obtain ⟨n, rfl⟩ := y
  exact ⟨m ++ n, by simp⟩
theorem Pre.get {p q : List Addr} (x : Pre p q) {n : Nat} {a : Addr} (h : p[n]? = some a) : q[n]? = some a := by
  obtain ⟨m, rfl⟩ := x
  rw [List.getElem?_append_left (List.getElem?_eq_some_iff.mp h).1]
  exact h
mutual
theorem Rep.mono {K : PySem.W.Frag} {H H' : Hp} {p q : List Addr} (e : Ext H H') (w : Pre p q) : ∀ {d : D} {v : V}, Rep K H p d v → Rep K H' q d v
  | _, _, .non => .non
  | _, _, .bl b => .bl b
  | _, _, .int i => .int i
  | _, _, .str x => .str x
  | _, _, .tup h r => .tup (e.tup _ _ h) (RepL.mono e w r)
  | _, _, .fl h r => .fl (e.fzL h) (RepL.mono e w r)
  | _, _, .ref h => .ref (w.get h)
  | _, _, .ty n => .ty n
  | _, _, .kc a => .kc a
  | _, _, .kt h r => .kt h (RepL.mono e w r)
theorem RepL.mono {K : PySem.W.Frag} {H H' : Hp} {p q : List Addr} (e : Ext H H') (w : Pre p q) : ∀ {ds : List D} {vs : List V}, RepL K H p ds vs → RepL K H' q ds vs
  | _, _, .nil => .nil
  | _, _, .cons a b => .cons (Rep.mono e w a) (RepL.mono e w b)
end
theorem RepL.len {K : PySem.W.Frag} {H : Hp} {p : List Addr} : ∀ {ds : List D} {vs : List V}, RepL K H p ds vs → ds.length = vs.length
  | _, _, .nil => rfl
  | _, _, .cons _ b => by simp [RepL.len b]
theorem RepL.get {K : PySem.W.Frag} {H : Hp} {p : List Addr} : ∀ {ds : List D} {vs : List V} {i : Nat} {d : D}, RepL K H p ds vs → ds[i]? = some d → ∃ v, vs[i]? = some v ∧ Rep K H p d v
  | _, _, _, _, .nil, e => by simp at e
  | _, _, 0, _, .cons r _, e => by simp at e; subst e; exact ⟨_, rfl, r⟩
  | _, _, i + 1, d, .cons _ t, e => by
    obtain ⟨u, h1, h2⟩ := RepL.get (i := i) (d := d) t (by simpa using e)
    exact ⟨u, by simpa using h1, h2⟩
theorem RepL.app {K : PySem.W.Frag} {H : Hp} {p : List Addr} : ∀ {ds es : List D} {vs us : List V}, RepL K H p ds vs → RepL K H p es us → RepL K H p (ds ++ es) (vs ++ us)
  | _, _, _, _, .nil, s => s
  | _, _, _, _, .cons r t, s => .cons r (RepL.app t s)
theorem RepL.set {K : PySem.W.Frag} {H : Hp} {p : List Addr} {d : D} {v : V} (r : Rep K H p d v) : ∀ {ds : List D} {vs : List V} (i : Nat), RepL K H p ds vs → RepL K H p (ds.set i d) (vs.set i v)
  | _, _, _, .nil => .nil
  | _, _, 0, .cons _ t => .cons r t
  | _, _, i + 1, .cons q t => .cons q (RepL.set r i t)
theorem RepL.take {K : PySem.W.Frag} {H : Hp} {p : List Addr} : ∀ {ds : List D} {vs : List V} (n : Nat), RepL K H p ds vs → RepL K H p (ds.take n) (vs.take n)
  | _, _, 0, _ => .nil
  | _, _, _ + 1, .nil => .nil
  | _, _, n + 1, .cons r t => .cons r (RepL.take n t)
theorem RepL.drop {K : PySem.W.Frag} {H : Hp} {p : List Addr} : ∀ {ds : List D} {vs : List V} (n : Nat), RepL K H p ds vs → RepL K H p (ds.drop n) (vs.drop n)
  | _, _, 0, r => r
  | _, _, _ + 1, .nil => .nil
  | _, _, n + 1, .cons _ t => RepL.drop n t
inductive RepK (K : PySem.W.Frag) (H : Hp) (p : List Addr) {κ : Type} : List (κ × D) → List (κ × V) → Prop where
  | nil : RepK K H p [] []
  | cons {k : κ} {d : D} {v : V} {ds : List (κ × D)} {vs : List (κ × V)} : Rep K H p d v → RepK K H p ds vs → RepK K H p ((k, d) :: ds) ((k, v) :: vs)
theorem RepK.mono {K : PySem.W.Frag} {H H' : Hp} {p q : List Addr} {κ : Type} (e : Ext H H') (w : Pre p q) : ∀ {ds : List (κ × D)} {vs : List (κ × V)}, RepK K H p ds vs → RepK K H' q ds vs
  | _, _, .nil => .nil
  | _, _, .cons a b => .cons (a.mono e w) (RepK.mono e w b)

class Clos where
  q : Nat → Str
  clo : Nat → Addr → Obj → Prop
def codeX (c : Addr) (qual : Str) : Heap → Prop := fun h => h.CodeRec (.ref c) qual
def objX (a : Addr) (o : Obj) : Heap → Prop := fun h => h.get? a = some o
variable [Clos]
def CellOk (K : PySem.W.Frag) (H : Hp) (p : List Addr) (a : Addr) : Cell → Prop
  | .lst ds => ∃ vs, H a = some (.lst vs) ∧ RepL K H p ds vs
  | .dk kvs => ∃ vs, H a = some (.dK vs) ∧ RepK K H p kvs vs
  | .dt kvs => ∃ vs, H a = some (.dT vs) ∧ RepK K H p kvs vs
  | .clo k => ∃ o c, H a = some (.ext (objX a o)) ∧ H c = some (.ext (codeX c (Clos.q k))) ∧ Clos.clo k c o
  | .dead => ∃ φ, H a = some (.ext φ)
  | .dz kvs => ∃ vs o, H a = some (.frz o (.dT vs)) ∧ RepK K H p kvs vs
theorem nodup_at {p : List Addr} (h : p.Nodup) {i j : Nat} {a : Addr} (x : p[i]? = some a) (y : p[j]? = some a) : i = j := by
  obtain ⟨h1, e1⟩ := List.getElem?_eq_some_iff.mp x
  obtain ⟨h2, e2⟩ := List.getElem?_eq_some_iff.mp y
  rcases Nat.lt_trichotomy i j with l | l | l
  · exact absurd (e1.trans e2.symm) (List.pairwise_iff_getElem.mp h i j h1 h2 l)
  · exact l
  · exact absurd (e2.trans e1.symm) (List.pairwise_iff_getElem.mp h j i h2 h1 l)

class Tabs where
  tl : List (Addr × Str)
  uniq : ∀ q ∈ tl, ∀ r ∈ tl, q.1 = r.1 → q.2 = r.2
def TabOk [Tabs] (H : Hp) : Prop := ∀ q ∈ Tabs.tl, ∃ ps, H q.1 = some (.tbl ps) ∧ TriplesOk ps.toList ∧ ∀ pos cv, codeAmong pos ps.toList = some cv → ∃ c, cv = .ref c ∧ H c = some (.ext (codeX c q.2))
variable [Tabs] [Clos]
theorem TabOk.other {H H' : Hp} (h : TabOk H) (k1 : ∀ b ps, H b = some (.tbl ps) → H' b = some (.tbl ps)) (k2 : ∀ b f, H b = some (.ext f) → H' b = some (.ext f)) : TabOk H' := fun q hq => by
  obtain ⟨ps, h1, h2, h3⟩ := h q hq
  exact ⟨ps, k1 _ _ h1, h2, fun pos cv e => let ⟨c, e1, e2⟩ := h3 pos cv e; ⟨c, e1, k2 _ _ e2⟩⟩
theorem TabOk.new {H : Hp} (h : TabOk H) {a : Addr} {o : HO} (ha : H a = none) : TabOk (upd H a o) :=
  h.other (fun b ps e => by rw [upd_ne (ne_of_none e ha)]; exact e) fun b f e => by rw [upd_ne (ne_of_none e ha)]; exact e
structure StoOk (K : PySem.W.Frag) (H : Hp) (p : List Addr) (S : Sto) : Prop where
  tab : TabOk H
  len : p.length = S.length
  nd : p.Nodup
  cell : ∀ (n : Nat) a c, p[n]? = some a → S[n]? = some c → CellOk K H p a c
theorem CellOk.some {K : PySem.W.Frag} {H : Hp} {p : List Addr} {a : Addr} {c : Cell} (h : CellOk K H p a c) : ∃ o, H a = some o := by
  cases c with
  | lst _ => obtain ⟨_, h, _⟩ := h; exact ⟨_, h⟩
  | dk _ => obtain ⟨_, h, _⟩ := h; exact ⟨_, h⟩
  | dt _ => obtain ⟨_, h, _⟩ := h; exact ⟨_, h⟩
  | clo _ => obtain ⟨_, _, h, _⟩ := h; exact ⟨_, h⟩
  | dead => obtain ⟨_, h⟩ := h; exact ⟨_, h⟩
  | dz _ => obtain ⟨_, _, h, _⟩ := h; exact ⟨_, h⟩

theorem CellOk.stay {K : PySem.W.Frag} {H H' : Hp} {p q : List Addr} {a : Addr} {c : Cell} (h : CellOk K H p a c) (e : Ext H H') (w : Pre p q) (k : H' a = H a) : CellOk K H' q a c := by
  cases c with
  | lst _ => obtain ⟨vs, h, r⟩ := h; exact ⟨vs, k.trans h, r.mono e w⟩
  | dk _ => obtain ⟨vs, h, r⟩ := h; exact ⟨vs, k.trans h, r.mono e w⟩
  | dt _ => obtain ⟨vs, h, r⟩ := h; exact ⟨vs, k.trans h, r.mono e w⟩
  | clo _ => obtain ⟨o, c, h1, h2, h3⟩ := h; exact ⟨o, c, k.trans h1, e.ext _ _ h2, h3⟩
  | dead => obtain ⟨o, h⟩ := h; exact ⟨o, k.trans h⟩
  | dz _ => obtain ⟨vs, o, h, r⟩ := h; exact ⟨vs, o, k.trans h, r.mono e w⟩
theorem StoOk.tracked {K : PySem.W.Frag} {H : Hp} {p : List Addr} {S : Sto} (h : StoOk K H p S) {a : Addr} (ha : a ∈ p) : ∃ o, H a = some o := by
  obtain ⟨n, hn, e⟩ := List.mem_iff_getElem.mp ha
  have hs : n < S.length := by rw [← h.len]; exact hn
  exact (h.cell n a S[n] (by simp [hn, e]) (by simp [hs])).some
theorem StoOk.fresh {K : PySem.W.Frag} {H : Hp} {p : List Addr} {S : Sto} (h : StoOk K H p S) {a : Addr} (ha : H a = none) : a ∉ p := fun z => by
  obtain ⟨o, e⟩ := h.tracked z
  rw [ha] at e; cases e
structure Post (K : PySem.W.Frag) (H : Hp) (p : List Addr) (H' : Hp) (p' : List Addr) (S' : Sto) : Prop where
  ext : Ext H H'
  pre : Pre p p'
  nw : ∀ a ∈ p', a ∈ p ∨ H a = none
  sto : StoOk K H' p' S'
theorem Post.refl {K : PySem.W.Frag} {H : Hp} {p : List Addr} {S : Sto} (h : StoOk K H p S) : Post K H p H p S := ⟨.refl _, .refl _, fun _ h => .inl h, h⟩
theorem Post.trans {K : PySem.W.Frag} {H H1 H2 : Hp} {p p1 p2 : List Addr} {S1 S2 : Sto} (a : Post K H p H1 p1 S1) (b : Post K H1 p1 H2 p2 S2) : Post K H p H2 p2 S2 := ⟨a.ext.trans b.ext, a.pre.trans b.pre, fun x hx => (b.nw x hx).elim (a.nw x) fun z => .inr (a.ext.dom x z), b.sto⟩
theorem Ext.new {H : Hp} {a : Addr} {o : HO} (h : H a = none) : Ext H (upd H a o) :=
  ⟨fun b xs e => by rw [upd_ne (ne_of_none e h)]; exact e, fun b u v e => by rw [upd_ne (ne_of_none e h)]; exact e, fun b u e => by rw [upd_ne (ne_of_none e h)]; exact e, fun b e => by
    by_cases z : b = a
    · subst z; exact h
    · rw [upd_ne z] at e; exact e⟩

theorem Post.newT {K : PySem.W.Frag} {H : Hp} {p : List Addr} {S : Sto} (h : StoOk K H p S) {a : Addr} {o : HO} (ha : H a = none) : Post K H p (upd H a o) p S :=
  ⟨.new ha, .refl _, fun _ h => .inl h, ⟨h.tab.new ha, h.len, h.nd, fun n b c e1 e2 => (h.cell n b c e1 e2).stay (.new ha) (.refl _) (upd_ne (fun z => h.fresh ha (z ▸ List.mem_of_getElem? e1)))⟩⟩

theorem Post.newC {K : PySem.W.Frag} {H : Hp} {p : List Addr} {S : Sto} (h : StoOk K H p S) {a : Addr} {o : HO} {c : Cell} (ha : H a = none) (hc : CellOk K (upd H a o) (p ++ [a]) a c) : Post K H p (upd H a o) (p ++ [a]) (S ++ [c]) := by
  refine ⟨.new ha, ⟨_, rfl⟩, fun x hx => (List.mem_append.mp hx).imp id fun z => by rw [List.mem_singleton.mp z]; exact ha, ⟨h.tab.new ha, by simp [h.len], ?_, fun n b c' e1 e2 => ?_⟩⟩
  · rw [List.nodup_append]
    exact ⟨h.nd, by simp, fun x hx y hy => by
      have : y = a := by simpa using hy
      subst this
      exact fun z => h.fresh ha (z ▸ hx)⟩
  · by_cases hn : n < p.length
    · rw [List.getElem?_append_left hn] at e1
      rw [List.getElem?_append_left (by rw [← h.len]; exact hn)] at e2
      exact (h.cell n b c' e1 e2).stay (.new ha) ⟨_, rfl⟩ (upd_ne (fun z => h.fresh ha (z ▸ List.mem_of_getElem? e1)))
    · have hn' : n = p.length := by
        have := (List.getElem?_eq_some_iff.mp e1).1
        simp at this; omega
      subst hn'
      rw [List.getElem?_append_right (Nat.le_refl _)] at e1
      rw [h.len, List.getElem?_append_right (Nat.le_refl _)] at e2
      simp at e1 e2
      subst e1 e2
      exact hc

theorem Post.write {K : PySem.W.Frag} {H : Hp} {p : List Addr} {S : Sto} (h : StoOk K H p S) {n : Nat} {a : Addr} {o : HO} {c c0 : Cell} (hn : p[n]? = some a) (h0 : S[n]? = some c0) (hc : ∀ q, Ext H (upd H a o) → q = p → CellOk K (upd H a o) q a c) (hm : c0.mut = true := by rfl) : Post K H p (upd H a o) p (S.set n c) := by
  have ex : Ext H (upd H a o) := by
    have c1 := h.cell n a c0 hn h0
    constructor
    · intro b xs e
      by_cases z : b = a
      · subst z
        exfalso
        cases c0 <;> first | (cases hm; done) | (obtain ⟨_, q, _⟩ := c1; rw [e] at q; cases q)
      · rw [upd_ne z]; exact e
    · intro b u v e
      by_cases z : b = a
      · subst z
        exfalso
        cases c0 <;> first | (cases hm; done) | (obtain ⟨_, q, _⟩ := c1; rw [e] at q; cases q)
      · rw [upd_ne z]; exact e
    · intro b u e
      by_cases z : b = a
      · subst z
        exfalso
        cases c0 <;> first | (cases hm; done) | (obtain ⟨_, q, _⟩ := c1; rw [e] at q; cases q)
      · rw [upd_ne z]; exact e
    · intro b e
      by_cases z : b = a
      · subst z; rw [upd_same] at e; cases e
      · rw [upd_ne z] at e; exact e
  have tb : TabOk (upd H a o) := by
    have c1 := h.cell n a c0 hn h0
    refine h.tab.other (fun b ps e => ?_) fun b f e => ?_
    · by_cases z : b = a
      · subst z
        exfalso
        cases c0 <;> first | (cases hm; done) | (obtain ⟨_, q, _⟩ := c1; rw [e] at q; cases q)
      · rw [upd_ne z]; exact e
    · by_cases z : b = a
      · subst z
        exfalso
        cases c0 <;> first | (cases hm; done) | (obtain ⟨_, q, _⟩ := c1; rw [e] at q; cases q)
      · rw [upd_ne z]; exact e
  refine ⟨ex, .refl _, fun _ h => .inl h, ⟨tb, by simp [h.len], h.nd, fun m b c' e1 e2 => ?_⟩⟩
  by_cases hm : m = n
  · subst hm
    rw [hn] at e1; cases e1
    have hs : m < S.length := (List.getElem?_eq_some_iff.mp h0).1
    rw [List.getElem?_set_self hs] at e2; cases e2
    exact hc p ex rfl
  · rw [List.getElem?_set_ne (Ne.symm hm)] at e2
    refine (h.cell m b c' e1 e2).stay ex (.refl _) (upd_ne fun z => hm ?_)
    subst z
    exact nodup_at h.nd e1 hn

structure LocOk (K : PySem.W.Frag) (H : Hp) (p : List Addr) (L : Loc) (s : St) : Prop where
  len : L.length = s.length
  get : ∀ (i : Nat) d, L[i]? = some (some d) → ∃ v, s[i]? = some (some v) ∧ Rep K H p d v
theorem LocOk.mono {K : PySem.W.Frag} {H H' : Hp} {p p' : List Addr} {S' : Sto} {L : Loc} {s : St} (h : LocOk K H p L s) (q : Post K H p H' p' S') : LocOk K H' p' L s :=
  ⟨h.len, fun i d e => let ⟨v, a, b⟩ := h.get i d e; ⟨v, a, b.mono q.ext q.pre⟩⟩
theorem LocOk.set {K : PySem.W.Frag} {H : Hp} {p : List Addr} {L : Loc} {s : St} (h : LocOk K H p L s) {i : Nat} {d : D} {v : V} (r : Rep K H p d v) : LocOk K H p (L.set i (some d)) (s.set i (some v)) := by
  refine ⟨by simp [h.len], fun j e hj => ?_⟩
  by_cases hij : j = i
  · subst hij
    have hl : j < L.length := by
      have := (List.getElem?_eq_some_iff.mp hj).1
      simpa using this
    rw [List.getElem?_set_self hl] at hj
    cases hj
    exact ⟨v, by rw [List.getElem?_set_self (by rw [← h.len]; exact hl)], r⟩
  · rw [List.getElem?_set_ne (Ne.symm hij)] at hj
    obtain ⟨v', a, b⟩ := h.get j e hj
    exact ⟨v', by rw [List.getElem?_set_ne (Ne.symm hij)]; exact a, b⟩
inductive FRep (K : PySem.W.Frag) (H : Hp) (p : List Addr) : FD → FV → Prop where
  | nx {L : Loc} {s : St} : LocOk K H p L s → FRep K H p (.nx L) (.nx s)
  | bk {L : Loc} {s : St} : LocOk K H p L s → FRep K H p (.bk L) (.bk s)
  | ct {L : Loc} {s : St} : LocOk K H p L s → FRep K H p (.ct L) (.ct s)
  | rt {d : D} {v : V} : Rep K H p d v → FRep K H p (.rt d) (.rt v)
def QD (N : Ends) : FV → Hp → Prop
  | .nx s, H => N.nx s H
  | .bk s, H => N.bk s H
  | .ct s, H => N.ct s H
  | .rt v, H => N.rt v H


abbrev Cls := Nat → Value
inductive XRep (cl : Cls) : Exn → Value → Option Addr → Hp → Prop where
  | c (n : Nat) (H : Hp) : XRep cl (.c n) (cl n) none H
  | great {a b : Int} {dx : Addr} {H : Hp} {fs : List (Str × V)} : H dx = some (.xd fs) → fs.lookup ("many" : Str) = some (V.int a) → fs.lookup ("most" : Str) = some (V.int b) → XRep cl (.great a b) (cl 12) (some dx) H


section
variable {α β γ δ : Type}
abbrev Rp (α β : Type) := Hp → List Addr → α → β → Prop
def G (K : PySem.W.Frag) (cl : Cls) (E : XK) (r : Rp α β) (H : Hp) (p : List Addr) (x : O α) (Q : β → Hp → Prop) : Prop :=
  ∃ y S', x = some (y, S') ∧ match y with
    | .ok a => ∀ b H' p', Post K H p H' p' S' → r H' p' a b → Q b H'
    | .ex e => ∀ c dx H' p', Post K H p H' p' S' → XRep cl e c dx H' → E c dx H'
def bnd (x : O α) (g : α → Sto → O γ) : O γ :=
  match x with
  | some (.ok a, S) => g a S
  | some (.ex e, S) => some (.ex e, S)
  | none => none
@[simp] theorem bnd_ok (a : α) (S : Sto) (g : α → Sto → O γ) : bnd (some (.ok a, S)) g = g a S := rfl
@[simp] theorem bnd_ex (e : Exn) (S : Sto) (g : α → Sto → O γ) : bnd (some (.ex e, S)) g = some (.ex e, S) := rfl
@[simp] theorem bnd_none (g : α → Sto → O γ) : bnd none g = none := rfl
variable {K : PySem.W.Frag} {cl : Cls} {E : XK} {r : Rp α β} {t : Rp γ δ} {H : Hp} {p : List Addr} {x : O α} {Q Q' : β → Hp → Prop}
theorem G.mono (h : G K cl E r H p x Q) (k : ∀ b H', Q b H' → Q' b H') : G K cl E r H p x Q' := by
  obtain ⟨y, S', e, h⟩ := h
  refine ⟨y, S', e, ?_⟩
  cases y with
  | ok a => exact fun b H' p' q w => k _ _ (h b H' p' q w)
  | ex e => exact h
theorem G.bind {g : α → Sto → O γ} {Q : δ → Hp → Prop} (h : G K cl E t H p (bnd x g) Q) : G K cl E r H p x (fun b H1 => ∃ p1 a S1, Post K H p H1 p1 S1 ∧ r H1 p1 a b ∧ G K cl E t H1 p1 (g a S1) Q) := by
  obtain ⟨y, S', e, h⟩ := h
  cases x with
  | none => cases e
  | some z =>
    obtain ⟨z, S1⟩ := z
    cases z with
    | ex w =>
      cases e
      exact ⟨_, _, rfl, h⟩
    | ok a =>
      refine ⟨_, _, rfl, fun b H1 p1 q w => ⟨p1, a, S1, q, w, y, S', e, ?_⟩⟩
      cases y with
      | ok c => exact fun b' H' p' q' w' => h b' H' p' (q.trans q') w'
      | ex e' => exact fun c dx H' p' q' w' => h c dx H' p' (q.trans q') w'
theorem G.ok {a : α} {S : Sto} {Q : β → Hp → Prop} (h : G K cl E r H p (some (.ok a, S)) Q) {b : β} {H' : Hp} {p' : List Addr} (q : Post K H p H' p' S) (w : r H' p' a b) : Q b H' := by
  obtain ⟨y, S', e, h⟩ := h
  cases e
  exact h b H' p' q w
theorem G.none {Q : β → Hp → Prop} (h : G K cl E r H p none Q) : False := by
  obtain ⟨y, S', e, h⟩ := h
  cases e
end
def EqB : Rp Bool Bool := fun _ _ a b => a = b
def tr (K : PySem.W.Frag) (cl : Cls) (E : XK) (f : EM) : TE := fun s H Q => ∃ p L S, LocOk K H p L s ∧ StoOk K H p S ∧ G K cl E (Rep K) H p (f L S) Q
def trT (K : PySem.W.Frag) (cl : Cls) (E : XK) (f : TM) : TT := fun s H Q => ∃ p L S, LocOk K H p L s ∧ StoOk K H p S ∧ G K cl E EqB H p (f L S) Q
def trA (K : PySem.W.Frag) (cl : Cls) (E : XK) (f : AM) : TA := fun s H Q => ∃ p L S, LocOk K H p L s ∧ StoOk K H p S ∧ G K cl E (RepL K) H p (f L S) Q
def trS (K : PySem.W.Frag) (cl : Cls) (E : XK) (f : SM) : TS := fun N s H => ∃ p L S, LocOk K H p L s ∧ StoOk K H p S ∧ G K cl E (FRep K) H p (f L S) (QD N)

structure EvE (X : Cx) (cl : Cls) (E : XK) (e : Expr) (f : EM) : Prop where
  h : PE X e (tr X.K cl E f)
structure EvT (X : Cx) (cl : Cls) (E : XK) (e : Expr) (f : TM) : Prop where
  h : PT X e (trT X.K cl E f)
structure EvW (X : Cx) (cl : Cls) (E : XK) (e : Expr) (f : TM) : Prop where
  h : PW X e (trT X.K cl E f)
structure EvA (X : Cx) (cl : Cls) (E : XK) (es : List Expr) (f : AM) : Prop where
  h : PA X es (trA X.K cl E f)
structure EvS (X : Cx) (cl : Cls) (E : XK) (st : Stmt) (f : SM) : Prop where
  h : PS X st (trS X.K cl E f)
structure EvB (X : Cx) (cl : Cls) (E : XK) (st : List Stmt) (f : SM) : Prop where
  h : PSs X st (trS X.K cl E f)
section
variable {X : Cx} {e : Expr} {es : List Expr} {st : Stmt} {sts : List Stmt}
theorem PEm {t t' : TE} (h : PE X e t) (k : ∀ s H Q, t' s H Q → t s H Q) : PE X e t' := fun pins s σ H Q I w => h pins s σ H Q I (k _ _ _ w)
theorem PTm {t t' : TT} (h : PT X e t) (k : ∀ s H Q, t' s H Q → t s H Q) : PT X e t' := fun pins s σ H Q I w => h pins s σ H Q I (k _ _ _ w)
theorem PWm {t t' : TT} (h : PW X e t) (k : ∀ s H Q, t' s H Q → t s H Q) : PW X e t' := fun whole pins s σ H Q I w => h whole pins s σ H Q I (k _ _ _ w)
theorem PAm {t t' : TA} (h : PA X es t) (k : ∀ s H Q, t' s H Q → t s H Q) : PA X es t' := fun pos pins s σ H Q I w => h pos pins s σ H Q I (k _ _ _ w)
theorem PSm {t t' : TS} (h : PS X st t) (k : ∀ N s H, t' N s H → t N s H) : PS X st t' := fun pins s σ H N I w => h pins s σ H N I (k _ _ _ w)
theorem PSsm {t t' : TS} (h : PSs X sts t) (k : ∀ N s H, t' N s H → t N s H) : PSs X sts t' := fun pins s σ H N I w => h pins s σ H N I (k _ _ _ w)
end
end Ev
end
section
set_option Elab.async false
set_option linter.all false
set_option maxRecDepth 100000
namespace Ev
open PySem L2
variable [Tabs] [Clos]
theorem szL {n : Nat} (h : n ≤ 1000000) : n ≤ sizeLine := Nat.le_trans h (by rw [sizeLine_eq]; decide)
theorem szLt {n : Nat} (h : n < 1000000) : n < sizeLine := Nat.lt_of_lt_of_le h (by rw [sizeLine_eq]; decide)

section
variable {X : Cx} {cl : Cls} {E : XK} {e a b : Expr} {fa fb : EM} {pos : Pos}
def vr (i : Nat) : EM := fun L S => match L[i]? with
  | some (some d) => some (.ok d, S)
  | _ => none
theorem ev_var (i : Nat) {x : Str} (hN : X.N[i]? = some x) (hv : Vis X.env.scope x) (hd : (x == ("__debug__" : Str)) = false) (hcd : (x == ("__classdict__" : Str)) = false) : EvE X cl E (.Name x pos) (vr i) :=
  ⟨PEm (pe_var (i := i) hN hv hd hcd) fun s H Q ⟨p, L, S, l, t, g⟩ => by
    unfold vr at g
    split at g
    · rename_i d hd
      obtain ⟨v, hv, r⟩ := l.get i d hd
      exact ⟨v, hv, g.ok (.refl t) r⟩
    · exact g.none.elim⟩
def cst (d : D) : EM := fun _ S => some (.ok d, S)
theorem cst_to {d : D} {v : V} {s : L2.St} {H : Hp} {Q : VK} (hr : ∀ H p, Rep X.K H p d v) (h : tr X.K cl E (cst d) s H Q) : tC v s H Q := by
  obtain ⟨p, L, S, l, t, g⟩ := h
  exact g.ok (.refl t) (hr _ _)
theorem ev_int {i : Int} {j} : EvE X cl E (.Constant (.int i) j pos) (cst (.int i)) := ⟨PEm pe_int fun _ _ _ h => cst_to (fun _ _ => .int i) h⟩
theorem ev_bl {b : Bool} {j} : EvE X cl E (.Constant (.bool b) j pos) (cst (.bl b)) := ⟨PEm pe_bl fun _ _ _ h => cst_to (fun _ _ => .bl b) h⟩
theorem ev_non {j} : EvE X cl E (.Constant .none j pos) (cst .non) := ⟨PEm pe_non fun _ _ _ h => cst_to (fun _ _ => .non) h⟩
theorem ev_str {x : Str} {j} : EvE X cl E (.Constant (.str x) j pos) (cst (.str x)) := ⟨PEm pe_str fun _ _ _ h => cst_to (fun _ _ => .str x) h⟩

theorem ev_glob {x : Str} {d : D} {v : V} {u : Value} (hg : Gl X x) (hm : X.mg x = some u) (r : RelV v u) (hr : ∀ H p, Rep X.K H p d v) (hd : (x == ("__debug__" : Str)) = false) : EvE X cl E (.Name x pos) (cst d) :=
  ⟨PEm (pe_glob hg hm r hd) fun _ _ _ h => cst_to hr h⟩


abbrev Op2 := D → D → Sto → O D
def bin2 (op : Op2) (fa fb : EM) : EM := fun L S => bnd (fa L S) fun a S1 => bnd (fb L S1) fun b S2 => op a b S2
def rOp (X : Cx) (cl : Cls) (E : XK) (op : Op2) : R2 := fun x y H Q => ∃ p S a b, StoOk X.K H p S ∧ Rep X.K H p a x ∧ Rep X.K H p b y ∧ G X.K cl E (Rep X.K) H p (op a b S) Q
structure OpD (X : Cx) (f : Value → Value → Sem Value) (op : Op2) : Prop where
  h : ∀ (cl : Cls) (E : XK), OpR X f (rOp X cl E op)
structure IxD (X : Cx) (op : Op2) : Prop where
  h : ∀ (cl : Cls) (E : XK), IxR X (rOp X cl E op)
theorem bin_to {op : Op2} {s : L2.St} {H : Hp} {Q : VK} (h : tr X.K cl E (bin2 op fa fb) s H Q) : tOp (rOp X cl E op) (tr X.K cl E fa) (tr X.K cl E fb) s H Q := by
  obtain ⟨p, L, S, l, t, g⟩ := h
  refine ⟨p, L, S, l, t, (G.bind (r := Rep X.K) g).mono fun v H1 ⟨p1, d1, S1, q1, r1, g1⟩ => ?_⟩
  refine ⟨p1, L, S1, l.mono q1, q1.sto, (G.bind (r := Rep X.K) g1).mono fun w H2 ⟨p2, d2, S2, q2, r2, g2⟩ => ?_⟩
  exact ⟨p2, S2, d1, d2, q2.sto, r1.mono q2.ext q2.pre, r2, g2⟩
theorem ev_op {o : Operator} {op : Op2} (ho : OpD X (binaryOp o) op) (ha : EvE X cl E a fa) (hb : EvE X cl E b fb) : EvE X cl E (.BinOp a o b pos) (bin2 op fa fb) :=
  ⟨PEm (pe_op (ho.h cl E) ha.h hb.h) fun _ _ _ h => bin_to h⟩
theorem ev_cmp {o : CmpOp} {op : Op2} (ho : OpD X (compareOp o) op) (ha : EvE X cl E a fa) (hb : EvE X cl E b fb) (hm : behindInMarks o b = false) : EvE X cl E (.Compare a [o] [b] pos) (bin2 op fa fb) :=
  ⟨PEm (pe_cmpR (ho.h cl E) ha.h hb.h hm) fun _ _ _ h => bin_to h⟩
theorem ev_ix {op : Op2} (ho : IxD X op) (ha : EvE X cl E a fa) (hb : EvE X cl E b fb) (hs : PlainIx b) : EvE X cl E (.Subscript a b pos) (bin2 op fa fb) :=
  ⟨PEm (pe_ix (ho.h cl E) ha.h hb.h hs) fun _ _ _ h => bin_to h⟩


abbrev Op1 := D → Sto → O D
def un1 (op : Op1) (fa : EM) : EM := fun L S => bnd (fa L S) fun a S1 => op a S1
def rUn (X : Cx) (cl : Cls) (E : XK) (op : Op1) : V → Hp → VK → Prop := fun x H Q => ∃ p S a, StoOk X.K H p S ∧ Rep X.K H p a x ∧ G X.K cl E (Rep X.K) H p (op a S) Q
theorem un_to {op : Op1} {s : L2.St} {H : Hp} {Q : VK} (h : tr X.K cl E (un1 op fa) s H Q) : tr X.K cl E fa s H (fun v H1 => rUn X cl E op v H1 Q) := by
  obtain ⟨p, L, S, l, t, g⟩ := h
  refine ⟨p, L, S, l, t, (G.bind (r := Rep X.K) g).mono fun v H1 ⟨p1, d1, S1, q1, r1, g1⟩ => ⟨p1, S1, d1, q1.sto, r1, g1⟩⟩
structure UnD (X : Cx) (f : Value → Sem Value) (op : Op1) : Prop where
  h : ∀ (cl : Cls) (E : XK), UnR X f (rUn X cl E op)
theorem ev_un {o : UnaryOp} {op : Op1} (ho : UnD X (unaryOp o) op) (ha : EvE X cl E a fa) : EvE X cl E (.UnaryOp o a pos) (un1 op fa) := ⟨PEm (pe_un (ho.h cl E) ha.h) fun _ _ _ h => un_to h⟩
def negD : Op1
  | .int i, S => some (.ok (.int (-i)), S)
  | _, _ => none
theorem op_negD : UnD X (unaryOp .USub) negD := ⟨fun cl E pins s σ H x v Q I rx ⟨p, S, a, t, ra, g⟩ => by
  cases ra with
  | int i => exact un_neg pins s σ H _ v Q I rx ⟨i, rfl, g.ok (.refl t) (.int _)⟩
  | _ => exact g.none.elim⟩
def notD : Op1
  | .bl b, S => some (.ok (.bl (!b)), S)
  | _, _ => none
theorem ev_not (ha : EvE X cl E a fa) : EvE X cl E (.UnaryOp .Not a pos) (un1 notD fa) :=
  ⟨PEm (pe_not ha.h) fun s H Q h => by
    obtain ⟨p, L, S, l, t, g⟩ := un_to h
    refine ⟨p, L, S, l, t, g.mono fun v H1 ⟨p1, S1, d, t1, r, g1⟩ => ?_⟩
    cases r with
    | bl b => exact ⟨b, rfl, g1.ok (.refl t1) (.bl _)⟩
    | _ => exact g1.none.elim⟩


def tb (f : EM) : TM := fun L S => bnd (f L S) fun d S1 => match d with
  | .bl b => some (.ok b, S1)
  | _ => none
theorem tb_to {s : L2.St} {H : Hp} {Q : Bool → Hp → Prop} (h : trT X.K cl E (tb fa) s H Q) : tr X.K cl E fa s H (fun x H1 => ∃ c, x = .bl c ∧ Q c H1) := by
  obtain ⟨p, L, S, l, t, g⟩ := h
  refine ⟨p, L, S, l, t, (G.bind (r := Rep X.K) g).mono fun v H1 ⟨p1, d1, S1, q1, r1, g1⟩ => ?_⟩
  cases r1 with
  | bl b => exact ⟨b, rfl, g1.ok (.refl q1.sto) rfl⟩
  | _ => exact g1.none.elim
theorem ev_tval (h : EvE X cl E e fa) (he : ∀ whole, isTrue e X.env whole = (do let v ← whole; standAt e.pos; holding [v] (truthy v))) : EvT X cl E e (tb fa) := ⟨PTm (pt_val h.h he) fun _ _ _ h => tb_to h⟩
theorem ev_tcmp {o : CmpOp} {op : Op2} (ho : OpD X (compareOp o) op) (ha : EvE X cl E a fa) (hb : EvE X cl E b fb) (hm : behindInMarks o b = false) : EvT X cl E (.Compare a [o] [b] pos) (tb (bin2 op fa fb)) :=
  ⟨PTm (pt_cmpR (ho.h cl E) ha.h hb.h hm) fun s H Q h => by
    obtain ⟨p, L, S, l, t, g⟩ := tb_to h
    exact bin_to ⟨p, L, S, l, t, g⟩⟩
def tnot (f : TM) : TM := fun L S => bnd (f L S) fun b S1 => some (.ok (!b), S1)
theorem ev_tnot {f : TM} (h : EvT X cl E a f) : EvT X cl E (.UnaryOp .Not a pos) (tnot f) :=
  ⟨PTm (pt_not h.h) fun s H Q ⟨p, L, S, l, t, g⟩ => ⟨p, L, S, l, t, (G.bind (r := EqB) g).mono fun v H1 ⟨p1, d1, S1, q1, r1, g1⟩ => by
    obtain rfl : d1 = v := r1
    exact g1.ok (.refl q1.sto) rfl⟩⟩
def tor (f g : TM) : TM := fun L S => bnd (f L S) fun b S1 => match b with
  | true => some (.ok true, S1)
  | false => g L S1
theorem ev_wor1 {f : TM} (h : EvT X cl E a f) : EvW X cl E (.BoolOp .Or [a] pos) f := ⟨pw_or1 h.h⟩
theorem ev_wor {f g : TM} {rest : List Expr} (h : EvT X cl E a f) (hb : EvW X cl E (.BoolOp .Or (b :: rest) pos) g) : EvW X cl E (.BoolOp .Or (a :: b :: rest) pos) (tor f g) :=
  ⟨PWm (pw_or h.h hb.h) fun s H Q ⟨p, L, S, l, t, w⟩ => ⟨p, L, S, l, t, (G.bind (r := EqB) w).mono fun v H1 ⟨p1, d1, S1, q1, r1, g1⟩ => by
    obtain rfl : d1 = v := r1
    cases d1 with
    | true => rw [if_pos rfl]; exact g1.ok (.refl q1.sto) rfl
    | false => rw [if_neg (by decide)]; exact ⟨p1, L, S1, l.mono q1, q1.sto, g1⟩⟩⟩
theorem ev_tw {f : TM} (h : EvW X cl E a f) : EvT X cl E a f := ⟨h.h.pt⟩

def vand (f g : EM) : EM := fun L S => bnd (f L S) fun d S1 => match d with
  | .bl true => g L S1
  | .bl false => some (.ok (.bl false), S1)
  | _ => none
theorem ev_one {op : BoolOp} (h : EvE X cl E a fa) : EvE X cl E (.BoolOp op [a] pos) fa := ⟨pe_one h.h⟩
theorem ev_and {rest : List Expr} (h : EvE X cl E a fa) (hb : EvE X cl E (.BoolOp .And (b :: rest) pos) fb) : EvE X cl E (.BoolOp .And (a :: b :: rest) pos) (vand fa fb) :=
  ⟨PEm (pe_and h.h hb.h) fun s H Q ⟨p, L, S, l, t, w⟩ => ⟨p, L, S, l, t, (G.bind (r := Rep X.K) w).mono fun v H1 ⟨p1, d1, S1, q1, r1, g1⟩ => by
    cases r1 with
    | bl c =>
      cases c with
      | true => exact ⟨true, rfl, by rw [if_pos rfl]; exact ⟨p1, L, S1, l.mono q1, q1.sto, g1⟩⟩
      | false => exact ⟨false, rfl, by rw [if_neg (by decide)]; exact g1.ok (.refl q1.sto) (.bl _)⟩
    | _ => exact g1.none.elim⟩⟩
def chn (op op' : Op2) (fa fb fc : EM) : EM := fun L S => bnd (fa L S) fun a S1 => bnd (fb L S1) fun b S2 => bnd (op a b S2) fun z S3 => match z with
  | .bl true => bnd (fc L S3) fun c S4 => op' b c S4
  | .bl false => some (.ok (.bl false), S3)
  | _ => none
theorem chn_to {op op' : Op2} {fc : EM} {s : L2.St} {H : Hp} {Q : VK} (h : tr X.K cl E (chn op op' fa fb fc) s H Q) : tChain (rOp X cl E op) (rOp X cl E op') (tr X.K cl E fa) (tr X.K cl E fb) (tr X.K cl E fc) s H Q := by
  obtain ⟨p, L, S, l, t, g⟩ := h
  refine ⟨p, L, S, l, t, (G.bind (r := Rep X.K) g).mono fun v H1 ⟨p1, d1, S1, q1, r1, g1⟩ => ?_⟩
  refine ⟨p1, L, S1, l.mono q1, q1.sto, (G.bind (r := Rep X.K) g1).mono fun w H2 ⟨p2, d2, S2, q2, r2, g2⟩ => ?_⟩
  refine ⟨p2, S2, d1, d2, q2.sto, r1.mono q2.ext q2.pre, r2, (G.bind (r := Rep X.K) g2).mono fun z H3 ⟨p3, d3, S3, q3, r3, g3⟩ => ?_⟩
  cases r3 with
  | bl c =>
    refine ⟨c, rfl, ?_⟩
    cases c with
    | true =>
      rw [if_pos rfl]
      refine ⟨p3, L, S3, ((l.mono q1).mono q2).mono q3, q3.sto, (G.bind (r := Rep X.K) g3).mono fun u H4 ⟨p4, d4, S4, q4, r4, g4⟩ => ?_⟩
      exact ⟨p4, S4, d2, d4, q4.sto, (r2.mono q3.ext q3.pre).mono q4.ext q4.pre, r4, g4⟩
    | false =>
      rw [if_neg (by decide)]
      exact g3.ok (.refl q3.sto) (.bl _)
  | _ => exact g3.none.elim
theorem ev_chain {o o' : CmpOp} {op op' : Op2} {c : Expr} {fc : EM} (ho : OpD X (compareOp o) op) (ho' : OpD X (compareOp o') op') (ha : EvE X cl E a fa) (hb : EvE X cl E b fb) (hc : EvE X cl E c fc) (hm : lastMarks [o, o'] [b, c] = false) : EvE X cl E (.Compare a [o, o'] [b, c] pos) (chn op op' fa fb fc) :=
  ⟨PEm (pe_chain (ho.h cl E) (ho'.h cl E) ha.h hb.h hc.h hm) fun _ _ _ h => chn_to h⟩
def nilA : AM := fun _ S => some (.ok [], S)
def consA (f : EM) (g : AM) : AM := fun L S => bnd (f L S) fun d S1 => bnd (g L S1) fun ds S2 => some (.ok (d :: ds), S2)
theorem ev_nil : EvA X cl E [] nilA := ⟨PAm pa_nil fun s H Q ⟨p, L, S, l, t, g⟩ => g.ok (.refl t) .nil⟩
theorem ev_cons {es : List Expr} {f : AM} (ha : EvE X cl E e fa) (hr : EvA X cl E es f) (hs : starEach (e :: es) X.env = (false, eval e X.env) :: starEach es X.env) : EvA X cl E (e :: es) (consA fa f) :=
  ⟨PAm (pa_cons ha.h hr.h hs) fun s H Q ⟨p, L, S, l, t, w⟩ => ⟨p, L, S, l, t, (G.bind (r := Rep X.K) w).mono fun v H1 ⟨p1, d1, S1, q1, r1, g1⟩ =>
    ⟨p1, L, S1, l.mono q1, q1.sto, (G.bind (r := RepL X.K) g1).mono fun vs H2 ⟨p2, d2, S2, q2, r2, g2⟩ => g2.ok (.refl q2.sto) (.cons (r1.mono q2.ext q2.pre) r2)⟩⟩⟩
def tupE (f : AM) : EM := fun L S => bnd (f L S) fun ds S1 => if ds.length ≤ 1000000 then some (.ok (.tup ds), S1) else none
def lstE (f : AM) : EM := fun L S => bnd (f L S) fun ds S1 => if ds.length ≤ 1000000 then some (.ok (.ref S1.length), S1 ++ [.lst ds]) else none
theorem newTup {K : PySem.W.Frag} {H : Hp} {p : List Addr} {S : Sto} {ds : List D} {vs : List V} {Q : VK} (t : StoOk K H p S) (r : RepL K H p ds vs) (g : G K cl E (Rep K) H p (some (.ok (.tup ds), S)) Q) : ∀ a, H a = none → Q (.ref a) (upd H a (.tup vs)) :=
  fun a ha => g.ok (Post.newT t ha) (.tup upd_same (r.mono (.new ha) (.refl _)))
theorem newLst {K : PySem.W.Frag} {H : Hp} {p : List Addr} {S : Sto} {ds : List D} {vs : List V} {Q : VK} (t : StoOk K H p S) (r : RepL K H p ds vs) (g : G K cl E (Rep K) H p (some (.ok (.ref S.length), S ++ [.lst ds])) Q) : ∀ a, H a = none → Q (.ref a) (upd H a (.lst vs)) :=
  fun a ha => g.ok (Post.newC t ha ⟨vs, upd_same, r.mono (.new ha) ⟨_, rfl⟩⟩) (.ref (by rw [← t.len]; simp))
theorem ev_tup {es : List Expr} {f : AM} {x1} (h : EvA X cl E es f) : EvE X cl E (.Tuple es x1 pos) (tupE f) :=
  ⟨PEm (pe_tup h.h) fun s H Q ⟨p, L, S, l, t, w⟩ => ⟨p, L, S, l, t, (G.bind (r := RepL X.K) w).mono fun vs H1 ⟨p1, ds, S1, q1, r1, g1⟩ => by
    split at g1
    · rename_i hz
      exact ⟨by rw [← r1.len]; exact szL hz, newTup q1.sto r1 g1⟩
    · exact g1.none.elim⟩⟩
theorem ev_lst {es : List Expr} {f : AM} (h : EvA X cl E es f) : EvE X cl E (.List es pos) (lstE f) :=
  ⟨PEm (pe_lst h.h) fun s H Q ⟨p, L, S, l, t, w⟩ => ⟨p, L, S, l, t, (G.bind (r := RepL X.K) w).mono fun vs H1 ⟨p1, ds, S1, q1, r1, g1⟩ => by
    split at g1
    · rename_i hz
      exact ⟨by rw [← r1.len]; exact szL hz, newLst q1.sto r1 g1⟩
    · exact g1.none.elim⟩⟩
end
end Ev
end
section
set_option Elab.async false
set_option linter.all false
set_option maxRecDepth 100000
namespace Ev
open PySem L2
variable [Tabs] [Clos]
section
variable {X : Cx} {cl : Cls} {E : XK} {e a b : Expr} {fa fb : EM} {pos : Pos}
theorem StoOk.lst {K : PySem.W.Frag} {H : Hp} {p : List Addr} {S : Sto} {n : Nat} {q : Addr} {ds : List D} (t : StoOk K H p S) (h : p[n]? = some q) (e : S[n]? = some (.lst ds)) : ∃ vs, H q = some (.lst vs) ∧ RepL K H p ds vs := t.cell n q _ h e
theorem sqL_of {K : PySem.W.Frag} {H : Hp} {q : Addr} {vs : List V} (h : H q = some (.lst vs)) : SqL K H q vs := .inl (.inl h)


def addD : Op2
  | .int i, .int j, S => some (.ok (.int (i + j)), S)
  | .str x, .str y, S => if x.length + y.length ≤ 1000000 then some (.ok (.str (x ++ y)), S) else none
  | .tup xs, .tup ys, S => if xs.length + ys.length ≤ 1000000 then some (.ok (.tup (xs ++ ys)), S) else none
  | .ref m, .ref n, S => match S[m]?, S[n]? with
    | some (.lst xs), some (.lst ys) => if xs.length + ys.length ≤ 1000000 then some (.ok (.ref S.length), S ++ [.lst (xs ++ ys)]) else none
    | _, _ => none
  | _, _, _ => none
theorem cat_tup0 {prog : Program} {w : World} {A : Around} {E : Value → Shared → Prop} {s : Shared} {t b : Addr} {ws : List Value} {Q : Value → Shared → Prop} (ht : PyProof.Rows.IsTup s.heap t #[]) (hb : PyProof.Rows.IsTup s.heap b ws.toArray) (h : Q (.ref b) s) : wpAny (model prog w) A (binaryOp .Add (.ref t) (.ref b)) Q E s := by
  obtain ⟨⟨cls, dd, data, sl⟩, ho, hc, n, hd⟩ := id ht
  obtain ⟨⟨cls2, dd2, data2, sl2⟩, ho2, hc2, n2, hd2⟩ := id hb
  simp only at hc hd hc2 hd2
  subst hc hd hc2 hd2
  exact PySem.concat_meets ⟨_, ho, rfl⟩ ⟨_, ho2, rfl⟩ noFill_tuple_add seq_tuple_add PySem.F.slot_tuple_add PySem.F.entry_tuple_add (PySem.F.args_tuple_add_2 _ _)
      (PyProof.Rows.tuple_addW0 t b #[] ws.toArray n n2 dd dd2 sl sl2 rfl) ⟨ho, ho2, h⟩
theorem op_addD : OpD X (binaryOp .Add) addD := ⟨fun cl E pins s σ H x y v u Q I rx ry ⟨p, S, a, b, t, ra, rb, g⟩ => by
  cases ra with
  | int i =>
    cases rb with
    | int j => exact op_add pins s σ H _ _ v u Q I rx ry ⟨i, j, rfl, rfl, g.ok (.refl t) (.int _)⟩
    | _ => exact g.none.elim
  | str i =>
    cases rb with
    | str j =>
      have g : G X.K cl E (Rep X.K) H p (if i.length + j.length ≤ 1000000 then some (.ok (.str (i ++ j)), S) else none) Q := g
      split at g
      · rename_i hz
        exact op_add_str pins s σ H _ _ v u Q I rx ry ⟨i, j, rfl, rfl, szL hz, g.ok (.refl t) (.str _)⟩
      · exact g.none.elim
    | _ => exact g.none.elim
  | @tup a1 ds1 vs1 h1 l1 =>
    cases rb with
    | @tup a2 ds2 vs2 h2 l2 =>
      have g : G X.K cl E (Rep X.K) H p (if ds1.length + ds2.length ≤ 1000000 then some (.ok (.tup (ds1 ++ ds2)), S) else none) Q := g
      split at g
      · rename_i hz
        by_cases h0 : vs1 = []
        · subst h0
          cases l1
          cases rx
          cases ry
          obtain ⟨its, r1, p1, _⟩ := I.tuple h1.sq
          obtain ⟨its2, r2, p2, _⟩ := I.tuple h2.sq
          cases r1
          exact cat_tup0 p1 p2 ⟨.ref a2, H, I, rfl, g.ok (.refl t) (.tup h2 l2)⟩
        · refine op_catT pins s σ H _ _ v u Q I rx ry ⟨a1, a2, vs1, vs2, rfl, rfl, h1.sq, h2.sq, h0, by rw [← l1.len, ← l2.len]; exact szL hz, fun z => ?_, fun z => newTup t (l1.app l2) g⟩
          subst z
          cases l2
          rw [List.append_nil] at g
          exact g.ok (.refl t) (.tup h1 l1)
      · exact g.none.elim
    | _ => exact g.none.elim
  | @ref m a1 h1 =>
    cases rb with
    | @ref n a2 h2 =>
      have g : G X.K cl E (Rep X.K) H p (match S[m]?, S[n]? with
        | some (.lst xs), some (.lst ys) => if xs.length + ys.length ≤ 1000000 then some (.ok (.ref S.length), S ++ [.lst (xs ++ ys)]) else none
        | _, _ => none) Q := g
      split at g
      · rename_i xs ys e1 e2
        split at g
        · rename_i hz
          obtain ⟨vs1, k1, l1⟩ := t.lst h1 e1
          obtain ⟨vs2, k2, l2⟩ := t.lst h2 e2
          exact op_cat pins s σ H _ _ v u Q I rx ry ⟨a1, a2, vs1, vs2, rfl, rfl, k1, k2, by rw [← l1.len, ← l2.len]; exact szL hz, newLst t (l1.app l2) g⟩
        · exact g.none.elim
      · exact g.none.elim
    | _ => exact g.none.elim
  | _ => exact g.none.elim⟩
def subD : Op2
  | .int i, .int j, S => some (.ok (.int (i - j)), S)
  | _, _, _ => none
theorem op_subD : OpD X (binaryOp .Sub) subD := ⟨fun cl E pins s σ H x y v u Q I rx ry ⟨p, S, a, b, t, ra, rb, g⟩ => by
  cases ra with
  | int i =>
    cases rb with
    | int j => exact op_sub pins s σ H _ _ v u Q I rx ry ⟨i, j, rfl, rfl, g.ok (.refl t) (.int _)⟩
    | _ => exact g.none.elim
  | _ => exact g.none.elim⟩
def mulD : Op2
  | .int i, .int j, S => if (-18446744073709551616 < i ∧ i < 18446744073709551616) ∨ (-18446744073709551616 < j ∧ j < 18446744073709551616) then some (.ok (.int (i * j)), S) else none
  | .ref n, .int j, S => match S[n]? with
    | some (.lst xs) => if 0 ≤ j ∧ j ≤ 1000000 ∧ xs.length * j.toNat ≤ 1000000 then some (.ok (.ref S.length), S ++ [.lst (List.replicate j.toNat xs).flatten]) else none
    | _ => none
  | _, _, _ => none
theorem rep_rep {K : PySem.W.Frag} {H : Hp} {p : List Addr} {ds : List D} {vs : List V} (l : RepL K H p ds vs) : ∀ k : Nat, RepL K H p (List.replicate k ds).flatten (List.replicate k vs).flatten
  | 0 => .nil
  | k + 1 => by
    rw [List.replicate_succ, List.replicate_succ, List.flatten_cons, List.flatten_cons]
    exact l.app (rep_rep l k)
theorem op_mulD : OpD X (binaryOp .Mult) mulD := ⟨fun cl E pins s σ H x y v u Q I rx ry ⟨p, S, a, b, t, ra, rb, g⟩ => by
  cases ra with
  | int i =>
    cases rb with
    | int j =>
      have g : G X.K cl E (Rep X.K) H p (if (-18446744073709551616 < i ∧ i < 18446744073709551616) ∨ (-18446744073709551616 < j ∧ j < 18446744073709551616) then some (.ok (.int (i * j)), S) else none) Q := g
      split at g
      · rename_i hz
        exact op_mul pins s σ H _ _ v u Q I rx ry ⟨i, j, rfl, rfl, by
          unfold CMul
          have e : (2 : Int) ^ 64 = 18446744073709551616 := by decide
          rw [e]; exact hz, g.ok (.refl t) (.int _)⟩
      · exact g.none.elim
    | _ => exact g.none.elim
  | @ref n a1 h1 =>
    cases rb with
    | int j =>
      have g : G X.K cl E (Rep X.K) H p (match S[n]? with
        | some (.lst xs) => if 0 ≤ j ∧ j ≤ 1000000 ∧ xs.length * j.toNat ≤ 1000000 then some (.ok (.ref S.length), S ++ [.lst (List.replicate j.toNat xs).flatten]) else none
        | _ => none) Q := g
      split at g
      · rename_i xs e1
        split at g
        · rename_i hz
          obtain ⟨vs1, k1, l1⟩ := t.lst h1 e1
          refine op_rep pins s σ H _ _ v u Q I rx ry ⟨a1, j, vs1, rfl, rfl, k1, ?_, ?_, by rw [← l1.len]; exact szL hz.2.2, newLst t (rep_rep l1 _) g⟩
          · have e : (2 : Int) ^ 63 = 9223372036854775808 := by decide
            rw [e]; omega
          · have e : (2 : Int) ^ 63 = 9223372036854775808 := by decide
            rw [e]; omega
        · exact g.none.elim
      · exact g.none.elim
    | _ => exact g.none.elim
  | _ => exact g.none.elim⟩
def modD : Op2
  | .int i, .int j, S => if 0 < j then some (.ok (.int (i % j)), S) else none
  | _, _, _ => none
theorem op_modD : OpD X (binaryOp .Mod) modD := ⟨fun cl E pins s σ H x y v u Q I rx ry ⟨p, S, a, b, t, ra, rb, g⟩ => by
  cases ra with
  | int i =>
    cases rb with
    | int j =>
      have g : G X.K cl E (Rep X.K) H p (if 0 < j then some (.ok (.int (i % j)), S) else none) Q := g
      split at g
      · rename_i hz
        exact op_mod pins s σ H _ _ v u Q I rx ry ⟨i, j, rfl, rfl, hz, g.ok (.refl t) (.int _)⟩
      · exact g.none.elim
    | _ => exact g.none.elim
  | _ => exact g.none.elim⟩
def fdivD : Op2
  | .int i, .int j, S => if 0 < j ∧ j < 18446744073709551616 then some (.ok (.int (i / j)), S) else none
  | _, _, _ => none
theorem log_small {j : Int} (h0 : 0 < j) (h : j < 18446744073709551616) : j.natAbs.log2 < 9000 := by
  have h1 : j.natAbs < 2 ^ 64 := by
    have e : (2 : Nat) ^ 64 = 18446744073709551616 := by decide
    rw [e]; omega
  exact Nat.lt_of_lt_of_le ((Nat.log2_lt (by omega)).mpr h1) (by decide)
theorem op_fdivW : OpR X (binaryOp .FloorDiv) (rI (fun _ j => 0 < j ∧ j < 18446744073709551616) fun i j => .int (i / j)) := opI fun i j _ _ _ _ _ hc q => by
  have h1 : (0 : Int) < j := hc.1
  exact PyProof.Rows.floordiv_int (by omega) (by rw [Int.fdiv_eq_ediv_of_nonneg i (by omega)]; exact q) (.inl (PyProof.noPylong_of_log2 (log_small hc.1 hc.2)))
theorem op_fdivD : OpD X (binaryOp .FloorDiv) fdivD := ⟨fun cl E pins s σ H x y v u Q I rx ry ⟨p, S, a, b, t, ra, rb, g⟩ => by
  cases ra with
  | int i =>
    cases rb with
    | int j =>
      have g : G X.K cl E (Rep X.K) H p (if 0 < j ∧ j < 18446744073709551616 then some (.ok (.int (i / j)), S) else none) Q := g
      split at g
      · rename_i hz
        exact op_fdivW pins s σ H _ _ v u Q I rx ry ⟨i, j, rfl, rfl, hz, g.ok (.refl t) (.int _)⟩
      · exact g.none.elim
    | _ => exact g.none.elim
  | _ => exact g.none.elim⟩
def powD : Op2
  | .int i, .int j, S => if 0 ≤ j ∧ j ≤ 1000000 ∧ i.natAbs < 18446744073709551616 then some (.ok (.int (i ^ j.toNat)), S) else none
  | _, _, _ => none
theorem op_powD : OpD X (binaryOp .Pow) powD := ⟨fun cl E pins s σ H x y v u Q I rx ry ⟨p, S, a, b, t, ra, rb, g⟩ => by
  cases ra with
  | int i =>
    cases rb with
    | int j =>
      have g : G X.K cl E (Rep X.K) H p (if 0 ≤ j ∧ j ≤ 1000000 ∧ i.natAbs < 18446744073709551616 then some (.ok (.int (i ^ j.toNat)), S) else none) Q := g
      split at g
      · rename_i hz
        exact op_pow pins s σ H _ _ v u Q I rx ry ⟨i, j, rfl, rfl, ⟨hz.1, hz.2.1, by
          have e : (2 : Nat) ^ 64 = 18446744073709551616 := by decide
          rw [e]; exact hz.2.2⟩, g.ok (.refl t) (.int _)⟩
      · exact g.none.elim
    | _ => exact g.none.elim
  | _ => exact g.none.elim⟩


def toP (S : Sto) : Nat → D → Option PyData
  | _, .non => some .none
  | _, .bl b => some (.bool b)
  | _, .int i => some (.int i)
  | _, .str x => some (.str x)
  | k + 1, .tup xs => (xs.mapM (toP S k)).map .tuple
  | k + 1, .kt xs => (xs.mapM (toP S k)).map .tuple
  | k + 1, .fl xs => (xs.mapM (toP S k)).map .list
  | k + 1, .ref n => match S[n]? with
    | some (.lst xs) => (xs.mapM (toP S k)).map .list
    | _ => none
  | _, _ => none
theorem dp_all {K : PySem.W.Frag} {H : Hp} {p : List Addr} {S : Sto} {k : Nat} (ih : ∀ d v P, Rep K H p d v → toP S k d = some P → Dp K H v P) : ∀ {ds : List D} {vs : List V} {Ps : List PyData}, RepL K H p ds vs → ds.mapM (toP S k) = some Ps → DpAll K H vs Ps
  | _, _, _, .nil, e => by
    rw [List.mapM_nil] at e
    cases e
    exact .nil
  | _, _, _, .cons (d := d) (ds := ds) r t, e => by
    rw [List.mapM_cons] at e
    cases h1 : toP S k d with
    | none => rw [h1] at e; cases e
    | some P =>
      rw [h1] at e
      cases h2 : ds.mapM (toP S k) with
      | none => rw [h2] at e; cases e
      | some Ps =>
        rw [h2] at e
        cases e
        exact .cons (ih _ _ _ r h1) (dp_all ih t h2)
theorem dp_of {K : PySem.W.Frag} {H : Hp} {p : List Addr} {S : Sto} (t : StoOk K H p S) : ∀ (k : Nat) (d : D) (v : V) (P : PyData), Rep K H p d v → toP S k d = some P → Dp K H v P := by
  intro k
  induction k with
  | zero =>
    intro d v P r e
    cases r with
    | non => cases e; exact .non
    | bl b => cases e; exact .bl b
    | int b => cases e; exact .int b
    | str b => cases e; exact .str b
    | tup _ _ => cases e
    | kt _ _ => cases e
    | fl _ _ => cases e
    | ref _ => cases e
    | ty _ => cases e
    | kc _ => cases e
  | succ k ih =>
    intro d v P r e
    cases r with
    | non => cases e; exact .non
    | bl b => cases e; exact .bl b
    | int b => cases e; exact .int b
    | str b => cases e; exact .str b
    | tup h l =>
      obtain ⟨Ps, e1, e2⟩ := Option.map_eq_some_iff.mp e
      subst e2
      exact .tup h.sq (dp_all ih l e1)
    | kt h l =>
      obtain ⟨Ps, e1, e2⟩ := Option.map_eq_some_iff.mp e
      subst e2
      exact .tup (sqT_any h) (dp_all ih l e1)
    | fl h l =>
      obtain ⟨Ps, e1, e2⟩ := Option.map_eq_some_iff.mp e
      subst e2
      exact .lst h.sq (dp_all ih l e1)
    | @ref n a h =>
      have e : (match S[n]? with
        | some (.lst xs) => (xs.mapM (toP S k)).map PyData.list
        | _ => none) = some P := e
      split at e
      · rename_i xs hx
        obtain ⟨Ps, e1, e2⟩ := Option.map_eq_some_iff.mp e
        subst e2
        obtain ⟨vs, h1, h2⟩ := t.lst h hx
        exact .lst (sqL_of h1) (dp_all ih h2 e1)
      · cases e
    | ty _ => cases e
    | kc _ => cases e
def eqG (S : Sto) (a b : D) : Option Bool := match toP S 9 a, toP S 9 b with
  | some P, some R => if (SeqAt.shaped P && SeqAt.shaped R) = true then some (PyData.eqv P R) else none
  | _, _ => none
def eqS : D → D → Option Bool
  | .int i, .int j => some (decide (i = j))
  | .str x, .str y => some (decide (x = y))
  | .bl i, .bl j => some (decide (i = j))
  | .non, .non => some true
  | .non, .bl _ => some false
  | .non, .int _ => some false
  | .non, .str _ => some false
  | .bl _, .non => some false
  | .bl _, .str _ => some false
  | .int _, .non => some false
  | .int _, .str _ => some false
  | .str _, .non => some false
  | .str _, .bl _ => some false
  | .str _, .int _ => some false
  | _, _ => none
def eqD : Op2 := fun a b S => match eqS a b with
  | some c => some (.ok (.bl c), S)
  | none => match eqG S a b with
    | some c => some (.ok (.bl c), S)
    | none => none
def neD : Op2 := fun a b S => match eqS a b with
  | some c => some (.ok (.bl (!c)), S)
  | none => match eqG S a b with
    | some c => some (.ok (.bl (!c)), S)
    | none => none
theorem eqS_v {K : PySem.W.Frag} {H : Hp} {p : List Addr} {a b : D} {x y : V} {c : Bool} (ra : Rep K H p a x) (rb : Rep K H p b y) (e : eqS a b = some c) : scal x y = true ∧ decide (x = y) = c := by
  cases ra <;> cases rb <;> first | (cases e; done) | (simp only [eqS, Option.some.injEq] at e; subst e; exact ⟨rfl, by simp⟩)
theorem op_eqDD (hu : X.A.units + 64 < cLine) : OpD X (compareOp .Eq) eqD := ⟨fun cl E pins s σ H x y v u Q I rx ry ⟨p, S, a, b, t, ra, rb, g⟩ => by
  have key : ∀ c, eqG S a b = some c → Q (.bl c) H → wpAny (model X.prog X.w) X.A (compareOp .Eq v u) (EP X pins σ Q) X.xe s := fun c hc q => by
    unfold eqG at hc
    split at hc
    · rename_i P R e1 e2
      split at hc
      · rename_i hz
        cases hc
        have hz := Bool.and_eq_true_iff.mp hz
        exact op_eqD hu pins s σ H x y v u Q I rx ry ⟨P, R, dp_of t _ _ _ _ ra e1, dp_of t _ _ _ _ rb e2, hz.1, hz.2, q⟩
      · cases hc
    · cases hc
  unfold eqD at g
  split at g
  · rename_i c hc
    obtain ⟨h1, h2⟩ := eqS_v ra rb hc
    exact op_eq pins s σ H _ _ v u Q I rx ry ⟨h1, by
      have q := g.ok (.refl t) (.bl _)
      rw [h2]; exact q⟩
  · cases hc : eqG S a b with
    | none => rw [hc] at g; exact g.none.elim
    | some c =>
      rw [hc] at g
      exact key c hc (g.ok (.refl t) (.bl _))⟩
theorem op_neDD (hu : X.A.units + 64 < cLine) : OpD X (compareOp .NotEq) neD := ⟨fun cl E pins s σ H x y v u Q I rx ry ⟨p, S, a, b, t, ra, rb, g⟩ => by
  have key : ∀ c, eqG S a b = some c → Q (.bl (!c)) H → wpAny (model X.prog X.w) X.A (compareOp .NotEq v u) (EP X pins σ Q) X.xe s := fun c hc q => by
    unfold eqG at hc
    split at hc
    · rename_i P R e1 e2
      split at hc
      · rename_i hz
        cases hc
        have hz := Bool.and_eq_true_iff.mp hz
        exact op_neD hu pins s σ H x y v u Q I rx ry ⟨P, R, dp_of t _ _ _ _ ra e1, dp_of t _ _ _ _ rb e2, hz.1, hz.2, q⟩
      · cases hc
    · cases hc
  unfold neD at g
  split at g
  · rename_i c hc
    obtain ⟨h1, h2⟩ := eqS_v ra rb hc
    exact op_ne pins s σ H _ _ v u Q I rx ry ⟨h1, by
      have q := g.ok (.refl t) (.bl _)
      rw [h2]; exact q⟩
  · cases hc : eqG S a b with
    | none => rw [hc] at g; exact g.none.elim
    | some c =>
      rw [hc] at g
      exact key c hc (g.ok (.refl t) (.bl _))⟩

def intsOf : List D → Option (List Int)
  | [] => some []
  | .int i :: r => (intsOf r).map (i :: ·)
  | _ :: _ => none
theorem intsOf_rep {K : PySem.W.Frag} {H : Hp} {p : List Addr} : ∀ {ds : List D} {vs : List V} {is : List Int}, RepL K H p ds vs → intsOf ds = some is → vs = is.map V.int
  | _, _, _, .nil, e => by cases e; rfl
  | _, _, _, .cons r t, e => by
    cases r with
    | int i =>
      obtain ⟨m, e1, e2⟩ := Option.map_eq_some_iff.mp e
      subst e2
      rw [intsOf_rep t e1]
      rfl
    | _ => cases e
def ltD : Op2
  | .int i, .int j, S => some (.ok (.bl (decide (i < j))), S)
  | .tup xs, .tup ys, S => match intsOf xs, intsOf ys with
    | some a, some b => some (.ok (.bl (HT.lexLt a b)), S)
    | _, _ => none
  | _, _, _ => none
theorem op_ltD (hu : X.A.units < cLine) : OpD X (compareOp .Lt) ltD := ⟨fun cl E pins s σ H x y v u Q I rx ry ⟨p, S, a, b, t, ra, rb, g⟩ => by
  cases ra with
  | int i =>
    cases rb with
    | int j => exact op_lt pins s σ H _ _ v u Q I rx ry ⟨i, j, rfl, rfl, g.ok (.refl t) (.bl _)⟩
    | _ => exact g.none.elim
  | @tup a1 ds1 vs1 h1 l1 =>
    cases rb with
    | @tup a2 ds2 vs2 h2 l2 =>
      have g : G X.K cl E (Rep X.K) H p (match intsOf ds1, intsOf ds2 with
        | some a, some b => some (.ok (.bl (HT.lexLt a b)), S)
        | _, _ => none) Q := g
      split at g
      · rename_i m n e1 e2
        have z1 := intsOf_rep l1 e1
        have z2 := intsOf_rep l2 e2
        subst z1 z2
        exact op_ltT hu pins s σ H _ _ v u Q I rx ry ⟨a1, a2, m, n, rfl, rfl, h1.sq, h2.sq, g.ok (.refl t) (.bl _)⟩
      · exact g.none.elim
    | _ => exact g.none.elim
  | _ => exact g.none.elim⟩
def cmpI (f : Int → Int → Bool) : Op2
  | .int i, .int j, S => some (.ok (.bl (f i j)), S)
  | _, _, _ => none
theorem cmpI_ok {o : CmpOp} {f : Int → Int → Bool} (h : OpR X (compareOp o) (rI0 fun i j => .bl (f i j))) : OpD X (compareOp o) (cmpI f) := ⟨fun cl E pins s σ H x y v u Q I rx ry ⟨p, S, a, b, t, ra, rb, g⟩ => by
  cases ra with
  | int i =>
    cases rb with
    | int j => exact h pins s σ H _ _ v u Q I rx ry ⟨i, j, rfl, rfl, g.ok (.refl t) (.bl _)⟩
    | _ => exact g.none.elim
  | _ => exact g.none.elim⟩
theorem op_leD : OpD X (compareOp .LtE) (cmpI fun i j => decide (i ≤ j)) := cmpI_ok op_le
theorem op_gtD : OpD X (compareOp .Gt) (cmpI fun i j => decide (j < i)) := cmpI_ok op_gt
theorem atI_rep {K : PySem.W.Frag} {H : Hp} {p : List Addr} {ds : List D} {vs : List V} {i : Int} {d : D} (l : RepL K H p ds vs) (e : atI ds i = some d) : ∃ v, atI vs i = some v ∧ Rep K H p d v := by
  unfold atI at e ⊢
  rw [← l.len]
  cases h : ixN ds.length i with
  | none => rw [h] at e; cases e
  | some j =>
    rw [h] at e
    exact l.get e
def ixD : Op2
  | .tup xs, .int i, S => match atI xs i with
    | some d => some (.ok d, S)
    | none => none
  | .fl xs, .int i, S => match atI xs i with
    | some d => some (.ok d, S)
    | none => none
  | .ref n, .int i, S => match S[n]? with
    | some (.lst xs) => match atI xs i with
      | some d => some (.ok d, S)
      | none => none
    | _ => none
  | .str z, .int i, S => if z.length ≤ 1000000 then match atI z.cps.toList i with
      | some c => some (.ok (.str ⟨#[c]⟩), S)
      | none => none
    else none
  | _, _, _ => none
theorem ix_D : IxD X ixD := ⟨fun cl E value slice pins s σ H x y v u Q I rx ry ⟨p, S, a, b, t, ra, rb, g⟩ hs => by
  cases rb with
  | int i =>
    cases ra with
    | @tup q ds vs h l =>
      have g : G X.K cl E (Rep X.K) H p (match atI ds i with
        | some d => some (.ok d, S)
        | none => none) Q := g
      split at g
      · rename_i d hd
        obtain ⟨w, e1, r1⟩ := atI_rep l hd
        exact ix_tup value slice pins s σ H _ _ v u Q I rx ry ⟨q, vs, i, w, rfl, rfl, h.sq, e1, g.ok (.refl t) r1⟩ hs
      · exact g.none.elim
    | @fl q ds vs h l =>
      have g : G X.K cl E (Rep X.K) H p (match atI ds i with
        | some d => some (.ok d, S)
        | none => none) Q := g
      split at g
      · rename_i d hd
        obtain ⟨w, e1, r1⟩ := atI_rep l hd
        exact ix_list value slice pins s σ H _ _ v u Q I rx ry ⟨q, vs, i, w, rfl, rfl, h.sq, e1, g.ok (.refl t) r1⟩ hs
      · exact g.none.elim
    | @ref n q h =>
      have g : G X.K cl E (Rep X.K) H p (match S[n]? with
        | some (.lst xs) => match atI xs i with
          | some d => some (.ok d, S)
          | none => none
        | _ => none) Q := g
      split at g
      · rename_i ds hx
        obtain ⟨vs, h1, l⟩ := t.lst h hx
        split at g
        · rename_i d hd
          obtain ⟨w, e1, r1⟩ := atI_rep l hd
          exact ix_list value slice pins s σ H _ _ v u Q I rx ry ⟨q, vs, i, w, rfl, rfl, sqL_of h1, e1, g.ok (.refl t) r1⟩ hs
        · exact g.none.elim
      · exact g.none.elim
    | str z =>
      have g : G X.K cl E (Rep X.K) H p (if z.length ≤ 1000000 then match atI z.cps.toList i with
        | some c => some (.ok (.str ⟨#[c]⟩), S)
        | none => none
      else none) Q := g
      split at g
      · rename_i hz
        split at g
        · rename_i c hc
          exact ix_str value slice pins s σ H _ _ v u Q I rx ry ⟨z, i, c, rfl, rfl, szL hz, hc, g.ok (.refl t) (.str _)⟩ hs
        · exact g.none.elim
      · exact g.none.elim
    | _ => exact g.none.elim
  | _ => cases ra <;> exact g.none.elim⟩
end
end Ev
end
section
set_option Elab.async false
set_option linter.all false
set_option maxRecDepth 100000
namespace Ev
open PySem L2
variable [Tabs] [Clos]
section
variable {X : Cx} {cl : Cls} {E : XK} {e a b : Expr} {fa fb : EM} {pos p1 : Pos}
abbrev OpN := List D → Sto → O D
def rCl (X : Cx) (cl : Cls) (E : XK) (op : OpN) : List V → Hp → VK → Prop := fun vs H Q => ∃ p S ds, StoOk X.K H p S ∧ RepL X.K H p ds vs ∧ G X.K cl E (Rep X.K) H p (op ds S) Q
structure ClD (X : Cx) (f : Value) (op : OpN) : Prop where
  h : ∀ (cl : Cls) (E : XK), CallR X f (rCl X cl E op)
def callE (op : OpN) (f : AM) : EM := fun L S => bnd (f L S) fun ds S1 => op ds S1
theorem call_to {op : OpN} {f : AM} {s : L2.St} {H : Hp} {Q : VK} (h : tr X.K cl E (callE op f) s H Q) : trA X.K cl E f s H (fun vs H1 => rCl X cl E op vs H1 Q) := by
  obtain ⟨p, L, S, l, t, g⟩ := h
  exact ⟨p, L, S, l, t, (G.bind (r := RepL X.K) g).mono fun vs H1 ⟨p1, ds, S1, q1, r1, g1⟩ => ⟨p1, S1, ds, q1.sto, r1, g1⟩⟩
theorem ev_callB {x : Str} {id : String} {op : OpN} {es : List Expr} {f : AM} (hc : ClD X (.builtin id) op) (hg : Gl X x) (hm : X.mg x = none) (hv : bootBuiltins x = some (.builtin id)) (ha : EvA X cl E (e :: es) f) (hn : x ≠ "__name__") (hdb : (x == ("__debug__" : Str)) = false)
    (he : starEach (e :: es) X.env = (false, eval e X.env) :: starEach es X.env) (hpl : (backTo pos (starEach es X.env)).any (·.1) = false) : EvE X cl E (.Call (.Name x p1) (e :: es) [] pos) (callE op f) :=
  ⟨PEm (pe_callB (hc.h cl E) hg hm hv ha.h hn hdb he hpl) fun _ _ _ h => call_to h⟩
theorem ev_bltn {x : Str} {n : String} (hg : Gl X x) (hm : X.mg x = none) (hv : bootBuiltins x = some (.type n)) (hn : x ≠ "__name__") (hdb : (x == ("__debug__" : Str)) = false) : EvE X cl E (.Name x pos) (cst (.ty n)) :=
  ⟨PEm (pe_bltn (v := .ty n) hg hm hv rfl hn hdb) fun _ _ _ h => cst_to (fun _ _ => .ty n) h⟩

def lenD : OpN
  | [.tup xs], S => some (.ok (.int xs.length), S)
  | [.fl xs], S => some (.ok (.int xs.length), S)
  | [.str x], S => if x.length ≤ 1000000 then some (.ok (.int x.length), S) else none
  | [.ref n], S => match S[n]? with
    | some (.lst xs) => some (.ok (.int xs.length), S)
    | some (.dk kvs) => some (.ok (.int kvs.length), S)
    | _ => none
  | _, _ => none
theorem RepK.len {K : PySem.W.Frag} {H : Hp} {p : List Addr} {κ : Type} : ∀ {ds : List (κ × D)} {vs : List (κ × V)}, RepK K H p ds vs → ds.length = vs.length
  | _, _, .nil => rfl
  | _, _, .cons _ b => by simp [RepK.len b]
theorem cl_len : ClD X (.builtin "len") lenD := ⟨fun cl E pins s σ H vs us Q I r ⟨p, S, ds, t, rl, g⟩ => by
  cases rl with
  | nil => exact g.none.elim
  | cons r1 rr =>
    cases rr with
    | cons _ _ => cases r1 <;> exact g.none.elim
    | nil =>
      cases r1 with
      | @tup q xs ws h l => exact call_len_seq pins s σ H _ us Q I r ⟨q, ws, rfl, .inr h.sq, by rw [← l.len]; exact g.ok (.refl t) (.int _)⟩
      | @fl q xs ws h l => exact call_len_seq pins s σ H _ us Q I r ⟨q, ws, rfl, .inl h.sq, by rw [← l.len]; exact g.ok (.refl t) (.int _)⟩
      | str x =>
        have g : G X.K cl E (Rep X.K) H p (if x.length ≤ 1000000 then some (.ok (.int x.length), S) else none) Q := g
        split at g
        · rename_i hz
          exact call_len_str pins s σ H _ us Q I r ⟨x, rfl, szL hz, g.ok (.refl t) (.int _)⟩
        · exact g.none.elim
      | @ref n q h =>
        have g : G X.K cl E (Rep X.K) H p (match S[n]? with
          | some (.lst xs) => some (.ok (.int xs.length), S)
          | some (.dk kvs) => some (.ok (.int kvs.length), S)
          | _ => none) Q := g
        split at g
        · rename_i xs hx
          obtain ⟨ws, h1, l⟩ := t.lst h hx
          exact call_len_seq pins s σ H _ us Q I r ⟨q, ws, rfl, .inl (sqL_of h1), by rw [← l.len]; exact g.ok (.refl t) (.int _)⟩
        · rename_i xs hx
          obtain ⟨ws, h1, l⟩ := t.cell n q _ h hx
          exact call_lenD pins s σ H _ us Q I r ⟨q, ws, rfl, h1, by rw [← l.len]; exact g.ok (.refl t) (.int _)⟩
        · exact g.none.elim
      | _ => exact g.none.elim⟩
def maxD : OpN
  | [.int i, .int j], S => some (.ok (.int (if j > i then j else i)), S)
  | _, _ => none
def minD : OpN
  | [.int i, .int j], S => some (.ok (.int (if j < i then j else i)), S)
  | _, _ => none
theorem two_ints {K : PySem.W.Frag} {H : Hp} {p : List Addr} {f : Int → Int → D} {S : Sto} {Q : VK} {ds : List D} {vs : List V} {op : OpN} (hop : ∀ ds S, (∃ i j, ds = [.int i, .int j] ∧ op ds S = some (.ok (f i j), S)) ∨ op ds S = none) (rl : RepL K H p ds vs) (g : G K cl E (Rep K) H p (op ds S) Q) :
    ∃ i j, vs = [.int i, .int j] ∧ G K cl E (Rep K) H p (some (.ok (f i j), S)) Q := by
  rcases hop ds S with ⟨i, j, rfl, h⟩ | h
  · rw [h] at g
    cases rl with
    | cons r1 rr =>
      cases rr with
      | cons r2 rr =>
        cases rr
        cases r1
        cases r2
        exact ⟨i, j, rfl, g⟩
  · rw [h] at g
    exact g.none.elim
theorem cl_max (hc : X.calm = true) : ClD X (.builtin "max") maxD := ⟨fun cl E pins s σ H vs us Q I r ⟨p, S, ds, t, rl, g⟩ => by
  obtain ⟨i, j, rfl, g⟩ := two_ints (f := fun i j => .int (if j > i then j else i)) (fun ds S => by
    unfold maxD
    split
    · exact .inl ⟨_, _, rfl, rfl⟩
    · exact .inr rfl) rl g
  exact call_max2 hc pins s σ H _ us Q I r ⟨i, j, rfl, g.ok (.refl t) (.int _)⟩⟩
def absD : OpN
  | [.int i], S => some (.ok (.int (if i < 0 then -i else i)), S)
  | _, _ => none
theorem cl_abs : ClD X (.builtin "abs") absD := ⟨fun cl E pins s σ H vs us Q I r ⟨p, S, ds, t, rl, g⟩ => by
  unfold absD at g
  split at g
  · rename_i i
    cases rl with
    | cons r1 rr =>
      cases rr
      cases r1
      exact call_abs pins s σ H _ us Q I r ⟨i, rfl, g.ok (.refl t) (.int _)⟩
  · exact g.none.elim⟩
theorem cl_min (hc : X.calm = true) : ClD X (.builtin "min") minD := ⟨fun cl E pins s σ H vs us Q I r ⟨p, S, ds, t, rl, g⟩ => by
  obtain ⟨i, j, rfl, g⟩ := two_ints (f := fun i j => .int (if j < i then j else i)) (fun ds S => by
    unfold minD
    split
    · exact .inl ⟨_, _, rfl, rfl⟩
    · exact .inr rfl) rl g
  exact call_min2 hc pins s σ H _ us Q I r ⟨i, j, rfl, g.ok (.refl t) (.int _)⟩⟩

def tyD (S : Sto) : D → Option String
  | .non => some "NoneType"
  | .bl _ => some "bool"
  | .int _ => some "int"
  | .str _ => some "str"
  | .tup _ => some "tuple"
  | .fl _ => some "list"
  | .ref n => match S[n]? with
    | some (.lst _) => some "list"
    | some (.dk _) => some "dict"
    | some (.dt _) => some "dict"
    | _ => none
  | _ => none
def subTy (T c : String) : Bool := T == c || (T == "bool" && c == "int")
def isiD : OpN
  | [d, .ty c], S => if ["int", "bool", "str", "tuple", "list", "dict"].contains c then match tyD S d with
      | some T => some (.ok (.bl (subTy T c)), S)
      | none => none
    else none
  | _, _ => none
theorem kit_sub (K : PySem.W.Frag) {T c : String} (hT : T ∈ ["NoneType", "bool", "int", "str", "tuple", "list", "dict"]) (hc : c ∈ ["int", "bool", "str", "tuple", "list", "dict"]) : PySem.W.kitOne K (.type T) (.type c) = some (subTy T c) := by
  simp only [List.mem_cons, List.not_mem_nil, or_false] at hT hc
  rcases hT with rfl | rfl | rfl | rfl | rfl | rfl | rfl <;> rcases hc with rfl | rfl | rfl | rfl | rfl | rfl <;> kernel_rfl
theorem isi_one {pins : List (Addr × Obj)} {σ : L2.St} {H : Hp} {s : Shared} {p : List Addr} {S : Sto} {d : D} {v : V} {u : Value} {T c : String} {Q : Value → Shared → Prop} {E : Value → Shared → Prop} {A : Around} (I : Inv X pins σ H s) (t : StoOk X.K H p S) (r : Rep X.K H p d v) (ru : RelV v u) (e : tyD S d = some T) (hc : c ∈ ["int", "bool", "str", "tuple", "list", "dict"]) (h : ∀ tk, Q (.bool (subTy T c)) { s with toks := tk }) :
    wpAny (model X.prog X.w) A (call (.builtin "isinstance") [u, .type c]) Q E s := by
  cases r with
  | non => cases e; exact isinst_ok I ru .non (kit_sub _ (by decide) hc) h
  | bl b => cases e; exact isinst_ok I ru (.bl b) (kit_sub _ (by decide) hc) h
  | int b => cases e; exact isinst_ok I ru (.int b) (kit_sub _ (by decide) hc) h
  | str b => cases e; exact isinst_ok I ru (.str b) (kit_sub _ (by decide) hc) h
  | @tup q xs ws h1 l =>
    cases e
    cases ru
    obtain ⟨its, _, pl, _⟩ := I.tuple h1.sq
    obtain ⟨o, h2, h3, _⟩ := pl
    exact PySem.W.kia_one PySem.W.kitx_tuple I.kIn ⟨o, h2, h3⟩ (kit_sub _ (by decide) hc) (fun z => nomatch z) h
  | @fl q xs ws h1 l =>
    cases e
    cases ru
    obtain ⟨its, _, pl, _⟩ := I.list h1.sq
    obtain ⟨o, h2, h3, h4, _⟩ := pl
    exact PySem.W.kia_one PySem.W.kitx_list I.kIn ⟨o, h3, h4⟩ (kit_sub _ (by decide) hc) (fun z => nomatch z) h
  | @ref n q h1 =>
    have e : (match S[n]? with
      | some (.lst _) => some "list"
      | some (.dk _) => some "dict"
      | some (.dt _) => some "dict"
      | _ => none) = some T := e
    split at e
    · rename_i xs hx
      cases e
      obtain ⟨ws, h2, _⟩ := t.lst h1 hx
      exact isinst_ok I ru (.lst h2) (kit_sub _ (by decide) hc) h
    · rename_i xs hx
      cases e
      obtain ⟨ws, h2, _⟩ := t.cell n q _ h1 hx
      exact isinst_ok I ru (.dK h2) (kit_sub _ (by decide) hc) h
    · rename_i xs hx
      cases e
      obtain ⟨ws, h2, _⟩ := t.cell n q _ h1 hx
      exact isinst_ok I ru (.dT h2) (kit_sub _ (by decide) hc) h
    · cases e
  | ty _ => cases e
  | kc _ => cases e
  | kt _ _ => cases e
theorem cl_isi : ClD X (.builtin "isinstance") isiD := ⟨fun cl E pins s σ H vs us Q I r ⟨p, S, ds, t, rl, g⟩ => by
  unfold isiD at g
  split at g
  · rename_i d c
    split at g
    · rename_i hc
      cases hT : tyD S d with
      | none => rw [hT] at g; exact g.none.elim
      | some T =>
        rw [hT] at g
        cases rl with
        | cons r1 rr =>
          cases rr with
          | cons r2 rr =>
            cases rr
            cases r2
            cases r with
            | cons u1 ur =>
              cases ur with
              | cons u2 ur =>
                cases ur
                cases u2
                exact isi_one I t r1 u1 hT (List.contains_iff_mem.mp hc) fun tk => ⟨.bl _, H, I.tok tk, rfl, g.ok (.refl t) (.bl _)⟩
    · exact g.none.elim
  · exact g.none.elim⟩

def blsOf : List D → Option (List Bool)
  | [] => some []
  | .bl i :: r => (blsOf r).map (i :: ·)
  | _ :: _ => none
theorem blsOf_rep {K : PySem.W.Frag} {H : Hp} {p : List Addr} : ∀ {ds : List D} {vs : List V} {is : List Bool}, RepL K H p ds vs → blsOf ds = some is → vs = is.map V.bl
  | _, _, _, .nil, e => by cases e; rfl
  | _, _, _, .cons r t, e => by
    cases r with
    | bl i =>
      obtain ⟨m, e1, e2⟩ := Option.map_eq_some_iff.mp e
      subst e2
      rw [blsOf_rep t e1]
      rfl
    | _ => cases e
end
end Ev
end
section
set_option Elab.async false
set_option linter.all false
set_option maxRecDepth 100000
namespace Ev
open PySem L2
open PyProof.Rows hiding St
variable [Tabs] [Clos]
section
variable {X : Cx} {cl : Cls} {E : XK} {e a b : Expr} {fa fb : EM} {pos p1 : Pos} {st : Stmt} {sts : List Stmt} {f g : SM}
def nxS : SM := fun L S => some (.ok (.nx L), S)
def seqS (f g : SM) : SM := fun L S => bnd (f L S) fun fl S1 => match fl with
  | .nx L1 => g L1 S1
  | fl => some (.ok fl, S1)
theorem ev_bnil : EvB X cl E [] nxS := ⟨PSsm pss_nil fun N s H ⟨p, L, S, l, t, g⟩ => G.ok (b := .nx s) g (.refl t) (.nx l)⟩
theorem ev_bcons (h1 : EvS X cl E st f) (h2 : EvB X cl E sts g) : EvB X cl E (st :: sts) (seqS f g) :=
  ⟨PSsm (pss_cons h1.h h2.h) fun N s H ⟨p, L, S, l, t, w⟩ => ⟨p, L, S, l, t, (G.bind (r := FRep X.K) w).mono fun v H1 ⟨p1, d1, S1, q1, r1, g1⟩ => by
    cases r1 with
    | nx l1 => exact ⟨p1, _, S1, l1, q1.sto, g1⟩
    | bk l1 => exact g1.ok (.refl q1.sto) (.bk l1)
    | ct l1 => exact g1.ok (.refl q1.sto) (.ct l1)
    | rt l1 => exact g1.ok (.refl q1.sto) (.rt l1)⟩⟩
theorem ev_bone (h1 : EvS X cl E st f) : EvB X cl E [st] f := ⟨pss_one h1.h⟩
def exprS (f : EM) : SM := fun L S => bnd (f L S) fun _ S1 => some (.ok (.nx L), S1)
theorem ev_expr (he : EvE X cl E e fa) (hs : swapsWith e none pos.line X.env = pure false) : EvS X cl E (.Expr e pos) (exprS fa) :=
  ⟨PSm (ps_expr he.h hs) fun N s H ⟨p, L, S, l, t, w⟩ => ⟨p, L, S, l, t, (G.bind (r := Rep X.K) w).mono fun v H1 ⟨p1, d1, S1, q1, r1, g1⟩ => G.ok (b := .nx s) g1 (.refl q1.sto) (.nx (l.mono q1))⟩⟩
def retS (f : EM) : SM := fun L S => bnd (f L S) fun d S1 => some (.ok (.rt d), S1)
theorem ev_ret (he : EvE X cl E e fa) : EvS X cl E (.Return (some e) pos) (retS fa) :=
  ⟨PSm (ps_ret he.h) fun N s H ⟨p, L, S, l, t, w⟩ => ⟨p, L, S, l, t, (G.bind (r := Rep X.K) w).mono fun v H1 ⟨p1, d1, S1, q1, r1, g1⟩ => G.ok (b := .rt v) g1 (.refl q1.sto) (.rt r1)⟩⟩
def ifS (c : TM) (f g : SM) : SM := fun L S => bnd (c L S) fun b S1 => match b with
  | true => f L S1
  | false => g L S1
theorem ev_ifS {c : Expr} {t1 t2 : List Stmt} {fc : TM} (hc : EvT X cl E c fc) (h1 : EvB X cl E t1 f) (h2 : EvB X cl E t2 g) : EvS X cl E (.If c t1 t2 pos) (ifS fc f g) :=
  ⟨PSm (ps_if hc.h h1.h h2.h) fun N s H ⟨p, L, S, l, t, w⟩ => ⟨p, L, S, l, t, (G.bind (r := EqB) w).mono fun v H1 ⟨p1, d1, S1, q1, r1, g1⟩ => by
    obtain rfl : d1 = v := r1
    cases d1 with
    | true => rw [if_pos rfl]; exact ⟨p1, L, S1, l.mono q1, q1.sto, g1⟩
    | false => rw [if_neg (by decide)]; exact ⟨p1, L, S1, l.mono q1, q1.sto, g1⟩⟩⟩


abbrev GM := D → Loc → Sto → O Loc
abbrev GsM := List D → Loc → Sto → O Loc
def trG (K : PySem.W.Frag) (cl : Cls) (E : XK) (f : GM) : TG := fun v s H Q => ∃ p L S d, LocOk K H p L s ∧ StoOk K H p S ∧ Rep K H p d v ∧ G K cl E (LocOk K) H p (f d L S) Q
def trGs (K : PySem.W.Frag) (cl : Cls) (E : XK) (f : GsM) : TGs := fun v s H Q => ∃ p L S d, LocOk K H p L s ∧ StoOk K H p S ∧ RepL K H p d v ∧ G K cl E (LocOk K) H p (f d L S) Q
structure EvG (X : Cx) (cl : Cls) (E : XK) (tg : Expr) (f : GM) : Prop where
  h : PG X tg (trG X.K cl E f)
structure EvGs (X : Cx) (cl : Cls) (E : XK) (tg : List Expr) (f : GsM) : Prop where
  h : PGs X tg (trGs X.K cl E f)
theorem PGm {tg : Expr} {t t' : TG} (h : PG X tg t) (k : ∀ v s H Q, t' v s H Q → t v s H Q) : PG X tg t' := fun pins s σ H v u Q I r w => h pins s σ H v u Q I r (k _ _ _ _ w)
theorem PGsm {tg : List Expr} {t t' : TGs} (h : PGs X tg t) (k : ∀ v s H Q, t' v s H Q → t v s H Q) : PGs X tg t' := fun pins s σ H v u Q I r w => h pins s σ H v u Q I r (k _ _ _ _ w)
def setG (i : Nat) : GM := fun d L S => some (.ok (L.set i (some d)), S)
theorem ev_gname (i : Nat) {x : Str} (hN : X.N.Nodup) (hi : X.N[i]? = some x) (hx : L2.Loc X.env.scope x) (hf : X.fn x = true ∨ X.env.scope.names.lookup x = some .local) : EvG X cl E (.Name x pos) (setG i) :=
  ⟨PGm (pg_name hN hi hx hf) fun v s H Q ⟨p, L, S, d, l, t, r, g⟩ => g.ok (.refl t) (l.set r)⟩
def nilG : GsM := fun ds L S => match ds with
  | [] => some (.ok L, S)
  | _ => none
def consG (f : GM) (g : GsM) : GsM := fun ds L S => match ds with
  | d :: ds => bnd (f d L S) fun L1 S1 => g ds L1 S1
  | [] => none
theorem ev_gnil : EvGs X cl E [] nilG := ⟨PGsm pgs_nil fun v s H Q ⟨p, L, S, d, l, t, r, g⟩ => by
  cases r with
  | nil => exact ⟨rfl, g.ok (.refl t) l⟩
  | cons _ _ => exact g.none.elim⟩
theorem ev_gcons {es : List Expr} {f : GM} {g : GsM} (h1 : EvG X cl E e f) (h2 : EvGs X cl E es g) (hs : (assignEach (e :: es) X.env).map (·.2) = assign e X.env :: (assignEach es X.env).map (·.2)) : EvGs X cl E (e :: es) (consG f g) :=
  ⟨PGsm (pgs_cons h1.h h2.h hs) fun v s H Q ⟨p, L, S, d, l, t, r, w⟩ => by
    cases r with
    | nil => exact w.none.elim
    | cons r1 rr => exact ⟨_, _, rfl, p, L, S, _, l, t, r1, (G.bind (r := LocOk X.K) w).mono fun s1 H1 ⟨p1, L1, S1, q1, l1, g1⟩ => ⟨p1, L1, S1, _, l1, q1.sto, rr.mono q1.ext q1.pre, g1⟩⟩⟩
def tupG (n : Nat) (g : GsM) : GM := fun d L S => match d with
  | .tup ds => if ds.length = n then g ds L S else none
  | _ => none
theorem ev_gtup {es : List Expr} {k : Nat} {n : Nat} {g : GsM} (hc : X.calm = true) (h : EvGs X cl E es g) (hn : (assignEach es X.env).length = n) (hst : (assignEach es X.env).findIdx? (·.1) = none) : EvG X cl E (.Tuple es k pos) (tupG n g) :=
  ⟨PGm (pg_tup hc h.h hn hst) fun v s H Q ⟨p, L, S, d, l, t, r, w⟩ => by
    cases r with
    | @tup q ds vs h1 l1 =>
      have w : G X.K cl E (LocOk X.K) H p (if ds.length = n then g ds L S else none) Q := w
      split at w
      · rename_i hz
        exact ⟨q, vs, rfl, h1.sq, by rw [← l1.len]; exact hz, p, L, S, ds, l, t, l1, w⟩
      · exact w.none.elim
    | _ => exact w.none.elim⟩
def asgS (f : EM) (g : GM) : SM := fun L S => bnd (f L S) fun d S1 => bnd (g d L S1) fun L1 S2 => some (.ok (.nx L1), S2)
theorem asg_to {gm : GM} {N : Ends} {s : L2.St} {H : Hp} (h : trS X.K cl E (asgS fa gm) N s H) : tr X.K cl E fa s H (fun x H1 => trG X.K cl E gm x s H1 N.nx) := by
  obtain ⟨p, L, S, l, t, w⟩ := h
  refine ⟨p, L, S, l, t, (G.bind (r := Rep X.K) w).mono fun v H1 ⟨p1, d1, S1, q1, r1, g1⟩ => ⟨p1, L, S1, d1, l.mono q1, q1.sto, r1, (G.bind (r := LocOk X.K) g1).mono fun s1 H2 ⟨p2, L1, S2, q2, l2, g2⟩ => ?_⟩⟩
  exact G.ok (b := .nx s1) g2 (.refl q2.sto) (.nx l2)
theorem ev_asg {tg : Expr} {gm : GM} (he : EvE X cl E e fa) (hg : EvG X cl E tg gm) (hs : swapsWithSole [tg] e pos.line X.env = pure false) (hw : swappedStores [tg] e X.env = pure none) (h1 : (assignEach [tg] X.env).map (·.2) = [assign tg X.env]) : EvS X cl E (.Assign [tg] e pos) (asgS fa gm) :=
  ⟨PSm (ps_asg he.h hg.h hs hw h1) fun _ _ _ h => asg_to h⟩
theorem ev_set (i : Nat) {x : Str} {pos' : Pos} (hN : X.N.Nodup) (hi : X.N[i]? = some x) (hx : L2.Loc X.env.scope x) (he : EvE X cl E e fa) (hs : swapsWith e (some (.Name x pos')) pos.line X.env = pure false) (hf : X.fn x = true ∨ X.env.scope.names.lookup x = some .local) : EvS X cl E (.Assign [.Name x pos'] e pos) (asgS fa (setG i)) :=
  ⟨PSm (ps_set hN hi hx he.h hs hf) fun N s H h => by
    obtain ⟨p, L, S, l, t, g⟩ := asg_to h
    exact ⟨p, L, S, l, t, g.mono fun v H1 ⟨p1, L1, S1, d1, l1, t1, r1, g1⟩ => g1.ok (.refl t1) (l1.set r1)⟩⟩

def parS (i j : Nat) (f : AM) : SM := fun L S => bnd (f L S) fun ds S1 => match ds with
  | [d1, d2] => some (.ok (.nx ((L.set i (some d1)).set j (some d2))), S1)
  | _ => none
theorem ev_par (i j : Nat) {x y : Str} {f : AM} {px py pt : Pos} {kt k2 pt2} (hc : X.calm = true) (hN : X.N.Nodup) (hi : X.N[i]? = some x) (hj : X.N[j]? = some y) (hij : i ≠ j)
    (hx : X.env.scope.names.lookup x = some .local) (hy : X.env.scope.names.lookup y = some .local) (ha : EvA X cl E [a, b] f)
    (hw : swappedStores [.Tuple [.Name x px, .Name y py] kt pt] (.Tuple [a, b] k2 pt2) X.env = pure (some [x, y]))
    (hs : swapsWithSole [.Tuple [.Name x px, .Name y py] kt pt] (.Tuple [a, b] k2 pt2) pos.line X.env = pure false) :
    EvS X cl E (.Assign [.Tuple [.Name x px, .Name y py] kt pt] (.Tuple [a, b] k2 pt2) pos) (parS i j f) :=
  ⟨PSm (ps_par hc hN hi hj hij hx hy ha.h hw hs) fun N s H ⟨p, L, S, l, t, w⟩ => ⟨p, L, S, l, t, (G.bind (r := RepL X.K) w).mono fun v H1 ⟨p1, d1, S1, q1, r1, g1⟩ => by
    cases r1 with
    | nil => exact g1.none.elim
    | cons r1 rr =>
      cases rr with
      | nil => exact g1.none.elim
      | cons r2 rr =>
        cases rr with
        | nil => exact ⟨_, _, rfl, G.ok (b := .nx _) g1 (.refl q1.sto) (.nx (((l.mono q1).set r1).set r2))⟩
        | cons _ _ => exact g1.none.elim⟩⟩
abbrev Op3 := D → D → D → Sto → O Unit
def setLD : Op3
  | .ref n, .int i, d, S => match S[n]? with
    | some (.lst xs) => match ixN xs.length i with
      | some j => some (.ok (), S.set n (.lst (xs.set j d)))
      | none => none
    | _ => none
  | _, _, _, _ => none
def subG (op : Op3) (fo fi : EM) : GM := fun d L S => bnd (fo L S) fun o S1 => bnd (fi L S1) fun i S2 => bnd (op o i d S2) fun _ S3 => some (.ok L, S3)
def rSet (X : Cx) (cl : Cls) (E : XK) (op : Op3) : TSet := fun o i v H Q => ∃ p S a b d, StoOk X.K H p S ∧ Rep X.K H p a o ∧ Rep X.K H p b i ∧ Rep X.K H p d v ∧ G X.K cl E (fun _ _ (_ _ : Unit) => True) H p (op a b d S) (fun _ H' => Q H')
structure SetD (X : Cx) (op : Op3) : Prop where
  h : ∀ (cl : Cls) (E : XK), PSet X (rSet X cl E op)
theorem ev_gsub {op : Op3} {fo fi : EM} {o i : Expr} (ho : SetD X op) (h1 : EvE X cl E o fo) (h2 : EvE X cl E i fi) (ha : ∀ v, assign (.Subscript o i pos) X.env v = (do
      let ov ← holding [v] (eval o X.env)
      let iv ← holding [v, ov] (eval i X.env)
      standAt pos
      holding [v, ov, iv] (setItem ov iv v)
      release [v, ov, iv] [])) : EvG X cl E (.Subscript o i pos) (subG op fo fi) :=
  ⟨PGm (pg_sub h1.h h2.h (ho.h cl E) ha) fun v s H Q ⟨p, L, S, d, l, t, r, w⟩ => ⟨p, L, S, l, t, (G.bind (r := Rep X.K) w).mono fun v1 H1 ⟨p1, d1, S1, q1, r1, g1⟩ =>
    ⟨p1, L, S1, l.mono q1, q1.sto, (G.bind (r := Rep X.K) g1).mono fun v2 H2 ⟨p2, d2, S2, q2, r2, g2⟩ =>
      ⟨p2, S2, d1, d2, d, q2.sto, r1.mono q2.ext q2.pre, r2, (r.mono q1.ext q1.pre).mono q2.ext q2.pre, (G.bind (r := fun _ _ (_ _ : Unit) => True) g2).mono fun _ H3 ⟨p3, _, S3, q3, _, g3⟩ => g3.ok (.refl q3.sto) (((l.mono q1).mono q2).mono q3)⟩⟩⟩⟩
theorem set_lst : SetD X setLD := ⟨fun cl E pins s σ H o i v ov iv u Q I ro ri rv ⟨p, S, a, b, d, t, ra, rb, rd, g⟩ => by
  cases ra with
  | @ref n q h =>
    cases rb with
    | int k =>
      have g : G X.K cl E (fun _ _ (_ _ : Unit) => True) H p (match S[n]? with
        | some (.lst xs) => match ixN xs.length k with
          | some j => some (.ok (), S.set n (.lst (xs.set j d)))
          | none => none
        | _ => none) (fun _ H' => Q H') := g
      split at g
      · rename_i xs hx
        obtain ⟨vs, h1, l⟩ := t.lst h hx
        split at g
        · rename_i j hj
          refine set_list pins s σ H _ _ v ov iv u Q I ro ri rv ⟨q, vs, k, j, rfl, rfl, h1, by rw [← l.len]; exact hj, ?_⟩
          refine G.ok (b := ()) g (Post.write t h hx fun q' ex e' => ?_) trivial
          subst e'
          exact ⟨_, upd_same, (l.mono ex (.refl _)).set (rd.mono ex (.refl _)) j⟩
        · exact g.none.elim
      · exact g.none.elim
    | _ => exact g.none.elim
  | _ => exact g.none.elim⟩
end
end Ev
end
section
set_option Elab.async false
set_option linter.all false
set_option maxRecDepth 100000
namespace Ev
open PySem L2
open PyProof.Rows hiding St
variable [Tabs] [Clos]
inductive ItS where
  | fix (ds : List D) | live (n k : Nat) | gen (f : Sto → Option (List D)) (k : Nat)
def ItS.nx : ItS → Nat → Sto → Option (Option D)
  | .fix ds, i, _ => some ds[i]?
  | .live n _, i, S => match S[n]? with
    | some (.lst xs) => some xs[i]?
    | _ => none
  | .gen f _, i, S => match f S with
    | some xs => some xs[i]?
    | none => none
def ItS.fuel : ItS → Nat
  | .fix ds => ds.length
  | .live _ k => k
  | .gen _ k => k
abbrev IM := Loc → Sto → O ItS
def ItOk (K : PySem.W.Frag) (H0 : Hp) (p0 : List Addr) (it : ItS) (J : It) : Prop :=
  ∀ (i : Nat) (H : Hp) (p : List Addr) (S : Sto), Ext H0 H → Pre p0 p → StoOk K H p S →
    (∀ d, it.nx i S = some (some d) → J.go i H ∧ ∀ x H', J.yld i H x H' → ∃ p', Post K H p H' p' S ∧ Rep K H' p' d x) ∧ (it.nx i S = some none → J.stop i H)
def trI (K : PySem.W.Frag) (cl : Cls) (E : XK) (f : IM) : TI := fun s H Q => ∃ p L S, LocOk K H p L s ∧ StoOk K H p S ∧ G K cl E (ItOk K) H p (f L S) Q
structure EvI (X : Cx) (cl : Cls) (E : XK) (tg iter : Expr) (f : IM) : Prop where
  h : PI X tg iter (trI X.K cl E f)
theorem G.at {α β : Type} {K : PySem.W.Frag} {cl : Cls} {E : XK} {r : Rp α β} {H H1 : Hp} {p p1 : List Addr} {S1 : Sto} {x : O α} {Q : β → Hp → Prop} (h : G K cl E r H p x Q) (w : Post K H p H1 p1 S1) : G K cl E r H1 p1 x Q := by
  obtain ⟨y, S', e, h⟩ := h
  refine ⟨y, S', e, ?_⟩
  cases y with
  | ok a => exact fun b H' p' q r => h b H' p' (w.trans q) r
  | ex e => exact fun c dx H' p' q r => h c dx H' p' (w.trans q) r
section
variable {X : Cx} {cl : Cls} {E : XK} {e a b tg : Expr} {fa fb : EM} {pos p1 : Pos}
theorem PIm {iter : Expr} {t t' : TI} (h : PI X tg iter t) (k : ∀ s H Q, t' s H Q → t s H Q) : PI X tg iter t' := fun pins s σ H R I w => h pins s σ H R I (k _ _ _ w)
def seqI (f : EM) : IM := fun L S => bnd (f L S) fun d S1 => match d with
  | .tup ds => some (.ok (.fix ds), S1)
  | .fl ds => some (.ok (.fix ds), S1)
  | .ref n => match S1[n]? with
    | some (.lst xs) => some (.ok (.live n xs.length), S1)
    | _ => none
  | _ => none
theorem pi_seq {l : Expr} {tl : TE} (hl : PE X l tl) : PI X tg l (fun σ H R => tl σ H fun x H1 => (∃ a, x = .ref a ∧ (∃ xs, SqL X.K H1 a xs) ∧ R (Itl X.K a) H1) ∨ (∃ a, x = .ref a ∧ (∃ xs, SqT X.K H1 a xs) ∧ R (Itt X.K a) H1)) := by
  intro pins s σ H R I h
  refine thn (hl pins s σ H _ I h) fun v s1 ⟨x, H1, I1, r1, q1⟩ => ?_
  rcases q1 with ⟨a, e, ⟨xs, hq⟩, q⟩ | ⟨a, e, ⟨xs, hq⟩, q⟩
  · subst e
    cases r1
    obtain ⟨its, rv, p, hz⟩ := I1.list hq
    refine wpAny_pyIter_list p.isList ?_
    refine ⟨s1.heap.objs.size, [s1.heap.objs.size], _, _, H1, rfl, I1.kept (t' := s1.toks) fun b o e => Heap.get?_push_of_some _ e, turn_list a _, ⟨_, Heap.get?_push_size _ rfl, rfl, rfl⟩, fun b hb => ?_, q⟩
    have e : b = s1.heap.objs.size := by simpa using hb
    subst e
    exact I1.fpOk (Nat.le_refl _) (I1.hok.fresh (Nat.le_refl _))
  · subst e
    cases r1
    obtain ⟨its, rv, p, hz⟩ := I1.tuple hq
    refine wpAny_pyIter_tuple (show s1.heap.IsTuple a its.toArray from p) ?_
    refine ⟨s1.heap.objs.size, [s1.heap.objs.size], _, _, H1, rfl, I1.kept (t' := s1.toks) fun b o e => Heap.get?_push_of_some _ e, turn_tuple a _, ⟨_, Heap.get?_push_size _ rfl, rfl, rfl⟩, fun b hb => ?_, q⟩
    have e : b = s1.heap.objs.size := by simpa using hb
    subst e
    exact I1.fpOk (Nat.le_refl _) (I1.hok.fresh (Nat.le_refl _))
theorem itt_ok {K : PySem.W.Frag} {H : Hp} {p : List Addr} {a : Addr} {ds : List D} {vs : List V} (h : SqT K H a vs) (l : RepL K H p ds vs) : ItOk K H p (.fix ds) (Itt K a) := by
  intro i H1 p1 S1 ex pr st
  refine ⟨fun d e => ?_, fun e => ?_⟩
  · have e : ds[i]? = some d := Option.some.inj e
    obtain ⟨v, hv, r⟩ := l.get e
    exact ⟨⟨vs, v, ex.sqT h, hv⟩, fun x H' ⟨e', y⟩ => by
      subst e'
      have z := y vs (ex.sqT h)
      rw [hv] at z
      cases z
      exact ⟨p1, .refl st, r.mono ex pr⟩⟩
  · have e : ds[i]? = none := Option.some.inj e
    exact ⟨vs, ex.sqT h, by rw [← l.len]; exact List.getElem?_eq_none_iff.mp e⟩
theorem itl_ok {K : PySem.W.Frag} {H : Hp} {p : List Addr} {a : Addr} {ds : List D} {vs : List V} (h : FzL K H a vs) (l : RepL K H p ds vs) : ItOk K H p (.fix ds) (Itl K a) := by
  intro i H1 p1 S1 ex pr st
  refine ⟨fun d e => ?_, fun e => ?_⟩
  · have e : ds[i]? = some d := Option.some.inj e
    obtain ⟨v, hv, r⟩ := l.get e
    exact ⟨⟨vs, v, (ex.fzL h).sq, hv⟩, fun x H' ⟨e', y⟩ => by
      subst e'
      have z := y vs (ex.fzL h).sq
      rw [hv] at z
      cases z
      exact ⟨p1, .refl st, r.mono ex pr⟩⟩
  · have e : ds[i]? = none := Option.some.inj e
    exact ⟨vs, (ex.fzL h).sq, by rw [← l.len]; exact List.getElem?_eq_none_iff.mp e⟩
theorem itv_ok {K : PySem.W.Frag} {H : Hp} {p : List Addr} {a : Addr} {n k : Nat} (h : p[n]? = some a) : ItOk K H p (.live n k) (Itl K a) := by
  intro i H1 p1 S1 ex pr st
  have ha := pr.get h
  have key : ∀ o, ItS.nx (.live n k) i S1 = some o → ∃ ds vs, H1 a = some (.lst vs) ∧ RepL K H1 p1 ds vs ∧ ds[i]? = o := fun o e => by
    have e : (match S1[n]? with
      | some (.lst xs) => some xs[i]?
      | _ => none) = some o := e
    split at e
    · rename_i xs hx
      obtain ⟨vs, h1, l⟩ := st.lst ha hx
      exact ⟨xs, vs, h1, l, Option.some.inj e⟩
    · cases e
  refine ⟨fun d e => ?_, fun e => ?_⟩
  · obtain ⟨ds, vs, h1, l, e⟩ := key _ e
    obtain ⟨v, hv, r⟩ := l.get e
    exact ⟨⟨vs, v, sqL_of h1, hv⟩, fun x H' ⟨e', y⟩ => by
      subst e'
      have z := y vs (sqL_of h1)
      rw [hv] at z
      cases z
      exact ⟨p1, .refl st, r⟩⟩
  · obtain ⟨ds, vs, h1, l, e⟩ := key _ e
    exact ⟨vs, sqL_of h1, by rw [← l.len]; exact List.getElem?_eq_none_iff.mp e⟩
theorem ev_iseq {l : Expr} (h : EvE X cl E l fa) : EvI X cl E tg l (seqI fa) :=
  ⟨PIm (pi_seq h.h) fun s H Q ⟨p, L, S, l, t, w⟩ => ⟨p, L, S, l, t, (G.bind (r := Rep X.K) w).mono fun v H1 ⟨p1, d1, S1, q1, r1, g1⟩ => by
    cases r1 with
    | @tup q ds vs h1 l1 => exact .inr ⟨q, rfl, ⟨vs, h1.sq⟩, g1.ok (.refl q1.sto) (itt_ok h1.sq l1)⟩
    | @fl q ds vs h1 l1 => exact .inl ⟨q, rfl, ⟨vs, h1.sq⟩, g1.ok (.refl q1.sto) (itl_ok h1 l1)⟩
    | @ref n q h1 =>
      have g1 : G X.K cl E (ItOk X.K) H1 p1 (match S1[n]? with
        | some (.lst xs) => some (.ok (.live n xs.length), S1)
        | _ => none) Q := g1
      split at g1
      · rename_i xs hx
        obtain ⟨vs, h2, l2⟩ := q1.sto.lst h1 hx
        exact .inl ⟨q, rfl, ⟨vs, sqL_of h2⟩, g1.ok (.refl q1.sto) (itv_ok h1)⟩
      · exact g1.none.elim
    | _ => exact g1.none.elim⟩⟩
def rng (lo : Int) (n : Nat) : List D := (List.range n).map fun (i : Nat) => D.int (lo + (i : Int))
theorem rng_get {lo : Int} {n i : Nat} : (rng lo n)[i]? = if i < n then some (.int (lo + (i : Int))) else none := by
  unfold rng
  rw [List.getElem?_map]
  by_cases h : i < n
  · rw [List.getElem?_range h, if_pos h]; rfl
  · rw [if_neg h, List.getElem?_eq_none_iff.mpr (by simp; omega)]; rfl
theorem itr_ok {K : PySem.W.Frag} {H : Hp} {p : List Addr} {lo : Int} {n : Nat} : ItOk K H p (.fix (rng lo n)) (Itr lo n) := by
  intro i H1 p1 S1 ex pr st
  refine ⟨fun d e => ?_, fun e => ?_⟩
  · have e : (rng lo n)[i]? = some d := Option.some.inj e
    rw [rng_get] at e
    split at e
    · rename_i hi
      cases e
      exact ⟨hi, fun x H' ⟨e', y⟩ => by subst e' y; exact ⟨p1, .refl st, .int _⟩⟩
    · cases e
  · have e : (rng lo n)[i]? = none := Option.some.inj e
    rw [rng_get] at e
    split at e
    · cases e
    · rename_i hi
      exact Nat.le_of_not_lt hi
def rngI1 (f : AM) : IM := fun L S => bnd (f L S) fun ds S1 => match ds with
  | [.int j] => if -1000000000 ≤ j ∧ j ≤ 1000000000 then some (.ok (.fix (rng 0 j.toNat)), S1) else none
  | _ => none
theorem ev_irng1 {f : AM} (hg : Gl X "range") (hm : X.mg "range" = none) (ha : EvA X cl E [a] f) (hs : starEach [a] X.env = [(false, eval a X.env)]) : EvI X cl E tg (.Call (.Name "range" p1) [a] [] pos) (rngI1 f) :=
  ⟨PIm (pi_range1 hg hm ha.h hs) fun s H Q ⟨p, L, S, l, t, w⟩ => ⟨p, L, S, l, t, (G.bind (r := RepL X.K) w).mono fun v H1 ⟨p1, d1, S1, q1, r1, g1⟩ => by
    have e62 : (2 : Int) ^ 62 = 4611686018427387904 := by decide
    split at g1
    · rename_i j
      split at g1
      · rename_i hz
        cases r1 with
        | cons r1 rr =>
          cases rr
          cases r1
          exact ⟨j, rfl, by rw [e62]; omega, by rw [e62]; omega, g1.ok (.refl q1.sto) itr_ok⟩
      · exact g1.none.elim
    · exact g1.none.elim⟩⟩
def forN (nx : Nat → Sto → Option (Option D)) (step : D → SM) : Nat → Nat → SM
  | k, i => fun L S => match nx i S with
    | none => none
    | some none => some (.ok (.nx L), S)
    | some (some d) => match k with
      | 0 => none
      | k + 1 => bnd (step d L S) fun fl S1 => match fl with
        | .nx L1 => forN nx step k (i + 1) L1 S1
        | .ct L1 => forN nx step k (i + 1) L1 S1
        | .bk L1 => some (.ok (.nx L1), S1)
        | .rt d => some (.ok (.rt d), S1)
def stepF (gm : GM) (body : SM) : D → SM := fun d L S => bnd (gm d L S) fun L1 S1 => body L1 S1
def forS (it : IM) (gm : GM) (body : SM) : SM := fun L S => bnd (it L S) fun i S1 => forN i.nx (stepF gm body) i.fuel 0 L S1
theorem ev_for {iter : Expr} {body : List Stmt} {fi : IM} {gm : GM} {fb : SM} (hp : PassesOwn (model X.prog X.w) X.A X.env X.xe) (hc : X.calm = true) (hi : EvI X cl E tg iter fi) (hg : EvG X cl E tg gm) (hb : EvB X cl E body fb) (hs : ∀ x, foldedSetIterable iter X.env x = pure x) : EvS X cl E (.For tg iter body [] pos) (forS fi gm fb) :=
  ⟨PSm (ps_for hp hc hi.h hg.h hb.h hs) fun N s H ⟨p, L, S, l, t, w⟩ => ⟨p, L, S, l, t, (G.bind (r := ItOk X.K) w).mono fun J H1 ⟨p1, it, S1, q1, r1, g1⟩ => by
    refine ⟨fun i m s H => ∃ p L S, Ext H1 H ∧ Pre p1 p ∧ LocOk X.K H p L s ∧ StoOk X.K H p S ∧ G X.K cl E (FRep X.K) H p (forN it.nx (stepF gm fb) m i L S) (QD N), ⟨it.fuel, p1, L, S1, .refl _, .refl _, l.mono q1, q1.sto, g1⟩, ?_⟩
    rintro i m s2 H2 ⟨p2, L2, S2, ex, pr, l2, t2, g2⟩
    obtain ⟨go, stop⟩ := r1 i H2 p2 S2 ex pr t2
    unfold forN at g2
    cases hx : it.nx i S2 with
    | none => rw [hx] at g2; exact g2.none.elim
    | some o =>
      rw [hx] at g2
      cases o with
      | none => exact .inl ⟨stop hx, G.ok (b := .nx s2) g2 (.refl t2) (.nx l2)⟩
      | some d =>
        cases m with
        | zero => exact g2.none.elim
        | succ k =>
          obtain ⟨h1, h2⟩ := go d hx
          refine .inr ⟨h1, fun s3 H3 => ∃ p L S, Ext H1 H3 ∧ Pre p1 p ∧ LocOk X.K H3 p L s3 ∧ StoOk X.K H3 p S ∧ G X.K cl E (FRep X.K) H3 p (forN it.nx (stepF gm fb) k (i + 1) L S) (QD N), fun s3 H3 w3 => ⟨k, Nat.lt_succ_self k, w3⟩, fun x H3 y => ?_⟩
          obtain ⟨p3, q3, r3⟩ := h2 x H3 y
          have g3 := g2.at q3
          unfold stepF at g3
          -- the target, then the body
          have g4 : G X.K cl E (FRep X.K) H3 p3 (bnd (gm d L2 S2) fun L1 S1 => bnd (fb L1 S1) fun fl S1 => match fl with
            | .nx L1 => forN it.nx (stepF gm fb) k (i + 1) L1 S1
            | .ct L1 => forN it.nx (stepF gm fb) k (i + 1) L1 S1
            | .bk L1 => some (.ok (.nx L1), S1)
            | .rt d => some (.ok (.rt d), S1)) (QD N) := by
            have e : ∀ (z : O Loc), bnd (bnd z fun L1 S1 => fb L1 S1) (fun fl S1 => match fl with
              | .nx L1 => forN it.nx (stepF gm fb) k (i + 1) L1 S1
              | .ct L1 => forN it.nx (stepF gm fb) k (i + 1) L1 S1
              | .bk L1 => some (.ok (.nx L1), S1)
              | .rt d => some (.ok (.rt d), S1)) = bnd z fun L1 S1 => bnd (fb L1 S1) fun fl S1 => match fl with
              | .nx L1 => forN it.nx (stepF gm fb) k (i + 1) L1 S1
              | .ct L1 => forN it.nx (stepF gm fb) k (i + 1) L1 S1
              | .bk L1 => some (.ok (.nx L1), S1)
              | .rt d => some (.ok (.rt d), S1) := fun z => by
              cases z with
              | none => rfl
              | some z => obtain ⟨z, S⟩ := z; cases z <;> rfl
            rw [← e]
            exact g3
          refine ⟨p3, L2, S2, d, l2.mono q3, q3.sto, r3, (G.bind (r := LocOk X.K) g4).mono fun s4 H4 ⟨p4, L4, S4, q4, l4, g5⟩ => ?_⟩
          refine ⟨p4, L4, S4, l4, q4.sto, (G.bind (r := FRep X.K) g5).mono fun v H5 ⟨p5, d5, S5, q5, r5, g6⟩ => ?_⟩
          have ex5 : Ext H1 H5 := (ex.trans q3.ext).trans (q4.ext.trans q5.ext)
          have pr5 : Pre p1 p5 := (pr.trans q3.pre).trans (q4.pre.trans q5.pre)
          cases r5 with
          | nx l5 => exact ⟨p5, _, S5, ex5, pr5, l5, q5.sto, g6⟩
          | ct l5 => exact ⟨p5, _, S5, ex5, pr5, l5, q5.sto, g6⟩
          | bk l5 => exact G.ok (b := .nx _) g6 (.refl q5.sto) (.nx l5)
          | rt l5 => exact G.ok (b := .rt _) g6 (.refl q5.sto) (.rt l5)⟩⟩

def noX {α : Type} (x : O α) : O α := match x with
  | some (.ex _, _) => none
  | x => x
abbrev XF : XK := fun _ _ _ => False
theorem noX_to {α β : Type} {r : Rp α β} {H : Hp} {p : List Addr} {x : O α} {Q : β → Hp → Prop} {K : PySem.W.Frag} (h : G K cl E r H p (noX x) Q) : G K cl XF r H p x Q := by
  obtain ⟨y, S', e, h⟩ := h
  unfold noX at e
  split at e
  · cases e
  · subst e
    refine ⟨y, S', rfl, ?_⟩
    cases y with
    | ok a => exact h
    | ex w => rename_i hh; exact absurd rfl (hh w S')
theorem ev_noxS {st : Stmt} {f : SM} (h : EvS X.nox cl XF st f) : EvS X cl E st (fun L S => noX (f L S)) :=
  ⟨fun pins s σ H N I ⟨p, L, S, l, t, w⟩ => wpAny_mono (h.h pins s σ H N (I.wish _) ⟨p, L, S, l, t, noX_to w⟩) (fun _ _ q => q.unwish) fun _ _ z => False.elim z⟩
def wipeD (L : Loc) : List Nat → Loc
  | [] => L
  | v :: vs => (wipeD L vs).set v none
theorem wipeD_ok {K : PySem.W.Frag} {H : Hp} {p : List Addr} {L : Loc} {s : L2.St} (l : LocOk K H p L s) : ∀ vs, LocOk K H p (wipeD L vs) (wipe s vs)
  | [] => l
  | v :: vs => by
    have ih := wipeD_ok l vs
    refine ⟨by unfold wipeD wipe; simp [ih.len], fun i d e => ?_⟩
    unfold wipeD at e
    unfold wipe
    by_cases h : i = v
    · subst h
      have hl : i < (wipeD L vs).length := by
        have := (List.getElem?_eq_some_iff.mp e).1
        simpa using this
      rw [List.getElem?_set_self hl] at e
      cases e
    · rw [List.getElem?_set_ne (Ne.symm h)] at e ⊢
      exact ih.get i d e
def LW (K : PySem.W.Frag) (vs : List Nat) (s0 : L2.St) : Rp Loc L2.St := fun H p L s => LocOk K H p L s ∧ wipe s vs = wipe s0 vs
def trGw (K : PySem.W.Frag) (cl : Cls) (E : XK) (vs : List Nat) (f : GM) : TG := fun v s H Q => ∃ p L S d, LocOk K H p L s ∧ StoOk K H p S ∧ Rep K H p d v ∧ G K cl E (LW K vs s) H p (f d L S) Q
structure EvGw (X : Cx) (cl : Cls) (E : XK) (vs : List Nat) (tg : Expr) (f : GM) : Prop where
  h : PG X tg (trGw X.K cl E vs f)
theorem wipe_set {s : L2.St} {i : Nat} {o : Option V} : ∀ {vs : List Nat}, i ∈ vs → wipe (s.set i o) vs = wipe s vs
  | [], h => absurd h (by simp)
  | v :: vs, h => by
    unfold wipe
    by_cases hi : i ∈ vs
    · rw [wipe_set hi]
    · have hv : i = v := by
        rcases List.mem_cons.mp h with z | z
        · exact z
        · exact absurd z hi
      subst hv
      refine List.ext_getElem? fun j => ?_
      by_cases hj : j = i
      · subst hj
        by_cases hl : j < s.length
        · rw [List.getElem?_set_self (by rw [wipe_length]; simpa using hl), List.getElem?_set_self (by rw [wipe_length]; exact hl)]
        · rw [List.getElem?_eq_none_iff.mpr (by simp [wipe_length]; omega), List.getElem?_eq_none_iff.mpr (by simp [wipe_length]; omega)]
      · rw [List.getElem?_set_ne (Ne.symm hj), List.getElem?_set_ne (Ne.symm hj)]
        by_cases hjv : j ∈ vs
        · have key : ∀ (s : L2.St), (wipe s vs)[j]? = if j < s.length then some none else none := fun s => by
            by_cases hl : j < s.length
            · rw [if_pos hl]
              cases e : (wipe s vs)[j]? with
              | none =>
                have := List.getElem?_eq_none_iff.mp e
                rw [wipe_length] at this
                omega
              | some o =>
                cases o with
                | none => rfl
                | some x => exact absurd hjv (wipe_some e).2
            · rw [if_neg hl]
              exact List.getElem?_eq_none_iff.mpr (by rw [wipe_length]; omega)
          rw [key, key]
          simp
        · rw [wipe_out hjv, wipe_out hjv, List.getElem?_set_ne (Ne.symm hj)]
theorem ev_wname {vs : List Nat} (i : Nat) {x : Str} (hN : X.N.Nodup) (hi : X.N[i]? = some x) (hx : L2.Loc X.env.scope x) (hf : X.fn x = true ∨ X.env.scope.names.lookup x = some .local) (hv : i ∈ vs) : EvGw X cl E vs (.Name x pos) (setG i) :=
  ⟨PGm (pg_name hN hi hx hf) fun v s H Q ⟨p, L, S, d, l, t, r, g⟩ => g.ok (.refl t) ⟨l.set r, wipe_set hv⟩⟩
structure EvTs (X : Cx) (cl : Cls) (E : XK) (ifs : List Expr) (f : TM) : Prop where
  h : PTs X ifs (trT X.K cl E f)
def yesT : TM := fun _ S => some (.ok true, S)
theorem ev_tsnil : EvTs X cl E [] yesT := ⟨fun pins s σ H Q I ⟨p, L, S, l, t, g⟩ => pts_nil pins s σ H Q I (show Q true H from g.ok (.refl t) rfl)⟩
def cmpN (nx : Nat → Sto → Option (Option D)) (n : Nat) (gm : GM) (tt : TM) (fe : EM) (L : Loc) : Nat → Nat → Sto → O D
  | k, i, S => match nx i S with
    | none => none
    | some none => some (.ok (.ref n), S)
    | some (some d) => match k with
      | 0 => none
      | k + 1 => bnd (gm d L S) fun L1 S1 => bnd (tt L1 S1) fun b S2 => match b with
        | true => bnd (fe L1 S2) fun y S3 => match S3[n]? with
          | some (.lst acc) => if acc.length < 1000000 then cmpN nx n gm tt fe L k (i + 1) (S3.set n (.lst (acc ++ [y]))) else none
          | _ => none
        | false => cmpN nx n gm tt fe L k (i + 1) S2
def cmpE (it : IM) (vs : List Nat) (gm : GM) (tt : TM) (fe : EM) : EM := fun L S => bnd (it L S) fun i S1 => noX (cmpN i.nx S1.length gm tt fe (wipeD L vs) i.fuel 0 (S1 ++ [.lst []]))
theorem wipe_wipe (s : L2.St) (vs : List Nat) : wipe (wipe s vs) vs = wipe s vs := by
  refine List.ext_getElem? fun j => ?_
  by_cases hj : j ∈ vs
  · have key : ∀ (s : L2.St), (wipe s vs)[j]? = if j < s.length then some none else none := fun s => by
      by_cases hl : j < s.length
      · rw [if_pos hl]
        cases e : (wipe s vs)[j]? with
        | none =>
          have := List.getElem?_eq_none_iff.mp e
          rw [wipe_length] at this
          omega
        | some o =>
          cases o with
          | none => rfl
          | some x => exact absurd hj (wipe_some e).2
      · rw [if_neg hl]
        exact List.getElem?_eq_none_iff.mpr (by rw [wipe_length]; omega)
    rw [key, key, wipe_length]
  · rw [wipe_out hj]
theorem cmp_to {fi : IM} {vs : List Nat} {gm : GM} {tt : TM} {fe : EM} {s : L2.St} {H : Hp} {Q : VK} (h : tr X.K cl E (cmpE fi vs gm tt fe) s H Q) : tLc (trI X.K cl E fi) (trGw X.K cl XF vs gm) (trT X.K cl XF tt) (tr X.K cl XF fe) vs s H Q := by
  obtain ⟨p, L, S, l, t, w⟩ := h
  refine ⟨p, L, S, l, t, (G.bind (r := ItOk X.K) w).mono fun J H1 ⟨p1, it, S1, q1, r1, g1⟩ => ?_⟩
  intro A hA
  have post0 : Post X.K H1 p1 (upd H1 A (.lst [])) (p1 ++ [A]) (S1 ++ [.lst []]) := Post.newC q1.sto hA ⟨[], upd_same, .nil⟩
  have hn : (p1 ++ [A])[S1.length]? = some A := by rw [← q1.sto.len]; simp
  have g1 := (noX_to g1).at post0
  have l0 : LocOk X.K (upd H1 A (.lst [])) (p1 ++ [A]) (wipeD L vs) (wipe s vs) := wipeD_ok ((l.mono q1).mono post0) vs
  refine ⟨fun i m H2 => ∃ p2 S2, Ext (upd H1 A (.lst [])) H2 ∧ Pre (p1 ++ [A]) p2 ∧ StoOk X.K H2 p2 S2 ∧ LocOk X.K H2 p2 (wipeD L vs) (wipe s vs) ∧ G X.K cl XF (Rep X.K) H2 p2 (cmpN it.nx S1.length gm tt fe (wipeD L vs) m i S2) Q, ⟨it.fuel, p1 ++ [A], S1 ++ [.lst []], .refl _, .refl _, post0.sto, l0, g1⟩, ?_⟩
  rintro i m H2 ⟨p2, S2, ex, pr, t2, l2, g2⟩
  obtain ⟨go, stop⟩ := r1 i H2 p2 S2 (post0.ext.trans ex) (post0.pre.trans pr) t2
  unfold cmpN at g2
  cases hx : it.nx i S2 with
  | none => rw [hx] at g2; exact g2.none.elim
  | some o =>
    rw [hx] at g2
    cases o with
    | none => exact .inl ⟨stop hx, g2.ok (.refl t2) (.ref (pr.get hn))⟩
    | some d =>
      cases m with
      | zero => exact g2.none.elim
      | succ k =>
        obtain ⟨h1, h2⟩ := go d hx
        refine .inr ⟨h1, fun H3 => ∃ p3 S3, Ext (upd H1 A (.lst [])) H3 ∧ Pre (p1 ++ [A]) p3 ∧ StoOk X.K H3 p3 S3 ∧ LocOk X.K H3 p3 (wipeD L vs) (wipe s vs) ∧ G X.K cl XF (Rep X.K) H3 p3 (cmpN it.nx S1.length gm tt fe (wipeD L vs) k (i + 1) S3) Q, fun H3 w3 => ⟨k, Nat.lt_succ_self k, w3⟩, fun x H3 y => ?_⟩
        obtain ⟨p3, q3, r3⟩ := h2 x H3 y
        have g3 := g2.at q3
        refine ⟨p3, wipeD L vs, S2, d, l2.mono q3, q3.sto, r3, (G.bind (r := LW X.K vs (wipe s vs)) g3).mono fun s4 H4 ⟨p4, L4, S4, q4, l4, g4⟩ => ⟨?_, ?_⟩⟩
        · have := l4.2
          rw [this]
          exact wipe_wipe s vs
        · refine ⟨p4, L4, S4, l4.1, q4.sto, (G.bind (r := EqB) g4).mono fun b H5 ⟨p5, b', S5, q5, r5, g5⟩ => ?_⟩
          obtain rfl : b' = b := r5
          have ex5 : Ext (upd H1 A (.lst [])) H5 := (ex.trans q3.ext).trans (q4.ext.trans q5.ext)
          have pr5 : Pre (p1 ++ [A]) p5 := (pr.trans q3.pre).trans (q4.pre.trans q5.pre)
          cases b' with
          | false =>
            rw [if_neg (by decide)]
            exact ⟨p5, S5, ex5, pr5, q5.sto, ((l2.mono q3).mono q4).mono q5, g5⟩
          | true =>
            rw [if_pos rfl]
            refine ⟨p5, L4, S5, l4.1.mono q5, q5.sto, (G.bind (r := Rep X.K) g5).mono fun y H6 ⟨p6, dy, S6, q6, r6, g6⟩ => ?_⟩
            split at g6
            · rename_i acc ha
              split at g6
              · rename_i hz
                have hA6 : p6[S1.length]? = some A := (pr5.trans q6.pre).get hn
                obtain ⟨ws, h6, l6⟩ := q6.sto.lst hA6 ha
                have pw : Post X.K H6 p6 (upd H6 A (.lst (ws ++ [y]))) p6 (S6.set S1.length (.lst (acc ++ [dy]))) := Post.write q6.sto hA6 ha fun q' e' z => by
                  subst z
                  exact ⟨_, upd_same, (l6.mono e' (.refl _)).app (.cons (r6.mono e' (.refl _)) .nil)⟩
                refine ⟨ws, h6, by rw [← l6.len]; exact szLt hz, p6, _, (ex5.trans q6.ext).trans pw.ext, pr5.trans q6.pre, pw.sto, (((l2.mono q3).mono q4).mono q5 |>.mono q6).mono pw, g6.at pw⟩
              · exact g6.none.elim
            · exact g6.none.elim

def cmpJ (nx : Nat → Sto → Option (Option D)) (n : Nat) (gm : GM) (tt : TM) (fe : EM) (L : Loc) : Nat → Nat → Sto → O Unit
  | k, i, S => match nx i S with
    | none => none
    | some none => some (.ok (), S)
    | some (some d) => match k with
      | 0 => none
      | k + 1 => bnd (gm d L S) fun L1 S1 => bnd (tt L1 S1) fun b S2 => match b with
        | true => bnd (fe L1 S2) fun y S3 => match S3[n]? with
          | some (.lst acc) => if acc.length < 1000000 then cmpJ nx n gm tt fe L k (i + 1) (S3.set n (.lst (acc ++ [y]))) else none
          | _ => none
        | false => cmpJ nx n gm tt fe L k (i + 1) S2
end
end Ev
end
section
set_option Elab.async false
set_option linter.all false
set_option maxRecDepth 100000
namespace Ev
open PySem L2
open PyProof.Rows hiding St
variable [Tabs] [Clos]
structure Fly (P : Program) (w : World) (outer : List Env) (H : Hp) (s : Shared) (ea : Addr) (cls a0 : Value) (B : Heap) (H' : Hp) (s' : Shared) : Prop where
  os : s'.os = s.os
  bare : AllBare s'.gens
  fly : Heap.FlyingW B outer ea cls a0 s'.heap
  hok : HOk P w H' B
  keep : ∀ b o, s.heap.get? b = some o → H b = none → b ∉ frs outer → B.get? b = some o
  slot : ∀ b o, s.heap.get? b = some o → H b = none → b ∈ frs outer → ∃ sl, s'.heap.get? b = some { o with slots := sl }
  free : ∀ b o, s.heap.get? b = some o → H b = none → H' b = none
  there : ∀ b o, s.heap.get? b = some o → b ∈ frs outer ∨ ∃ o', B.get? b = some o'
  tups : ∀ b xs, H b = some (.tup xs) → H' b = some (.tup xs)
  frzs : ∀ b o u, H b = some (.frz o u) → H' b = some (.frz o u)
  tbls : ∀ b ps, H b = some (.tbl ps) → ∃ more, H' b = some (.tbl (ps ++ more))
def CXR (P : Program) (w : World) : CXT := fun outer H s E e s' => ∃ (ea : Addr) (cls a0 : Value) (dx : Option Addr) (B : Heap) (H' : Hp), e = .ref ea ∧ Fly P w outer H s ea cls a0 B H' s' ∧ E cls dx H'
theorem CXR.no {P : Program} {w : World} {outer : List Env} {H : Hp} {s : Shared} {e : Value} {s' : Shared} (h : CXR P w outer H s XF e s') : False := by
  obtain ⟨_, _, _, _, _, _, _, _, h⟩ := h
  exact h
theorem Fly.un {P : Program} {w : World} {outer : List Env} {H : Hp} {s : Shared} {ea : Addr} {cls a0 : Value} {B : Heap} {H' : Hp} {s' : Shared} (h : Fly P w outer H s ea cls a0 B H' s') (hf : ∀ b ∈ frs outer, H b = none) : Un (frs outer) [] H H' s.heap s'.heap :=
  ⟨fun b o e n hb _ => h.fly.1 b o (h.keep b o e n hb), fun b o e n hb _ => h.slot b o e n hb, fun b o e n _ => h.free b o e n, fun b o e _ => by
    rcases h.there b o e with hb | ⟨o', z⟩
    · obtain ⟨sl, q⟩ := h.slot b o e (hf b hb) hb
      exact ⟨_, q⟩
    · exact ⟨o', h.fly.1 b o' z⟩, h.tups, h.frzs, h.tbls⟩
theorem Fly.hok' {P : Program} {w : World} {outer : List Env} {H : Hp} {s : Shared} {ea : Addr} {cls a0 : Value} {B : Heap} {H' : Hp} {s' : Shared} (h : Fly P w outer H s ea cls a0 B H' s') : HOk P w H' s'.heap := h.hok.kept fun b u q => h.fly.1 b u q


structure Thr (X : Cx) (E : XK) : Prop where
  pass : Passes (CXR X.prog X.w) X E
  new : ∀ (pins : List (Addr × Obj)) (σ : L2.St) (H : Hp) (s : Shared) (ea C : Addr) (h' : Heap) (vs : List Value), Inv X pins σ H s → Heap.MadeExcOf s.heap h' ea (.ref C) vs → E (.ref C) none H → X.xe (.ref ea) { s with heap := h' }
theorem pass_no {X : Cx} : Passes (CXR X.prog X.w) X XF := fun _ _ _ _ _ _ _ h => h.no.elim
theorem thr_no {X : Cx} : Thr X XF := ⟨pass_no, fun _ _ _ _ _ _ _ _ _ _ h => h.elim⟩
theorem hok_hide {P : Program} {w : World} {H : Hp} {h : Heap} {l : List Addr} (x : HOk P w H h) (hl : ∀ b ∈ l, H b = none) : HOk P w H (PySem.W.hideAll h l) := fun a o e =>
  (x a o e).stay (fun b u hb q => PySem.W.hideAll_get l q fun z => by
    have n := hl b z
    rcases hb with rfl | hb
    · rw [n] at e; cases e
    · rw [n] at hb; cases hb) (fun _ q => q) fun _ _ q => q
section
variable {P : Program} {w : World} {K : PySem.W.Frag} {mg : Str → Option Value} {base : Heap} {N : List Str} {qual : Str} {scope : Scope} {f : Addr} {cd : Value} {A : Around} {outer : List Env} {s0 : Shared} {H0 : Hp} {E : XK}
theorem frs_cons {env : Env} {L : Addr} {l : List Env} (h : env.frame = some L) : frs (env :: l) = L :: frs l := by
  unfold frs
  rw [List.filterMap_cons, h]
theorem thr_cx : Thr (cxOf (CXR P w) P w K mg base N qual scope f cd A outer s0 H0 E) E := by
  refine ⟨fun pins σ H s e s' I h => ?_, fun pins σ H s ea C h' vs I hm hE => ?_⟩
  · obtain ⟨ea, cls, a0, dx, B, H', rfl, F, hE⟩ := h
    have hfr : (A.deeper (envOfC qual scope s0.heap.objs.size f cd)).frames = some (envOfC qual scope s0.heap.objs.size f cd :: outer) := I.ok.frames
    have hfs : frs (envOfC qual scope s0.heap.objs.size f cd :: outer) = s0.heap.objs.size :: frs outer := frs_cons rfl
    refine wpAny_leaves_onW hfr rfl F.fly fun h2 f2 u2 => ?_
    have neL : ∀ b o, s0.heap.get? b = some o → b ≠ s0.heap.objs.size := fun b o e => Nat.ne_of_lt (Heap.lt_size e)
    have keep0 : ∀ b o, s0.heap.get? b = some o → H0 b = none → b ∉ frs outer → s.heap.get? b = some o ∧ H b = none := fun b o e n hb => ⟨I.base.keep b o e n hb (by intro z; cases z), I.base.free b o e n (by intro z; cases z)⟩
    refine ⟨ea, cls, a0, dx, B, H', rfl, ⟨F.os.trans I.os, F.bare, f2, F.hok, fun b o e n hb => ?_, fun b o e n hb => ?_, fun b o e n => ?_, fun b o e => ?_, fun b xs q => F.tups b xs (I.base.tups b xs q), fun b o u q => F.frzs b o u (I.base.frzs b o u q), fun b ps q => ?_⟩, hE⟩
    · obtain ⟨e1, n1⟩ := keep0 b o e n hb
      exact F.keep b o e1 n1 (by rw [show (cxOf (CXR P w) P w K mg base N qual scope f cd A outer s0 H0 E).stack = envOfC qual scope s0.heap.objs.size f cd :: outer from rfl, hfs]; exact fun z => (List.mem_cons.mp z).elim (neL b o e) hb)
    · obtain ⟨sl, e1⟩ := I.base.slot b o e n hb (by intro z; cases z)
      obtain ⟨sl2, e2⟩ := F.slot b _ e1 (I.base.free b o e n (by intro z; cases z)) (by rw [show (cxOf (CXR P w) P w K mg base N qual scope f cd A outer s0 H0 E).stack = envOfC qual scope s0.heap.objs.size f cd :: outer from rfl, hfs]; exact List.mem_cons_of_mem _ hb)
      obtain ⟨_, o2, ho2, hd2⟩ := I.ok.funs.mem hb
      rw [show (cxOf (CXR P w) P w K mg base N qual scope f cd A outer s0 H0 E).s_0 = s0 from rfl, e] at ho2
      cases ho2
      obtain ⟨sl3, e3⟩ := u2 b _ e2 hd2
      exact ⟨sl3, e3⟩
    · obtain ⟨o', e1⟩ := I.base.there b o e (by intro z; cases z)
      exact F.free b o' e1 (I.base.free b o e n (by intro z; cases z))
    · obtain ⟨o', e1⟩ := I.base.there b o e (by intro z; cases z)
      rcases F.there b o' e1 with hb | hb
      · rw [show (cxOf (CXR P w) P w K mg base N qual scope f cd A outer s0 H0 E).stack = envOfC qual scope s0.heap.objs.size f cd :: outer from rfl, hfs] at hb
        exact .inl ((List.mem_cons.mp hb).elim (fun z => absurd z (neL b o e)) id)
      · exact .inr hb
    · obtain ⟨m1, e1⟩ := I.base.tbls b ps q
      obtain ⟨m2, e2⟩ := F.tbls b _ e1
      exact ⟨m1 ++ m2, by rw [e2, Array.append_assoc]⟩
  · have hfr : (A.deeper (envOfC qual scope s0.heap.objs.size f cd)).frames = some (envOfC qual scope s0.heap.objs.size f cd :: outer) := I.ok.frames
    have hfs : frs (envOfC qual scope s0.heap.objs.size f cd :: outer) = s0.heap.objs.size :: frs outer := frs_cons rfl
    have hstk : s.heap.FunFrames base (envOfC qual scope s0.heap.objs.size f cd :: outer) := I.stack
    have hfree : ∀ b ∈ frs (envOfC qual scope s0.heap.objs.size f cd :: outer), H b = none := I.stkFree
    have hin : ∀ env ∈ (envOfC qual scope s0.heap.objs.size f cd :: outer), ∀ b, env.frame = some b → b ∈ frs (envOfC qual scope s0.heap.objs.size f cd :: outer) := fun env he b hb => List.mem_filterMap.mpr ⟨env, he, hb⟩
    refine wpAny_leaves_madeW (base := PySem.W.hideAll s.heap (frs (envOfC qual scope s0.heap.objs.size f cd :: outer))) (h := s.heap) hfr rfl (fun b o q => PySem.W.of_hideAll _ q) (PySem.W.funFrames_hide hstk hin) hm fun h2 t f2 _ _ u2 => ?_
    have neL : ∀ b o, s0.heap.get? b = some o → b ≠ s0.heap.objs.size := fun b o e => Nat.ne_of_lt (Heap.lt_size e)
    refine ⟨ea, .ref C, .ref t, none, _, H, rfl, ⟨I.os, I.bare, f2, hok_hide I.hok hfree, fun b o e n hb => ?_, fun b o e n hb => ?_, fun b o e n => I.base.free b o e n (by intro z; cases z), fun b o e => ?_, I.base.tups, I.base.frzs, I.base.tbls⟩, hE⟩
    · exact PySem.W.hideAll_get _ (I.base.keep b o e n hb (by intro z; cases z)) (by rw [hfs]; exact fun z => (List.mem_cons.mp z).elim (neL b o e) hb)
    · obtain ⟨sl, e1⟩ := I.base.slot b o e n hb (by intro z; cases z)
      have e2 := hm.keeps b _ e1
      obtain ⟨_, o2, ho2, hd2⟩ := I.ok.funs.mem hb
      rw [show (cxOf (CXR P w) P w K mg base N qual scope f cd A outer s0 H0 E).s_0 = s0 from rfl, e] at ho2
      cases ho2
      obtain ⟨sl3, e3⟩ := u2 b _ e2 hd2
      exact ⟨sl3, e3⟩
    · by_cases hb : b ∈ frs outer
      · exact .inl hb
      · obtain ⟨o', e1⟩ := I.base.there b o e (by intro z; cases z)
        exact .inr ⟨o', PySem.W.hideAll_get _ e1 (by rw [hfs]; exact fun z => (List.mem_cons.mp z).elim (neL b o e) hb)⟩
end
abbrev Fn := List D → Sto → O D
def spOf (K : PySem.W.Frag) (cl : Cls) (n : Nat) (F : Fn) : Sp := fun vs H Q E => ∃ p S ds, StoOk K H p S ∧ RepL K H p ds vs ∧ ds.length = n ∧ G K cl E (Rep K) H p (F ds S) Q
def runF (n : Nat) (fb : SM) : Fn := fun ds S => bnd (fb (ds.map some ++ List.replicate (n - ds.length) none) S) fun fl S1 => match fl with
  | .rt d => some (.ok d, S1)
  | .nx _ => some (.ok .non, S1)
  | _ => none
theorem start_ok {K : PySem.W.Frag} {H : Hp} {p : List Addr} {ds : List D} {vs : List V} {N : List Str} (l : RepL K H p ds vs) : LocOk K H p (ds.map some ++ List.replicate (N.length - ds.length) none) (L2.start N vs) := by
  unfold L2.start
  refine ⟨by simp [l.len], fun i d e => ?_⟩
  by_cases hi : i < ds.length
  · rw [List.getElem?_append_left (by simpa using hi), List.getElem?_map] at e
    cases z : ds[i]? with
    | none => rw [z] at e; cases e
    | some d' =>
      rw [z] at e
      cases e
      obtain ⟨v, hv, r⟩ := l.get z
      exact ⟨v, by rw [List.getElem?_append_left (by simp [← l.len, hi]), List.getElem?_map, hv]; rfl, r⟩
  · rw [List.getElem?_append_right (by simpa using hi)] at e
    rw [List.getElem?_replicate] at e
    split at e <;> cases e
section
variable {X : Cx} {cl : Cls} {E : XK} {e : Expr} {es : List Expr} {p1 pos : Pos} {x : Str}
theorem ev_call {k n : Nat} {f : Addr} {fd : FuncData} {ps : List Str} {F : Fn} {fa : AM} (G0 : FnOk X.prog X.w X.K X.mg X.base (CXR X.prog X.w) k f fd ps (spOf X.K cl n F)) (hr : Room k X.A) (hg : Gl X x) (hm : X.mg x = some (.ref f)) (hk : PySem.W.keepIn X.K (.ref f) = true) (hb : Binds X.K fd ps []) (hx : Thr X E)
    (hn : (e :: es).length = n) (ha : EvA X cl E (e :: es) fa) (hdb : (x == ("__debug__" : Str)) = false) (he : starEach (e :: es) X.env = (false, eval e X.env) :: starEach es X.env) (hpl : (backTo pos (starEach es X.env)).any (·.1) = false) (hl : ∀ L S ds S1, fa L S = some (.ok ds, S1) → ds.length = n) :
    EvE X cl E (.Call (.Name x p1) (e :: es) [] pos) (callE F fa) :=
  ⟨PEm (pe_call G0 hr hg hm hk hb .nil hx.pass ha.h hdb he hpl) fun s H Q ⟨p, L, S, l, t, w⟩ => ⟨p, L, S, l, t, by
    have hlen : ∀ ds S1, fa L S = some (.ok ds, S1) → ds.length = n := hl L S
    have w2 : G X.K cl E (Rep X.K) H p (bnd (fa L S) fun ds S1 => F ds S1) Q := w
    generalize fa L S = z at w2 hlen
    obtain ⟨y, S', e, h⟩ := w2
    cases z with
    | none => cases e
    | some z =>
      obtain ⟨z, S1⟩ := z
      cases z with
      | ex _ => cases e; exact ⟨_, _, rfl, h⟩
      | ok ds =>
        refine ⟨_, _, rfl, fun vs H1 p1 q r => ?_⟩
        show spOf X.K cl n F (vs ++ []) H1 Q E
        rw [List.append_nil]
        refine ⟨p1, S1, ds, q.sto, r, hlen ds S1 rfl, y, S', e, ?_⟩
        cases y with
        | ok c => exact fun b' H' p' q' w' => h b' H' p' (q.trans q') w'
        | ex e' => exact fun c dx H' p' q' w' => h c dx H' p' (q.trans q') w'⟩⟩

theorem len_nil {L : Loc} {S : Sto} {ds : List D} {S1 : Sto} (h : nilA L S = some (.ok ds, S1)) : ds.length = 0 := by cases h; rfl
theorem len_cons {f : EM} {g : AM} {n : Nat} (hg : ∀ L S ds S1, g L S = some (.ok ds, S1) → ds.length = n) : ∀ L S ds S1, consA f g L S = some (.ok ds, S1) → ds.length = n + 1 := fun L S ds S1 h => by
  unfold consA at h
  generalize f L S = z at h
  cases z with
  | none => cases h
  | some z =>
    obtain ⟨z, S2⟩ := z
    cases z with
    | ex _ => cases h
    | ok d =>
      rw [bnd_ok] at h
      cases hz : g L S2 with
      | none => rw [hz] at h; cases h
      | some y =>
        obtain ⟨y, S3⟩ := y
        rw [hz] at h
        cases y with
        | ex _ => cases h
        | ok es =>
          rw [bnd_ok] at h
          cases h
          rw [List.length_cons, hg L S2 es _ hz]
end
section
variable {P : Program} {w : World} {K : PySem.W.Frag} {mg : Str → Option Value} {base : Heap} {cl : Cls}
theorem fun_ok {x qual : Str} {st : Stmt} {f : Addr} {fd : FuncData} {N ps : List Str} {k : Nat} {fb : SM} {n : Nat} (F : Fun K x qual st f fd) (S : FnScope N ps (defScope st)) (hn : ps.length = n)
    (hbody : ∀ (cdv : Value) (A : Around) (outer : List Env) (s : Shared) (H : Hp) (E : XK), Room k (A.deeper (envOfC qual (defScope st) s.heap.objs.size f cdv)) → EvB (cxOf (CXR P w) P w K mg base N qual (defScope st) f cdv A outer s H E) cl E (defBody st) fb) :
    FnOk P w K mg base (CXR P w) (k + 1) f fd ps (spOf K cl n (runF N.length fb)) := by
  obtain ⟨oc, od, kV, doc, pm, an, cdv, ct, osl, rfl, lk, hcd⟩ := F.ex
  refine fn_of lk hcd S (fun vs H Q E ⟨p, S, ds, _, l, e, _⟩ => ?_) fun A outer s H vs Q E hr ⟨p, S, ds, t, l, e, g⟩ => ?_
  · rw [← l.len, e, hn]
  · refine ⟨_, (hbody cdv A outer s H E hr).h, p, _, S, start_ok l, t, (G.bind (r := FRep K) g).mono fun v H1 ⟨p1, d, S1, q1, r1, g1⟩ => ?_⟩
    cases r1 with
    | nx l1 => exact g1.ok (.refl q1.sto) .non
    | rt r1 => exact g1.ok (.refl q1.sto) r1
    | bk _ => exact g1.none.elim
    | ct _ => exact g1.none.elim
end
end Ev
end
section
set_option Elab.async false
set_option linter.all false
set_option maxRecDepth 100000
namespace Ev
open PySem PySem.W PySem.Spec PySem.Calls PyProof.Rows PySem.Builtin PySem.Builtin.Getset_descriptor
structure ExcK (K : Frag) (D : Addr) : Prop where
  ga : findIn K (.ref D) "__getattribute__" = some (some (.builtin "BaseException.__getattribute__"))
  gt : findIn K (.ref D) "__getattr__" = some none
  ca : findIn K (.ref D) "__class__" = some (some (.builtin "object.__class__"))
  cg : specialIn K (.builtin "object.__class__") "__get__" = some (some (.builtin "getset_descriptor.__get__"))
  ct : takesIn K (.builtin "object.__class__") = some true
  ob : mroIn K D (.type "object") = some true
  be : mroIn K D (.type "BaseException") = some true
  cl : (clsIn K D).isSome = true
section
variable {prog : Program} {w : World} {A : Around} {E : Value → Shared → Prop} {s : Shared} {K : Frag} {x D : Addr}
theorem find_class {M : Model} {h : Heap} (X : K.In h) (F : ExcK K D) : Looks M h (Builtin.ObjectAttr.find (.ref x) (.ref D) "__class__") (.bind (.builtin "getset_descriptor.__get__") (.builtin "object.__class__")) := by
  have L1 := looks_findIn (M := M) X F.ca
  have L2 : Looks M h (Builtin.ObjectAttr.getOf (some (.builtin "object.__class__"))) (some (.builtin "getset_descriptor.__get__")) := looks_specialIn X F.cg
  have L3 := looks_takesIn (M := M) X F.ct
  unfold Builtin.ObjectAttr.find
  refine L1.andThen (L2.andThen ?_)
  refine Looks.andThen (a := some (.builtin "getset_descriptor.__get__", .builtin "object.__class__")) ?_ (Looks.tag .now)
  unfold Builtin.ObjectAttr.dataDescriptor?
  exact L3.andThen .now
theorem exc_entry {tk : Tok} {Q : Fin → Shared → Prop} (X : K.In s.heap) (T : Looks (model prog w) s.heap (typeOf (.ref x)) (.ref D)) (F : ExcK K D)
    (h : wpAny (model prog w) A (call (.builtin "getset_descriptor.__get__") [.builtin "object.__class__", .ref x, .ref D]) (fun v s' => Q (.done (.ret v)) s') E s) :
    wpAny (model prog w) A (Builtin.«object.__getattribute__» ⟨[.ref x, .str "__class__" tk], []⟩) Q E s := by
  obtain ⟨hh, gg, d, t, os⟩ := s
  have L1 := find_class (M := model prog w) (x := x) X F
  unfold Builtin.«object.__getattribute__»
  refine wpAny_bind (wpAny_pure (wpAny_bind (wpAny_pure (wpAny_bind (T.at (wpAny_bind (L1.at ?_)))))))
  show wpAny _ _ (holding [Value.builtin "object.__class__"] (call (Value.builtin "getset_descriptor.__get__") [.builtin "object.__class__", Value.ref x, Value.ref D]) >>= ret) _ _ _
  exact wpAny_bind (wpAny_holding (wpAny_mono h (fun v s' z => wpAny_pure z) fun _ _ z => z))
theorem ga_bind (x : Addr) : bindSpecial (.builtin "BaseException.__getattribute__") (.ref x) = pure (.builtin "BaseException.__getattribute__", [.ref x]) := PySem.F.excAttr_ValueError.ga.bind (.ref x)
theorem ga_check {nameV : Value} {Q : Unit → Shared → Prop} (X : K.In s.heap) (T : Looks (model prog w) s.heap (typeOf (.ref x)) (.ref D)) (F : ExcK K D) (hq : Q () s) :
    wpAny (model prog w) A (checkBuiltinCall "BaseException.__getattribute__" ⟨[.ref x, nameV], []⟩) Q E s := by
  obtain ⟨hh, gg, d, t, os⟩ := s
  have ha := PySem.F.args_bexc_ga (.ref x) nameV
  have LI : Looks (model prog w) hh (isInstance (.ref x) (.type "BaseException")) true := T.andThen (looks_mroIn (M := model prog w) X F.be)
  simp only [checkBuiltinCall, show builtinKind "BaseException.__getattribute__" = some .slot by decide +kernel, show splitId "BaseException.__getattribute__" = some ("BaseException", "__getattribute__") by decide +kernel]
  refine wpAny_bind (LI.at ?_)
  rw [if_neg (by decide)]
  repeat (first | assumption | wp_step)
theorem cls_get {R : Result → Shared → Prop} {tp : Value} (X : K.In s.heap) (T : Looks (model prog w) s.heap (typeOf (.ref x)) (.ref D)) (F : ExcK K D) (h : R (.ok (.ret (.ref D))) s) :
    codeAny (model prog w) A (.call (.builtin "getset_descriptor.__get__") ⟨[.builtin "object.__class__", .ref x, tp], []⟩) R s := by
  obtain ⟨hh, g, dr, t, os⟩ := s
  have L1 := looks_mroIn (M := model prog w) X F.ob
  refine codeAny_call_builtin KF.slot_gs.plain KF.entry_gs (KF.slot_gs.check _ _ _ _ _ _ _ _ KF.type_class (KF.args_gs _ _ _) ?_)
  (unfold Builtin.«getset_descriptor.__get__» descrGet; rw [dga_obj]; refine wpAny_bind (wpAny_pure ?_); unfold descrGetter descrCheckInstance descrNameAndClass isInstance; simp only [KF.owner_class])
  repeat lk
  (refine ⟨Code.quiet_builtin _ (by decide +kernel), codeAny_builtin KF.entry_class ?_⟩; unfold Builtin.«object.__class__» shownTypeOf)
  repeat lk
  exact h

theorem exc_class {Q : Option Value → Shared → Prop} (X : K.In s.heap) (T : Looks (model prog w) s.heap (typeOf (.ref x)) (.ref D)) (F : ExcK K D)
    (h : Q (some (.ref D)) { s with toks := s.toks + 1 }) : wpAny (model prog w) A (getAttr? (.ref x) "__class__") Q E s := by
  obtain ⟨hh, g, d, t, os⟩ := s
  have L1 := looks_findIn (M := model prog w) X F.ga
  have L2 := looks_findIn (M := model prog w) X F.gt
  have hx2 : (Value.builtin "BaseException.__getattribute__" == Value.builtin "object.__getattribute__") = false := by decide +kernel
  unfold getAttr? getAttrBy? getAttrBy
  refine wpAny_bind (wpAny_mkText (wpAny_bind (wpAny_attempt (wpAny_holding (wpAny_bind (T.at (wpAny_bind (L1.at ?_))))))))
  dsimp only
  rw [show (onTheHeap (Value.ref D) && Value.builtin "BaseException.__getattribute__" == Value.builtin "object.__getattribute__") = false from by rw [hx2]; rfl]
  rw [if_neg (by decide)]
  show wpAny _ _ (getAttrByItsOwn _ _ _ _ _ _) _ _ _
  unfold getAttrByItsOwn
  refine wpAny_bind (m := hookBefore (.ref D)) (L2.at ?_)
  refine wpAny_bind (wpAny_attempt (wpAny_holding ?_))
  show wpAny _ _ (boundAndCalled _ _ _) _ _ _
  unfold boundAndCalled
  rw [ga_bind]
  refine wpAny_bind (wpAny_pure ?_)
  show wpAny _ _ (call (.builtin "BaseException.__getattribute__") [.ref x, .str "__class__" t]) _ _ _
  refine wpAny_call (codeAny_call_builtin PySem.F.excAttr_ValueError.ga.plain PySem.F.entry_bexc_ga (ga_check X T F ?_))
  exact exc_entry X T F (wpAny_call (cls_get X T F (handed_on rfl (wpAny_pure h))))
theorem kitx_exc (F : ExcK K D) : KitX K (.ref x) (.ref D) (fun h => ∃ ox, h.get? x = some ox ∧ ox.cls = .ref D) where
  ty := fun _ _ _ ⟨ox, h1, h2⟩ => h2 ▸ (Looks.ld h1).andThen .now
  it := fun _ _ X _ => by
    obtain ⟨cd, hc⟩ := Option.isSome_iff_exists.mp F.cl
    unfold clsIn at hc
    split at hc
    · rename_i ho
      intro A' Q' E' s' k q
      (unfold isType loadHead; exact wpAny_bind (wpAny_loadPart (k _ _ (X _ _ ho)) (wpAny_pure q)))
    · cases hc
  ne := fun h tp dd its n sl X htp => by
    obtain ⟨cd, hc⟩ := Option.isSome_iff_exists.mp F.cl
    refine Bool.eq_false_iff.mpr fun q => ?_
    cases Value.ref.inj (beq_iff_eq.mp q)
    unfold clsIn at hc
    split at hc
    · rename_i ho
      cases (X _ _ ho).symm.trans htp
    · cases hc
  ca := fun X ⟨ox, h1, h2⟩ k => exc_class X (h2 ▸ (Looks.ld h1).andThen .now) F k
end
end Ev
end
section
set_option Elab.async false
set_option linter.all false
set_option maxRecDepth 100000
namespace Ev
open PySem L2
variable [Tabs] [Clos]
theorem own_at {K : PySem.W.Frag} {h : Heap} {mg : Str → Option Value} {x : Str} {C : Addr} {bmB : List Value} {newId : String} (X : K.In h) (hm : mg x = some (.ref C)) (q : PySem.W.excIn K C bmB newId = true) : PyProof.Rows.OwnCls x C bmB newId mg h := by
  refine ⟨hm, ?_⟩
  unfold PySem.W.excIn at q
  split at q <;> try cases q
  rename_i dd cd sl ho
  split at q <;> try cases q
  rename_i C' bm k0 k1 k2 k3 n k5 hm' hs
  simp only [Bool.and_eq_true, beq_iff_eq, Bool.not_eq_true'] at q
  obtain ⟨⟨⟨⟨⟨rfl, rfl⟩, hdel⟩, ht⟩, hok⟩, hni⟩ := q
  obtain ⟨nm, bs, mro, ns, qn, hd, sn, sub, ab, col, del⟩ := cd
  have hsl : sl = #[k0, k1, k2, k3, some (.builtin n), k5] := by cases sl with | mk l => simp only at hs; rw [hs]
  cases hsl
  have hmro : mro = .ref C' :: bm := hm'
  have hdl : del = false := hdel
  cases hmro
  cases hdl
  exact ⟨bm, ns, nm, qn, bs, hd, sn, sub, ab, col, dd, k0, k1, k2, k3, k5, _, X _ _ ho, .of_isNs (PySem.W.isNs_of_in X hok), PySem.W.nsMap_none_of_in X hok hni, PySem.W.tail_of_in X ht⟩


def bmVE : List Value := [.type "ValueError", .type "Exception", .type "BaseException", .type "object"]
def raiseS (n : Nat) (f : AM) : SM := fun L S => bnd (f L S) fun ds S1 => if ds.length ≤ 1000000 then some (.ex (.c n), S1) else none
theorem ev_raise {X : Cx} {cl : Cls} {E : XK} {x : Str} {np cpos pos : Pos} {e : Expr} {es : List Expr} {fa : AM} {C : Addr} (n : Nat) (hx : Thr X E) (hh : X.A.handled = none) (hg : Gl X x) (hm : X.mg x = some (.ref C)) (q : PySem.W.excIn X.K C bmVE "ValueError.__new__" = true) (hcl : cl n = .ref C)
    (ha : EvA X cl E (e :: es) fa) (hdb : (x == ("__debug__" : Str)) = false) (he : starEach (e :: es) X.env = (false, eval e X.env) :: starEach es X.env) (hpl : (backTo cpos (starEach es X.env)).any (·.1) = false) :
    EvS X cl E (.Raise (some (.Call (.Name x np) (e :: es) [] cpos)) none pos) (raiseS n fa) := by
  refine ⟨fun pins s σ H N I ⟨p, L, S, l, t, w⟩ => ?_⟩
  obtain ⟨tl, Nn, nm, qn, bs, hdct, sn, sub, ab, col, dd, k0, k1, k2, k3, k5, mN, hC, hN, hni, T⟩ := (own_at (x := x) I.mod.kin hm q).obj
  have hE := ha.h cpos pins s σ H _ I ⟨p, L, S, l, t, (G.bind (r := RepL X.K) w)⟩
  refine wpAny_Raise_call_subT (C := C) (nm := nm) (q := qn) (N := Nn) (bs := bs) (bm := tl) (hdct := hdct) (sn := sn) (sub := sub) (ab := ab) (col := col) (dd := dd) (k0 := k0) (k1 := k1) (k2 := k2) (k3 := k3) (k5 := k5) (mN := mN)
    PySem.F.excBase_ValueError (T.hasType PySem.F.excBase_ValueError.hasBase) hh (by rw [he]; show (false || (backTo cpos (starEach es X.env)).any (·.1)) = false; rw [hpl]; rfl) hni (ld_glob I hg hm ⟨rfl, ?_⟩ hdb)
  rw [he] at hE ⊢
  refine Calls.evalArgs_plain (wpAny_mono hE (fun us s2 ⟨vs, H2, I2, r2, p2, ds, S2, q2, rl, g2⟩ => ?_) fun _ _ y => y)
  split at g2
  · rename_i hz
    refine ⟨rfl, by rw [← r2.length, ← rl.len]; exact szL hz, I2.bk _ _ hC, hN.keeps I2.bk, T.keeps I2.bk, fun h' ea hmade => ?_⟩
    refine hx.new pins σ H2 s2 ea C h' us I2 hmade ?_
    obtain ⟨y, S', e', h2⟩ := g2
    cases e'
    rw [← hcl]
    exact h2 _ _ H2 p2 (.refl q2.sto) (.c n H2)
  · exact g2.none.elim
end Ev
end
section
set_option Elab.async false
set_option linter.all false
set_option maxRecDepth 100000
namespace Ev
open PySem L2
variable [Tabs] [Clos]
def leaveX (X : Cx) (E : XK) : Value → Shared → Prop := fun e s' => wpAny (model X.prog X.w) X.A (leaving X.env e) (fun _ s'' => CXR X.prog X.w X.outer X.H_0 X.s_0 E e s'') (fun e' s'' => CXR X.prog X.w X.outer X.H_0 X.s_0 E e' s'') s'
theorem nomem {b : Addr} {X : Cx} (h : X.ex = []) : b ∉ X.ex := by rw [h]; intro z; cases z
theorem thr_gen {X : Cx} {E : XK} (hstk : X.stack = X.env :: X.outer) (hf : X.env.frame = some X.env.locals) (hex : X.ex = []) (hxe : X.xe = leaveX X E) : Thr X E := by
  have hfs : frs (X.env :: X.outer) = X.env.locals :: frs X.outer := frs_cons hf
  refine ⟨fun pins σ H s e s' I h => ?_, fun pins σ H s ea C h' vs I hm hE => ?_⟩
  · obtain ⟨ea, cls, a0, dx, B, H', rfl, F, hE⟩ := h
    rw [hstk] at F
    have hfr : X.A.frames = some (X.env :: X.outer) := by rw [← hstk]; exact I.ok.frames
    rw [hxe]
    refine wpAny_leaves_onW hfr hf F.fly fun h2 f2 u2 => ?_
    have neL : ∀ b o, X.s_0.heap.get? b = some o → b ≠ X.env.locals := fun b o e => Nat.ne_of_lt (Nat.lt_of_lt_of_le (Heap.lt_size e) I.ok.above)
    refine ⟨ea, cls, a0, dx, B, H', rfl, ⟨F.os.trans I.os, F.bare, f2, F.hok, fun b o e n hb => ?_, fun b o e n hb => ?_, fun b o e n => ?_, fun b o e => ?_, fun b xs q => F.tups b xs (I.base.tups b xs q), fun b o u q => F.frzs b o u (I.base.frzs b o u q), fun b ps q => ?_⟩, hE⟩
    · exact F.keep b o (I.base.keep b o e n hb (nomem hex)) (I.base.free b o e n (nomem hex)) (by rw [hfs]; exact fun z => (List.mem_cons.mp z).elim (neL b o e) hb)
    · obtain ⟨sl, e1⟩ := I.base.slot b o e n hb (nomem hex)
      obtain ⟨sl2, e2⟩ := F.slot b _ e1 (I.base.free b o e n (nomem hex)) (by rw [hfs]; exact List.mem_cons_of_mem _ hb)
      obtain ⟨_, o2, ho2, hd2⟩ := I.ok.funs.mem hb
      rw [e] at ho2
      cases ho2
      obtain ⟨sl3, e3⟩ := u2 b _ e2 hd2
      exact ⟨sl3, e3⟩
    · obtain ⟨o', e1⟩ := I.base.there b o e (nomem hex)
      exact F.free b o' e1 (I.base.free b o e n (nomem hex))
    · obtain ⟨o', e1⟩ := I.base.there b o e (nomem hex)
      rcases F.there b o' e1 with hb | hb
      · rw [hfs] at hb
        exact .inl ((List.mem_cons.mp hb).elim (fun z => absurd z (neL b o e)) id)
      · exact .inr hb
    · obtain ⟨m1, e1⟩ := I.base.tbls b ps q
      obtain ⟨m2, e2⟩ := F.tbls b _ e1
      exact ⟨m1 ++ m2, by rw [e2, Array.append_assoc]⟩
  · have hfr : X.A.frames = some (X.env :: X.outer) := by rw [← hstk]; exact I.ok.frames
    have hst : s.heap.FunFrames X.base (X.env :: X.outer) := by rw [← hstk]; exact I.stack
    have hfree : ∀ b ∈ frs (X.env :: X.outer), H b = none := by rw [← hstk]; exact I.stkFree
    have hin : ∀ env ∈ (X.env :: X.outer), ∀ b, env.frame = some b → b ∈ frs (X.env :: X.outer) := fun env he b hb => List.mem_filterMap.mpr ⟨env, he, hb⟩
    rw [hxe]
    refine wpAny_leaves_madeW (base := PySem.W.hideAll s.heap (frs (X.env :: X.outer))) (h := s.heap) hfr hf (fun b o q => PySem.W.of_hideAll _ q) (PySem.W.funFrames_hide hst hin) hm fun h2 t f2 _ _ u2 => ?_
    have neL : ∀ b o, X.s_0.heap.get? b = some o → b ≠ X.env.locals := fun b o e => Nat.ne_of_lt (Nat.lt_of_lt_of_le (Heap.lt_size e) I.ok.above)
    refine ⟨ea, .ref C, .ref t, none, _, H, rfl, ⟨I.os, I.bare, f2, hok_hide I.hok hfree, fun b o e n hb => ?_, fun b o e n hb => ?_, fun b o e n => I.base.free b o e n (nomem hex), fun b o e => ?_, I.base.tups, I.base.frzs, I.base.tbls⟩, hE⟩
    · exact PySem.W.hideAll_get _ (I.base.keep b o e n hb (nomem hex)) (by rw [hfs]; exact fun z => (List.mem_cons.mp z).elim (neL b o e) hb)
    · obtain ⟨sl, e1⟩ := I.base.slot b o e n hb (nomem hex)
      have e2 := hm.keeps b _ e1
      obtain ⟨_, o2, ho2, hd2⟩ := I.ok.funs.mem hb
      rw [e] at ho2
      cases ho2
      obtain ⟨sl3, e3⟩ := u2 b _ e2 hd2
      exact ⟨sl3, e3⟩
    · by_cases hb : b ∈ frs X.outer
      · exact .inl hb
      · obtain ⟨o', e1⟩ := I.base.there b o e (nomem hex)
        exact .inr ⟨o', PySem.W.hideAll_get _ e1 (by rw [hfs]; exact fun z => (List.mem_cons.mp z).elim (neL b o e) hb)⟩


theorem unbind_ok {X : Cx} {pins : List (Addr × Obj)} {σ : L2.St} {H : Hp} {s : Shared} {M : Model} {A : Around} {E : Value → Shared → Prop} {i : Nat} {x : Str} {v : V} {pos : Pos} {Q : Unit → Shared → Prop} (I : Inv X pins σ H s) (hN : X.N.Nodup) (hi : X.N[i]? = some x) (hk : X.env.scope.names.lookup x = some .local)
    (hv : σ[i]? = some (some v)) (h : ∀ s', Inv X pins (σ.set i none) H s' → Q () s') : wpAny M A (unbindBehindTheSuite X.env x pos) Q E s := by
  obtain ⟨m, hn, hl⟩ := id I.loc
  have hcls : (X.env.scope.kind == .class || (X.env.scope.kind == .module && X.env.locals != X.env.globals)) = false := by rw [I.ok.kind]; rfl
  have hiσ : i < σ.length := by rw [I.len]; exact (List.getElem?_eq_some_iff.mp hi).1
  obtain ⟨u, _, lk⟩ := hl i x v hi hv (.inl hk)
  have hm : m x = some u := by
    rcases lk with ⟨_, e⟩ | ⟨z, _⟩
    · exact e
    · have hk' : X.env.kindOf x = some .local := hk
      rcases z with z | z <;> · rw [hk'] at z; cases z
  unfold unbindBehindTheSuite
  refine wpAny_onRaise (wpAny_unbindName_local hk hn hm hcls fun h' u' hn' hs => ?_)
  obtain ⟨oL, _, _, hoL, _⟩ := id hn
  have ne0 : ∀ b o, X.s_0.heap.get? b = some o → b ≠ X.env.locals := fun b o e => Nat.ne_of_lt (Nat.lt_of_lt_of_le (Heap.lt_size e) I.ok.above)
  have trk : HOk X.prog X.w H h' := fun b ob e => by
    refine (I.hok b ob e).stay (fun c w' hc q => (hs.2 c ?_).trans q) (fun _ q => q) fun _ _ q => q
    intro z
    subst z
    rcases hc with z | z
    · rw [← z, I.free] at e; cases e
    · rw [I.free] at z; cases z
  refine h _ ⟨I.ok, I.os, I.bare, ⟨fun b o e n hb hx => (hs.2 b (ne0 b o e)).trans (I.base.keep b o e n hb hx), fun b o e n hb hx => ?_, I.base.free, fun b o e hx => ?_, I.base.tups, I.base.frzs, I.base.tbls⟩, ⟨_, hn', fun j y v' e1 e2 e3 => ?_⟩, fun y c e => ?_, I.free, I.freeC, fun p hp => ?_, trk, by simpa using I.len⟩
  · obtain ⟨sl, e1⟩ := I.base.slot b o e n hb hx
    exact ⟨sl, (hs.2 b (ne0 b o e)).trans e1⟩
  · obtain ⟨o', e1⟩ := I.base.there b o e hx
    exact ⟨o', (hs.2 b (ne0 b o e)).trans e1⟩
  · by_cases hj : j = i
    · subst hj
      rw [List.getElem?_set_self hiσ] at e2
      cases e2
    · rw [List.getElem?_set_ne (Ne.symm hj)] at e2
      obtain ⟨w', r', q⟩ := hl j y v' e1 e2 e3
      refine ⟨w', r', ?_⟩
      rcases q with ⟨k, e⟩ | ⟨k, c, e, z⟩
      · have ny : y ≠ x := fun e => hj (nodup_ix hN e1 (e ▸ hi))
        exact .inl ⟨k, by simp [ny, e]⟩
      · exact .inr ⟨k, c, e, z.sameBut hs (I.cne y c e)⟩
  · obtain ⟨w', z⟩ := I.cell y c e
    exact ⟨w', z.sameBut hs (I.cne y c e)⟩
  · obtain ⟨e, n, ne, nf, d⟩ := I.pin p hp
    exact ⟨(hs.2 p.1 ne).trans e, n, ne, nf, d⟩
end Ev
end
section
set_option Elab.async false
set_option linter.all false
set_option maxRecDepth 100000
namespace Ev
open PySem L2
variable [Tabs] [Clos]
def BMod (base : Heap) (mg : Str → Option Value) : Prop := ∃ bm o, mg "__builtins__" = some (.ref bm) ∧ bm ≠ builtinsNs ∧ bm ≠ mainGlobals ∧ base.get? bm = some o ∧ o.cls = .type "module" ∧ o.dict = some builtinsNs ∧ o.data = .plain
abbrev lamObj (X : Cx) (params : Arguments) (body : Expr) (scope : Scope) (c : Addr) (ctv : Value) : Obj := PySem.W.kla_obj "<lambda>" (X.env.qual ++ "<lambda>") params body scope (cloFrom X.env.cells scope.names []) ((X.mg "__name__").getD .none) c ctv

structure LamAt (X : Cx) (pins : List (Addr × Obj)) (σ : L2.St) (p : List Addr) (S : Sto) (H : Hp) (params : Arguments) (body : Expr) (scope : Scope) (a : Addr) (H1 : Hp) (s1 : Shared) : Prop where
  inv : Inv X pins σ H1 s1
  obj : ∃ c ctv, s1.heap.get? a = some (lamObj X params body scope c ctv) ∧ s1.heap.CodeRec (.ref c) (X.env.qual ++ "<lambda>") ∧ H1 a = some (.ext (objX a (lamObj X params body scope c ctv))) ∧ H1 c = some (.ext (codeX c (X.env.qual ++ "<lambda>")))
  post : Post X.K H p H1 p S
  fresh : H a = none
theorem obj_ext {P : Program} {w : World} {H : Hp} {h : Heap} {a : Addr} {o : Obj} (e : h.get? a = some o) : ObjOk P w H h a (.ext (objX a o)) := ⟨e, ⟨o, e⟩, fun _ _ q k => k _ q⟩
theorem among_snoc {pos : Pos} {a b : Int} {c cv : Value} (l : List Value) (h : TriplesOk l) (e : codeAmong pos (l ++ [rawInt a, rawInt b, c]) = some cv) : codeAmong pos l = some cv ∨ cv = c := by
  fun_induction TriplesOk l with
  | case1 =>
    simp only [List.nil_append, rawInt, codeAmong] at e
    split at e
    · exact .inr (Option.some.inj e).symm
    · cases e
  | case2 a' t b' u x rest ih =>
    simp only [List.cons_append, codeAmong] at e ⊢
    split at e
    · rename_i hc
      rw [if_pos hc]
      exact .inl e
    · rename_i hc
      rw [if_neg hc]
      exact ih h e
  | case3 l h1 h2 => exact h.elim
theorem lam_eval {X : Cx} {pins : List (Addr × Obj)} {σ : L2.St} {H : Hp} {s : Shared} {p : List Addr} {S : Sto} {params : Arguments} {body : Expr} {scope : Scope} {lpos : Pos} {c P : Addr} {Q : Value → Shared → Prop} (I : Inv X pins σ H s) (t : StoOk X.K H p S)
    (hB : BMod X.base X.mg) (hcode : X.env.code = .ref c) (hhd : PySem.W.codeHdIn X.K c P = true) (hT : (P, X.env.qual ++ "<lambda>") ∈ Tabs.tl) (hdef : defaultsOf params X.env = ([], []))
    (hfree : ∀ y ∈ scope.names, y.2 = .free → X.env.scope.names.lookup y.1 = some .cell ∨ X.env.scope.names.lookup y.1 = some .free)
    (h : ∀ a H1 s1, LamAt X pins σ p S H params body scope a H1 s1 → Q (.ref a) s1) : wpAny (model X.prog X.w) X.A (eval (.Lambda params body scope lpos) X.env) Q X.xe s := by
  obtain ⟨ps, hP, hTr, hcs⟩ := t.tab _ hT
  have hPh : s.heap.get? P = some (PySem.W.tabObj ps) := I.hok P _ hP
  have hcl : closureFor scope X.env = pure (cloFrom X.env.cells scope.names []) := closure_ok fun y hy hk => by
    have z := hfree y hy hk
    exact I.ok.has y.1 z
  obtain ⟨bm, ob, b1, b2, b3, b4, b5, b6, b7⟩ := hB
  have nP : ∀ b o, X.base.get? b = some o → b ≠ P := fun b o e z => by
    have := (I.bs b o e).2
    rw [z, hP] at this; cases this
  have hgs : s.heap.Ns mainGlobals X.mg := I.mod.glob.keeps I.bk
  have hgP : mainGlobals ≠ P := by
    obtain ⟨o, es, ep, e, _⟩ := I.mod.glob
    exact nP _ o e
  have hb : s.heap.BuiltinsAt X.mg P := ⟨bm, ob, b1, b2, b3, nP _ _ b4, I.bk _ _ b4, b5, b6, b7⟩
  have hC : PySem.W.CodeHd s.heap c P := PySem.W.codeHd_of_K I.kIn hhd
  refine PySem.W.kla_eval hdef ?_
  cases hc : codeAmong lpos ps.toList with
  | some cv =>
    obtain ⟨c', rfl, hx⟩ := hcs lpos cv hc
    obtain ⟨hrec, _, _⟩ := (show ObjOk X.prog X.w H s.heap c' (.ext (codeX c' (X.env.qual ++ "<lambda>"))) from I.hok c' _ hx)
    refine PySem.W.kla_makeFunctionHit hcl I.ok.glob hgs hcode hC hPh hTr hc hb fun ctv h' tk hk hsz => ?_
    have hk2 : ∀ b o, s.heap.get? b = some o → (h'.push { cls := .type "function", data := .func (PySem.W.kla_fn "<lambda>" (X.env.qual ++ "<lambda>") params body scope (cloFrom X.env.cells scope.names []) ((X.mg "__name__").getD .none) (.ref c') ctv) }).get? b = some o := fun b o e => Heap.get?_push_of_some _ (hk b o e)
    have hfa : H h'.objs.size = none := I.hok.fresh hsz
    refine h _ _ _ ⟨I.laid (t' := tk) hk2 hsz (obj_ext (Heap.get?_push_size _ rfl)), ⟨c', ctv, Heap.get?_push_size _ rfl, ?_, upd_same, ?_⟩, Post.newT t hfa, hfa⟩
    · obtain ⟨q1, q2, q3, q4, q5, q6, q7⟩ := hrec
      exact ⟨q1, q2, q3, q4, q5, hk2 _ _ q6, q7⟩
    · rw [upd_ne (ne_of_none hx hfa)]; exact hx
  | none =>
    refine PySem.W.kla_makeFunction hcl I.ok.glob hgs hcode hC hPh hTr hc hgP hb fun c' ctv h' tk hx hge hlt hrec htb => ?_
    have hx2 : ∀ b o, b ≠ P → s.heap.get? b = some o → h'.get? b = some o := hx
    have hfr : H c' = none := I.hok.fresh hge
    have nc : ∀ b o, s.heap.get? b = some o → b ≠ c' := fun b o e => Nat.ne_of_lt (Nat.lt_of_lt_of_le (Heap.lt_size e) hge)
    have ncT : ∀ b u, H b = some u → b ≠ c' := fun b u e => ne_of_none e hfr
    have nPc : P ≠ c' := ncT P _ hP
    obtain ⟨H1, hH1⟩ : ∃ H1, H1 = upd (upd H P (.tbl (ps ++ #[rawInt lpos.line, rawInt lpos.col, .ref c']))) c' (.ext (codeX c' (X.env.qual ++ "<lambda>"))) := ⟨_, rfl⟩
    have h1P : H1 P = some (.tbl (ps ++ #[rawInt lpos.line, rawInt lpos.col, .ref c'])) := by rw [hH1, upd_ne nPc, upd_same]
    have h1c : H1 c' = some (.ext (codeX c' (X.env.qual ++ "<lambda>"))) := by rw [hH1, upd_same]
    have h1o : ∀ b, b ≠ P → b ≠ c' → H1 b = H b := fun b n1 n2 => by rw [hH1, upd_ne n2, upd_ne n1]
    have hrec2 : h'.CodeRec (.ref c') (X.env.qual ++ "<lambda>") := hrec
    have hok1 : HOk X.prog X.w H1 h' := fun b u e => by
      by_cases n1 : b = P
      · subst n1
        rw [h1P] at e
        cases e
        exact htb
      · by_cases n2 : b = c'
        · subst n2
          rw [h1c] at e
          cases e
          refine ⟨hrec2, ?_, fun g1 g2 z k => ?_⟩
          · obtain ⟨q1, q2, q3, q4, q5, q6, q7⟩ := hrec2
            cases q5
            exact ⟨_, q6⟩
          · obtain ⟨q1, q2, q3, q4, q5, q6, q7⟩ := z
            cases q5
            exact ⟨_, q2, q3, q4, rfl, k _ q6, q7⟩
        · rw [h1o b n1 n2] at e
          refine (I.hok b u e).stay (fun d w hd q => hx2 d w (fun z => ?_) q) (fun d q => ?_) fun d xs q => ?_
          · rcases hd with z2 | z2
            · exact n1 (z2 ▸ z)
            · rw [z, hP] at z2; cases z2
          · have k1 : d ≠ P := fun z => by rw [z, hP] at q; cases q
            rw [h1o d k1 (ncT d _ q)]; exact q
          · have k1 : d ≠ P := fun z => by rw [z, hP] at q; cases q
            rw [h1o d k1 (ncT d _ q)]; exact q
    have nPn : ∀ b, H b = none → b ≠ P := fun b n z => by rw [z, hP] at n; cases n
    have inv1 : Inv X pins σ H1 { s with heap := h', toks := tk } := by
      refine I.step (g' := s.gens) (d' := s.drawn) (t' := tk) (ch := []) (fun _ z => nomatch z) (fun b o _ _ _ e n => hx2 b o (nPn b n) e) (fun b o _ _ _ e n => ⟨o.slots, hx2 b o (nPn b n) e⟩) (fun b o _ e n => ?_) (fun b o _ e => ?_) (fun b xs q => ?_) (fun b o u q => ?_) (fun b qs q => ?_) (fun m hm => ?_) hok1 I.bare
      · rw [h1o b (nPn b n) (nc b o e)]; exact n
      · by_cases z : b = P
        · exact ⟨_, z ▸ htb⟩
        · exact ⟨o, hx2 b o z e⟩
      · have k1 : b ≠ P := fun z => by rw [z, hP] at q; cases q
        rw [h1o b k1 (ncT b _ q)]; exact q
      · have k1 : b ≠ P := fun z => by rw [z, hP] at q; cases q
        rw [h1o b k1 (ncT b _ q)]; exact q
      · by_cases z : b = P
        · subst z
          rw [hP] at q
          cases q
          exact ⟨_, h1P⟩
        · exact ⟨#[], by rw [h1o b z (ncT b _ q), q]; simp⟩
      · obtain ⟨o, es, ep, ho, r⟩ := hm
        exact ⟨o, es, ep, hx2 _ o (nPn _ I.free) ho, r⟩
    have ext1 : Ext H H1 := ⟨fun b xs q => by
        have k1 : b ≠ P := fun z => by rw [z, hP] at q; cases q
        rw [h1o b k1 (ncT b _ q)]; exact q, fun b o u q => by
        have k1 : b ≠ P := fun z => by rw [z, hP] at q; cases q
        rw [h1o b k1 (ncT b _ q)]; exact q, fun b u q => by
        have k1 : b ≠ P := fun z => by rw [z, hP] at q; cases q
        rw [h1o b k1 (ncT b _ q)]; exact q, fun b e => by
        have z1 : b ≠ P := fun z => by rw [z, h1P] at e; cases e
        have z2 : b ≠ c' := fun z => by rw [z, h1c] at e; cases e
        rw [← h1o _ z1 z2]; exact e⟩
    have tab1 : TabOk H1 := fun q hq => by
      obtain ⟨ps2, g1, g2, g3⟩ := t.tab q hq
      by_cases z : q.1 = P
      · rw [z, hP] at g1
        cases g1
        refine ⟨_, by rw [z]; exact h1P, ?_, fun pos cv e => ?_⟩
        · rw [Array.toList_append]
          exact TriplesOk_snoc _ _ _ _ g2
        · rw [Array.toList_append] at e
          rcases among_snoc _ g2 e with e | e
          · obtain ⟨d, e1, e2⟩ := g3 pos cv e
            have k1 : d ≠ P := fun z => by rw [z, hP] at e2; cases e2
            exact ⟨d, e1, by rw [h1o d k1 (ncT d _ e2)]; exact e2⟩
          · exact ⟨c', e, by rw [h1c, Tabs.uniq q hq _ hT z]⟩
      · refine ⟨ps2, by rw [h1o _ z (ncT _ _ g1)]; exact g1, g2, fun pos cv e => ?_⟩
        obtain ⟨d, e1, e2⟩ := g3 pos cv e
        have k1 : d ≠ P := fun z => by rw [z, hP] at e2; cases e2
        exact ⟨d, e1, by rw [h1o d k1 (ncT d _ e2)]; exact e2⟩
    have fa1 : H1 h'.objs.size = none := hok1.fresh (Nat.le_refl _)
    have faH : H h'.objs.size = none := by
      have z1 : h'.objs.size ≠ P := fun z => by rw [z, h1P] at fa1; cases fa1
      have z2 : h'.objs.size ≠ c' := fun z => by rw [z, h1c] at fa1; cases fa1
      rw [← h1o _ z1 z2]; exact fa1
    have post1 : Post X.K H p H1 p S := by
     refine ⟨ext1, .refl _, fun _ h => .inl h, ⟨tab1, t.len, t.nd, fun n b cc e1 e2 => ?_⟩⟩
     have cc1 := t.cell n b cc e1 e2
     obtain ⟨o, ho⟩ := cc1.some
     refine cc1.stay ext1 (.refl _) (h1o b (fun z => ?_) (ncT b o ho))
     subst z
     cases cc with
     | clo _ => obtain ⟨_, _, q, _⟩ := cc1; rw [hP] at q; cases q
     | dead => obtain ⟨_, q⟩ := cc1; rw [hP] at q; cases q
     | dz _ => obtain ⟨_, _, q, _⟩ := cc1; rw [hP] at q; cases q
     | _ => obtain ⟨_, q, _⟩ := cc1; rw [hP] at q; cases q
    refine h _ _ _ ⟨inv1.laid (t' := tk) (fun b u e => Heap.get?_push_of_some _ e) (Nat.le_refl _) (obj_ext (Heap.get?_push_size _ rfl)), ⟨c', ctv, Heap.get?_push_size _ rfl, ?_, upd_same, ?_⟩, post1.trans (Post.newT post1.sto fa1), faH⟩
    · obtain ⟨q1, q2, q3, q4, q5, q6, q7⟩ := hrec
      exact ⟨q1, q2, q3, q4, q5, Heap.get?_push_of_some _ q6, q7⟩
    · rw [upd_ne (ne_of_none h1c fa1)]; exact h1c
end Ev
end
section
set_option Elab.async false
set_option linter.all false
set_option maxRecDepth 100000
namespace Ev
open PySem L2
variable [Tabs] [Clos]
def lamCx (X2 : Cx) (N : List Str) (qual : Str) (scope : Scope) (a c : Addr) (clos : List (Str × Addr)) (s2 : Shared) (H1 : Hp) (E : XK) : Cx where
  prog := X2.prog
  w := X2.w
  K := X2.K
  mg := X2.mg
  base := X2.base
  A := X2.A.deeper (PySem.W.envX qual scope s2.heap.objs.size a (.ref c) clos)
  N := N
  s_0 := s2
  H_0 := H1
  env := PySem.W.envX qual scope s2.heap.objs.size a (.ref c) clos
  outer := X2.stack
  stack := PySem.W.envX qual scope s2.heap.objs.size a (.ref c) clos :: X2.stack
  ex := []
  calm := true
  fn := fun _ => false
  pn := []
  xe := fun e s' => wpAny (model X2.prog X2.w) (X2.A.deeper (PySem.W.envX qual scope s2.heap.objs.size a (.ref c) clos)) (leaving (PySem.W.envX qual scope s2.heap.objs.size a (.ref c) clos) e) (fun _ s'' => CXR X2.prog X2.w X2.stack H1 s2 E e s'') (fun e' s'' => CXR X2.prog X2.w X2.stack H1 s2 E e' s'') s'
theorem thr_lam {X2 : Cx} {N : List Str} {qual : Str} {scope : Scope} {a c : Addr} {clos : List (Str × Addr)} {s2 : Shared} {H1 : Hp} {E : XK} : Thr (lamCx X2 N qual scope a c clos s2 H1 E) E := thr_gen rfl rfl rfl rfl
theorem clo_look {cells : List (Str × Addr)} {names : List (Str × NameKind)} (hall : ∀ y ∈ names, y.2 = .free → ∃ c, cells.lookup y.1 = some c) {x : Str} {c : Addr} (h : (cloFrom cells names []).lookup x = some c) : (x, NameKind.free) ∈ names ∧ cells.lookup x = some c := by
  rcases cloFrom_mem (PySem.mem_of_lookup h) with z | ⟨z1, z2⟩
  · cases z
  · obtain ⟨c', e⟩ := hall _ z1 rfl
    refine ⟨z1, ?_⟩
    rw [e, Option.getD_some] at z2
    rw [e, z2]
section
variable {X : Cx} {pins : List (Addr × Obj)} {σ : L2.St} {H1 : Hp} {s1 s2 s3 : Shared} {N2 : List Str} {q2 : Str} {sc2 : Scope} {fs : Addr} {cd2 : Value} {E E2 : XK} {σ2 : L2.St} {scope : Scope} {a c : Addr}
abbrev saidCx (X : Cx) (N2 : List Str) (q2 : Str) (sc2 : Scope) (fs : Addr) (cd2 : Value) (s1 : Shared) (H1 : Hp) (E2 : XK) : Cx := cxOf (CXR X.prog X.w) X.prog X.w X.K X.mg X.base N2 q2 sc2 fs cd2 X.A X.stack s1 H1 E2

structure LamScope (X : Cx) (scope : Scope) : Prop where
  kind : scope.kind = .function
  co : scope.isCoroutine = false
  gen : scope.isGenerator = false
  plain : ∀ y ∈ scope.names, y.2 = .free ∨ y.2 = .globalImplicit
  free : ∀ y ∈ scope.names, y.2 = .free → X.env.scope.names.lookup y.1 = some .cell ∨ X.env.scope.names.lookup y.1 = some .free
theorem LamScope.look {X : Cx} {scope : Scope} (L : LamScope X scope) {x : Str} {k : NameKind} (h : scope.names.lookup x = some k) (hk : k = .local ∨ k = .cell ∨ k = .free) : k = .free := by
  rcases L.plain _ (PySem.mem_of_lookup h) with z | z
  · exact z
  · have z' : k = .globalImplicit := z
    subst z'
    rcases hk with z | z | z <;> cases z

structure CellsAt (X : Cx) (scope : Scope) (σ : L2.St) (H1 : Hp) (s1 : Shared) : Prop where
  hall : ∀ y ∈ scope.names, y.2 = .free → ∃ c, X.env.cells.lookup y.1 = some c
  inj : ∀ x y d, X.env.cells.lookup x = some d → X.env.cells.lookup y = some d → x = y
  look : ∀ (i : Nat) (x : Str) (v : V), X.N[i]? = some x → σ[i]? = some (some v) → scope.names.lookup x = some .free → ∃ u, RelV v u ∧ ∃ d, X.env.cells.lookup x = some d ∧ s1.heap.IsCell d (some u)
  cell : ∀ x d, (x, NameKind.free) ∈ scope.names → X.env.cells.lookup x = some d → ∃ v, s1.heap.IsCell d v
  freeC : ∀ x d, (x, NameKind.free) ∈ scope.names → X.env.cells.lookup x = some d → H1 d = none
  len : σ.length = X.N.length
theorem CellsAt.of_inv (I1 : Inv X pins σ H1 s1) (L : LamScope X scope) : CellsAt X scope σ H1 s1 := by
  refine ⟨fun y hy hk => I1.ok.has y.1 (L.free y hy hk), I1.ok.inj, fun i x v e1 e2 hf => ?_, fun x d _ e => I1.cell x d e, fun x d _ e => I1.freeC x d e, I1.len⟩
  obtain ⟨m1, _, hl⟩ := I1.loc
  have hv : Vis X.env.scope x := by
    rcases L.free _ (PySem.mem_of_lookup hf) rfl with z | z
    · exact .inr (.inl z)
    · exact .inr (.inr z)
  obtain ⟨u, r, lk⟩ := hl i x v e1 e2 hv
  refine ⟨u, r, ?_⟩
  rcases lk with ⟨z, _⟩ | ⟨_, d, e, z⟩
  · have z' : X.env.scope.names.lookup x = some .local := z
    rcases L.free _ (PySem.mem_of_lookup hf) rfl with w | w <;> · rw [z'] at w; cases w
  · exact ⟨d, e, z⟩

theorem CellsAt.of_blk {pins0 : List (Addr × Obj)} {σ0 : L2.St} {H0 : Hp} {s0 : Shared} {bsc : Scope} {ce : Env} {fp : List Addr} {vs : List Nat} (I0 : Inv X pins0 σ0 H0 s0) (IB : Inv (X.blk s0 H0 bsc ce fp) pins σ H1 s1) (L : LamScope X scope) (hfn : ∀ x, X.fn x = true)
    (hfp : ∀ b ∈ fp, ∀ x c, X.env.cells.lookup x = some c → c ≠ b) (hw : wipe σ vs = wipe σ0 vs) (hdis : ∀ i ∈ vs, ∀ x, X.N[i]? = some x → scope.names.lookup x ≠ some .free) : CellsAt X scope σ H1 s1 := by
  have C0 := CellsAt.of_inv I0 L
  have kp : ∀ x d o, X.env.cells.lookup x = some d → s0.heap.get? d = some o → s1.heap.get? d = some o ∧ H1 d = none := fun x d o e ho => by
    have nfs : d ∉ frs X.stack := fun z => by
      have z1 := I0.stkSub d z
      rcases List.mem_cons.mp z1 with z2 | z2
      · exact I0.cne x d e z2
      · obtain ⟨_, o', ho', _⟩ := I0.ok.funs.mem z2
        have := I0.ok.cab x d (hfn x) e
        exact absurd (Heap.lt_size ho') (Nat.not_lt.mpr this)
    have nex : d ∉ fp := fun z => hfp d z x d e rfl
    exact ⟨IB.base.keep d o ho (I0.freeC x d e) nfs nex, IB.base.free d o ho (I0.freeC x d e) nex⟩
  refine ⟨C0.hall, C0.inj, fun i x v e1 e2 hf => ?_, fun x d hm e => ?_, fun x d hm e => ?_, IB.len⟩
  · have ni : i ∉ vs := fun z => hdis i z x e1 hf
    have e3 : σ0[i]? = some (some v) := by rw [← wipe_out (σ := σ0) ni, ← hw, wipe_out ni]; exact e2
    obtain ⟨u, r, d, e4, o, ho, hd⟩ := C0.look i x v e1 e3 hf
    exact ⟨u, r, d, e4, o, (kp x d o e4 ho).1, hd⟩
  · obtain ⟨v, o, ho, hd⟩ := C0.cell x d hm e
    exact ⟨v, o, (kp x d o e ho).1, hd⟩
  · obtain ⟨v, o, ho, hd⟩ := C0.cell x d hm e
    exact (kp x d o e ho).2
theorem lam_inv (C1 : CellsAt X scope σ H1 s1) (I2 : Inv (saidCx X N2 q2 sc2 fs cd2 s1 H1 E2) [] σ2 H1 s2) (L : LamScope X scope) (hh : X.A.handled = none) (k12 : ∀ b o, s1.heap.get? b = some o → s2.heap.get? b = some o) (k23 : ∀ b o, s2.heap.get? b = some o → s3.heap.get? b = some o) (hos : s3.os = s2.os) (hbare : PyProof.Rows.AllBare s3.gens)
    {m : Str → Option Value} (hns : s3.heap.Ns s2.heap.objs.size m) : Inv (lamCx (saidCx X N2 q2 sc2 fs cd2 s1 H1 E2) X.N (X.env.qual ++ "<lambda>") scope a c (cloFrom X.env.cells scope.names []) s2 H1 E) [] σ H1 s3 := by
  have hall := C1.hall
  have k13 : ∀ b o, s1.heap.get? b = some o → s3.heap.get? b = some o := fun b o e => k23 b o (k12 b o e)
  refine ⟨⟨I2.ok.mod, L.kind, rfl, rfl, Nat.le_refl _, fun x y d e1 e2 => ?_, fun x hx => ?_, fun x d z => (by cases (show false = true from z)), fun _ => hh, ?_, .inr ⟨rfl, rfl⟩, fun b z => (by cases (show b ∈ ([] : List Addr) from z)), I2.bs, Nat.le_trans I2.ok.bsz I2.sz, fun b _ _ z => (by cases (show b ∈ ([] : List Addr) from z)), fun b z => (by cases (show b ∈ ([] : List Addr) from z)), I2.stack, I2.stkFree⟩,
    hos, hbare, Un.kept k23, ⟨m, hns, fun i x v e1 e2 e3 => ?_⟩, fun x d e => ?_, I2.hok.fresh (Nat.le_refl _), fun x d e => ?_, fun p hp => (by cases (show p ∈ ([] : List (Addr × Obj)) from hp)), I2.hok.kept k23, C1.len⟩
  · exact C1.inj x y d (clo_look hall e1).2 (clo_look hall e2).2
  · have hx' : scope.names.lookup x = some .cell ∨ scope.names.lookup x = some .free := hx
    have hf : scope.names.lookup x = some .free := by
      rcases hx' with z | z
      · cases L.look z (.inr (.inl rfl))
      · exact z
    have hm := cloFrom_has (cells := X.env.cells) (acc := []) (PySem.mem_of_lookup hf)
    cases e : (cloFrom X.env.cells scope.names []).lookup x with
    | some d => exact ⟨d, e⟩
    | none => exact absurd hm (fun z => by
        have := List.lookup_eq_none_iff.mp e _ z
        simp at this)
  · exact Around.frames_deeper I2.ok.frames
  · have hf : scope.names.lookup x = some .free := by
      rcases e3 with z | z | z
      · cases L.look z (.inl rfl)
      · cases L.look z (.inr (.inl rfl))
      · exact z
    obtain ⟨u, r, d, e, o, ho, hd⟩ := C1.look i x v e1 e2 hf
    refine ⟨u, r, .inr ⟨.inr hf, ?_⟩⟩
    have hm := cloFrom_has (cells := X.env.cells) (acc := []) (PySem.mem_of_lookup hf)
    cases e' : (cloFrom X.env.cells scope.names []).lookup x with
    | some d' =>
      have w := (clo_look hall e').2
      rw [e] at w
      cases w
      exact ⟨d, e', o, k13 _ _ ho, hd⟩
    | none => exact absurd hm (fun z => by
        have := List.lookup_eq_none_iff.mp e' _ z
        simp at this)
  · obtain ⟨v, o, ho, hd⟩ := C1.cell x d (clo_look hall e).1 (clo_look hall e).2
    exact ⟨v, o, k13 _ _ ho, hd⟩
  · exact C1.freeC x d (clo_look hall e).1 (clo_look hall e).2

theorem lam_call {cl : Cls} {params : Arguments} {body : Expr} {fb : EM} {ctv : Value} {p : List Addr} {S : Sto} {Lo : Loc} {Q : VK} (C1 : CellsAt X scope σ H1 s1) (I2 : Inv (saidCx X N2 q2 sc2 fs cd2 s1 H1 E2) [] σ2 H1 s2) (L : LamScope X scope) (hh : X.A.handled = none) (hroom : (saidCx X N2 q2 sc2 fs cd2 s1 H1 E2).A.depth < recursionLimit)
    (k12 : ∀ b o, s1.heap.get? b = some o → s2.heap.get? b = some o) (ho : s1.heap.get? a = some (lamObj X params body scope c ctv)) (hrec : s1.heap.CodeRec (.ref c) (X.env.qual ++ "<lambda>"))
    (hbind : ∀ cs pm cdv ct, bindArgs (PySem.W.kla_fn "<lambda>" (X.env.qual ++ "<lambda>") params body scope cs pm cdv ct) ⟨[], []⟩ = pure [])
    (hb : EvE (lamCx (saidCx X N2 q2 sc2 fs cd2 s1 H1 E2) X.N (X.env.qual ++ "<lambda>") scope a c (cloFrom X.env.cells scope.names []) s2 H1 E) cl E body fb)
    (l : LocOk X.K H1 p Lo σ) (t : StoOk X.K H1 p S) (g : G X.K cl E (Rep X.K) H1 p (fb Lo S) Q) :
    wpAny (model X.prog X.w) (saidCx X N2 q2 sc2 fs cd2 s1 H1 E2).A (call (.ref a) []) (EP (saidCx X N2 q2 sc2 fs cd2 s1 H1 E2) [] σ2 Q) (fun e s' => CXR X.prog X.w (saidCx X N2 q2 sc2 fs cd2 s1 H1 E2).stack H1 s2 E e s') s2 := by
  refine wpAny_call (PySem.W.kla_callFunE hroom (k12 _ _ ho) rfl L.co L.gen rfl ?_ ?_)
  · obtain ⟨q1, q2, q3, q4, q5, q6, q7⟩ := hrec
    exact ⟨q1, q2, q3, q4, q5, k12 _ _ q6, q7⟩
  rw [hbind]
  refine wpAny_pure (wpAny_newFunctionEnv (fun y hy z => ?_) (fun y hy => (nomatch hy)) (fun h3 hns hsb => ⟨(I2.nolimit).fresh _ hsb, ?_⟩) L.kind)
  · rcases L.plain y hy with w | w <;> · rw [z] at w; cases w
  have k23 : ∀ b o, s2.heap.get? b = some o → h3.get? b = some o := fun b o e => hsb.extBut b o (Nat.ne_of_lt (Heap.lt_size e)) (Heap.get?_push_of_some _ e)
  have I3 := lam_inv (E := E) (a := a) (c := c) (s3 := { s2 with heap := h3, toks := s2.toks + 0 }) C1 I2 L hh k12 k23 rfl I2.bare hns
  refine PySem.W.kla_codeExpr (wpAny_mono (hb.h [] _ σ H1 Q I3 ⟨p, Lo, S, l, t, g⟩) (fun u s4 ⟨v, H4, I4, r, q⟩ => ?_) fun e s4 hx => hx)
  exact I2.after ⟨v, H4, I4.os, I4.bare, I4.base, I4.hok, r, q⟩
end
end Ev
end
section
set_option Elab.async false
set_option linter.all false
set_option maxRecDepth 100000
namespace Ev
open PySem L2
open PyProof.Rows hiding St
variable [Tabs] [Clos]
def hanCx (X2 : Cx) (ea : Addr) (pn : List (Addr × Obj)) : Cx := { X2 with A := X2.A.mark (some (.ref ea)), calm := false, pn := pn, xe := fun _ _ => False }
theorem han_in {X2 : Cx} {ea : Addr} {pn : List (Addr × Obj)} {σ : L2.St} {H : Hp} {s : Shared} (I : Inv X2 [] σ H s) (h0 : X2.pn = []) (hp : ∀ q ∈ pn, s.heap.get? q.1 = some q.2 ∧ H q.1 = none ∧ q.1 ≠ X2.env.locals ∧ q.1 ∉ X2.fs ∧ ∀ v, q.2.data ≠ .cell v) : Inv (hanCx X2 ea pn) [] σ H s :=
  ⟨⟨I.ok.mod, I.ok.kind, I.ok.glob, I.ok.blt, I.ok.above, I.ok.inj, I.ok.has, I.ok.cab, fun z => (by cases (show false = true from z)), I.ok.frames, I.ok.stk, I.ok.exf, I.ok.bs, I.ok.bsz, I.ok.noex, I.ok.exfs, I.ok.funs, I.ok.frf⟩, I.os, I.bare, I.base, I.loc, I.cell, I.free, I.freeC, fun q hq => by
    have hq' : q ∈ pn ++ [] := hq
    rw [List.append_nil] at hq'
    exact hp q hq', I.hok, I.len⟩
theorem han_out {X2 : Cx} {ea : Addr} {pn : List (Addr × Obj)} {σ σ0 : L2.St} {H H0 : Hp} {s s0 : Shared} (I : Inv (hanCx X2 ea pn) [] σ H s) (I0 : Inv X2 [] σ0 H0 s0) (h0 : X2.pn = []) : Inv X2 [] σ H s :=
  ⟨I0.ok, I.os, I.bare, I.base, I.loc, I.cell, I.free, I.freeC, fun q hq => (by
    rw [h0] at hq
    cases hq), I.hok, I.len⟩
theorem ObjOk.some' {P : Program} {w : World} {H : Hp} {h : Heap} {a : Addr} {o : HO} (x : ObjOk P w H h a o) : ∃ ob, h.get? a = some ob := by
  induction o with
  | lst xs => obtain ⟨_, _, _, _, e⟩ := x; exact ⟨_, e⟩
  | tup xs => obtain ⟨_, _, _, _, e, _⟩ := x; exact ⟨_, e⟩
  | dK kvs => obtain ⟨_, _, _, _, _, _, _, e, _⟩ := x; exact ⟨_, e⟩
  | dT kvs => obtain ⟨_, _, _, _, _, _, _, e, _⟩ := x; exact ⟨_, e⟩
  | set S n => obtain ⟨_, _, _, _, e, _⟩ := x; exact ⟨_, e⟩
  | ins C dx fs => obtain ⟨_, _, _, e, _⟩ := x; exact ⟨_, e⟩
  | own y => exact x
  | xd fs => obtain ⟨_, ⟨_, _, _, e, _⟩, _⟩ := x; exact ⟨_, e⟩
  | rng lo hi => obtain ⟨_, _, _, e⟩ := x; exact ⟨_, e⟩
  | frz ob u ih => obtain ⟨e, _⟩ := x; exact ⟨_, e⟩
  | tbl ps => exact ⟨_, x⟩
  | met f y => exact ⟨_, x⟩
  | ext φ => obtain ⟨_, e, _⟩ := x; exact e
theorem Fly.fresh {P : Program} {w : World} {outer : List Env} {H : Hp} {s : Shared} {ea : Addr} {cls a0 : Value} {B : Heap} {H' : Hp} {s' : Shared} (F : Fly P w outer H s ea cls a0 B H' s') : H' ea = none := by
  cases e : H' ea with
  | none => rfl
  | some o =>
    obtain ⟨ob, q⟩ := ObjOk.some' (F.hok ea o e)
    have := F.fly.2.1
    rw [q] at this; cases this

theorem Fly.on {P : Program} {w : World} {outer : List Env} {H : Hp} {s : Shared} {ea : Addr} {cls a0 : Value} {B : Heap} {H' : Hp} {s' : Shared} {h5 : Heap} (F : Fly P w outer H s ea cls a0 B H' s') (f5 : Heap.FlyingW B outer ea cls a0 h5) (u : s'.heap.UpToSlots h5) (hfun : s.heap.FunFrames B0 outer) : Fly P w outer H s ea cls a0 B H' { s' with heap := h5 } :=
  ⟨F.os, F.bare, f5, F.hok, F.keep, fun b o e n hb => by
    obtain ⟨sl, e1⟩ := F.slot b o e n hb
    obtain ⟨_, o2, ho2, hd2⟩ := hfun.mem hb
    rw [e] at ho2
    cases ho2
    obtain ⟨sl3, e3⟩ := u b _ e1 hd2
    exact ⟨sl3, e3⟩, F.free, F.there, F.tups, F.frzs, F.tbls⟩



structure SaidT (st : Stmt) (np1 np2 np3 np4 p1 p2 p3 tpos : Pos) (suite : List Stmt) (s0 : Stmt) (ret : List Stmt) : Prop where
  body : defBody st = .Try [.Assign [.Name "_law_found" np1] (.Call (.Name "_law_call" np2) [] [] np3) p1] [.ExceptHandler (some (.Name "SightError" np4)) (some "e") (s0 :: suite) p3] [] [] tpos :: ret
abbrev saidN : List Str := ["_law_call", "_law_found", "e", "_law_marks", "_law_words"]
def saidE (word : Nat → Option Str) (junk : Nat → List Cell) (fb : EM) : EM := fun L S => match fb L S with
  | some (.ok d, S1) => some (.ok (.tup [.str "told", d]), S1)
  | some (.ex (.c n), S1) => match word n with
    | some x => some (.ok (.str x), S1 ++ junk n)
    | none => none
  | _ => none

abbrev oCx (X : Cx) (s0 : Shared) (H0 : Hp) (env : Env) (outer : List Env) (ex : List Addr) (fn : Str → Bool) (calm : Bool) (pn : List (Addr × Obj)) (xe : Value → Shared → Prop) : Cx := { X with s_0 := s0, H_0 := H0, env := env, outer := outer, ex := ex, fn := fn, calm := calm, pn := pn, xe := xe }
theorem said_core {X : Cx} {Ys : Shared} {YH : Hp} {Ye : Env} {Yo : List Env} {Yx : List Addr} {Yf : Str → Bool} {Yc : Bool} {Yp : List (Addr × Obj)} {Yxe : Value → Shared → Prop} {pins : List (Addr × Obj)} {σY σ : L2.St} {H1 : Hp} {s1 : Shared} {p : List Addr} {Lo : Loc} {S : Sto} {Q : VK} {a c' : Addr} {ctv : Value}
    {cl : Cls} {E : XK} {st : Stmt} {fs : Addr} {oc : Value} {od an : Option Addr} {osl : Array (Option Value)} {kV doc pm cd2 ct : Value} {params : Arguments} {body : Expr} {scope : Scope} {np1 np2 np3 np4 p1 p2 p3 tpos : Pos} {suite ret : List Stmt} {s0 : Stmt} {CS : Addr} {fb : EM} {fS : Addr → Nat → SM} {word : Nat → Option Str} {junk : Nat → List Cell} {k : Nat}
    (lk : X.K.lookup fs = some ⟨oc, od, .func (PySem.W.fnOf "_law_said" "_law_said" (defArgs st) (defBody st) (defScope st) .none kV doc pm an cd2 ct), osl⟩) (hcd : PySem.W.codeIn X.K cd2 "_law_said" = true) (T : SaidT st np1 np2 np3 np4 p1 p2 p3 tpos suite s0 ret) (S2 : FnScope saidN ["_law_call"] (defScope st)) (hr : Room (k + 2) X.A) (hbn : Binds X.K (PySem.W.fnOf "_law_said" "_law_said" (defArgs st) (defBody st) (defScope st) .none kV doc pm an cd2 ct) ["_law_call"] [])
    (hgS : (defScope st).names.lookup ("SightError" : Str) = some NameKind.globalImplicit) (hmS : X.mg "SightError" = some (.ref CS)) (hmatch : ∀ n x, word n = some x → PySem.W.exmOne X.K (cl n) (.ref CS) = some true)
    (hloc : ∀ x ∈ saidN, (defScope st).names.lookup x = some NameKind.local) (L : LamScope X scope)
    (hbind : ∀ cs pm cdv ct, bindArgs (PySem.W.kla_fn "<lambda>" (X.env.qual ++ "<lambda>") params body scope cs pm cdv ct) ⟨[], []⟩ = pure [])
    (hsw : ∀ env, swapsWith (.Call (.Name "_law_call" np2) [] [] np3) (some (.Name "_law_found" np1)) p1.line env = pure false)
    (hb : ∀ (cd2 : Value) (s1 s2 : Shared) (H1 : Hp) (E2 E3 : XK) (a c' : Addr), EvE (lamCx (saidCx X saidN "_law_said" (defScope st) fs cd2 s1 H1 E2) X.N (X.env.qual ++ "<lambda>") scope a c' (cloFrom X.env.cells scope.names []) s2 H1 E3) cl E3 body fb)
    (hret : ∀ (cd2 : Value) (s1 : Shared) (H1 : Hp) (E2 : XK), EvB (saidCx X saidN "_law_said" (defScope st) fs cd2 s1 H1 E2).nox cl XF ret (retS (tupE (consA (cst (.str "told")) (consA (vr 1) nilA)))))
    (hsuite : ∀ (cd2 : Value) (s1 : Shared) (H1 : Hp) (E2 : XK) (ea : Addr) (ob : Obj) (n : Nat) (x : Str), word n = some x → ob.cls = cl n → EvB (hanCx (saidCx X saidN "_law_said" (defScope st) fs cd2 s1 H1 E2) ea [(ea, ob)]) cl XF (s0 :: suite) (fS ea n))
    (hword : ∀ (a ea : Addr) (n : Nat) (x : Str) (S : Sto), word n = some x → fS ea n [some (.kc a), none, some (.kc ea), none, none] S = some (.ok (.rt (.str x)), S ++ junk n))
    (I1 : Inv (oCx X Ys YH Ye Yo Yx Yf Yc Yp Yxe) pins σY H1 s1) (C1 : CellsAt X scope σ H1 s1) (ho : s1.heap.get? a = some (lamObj X params body scope c' ctv)) (hrec : s1.heap.CodeRec (.ref c') (X.env.qual ++ "<lambda>"))
    (l : LocOk X.K H1 p Lo σ) (t : StoOk X.K H1 p S) (g : G X.K cl E (Rep X.K) H1 p (saidE word junk fb Lo S) Q) :
    wpAny (model X.prog X.w) X.A (call (.ref fs) [.ref a]) (EP (oCx X Ys YH Ye Yo Yx Yf Yc Yp Yxe) pins σY Q) Yxe s1 := by
  refine wpAny_call (codeAny_mono (Att.call_fn (R := fun r s' => match r with
      | .ok (.ret u) => CE X.stack X.prog X.w H1 s1 Q u s'
      | _ => False) I1.kIn I1.nolimit lk hcd hr.depth (hbn s1 [.ref a] I1.kIn rfl) ?_ (fun s2 x => ?_) S2.co S2.gen S2.kind) fun r s' hq => ?_)
  · have z := hloc "_law_call" (by simp)
    simp [z]
  · have I2 : Inv (saidCx X saidN "_law_said" (defScope st) fs cd2 s1 H1 XF) [] (L2.start saidN [.ref a]) H1 s2 := inv_start (E := XF) S2 hr.hd I1.env0 rfl (.cons rfl .nil) x
    obtain ⟨h2, tk2, e2, k12'⟩ := x.done
    have k12 : ∀ b o, s1.heap.get? b = some o → s2.heap.get? b = some o := by rw [e2]; exact k12'
    have main : wpAny (model X.prog X.w) (saidCx X saidN "_law_said" (defScope st) fs cd2 s1 H1 XF).A (execs (defBody st) (saidCx X saidN "_law_said" (defScope st) fs cd2 s1 H1 XF).env) (SP (saidCx X saidN "_law_said" (defScope st) fs cd2 s1 H1 XF) [] { nx := fun _ _ => False, rt := Q }) (fun _ _ => False) s2 := by
      obtain ⟨X2, hX2⟩ : ∃ X2, X2 = saidCx X saidN "_law_said" (defScope st) fs cd2 s1 H1 XF := ⟨_, rfl⟩
      have hwish : ∀ (d : D) (S1 : Sto), fb Lo S = some (.ok d, S1) → G X.K cl E (Rep X.K) H1 p (some (.ok (.tup [.str "told", d]), S1)) Q := fun d S1 e => by
        have g2 := g
        unfold saidE at g2
        rw [e] at g2
        exact g2
      have hwex : ∀ (n : Nat) (S1 : Sto), fb Lo S = some (.ex (.c n), S1) → ∃ x, word n = some x ∧ G X.K cl E (Rep X.K) H1 p (some (.ok (.str x), S1 ++ junk n)) Q := fun n S1 e => by
        have g2 := g
        unfold saidE at g2
        rw [e] at g2
        have g2 : G X.K cl E (Rep X.K) H1 p (match word n with
          | some x => some (.ok (.str x), S1 ++ junk n)
          | none => none) Q := g2
        cases hw : word n with
        | none => rw [hw] at g2; exact g2.none.elim
        | some x => rw [hw] at g2; exact ⟨x, rfl, g2⟩
      have gl : G X.K cl (fun cc dx H' => ∃ n p' S1, fb Lo S = some (.ex (.c n), S1) ∧ Post X.K H1 p H' p' S1 ∧ cc = cl n) (Rep X.K) H1 p (fb Lo S) (fun v H' => ∃ d p' S1, fb Lo S = some (.ok d, S1) ∧ Post X.K H1 p H' p' S1 ∧ Rep X.K H' p' d v) := by
        have g2 := g
        unfold saidE at g2
        cases e : fb Lo S with
        | none => rw [e] at g2; exact g2.none.elim
        | some y =>
          obtain ⟨y, S1⟩ := y
          cases y with
          | ok d => exact ⟨_, _, rfl, fun b H' p' q r => ⟨d, p', S1, rfl, q, r⟩⟩
          | ex en =>
            cases en with
            | c n => exact ⟨_, _, rfl, fun cc dx H' p' q r => ⟨n, p', S1, rfl, q, by cases r; rfl⟩⟩
            | great _ _ => rw [e] at g2; exact g2.none.elim
      have lcall := lam_call (cl := cl) C1 I2 L hr.hd (by have := hr.dp; show X.A.depth + 1 < _; omega) k12 ho hrec hbind (hb cd2 s1 s2 H1 XF _ a c') l t gl
      rw [T.body]
      refine wpAny_execs_cons (wpAny_Try_except ?_)
      -- the try's body
      obtain ⟨m, hn, hl⟩ := I2.loc
      obtain ⟨u, ru, lk0⟩ := hl 0 "_law_call" (.ref a) rfl rfl (.inl (hloc _ (by simp)))
      obtain rfl : u = Value.ref a := ru
      obtain ⟨hk0, hm0⟩ : (saidCx X saidN "_law_said" (defScope st) fs cd2 s1 H1 XF).env.kindOf "_law_call" = some .local ∧ m "_law_call" = some (.ref a) := by
        rcases lk0 with z | ⟨z, _⟩
        · exact z
        · have w : (saidCx X saidN "_law_said" (defScope st) fs cd2 s1 H1 XF).env.kindOf "_law_call" = some .local := hloc _ (by simp)
          rcases z with z | z <;> · rw [w] at z; cases z
      refine wpAny_execs_cons (wpAny_Assign_Name (wpAny_Call_Name_kw (wpAny_Name (wpAny_loadName_local I2.ok.kind hk0 hn hm0 ?_) (by decide))) (hsw _))
      refine PySem.W.callWith_F0 ⟨_, _, _, _, k12 _ _ ho⟩ ?_
      refine wpAny_mono lcall (fun u s4 ⟨v, H4, I4, r4, d, p4, S4, e4, q4, rep4⟩ => ?_) fun e s4 hx => ?_
      · -- it came back: the name is stored, then the return
        refine store_ok (i := 1) I4 S2.nd rfl (.inl (hloc _ (by simp))) r4 (fun s5 I5 => ?_) (.inl rfl)
        refine wpAny_execs_nil (wpAny_execs_nil ?_)
        refine wpAny_mono ((hret cd2 s1 H1 XF).h [] s5 _ H4 { nx := fun _ _ => False, rt := Q } (I5.wish _) ⟨p4, [some (.kc a), some d, none, none, none], S4, ⟨rfl, fun i dd hd => ?_⟩, q4.sto, ?_⟩) (fun _ _ z => z.unwish) fun _ _ z => z
        · match i, hd with
          | 0, hd => cases hd; exact ⟨_, rfl, .kc a⟩
          | 1, hd => cases hd; exact ⟨_, rfl, rep4⟩
          | 2, hd => cases hd
          | 3, hd => cases hd
          | 4, hd => cases hd
          | n + 5, hd => cases hd
        · have g5 := (hwish d S4 e4).at q4
          refine ⟨_, _, rfl, fun b H' p' q r => ?_⟩
          cases r with
          | rt r => exact g5.ok q r
      · -- an exception came
        obtain ⟨ea, cls, a0, dx, B, H', rfl, F4, n, p', S1, ef, pw, rfl⟩ := hx
        obtain ⟨x, hw, gw⟩ := hwex n S1 ef
        have hfun := I2.stack
        have hfree := I2.stkFree
        refine wpAny_looks_onW I2.ok.frames rfl F4.fly fun h5 held5 u5 => ?_
        refine wpAny_landsW held5 fun h6 fly6 u6 => ?_
        have F6 := F4.on fly6 (u5.trans u6) hfun
        have I6 : Inv (saidCx X saidN "_law_said" (defScope st) fs cd2 s1 H1 XF) [] (L2.start saidN [.ref a]) H' { s4 with heap := h6 } := I2.call' (ch := []) F6.os (F6.un hfree) F6.hok' F6.bare fun b z => nomatch z
        have I6h : Inv (hanCx (saidCx X saidN "_law_said" (defScope st) fs cd2 s1 H1 XF) ea []) [] (L2.start saidN [.ref a]) H' { s4 with heap := h6 } := han_in I6 rfl fun q hq => nomatch hq
        refine wpAny_handleBy_cons (codeAny_handlers_test (ld_glob I6h hgS hmS ?_ (by decide))) (by intro q; cases q)
        obtain ⟨ob6, hob6, hcls6⟩ := fly6.there
        have LT : PySem.W.Looks (model X.prog X.w) h6 (typeOf (.ref ea)) (cl n) := hcls6 ▸ (PySem.W.Looks.ld hob6).andThen .now
        refine PySem.W.Looks.at (PySem.W.exm_one I6h.kIn LT (hmatch n x hw)) ?_
        show codeAny _ _ _ _ _
        refine codeAny_handlers_suite_as ?_
        refine lands_againW fly6 fun h7 fly7 u7 => ?_
        have F7 := F6.on fly7 u7 hfun
        have I7 : Inv (saidCx X saidN "_law_said" (defScope st) fs cd2 s1 H1 XF) [] (L2.start saidN [.ref a]) H' { s4 with heap := h7 } := I2.call' (ch := []) F7.os (F7.un hfree) F7.hok' F7.bare fun b z => nomatch z
        obtain ⟨ob, vs7, hob, hcls, hdat, _⟩ := fly7.first
        have I7h : Inv (hanCx (saidCx X saidN "_law_said" (defScope st) fs cd2 s1 H1 XF) ea [(ea, ob)]) [] (L2.start saidN [.ref a]) H' { s4 with heap := h7 } := han_in I7 rfl fun q hq => by
          obtain rfl : q = (ea, ob) := List.mem_singleton.mp hq
          refine ⟨hob, F7.fresh, fun z => ?_, fun z => ?_, fun v z => ?_⟩
          · obtain ⟨m7, ⟨o7, es7, ep7, g7, d7, _⟩, _⟩ := I7.loc
            have g7' : h7.get? ea = some o7 := by rw [show ea = (saidCx X saidN "_law_said" (defScope st) fs cd2 s1 H1 XF).env.locals from z]; exact g7
            rw [hob] at g7'
            cases g7'
            rw [hdat] at d7; cases d7
          · obtain ⟨_, o7, g7, d7⟩ := fly7.2.2.1.mem (show ea ∈ frs (saidCx X saidN "_law_said" (defScope st) fs cd2 s1 H1 XF).stack from by
              rw [show (saidCx X saidN "_law_said" (defScope st) fs cd2 s1 H1 XF).stack = (saidCx X saidN "_law_said" (defScope st) fs cd2 s1 H1 XF).env :: X.stack from rfl, frs_cons (L := s1.heap.objs.size) rfl]
              exact List.mem_cons_of_mem _ z)
            rw [hob] at g7
            cases g7
            exact d7 _ hdat
          · rw [hdat] at z; cases z
        refine store_ok (X := hanCx (saidCx X saidN "_law_said" (defScope st) fs cd2 s1 H1 XF) ea [(ea, ob)]) (i := 2) (v := .ref ea) I7h S2.nd rfl (.inl (hloc _ (by simp))) rfl (fun s8 I8 => ?_) (.inl rfl)
        refine wpAny_mono ((hsuite cd2 s1 H1 XF ea ob n x hw hcls).h [] s8 _ H' { nx := fun _ _ => False, rt := Q } I8 ⟨p', [some (.kc a), none, some (.kc ea), none, none], S1, ⟨rfl, fun i dd hd => ?_⟩, pw.sto, ?_⟩) (fun f s9 hf => ?_) fun _ _ z => z.elim
        · match i, hd with
          | 0, hd => cases hd; exact ⟨_, rfl, .kc a⟩
          | 1, hd => cases hd
          | 2, hd => cases hd; exact ⟨_, rfl, .kc ea⟩
          | 3, hd => cases hd
          | 4, hd => cases hd
          | n + 5, hd => cases hd
        · rw [hword a ea n x S1 hw]
          have g5 := gw.at pw
          refine ⟨_, _, rfl, fun b H'' p'' q r => ?_⟩
          cases r with
          | rt r => exact g5.ok q r
        · cases f with
          | next => obtain ⟨_, _, _, z⟩ := hf; exact z.elim
          | brk => obtain ⟨_, _, _, z⟩ := hf; exact (show False from z).elim
          | cont => obtain ⟨_, _, _, z⟩ := hf; exact (show False from z).elim
          | ret u =>
            obtain ⟨v, σ9, H9, I9, r9, q9⟩ := hf
            refine wpAny_bind (wpAny_bindName (store_ok (X := hanCx (saidCx X saidN "_law_said" (defScope st) fs cd2 s1 H1 XF) ea [(ea, ob)]) (i := 2) (v := .non) I9 S2.nd rfl (.inl (hloc _ (by simp))) rfl (fun s10 I10 => ?_) (.inl rfl)))
            refine unbind_ok (X := hanCx (saidCx X saidN "_law_said" (defScope st) fs cd2 s1 H1 XF) ea [(ea, ob)]) (i := 2) (v := .non) I10 S2.nd rfl (hloc _ (by simp)) ?_ fun s11 I11 => ?_
            · rw [List.getElem?_set_self (by rw [I9.len]; show 2 < 5; decide)]
            · exact ⟨v, _, H9, han_out I11 I2 rfl, r9, q9⟩
    refine wpAny_mono main (fun fl s' hq => ?_) (fun e s' z => z.elim)
    cases fl with
    | ret u =>
      obtain ⟨v, σ', H', J, rv, q⟩ := hq
      exact ⟨v, H', J.os, J.bare, J.base, J.hok, rv, q⟩
    | next =>
      obtain ⟨_, _, _, q⟩ := hq
      exact q.elim
    | brk =>
      obtain ⟨_, _, _, q⟩ := hq
      exact q.elim
    | cont =>
      obtain ⟨_, _, _, q⟩ := hq
      exact q.elim
  · cases r with
    | error e => exact hq.elim
    | ok fl =>
      cases fl with
      | ret u => exact I1.after hq
      | next => exact hq.elim
      | brk => exact hq.elim
      | cont => exact hq.elim
end Ev
end
section
set_option Elab.async false
set_option linter.all false
set_option maxRecDepth 100000
namespace Ev
open PySem L2
open PyProof.Rows hiding St
variable [Tabs] [Clos]
theorem repr_reads {prog : Program} {w : World} {A : Around} {E : Value → Shared → Prop} {s : Shared} {v : Value} {d : PyData} {as : List Addr} {Q : Value → Shared → Prop} (r : Reads s.heap v d as) (hs : d.showable = true) (hd : d.hasDict = false) (hz : d.shown.length ≤ sizeLine) (hdp : d.depth ≤ 64) (hu : A.units + 70 < cLine) (hg : A.guards = some [])
    (h : ∀ h' u tk, (∀ b o, s.heap.get? b = some o → h'.get? b = some o) → Q (.str d.shown u) { s with heap := h', toks := tk }) : wpAny (model prog w) A (call (.builtin "repr") [v]) Q E s := by
  cases r with
  | none => exact PySem.P.repr_of_none (h s.heap _ _ fun _ _ e => e)
  | bool b => exact PySem.P.repr_of_bool (h s.heap _ _ fun _ _ e => e)
  | int i t => exact PySem.P.repr_of_int (by simpa [PyData.showable] using hs) (h s.heap _ _ fun _ _ e => e)
  | str x t => exact PySem.P.repr_of_str (h s.heap _ _ fun _ _ e => e) hz
  | @list a o vs n xs as h1 h2 h3 h4 =>
    have hz' : (listText (PyData.shownAll xs)).length ≤ sizeLine := by simpa only [PyData.shown] using hz
    obtain ⟨bs, hb, hk⟩ := ReprAllK.of_readsAll (prog := prog) (w := w) h4 (by simpa [PyData.showable] using hs) (fun hx => by simp only [PyData.hasDict] at hd; rw [hd] at hx; cases hx) (fun t ht => Nat.le_trans (listText_mem_le ht) hz')
    have r : Reads s.heap (.ref a) (.list xs) _ := .list h1 h2 h3 h4
    have hna : a ∉ bs := not_mem_of_deeper r (by simp only [PyData.depth]; omega) hb
    simp only [PyData.depth] at hdp
    simp only [PyData.shown] at h
    obtain ⟨l⟩ := vs
    cases l with
    | nil =>
      have h4' : ReadsAll s.heap [] xs _ := h4
      cases h4'
      simp only [PyData.shownAll, listText_nil] at h
      refine call_repr_slot (by omega) ⟨o, h1, h2⟩ PySem.F.slot_list_repr.toG ?_
      exact call_list_repr_empty ⟨o, h1, h2⟩ h1 h3 ⟨_, _, rfl, h s.heap _ _ fun _ _ e => e⟩
    | cons x l =>
      refine call_repr_slot (by omega) ⟨o, h1, h2⟩ PySem.F.slot_list_repr.toG ?_
      exact call_list_reprK h1 h2 h3 hna (by simpa using hk.length_eq) (fun i y e => hk.item i y (by simpa using e)) hg (fun b _ => Clear.nil b) (by show A.units + 1 + _ < _; omega) (fun b o e => e) (fun h' u tk hk => ⟨_, _, rfl, h h' u tk hk⟩) hz'
  | @tuple a o vs n xs as h1 h2 h3 h4 =>
    have hz' : (tupleText (PyData.shownAll xs)).length ≤ sizeLine := by simpa only [PyData.shown] using hz
    obtain ⟨bs, hb, hk⟩ := ReprAllK.of_readsAll (prog := prog) (w := w) h4 (by simpa [PyData.showable] using hs) (fun hx => by simp only [PyData.hasDict] at hd; rw [hd] at hx; cases hx) (fun t ht => Nat.le_trans (tupleText_mem_le ht) hz')
    have r : Reads s.heap (.ref a) (.tuple xs) _ := .tuple h1 h2 h3 h4
    have hna : a ∉ bs := not_mem_of_deeper r (by simp only [PyData.depth]; omega) hb
    simp only [PyData.depth] at hdp
    simp only [PyData.shown] at h
    refine call_repr_slot (by omega) ⟨o, h1, h2⟩ PySem.F.slot_tuple_repr ?_
    exact call_tuple_reprK h1 h2 h3 hna hk hg (fun b _ => Clear.nil b) (by show A.units + 1 + _ < _; omega) (fun b o e => e) (fun h' u tk hk => ⟨_, _, rfl, h h' u tk hk⟩) hz'
  | dict h1 h2 h3 h4 h5 => simp [PyData.hasDict] at hd

def okP (P : PyData) : Bool := P.showable && !P.hasDict && decide (P.shown.length ≤ 1000000) && decide (P.depth ≤ 64)
def reprD : OpN
  | [d], S => match toP S 9 d with
    | some P => if okP P = true then some (.ok (.str P.shown), S) else none
    | none => none
  | _, _ => none
section
variable {X : Cx} {cl : Cls} {E : XK} {e a b : Expr} {fa fb : EM} {pos p1 : Pos}
theorem cl_repr {k : Nat} (hr : Room k X.A) : ClD X (.builtin "repr") reprD := ⟨fun cl E pins s σ H vs us Q I r ⟨p, S, ds, t, rl, g⟩ => by
  unfold reprD at g
  split at g
  · rename_i d
    cases hP : toP S 9 d with
    | none => rw [hP] at g; exact g.none.elim
    | some P =>
      rw [hP] at g
      dsimp only at g
      split at g
      · rename_i hok
        cases rl with
        | cons r1 rr =>
          cases rr
          cases r with
          | cons u1 ur =>
            cases ur
            obtain ⟨as, rd⟩ := Dp.reads I P _ _ (dp_of t _ _ _ _ r1 hP) u1
            simp only [okP, Bool.and_eq_true, Bool.not_eq_true', decide_eq_true_eq] at hok
            obtain ⟨⟨⟨h1, h2⟩, h3⟩, h4⟩ := hok
            have hun := hr.un
            exact repr_reads rd h1 h2 (szL h3) h4 (by omega) hr.gd fun h' u tk hk => ⟨.str P.shown, H, I.kept hk, ⟨_, rfl⟩, g.ok (.refl t) (.str _)⟩
      · exact g.none.elim
  · exact g.none.elim⟩

abbrev OpM := D → List D → Sto → O D
def rMt (X : Cx) (cl : Cls) (E : XK) (op : OpM) : V → List V → Hp → VK → Prop := fun x vs H Q => ∃ p S a ds, StoOk X.K H p S ∧ Rep X.K H p a x ∧ RepL X.K H p ds vs ∧ G X.K cl E (Rep X.K) H p (op a ds S) Q
structure MtD (X : Cx) (id : String) (op : OpM) : Prop where
  h : ∀ (cl : Cls) (E : XK), MtR X id (rMt X cl E op)
def tyOk (T : String) (S : Sto) : D → Bool
  | .ref n => match S[n]? with
    | some (.lst _) => T == "list"
    | some (.dk _) => T == "dict"
    | some (.dt _) => T == "dict"
    | _ => false
  | .fl _ => T == "list"
  | .str _ => T == "str"
  | _ => false
theorem tyV_of {H : Hp} {p : List Addr} {S : Sto} {T : String} {d : D} {v : V} (t : StoOk X.K H p S) (r : Rep X.K H p d v) (h : tyOk T S d = true) : tyV X.K T v H := by
  cases r with
  | @ref n q h1 =>
    have h : (match S[n]? with
      | some (.lst _) => T == "list"
      | some (.dk _) => T == "dict"
      | some (.dt _) => T == "dict"
      | _ => false) = true := h
    split at h
    · rename_i hx
      obtain ⟨vs, h2, _⟩ := t.lst h1 hx
      exact .inl ⟨beq_iff_eq.mp h, vs, sqL_of h2⟩
    · rename_i hx
      obtain ⟨vs, h2, _⟩ := t.cell n q _ h1 hx
      exact .inr (.inr (.inl ⟨beq_iff_eq.mp h, .inl ⟨vs, h2⟩⟩))
    · rename_i hx
      obtain ⟨vs, h2, _⟩ := t.cell n q _ h1 hx
      exact .inr (.inr (.inl ⟨beq_iff_eq.mp h, .inr ⟨vs, h2⟩⟩))
    · cases h
  | @fl q ds vs h1 l => exact .inl ⟨beq_iff_eq.mp h, vs, h1.sq⟩
  | str x => exact beq_iff_eq.mp h
  | _ => cases h
def mthE (T : String) (op : OpM) (fo : EM) (f : AM) : EM := fun L S => bnd (fo L S) fun o S1 => if tyOk T S1 o = true then bnd (f L S1) fun ds S2 => op o ds S2 else none
theorem ev_meth {T id : String} {name : Str} {o : Expr} {es : List Expr} {op : OpM} {fo : EM} {f : AM} {apos cpos : Pos} (hm : MtD X id op) (pa : PlainAttrs T) (slot : Slot T name id) (hty : typeOf (.builtin id) = pure (.type "method_descriptor")) (ho : EvE X cl E o fo) (ha : EvA X cl E (e :: es) f)
    (hbase : attributeBase o name X.env (eval o X.env) = eval o X.env)
    (hfew : ((backTo cpos (starEach (e :: es) X.env)).all (fun x => !x.1) && (backToKw cpos (keywordEach [] X.env)).all (fun x => x.1.isSome) && decide ((e :: es).length + ([] : List Keyword).length + (if ([] : List Keyword).isEmpty then 0 else 1) < 30)) = true)
    (hline : (apos.endLine == cpos.line) = true) (hs : starEach (e :: es) X.env = (false, eval e X.env) :: starEach es X.env) (hplain : (backTo cpos (starEach es X.env)).any (·.1) = false) :
    EvE X cl E (.Call (.Attribute o name apos) (e :: es) [] cpos) (mthE T op fo f) :=
  ⟨PEm (pe_bm pa slot hty (hm.h cl E) ho.h ha.h hbase hfew hline hs hplain) fun s H Q ⟨p, L, S, l, t, g⟩ => ⟨p, L, S, l, t, (G.bind (r := Rep X.K) g).mono fun v H1 ⟨p1, d1, S1, q1, r1, g1⟩ => by
    split at g1
    · rename_i hz
      refine ⟨tyV_of q1.sto r1 hz, p1, L, S1, l.mono q1, q1.sto, (G.bind (r := RepL X.K) g1).mono fun vs H2 ⟨p2, ds, S2, q2, r2, g2⟩ => ⟨p2, S2, d1, ds, q2.sto, r1.mono q2.ext q2.pre, r2, g2⟩⟩
    · exact g1.none.elim⟩⟩
def appendD : OpM
  | .ref n, [d], S => match S[n]? with
    | some (.lst xs) => if xs.length < 1000000 then some (.ok .non, S.set n (.lst (xs ++ [d]))) else none
    | _ => none
  | _, _, _ => none
theorem mt_appendD : MtD X "list.append" appendD := ⟨fun cl E pins s σ H x vs v us Q I rx rs ⟨p, S, a, ds, t, ra, rl, g⟩ => by
  cases ra with
  | @ref n q h =>
    cases rl with
    | nil => exact g.none.elim
    | @cons d vd _ _ r1 rr =>
      cases rr with
      | cons _ _ => exact g.none.elim
      | nil =>
        have g : G X.K cl E (Rep X.K) H p (match S[n]? with
          | some (.lst xs) => if xs.length < 1000000 then some (.ok .non, S.set n (.lst (xs ++ [d]))) else none
          | _ => none) Q := g
        split at g
        · rename_i xs hx
          obtain ⟨ws, h1, l⟩ := t.lst h hx
          split at g
          · rename_i hz
            refine mt_append pins s σ H _ _ v us Q I rx rs ⟨q, ws, vd, rfl, rfl, h1, by rw [← l.len]; exact szLt hz, ?_⟩
            refine g.ok (Post.write t h hx fun q' ex e' => ?_) .non
            subst e'
            exact ⟨_, upd_same, (l.mono ex (.refl _)).app (.cons (r1.mono ex (.refl _)) .nil)⟩
          · exact g.none.elim
        · exact g.none.elim
  | _ => exact g.none.elim⟩
def indexD : OpM
  | .ref n, [.bl b], S => match S[n]? with
    | some (.lst xs) => match blsOf xs with
      | some bs => match bs.findIdx? (· == b) with
        | some j => some (.ok (.int (j : Nat)), S)
        | none => none
      | none => none
    | _ => none
  | _, _, _ => none
theorem eqV_bl (x y : Bool) : eqV (.bl x) (.bl y) = (x == y) := by cases x <;> cases y <;> rfl
theorem flat_bls : ∀ bs : List Bool, (bs.map V.bl).all flatV = true
  | [] => rfl
  | _ :: bs => by rw [List.map_cons, List.all_cons, flat_bls bs]; rfl
theorem mt_indexD : MtD X "list.index" indexD := ⟨fun cl E pins s σ H x vs v us Q I rx rs ⟨p, S, a, ds, t, ra, rl, g⟩ => by
  unfold indexD at g
  split at g
  · rename_i n b
    cases ra with
    | @ref _ q h =>
      cases rl with
      | cons r1 rr =>
        cases rr
        cases r1
        split at g
        · rename_i xs hx
          obtain ⟨ws, h1, l⟩ := t.lst h hx
          split at g
          · rename_i bs hb
            have z := blsOf_rep l hb
            subst z
            split at g
            · rename_i j hj
              obtain ⟨hjl, hje, hno⟩ := List.findIdx?_eq_some_iff_getElem.mp hj
              refine mt_index pins s σ H _ _ v us Q I rx rs ⟨q, bs.map V.bl, .bl b, j, .bl bs[j], rfl, rfl, sqL_of h1, rfl, flat_bls bs, by simp [hjl], by rw [eqV_bl]; exact hje, fun m z hm hz => ?_, g.ok (.refl t) (.int _)⟩
              rw [List.getElem?_map] at hz
              have hml : m < bs.length := Nat.lt_trans hm hjl
              rw [List.getElem?_eq_getElem hml] at hz
              cases hz
              rw [eqV_bl]
              have := hno m hm
              simpa using this
            · exact g.none.elim
          · exact g.none.elim
        · exact g.none.elim
  · exact g.none.elim⟩
def countD : OpM
  | .ref n, [.bl b], S => match S[n]? with
    | some (.lst xs) => match blsOf xs with
      | some bs => some (.ok (.int (bs.countP (· == b) : Nat)), S)
      | none => none
    | _ => none
  | _, _, _ => none
theorem count_vals {b : Bool} : ∀ {bs : List Bool} {us : List Value}, Vals (bs.map V.bl) us → us.countP (eqU (.bl b)) = bs.countP (· == b)
  | [], _, .nil => rfl
  | x :: bs, u :: us, .cons r t => by
    have hx : eqU (.bl b) u = (x == b) := by
      rw [eqU_of r rfl, eqV_bl]
    rw [List.countP_cons, List.countP_cons, count_vals t, hx]
theorem mt_countD : MtD X "list.count" countD := ⟨fun cl E pins s σ H x vs v us Q I rx rs ⟨p, S, a, ds, t, ra, rl, g⟩ => by
  unfold countD at g
  split at g
  · rename_i n b
    cases ra with
    | @ref _ q h =>
      cases rl with
      | cons r1 rr =>
        cases rr
        cases r1
        split at g
        · rename_i xs hx
          obtain ⟨ws, h1, l⟩ := t.lst h hx
          split at g
          · rename_i bs hb
            have z := blsOf_rep l hb
            subst z
            cases rx
            cases rs with
            | cons ry rt =>
              cases rt
              obtain ⟨its, rv, ⟨⟨cls, dd, data, sl⟩, nn, ho, hc, hdn, hd⟩, hlen⟩ := I.list (sqL_of (K := X.K) h1)
              simp only at hc hd
              subst hc hd
              refine call_meets PySem.F.slot_list_count ⟨_, ho, rfl⟩ PySem.F.entry_list_count (PySem.F.args_list_count_2 _ _) (SeqAt.list_countAt q its.toArray nn dd sl _ (eqU (.bl b))) ⟨ho, fun u' hu' => mem_eqAt ry rfl rv (flat_bls bs) u' (by simpa using hu'), ?_⟩
              exact ⟨.int (bs.countP (· == b) : Nat), H, I.tok _, ⟨_, by rw [show its.toArray.toList = its from rfl, count_vals rv]⟩, g.ok (.refl t) (.int _)⟩
          · exact g.none.elim
        · exact g.none.elim
  · exact g.none.elim⟩
end
end Ev
end
section
set_option Elab.async false
set_option linter.all false
set_option maxRecDepth 100000
namespace Ev
open PySem L2
open PyProof.Rows hiding St
variable [Tabs] [Clos]
section
variable {X : Cx} {cl : Cls} {E : XK}
def isxD (ea : Addr) (ans : Addr → Option Bool) : OpN
  | [.kc a, .kc c], S => if a = ea then match ans c with
      | some b => some (.ok (.bl b), S)
      | none => none
    else none
  | [.kc a, .ty T], S => if a = ea ∧ T = "ValueError" then some (.ok (.bl true), S) else none
  | _, _ => none
theorem cl_isx {ea C : Addr} {ob : Obj} {ans : Addr → Option Bool} (hp : (ea, ob) ∈ X.pn) (hc : ob.cls = .ref C) (F : ExcK X.K C) (ha : ∀ c b, ans c = some b → PySem.W.kitOne X.K (.ref C) (.ref c) = some b) (hv : PySem.W.kitOne X.K (.ref C) (.type "ValueError") = some true) : ClD X (.builtin "isinstance") (isxD ea ans) := ⟨fun cl E pins s σ H vs us Q I r ⟨p, S, ds, t, rl, g⟩ => by
  have hob : s.heap.get? ea = some ob := (I.pin (ea, ob) (List.mem_append_left _ hp)).1
  unfold isxD at g
  split at g
  · rename_i a c
    split at g
    · rename_i hz
      subst hz
      cases hb : ans c with
      | none => rw [hb] at g; exact g.none.elim
      | some b =>
        rw [hb] at g
        cases rl with
        | cons r1 rr =>
          cases rr with
          | cons r2 rr =>
            cases rr
            cases r1
            cases r2
            cases r with
            | cons u1 ur =>
              cases ur with
              | cons u2 ur =>
                cases ur
                cases u1
                cases u2
                exact PySem.W.kia_one (kitx_exc F) I.kIn ⟨ob, hob, hc⟩ (ha c b hb) (fun z => nomatch z) fun tk => ⟨.bl b, H, I.tok tk, rfl, g.ok (.refl t) (.bl _)⟩
    · exact g.none.elim
  · rename_i a T
    split at g
    · rename_i hz
      obtain ⟨rfl, rfl⟩ := hz
      cases rl with
      | cons r1 rr =>
        cases rr with
        | cons r2 rr =>
          cases rr
          cases r1
          cases r2
          cases r with
          | cons u1 ur =>
            cases ur with
            | cons u2 ur =>
              cases ur
              cases u1
              cases u2
              exact PySem.W.kia_one (kitx_exc F) I.kIn ⟨ob, hob, hc⟩ hv (fun z => nomatch z) fun tk => ⟨.bl true, H, I.tok tk, rfl, g.ok (.refl t) (.bl _)⟩
    · exact g.none.elim
  · exact g.none.elim⟩

theorem ev_cls {x : Str} {C : Addr} {pos : Pos} (hg : Gl X x) (hm : X.mg x = some (.ref C)) (hd : (x == ("__debug__" : Str)) = false) : EvE X cl E (.Name x pos) (cst (.kc C)) := ev_glob (v := .ref C) hg hm rfl (fun _ _ => .kc C) hd
end
theorem reps_ints {K : PySem.W.Frag} {H : Hp} {p : List Addr} : ∀ ns : List Int, RepL K H p (ns.map D.int) (ns.map V.int)
  | [] => .nil
  | n :: ns => .cons (.int n) (reps_ints ns)
theorem law_callT {P : Program} {w : World} {K : PySem.W.Frag} {mg mb : Str → Option Value} {k : Nat} {fa a : Addr} {fd : FuncData} {x : Str} {s1 : Shared} {vs : List Value} {ns : List Int} {cl : Cls} {Fl : Fn} {S' : Sto} {ts : List Addr}
    (KX : K.In s1.heap) (hns : s1.heap.Ns mainGlobals mg) (hb : s1.heap.Ns builtinsNs mb) (hbb : ∀ x : Str, x ≠ "__name__" → mb x = bootBuiltins x) (hlim : s1.heap.NoLimit) (hg : s1.gens = #[]) (hbm : BMod s1.heap mg)
    (ha : s1.heap.get? a = some { cls := .type "list", data := .seq vs.toArray }) (hi : IntsAre vs ns) (hl : ns.length ≤ 1000) (hr : Room k callerA)
    (hts : ∀ q ∈ ts, s1.heap.get? q = some (PySem.W.tabObj #[])) (hct : ∀ q ∈ ts, isCodeTable s1.heap q) (hKt : ∀ q ∈ ts, K.lookup q = none) (htl : ∀ q ∈ Tabs.tl, q.1 ∈ ts)
    (F : ∀ base : Heap, K.In base → base.Ns mainGlobals mg → BMod base mg → FnOk P w K mg base (CXR P w) k fa fd [x] (spOf K cl 1 Fl)) (hbind : ∀ (s : Shared) (u : Value), BindsTo s fd ⟨[u], []⟩ [(x, u)])
    (hF : Fl [.fl (ns.map D.int)] [] = some (.ok (.bl true), S')) :
    codeAny (model P w) callerA (.call (.ref fa) ⟨[.ref a], []⟩) (fun r s' => r = .ok (.ret (.bool true)) ∧ OldK s1.heap s'.heap ∧ s'.os = s1.os ∧ AllBare s'.gens) s1 := by
  have rv := vals_ints hi
  have lenV := hi.length
  have hls : ns.length ≤ sizeLine := szL (Nat.le_trans hl (by decide))
  have hat : a ∉ ts := fun z => by
    have := hts a z
    rw [ha] at this; cases this
  have core : ∀ H : Hp, (∀ b, b ∉ ts → b ≠ a → H b = none) → (∀ b ∈ ts, H b = some (.tbl #[])) → (H a = none ∨ H a = some (.frz { cls := .type "list", data := .seq vs.toArray } (.lst (ns.map V.int)))) → FzL K H a (ns.map V.int) → (H a ≠ none → K.lookup a = none) →
      codeAny (model P w) callerA (.call (.ref fa) ⟨[.ref a], []⟩) (fun r s' => r = .ok (.ret (.bool true)) ∧ OldK s1.heap s'.heap ∧ s'.os = s1.os ∧ AllBare s'.gens) s1 := by
    intro H h0 hT hA hS hK
    have hok : HOk P w H s1.heap := fun b u e => by
      by_cases hbt : b ∈ ts
      · rw [hT b hbt] at e
        cases e
        exact hts b hbt
      · by_cases hba : b = a
        · subst hba
          rcases hA with z | z
          · rw [z] at e; cases e
          · rw [z] at e
            cases e
            exact ⟨ha, by rw [List.length_map]; exact hls, vs, _, rv, ha⟩
        · rw [h0 b hbt hba] at e; cases e
    have noD : ∀ {b : Addr} {o : Obj}, s1.heap.get? b = some o → (∀ fs, o.data ≠ .fields fs) → (∀ q n, o.data ≠ .seq q n) → H b = none := fun {b o} e n1 n2 => by
      by_cases hbt : b ∈ ts
      · have := hts b hbt
        rw [e] at this; cases this
        exact absurd rfl (n1 _)
      · by_cases hba : b = a
        · subst hba
          rw [ha] at e; cases e
          exact absurd rfl (n2 _ _)
        · exact h0 b hbt hba
    have nsK : ∀ {b : Addr} {m : Str → Option Value}, s1.heap.Ns b m → (hidT s1.heap H).Ns b m := fun {b m} ⟨o, es, ep, e, d, r⟩ => ⟨o, es, ep, hidT_get e (noD e (fun _ z => by rw [d] at z; cases z) fun _ _ z => by rw [d] at z; cases z), d, r⟩
    have hKb : K.In (hidT s1.heap H) := fun b o e => hidT_get (KX b o e) (by
      by_cases hbt : b ∈ ts
      · rw [hKt b hbt] at e; cases e
      · by_cases hba : b = a
        · subst hba
          rcases hA with z | z
          · exact z
          · rw [hK (by rw [z]; simp)] at e; cases e
        · exact h0 b hbt hba)
    have hM : Mod K mg (hidT s1.heap H) := ⟨hKb, nsK hns, ⟨mb, nsK hb, hbb⟩, let ⟨mc, h1, h2⟩ := hlim; ⟨mc, nsK h1, h2⟩⟩
    have hbm' : BMod (hidT s1.heap H) mg := by
      obtain ⟨bm, o, b1, b2, b3, b4, b5, b6, b7⟩ := hbm
      exact ⟨bm, o, b1, b2, b3, hidT_get b4 (noD b4 (fun _ z => by rw [b7] at z; cases z) fun _ _ z => by rw [b7] at z; cases z), b5, b6, b7⟩
    have e0 : Env0 P w K mg (hidT s1.heap H) callerA [] s1 H := ⟨rfl, hM, fun b o e => of_hidT e, Nat.le_of_eq (hidT_size _ _), trivial, fun b hb => absurd (show b ∈ ([] : List Addr) from hb) (by simp), hok, .of_eq hg⟩
    have tab : TabOk H := fun q hq => ⟨#[], hT _ (htl q hq), trivial, fun pos cv e => by cases e⟩
    have hsp : spOf K cl 1 Fl [.ref a] H (fun v _ => v = .bl true) XF := ⟨[], [], [.fl (ns.map D.int)], ⟨tab, rfl, List.nodup_nil, fun n b c e => by cases e⟩, .cons (.fl hS (reps_ints ns)) .nil, rfl, _, _, hF, fun b H' p' q r => by cases r; rfl⟩
    refine codeAny_mono ((F _ hKb (nsK hns) hbm').run callerA [] s1 H ⟨[.ref a], []⟩ [.ref a] [.ref a] _ _ hr e0 (hbind s1 (.ref a)) (.cons rfl .nil) hsp) fun r s' h => ?_
    cases r with
    | error e => exact (CXR.no h).elim
    | ok fl =>
      cases fl with
      | next => exact False.elim h
      | brk => exact False.elim h
      | cont => exact False.elim h
      | ret u =>
        obtain ⟨v, H', os, bare, un, hok', r', q⟩ := h
        have q' : v = .bl true := q
        subst q'
        obtain rfl : u = Value.bool true := r'
        refine ⟨rfl, ⟨fun b o e => ?_, fun b o e => ?_⟩, os, bare⟩
        · by_cases hbt : b ∈ ts
          · obtain ⟨more, z⟩ := un.tbls b _ (hT b hbt)
            have z2 : s'.heap.get? b = some (PySem.W.tabObj (#[] ++ more)) := hok' b _ z
            have := hts b hbt
            rw [e] at this
            cases this
            exact .inr (.inl ⟨hct b hbt, rfl, #[], more, rfl, z2⟩)
          · by_cases hba : b = a
            · subst hba
              rcases hA with z | z
              · exact .inl (un.keep b o e z (by intro w; exact absurd (show b ∈ ([] : List Addr) from w) (by simp)) (by simp))
              · have z2 := un.frzs b _ _ z
                obtain ⟨e2, _⟩ := hok' b _ z2
                rw [ha] at e
                cases e
                exact .inl e2
            · exact .inl (un.keep b o e (h0 b hbt hba) (by intro w; exact absurd (show b ∈ ([] : List Addr) from w) (by simp)) (by simp))
        · exact un.there b o e (by simp)
  cases hk : K.lookup a with
  | some o =>
    have e := KX a o hk
    rw [ha] at e
    cases e
    refine core (fun b => if b ∈ ts then some (.tbl #[]) else none) (fun b h1 _ => if_neg h1) (fun b hb => if_pos hb) (.inl (if_neg hat)) (.inr (.inr ⟨_, vs.toArray, _, hk, rfl, rfl, rfl, by rw [List.size_toArray, lenV]; exact hls, by simpa using rv⟩)) fun z => absurd (if_neg hat) z
  | none =>
    refine core (fun b => if b = a then some (.frz { cls := .type "list", data := .seq vs.toArray } (.lst (ns.map V.int))) else if b ∈ ts then some (.tbl #[]) else none) (fun b h1 h2 => by rw [if_neg h2, if_neg h1]) (fun b hb => ?_) (.inr (if_pos rfl)) (.inl ⟨_, if_pos rfl⟩) fun _ => hk
    rw [if_neg (show ¬ b = a from fun z => hat (z ▸ hb)), if_pos hb]
end Ev
end
section
set_option Elab.async false
set_option linter.all false
set_option maxRecDepth 100000
namespace Ev
open PySem L2
open PyProof.Rows hiding St
variable [Tabs] [Clos]
section
variable {X : Cx} {cl : Cls} {E : XK} {e a b : Expr} {fa fb : EM} {pos p1 : Pos}
def nox1 (f : SM) : SM := fun L S => noX (f L S)
theorem ev_nox1 {st : Stmt} {f : SM} (h : EvS X.nox cl XF st f) : EvS X cl E st (nox1 f) := ev_noxS h

def blkB (N : List Str) (sc scope : Scope) (own : List (Str × Nat)) : Bool :=
  (scope.kind == .function) && scope.names.all (fun y => scope.names.lookup y.1 == some y.2) && own.all (fun p => N[p.2]? == some p.1) &&
  scope.names.all (fun y => !(y.2 == .free) || (sc.names.lookup y.1 == some .cell || sc.names.lookup y.1 == some .free)) &&
  scope.names.all (fun y => !(y.2 == .local || y.2 == .cell) || ((own.map (·.1)).contains y.1 || !N.contains y.1))
theorem blk_of {N : List Str} {sc scope : Scope} {own : List (Str × Nat)} (h : blkB N sc scope own = true) : BlkOk N sc scope own := by
  simp only [blkB, Bool.and_eq_true, List.all_eq_true] at h
  obtain ⟨⟨⟨⟨h1, h2⟩, h3⟩, h4⟩, h5⟩ := h
  refine ⟨?_, fun y hy => ?_, fun p hp => ?_, fun y hy hk => ?_, fun y hy hk => ?_⟩
  · exact eq_of_beq h1
  · exact eq_of_beq (h2 y hy)
  · exact eq_of_beq (h3 p hp)
  · have := h4 y hy
    rw [hk] at this
    simp only [Bool.or_eq_true] at this
    rcases this with z | z | z
    · cases z
    · exact .inl (eq_of_beq z)
    · exact .inr (eq_of_beq z)
  · have := h5 y hy
    rw [show ((y.2 == .local || y.2 == .cell) = true) from by rcases hk with z | z <;> rw [z] <;> rfl] at this
    simp only [Bool.or_eq_true] at this
    rcases this with z | z | z
    · cases z
    · exact .inl (List.contains_iff_mem.mp z)
    · exact .inr (fun w => by rw [List.contains_iff_mem.mpr w] at z; cases z)

def lamB (sc scope : Scope) : Bool :=
  (scope.kind == .function) && !scope.isCoroutine && !scope.isGenerator && scope.names.all (fun y => y.2 == .free || y.2 == .globalImplicit) &&
  scope.names.all (fun y => !(y.2 == .free) || (sc.names.lookup y.1 == some .cell || sc.names.lookup y.1 == some .free))
theorem lam_of {X : Cx} {scope : Scope} (h : lamB X.env.scope scope = true) : LamScope X scope := by
  simp only [lamB, Bool.and_eq_true, List.all_eq_true, Bool.not_eq_true'] at h
  obtain ⟨⟨⟨⟨h1, h2⟩, h3⟩, h4⟩, h5⟩ := h
  refine ⟨eq_of_beq h1, h2, h3, fun y hy => ?_, fun y hy hk => ?_⟩
  · have := h4 y hy
    simp only [Bool.or_eq_true] at this
    rcases this with z | z
    · exact .inl (eq_of_beq z)
    · exact .inr (eq_of_beq z)
  · have := h5 y hy
    rw [hk] at this
    simp only [Bool.or_eq_true] at this
    rcases this with z | z | z
    · cases z
    · exact .inl (eq_of_beq z)
    · exact .inr (eq_of_beq z)
end
end Ev
end
section
set_option Elab.async false
set_option linter.all false
set_option maxRecDepth 100000
namespace Ev
open PySem L2
open PyProof.Rows hiding St
variable [Tabs] [Clos]
section
variable {X : Cx} {cl : Cls} {E : XK} {e a b : Expr} {fa fb : EM} {pos p1 : Pos}
end
end Ev
end
section
set_option Elab.async false
set_option linter.all false
set_option maxRecDepth 100000
namespace Ev
open PySem L2
open PyProof.Rows hiding St
variable [Tabs] [Clos]
section
variable {P : Program} {w : World} {K : PySem.W.Frag} {mg : Str → Option Value} {base : Heap} {cl : Cls}
structure DefAt (K : PySem.W.Frag) (mg : Str → Option Value) (x : Str) (st : Stmt) (ps : List Str) : Prop where
  ex : ∃ f fd, Fun K x x st f fd ∧ mg x = some (.ref f) ∧ Binds K fd ps []
structure DefAtC (K : PySem.W.Frag) (mg : Str → Option Value) (x : Str) (st : Stmt) (ps : List Str) (c : Addr) : Prop where
  ex : ∃ f fd, Fun K x x st f fd ∧ mg x = some (.ref f) ∧ Binds K fd ps [] ∧ fd.code = .ref c
structure Cal (P : Program) (w : World) (K : PySem.W.Frag) (mg : Str → Option Value) (base : Heap) (cl : Cls) (x : Str) (k n : Nat) (F : Fn) : Prop where
  ex : ∃ f fd ps, FnOk P w K mg base (CXR P w) k f fd ps (spOf K cl n F) ∧ mg x = some (.ref f) ∧ PySem.W.keepIn K (.ref f) = true ∧ Binds K fd ps []
theorem def_mk {h : Heap} {x : Str} {st : Stmt} {ps : List Str} {f : Addr} {oc : Value} {od an : Option Addr} {osl : Array (Option Value)} {kV doc pm cdv ct : Value} (X : K.In h) (G : h.Ns mainGlobals mg) (e : PySem.W.nsIn K mainGlobals x = some (some (.ref f))) (l : K.lookup f = some ⟨oc, od, .func (PySem.W.fnOf x x (defArgs st) (defBody st) (defScope st) .none kV doc pm an cdv ct), osl⟩)
    (c : PySem.W.codeIn K cdv x = true) (k : PySem.W.keepIn K (.ref f) = true) (b : ∀ (kV doc pm : Value) (an : Option Addr) (cdv ct : Value) (us : List Value), us.length = ps.length → bindArgs (PySem.W.fnOf x x (defArgs st) (defBody st) (defScope st) .none kV doc pm an cdv ct) ⟨us, []⟩ = pure (ps.zip us)) : DefAt K mg x st ps :=
  ⟨f, _, fun_mk l c k, PySem.W.mg_of X G e, (fun_mk l c k).binds b⟩
theorem defC_mk {h : Heap} {x : Str} {st : Stmt} {ps : List Str} {f c0 : Addr} {oc : Value} {od an : Option Addr} {osl : Array (Option Value)} {kV doc pm ct : Value} (X : K.In h) (G : h.Ns mainGlobals mg) (e : PySem.W.nsIn K mainGlobals x = some (some (.ref f))) (l : K.lookup f = some ⟨oc, od, .func (PySem.W.fnOf x x (defArgs st) (defBody st) (defScope st) .none kV doc pm an (.ref c0) ct), osl⟩)
    (c : PySem.W.codeIn K (.ref c0) x = true) (k : PySem.W.keepIn K (.ref f) = true) (b : ∀ (kV doc pm : Value) (an : Option Addr) (cdv ct : Value) (us : List Value), us.length = ps.length → bindArgs (PySem.W.fnOf x x (defArgs st) (defBody st) (defScope st) .none kV doc pm an cdv ct) ⟨us, []⟩ = pure (ps.zip us)) : DefAtC K mg x st ps c0 :=
  ⟨f, _, fun_mk l c k, PySem.W.mg_of X G e, (fun_mk l c k).binds b, rfl⟩
theorem law_mk {h : Heap} {x y : Str} {st : Stmt} {f fa : Addr} {oc : Value} {od an : Option Addr} {osl : Array (Option Value)} {kV doc pm cdv ct : Value} (X : K.In h) (G : h.Ns mainGlobals mg) (hfa : mg x = some (.ref fa)) (e : PySem.W.nsIn K mainGlobals x = some (some (.ref f))) (l : K.lookup f = some ⟨oc, od, .func (PySem.W.fnOf x x (defArgs st) (defBody st) (defScope st) .none kV doc pm an cdv ct), osl⟩)
    (c : PySem.W.codeIn K cdv x = true) (k : PySem.W.keepIn K (.ref f) = true) (b : ∀ (kV doc pm : Value) (an : Option Addr) (cdv ct : Value) (u : Value), bindArgs (PySem.W.fnOf x x (defArgs st) (defBody st) (defScope st) .none kV doc pm an cdv ct) ⟨[u], []⟩ = pure [(y, u)]) : ∃ fd, Fun K x x st fa fd ∧ ∀ (s : Shared) (u : Value), BindsTo s fd ⟨[u], []⟩ [(y, u)] := by
  have e := hfa.symm.trans (PySem.W.mg_of X G e)
  cases e
  exact ⟨_, fun_mk l c k, fun s u => .of_eq (b _ _ _ _ _ _ u)⟩
theorem def_ok {x : Str} {st : Stmt} {N ps : List Str} {k n : Nat} {fb : SM} (D : DefAt K mg x st ps) (S : FnScope N ps (defScope st)) (hn : ps.length = n)
    (hbody : ∀ (f : Addr) (cdv : Value) (A : Around) (outer : List Env) (s : Shared) (H : Hp) (E : XK), Room k (A.deeper (envOfC x (defScope st) s.heap.objs.size f cdv)) → EvB (cxOf (CXR P w) P w K mg base N x (defScope st) f cdv A outer s H E) cl E (defBody st) fb) :
    Cal P w K mg base cl x (k + 1) n (runF N.length fb) := by
  obtain ⟨f, fd, F, hm, hb⟩ := D.ex
  exact ⟨f, fd, ps, fun_ok F S hn fun cdv A outer s H E hr => hbody f cdv A outer s H E hr, hm, F.kp, hb⟩
end
section
variable {X : Cx} {cl : Cls} {E : XK} {e : Expr} {es : List Expr} {p1 pos : Pos} {x : Str}
theorem ev_callC {k n : Nat} {F : Fn} {fa : AM} (G0 : Cal X.prog X.w X.K X.mg X.base cl x k n F) (hr : Room k X.A) (hg : Gl X x) (hx : Thr X E)
    (hn : (e :: es).length = n) (ha : EvA X cl E (e :: es) fa) (hdb : (x == ("__debug__" : Str)) = false) (he : starEach (e :: es) X.env = (false, eval e X.env) :: starEach es X.env) (hpl : (backTo pos (starEach es X.env)).any (·.1) = false) (hl : ∀ L S ds S1, fa L S = some (.ok ds, S1) → ds.length = n) :
    EvE X cl E (.Call (.Name x p1) (e :: es) [] pos) (callE F fa) := by
  obtain ⟨f, fd, ps, h1, h2, h3, h4⟩ := G0.ex
  exact ev_call h1 hr hg h2 h3 h4 hx hn ha hdb he hpl hl
structure ExAt (K : PySem.W.Frag) (mg : Str → Option Value) (cl : Cls) (x : Str) (n : Nat) (C : Addr) : Prop where
  mg : mg x = some (.ref C)
  ex : PySem.W.excIn K C bmVE "ValueError.__new__" = true
  cl : cl n = .ref C
structure CstAt (mg : Str → Option Value) (x : Str) (v : V) : Prop where
  ex : ∃ u, mg x = some u ∧ RelV v u
theorem ev_globI {i : Int} (h : CstAt X.mg x (.int i)) (hg : Gl X x) (hd : (x == ("__debug__" : Str)) = false) : EvE X cl E (.Name x pos) (cst (.int i)) := by
  obtain ⟨u, h1, h2⟩ := h.ex
  exact ev_glob hg h1 h2 (fun _ _ => .int i) hd
theorem gl_of (h : X.env.kindOf x = some .globalImplicit) : Gl X x := h
def noneS : SM := fun _ _ => none
theorem ev_never {sts : List Stmt} : EvB X cl E sts noneS := ⟨fun pins s σ H N I ⟨p, L, S, l, t, g⟩ => g.none.elim⟩
end
end Ev
end
section
set_option Elab.async false
set_option linter.all false
set_option maxRecDepth 100000
namespace Ev
open PySem L2
open PyProof.Rows hiding St
open PySem.W (KasT kas_sort kas_asc kas_desc kas_tail3 kas_descPart kas_count kas_place kas_bin kas_rev kas_ask)
def runK {α : Type} (c : Nat → Nat → Bool) : KasT α → α
  | .ret a => a
  | .ask i j k => runK c (k (c i j))
def Asks {α : Type} (n : Nat) (post : α → Prop) : KasT α → Prop
  | .ret a => post a
  | .ask i j k => i < n ∧ j < n ∧ ∀ b, Asks n post (k b)
theorem Asks.bind {α β : Type} {n : Nat} {post : α → Prop} {post' : β → Prop} {f : α → KasT β} (hf : ∀ a, post a → Asks n post' (f a)) : ∀ t : KasT α, Asks n post t → Asks n post' (t.bind f)
  | .ret a, h => hf a h
  | .ask i j k, ⟨h1, h2, h3⟩ => ⟨h1, h2, fun b => Asks.bind hf (k b) (h3 b)⟩
theorem Asks.mono {α : Type} {n : Nat} {post post' : α → Prop} (hf : ∀ a, post a → post' a) : ∀ t : KasT α, Asks n post t → Asks n post' t
  | .ret a, h => hf a h
  | .ask i j k, ⟨h1, h2, h3⟩ => ⟨h1, h2, fun b => Asks.mono hf (k b) (h3 b)⟩
theorem Asks.run {α : Type} {n : Nat} {post : α → Prop} {c : Nat → Nat → Bool} : ∀ t : KasT α, Asks n post t → post (runK c t)
  | .ret a, h => h
  | .ask i j k, ⟨_, _, h3⟩ => Asks.run (k (c i j)) (h3 (c i j))
def Good (n : Nat) (p : Array Nat) : Prop := p.toList.Perm (List.range n)
theorem Good.lt {n : Nat} {p : Array Nat} (hn : 0 < n) (h : Good n p) (i : Nat) : p.getD i 0 < n := by
  by_cases hi : i < p.size
  · have : p[i] ∈ List.range n := h.mem_iff.mp (by simp)
    rw [show p.getD i 0 = p[i] by simp [Array.getD, hi]]
    exact List.mem_range.mp this
  · rw [show p.getD i 0 = 0 by simp [Array.getD, hi]]
    exact hn
theorem Good.of {n : Nat} {p q : Array Nat} (h : Good n p) (e : q.Perm p) : Good n q := (Array.perm_iff_toList_perm.mp e).trans h
def ordK (n : Nat) (c : Nat → Nat → Bool) : List Nat := (runK c (kas_sort n)).toList
section
variable {prog : Program} {w : World} {A : Around} {E : Value → Shared → Prop} {s : Shared}
end
end Ev
end
section
set_option Elab.async false
set_option linter.all false
set_option maxRecDepth 100000
namespace Ev
open PySem L2
open PyProof.Rows hiding St
open PySem.W (KasT kas_sort KatLex KatGo KatTups)
section
variable {prog : Program} {w : World} {A : Around} {E : Value → Shared → Prop} {s : Shared}
def lexR (fin : Bool) : List Int → List Int → Bool
  | x :: xs, y :: ys => if x = y then lexR fin xs ys else decide (x < y)
  | _, _ => fin
def lexT (xs ys : List Int) : Bool := lexR (decide (xs.length < ys.length)) xs ys
end
end Ev
end
section
set_option Elab.async false
set_option linter.all false
set_option maxRecDepth 100000
namespace Ev
open PySem L2
open PyProof.Rows hiding St
variable [Tabs] [Clos]
section
variable {X : Cx} {cl : Cls} {E : XK}
end
end Ev
end
section
set_option Elab.async false
set_option linter.all false
set_option maxRecDepth 100000
set_option maxHeartbeats 1000000
namespace Ev
open PySem L2
open PyProof.Rows hiding St
section
variable [Tabs] [Clos]
variable {X : Cx} {cl : Cls} {E : XK}
def cloE (k : Nat) : EM := fun _ S => some (.ok (.ref S.length), S ++ [.clo k])
theorem ev_lam {params : Arguments} {body : Expr} {scope : Scope} {lpos : Pos} {c P : Addr} (k : Nat) (hB : BMod X.base X.mg) (hcode : X.env.code = .ref c) (hhd : PySem.W.codeHdIn X.K c P = true) (hT : (P, X.env.qual ++ "<lambda>") ∈ Tabs.tl) (hdef : defaultsOf params X.env = ([], [])) (L : LamScope X scope)
    (hq : Clos.q k = X.env.qual ++ "<lambda>") (hclo : ∀ c ctv, Clos.clo k c (lamObj X params body scope c ctv)) : EvE X cl E (.Lambda params body scope lpos) (cloE k) :=
  ⟨fun pins s σ H Q I ⟨p, Lo, S, l, t, g⟩ => lam_eval I t hB hcode hhd hT hdef L.free fun a H1 s1 LA => by
    obtain ⟨I1, ⟨c', ctv, ho, hrec, h1, h2⟩, post1, hf⟩ := LA
    refine ⟨.ref a, H1, I1, rfl, ?_⟩
    have na : a ∉ p := t.fresh hf
    have t1 := post1.sto
    refine g.ok ⟨post1.ext, ⟨[a], rfl⟩, fun x hx => (List.mem_append.mp hx).imp id fun z => by rw [List.mem_singleton.mp z]; exact hf, ⟨t1.tab, by simp [t1.len], ?_, fun n b cc e1 e2 => ?_⟩⟩ (.ref (by rw [← t1.len]; simp))
    · rw [List.nodup_append]
      exact ⟨t1.nd, by simp, fun x hx y hy => by
        have : y = a := by simpa using hy
        subst this
        exact fun z => na (z ▸ hx)⟩
    · by_cases hn : n < p.length
      · rw [List.getElem?_append_left hn] at e1
        rw [List.getElem?_append_left (by rw [← t1.len]; exact hn)] at e2
        exact (t1.cell n b cc e1 e2).stay (.refl _) ⟨_, rfl⟩ rfl
      · have hn' : n = p.length := by
          have := (List.getElem?_eq_some_iff.mp e1).1
          simp at this; omega
        subst hn'
        rw [List.getElem?_append_right (Nat.le_refl _)] at e1
        rw [t1.len, List.getElem?_append_right (Nat.le_refl _)] at e2
        simp at e1 e2
        subst e1 e2
        exact ⟨_, c', h1, by rw [hq]; exact h2, hclo _ _⟩⟩
theorem ev_lcw {tg elt iter : Expr} {ifs : List Expr} {scope : Scope} {own : List (Str × Nat)} {fi : IM} {gm : GM} {tt : TM} {fe : EM} {vs : List Nat} {pos : Pos} (hc : X.calm = true) (hN : X.N.Nodup) (hi : EvI X cl E tg iter fi) (ok : BlkOk X.N X.env.scope scope own) (hv : own.map (·.2) = vs)
    (hg : ∀ (s : Shared) (H : Hp) (C : Addr) (c : List (Str × Addr)) (fp : List Addr), EvGw (X.blk s H scope (compEnvC scope c C X.env) fp) cl XF vs tg gm)
    (ht : ∀ (s : Shared) (H : Hp) (C : Addr) (c : List (Str × Addr)) (fp : List Addr), EvTs (X.blk s H scope (compEnvC scope c C X.env) fp) cl XF ifs tt)
    (he : ∀ (s : Shared) (H : Hp) (C : Addr) (c : List (Str × Addr)) (fp : List Addr) (pins0 : List (Addr × Obj)) (σ0 : L2.St), Inv X pins0 σ0 H s → (∀ b ∈ fp, ∀ x c, X.env.cells.lookup x = some c → c ≠ b) → PEw (X.blk s H scope (compEnvC scope c C X.env) fp) vs (wipe σ0 vs) elt (tr X.K cl XF fe)) (hs : ∀ x, foldedSetIterable iter X.env x = pure x) :
    EvE X cl E (.ListComp elt [⟨tg, iter, ifs, 0⟩] scope pos) (cmpE fi vs gm tt fe) := by
  subst hv
  exact ⟨PEm (pe_lc hc hN hi.h ok (fun s H C c fp => (hg s H C c fp).h) (fun s H C c fp => (ht s H C c fp).h) he hs) fun _ _ _ h => cmp_to h⟩

def saidX (word : Nat → Option Str) (junk : Nat → List Cell) (fbs : Nat → Option EM) (iv : Nat) : EM := fun L S => match L[iv]? with
  | some (some (.ref m)) => match S[m]? with
    | some (.clo k) => match fbs k with
      | some fb => saidE word junk fb L S
      | none => none
    | _ => none
  | _ => none
theorem ev_saidX {st : Stmt} {fs : Addr} {fd : FuncData} {pr : Nat → Arguments} {bd : Nat → Expr} {sc : Nat → Scope} {np pos py np1 np2 np3 np4 p1 p2 p3 tpos : Pos} {suite ret : List Stmt} {s0 : Stmt} {CS : Addr} {fbs : Nat → Option EM} {fS : Addr → Nat → SM} {word : Nat → Option Str} {junk : Nat → List Cell} {k iv : Nat} {y : Str} {vs : List Nat}
    (F : Fun X.K "_law_said" "_law_said" st fs fd) (T : SaidT st np1 np2 np3 np4 p1 p2 p3 tpos suite s0 ret) (S2 : FnScope saidN ["_law_call"] (defScope st)) (hr : Room (k + 2) X.A) (hm : X.mg "_law_said" = some (.ref fs)) (hbn : Binds X.K fd ["_law_call"] [])
    (hgS : (defScope st).names.lookup ("SightError" : Str) = some NameKind.globalImplicit) (hmS : X.mg "SightError" = some (.ref CS)) (hmatch : ∀ n x, word n = some x → PySem.W.exmOne X.K (cl n) (.ref CS) = some true)
    (hloc : ∀ x ∈ saidN, (defScope st).names.lookup x = some NameKind.local)
    (hsw : ∀ env, swapsWith (.Call (.Name "_law_call" np2) [] [] np3) (some (.Name "_law_found" np1)) p1.line env = pure false)
    (hret : ∀ (cd2 : Value) (s1 : Shared) (H1 : Hp) (E2 : XK), EvB (saidCx X saidN "_law_said" (defScope st) fs cd2 s1 H1 E2).nox cl XF ret (retS (tupE (consA (cst (.str "told")) (consA (vr 1) nilA)))))
    (hsuite : ∀ (cd2 : Value) (s1 : Shared) (H1 : Hp) (E2 : XK) (ea : Addr) (ob : Obj) (n : Nat) (x : Str), word n = some x → ob.cls = cl n → EvB (hanCx (saidCx X saidN "_law_said" (defScope st) fs cd2 s1 H1 E2) ea [(ea, ob)]) cl XF (s0 :: suite) (fS ea n))
    (hword : ∀ (a ea : Addr) (n : Nat) (x : Str) (S : Sto), word n = some x → fS ea n [some (.kc a), none, some (.kc ea), none, none] S = some (.ok (.rt (.str x)), S ++ junk n))
    (hclo : ∀ k c o, Clos.clo k c o → ∃ ctv, o = lamObj X (pr k) (bd k) (sc k) c ctv) (hq : ∀ k, Clos.q k = X.env.qual ++ "<lambda>")
    (hL : ∀ k fb, fbs k = some fb → LamScope X (sc k)) (hbind : ∀ k fb, fbs k = some fb → ∀ cs pm cdv ct, bindArgs (PySem.W.kla_fn "<lambda>" (X.env.qual ++ "<lambda>") (pr k) (bd k) (sc k) cs pm cdv ct) ⟨[], []⟩ = pure [])
    (hdis : ∀ k fb, fbs k = some fb → ∀ i ∈ vs, ∀ x, X.N[i]? = some x → (sc k).names.lookup x ≠ some .free)
    (hb : ∀ k fb, fbs k = some fb → ∀ (cd2 : Value) (s1 s2 : Shared) (H1 : Hp) (E2 E3 : XK) (a c' : Addr), EvE (lamCx (saidCx X saidN "_law_said" (defScope st) fs cd2 s1 H1 E2) X.N (X.env.qual ++ "<lambda>") (sc k) a c' (cloFrom X.env.cells (sc k).names []) s2 H1 E3) cl E3 (bd k) fb)
    (hfn : ∀ x, X.fn x = true) (hy : X.N[iv]? = some y) (hdb : (y == ("__debug__" : Str)) = false) (hcd : (y == ("__classdict__" : Str)) = false)
    {bsc : Scope} (hg : (relabel bsc X.env).names.lookup ("_law_said" : Str) = some .globalImplicit) (hvis : Vis (relabel bsc X.env) y) (hs : ∀ env, starEach [Expr.Name y py] env = [(false, eval (.Name y py) env)]) :
    ∀ (s : Shared) (H : Hp) (C : Addr) (c : List (Str × Addr)) (fp : List Addr) (pins0 : List (Addr × Obj)) (σ0 : L2.St), Inv X pins0 σ0 H s → (∀ b ∈ fp, ∀ x c, X.env.cells.lookup x = some c → c ≠ b) → PEw (X.blk s H bsc (compEnvC bsc c C X.env) fp) vs (wipe σ0 vs) (.Call (.Name "_law_said" np) [.Name y py] [] pos) (tr X.K cl XF (saidX word junk fbs iv)) := by
  obtain ⟨oc, od, kV, doc, pm, an, cd2, ct, osl, rfl, lk, hcd'⟩ := F.ex
  have hkp := F.kp
  intro sB HB CB cB fp pins0 σ0 I0 hfp pins s σ H Q IB hw ⟨p, Lo, S, l, t, g⟩
  unfold saidX at g
  split at g
  · rename_i m hm1
    split at g
    · rename_i kk hS
      split at g
      · rename_i fb hfb
        obtain ⟨v, hσ, rv⟩ := l.get iv _ hm1
        cases rv with
        | @ref _ a hp =>
          obtain ⟨o, c', h1, h2, h3⟩ := t.cell m a _ hp hS
          obtain ⟨ctv, rfl⟩ := hclo kk c' o h3
          refine wpAny_Call_Name_kw (ld_glob IB hg hm ?_ (by decide))
          refine PySem.W.callWith_K (h₀ := X.base) IB.ok.mod.kin hkp ?_ (by rw [hs]; rfl) rfl
          rw [hs]
          show wpAny _ _ (spliced ((false, eval (.Name y py) _) :: [])) _ _ _
          refine Calls.spliced_cons (thn (pe_var (X := X.blk sB HB bsc (compEnvC bsc cB CB X.env) fp) (i := iv) hy hvis hdb hcd pins s σ H (fun v' H' => v' = V.ref a ∧ H' = H) IB ⟨_, hσ, rfl, rfl⟩) fun u s1 ⟨v', H', I1, r1, e1, e2⟩ => Calls.spliced_nil ⟨I1.kIn, ?_⟩)
          subst e1 e2
          obtain rfl : u = Value.ref a := r1
          have ho : s1.heap.get? a = some (lamObj X (pr kk) (bd kk) (sc kk) c' ctv) := (I1.hok a _ h1).1
          have hrec : s1.heap.CodeRec (.ref c') (X.env.qual ++ "<lambda>") := by
            have := (I1.hok c' _ h2).1
            rw [hq] at this
            exact this
          exact said_core (X := X) (E := XF) (k := k) lk hcd' T S2 hr hbn hgS hmS hmatch hloc (hL kk fb hfb) (hbind kk fb hfb) hsw (hb kk fb hfb) hret hsuite hword I1 (.of_blk I0 I1 (hL kk fb hfb) hfn hfp hw (hdis kk fb hfb)) ho hrec l t g
      · exact g.none.elim
    · exact g.none.elim
  · exact g.none.elim
end
def Cell.kill : Cell → Cell
  | .clo _ => .dead
  | c => c
def killS (S : Sto) : Sto := S.map Cell.kill
abbrev closOf (X : Cx) (pr : Nat → Arguments) (bd : Nat → Expr) (sc : Nat → Scope) : Clos := ⟨fun _ => X.env.qual ++ "<lambda>", fun k c o => ∃ ctv, o = lamObj X (pr k) (bd k) (sc k) c ctv⟩
section
variable [T : Tabs]
theorem sto_kill {I J : Clos} {K : PySem.W.Frag} {H : Hp} {p : List Addr} {S : Sto} (t : @StoOk T I K H p S) : @StoOk T J K H p (killS S) := by
  obtain ⟨tab, len, nd, cell⟩ := t
  refine ⟨tab, by unfold killS; rw [List.length_map]; exact len, nd, fun n a c e1 e2 => ?_⟩
  unfold killS at e2
  rw [List.getElem?_map] at e2
  cases e : S[n]? with
  | none => rw [e] at e2; cases e2
  | some c0 =>
    rw [e] at e2
    cases e2
    have z := cell n a c0 e1 e
    cases c0 with
    | lst ds => exact z
    | dk ds => exact z
    | dt ds => exact z
    | clo k => obtain ⟨o, c, h1, _⟩ := z; exact ⟨_, h1⟩
    | dead => exact z
    | dz ds => exact z
end
def lamIn : Stmt → Option Expr
  | .Assign _ (.List [e] _) _ => some e
  | .Expr (.Call _ [e] _ _) _ => some e
  | _ => none
def isLam : Expr → Bool
  | .Lambda _ _ _ _ => true
  | _ => false
def lamsOf (st : Stmt) : List Expr := ((defBody st).filterMap lamIn).filter isLam
def lamAt (st : Stmt) (k : Nat) : Expr := (lamsOf st).getD k (.Constant .none 0 ⟨0, 0, 0, 0⟩)
def lamP (st : Stmt) (k : Nat) : Arguments := match lamAt st k with
  | .Lambda p _ _ _ => p
  | _ => defArgs st
def lamBd (st : Stmt) (k : Nat) : Expr := match lamAt st k with
  | .Lambda _ b _ _ => b
  | e => e
def lamSc (st : Stmt) (k : Nat) : Scope := match lamAt st k with
  | .Lambda _ _ s _ => s
  | _ => defScope st
def disB (N : List Str) (vs : List Nat) (scope : Scope) : Bool := vs.all fun i => match N[i]? with
  | some x => !(scope.names.lookup x == some .free)
  | none => true
theorem dis_of {N : List Str} {vs : List Nat} {scope : Scope} (h : disB N vs scope = true) : ∀ i ∈ vs, ∀ x, N[i]? = some x → scope.names.lookup x ≠ some .free := fun i hi x hx z => by
  have := List.all_eq_true.mp h i hi
  simp only [hx, z] at this
  cases this
end Ev
end
section
set_option Elab.async false
set_option linter.all false
set_option maxRecDepth 100000
set_option maxHeartbeats 1000000
namespace Ev
open PySem L2
open PyProof.Rows hiding St
variable [Tabs] [Clos]
section
variable {X : Cx} {cl : Cls} {E : XK} {e a b : Expr} {fa fb : EM} {pos : Pos}
def fmtD : Op1
  | .int i, S => if -18446744073709551616 < i ∧ i < 18446744073709551616 then some (.ok (.str (toString i)), S) else none
  | _, _ => none
theorem log_abs {i : Int} (h : -18446744073709551616 < i ∧ i < 18446744073709551616) : i.natAbs.log2 < 1920 := by
  by_cases h0 : i.natAbs = 0
  · rw [h0]; decide
  · have h1 : i.natAbs < 2 ^ 64 := by
      have e : (2 : Nat) ^ 64 = 18446744073709551616 := by decide
      rw [e]; omega
    exact Nat.lt_of_lt_of_le ((Nat.log2_lt h0).mpr h1) (by decide)
theorem ev_fmt (h : EvE X cl E e fa) : EvE X cl E (.FormattedValue e (-1) none pos) (un1 fmtD fa) :=
  ⟨fun pins s σ H Q I w => FormattedValue_plain (thn (h.h pins s σ H _ I (un_to w)) fun u s1 ⟨v, H1, I1, r1, p, S, d, t, rd, g⟩ => by
    cases rd with
    | int i =>
      have g : G X.K cl E (Rep X.K) H1 p (if -18446744073709551616 < i ∧ i < 18446744073709551616 then some (.ok (.str (toString i)), S) else none) Q := g
      split at g
      · rename_i hz
        obtain ⟨t0, rfl⟩ := r1
        exact formatField_int_small (log_abs hz) ⟨.str (toString i), H1, I1.tok _, ⟨_, rfl⟩, g.ok (.refl t) (.str _)⟩
      · exact g.none.elim
    | _ => exact g.none.elim)⟩
abbrev JM := Str → Loc → Sto → O Str
def nilJ : JM := fun out _ S => some (.ok out, S)
def consJ (fa : EM) (f : JM) : JM := fun out L S => bnd (fa L S) fun d S1 => match d with
  | .str y => if (out ++ y).length ≤ 1000000 then f (out ++ y) L S1 else none
  | _ => none
def joinE (f : JM) : EM := fun L S => bnd (f Str.empty L S) fun x S1 => some (.ok (.str x), S1)
def RStr : Rp Str V := fun _ _ a b => b = .str a
structure EvJ (X : Cx) (cl : Cls) (E : XK) (es : List Expr) (f : JM) : Prop where
  h : ∀ (out : Str) (pins : List (Addr × Obj)) (s : Shared) (σ : L2.St) (H : Hp) (Q : VK), Inv X pins σ H s → out.length ≤ sizeLine → (∃ p L S, LocOk X.K H p L σ ∧ StoOk X.K H p S ∧ G X.K cl E RStr H p (f out L S) Q) → wpAny (model X.prog X.w) X.A (joinParts out (evalEach es X.env)) (EP X pins σ Q) X.xe s
theorem ev_jnil : EvJ X cl E [] nilJ := ⟨fun out pins s σ H Q I hz ⟨p, L, S, l, t, g⟩ => joinParts_nil ⟨.str out, H, I.tok _, ⟨_, rfl⟩, g.ok (.refl t) rfl⟩ hz⟩
theorem ev_jcons {es : List Expr} {f : JM} (ha : EvE X cl E e fa) (hr : EvJ X cl E es f) (hs : evalEach (e :: es) X.env = eval e X.env :: evalEach es X.env) : EvJ X cl E (e :: es) (consJ fa f) :=
  ⟨fun out pins s σ H Q I hz ⟨p, L, S, l, t, g⟩ => by
    rw [hs]
    refine joinParts_cons (thn (ha.h pins s σ H _ I ⟨p, L, S, l, t, G.bind (r := Rep X.K) g⟩) fun u s1 ⟨v, H1, I1, r1, p1, d, S1, q1, rd, g1⟩ => ?_)
    cases rd with
    | str y =>
      have g1 : G X.K cl E RStr H1 p1 (if (out ++ y).length ≤ 1000000 then f (out ++ y) L S1 else none) Q := g1
      split at g1
      · rename_i hy
        obtain ⟨t0, rfl⟩ := r1
        exact ⟨szL hy, hr.h _ pins s1 σ H1 Q I1 (szL hy) ⟨p1, L, S1, l.mono q1, q1.sto, g1⟩⟩
      · exact g1.none.elim
    | _ => exact g1.none.elim⟩
theorem ev_join {es : List Expr} {f : JM} (h : EvJ X cl E (a :: b :: es) f) (hs : evalEach (a :: b :: es) X.env = eval a X.env :: eval b X.env :: evalEach es X.env) : EvE X cl E (.JoinedStr (a :: b :: es) pos) (joinE f) :=
  ⟨fun pins s σ H Q I ⟨p, L, S, l, t, g⟩ => by
    have := h.h Str.empty pins s σ H Q I (by decide) ⟨p, L, S, l, t, (G.bind (r := RStr) g).mono fun v H1 ⟨p1, x, S1, q1, r1, g1⟩ => by
      obtain rfl : v = .str x := r1
      exact g1.ok (.refl q1.sto) (.str _)⟩
    rw [hs] at this
    exact JoinedStr_many this⟩
end
end Ev
end
section
set_option Elab.async false
set_option linter.all false
set_option maxRecDepth 100000
set_option maxHeartbeats 1000000
namespace Ev
open PySem L2
open PyProof.Rows hiding St
variable [Tabs] [Clos]
section
variable {X : Cx} {cl : Cls} {E : XK} {e a b o i value : Expr} {fa fb fo fi fv : EM} {pos pos' : Pos}
def valD {κ : Type} [DecidableEq κ] (kvs : List (κ × D)) (k : κ) : Option D := (kvs.find? fun kv => decide (kv.1 = k)).map (·.2)
end
end Ev
end
section
set_option Elab.async false
set_option linter.all false
set_option maxRecDepth 100000
set_option maxHeartbeats 1000000
namespace Ev
open PySem L2 HT
open PyProof.Rows hiding St
section
variable {prog : Program} {w : World} {A : Around} {E : Value → Shared → Prop} {s : Shared}
end
variable [Tabs] [Clos]
section
variable {X : Cx} {cl : Cls} {E : XK} {e : Expr} {fe : EM} {pos p2 : Pos}
def cutD {α : Type} (xs : List α) (lo hi : Option Int) : List α := (xs.drop (sIx xs.length 0 lo)).take (sIx xs.length xs.length hi - sIx xs.length 0 lo)
end
end Ev
end
section
set_option Elab.async false
set_option linter.all false
set_option maxRecDepth 100000
set_option maxHeartbeats 2000000
namespace Ev
open PySem L2
open PyProof.Rows hiding St
section
variable {prog : Program} {w : World} {A : Around} {E : Value → Shared → Prop} {s : Shared}
structure ZT (h : Heap) (z TI TO i1 i2 a b : Addr) (k : Nat) : Prop where
  zip : IsZip h z TI TO .none
  ti : IsPair h TI (.ref i1) (.ref i2)
  to : ∃ x y, IsPair h TO x y
  it1 : IsTupIter h i1 a k
  it2 : IsTupIter h i2 b k
end
end Ev
end
section
set_option Elab.async false
set_option linter.all false
set_option maxRecDepth 100000
set_option maxHeartbeats 2000000
namespace Ev
open PySem L2
open PyProof.Rows hiding St
theorem in5 {c z TI TO i1 i2 : Addr} (h : c ∈ [z, TI, TO, i1, i2]) : c = z ∨ c = TI ∨ c = TO ∨ c = i1 ∨ c = i2 := by simpa using h
theorem ZT.objs {h : Heap} {z TI TO i1 i2 a b : Addr} {k : Nat} (Z : ZT h z TI TO i1 i2 a b k) : ∀ c ∈ [z, TI, TO, i1, i2], ∃ o, h.get? c = some o ∧ ∀ v, o.data ≠ .cell v := fun c hc => by
  obtain ⟨hz, hti, ⟨x, y, hto⟩, ⟨o1, e1, _, d1⟩, ⟨o2, e2, _, d2⟩⟩ := Z
  rcases in5 hc with q | q | q | q | q <;> rw [q]
  · exact ⟨_, hz, fun v q => nomatch q⟩
  · exact ⟨_, hti, fun v q => nomatch q⟩
  · exact ⟨_, hto, fun v q => nomatch q⟩
  · exact ⟨o1, e1, fun v q => by rw [d1] at q; cases q⟩
  · exact ⟨o2, e2, fun v q => by rw [d2] at q; cases q⟩
theorem ZT.kept {h h' : Heap} {z TI TO i1 i2 a b : Addr} {i : Nat} (Z : ZT h z TI TO i1 i2 a b i) (k : ∀ c ∈ [z, TI, TO, i1, i2], ∀ o, h.get? c = some o → h'.get? c = some o) : ZT h' z TI TO i1 i2 a b i := by
  obtain ⟨hz, hti, ⟨x, y, hto⟩, ⟨o1, e1, r1⟩, ⟨o2, e2, r2⟩⟩ := Z
  exact ⟨k z (by simp) _ hz, k TI (by simp) _ hti, ⟨x, y, k TO (by simp) _ hto⟩, ⟨o1, k i1 (by simp) _ e1, r1⟩, ⟨o2, k i2 (by simp) _ e2, r2⟩⟩
variable [Tabs] [Clos]
section
variable {X : Cx} {cl : Cls} {E : XK} {e e2 : Expr} {p pos tpos : Pos} {elts : List Expr} {kk : Nat}
end
end Ev
end
section
set_option Elab.async false
set_option linter.all false
set_option maxRecDepth 100000
set_option maxHeartbeats 2000000
namespace Ev
open PySem PyProof.Rows HT
section
open PySem.SeqAt
open PySem.AutoSeq1 (wpAny_loadPart')
open PySem.MeetsSeq PySem.MeetsSeq2 PySem.MeetsSeq3
end
section
variable {prog : Program} {w : World} {A : Around} {E : Value → Shared → Prop} {s : Shared}
end
section
open L2
variable [Tabs] [Clos]
variable {X : Cx} {cl : Cls} {E : XK}
end
end Ev
end
section
set_option Elab.async false
set_option linter.all false
set_option maxRecDepth 100000
set_option maxHeartbeats 2000000
namespace Ev
open PySem L2
open PyProof.Rows hiding St
variable [Tabs] [Clos]
section
variable {X : Cx} {cl : Cls} {E : XK} {x : Str} {pos : Pos}
end
end Ev
end
section
set_option Elab.async false
set_option linter.all false
set_option maxRecDepth 100000
set_option maxHeartbeats 2000000
namespace Ev
open PySem L2
open PyProof.Rows hiding St
section
variable {prog : Program} {w : World} {A : Around} {E : Value → Shared → Prop} {s : Shared}
end
end Ev
end
section
set_option Elab.async false
set_option linter.all false
set_option maxRecDepth 100000
namespace Ev
open PySem L2
open PyProof.Rows hiding St
open PySem.W (KasT kas_sort kas_asc kas_desc kas_tail3 kas_descPart kas_count kas_place kas_bin kas_rev kas_ask)
structure Lt (c : Nat → Nat → Bool) : Prop where
  tr : ∀ a b d, c b a = false → c d b = false → c d a = false
  as : ∀ a b, c a b = true → c b a = false
abbrev ga (p : Array Nat) (k : Nat) : Nat := p.getD k 0
section
variable {c : Nat → Nat → Bool} (o : Lt c)
end
end Ev
end
section
set_option Elab.async false
set_option linter.all false
set_option maxRecDepth 100000
namespace Ev
open PySem L2
open PyProof.Rows hiding St
theorem lexT_nil_nil : lexT [] [] = false := rfl
theorem lexT_nil_cons (y : Int) (ys : List Int) : lexT [] (y :: ys) = true := by simp [lexT, lexR]
theorem lexT_cons_nil (x : Int) (xs : List Int) : lexT (x :: xs) [] = false := by simp [lexT, lexR]
theorem lexT_cons (x y : Int) (xs ys : List Int) : lexT (x :: xs) (y :: ys) = if x = y then lexT xs ys else decide (x < y) := by
  simp [lexT, lexR]
theorem lexT_as : ∀ {a b : List Int}, lexT a b = true → lexT b a = false
  | [], [], h => absurd h (by rw [lexT_nil_nil]; simp)
  | [], y :: ys, _ => lexT_cons_nil _ _
  | x :: xs, [], h => by rw [lexT_cons_nil] at h; exact absurd h (by simp)
  | x :: xs, y :: ys, h => by
    rw [lexT_cons] at h ⊢
    by_cases e : x = y
    · rw [if_pos e] at h; rw [if_pos e.symm]; exact lexT_as h
    · rw [if_neg e] at h; rw [if_neg (Ne.symm e)]
      have := of_decide_eq_true h
      exact decide_eq_false (by omega)
theorem lexT_tr : ∀ {a b d : List Int}, lexT b a = false → lexT d b = false → lexT d a = false
  | [], _, [], _, _ => rfl
  | [], _, _ :: _, _, _ => lexT_cons_nil _ _
  | x :: xs, [], _, h, _ => by rw [lexT_nil_cons] at h; exact absurd h (by simp)
  | x :: xs, y :: ys, [], _, g => by rw [lexT_nil_cons] at g; exact absurd g (by simp)
  | x :: xs, y :: ys, z :: zs, h, g => by
    rw [lexT_cons] at h g ⊢
    by_cases e : y = x
    · rw [if_pos e] at h
      subst e
      by_cases e2 : z = y
      · rw [if_pos e2] at g ⊢; exact lexT_tr h g
      · rw [if_neg e2] at g ⊢; exact g
    · rw [if_neg e] at h
      have a := of_decide_eq_false h
      by_cases e2 : z = y
      · subst e2; rw [if_neg e]; exact h
      · rw [if_neg e2] at g
        have b := of_decide_eq_false g
        rw [if_neg (by omega)]
        exact decide_eq_false (by omega)

abbrev tk (k : List Int) : D := .tup (k.map .int)
def sortT (ks : List (List Int)) : List (List Int) := if ks.length < 2 then ks else (ordK ks.length fun i j => lexT (ks.getD i []) (ks.getD j [])).map fun i => ks.getD i []
end Ev
end
section
set_option Elab.async false
set_option linter.all false
set_option maxRecDepth 100000
namespace Ev
open PySem PySem.SetTable
def Rise (xs : Array Nat) : Prop := ∀ (a b x y : Nat), a < b → xs[a]? = some x → xs[b]? = some y → x < y
theorem q_lt {α : Type} {xs : Array α} {i : Nat} {x : α} (h : xs[i]? = some x) : i < xs.size := by
  rcases Nat.lt_or_ge i xs.size with a | a
  · exact a
  · rw [Array.getElem?_eq_none a] at h; exact absurd h (by simp)
def nx (M i : Nat) : Nat := (i * 5 + 1) % (M + 1)
def it (M : Nat) : Nat → Nat → Nat
  | 0, a => a
  | k + 1, a => it M k (nx M a)
theorem it_add (M : Nat) : ∀ k l a, it M (k + l) a = it M l (it M k a)
  | 0, l, a => by rw [Nat.zero_add]; rfl
  | k + 1, l, a => by rw [Nat.succ_add]; exact it_add M k l (nx M a)
def orb (M : Nat) : Nat → Nat → List Nat
  | 0, _ => []
  | k + 1, a => a :: orb M k (nx M a)
theorem orb_mem {M s : Nat} : ∀ n a, s ∈ orb M n a → ∃ k, k < n ∧ it M k a = s
  | 0, _, h => by simp [orb] at h
  | n + 1, a, h => by
    rcases List.mem_cons.mp h with e | e
    · exact ⟨0, by omega, e.symm⟩
    · obtain ⟨k, hk, e⟩ := orb_mem n _ e
      exact ⟨k + 1, by omega, e⟩
def full (M : Nat) : Bool := (List.range (M + 1)).all (fun s => (orb M (M + 1) 0).contains s) && it M (M + 1) 0 == 0
theorem full_go {M : Nat} (h : full M = true) {a s : Nat} (ha : a < M + 1) (hs : s < M + 1) : ∃ k, k < M + 1 ∧ it M k a = s := by
  unfold full at h
  simp only [Bool.and_eq_true, List.all_eq_true, List.mem_range, List.contains_iff_mem, beq_iff_eq] at h
  obtain ⟨u, hu, eu⟩ := orb_mem _ _ (h.1 a ha)
  obtain ⟨v, hv, ev⟩ := orb_mem _ _ (h.1 s hs)
  by_cases q : u ≤ v
  · exact ⟨v - u, by omega, by rw [← eu, ← it_add, show u + (v - u) = v by omega]; exact ev⟩
  · exact ⟨M + 1 - u + v, by omega, by rw [← eu, ← it_add, show u + (M + 1 - u + v) = M + 1 + v by omega, it_add, h.2]; exact ev⟩
def tn (M : Nat) : Nat → Nat × Nat → Nat × Nat
  | 0, s => s
  | k + 1, s => tn M k (leap M s.1 s.2)
theorem tn_add (M : Nat) : ∀ k l s, tn M (k + l) s = tn M l (tn M k s)
  | 0, l, s => by rw [Nat.zero_add]; rfl
  | k + 1, l, s => by rw [Nat.succ_add]; exact tn_add M k l _
theorem tn_snd (M : Nat) : ∀ k i p, (tn M k (i, p)).2 = p / 32 ^ k
  | 0, i, p => by simp [tn]
  | k + 1, i, p => by
    show (tn M k (leap M i p)).2 = _
    rw [show leap M i p = ((i * 5 + 1 + p / 32) % (M + 1), p / 32) from rfl, tn_snd M k, Nat.div_div_eq_div_mul, Nat.pow_succ, Nat.mul_comm]
theorem tn_lt (M : Nat) : ∀ k i p, i < M + 1 → (tn M k (i, p)).1 < M + 1
  | 0, i, p, h => h
  | k + 1, i, p, h => tn_lt M k _ _ (Nat.mod_lt _ (by omega))
theorem tn_it (M : Nat) : ∀ k i, (tn M k (i, 0)).1 = it M k i
  | 0, i => rfl
  | k + 1, i => by
    show (tn M k (leap M i 0)).1 = it M k (nx M i)
    rw [show leap M i 0 = (nx M i, 0) from rfl]
    exact tn_it M k _
theorem hit {M : Nat} (hM : full M = true) {i p s : Nat} (hi : i < M + 1) (hp : p < 2 ^ 64) (hs : s < M + 1) : ∃ k, k ≤ M + 13 ∧ (tn M k (i, p)).1 = s := by
  have z : (tn M 13 (i, p)).2 = 0 := by
    rw [tn_snd]
    exact Nat.div_eq_of_lt (Nat.lt_of_lt_of_le hp (by decide))
  have l := tn_lt M 13 i p hi
  obtain ⟨k, hk, e⟩ := full_go hM l hs
  refine ⟨13 + k, by omega, ?_⟩
  rw [tn_add]
  rw [show tn M 13 (i, p) = ((tn M 13 (i, p)).1, 0) by rw [← z]]
  rw [tn_it]
  exact e

def st (t : SetTable) : Nat → Probe → Probe
  | 0, p => p
  | k + 1, p => st t k (t.advance p)
theorem st_add (t : SetTable) : ∀ k l p, st t (k + l) p = st t l (st t k p)
  | 0, l, p => by rw [Nat.zero_add]; rfl
  | k + 1, l, p => by rw [Nat.succ_add]; exact st_add t k l _
def atTurn (M : Nat) (s : Nat × Nat) : Probe := { j := s.1, more := runEnd M s.1 - s.1, i := s.1, perturb := s.2, dummy := none }
theorem st_run (t : SetTable) : ∀ m (p : Probe), p.more = m → p.dummy = none → st t (m + 1) p = atTurn t.mask (leap t.mask p.i p.perturb)
  | 0, p, h, hd => by
    show t.advance p = _
    unfold SetTable.advance
    rw [if_neg (by omega)]
    show ({ p with j := _, more := _, i := _, perturb := _ } : Probe) = _
    rw [hd]
    rfl
  | m + 1, p, h, hd => by
    have e : t.advance p = { p with j := p.j + 1, more := p.more - 1 } := by
      unfold SetTable.advance
      rw [if_pos (by omega)]
    show st t (m + 1) (t.advance p) = _
    rw [e]
    exact st_run t m _ (by show p.more - 1 = m; omega) hd
theorem bits_lt (h : Int) : bits h < 2 ^ 64 := by
  unfold bits
  have := Int.emod_lt_of_pos h (show (0 : Int) < 2 ^ 64 by decide)
  have := Int.emod_nonneg h (show (2 ^ 64 : Int) ≠ 0 by decide)
  omega
theorem start_eq (t : SetTable) (h : Int) : t.probeStart h = atTurn t.mask (bits h % (t.mask + 1), bits h) := rfl

end Ev
end
section
set_option Elab.async false
set_option linter.all false
set_option maxRecDepth 100000
namespace Ev
open PySem PySem.SetTable
structure Tab {α : Type} (t : SetTable) (es : Array (Int × α)) : Prop where
  full : full t.mask = true
  dm : t.dummies = #[]
  len : t.place.size = es.size
  rise : Rise t.place
  room : t.place.size ≤ t.mask
  fi : ∀ (i : Nat) (e : Int × α), es[i]? = some e → ∃ n, t.place[i]? = some (st t n (t.probeStart e.1)).j ∧ ∀ m, m < n → t.slot (st t m (t.probeStart e.1)).j ≠ .empty
theorem st_in_run (t : SetTable) : ∀ m (p : Probe), m ≤ p.more → (st t m p).j = p.j + m
  | 0, p, _ => rfl
  | m + 1, p, h => by
    have e : t.advance p = { p with j := p.j + 1, more := p.more - 1 } := by
      unfold SetTable.advance
      rw [if_pos (by omega)]
    show (st t m (t.advance p)).j = _
    rw [e, st_in_run t m _ (by show m ≤ p.more - 1; omega)]
    show p.j + 1 + m = _
    omega
theorem free_spec {t : SetTable} {owner : Array (Option Nat)} : ∀ f s, s.1 < t.mask + 1 → (∃ k, k < f ∧ owner.getD (tn t.mask k s).1 (some 0) = none) →
    ∃ n, layClean.free t.mask owner f s.1 s.2 = some (st t n (atTurn t.mask s)).j ∧ owner.getD (st t n (atTurn t.mask s)).j (some 0) = none ∧ ∀ m, m < n → owner.getD (st t m (atTurn t.mask s)).j (some 0) ≠ none
  | 0, s, _, h => by obtain ⟨k, hk, _⟩ := h; exact absurd hk (by omega)
  | f + 1, s, hs, h => by
    have hfree : layClean.free t.mask owner (f + 1) s.1 s.2 = match (List.range (runEnd t.mask s.1 + 1 - s.1)).find? fun k => (owner.getD (s.1 + k) (some 0)).isNone with
      | some k => some (s.1 + k)
      | none => layClean.free t.mask owner f (leap t.mask s.1 s.2).1 (leap t.mask s.1 s.2).2 := rfl
    have hmore : (atTurn t.mask s).more = runEnd t.mask s.1 - s.1 := rfl
    have hge : s.1 ≤ runEnd t.mask s.1 := by unfold runEnd; split <;> omega
    have hj : ∀ m, m ≤ runEnd t.mask s.1 - s.1 → (st t m (atTurn t.mask s)).j = s.1 + m := fun m hm => st_in_run t m _ hm
    cases hf : (List.range (runEnd t.mask s.1 + 1 - s.1)).find? fun k => (owner.getD (s.1 + k) (some 0)).isNone with
    | some k =>
      rw [hf] at hfree
      rw [List.find?_range_eq_some] at hf
      obtain ⟨a, b, c⟩ := hf
      have hk : k < runEnd t.mask s.1 + 1 - s.1 := List.mem_range.mp b
      refine ⟨k, ?_, ?_, fun m hm => ?_⟩
      · rw [hj k (by omega)]; exact hfree
      · rw [hj k (by omega)]; simpa using a
      · rw [hj m (by omega)]
        intro q
        have := c m hm
        rw [q] at this
        exact absurd this (by simp)
    | none =>
      rw [hf] at hfree
      rw [List.find?_eq_none] at hf
      have hall : ∀ m, m < runEnd t.mask s.1 + 1 - s.1 → owner.getD (s.1 + m) (some 0) ≠ none := fun m hm q => hf m (List.mem_range.mpr hm) (by rw [q]; rfl)
      have hl : (leap t.mask s.1 s.2).1 < t.mask + 1 := Nat.mod_lt _ (by omega)
      obtain ⟨k, hk, e⟩ := h
      have hk0 : k ≠ 0 := fun q => by
        subst q
        exact hall 0 (by omega) e
      obtain ⟨n, a, b, c⟩ := free_spec f (leap t.mask s.1 s.2) hl ⟨k - 1, by omega, by
        have : tn t.mask k s = tn t.mask (k - 1) (leap t.mask s.1 s.2) := by
          conv => lhs; rw [show k = k - 1 + 1 by omega]
          rfl
        rw [← this]; exact e⟩
      have er := st_run t _ (atTurn t.mask s) rfl rfl
      rw [hmore] at er
      have es : ∀ m, st t (runEnd t.mask s.1 - s.1 + 1 + m) (atTurn t.mask s) = st t m (atTurn t.mask (leap t.mask s.1 s.2)) := fun m => by
        rw [st_add, er]; rfl
      refine ⟨runEnd t.mask s.1 - s.1 + 1 + n, ?_, ?_, fun m hm => ?_⟩
      · rw [es]; exact hfree.trans a
      · rw [es]; exact b
      · by_cases q : m ≤ runEnd t.mask s.1 - s.1
        · rw [hj m q]; exact hall m (by omega)
        · have := c (m - (runEnd t.mask s.1 - s.1 + 1)) (by omega)
          rw [← es, show runEnd t.mask s.1 - s.1 + 1 + (m - (runEnd t.mask s.1 - s.1 + 1)) = m by omega] at this
          exact this
end Ev
end
section
set_option Elab.async false
set_option linter.all false
set_option maxRecDepth 100000
namespace Ev
open PySem PySem.SetTable
structure Own (t : SetTable) (ow : Array (Option Nat)) (hs : List Int) : Prop where
  size : ow.size = t.mask + 1
  cnt : ow.toList.countP Option.isNone + hs.length = t.mask + 1
  lt : ∀ j i : Nat, ow[j]? = some (some i) → i < hs.length
  one : ∀ j j' i : Nat, ow[j]? = some (some i) → ow[j']? = some (some i) → j = j'
  own : ∀ (i : Nat) (h : Int), hs[i]? = some h → ∃ n, ow[(st t n (t.probeStart h)).j]? = some (some i) ∧ ∀ m, m < n → ow.getD (st t m (t.probeStart h)).j (some 0) ≠ none
theorem getD_none {ow : Array (Option Nat)} {j : Nat} (h : ow.getD j (some 0) = none) : ow[j]? = some none := by
  by_cases q : j < ow.size
  · simp [Array.getD, q] at h
    simp [q, h]
  · simp [Array.getD, q] at h
theorem getD_some {ow : Array (Option Nat)} {j i : Nat} {d : Option Nat} (h : ow[j]? = some (some i)) : ow.getD j d = some i := by
  have := q_lt h
  simp [Array.getD, this]
  simpa [this] using h
theorem Own.step {t : SetTable} {ow : Array (Option Nat)} {hs : List Int} (hM : full t.mask = true) (O : Own t ow hs) (h : Int) (hl : hs.length ≤ t.mask) :
    ∃ j, layClean.free t.mask ow (turns t.mask) (bits h % (t.mask + 1)) (bits h) = some j ∧ Own t (ow.setIfInBounds j (some hs.length)) (hs ++ [h]) := by
  have hex : ∃ s, s < t.mask + 1 ∧ ow.getD s (some 0) = none := by
    have : 0 < ow.toList.countP Option.isNone := by have := O.cnt; omega
    rw [List.countP_pos_iff] at this
    obtain ⟨a, ha, hn⟩ := this
    obtain ⟨s, hs1, hs2⟩ := List.mem_iff_getElem.mp ha
    have hs3 : s < ow.size := by simpa using hs1
    refine ⟨s, by rw [← O.size]; exact hs3, ?_⟩
    have : a = none := by simpa using hn
    simp [Array.getD, hs3]
    rw [this] at hs2
    simpa using hs2
  obtain ⟨s, hs1, hs2⟩ := hex
  obtain ⟨k, hk, e⟩ := hit hM (i := bits h % (t.mask + 1)) (Nat.mod_lt _ (by omega)) (bits_lt h) hs1
  obtain ⟨n, a, b, c⟩ := free_spec (t := t) (owner := ow) (turns t.mask) (bits h % (t.mask + 1), bits h) (Nat.mod_lt _ (by omega)) ⟨k, by unfold turns; omega, by rw [e]; exact hs2⟩
  rw [← start_eq] at a b c
  obtain ⟨j, hj⟩ : ∃ j, j = (st t n (t.probeStart h)).j := ⟨_, rfl⟩
  rw [← hj] at a b
  refine ⟨j, a, ?_⟩
  have b' := getD_none b
  have hjs := q_lt b'
  have sq : ∀ x : Nat, (ow.setIfInBounds j (some hs.length))[x]? = if j = x then some (some hs.length) else ow[x]? := fun x => by
    rw [Array.getElem?_setIfInBounds]
    by_cases q : j = x
    · rw [if_pos q, if_pos q, if_pos hjs]
    · rw [if_neg q, if_neg q]
  have gd : ∀ x : Nat, ow.getD x (some 0) ≠ none → (ow.setIfInBounds j (some hs.length)).getD x (some 0) ≠ none := fun x q r => by
    have := getD_none r
    rw [sq] at this
    by_cases e : j = x
    · rw [if_pos e] at this; simp at this
    · rw [if_neg e] at this
      have hx := q_lt this
      exact q (by simp [Array.getD, hx]; simpa [hx] using this)
  refine ⟨by rw [Array.size_setIfInBounds]; exact O.size, ?_, ?_, ?_, ?_⟩
  · have h1 : (ow.setIfInBounds j (some hs.length)).toList = ow.toList.set j (some hs.length) := by simp
    rw [h1, List.countP_set (by simpa using hjs)]
    have h2 : ow.toList[j]'(by simpa using hjs) = none := by
      have : ow[j] = none := by simpa [hjs] using b'
      simpa using this
    have h3 : 0 < ow.toList.countP Option.isNone := List.countP_pos_iff.mpr ⟨none, by rw [← h2]; exact List.getElem_mem _, rfl⟩
    rw [h2, List.length_append]
    have := O.cnt
    show ow.toList.countP Option.isNone - 1 + 0 + (hs.length + 1) = _
    omega
  · intro x i e
    rw [sq] at e
    rw [List.length_append]
    by_cases q : j = x
    · rw [if_pos q] at e; simp at e; subst e; simp
    · rw [if_neg q] at e; have := O.lt x i e; simp; omega
  · intro x x' i e e'
    rw [sq] at e e'
    by_cases q : j = x
    · rw [if_pos q] at e
      simp at e
      by_cases q' : j = x'
      · omega
      · rw [if_neg q'] at e'; have := O.lt x' i e'; omega
    · rw [if_neg q] at e
      by_cases q' : j = x'
      · rw [if_pos q'] at e'; simp at e'; have := O.lt x i e; omega
      · rw [if_neg q'] at e'; exact O.one x x' i e e'
  · intro i g e
    rw [List.getElem?_append] at e
    by_cases q : i < hs.length
    · rw [if_pos q] at e
      obtain ⟨n', a', c'⟩ := O.own i g e
      refine ⟨n', ?_, fun m hm => gd _ (c' m hm)⟩
      rw [sq, if_neg, a']
      intro r
      rw [← r, b'] at a'
      simp at a'
    · rw [if_neg q] at e
      have : i = hs.length := by
        rcases Nat.lt_or_ge (i - hs.length) 1 with r | r
        · omega
        · rw [List.getElem?_eq_none (by simpa using r)] at e; simp at e
      subst this
      simp at e
      subst e
      exact ⟨n, by rw [sq, ← hj, if_pos rfl], fun m hm => gd _ (c m hm)⟩
end Ev
end
section
set_option Elab.async false
set_option linter.all false
set_option maxRecDepth 100000
namespace Ev
open PySem PySem.SetTable
section
variable {prog : Program} {w : World} {A : Around} {E : Value → Shared → Prop} {s : Shared}
class AdrP where
  ok : Addr → Prop
variable [AdrP]
structure TupI (prog : Program) (w : World) (h : Heap) (ks : List Int) (a : Addr) : Prop where
  k : IsTupleKey (PySem.intKind prog w) h ks a
  p : AdrP.ok a
abbrev hsT (prog : Program) (w : World) (ks : List Int) : Int := tupleKeyHash (PySem.intKind prog w) ks
inductive EntAre (prog : Program) (w : World) (h : Heap) : List (Int × Value) → List (List Int) → Prop
  | nil : EntAre prog w h [] []
  | cons {k : List Int} {b : Addr} {es : List (Int × Value)} {ks : List (List Int)} : TupI prog w h k b → EntAre prog w h es ks → EntAre prog w h ((hsT prog w k, .ref b) :: es) (k :: ks)
theorem EntAre.get {h : Heap} {es : List (Int × Value)} {ks : List (List Int)} (r : EntAre prog w h es ks) : ∀ {i : Nat} {e : Int × Value}, es[i]? = some e → ∃ k b, ks[i]? = some k ∧ e = (hsT prog w k, .ref b) ∧ TupI prog w h k b := by
  induction r with
  | nil => intro i e q; simp at q
  | cons h1 h2 ih =>
    intro i e q
    cases i with
    | zero => simp at q; exact ⟨_, _, rfl, q.symm, h1⟩
    | succ i => simp at q; simpa using ih q
theorem EntAre.at {h : Heap} {es : List (Int × Value)} {ks : List (List Int)} (r : EntAre prog w h es ks) : ∀ {i : Nat} {k : List Int}, ks[i]? = some k → ∃ b, es[i]? = some (hsT prog w k, .ref b) ∧ TupI prog w h k b := by
  induction r with
  | nil => intro i e q; simp at q
  | cons h1 h2 ih =>
    intro i e q
    cases i with
    | zero => simp at q; subst q; exact ⟨_, rfl, h1⟩
    | succ i => simp at q; simpa using ih q
theorem EntAre.mem {h : Heap} {es : List (Int × Value)} {ks : List (List Int)} (r : EntAre prog w h es ks) {e : Int × Value} (q : e ∈ es) : ∃ k b, e = (hsT prog w k, .ref b) ∧ TupI prog w h k b := by
  obtain ⟨i, hi, rfl⟩ := List.mem_iff_getElem.mp q
  obtain ⟨k, b, _, e2, e3⟩ := r.get (i := i) (by simp [hi]; rfl)
  exact ⟨k, b, e2, e3⟩
end
end Ev
end
section
set_option Elab.async false
set_option linter.all false
set_option maxRecDepth 100000
namespace Ev
open PySem PySem.SetTable
section
variable [AdrP] {prog : Program} {w : World} {A : Around} {E : Value → Shared → Prop} {s : Shared}
theorem TupI.keep {h h' : Heap} {ks : List Int} {a b : Addr} {o : Obj} {es : Array (Int × Value)} {ep : Nat} {t : SetTable} (x : TupI prog w h ks b) (ho : h.get? a = some o) (hd : o.data = .set es ep t) (hs : Heap.SameBut a h h') : TupI prog w h' ks b := by
  obtain ⟨⟨o', items, n, ho', hc, hd', hi⟩, hP⟩ := x
  have hne : b ≠ a := by
    rintro rfl
    have : o' = o := Option.some.inj (ho'.symm.trans ho)
    subst this
    rw [hd] at hd'; exact nomatch hd'
  exact ⟨⟨o', items, n, (hs.2 b hne).trans ho', hc, hd', hi⟩, hP⟩
theorem EntAre.keep {h h' : Heap} {a : Addr} {o : Obj} {es : Array (Int × Value)} {ep : Nat} {t : SetTable} (ho : h.get? a = some o) (hd : o.data = .set es ep t) (hs : Heap.SameBut a h h') {l : List (Int × Value)} {ks : List (List Int)} (r : EntAre prog w h l ks) : EntAre prog w h' l ks := by
  induction r with
  | nil => exact .nil
  | cons h1 _ ih => exact .cons (TupI.keep h1 ho hd hs) ih
theorem EntAre.length {h : Heap} {l : List (Int × Value)} {ks : List (List Int)} (r : EntAre prog w h l ks) : l.length = ks.length := by
  induction r with
  | nil => rfl
  | cons _ _ ih => simp [ih]

abbrev ledW (w : World) : Bool := !(w.params.followText "set-order")

end
end Ev
end
section
set_option Elab.async false
set_option linter.all false
set_option maxRecDepth 100000
namespace Ev
open PySem PySem.SetTable
open PyProof.Rows hiding St
def addK (kl : List (List Int)) (k : List Int) : List (List Int) := if k ∈ kl then kl else k :: kl
def onceK (ks : List (List Int)) : List (List Int) := ks.foldl addK []
section
variable [AdrP]
variable {prog : Program} {w : World} {A : Around} {E : Value → Shared → Prop} {s : Shared} {R : Result → Shared → Prop} {I : Addr} {fp wr : List Addr} {G : Array GenState → Array GenState → Prop} {n : Nat} {P : Nat → Value → Prop} {St : Nat → Shared → Prop}
end
end Ev
end
section
set_option Elab.async false
set_option linter.all false
set_option maxRecDepth 100000
set_option maxHeartbeats 3200000
namespace Ev
open PySem PySem.SetTable
open PyProof.Rows hiding St
section
variable [AdrP]
variable {prog : Program} {w : World} {A : Around} {E : Value → Shared → Prop} {s : Shared}
theorem TupI.push {h : Heap} {k : List Int} {b : Addr} (o : Obj) (x : TupI prog w h k b) : TupI prog w (h.push o) k b := by
  obtain ⟨⟨o', items, m, ho, r⟩, hP⟩ := x
  exact ⟨⟨o', items, m, Heap.get?_push_of_some _ ho, r⟩, hP⟩
end
end Ev
end
section
set_option Elab.async false
set_option linter.all false
set_option maxRecDepth 100000
namespace Ev
open PySem PySem.SetTable
section
variable {prog : Program} {w : World} {A : Around} {E : Value → Shared → Prop} {s : Shared}
def slotAt (w : World) (t : SetTable) (i : Nat) : Nat := if w.params.followText "set-order" = true then 0 else match i with
  | 0 => 0
  | i + 1 => (t.place.getD i 0) + 1
end
end Ev
end
section
set_option Elab.async false
set_option linter.all false
set_option maxRecDepth 100000
namespace Ev
open PySem PySem.SetTable
section
variable {prog : Program} {w : World} {A : Around} {E : Value → Shared → Prop} {s : Shared}
end
end Ev
end
section
set_option Elab.async false
set_option linter.all false
set_option maxRecDepth 100000
namespace Ev
open PySem PySem.SetTable
section
variable {prog : Program} {w : World} {A : Around} {E : Value → Shared → Prop} {s : Shared}
def IsSetIt (w : World) (h : Heap) (b a : Addr) (t : SetTable) (n ep i : Nat) : Prop :=
  ∃ o, h.get? b = some o ∧ o.cls = .type "set_iterator" ∧ o.data = .fields #[.int (slotAt w t i) 0, .int i 0, .ref a, .int n 0, .int ep 0]
end
end Ev
end
section
set_option Elab.async false
set_option linter.all false
set_option maxRecDepth 100000
namespace Ev
open PySem PySem.SetTable
section
variable {prog : Program} {w : World} {A : Around} {E : Value → Shared → Prop} {s : Shared}
theorem IsSetIt.mono {h h' : Heap} {b a : Addr} {t : SetTable} {n ep i : Nat} (x : IsSetIt w h b a t n ep i) (k : ∀ o, h.get? b = some o → h'.get? b = some o) : IsSetIt w h' b a t n ep i := by
  obtain ⟨o, e, r⟩ := x
  exact ⟨o, k o e, r⟩
end
end Ev
end
section
set_option Elab.async false
set_option linter.all false
set_option maxRecDepth 100000
namespace Ev
open PySem PySem.SetTable
section
variable [AdrP]
variable {prog : Program} {w : World} {A : Around} {E : Value → Shared → Prop} {s : Shared}
end
end Ev
end
section
set_option Elab.async false
set_option linter.all false
set_option maxRecDepth 100000
namespace Ev
open PySem PySem.SetTable
open PyProof.Rows hiding St
section
variable [AdrP]
variable {prog : Program} {w : World} {A : Around} {E : Value → Shared → Prop} {s : Shared}
end
end Ev
end
section
set_option Elab.async false
set_option linter.all false
set_option maxRecDepth 100000
namespace Ev
open PySem PySem.SetTable
open PyProof.Rows hiding St
section
variable [AdrP]
variable {prog : Program} {w : World} {A : Around} {E : Value → Shared → Prop} {s : Shared}
theorem EntAre.ix {h : Heap} {l : List (Int × Value)} {ks : List (List Int)} (r : EntAre prog w h l ks) (d : Int × Value) : ∀ {idx : List Nat}, (∀ i ∈ idx, i < l.length) → EntAre prog w h (idx.map fun i => l.getD i d) (idx.map fun i => ks.getD i [])
  | [], _ => .nil
  | i :: r', hi => by
    have q : i < l.length := hi i (by simp)
    obtain ⟨k, b, e1, e2, e3⟩ := r.get (i := i) (e := l[i]) (by simp [q])
    show EntAre prog w h (l.getD i d :: _) (ks.getD i [] :: _)
    rw [show l.getD i d = l[i] by simp [q], e2, show ks.getD i [] = k by simp [e1]]
    exact .cons e3 (r.ix d fun j hj => hi j (by simp [hj]))
variable [Tabs] [Clos]
end
end Ev
end
section
set_option Elab.async false
set_option linter.all false
set_option maxRecDepth 100000
namespace Ev
open PySem L2
variable [Tabs] [Clos]
section
variable {X : Cx}
def divmodD : OpN
  | [.int i, .int j], S => if 0 < j ∧ j < 1073741824 then some (.ok (.tup [.int (i / j), .int (i % j)]), S) else none
  | _, _ => none
theorem cl_divmod : ClD X (.builtin "divmod") divmodD := ⟨fun cl E pins s σ H vs us Q I r ⟨p, S, ds, t, rl, g⟩ => by
  unfold divmodD at g
  split at g
  · rename_i i j
    split at g
    · rename_i hz
      cases rl with
      | cons r1 rr =>
        cases rr with
        | cons r2 rr =>
          cases rr
          cases r1
          cases r2
          exact call_divmod pins s σ H _ us Q I r ⟨i, j, rfl, hz, newTup t (.cons (.int _) (.cons (.int _) .nil)) g⟩
    · exact g.none.elim
  · exact g.none.elim⟩
end
theorem walkTX {l : PySem.W.OpenLaw} {k : Nat} {q : Program} {loose : List Str} {XP : (Str → Option Value) → Heap → Prop} {YP : World → Heap → Prop} {d : DefRec} {K : Params → PySem.W.Frag} {x : Str} {Fl : Fn} {ts : List Addr}
    (hn : l.most = some 63) (hdf : d.params.defaults = []) (hr : Room k callerA) (hY : ∀ (w : World) (h : Heap), YP w h → (K w.params).In h ∧ ∀ P ∈ ts, h.get? P = some (PySem.W.tabObj #[]))
    (hcd : ∀ p : Params, ∀ P ∈ ts, (K p).lookup P = none ∧ ∃ c, PySem.W.codeHdIn (K p) c P = true) (htl : ∀ q ∈ Tabs.tl, q.1 ∈ ts)
    (F : ∀ (w : World) (mg : Str → Option Value) (fa : Addr) (h : Heap), (K w.params).In h → h.Ns mainGlobals mg → mg d.name = some (.ref fa) → XP mg h →
      ∃ (fd : FuncData) (cl : Cls), (∀ (s : Shared) (u : Value), BindsTo s fd ⟨[u], []⟩ [(x, u)]) ∧ ∀ base : Heap, (K w.params).In base → base.Ns mainGlobals mg → BMod base mg → FnOk l.prog w (K w.params) mg base (CXR l.prog w) k fa fd [x] (spOf (K w.params) cl 1 Fl))
    (hF : ∀ ns : List Int, ns.length ≤ 63 → ∃ S', Fl [.fl (ns.map D.int)] [] = some (.ok (.bl true), S')) :
    PySem.W.WalkO q loose XP YP l.row.toRowW d [] (fun f vs => PySem.call f vs) := by
  refine Att.attach_call hn hdf fun w s0 s1 mg mb fa o pm cd doc a vs ns G Y ho hd hcd' hmg hobj hints hlen hg => ?_
  obtain ⟨KX, hT⟩ := hY w _ Y
  obtain ⟨fd, cl, hb, hFn⟩ := F w mg fa _ KX G.T.g hmg G.X
  obtain ⟨S', hS'⟩ := hF ns hlen
  refine law_callT KX G.T.g G.T.b G.T.builtins G.T.nolimit hg ?_ hobj hints (Nat.le_trans hlen (by decide)) hr hT (fun P hP => ?_) (fun P hP => (hcd w.params P hP).1) htl hFn hb hS'
  · obtain ⟨bm, ob, b1, b2, b3, b4, b5, b6⟩ := G.T.bmain
    refine ⟨bm, ob, b1, b2, fun z => ?_, b3, b4, b5, b6⟩
    subst z
    obtain ⟨o', es, ep, e', d', _⟩ := G.T.g
    rw [b3] at e'
    cases e'
    rw [b6] at d'; cases d'
  · obtain ⟨c, hc⟩ := (hcd w.params P hP).2
    obtain ⟨o', vs', _, _, _, _, _, _, _, e1, e2, e3, e4, _⟩ := PySem.W.codeHd_of_K KX hc
    exact ⟨c, o', vs', e1, e2, e3, e4⟩

end Ev
end
section
set_option Elab.async false
set_option linter.all false
set_option maxRecDepth 100000
namespace Ev
open PySem
open PyProof.Rows hiding St
def rk (ρ : Keyed → Int) (xs : Array Keyed) (i : Nat) : Int := match xs[i]? with
  | some p => ρ p
  | none => 0
def Up (ρ : Keyed → Int) (xs : Array Keyed) (lo hi : Nat) : Prop := ∀ i j, lo ≤ i → i ≤ j → j < hi → rk ρ xs i ≤ rk ρ xs j
def Out (xs ys : Array Keyed) (lo hi : Nat) : Prop := ∀ k : Nat, k < lo ∨ hi ≤ k → ys[k]? = xs[k]?
theorem Out.refl (xs : Array Keyed) (lo hi : Nat) : Out xs xs lo hi := fun _ _ => rfl
theorem Out.trans {xs ys zs : Array Keyed} {lo hi : Nat} (a : Out xs ys lo hi) (b : Out ys zs lo hi) : Out xs zs lo hi := fun k h => (b k h).trans (a k h)
theorem Out.wide {xs ys : Array Keyed} {lo hi lo' hi' : Nat} (a : Out xs ys lo hi) (h1 : lo' ≤ lo) (h2 : hi ≤ hi') : Out xs ys lo' hi' := fun k h => a k (by omega)
theorem rk_eq {ρ : Keyed → Int} {xs ys : Array Keyed} {i j : Nat} (h : xs[i]? = ys[j]?) : rk ρ xs i = rk ρ ys j := by unfold rk; rw [h]
theorem Out.rk {ρ : Keyed → Int} {xs ys : Array Keyed} {lo hi k : Nat} (a : Out xs ys lo hi) (h : k < lo ∨ hi ≤ k) : Ev.rk ρ ys k = Ev.rk ρ xs k := rk_eq (a k h)
theorem Up.out {ρ : Keyed → Int} {xs ys : Array Keyed} {lo hi a b : Nat} (h : Up ρ xs a b) (o : Out xs ys lo hi) (hd : b ≤ lo ∨ hi ≤ a) : Up ρ ys a b := fun i j h1 h2 h3 => by
  rw [o.rk (by omega), o.rk (by omega)]
  exact h i j h1 h2 h3
abbrev mkS (κ : SortKind) (xs : Array Keyed) (pd : Array (Nat × Nat × Nat)) (g : Nat) : SortSt := SortSt.mk' κ xs pd g none
section
variable {prog : Program} {w : World} {A : Around} {E : Value → Shared → Prop} {s : Shared} {κ : SortKind} {ρ : Keyed → Int} {a0 : Array Keyed} {pd : Array (Nat × Nat × Nat)} {g : Nat} {xs : Array Keyed}
def Cmp (prog : Program) (w : World) (A : Around) (s : Shared) (κ : SortKind) (ρ : Keyed → Int) (a0 : Array Keyed) : Prop :=
  ∀ x y : Keyed, x ∈ a0 → y ∈ a0 → ∀ Q : Bool → Shared → Prop, Q (decide (ρ x < ρ y)) s → wpAny (model prog w) A (keyLt' κ x.1 y.1) Q (fun _ _ => False) s
theorem w_lt (hc : Cmp prog w A s κ ρ a0) {x y : Keyed} (hx : x ∈ a0) (hy : y ∈ a0) {Q : Option Bool → SortSt → Prop} (h : Q (some (decide (ρ x < ρ y))) (mkS κ xs pd g)) : wpS (model prog w) A E s (lt' x y) Q (mkS κ xs pd g) := by
  rw [lt'_eq]
  refine wpS_bind (wpS_get (wpS_bind (wpS_lift (wpAny_attempt ?_))))
  exact wpAny_mono (hc x y hx hy (fun b s' => b = decide (ρ x < ρ y) ∧ s' = s) ⟨rfl, rfl⟩) (fun b s' hb => by
    obtain ⟨rfl, rfl⟩ := hb
    exact ⟨rfl, wpS_pure h⟩) fun _ _ hF => hF.elim
end
end Ev
end
section
set_option Elab.async false
set_option linter.all false
set_option maxRecDepth 100000
namespace Ev
open PySem
open PyProof.Rows hiding St
section
variable {prog : Program} {w : World} {A : Around} {E : Value → Shared → Prop} {s : Shared} {κ : SortKind} {ρ : Keyed → Int} {a0 : Array Keyed} {pd : Array (Nat × Nat × Nat)} {g : Nat} {xs : Array Keyed}
end
end Ev
end
section
set_option Elab.async false
set_option linter.all false
set_option maxRecDepth 100000
namespace Ev
open PySem
open PyProof.Rows hiding St
abbrev Asc (ρ : Keyed → Int) (l : List Keyed) : Prop := l.Pairwise fun x y => ρ x ≤ ρ y
structure Mg (ρ : Keyed → Int) (A B out : List Keyed) (i j : Nat) : Prop where
  p : out.Perm (A.take i ++ B.take j)
  s : Asc ρ out
  a : ∀ x ∈ out, ∀ y ∈ A.drop i, ρ x ≤ ρ y
  b : ∀ x ∈ out, ∀ y ∈ B.drop j, ρ x ≤ ρ y
variable {ρ : Keyed → Int} {A B out : List Keyed} {i j : Nat}
theorem asc_drop {l : List Keyed} (h : Asc ρ l) (i : Nat) : Asc ρ (l.drop i) := h.sublist (List.drop_sublist i l)
theorem asc_take {l : List Keyed} (h : Asc ρ l) (i : Nat) : Asc ρ (l.take i) := h.sublist (List.take_sublist i l)
theorem Mg.done (m : Mg ρ A B out i j) (hA : Asc ρ A) (hB : Asc ρ B) (h : ∀ x ∈ A.drop i, ∀ y ∈ B.drop j, ρ x ≤ ρ y) : Asc ρ (out ++ A.drop i ++ B.drop j) ∧ (out ++ A.drop i ++ B.drop j).Perm (A ++ B) := by
  constructor
  · refine List.pairwise_append.mpr ⟨List.pairwise_append.mpr ⟨m.s, asc_drop hA i, m.a⟩, asc_drop hB j, fun x hx y hy => ?_⟩
    rcases List.mem_append.mp hx with hx | hx
    · exact m.b x hx y hy
    · exact h x hx y hy
  · have e1 : (out ++ A.drop i ++ B.drop j).Perm ((A.take i ++ B.take j) ++ A.drop i ++ B.drop j) := (m.p.append_right _).append_right _
    refine e1.trans ?_
    have e2 : ((A.take i ++ B.take j) ++ A.drop i).Perm ((A.take i ++ A.drop i) ++ B.take j) := by
      rw [List.append_assoc, List.append_assoc]
      exact (List.perm_append_comm).append_left _
    refine (e2.append_right _).trans ?_
    rw [List.take_append_drop, List.append_assoc, List.take_append_drop]
structure Mh (ρ : Keyed → Int) (A B out : List Keyed) (i j : Nat) : Prop where
  p : out.Perm (A.drop i ++ B.drop j)
  s : Asc ρ out
  a : ∀ x ∈ A.take i, ∀ y ∈ out, ρ x ≤ ρ y
  b : ∀ x ∈ B.take j, ∀ y ∈ out, ρ x ≤ ρ y
theorem Mh.done (m : Mh ρ A B out i j) (hA : Asc ρ A) (hB : Asc ρ B) (h : ∀ x ∈ A.take i, ∀ y ∈ B.take j, ρ x ≤ ρ y) : Asc ρ (A.take i ++ B.take j ++ out) ∧ (A.take i ++ B.take j ++ out).Perm (A ++ B) := by
  constructor
  · refine List.pairwise_append.mpr ⟨List.pairwise_append.mpr ⟨asc_take hA i, asc_take hB j, h⟩, m.s, fun x hx y hy => ?_⟩
    rcases List.mem_append.mp hx with hx | hx
    · exact m.a x hx y hy
    · exact m.b x hx y hy
  · refine (m.p.append_left _).trans ?_
    rw [← List.append_assoc, List.append_assoc (A.take i)]
    refine (((List.perm_append_comm).append_left _).append_right _).trans ?_
    rw [← List.append_assoc, List.take_append_drop, List.append_assoc, List.take_append_drop]
theorem Mh.first (m : Mh ρ A B out i j) (hA : Asc ρ A) (hB : Asc ρ B) (h : ∀ x ∈ B.take j, ∀ y ∈ A.take i, ρ x ≤ ρ y) : Asc ρ (B.take j ++ A.take i ++ out) ∧ (B.take j ++ A.take i ++ out).Perm (A ++ B) := by
  constructor
  · refine List.pairwise_append.mpr ⟨List.pairwise_append.mpr ⟨asc_take hB j, asc_take hA i, h⟩, m.s, fun x hx y hy => ?_⟩
    rcases List.mem_append.mp hx with hx | hx
    · exact m.b x hx y hy
    · exact m.a x hx y hy
  · refine (m.p.append_left _).trans ?_
    rw [← List.append_assoc, List.append_assoc (B.take j), List.take_append_drop]
    refine (List.perm_append_comm.append_right _).trans ?_
    rw [List.append_assoc, List.take_append_drop]
end Ev
end
section
set_option Elab.async false
set_option linter.all false
set_option maxRecDepth 100000
namespace Ev
open PySem
open PyProof.Rows hiding St
section
variable {ρ : Keyed → Int}
end
section
variable {prog : Program} {w : World} {A : Around} {E : Value → Shared → Prop} {s : Shared} {κ : SortKind} {ρ : Keyed → Int} {a0 : Array Keyed} {pd : Array (Nat × Nat × Nat)} {g : Nat} {xs a b : Array Keyed}
theorem Mg.len {A B out : List Keyed} {i j : Nat} (m : Mg ρ A B out i j) (hi : i ≤ A.length) (hj : j ≤ B.length) : out.length = i + j := by
  rw [m.p.length_eq, List.length_append, List.length_take, List.length_take]
  omega

end
end Ev
end
section
set_option Elab.async false
set_option linter.all false
set_option maxRecDepth 100000
namespace Ev
open PySem
open PyProof.Rows hiding St
section
variable {prog : Program} {w : World} {A : Around} {E : Value → Shared → Prop} {s : Shared} {κ : SortKind} {ρ : Keyed → Int} {a0 : Array Keyed} {pd : Array (Nat × Nat × Nat)} {g : Nat} {xs a b : Array Keyed}
end
end Ev
end
section
set_option Elab.async false
set_option linter.all false
set_option maxRecDepth 100000
namespace Ev
open PySem
open PyProof.Rows hiding St
section
variable {prog : Program} {w : World} {A : Around} {E : Value → Shared → Prop} {s : Shared} {κ : SortKind} {ρ : Keyed → Int} {a0 : Array Keyed} {pd : Array (Nat × Nat × Nat)} {g : Nat} {xs a b : Array Keyed}
end
end Ev
end
section
set_option Elab.async false
set_option linter.all false
set_option maxRecDepth 100000
namespace Ev
open PySem
open PyProof.Rows hiding St
section
variable {ρ : Keyed → Int} {xs ys : Array Keyed}
end
section
variable {prog : Program} {w : World} {A : Around} {E : Value → Shared → Prop} {s : Shared} {κ : SortKind} {ρ : Keyed → Int} {a0 : Array Keyed} {pd : Array (Nat × Nat × Nat)} {g : Nat} {xs : Array Keyed}
end
end Ev
end
section
set_option Elab.async false
set_option linter.all false
set_option maxRecDepth 100000
namespace Ev
open PySem
open PyProof.Rows hiding St
def Runs (ρ : Keyed → Int) (xs : Array Keyed) : List (Nat × Nat × Nat) → Nat → Nat → Prop
  | [], a, b => a = b
  | (l, n, _) :: r, a, b => l = a ∧ 1 ≤ n ∧ Up ρ xs a (a + n) ∧ Runs ρ xs r (a + n) b
section
variable {ρ : Keyed → Int} {xs ys : Array Keyed}
theorem Runs.app : ∀ {A B : List (Nat × Nat × Nat)} {a b : Nat}, Runs ρ xs (A ++ B) a b ↔ ∃ k, Runs ρ xs A a k ∧ Runs ρ xs B k b
  | [], B, a, b => ⟨fun h => ⟨a, rfl, h⟩, fun ⟨k, h1, h2⟩ => by cases h1; exact h2⟩
  | (l, n, p) :: A, B, a, b => by
    constructor
    · rintro ⟨h1, h2, h3, h4⟩
      obtain ⟨k, h5, h6⟩ := Runs.app.mp h4
      exact ⟨k, ⟨h1, h2, h3, h5⟩, h6⟩
    · rintro ⟨k, ⟨h1, h2, h3, h5⟩, h6⟩
      exact ⟨h1, h2, h3, Runs.app.mpr ⟨k, h5, h6⟩⟩
theorem Runs.le : ∀ {A : List (Nat × Nat × Nat)} {a b : Nat}, Runs ρ xs A a b → a + A.length ≤ b
  | [], a, b, h => by cases h; simp
  | (l, n, p) :: A, a, b, ⟨h1, h2, h3, h4⟩ => by
    have := Runs.le h4
    simp
    omega
theorem Runs.out : ∀ {A : List (Nat × Nat × Nat)} {a b lo hi : Nat}, Runs ρ xs A a b → Out xs ys lo hi → b ≤ lo ∨ hi ≤ a → Runs ρ ys A a b
  | [], a, b, lo, hi, h, _, _ => h
  | (l, n, p) :: A, a, b, lo, hi, ⟨h1, h2, h3, h4⟩, o, hd => by
    have := Runs.le h4
    exact ⟨h1, h2, h3.out o (by omega), Runs.out h4 o (by omega)⟩
theorem Runs.at {pd : List (Nat × Nat × Nat)} {i a b : Nat} (h : Runs ρ xs pd a b) (hi : i + 1 < pd.length) : ∃ l n p m c q, pd[i]? = some (l, n, p) ∧ pd[i + 1]? = some (m, c, q) ∧ m = l + n ∧ 1 ≤ n ∧ 1 ≤ c ∧ a ≤ l ∧ m + c ≤ b ∧ Up ρ xs l m ∧ Up ρ xs m (m + c) ∧ Runs ρ xs (pd.take i) a l ∧ Runs ρ xs (pd.drop (i + 2)) (m + c) b := by
  have e : pd = pd.take i ++ (pd[i] :: pd[i + 1] :: pd.drop (i + 2)) := by
    conv => lhs; rw [← List.take_append_drop i pd]
    rw [List.drop_eq_getElem_cons (show i < pd.length by omega), List.drop_eq_getElem_cons (show i + 1 < pd.length by omega)]
  have h' := h
  rw [e] at h'
  obtain ⟨k, h1, h2⟩ := Runs.app.mp h'
  obtain ⟨⟨l, n, p⟩, e1⟩ : ∃ x, x = pd[i] := ⟨_, rfl⟩
  obtain ⟨⟨m, c, q⟩, e2⟩ : ∃ x, x = pd[i + 1] := ⟨_, rfl⟩
  rw [← e1, ← e2] at h2
  obtain ⟨rfl, n1, u1, rfl, c1, u2, h3⟩ := h2
  have l1 := Runs.le h1
  have l2 := Runs.le h3
  exact ⟨l, n, p, l + n, c, q, by rw [e1]; simp, by rw [e2]; simp, rfl, n1, c1, by omega, by omega, u1, u2, h1, h3⟩
end
section
variable {prog : Program} {w : World} {A : Around} {E : Value → Shared → Prop} {s : Shared} {κ : SortKind} {ρ : Keyed → Int} {a0 : Array Keyed} {pd : Array (Nat × Nat × Nat)} {g : Nat} {xs : Array Keyed}
end
end Ev
end
section
set_option Elab.async false
set_option linter.all false
set_option maxRecDepth 100000
namespace Ev
open PySem L2
open PyProof.Rows hiding St
section
variable {prog : Program} {w : World} {A : Around} {E : Value → Shared → Prop} {s : Shared}
end
end Ev
end
section
set_option Elab.async false
set_option linter.all false
set_option maxRecDepth 100000
namespace Ev
open PySem L2
open PyProof.Rows hiding St
inductive PF : List Int → List Int → Prop where
  | same (k : List Int) : PF k k
  | diff (p : List Int) {x y : Int} (q r : List Int) : x ≠ y → PF (p ++ x :: q) (p ++ y :: r)
theorem lexT_pre (p : List Int) : ∀ (a b : List Int), lexT (p ++ a) (p ++ b) = lexT a b := by
  induction p with
  | nil => intro a b; rfl
  | cons x p ih =>
    intro a b
    rw [List.cons_append, List.cons_append, lexT_cons, if_pos rfl]
    exact ih a b
theorem lexT_irr (a : List Int) : lexT a a = false := by
  cases h : lexT a a with
  | false => rfl
  | true => have := lexT_as h; rw [h] at this; cases this
theorem PF.app {k k' : List Int} (h : PF k k') (a b : List Int) : lexT (k ++ a) (k' ++ b) = if k = k' then lexT a b else lexT k k' := by
  cases h with
  | same => rw [if_pos rfl]; exact lexT_pre _ _ _
  | diff p q r hxy =>
    rw [if_neg (by
      intro e
      have := List.append_cancel_left e
      injection this with e1 _
      exact hxy e1)]
    rw [List.append_assoc, List.append_assoc, lexT_pre, lexT_pre]
    rw [List.cons_append, List.cons_append, lexT_cons, lexT_cons, if_neg hxy, if_neg hxy]
theorem PF.eqapp {k k' : List Int} (h : PF k k') (a b : List Int) : k ++ a = k' ++ b ↔ k = k' ∧ a = b := by
  constructor
  · intro e
    cases h with
    | same => exact ⟨rfl, List.append_cancel_left e⟩
    | diff p q r hxy =>
      rw [List.append_assoc, List.append_assoc] at e
      have := List.append_cancel_left e
      rw [List.cons_append, List.cons_append] at this
      injection this with e1 _
      exact absurd e1 hxy
  · rintro ⟨rfl, rfl⟩; rfl
theorem PF.more {k k' : List Int} (h : PF k k') {a b : List Int} (h2 : PF a b) : PF (k ++ a) (k' ++ b) := by
  cases h with
  | same =>
    cases h2 with
    | same => exact .same _
    | diff p q r hxy =>
      rw [← List.append_assoc, ← List.append_assoc]
      exact .diff _ _ _ hxy
  | diff p q r hxy =>
    rw [List.append_assoc, List.append_assoc, List.cons_append, List.cons_append]
    exact .diff _ _ _ hxy
theorem PF.cons {k k' : List Int} (h : PF k k') (x : Int) : PF (x :: k) (x :: k') := (PF.same [x]).more h
def strK (x : Str) : List Int := 3 :: (x.cps.toList.map (fun (c : Nat) => (c : Int) + 1) ++ [0])
def endK : List (List Int) → List Int
  | [] => [0]
  | k :: ks => k ++ endK ks
def tupK (ks : List (List Int)) : List Int := 2 :: endK ks
mutual

inductive KH (h : Heap) : Nat → Value → List Int → Prop where
  | int {n : Nat} (i : Int) (t : Tok) : KH h n (.int i t) [1, i]
  | str {n : Nat} (x : Str) (t : Tok) : KH h n (.str x t) (strK x)
  | tup {n : Nat} {a : Addr} {us : List Value} {ks : List (List Int)} : IsTup h a us.toArray → KHL h n us ks → KH h (n + 1) (.ref a) (tupK ks)
inductive KHL (h : Heap) : Nat → List Value → List (List Int) → Prop where
  | nil {n : Nat} : KHL h n [] []
  | cons {n : Nat} {u : Value} {k : List Int} {us : List Value} {ks : List (List Int)} : KH h n u k → KHL h n us ks → KHL h n (u :: us) (k :: ks)
end
theorem tup_keptS {h h' : Heap} {a : Addr} {us : Array Value} (t : IsTup h a us) (k : ∀ b o, h.get? b = some o → h'.get? b = some o) : IsTup h' a us := by
  obtain ⟨o, e, r⟩ := t
  exact ⟨o, k _ _ e, r⟩
mutual
theorem KH.keep {h h' : Heap} (kp : ∀ b o, h.get? b = some o → h'.get? b = some o) : ∀ {n : Nat} {u : Value} {k : List Int}, KH h n u k → KH h' n u k
  | _, _, _, .int i t => .int i t
  | _, _, _, .str x t => .str x t
  | _, _, _, .tup a l => .tup (tup_keptS a kp) (KHL.keep kp l)
theorem KHL.keep {h h' : Heap} (kp : ∀ b o, h.get? b = some o → h'.get? b = some o) : ∀ {n : Nat} {us : List Value} {ks : List (List Int)}, KHL h n us ks → KHL h' n us ks
  | _, _, _, .nil => .nil
  | _, _, _, .cons a b => .cons (KH.keep kp a) (KHL.keep kp b)
end
theorem KH.head {h : Heap} {n : Nat} {u : Value} {k : List Int} (a : KH h n u k) : ∃ x q, k = x :: q ∧ 0 < x := by
  cases a with
  | int i t => exact ⟨1, _, rfl, by decide⟩
  | str x t => exact ⟨3, _, rfl, by decide⟩
  | tup _ _ => exact ⟨2, _, rfl, by decide⟩
theorem strK_pf : ∀ (a b : List Nat), PF (a.map (fun (c : Nat) => (c : Int) + 1) ++ [0]) (b.map (fun (c : Nat) => (c : Int) + 1) ++ [0])
  | [], [] => .same _
  | [], y :: b => by
    have := PF.diff (x := 0) (y := (y : Int) + 1) [] [] (b.map (fun (c : Nat) => (c : Int) + 1) ++ [0]) (by omega)
    simpa using this
  | x :: a, [] => by
    have := PF.diff (x := (x : Int) + 1) (y := 0) [] (a.map (fun (c : Nat) => (c : Int) + 1) ++ [0]) [] (by omega)
    simpa using this
  | x :: a, y :: b => by
    by_cases e : x = y
    · subst e; exact (strK_pf a b).cons _
    · exact .diff (x := (x : Int) + 1) (y := (y : Int) + 1) [] (a.map (fun (c : Nat) => (c : Int) + 1) ++ [0]) (b.map (fun (c : Nat) => (c : Int) + 1) ++ [0]) (by omega)
mutual
theorem KH.pf {h : Heap} : ∀ {n m : Nat} {u v : Value} {k k' : List Int}, KH h n u k → KH h m v k' → PF k k'
  | _, _, _, _, _, _, .int i t, .int j u => by
    by_cases e : i = j
    · subst e; exact .same _
    · exact .diff [1] [] [] e
  | _, _, _, _, _, _, .str x t, .str y u => (strK_pf _ _).cons _
  | _, _, _, _, _, _, .tup _ a, .tup _ b => (KHL.pf a b).cons _
  | _, _, _, _, _, _, .int i t, .str y u => .diff [] _ _ (by decide)
  | _, _, _, _, _, _, .int i t, .tup _ b => .diff [] _ _ (by decide)
  | _, _, _, _, _, _, .str i t, .int y u => .diff [] _ _ (by decide)
  | _, _, _, _, _, _, .str i t, .tup _ b => .diff [] _ _ (by decide)
  | _, _, _, _, _, _, .tup _ b, .int y u => .diff [] _ _ (by decide)
  | _, _, _, _, _, _, .tup _ b, .str y u => .diff [] _ _ (by decide)
theorem KHL.pf {h : Heap} : ∀ {n m : Nat} {us vs : List Value} {ks ks' : List (List Int)}, KHL h n us ks → KHL h m vs ks' → PF (endK ks) (endK ks')
  | _, _, _, _, _, _, .nil, .nil => .same _
  | _, _, _, _, _, _, .nil, .cons a b => by
    obtain ⟨x, q, e, hx⟩ := a.head
    rw [show endK (_ :: _) = _ ++ endK _ from rfl, e]
    exact .diff (x := 0) (y := x) [] [] _ (by omega)
  | _, _, _, _, _, _, .cons a b, .nil => by
    obtain ⟨x, q, e, hx⟩ := a.head
    rw [show endK (_ :: _) = _ ++ endK _ from rfl, e]
    exact .diff (x := x) (y := 0) [] _ [] (by omega)
  | _, _, _, _, _, _, .cons a b, .cons c d => (KH.pf a c).more (KHL.pf b d)
end
theorem KHL.length {h : Heap} {n : Nat} : ∀ {us : List Value} {ks : List (List Int)}, KHL h n us ks → us.length = ks.length
  | _, _, .nil => rfl
  | _, _, .cons _ b => by simp [KHL.length b]
theorem strK_inj {x y : Str} (e : strK x = strK y) : x = y := by
  unfold strK at e
  injection e with _ e
  have e1 := List.append_cancel_right e
  have inj : ∀ (a b : List Nat), a.map (fun (c : Nat) => (c : Int) + 1) = b.map (fun (c : Nat) => (c : Int) + 1) → a = b := by
    intro a
    induction a with
    | nil => intro b h; cases b with
      | nil => rfl
      | cons _ _ => simp at h
    | cons x a ih => intro b h; cases b with
      | nil => simp at h
      | cons y b =>
        simp only [List.map_cons, List.cons.injEq] at h
        rw [ih b h.2]
        congr 1
        omega
  have e2 := inj _ _ e1
  cases x; cases y
  simp only [Str.mk.injEq]
  exact Array.toList_inj.mp e2
theorem endK_eq {h : Heap} {n m : Nat} : ∀ {us vs : List Value} {ks ks' : List (List Int)}, KHL h n us ks → KHL h m vs ks' → (endK ks = endK ks' ↔ ks = ks')
  | _, _, _, _, .nil, .nil => ⟨fun _ => rfl, fun _ => rfl⟩
  | _, _, _, _, .nil, .cons a b => by
    obtain ⟨x, q, e, hx⟩ := a.head
    refine ⟨fun z => ?_, fun z => (nomatch z)⟩
    rw [show endK (_ :: _) = _ ++ endK _ from rfl, e] at z
    injection z with z1 _
    omega
  | _, _, _, _, .cons a b, .nil => by
    obtain ⟨x, q, e, hx⟩ := a.head
    refine ⟨fun z => ?_, fun z => (nomatch z)⟩
    rw [show endK (_ :: _) = _ ++ endK _ from rfl, e] at z
    injection z with z1 _
    omega
  | _, _, _, _, .cons a b, .cons c d => by
    rw [show endK (_ :: _) = _ ++ endK _ from rfl, show endK (_ :: _) = _ ++ endK _ from rfl, (a.pf c).eqapp, endK_eq b d]
    simp
theorem all_range {ks ks' : List (List Int)} : (((List.range (min ks.length ks'.length)).all fun j => decide (ks[j]? = ks'[j]?)) && ks.length == ks'.length) = decide (ks = ks') := by
  by_cases e : ks = ks'
  · subst e
    simp
  · rw [decide_eq_false e]
    cases h : (((List.range (min ks.length ks'.length)).all fun j => decide (ks[j]? = ks'[j]?)) && ks.length == ks'.length) with
    | false => rfl
    | true =>
      exfalso
      simp only [Bool.and_eq_true, List.all_eq_true, List.mem_range, decide_eq_true_eq, beq_iff_eq] at h
      refine e (List.ext_getElem? fun j => ?_)
      by_cases hj : j < ks.length
      · exact h.1 j (by omega)
      · rw [List.getElem?_eq_none (by omega), List.getElem?_eq_none (by omega)]
mutual
theorem KH.uniq {h : Heap} : ∀ {n m : Nat} {u : Value} {k k' : List Int}, KH h n u k → KH h m u k' → k = k'
  | _, _, _, _, _, .int i t, .int _ _ => rfl
  | _, _, _, _, _, .str x t, .str _ _ => rfl
  | _, _, _, _, _, .tup a l, .tup a' l' => by
    obtain ⟨o, e1, e2, m, e3⟩ := a
    obtain ⟨o', e1', e2', m', e3'⟩ := a'
    rw [e1] at e1'
    cases e1'
    rw [e3] at e3'
    injection e3' with e4 _
    have e5 := congrArg Array.toList e4
    simp only [List.toList_toArray] at e5
    subst e5
    rw [KHL.uniq l l']
theorem KHL.uniq {h : Heap} : ∀ {n m : Nat} {us : List Value} {ks ks' : List (List Int)}, KHL h n us ks → KHL h m us ks' → ks = ks'
  | _, _, _, _, _, .nil, .nil => rfl
  | _, _, _, _, _, .cons a b, .cons c d => by rw [KH.uniq a c, KHL.uniq b d]
end
mutual

inductive KP (h : Heap) : Nat → Value → Value → List Int → List Int → Prop where
  | int {n : Nat} (i j : Int) (t t' : Tok) : KP h n (.int i t) (.int j t') [1, i] [1, j]
  | str {n : Nat} (x y : Str) (t t' : Tok) : KP h n (.str x t) (.str y t') (strK x) (strK y)
  | tup {n : Nat} {a b : Addr} {us vs : List Value} {ks ks' : List (List Int)} : IsTup h a us.toArray → IsTup h b vs.toArray → KPL h n us vs ks ks' → KP h (n + 1) (.ref a) (.ref b) (tupK ks) (tupK ks')
inductive KPL (h : Heap) : Nat → List Value → List Value → List (List Int) → List (List Int) → Prop where
  | left {n : Nat} {vs : List Value} {ks' : List (List Int)} : KHL h n vs ks' → KPL h n [] vs [] ks'
  | right {n : Nat} {us : List Value} {ks : List (List Int)} : KHL h n us ks → KPL h n us [] ks []
  | cons {n : Nat} {u v : Value} {k k' : List Int} {us vs : List Value} {ks ks' : List (List Int)} : KP h n u v k k' → KPL h n us vs ks ks' → KPL h n (u :: us) (v :: vs) (k :: ks) (k' :: ks')
end
mutual
theorem KP.l {h : Heap} : ∀ {n : Nat} {u v : Value} {k k' : List Int}, KP h n u v k k' → KH h n u k
  | _, _, _, _, _, .int i j t t' => .int i t
  | _, _, _, _, _, .str i j t t' => .str i t
  | _, _, _, _, _, .tup a b l => .tup a (KPL.l l)
theorem KPL.l {h : Heap} : ∀ {n : Nat} {u v : List Value} {k k' : List (List Int)}, KPL h n u v k k' → KHL h n u k
  | _, _, _, _, _, .left _ => .nil
  | _, _, _, _, _, .right x => x
  | _, _, _, _, _, .cons a b => .cons (KP.l a) (KPL.l b)
end
mutual
theorem KP.r {h : Heap} : ∀ {n : Nat} {u v : Value} {k k' : List Int}, KP h n u v k k' → KH h n v k'
  | _, _, _, _, _, .int i j t t' => .int j t'
  | _, _, _, _, _, .str i j t t' => .str j t'
  | _, _, _, _, _, .tup a b l => .tup b (KPL.r l)
theorem KPL.r {h : Heap} : ∀ {n : Nat} {u v : List Value} {k k' : List (List Int)}, KPL h n u v k k' → KHL h n v k'
  | _, _, _, _, _, .left x => x
  | _, _, _, _, _, .right _ => .nil
  | _, _, _, _, _, .cons a b => .cons (KP.r a) (KPL.r b)
end
mutual
theorem KP.keep {h h' : Heap} (kp : ∀ b o, h.get? b = some o → h'.get? b = some o) : ∀ {n : Nat} {u v : Value} {k k' : List Int}, KP h n u v k k' → KP h' n u v k k'
  | _, _, _, _, _, .int i j t t' => .int i j t t'
  | _, _, _, _, _, .str i j t t' => .str i j t t'
  | _, _, _, _, _, .tup a b l => .tup (tup_keptS a kp) (tup_keptS b kp) (KPL.keep kp l)
theorem KPL.keep {h h' : Heap} (kp : ∀ b o, h.get? b = some o → h'.get? b = some o) : ∀ {n : Nat} {u v : List Value} {k k' : List (List Int)}, KPL h n u v k k' → KPL h' n u v k k'
  | _, _, _, _, _, .left x => .left (x.keep kp)
  | _, _, _, _, _, .right x => .right (x.keep kp)
  | _, _, _, _, _, .cons a b => .cons (KP.keep kp a) (KPL.keep kp b)
end
theorem KPL.get {h : Heap} {n : Nat} : ∀ {us vs : List Value} {ks ks' : List (List Int)} {j : Nat} {u v : Value}, KPL h n us vs ks ks' → us[j]? = some u → vs[j]? = some v → ∃ k k', ks[j]? = some k ∧ ks'[j]? = some k' ∧ KP h n u v k k'
  | _, _, _, _, _, _, _, .left _, e, _ => by simp at e
  | _, _, _, _, _, _, _, .right _, _, e => by simp at e
  | _, _, _, _, 0, _, _, .cons a _, e, e' => by simp at e e'; subst e e'; exact ⟨_, _, rfl, rfl, a⟩
  | _, _, _, _, j + 1, u, v, .cons _ b, e, e' => by
    obtain ⟨k, k', h1, h2, h3⟩ := KPL.get (j := j) (u := u) (v := v) b (by simpa using e) (by simpa using e')
    exact ⟨k, k', by simpa using h1, by simpa using h2, h3⟩
theorem KP.eq : ∀ (n : Nat) {u v : Value} {k k' : List Int} {A : Around} {s : Shared}, KP s.heap n u v k k' → A.units + n < cLine → SeqAt.EqAt A s u v (decide (k = k')) := by
  intro n
  induction n with
  | zero =>
    intro u v k k' A s a hu
    cases a with
    | int i j t t' =>
      have := SeqAt.EqAt.int_int (A := A) (s := s) i t j t'
      rw [show decide ([1, i] = [1, j]) = (i == j) by simp [Bool.beq_eq_decide_eq]]
      exact this
    | str x y t t' =>
      have := SeqAt.EqAt.str_str (A := A) (s := s) x t y t'
      rw [show decide (strK x = strK y) = (x == y) by
        by_cases e : x = y
        · subst e; simp
        · rw [decide_eq_false (fun z => e (strK_inj z))]; symm; simpa using e]
      exact this
  | succ n ih =>
    intro u v k k' A s a hu
    cases a with
    | int i j t t' =>
      have := SeqAt.EqAt.int_int (A := A) (s := s) i t j t'
      rw [show decide ([1, i] = [1, j]) = (i == j) by simp [Bool.beq_eq_decide_eq]]
      exact this
    | str x y t t' =>
      have := SeqAt.EqAt.str_str (A := A) (s := s) x t y t'
      rw [show decide (strK x = strK y) = (x == y) by
        by_cases e : x = y
        · subst e; simp
        · rw [decide_eq_false (fun z => e (strK_inj z))]; symm; simpa using e]
      exact this
    | @tup _ x y us vs ks ks' ha hb l =>
      have la := l.l
      have lb := l.r
      have e : decide (tupK ks = tupK ks') = decide (ks = ks') := by
        have := endK_eq la lb
        unfold tupK
        by_cases q : ks = ks'
        · rw [decide_eq_true q, decide_eq_true (by rw [this.mpr q])]
        · rw [decide_eq_false q, decide_eq_false (fun z => q (this.mp (by injection z)))]
      rw [e]
      by_cases hxy : x = y
      · subst hxy
        have := KH.uniq (.tup ha la) (.tup hb lb)
        have : ks = ks' := (endK_eq la lb).mp (by unfold tupK at this; injection this)
        rw [decide_eq_true this]
        exact SeqAt.EqAt.same _
      · have r := SeqAt.RcAt.tuples (A := A) (s := s) (l := x) (b := y) (items := us.toArray) (items2 := vs.toArray) (e := fun j => decide (ks[j]? = ks'[j]?)) ha hb (by omega) fun j h1 h2 => by
          have q1 : us[j]? = some us.toArray[j] := by simp [show j < us.length by simpa using h1]
          have q2 : vs[j]? = some vs.toArray[j] := by simp [show j < vs.length by simpa using h2]
          obtain ⟨c1, c2, e1, e2, k1⟩ := l.get q1 q2
          have := ih k1 (A := A.in1) (by show A.units + 1 + n < cLine; omega)
          rw [e1, e2]
          simpa using this
        rw [List.size_toArray, List.size_toArray, la.length, lb.length, all_range] at r
        exact SeqAt.EqAt.of_refs hxy r

def LtAt (A : Around) (s : Shared) (u v : Value) (b : Bool) : Prop := ∀ (prog : Program) (w : World) (E Q : Value → Shared → Prop), Q (.bool b) s → wpAny (model prog w) A (richCompare .Lt u v) Q E s
inductive LexAt (A : Around) (s : Shared) : List Value → List Value → Bool → Prop where
  | nn : LexAt A s [] [] false
  | nc (v : Value) (vs : List Value) : LexAt A s [] (v :: vs) true
  | cn (v : Value) (vs : List Value) : LexAt A s (v :: vs) [] false
  | same {u v : Value} {us vs : List Value} {b : Bool} : SeqAt.EqAt A s u v true → LexAt A s us vs b → LexAt A s (u :: us) (v :: vs) b
  | diff {u v : Value} {us vs : List Value} {b : Bool} : SeqAt.EqAt A s u v false → LtAt A s u v b → LexAt A s (u :: us) (v :: vs) b
section
open PySem.SeqAt
open PySem.AutoSeq1 (wpAny_loadPart')
open PySem.MeetsSeq PySem.MeetsSeq2 PySem.MeetsSeq3
theorem tuple_lt_lex (l b : Addr) (its its2 : List Value) (n n2 : Nat) (dd dd2 : Option Addr) (sl sl2 : Array (Option Value)) (r : Bool) :
    Meets (Builtin.«tuple.__lt__» ⟨[.ref l, .ref b], []⟩)
      (fun A R s => s.heap.get? l = some { cls := .type "tuple", dict := dd, data := .seq its.toArray n, slots := sl } ∧ s.heap.get? b = some { cls := .type "tuple", dict := dd2, data := .seq its2.toArray n2, slots := sl2 } ∧
        LexAt A.in1 s its its2 r ∧ R (.ok (.ret (.bool r))) s) :=
  .of_wp fun prog w A R s h => by
    obtain ⟨hp, g, d, tk, os⟩ := s; obtain ⟨hl, hb, hx, h⟩ := h
    have f2 := AutoSeq1.sub_tuple_tuple
    have z1 : its.toArray.size = its.length := by simp
    have z2 : its2.toArray.size = its2.length := by simp
    wp_walk using wpAny_loadPart' hl, wpAny_loadPart' hb, wpAny_forIn_list _ (fun rest b s' => b.1 = none ∧ s' = ⟨hp, g, d, tk, os⟩ ∧ ∃ (vs ws : List Value), rest = vs.zip ws ∧ LexAt A.in1 ⟨hp, g, d, tk, os⟩ vs ws r ∧ vs.length + its2.length = ws.length + its.length) _
    case turn =>
      rintro ⟨y, x⟩ rest b s' ⟨hb', rfl, vs, ws, hz, hR, hlen⟩
      cases hR with
      | nn => rw [List.zip_nil_left] at hz; cases hz
      | nc => rw [List.zip_nil_left] at hz; cases hz
      | cn => rw [List.zip_nil_right] at hz; cases hz
      | same he hr =>
        rw [List.zip_cons_cons] at hz
        injection hz with hyx hrest
        injection hyx with hy hx
        subst hy hx
        simp only [List.length_cons] at hlen
        refine wpAny_bind (he prog w _ _ ?_)
        wp_walk
        exact ⟨rfl, rfl, _, _, hrest, hr, by omega⟩
      | diff he hr =>
        rw [List.zip_cons_cons] at hz
        injection hz with hyx hrest
        injection hyx with hy hx
        subst hy hx
        refine wpAny_bind (he prog w _ _ ?_)
        have hri := hr prog w
        wp_walk using hri
        exact ⟨_, rfl, by simpa using h⟩
    case fin =>
      rintro ⟨b1, b2⟩ s' ⟨hb', rfl, vs, ws, hz, hR, hlen⟩
      simp only at hb'
      subst hb'
      have hv : r = decide (its.toArray.size < its2.toArray.size) := by
        rw [z1, z2]
        cases hR with
        | nn =>
          simp only [List.length_nil] at hlen
          exact (decide_eq_false (by omega)).symm
        | nc v vs =>
          simp only [List.length_nil, List.length_cons] at hlen
          exact (decide_eq_true (by omega)).symm
        | cn v vs =>
          simp only [List.length_nil, List.length_cons] at hlen
          exact (decide_eq_false (by omega)).symm
        | same _ _ => rw [List.zip_cons_cons] at hz; cases hz
        | diff _ _ => rw [List.zip_cons_cons] at hz; cases hz
      rw [hv] at h
      wp_walk
      exact ⟨_, rfl, by simpa [Builtin.Tuple.tupleCompareSizes] using h⟩
    case h =>
      exact ⟨rfl, rfl, its, its2, by simp, hx, by omega⟩
end
theorem LtAt.tuples {A : Around} {s : Shared} {l b : Addr} {us vs : List Value} {r : Bool} (hl : IsTup s.heap l us.toArray) (hb : IsTup s.heap b vs.toArray) (hx : LexAt A.in1 s us vs r) (hu : A.units < cLine) : LtAt A s (.ref l) (.ref b) r := fun prog w E Q h => by
  obtain ⟨⟨cls, dd, data, sl⟩, ho, hc, n, hd⟩ := id hl
  obtain ⟨⟨cls2, dd2, data2, sl2⟩, ho2, hc2, n2, hd2⟩ := id hb
  simp only at hc hd hc2 hd2
  subst hc hd hc2 hd2
  exact richCompare_meets_room (op := .Lt) ⟨_, ho, rfl⟩ ⟨_, ho2, rfl⟩ PySem.F.slot_tuple_lt PySem.F.entry_tuple_lt (PySem.F.args_tuple_lt_2 _ _) (tuple_lt_lex l b us vs n n2 dd dd2 sl sl2 r)
    ⟨ho, ho2, hx, show Value.bool r ≠ Value.notImplemented ∧ Q (.bool r) s from ⟨(fun x => nomatch x), h⟩⟩ hu
theorem lexT_strK : ∀ (a b : List Nat), lexT (a.map (fun (c : Nat) => (c : Int) + 1) ++ [0]) (b.map (fun (c : Nat) => (c : Int) + 1) ++ [0]) = decide (a < b)
  | [], [] => by simp [lexT_cons, lexT_nil_nil]
  | [], y :: b => by
    rw [List.map_nil, List.nil_append, List.map_cons, List.cons_append, lexT_cons, if_neg (by omega)]
    rw [decide_eq_true (show (0 : Int) < (y : Int) + 1 by omega), decide_eq_true (List.nil_lt_cons _ _)]
  | x :: a, [] => by
    rw [List.map_nil, List.nil_append, List.map_cons, List.cons_append, lexT_cons, if_neg (by omega)]
    rw [decide_eq_false (show ¬ (x : Int) + 1 < 0 by omega), decide_eq_false (List.not_lt_nil _)]
  | x :: a, y :: b => by
    rw [List.map_cons, List.cons_append, List.map_cons, List.cons_append, lexT_cons]
    by_cases e : x = y
    · subst e
      rw [if_pos rfl, lexT_strK a b]
      simp [List.cons_lt_cons_iff]
    · rw [if_neg (by omega)]
      by_cases h : x < y
      · rw [decide_eq_true (show (x : Int) + 1 < (y : Int) + 1 by omega), decide_eq_true (List.cons_lt_cons_iff.mpr (.inl h))]
      · rw [decide_eq_false (show ¬ (x : Int) + 1 < (y : Int) + 1 by omega), decide_eq_false (fun z => by
          rcases List.cons_lt_cons_iff.mp z with z | z
          · exact h z
          · exact e z.1)]
theorem KPL.lex {n : Nat} {A : Around} {s : Shared} (hp : ∀ {u v : Value} {k k' : List Int}, KP s.heap n u v k k' → SeqAt.EqAt A s u v (decide (k = k')) ∧ LtAt A s u v (lexT k k')) : ∀ {us vs : List Value} {ks ks' : List (List Int)}, KPL s.heap n us vs ks ks' → LexAt A s us vs (lexT (endK ks) (endK ks'))
  | _, _, _, _, .left x => by
    cases x with
    | nil => rw [lexT_irr]; exact .nn
    | cons a b =>
      obtain ⟨y, q, e, hy⟩ := a.head
      rw [show endK (_ :: _) = _ ++ endK _ from rfl, e, show endK [] = [0] from rfl, List.cons_append, lexT_cons, if_neg (by omega), decide_eq_true hy]
      exact .nc _ _
  | _, _, _, _, .right x => by
    cases x with
    | nil => rw [lexT_irr]; exact .nn
    | cons a b =>
      obtain ⟨y, q, e, hy⟩ := a.head
      rw [show endK (_ :: _) = _ ++ endK _ from rfl, e, show endK [] = [0] from rfl, List.cons_append, lexT_cons, if_neg (by omega), decide_eq_false (by omega)]
      exact .cn _ _
  | _, _, _, _, .cons a b => by
    have h1 := hp a
    rw [show endK (_ :: _) = _ ++ endK _ from rfl, show endK (_ :: _) = _ ++ endK _ from rfl, (a.l.pf a.r).app]
    split
    · rename_i e
      rw [decide_eq_true e] at h1
      exact .same h1.1 (KPL.lex hp b)
    · rename_i e
      rw [decide_eq_false e] at h1
      exact .diff h1.1 h1.2
theorem LtAt.int {A : Around} {s : Shared} (i j : Int) (t t' : Tok) : LtAt A s (.int i t) (.int j t') (lexT [1, i] [1, j]) := fun prog w E Q h => by
  have e : lexT [1, i] [1, j] = decide (i < j) := by
    rw [lexT_cons, if_pos rfl, lexT_cons]
    split
    · rename_i e; subst e; rw [lexT_nil_nil]; simp
    · rfl
  rw [e] at h
  exact HT.rcLt_int A s i t j t' prog w E Q h
theorem LtAt.str {A : Around} {s : Shared} (i j : Str) (t t' : Tok) : LtAt A s (.str i t) (.str j t') (lexT (strK i) (strK j)) := fun prog w E Q h => by
  have e : lexT (strK i) (strK j) = decide (i.cps.toList < j.cps.toList) := by
    unfold strK
    rw [lexT_cons, if_pos rfl, lexT_strK]
  rw [e] at h
  exact (PyProof.Rows.lt_str h : wpAny (model prog w) A (compareOp .Lt _ _) Q E s)
theorem KP.lt : ∀ (n : Nat) {u v : Value} {k k' : List Int} {A : Around} {s : Shared}, KP s.heap n u v k k' → A.units + n < cLine → LtAt A s u v (lexT k k') := by
  intro n
  induction n with
  | zero =>
    intro u v k k' A s a hu
    cases a with
    | int i j t t' => exact .int i j t t'
    | str i j t t' => exact .str i j t t'
  | succ n ih =>
    intro u v k k' A s a hu
    cases a with
    | int i j t t' => exact .int i j t t'
    | str i j t t' => exact .str i j t t'
    | @tup _ x y us vs ks ks' ha hb l =>
      have hu' : A.in1.units + n < cLine := by show A.units + 1 + n < cLine; omega
      refine .tuples ha hb ?_ (by omega)
      unfold tupK
      rw [lexT_cons, if_pos rfl]
      exact l.lex fun q => ⟨KP.eq n q hu', ih q hu'⟩
end Ev
end
section
set_option Elab.async false
set_option linter.all false
set_option maxRecDepth 100000
namespace Ev
open PySem L2
open PyProof.Rows hiding St
open PySem.W (KatLex KatTups Looks)
section
variable [Tabs] [Clos]
variable {prog : Program} {w : World} {A : Around} {E : Value → Shared → Prop} {s : Shared}
def OneAt (A : Around) (s : Shared) (u v : Value) (b : Bool) : Prop := ∀ (prog : Program) (w : World) (E : Value → Shared → Prop) (Q : Bool → Shared → Prop), Q b s → wpAny (model prog w) A (oneLt' true u v) Q E s
theorem LtAt.one {u v : Value} {b : Bool} {Q : Bool → Shared → Prop} (h : LtAt A s u v b) (q : Q b s) : wpAny (model prog w) A (oneLt' false u v) Q E s :=
  PySem.W.kat_one _ _ (h prog w E (PySem.W.BoolBack Q) q)
theorem LexAt.kat {bb : Bool} {Q : Bool → Shared → Prop} {us vs : List Value} {r : Bool} (h : LexAt A s us vs r) : ∀ (i : Nat), (bb && i == 0) = false → Q r s → KatLex prog w A bb (decide (us.length < vs.length)) Q (us.zip vs) i s := by
  induction h with
  | nn => intro i hi q; exact PySem.W.kat_nil q
  | nc v vs => intro i hi q; exact PySem.W.kat_nil (by simpa using q)
  | cn v vs => intro i hi q; exact PySem.W.kat_nil (by simpa using q)
  | same he _ ih =>
    intro i hi q
    refine PySem.W.kat_cons (he prog w _ _ (PySem.W.kat_yes ?_))
    have := ih (i + 1) (by simp) q
    rw [List.length_cons, List.length_cons, decide_eq_decide.mpr (Nat.add_lt_add_iff_right (k := 1))]
    exact this
  | diff he hl =>
    intro i hi q
    refine PySem.W.kat_cons (he prog w _ _ (PySem.W.kat_no ?_))
    rw [hi]
    exact hl.one q
theorem OneAt.int (i j : Int) (t t' : Tok) : OneAt A s (.int i t) (.int j t') (lexT [1, i] [1, j]) := fun prog w E Q h => by
  have e : lexT [1, i] [1, j] = decide (i < j) := by
    rw [lexT_cons, if_pos rfl, lexT_cons]
    split
    · rename_i e; subst e; rw [lexT_nil_nil]; simp
    · rfl
  rw [e] at h
  exact oneLt_int h
theorem OneAt.str (i j : Str) (t t' : Tok) : OneAt A s (.str i t) (.str j t') (lexT (strK i) (strK j)) := fun prog w E Q h => by
  have e : lexT (strK i) (strK j) = decide (i.cps.toList < j.cps.toList) := by
    unfold strK
    rw [lexT_cons, if_pos rfl, lexT_strK]
  rw [e] at h
  exact oneLt_str h
theorem KP.one {n : Nat} {u v : Value} {k k' : List Int} (a : KP s.heap n u v k k') (hn : ∀ x, u ≠ .ref x) : OneAt A s u v (lexT k k') := by
  cases a with
  | int i j t t' => exact .int i j t t'
  | str i j t t' => exact .str i j t t'
  | tup _ _ _ => exact absurd rfl (hn _)
end
end Ev
end
section
set_option Elab.async false
set_option linter.all false
set_option maxRecDepth 100000
set_option maxHeartbeats 2000000
namespace Ev
open PySem L2
open PyProof.Rows hiding St
def insB {α : Type} (key : α → List Int) (x : α) : List α → List α
  | [] => [x]
  | y :: r => if lexT (key y) (key x) = true then y :: insB key x r else x :: y :: r
def sortB {α : Type} (key : α → List Int) : List α → List α
  | [] => []
  | x :: r => insB key x (sortB key r)
def Ups {α : Type} (key : α → List Int) (xs : List α) : Prop := xs.Pairwise fun a b => lexT (key b) (key a) = false
section
variable {α : Type} {key : α → List Int}
theorem insB_perm (x : α) : ∀ (l : List α), (insB key x l).Perm (x :: l)
  | [] => .refl _
  | y :: r => by
    unfold insB
    split
    · exact ((insB_perm x r).cons y).trans (.swap _ _ _)
    · exact .refl _
theorem sortB_perm : ∀ (l : List α), (sortB key l).Perm l
  | [] => .refl _
  | x :: r => (insB_perm x _).trans ((sortB_perm r).cons x)
theorem insB_ups (x : α) : ∀ {l : List α}, Ups key l → Ups key (insB key x l)
  | [], _ => by simp [insB, Ups]
  | y :: r, h => by
    have h' := List.pairwise_cons.mp h
    unfold insB
    split
    · rename_i e
      refine List.pairwise_cons.mpr ⟨fun z hz => ?_, insB_ups x h'.2⟩
      rcases List.mem_cons.mp ((insB_perm x r).mem_iff.mp hz) with rfl | hz
      · exact lexT_as e
      · exact h'.1 z hz
    · rename_i e
      have e : lexT (key y) (key x) = false := by simpa using e
      refine List.pairwise_cons.mpr ⟨fun z hz => ?_, h⟩
      rcases List.mem_cons.mp hz with rfl | hz
      · exact e
      · exact lexT_tr e (h'.1 z hz)
theorem sortB_ups : ∀ (l : List α), Ups key (sortB key l)
  | [] => .nil
  | x :: r => insB_ups x (sortB_ups r)

end
def keyO : Nat → D → Option (List Int)
  | _, .int i => some [1, i]
  | _, .str x => some (strK x)
  | k + 1, .tup xs => (xs.mapM (keyO k)).map tupK
  | _, _ => none
theorem mapM_cons_some {α β : Type} {f : α → Option β} {x : α} {xs : List α} {r : List β} (h : (x :: xs).mapM f = some r) : ∃ y ys, f x = some y ∧ xs.mapM f = some ys ∧ r = y :: ys := by
  rw [List.mapM_cons] at h
  cases h1 : f x with
  | none => rw [h1] at h; cases h
  | some y =>
    rw [h1] at h
    cases h2 : xs.mapM f with
    | none => rw [h2] at h; cases h
    | some ys => rw [h2] at h; cases h; exact ⟨y, ys, rfl, rfl, rfl⟩
section
variable [Tabs] [Clos] {X : Cx} {pins : List (Addr × Obj)} {σ : L2.St} {H : Hp} {s : Shared} {p : List Addr}
end
end Ev
end
section
set_option Elab.async false
set_option linter.all false
set_option maxRecDepth 100000
set_option maxHeartbeats 2000000
namespace Ev
open PySem L2
open PyProof.Rows hiding St
section
variable {prog : Program} {w : World} {A : Around} {E : Value → Shared → Prop} {s : Shared}
end
def keyK (d : D) : List Int := (keyO 9 d).getD []
section
variable [Tabs] [Clos] {X : Cx} {cl : Cls} {E : XK}
end
end Ev
end
section
set_option Elab.async false
set_option linter.all false
set_option maxRecDepth 100000
set_option maxHeartbeats 2000000
namespace Ev
open PySem L2
open PyProof.Rows hiding St
section
variable {prog : Program} {w : World} {A : Around} {E : Value → Shared → Prop} {s : Shared}
variable [AdrP]
variable [Tabs] [Clos]
end
end Ev
end
section
set_option Elab.async false
set_option linter.all false
set_option maxRecDepth 100000
set_option maxHeartbeats 2000000
namespace L2
open PySem
open PyProof.Rows hiding St
section
variable {X : Cx}
end
end L2
end
section
set_option Elab.async false
set_option linter.all false
set_option maxRecDepth 100000
set_option maxHeartbeats 2000000
namespace Ev
open PySem L2 PySem.SetTable
open PyProof.Rows hiding St
inductive EntH (prog : Program) (w : World) (H : Hp) : List (Int × Value) → List (List Int) → Prop
  | nil : EntH prog w H [] []
  | cons {k : List Int} {b : Addr} {es : List (Int × Value)} {ks : List (List Int)} : H b = some (.tup (k.map V.int)) → EntH prog w H es ks → EntH prog w H ((hsT prog w k, .ref b) :: es) (k :: ks)
structure SetO (prog : Program) (w : World) (H : Hp) (o : Obj) (kl : List (List Int)) : Prop where
  ex : ∃ es ep t, o.ExactSet ∧ o.data = .set es ep t ∧ Tab t es ∧ t.plain = true ∧ (t.mask = 7 ∨ t.mask = 31 ∨ t.mask = 127) ∧ es.size * 5 < t.mask * 3 ∧ EntH prog w H es.toList kl ∧ t.led = ledW w
def SetH (prog : Program) (w : World) (H : Hp) (a : Addr) (kl : List (List Int)) : Prop := ∃ o kl', H a = some (.ext (objX a o)) ∧ SetO prog w H o kl' ∧ kl'.Perm kl ∧ ∃ h : Heap, h.get? a = some o
theorem EntH.ext {prog : Program} {w : World} {H H' : Hp} {es : List (Int × Value)} {ks : List (List Int)} (x : EntH prog w H es ks) (k : ∀ b vs, H b = some (.tup vs) → H' b = some (.tup vs)) : EntH prog w H' es ks := by
  induction x with
  | nil => exact .nil
  | cons h _ ih => exact .cons (k _ _ h) ih
theorem SetO.ext {prog : Program} {w : World} {H H' : Hp} {o : Obj} {ks : List (List Int)} (x : SetO prog w H o ks) (k : ∀ b vs, H b = some (.tup vs) → H' b = some (.tup vs)) : SetO prog w H' o ks := by
  obtain ⟨es, ep, t, h1, h2, h3, h4, h5, h6, h7, h8⟩ := x.ex
  exact ⟨es, ep, t, h1, h2, h3, h4, h5, h6, h7.ext k, h8⟩
theorem SetH.ext {prog : Program} {w : World} {H H' : Hp} {a : Addr} {ks : List (List Int)} (x : SetH prog w H a ks) (e : Ext H H') : SetH prog w H' a ks := by
  obtain ⟨o, kl', h1, h2, h3⟩ := x
  exact ⟨o, kl', e.ext _ _ h1, h2.ext e.tup, h3⟩
section
variable {X : Cx} {pins : List (Addr × Obj)} {σ : L2.St} {H : Hp} {s : Shared}
end
end Ev
end
section
set_option Elab.async false
set_option linter.all false
set_option maxRecDepth 100000
set_option maxHeartbeats 3200000
namespace Ev
open PySem PySem.SetTable
open PyProof.Rows hiding St
section
variable [AdrP]
variable {prog : Program} {w : World} {A : Around} {E : Value → Shared → Prop} {s : Shared}
end
end Ev
end
section
set_option Elab.async false
set_option linter.all false
set_option maxRecDepth 100000
set_option maxHeartbeats 2000000
namespace Ev
open PySem L2 PySem.SetTable
open PyProof.Rows hiding St
section
variable {X : Cx} {pins : List (Addr × Obj)} {σ : L2.St} {H : Hp} {s : Shared} {h' : Heap}
end
variable [Tabs] [Clos] {X : Cx} {cl : Cls} {E : XK}
end Ev
end
section
set_option Elab.async false
set_option linter.all false
set_option maxRecDepth 100000
set_option maxHeartbeats 2000000
namespace Ev
open PySem L2 PySem.SetTable
open PyProof.Rows hiding St
variable [Tabs] [Clos] {X : Cx} {cl : Cls} {E : XK}
end Ev
end
section
set_option Elab.async false
set_option linter.all false
set_option maxRecDepth 100000
set_option maxHeartbeats 2000000
namespace Ev
open PySem L2 PySem.SetTable
open PyProof.Rows hiding St
section
variable {prog : Program} {w : World} {A : Around} {E : Value → Shared → Prop} {R : Result → Shared → Prop} {s : Shared}
end
variable [Tabs] [Clos] {X : Cx} {cl : Cls} {E : XK}
section
variable {K : PySem.W.Frag} {H H' : Hp} {p : List Addr}
end
end Ev
end
section
set_option Elab.async false
set_option linter.all false
set_option maxRecDepth 100000
set_option maxHeartbeats 2000000
namespace Ev
open PySem L2
open PyProof.Rows hiding St
section
variable {prog : Program} {w : World} {A : Around} {E : Value → Shared → Prop} {s : Shared}
end
section
variable [Tabs] [Clos] {X : Cx} {cl : Cls} {E : XK}
end
end Ev
end
section
set_option Elab.async false
set_option linter.all false
set_option maxRecDepth 100000
set_option maxHeartbeats 2000000
namespace Ev
open PySem L2
open PyProof.Rows hiding St
variable [Tabs] [Clos] {X : Cx} {cl : Cls} {E : XK}
abbrev neL : List Int → Bool := fun is => !is.isEmpty
end Ev
end
section
set_option Elab.async false
set_option linter.all false
set_option maxRecDepth 100000
set_option maxHeartbeats 2000000
namespace L2
open PySem PySem.Spec PyProof.Rows
section
variable {X : Cx} {pins : List (Addr × Obj)} {σ : St} {H : Hp} {s : Shared} {A : Around} {E : Value → Shared → Prop} {a : Addr} {y v : V} {u r : Value}
end
section
variable {X : Cx}
end
end L2
namespace Ev
open PySem L2
open PyProof.Rows hiding St
section
variable {prog : Program} {w : World} {A : Around} {E : Value → Shared → Prop} {R : Result → Shared → Prop} {s : Shared}
end
variable [Tabs] [Clos] {X : Cx} {cl : Cls} {E : XK}
end Ev
end
section
set_option Elab.async false
set_option linter.all false
set_option maxRecDepth 100000
set_option maxHeartbeats 2000000
namespace Ev
open PySem L2
open PyProof.Rows hiding St
variable [Tabs] [Clos] {X : Cx} {cl : Cls} {E : XK}
end Ev
end
section
set_option Elab.async false
set_option linter.all false
set_option maxRecDepth 100000
set_option maxHeartbeats 1000000
namespace Ev
open PySem L2
open PyProof.Rows hiding St
def backC (S : Sto) (m : Nat) (c : Cell) : Cell := match S[m]? with
  | some (.clo k) => .clo k
  | _ => c.kill
def backS (S S1 : Sto) : Sto := S1.mapIdx (backC S)
def runFB (n : Nat) (fb : SM) : Fn := fun ds S => match fb (ds.map some ++ List.replicate (n - ds.length) none) (killS S) with
  | some (.ok (.rt d), S1) => some (.ok d, backS S S1)
  | some (.ok (.nx _), S1) => some (.ok .non, backS S S1)
  | some (.ex e, S1) => some (.ex e, backS S S1)
  | _ => none
theorem backS_get {S S1 : Sto} {m : Nat} : (backS S S1)[m]? = (S1[m]?).map (backC S m) := by
  unfold backS
  rw [List.getElem?_mapIdx]
section
variable [T : Tabs]
theorem post_back {J I : Clos} {K : PySem.W.Frag} {H H' : Hp} {p p' : List Addr} {S S1 : Sto} (t : @StoOk T I K H p S) (q : @Post T J K H p H' p' S1) : @Post T I K H p H' p' (backS S S1) := by
  obtain ⟨ex, pre, nw, ⟨tab, len, nd, cell⟩⟩ := q
  refine ⟨ex, pre, nw, tab, len.trans (List.length_mapIdx (f := backC S) (l := S1)).symm, nd, fun n a c e1 e2 => ?_⟩
  rw [backS_get] at e2
  cases e : S1[n]? with
  | none => rw [e] at e2; cases e2
  | some c0 =>
    rw [e] at e2
    have e2 : backC S n c0 = c := by simpa using e2
    have z := cell n a c0 e1 e
    have rest : @CellOk I K H' p' a c0.kill := by
      cases c0 with
      | lst ds => exact z
      | dk ds => exact z
      | dt ds => exact z
      | clo k => obtain ⟨o, c, h1, _⟩ := z; exact ⟨_, h1⟩
      | dead => exact z
      | dz ds => exact z
    subst e2
    unfold backC
    split
    · rename_i k hk
      obtain ⟨w, hw⟩ := pre
      have hn : n < p.length := by rw [t.len]; exact (List.getElem?_eq_some_iff.mp hk).1
      have e1' : p[n]? = some a := by rw [hw, List.getElem?_append_left hn] at e1; exact e1
      obtain ⟨o, c, h1, h2, h3⟩ := t.cell n a _ e1' hk
      exact ⟨o, c, ex.ext _ _ h1, ex.ext _ _ h2, h3⟩
    · exact rest
theorem G_back {J I : Clos} {K : PySem.W.Frag} {cl : Cls} {E : XK} {H : Hp} {p : List Addr} {fb : SM} {n : Nat} {ds : List D} {S : Sto} {Q : VK} (t : @StoOk T I K H p S) (g : @G T I D V K cl E (Rep K) H p (runFB n fb ds S) Q) :
    @G T J FD FV K cl E (FRep K) H p (fb (ds.map some ++ List.replicate (n - ds.length) none) (killS S)) (QD { nx := fun _ H' => Q .non H', rt := Q }) := by
  unfold runFB at g
  cases hf : fb (ds.map some ++ List.replicate (n - ds.length) none) (killS S) with
  | none => rw [hf] at g; exact g.none.elim
  | some z =>
    obtain ⟨z, S1⟩ := z
    rw [hf] at g
    obtain ⟨y, S', e1, h⟩ := g
    cases z with
    | ex ex =>
      cases e1
      exact ⟨_, _, rfl, fun c dx H' p' q r => h c dx H' p' (post_back t q) r⟩
    | ok fl =>
      cases fl with
      | nx L1 =>
        cases e1
        refine ⟨_, _, rfl, fun b H' p' q r => ?_⟩
        cases r with
        | nx l1 => exact h _ H' p' (post_back t q) .non
      | rt d =>
        cases e1
        refine ⟨_, _, rfl, fun b H' p' q r => ?_⟩
        cases r with
        | rt r1 => exact h _ H' p' (post_back t q) r1
      | bk _ => cases e1
      | ct _ => cases e1
theorem fun_okB {I : Clos} {P : Program} {w : World} {K : PySem.W.Frag} {mg : Str → Option Value} {base : Heap} {cl : Cls} {x qual : Str} {st : Stmt} {f : Addr} {fd : FuncData} {N ps : List Str} {k : Nat} {fb : SM} {n : Nat} {c : Addr} (pr : Nat → Arguments) (bd : Nat → Expr) (sc : Nat → Scope) (F : Fun K x qual st f fd) (hc : fd.code = .ref c) (S : FnScope N ps (defScope st)) (hn : ps.length = n)
    (hbody : ∀ (A : Around) (outer : List Env) (s : Shared) (H : Hp) (E : XK) (J : Clos), (∀ k, J.q k = (cxOf (CXR P w) P w K mg base N qual (defScope st) f (.ref c) A outer s H E).env.qual ++ "<lambda>") → (∀ k c' o, J.clo k c' o ↔ ∃ ctv, o = lamObj (cxOf (CXR P w) P w K mg base N qual (defScope st) f (.ref c) A outer s H E) (pr k) (bd k) (sc k) c' ctv) → Room k (A.deeper (envOfC qual (defScope st) s.heap.objs.size f (.ref c))) → @EvB T J (cxOf (CXR P w) P w K mg base N qual (defScope st) f (.ref c) A outer s H E) cl E (defBody st) fb) :
    FnOk P w K mg base (CXR P w) (k + 1) f fd ps (@spOf T I K cl n (runFB N.length fb)) := by
  obtain ⟨oc, od, kV, doc, pm, an, cdv, ct, osl, rfl, lk, hcd⟩ := F.ex
  cases (show cdv = .ref c from hc)
  refine fn_of lk hcd S (fun vs H Q E ⟨p, S, ds, _, l, e, _⟩ => ?_) fun A outer s H vs Q E hr ⟨p, S, ds, t, l, e, g⟩ => ?_
  · rw [← l.len, e, hn]
  · obtain ⟨hb⟩ := hbody A outer s H E (closOf (cxOf (CXR P w) P w K mg base N qual (defScope st) f (.ref c) A outer s H E) pr bd sc) (fun _ => rfl) (fun _ _ _ => Iff.rfl) hr
    refine ⟨_, hb, p, ds.map some ++ List.replicate (N.length - ds.length) none, killS S, ?_, sto_kill t, ?_⟩
    · exact ⟨(start_ok (K := K) (H := H) (p := p) (N := N) l).len, (start_ok (K := K) (H := H) (p := p) (N := N) l).get⟩
    · exact G_back t g
theorem def_okB {I : Clos} {P : Program} {w : World} {K : PySem.W.Frag} {mg : Str → Option Value} {base : Heap} {cl : Cls} {x : Str} {st : Stmt} {N ps : List Str} {k n : Nat} {fb : SM} {c : Addr} (pr : Nat → Arguments) (bd : Nat → Expr) (sc : Nat → Scope) (D : DefAtC K mg x st ps c) (S : FnScope N ps (defScope st)) (hn : ps.length = n)
    (hbody : ∀ (f : Addr) (A : Around) (outer : List Env) (s : Shared) (H : Hp) (E : XK) (J : Clos), (∀ k, J.q k = (cxOf (CXR P w) P w K mg base N x (defScope st) f (.ref c) A outer s H E).env.qual ++ "<lambda>") → (∀ k c' o, J.clo k c' o ↔ ∃ ctv, o = lamObj (cxOf (CXR P w) P w K mg base N x (defScope st) f (.ref c) A outer s H E) (pr k) (bd k) (sc k) c' ctv) → Room k (A.deeper (envOfC x (defScope st) s.heap.objs.size f (.ref c))) → @EvB T J (cxOf (CXR P w) P w K mg base N x (defScope st) f (.ref c) A outer s H E) cl E (defBody st) fb) :
    @Cal T I P w K mg base cl x (k + 1) n (runFB N.length fb) := by
  obtain ⟨f, fd, F, hm, hb, hc⟩ := D.ex
  exact ⟨f, fd, ps, fun_okB pr bd sc F hc S hn fun A outer s H E J hq hJ hr => hbody f A outer s H E J hq hJ hr, hm, F.kp, hb⟩
end
end Ev
end
section
set_option Elab.async false
set_option linter.all false
set_option maxRecDepth 100000
set_option maxHeartbeats 1000000
namespace Ev
open PySem L2
variable [Tabs] [Clos] {X : Cx} {cl : Cls} {E : XK} {pos : Pos}
end Ev
end
section
set_option Elab.async false
set_option linter.all false
set_option maxRecDepth 100000
set_option maxHeartbeats 1000000
namespace L2
open PySem PySem.Spec PyProof.Rows
section
variable {X : Cx} {pins : List (Addr × Obj)} {σ : St} {A : Around} {E : Value → Shared → Prop} {a : Addr}
end
end L2
namespace Ev
open PySem L2
open PyProof.Rows hiding St
variable [Tabs] [Clos] {X : Cx} {cl : Cls} {E : XK} {pos : Pos}
end Ev
end
section
set_option Elab.async false
set_option linter.all false
set_option maxRecDepth 100000
set_option maxHeartbeats 1000000
namespace Ev
open PySem L2
open PyProof.Rows hiding St
variable [Tabs] [Clos] {X : Cx} {cl : Cls} {E : XK} {pos : Pos}
end Ev
end
section
set_option Elab.async false
set_option linter.all false
set_option maxRecDepth 100000
set_option maxHeartbeats 1000000
namespace PySem.AutoSeq1
open PySem PySem.Calls PySem.F
end PySem.AutoSeq1
namespace PySem
open Sem (wp)
open AutoSeq1 (wpAny_loadPart')
section
variable {prog : Program} {w : World} {A : Around} {E : Value → Shared → Prop} {s : Shared}
end
section
variable {prog : Program} {w : World} {A : Around} {E : Value → Shared → Prop} {s : Shared}
end
end PySem
end
section
set_option Elab.async false
set_option linter.all false
set_option maxRecDepth 100000
set_option maxHeartbeats 1000000
namespace L2
open PySem PySem.Spec PyProof.Rows
variable {X : Cx}
end L2
namespace Ev
open PySem L2
open PyProof.Rows hiding St
variable [Tabs] [Clos] {X : Cx} {cl : Cls} {E : XK} {pos : Pos}
end Ev
end
section
set_option Elab.async false
set_option linter.all false
set_option maxRecDepth 100000
set_option maxHeartbeats 1000000
namespace L2
open PySem PySem.Spec PyProof.Rows
variable {X : Cx} {e : Expr} {t : TE}
end L2
namespace Ev
open PySem L2
open PyProof.Rows hiding St
variable [Tabs] [Clos] {X : Cx} {cl : Cls} {E : XK} {pos : Pos} {e tg : Expr} {f : EM}
end Ev
end
section
set_option Elab.async false
set_option linter.all false
set_option maxRecDepth 100000
set_option maxHeartbeats 1000000
namespace Ev
open PySem L2
open PyProof.Rows hiding St
section
open Sem (wp)
variable {prog : Program} {w : World} {A : Around} {R : Result → Shared → Prop} {I : Addr} {fp wr : List Addr} {n : Nat} {P : Nat → Value → Prop} {St : Nat → Heap → Prop}
end
section
variable {prog : Program} {w : World} {A : Around} {E : Value → Shared → Prop} {s : Shared}
end
section
variable [Tabs] [Clos] {X : Cx} {cl : Cls} {E : XK}
end
end Ev
end
section
set_option Elab.async false
set_option linter.all false
set_option maxRecDepth 100000
set_option maxHeartbeats 1000000
namespace L2
open PySem PySem.Spec PyProof.Rows
section
variable {prog : Program} {w : World} {A : Around} {E : Value → Shared → Prop}
end
section
variable {X : Cx}
end
end L2
namespace Ev
open PySem L2
open PyProof.Rows hiding St
variable [Tabs] [Clos] {X : Cx} {cl : Cls} {E : XK} {pos : Pos}
end Ev
end
section
set_option Elab.async false
set_option linter.all false
set_option maxRecDepth 100000
set_option maxHeartbeats 1000000
namespace Ev
open PySem L2
open PyProof.Rows hiding St
variable [Tabs] [Clos] {X : Cx} {cl : Cls} {E : XK} {pos p1 tpos : Pos} {e e2 : Expr} {elts : List Expr} {kk : Nat}
end Ev
end
section
set_option Elab.async false
set_option linter.all false
set_option maxRecDepth 100000
set_option maxHeartbeats 1000000
namespace L2
open PySem PySem.Spec PyProof.Rows
variable {X : Cx} {e : Expr} {es : List Expr} {te : TE} {t : TA}
end L2
namespace Ev
open PySem L2
open PyProof.Rows hiding St
variable [Tabs] [Clos] {X : Cx} {cl : Cls} {E : XK} {e : Expr} {es : List Expr} {f : EM} {h : AM}
end Ev
end
section
set_option Elab.async false
set_option linter.all false
set_option maxRecDepth 100000
set_option maxHeartbeats 1000000
namespace L2
open PySem PySem.Spec PyProof.Rows
variable {X : Cx}
end L2
namespace Ev
open PySem L2
open PyProof.Rows hiding St
variable [Tabs] [Clos] {X : Cx} {cl : Cls} {E : XK} {pos tpos : Pos} {o i value : Expr} {fo fi fv : EM}
end Ev
end
section
set_option Elab.async false
set_option linter.all false
set_option maxRecDepth 100000
set_option maxHeartbeats 1000000
namespace Ev
open PySem L2
open PyProof.Rows hiding St
variable [Tabs] [Clos] {X : Cx} {cl : Cls} {E : XK} {e : Expr} {fa : EM}
def ti (f : EM) : TM := fun L S => bnd (f L S) fun d S1 => match d with
  | .int i => some (.ok (i != 0), S1)
  | _ => none
end Ev
end
section
set_option Elab.async false
set_option linter.all false
set_option maxRecDepth 100000
set_option maxHeartbeats 1000000
namespace Ev
open PySem L2
open PyProof.Rows hiding St
variable [Tabs] [Clos] {X : Cx}
end Ev
end
section
set_option Elab.async false
set_option linter.all false
set_option maxRecDepth 100000
set_option maxHeartbeats 1000000
namespace PySem
open PySem.Calls PyProof.Rows
namespace F
end F
section
variable {prog : Program} {w : World} {A : Around} {E : Value → Shared → Prop} {s : Shared}
def Heap.IsRevT (h : Heap) (a l : Addr) (i : Int) : Prop := ∃ o, h.get? a = some o ∧ o.cls = .type "reversed" ∧ o.data = .fields #[.ref l, rawInt i]
theorem Heap.IsRevT.typeIs {a l : Addr} {i : Int} (x : s.heap.IsRevT a l i) : s.TypeIs (.ref a) "reversed" := let ⟨o, ho, hc, _⟩ := x; ⟨o, ho, hc⟩
theorem Heap.IsRevT.at {h h' : Heap} {a l : Addr} {i : Int} (x : h.IsRevT a l i) (e : ∀ o, h.get? a = some o → h'.get? a = some o) : h'.IsRevT a l i := let ⟨o, ho, r⟩ := x; ⟨o, e _ ho, r⟩
end
end PySem
end
section
set_option Elab.async false
set_option linter.all false
set_option maxRecDepth 100000
set_option maxHeartbeats 1000000
namespace PySem
open PySem.Calls PyProof.Rows
section
variable {prog : Program} {w : World} {A : Around} {E : Value → Shared → Prop} {s : Shared}
end
end PySem
end
section
set_option Elab.async false
set_option linter.all false
set_option maxRecDepth 100000
set_option maxHeartbeats 1000000
namespace L2
open PySem PySem.Spec PyProof.Rows
end L2
namespace Ev
open PySem L2
open PyProof.Rows hiding St
variable [Tabs] [Clos] {X : Cx} {cl : Cls} {E : XK} {pos p1 : Pos} {e tg : Expr}
end Ev
end
section
set_option Elab.async false
set_option linter.all false
set_option maxRecDepth 100000
set_option maxHeartbeats 1000000
namespace Ev
open PySem L2
open PyProof.Rows hiding St
variable [Tabs] [Clos]
end Ev
end
section
set_option Elab.async false
set_option linter.all false
set_option maxRecDepth 100000
set_option maxHeartbeats 1000000
namespace Ev
open PySem L2
open PyProof.Rows hiding St
variable [Tabs] [Clos] {X : Cx} {cl : Cls} {E : XK} {e e2 : Expr} {p1 pos tpos : Pos} {elts : List Expr} {kk : Nat}
end Ev
end
section
set_option Elab.async false
set_option linter.all false
set_option maxRecDepth 100000
set_option maxHeartbeats 1000000
namespace PySem
open Sem (wp)
open AutoSeq1 (wpAny_loadPart')
namespace F
end F
section
variable {prog : Program} {w : World} {A : Around} {E : Value → Shared → Prop} {s : Shared} {I : Addr} {fp wr : List Addr} {G : Array GenState → Array GenState → Prop} {n : Nat} {P : Nat → Value → Prop} {St : Nat → Shared → Prop}
end
end PySem
namespace L2
open PySem PySem.Spec PyProof.Rows
variable {X : Cx}
end L2
namespace Ev
open PySem L2
open PyProof.Rows hiding St
variable [Tabs] [Clos] {X : Cx} {cl : Cls} {E : XK}
end Ev
namespace Ev
open PySem L2
open PyProof.Rows hiding St
variable [Tabs] [Clos] {X : Cx}
end Ev
end
section
set_option Elab.async false
set_option linter.all false
set_option maxRecDepth 100000
set_option maxHeartbeats 1000000
namespace PySem.SeqAt
open PySem PySem.Calls PySem.F PySem.MeetsSeq
end PySem.SeqAt
namespace Ev
open PySem L2
open PyProof.Rows hiding St
variable [Tabs] [Clos] {X : Cx} {cl : Cls} {E : XK} {e : Expr} {f : EM}
mutual
theorem Rep.keep {K : PySem.W.Frag} {H H' : Hp} {p : List Addr} (h1 : ∀ a xs, H a = some (.tup xs) → H' a = some (.tup xs)) (h2 : ∀ a o xs, H a = some (.frz o (.lst xs)) → H' a = some (.frz o (.lst xs))) : ∀ {d : D} {v : V}, Rep K H p d v → Rep K H' p d v
  | _, _, .non => .non
  | _, _, .bl b => .bl b
  | _, _, .int i => .int i
  | _, _, .str x => .str x
  | _, _, .tup h r => .tup (h1 _ _ h) (RepL.keep h1 h2 r)
  | _, _, .fl h r => .fl (h.imp (fun ⟨o, z⟩ => ⟨o, h2 _ _ _ z⟩) id) (RepL.keep h1 h2 r)
  | _, _, .ref h => .ref h
  | _, _, .ty n => .ty n
  | _, _, .kc a => .kc a
  | _, _, .kt h r => .kt h (RepL.keep h1 h2 r)
theorem RepL.keep {K : PySem.W.Frag} {H H' : Hp} {p : List Addr} (h1 : ∀ a xs, H a = some (.tup xs) → H' a = some (.tup xs)) (h2 : ∀ a o xs, H a = some (.frz o (.lst xs)) → H' a = some (.frz o (.lst xs))) : ∀ {d : List D} {v : List V}, RepL K H p d v → RepL K H' p d v
  | _, _, .nil => .nil
  | _, _, .cons a b => .cons (Rep.keep h1 h2 a) (RepL.keep h1 h2 b)
end
theorem RepK.keep {K : PySem.W.Frag} {H H' : Hp} {p : List Addr} {κ : Type} (h1 : ∀ a xs, H a = some (.tup xs) → H' a = some (.tup xs)) (h2 : ∀ a o xs, H a = some (.frz o (.lst xs)) → H' a = some (.frz o (.lst xs))) : ∀ {d : List (κ × D)} {v : List (κ × V)}, RepK K H p d v → RepK K H' p d v
  | _, _, .nil => .nil
  | _, _, .cons a b => .cons (Rep.keep h1 h2 a) (RepK.keep h1 h2 b)
end Ev
end
section
set_option Elab.async false
set_option linter.all false
set_option maxRecDepth 100000
set_option maxHeartbeats 1000000
namespace Ev
open PySem L2
open PyProof.Rows hiding St
section
open Sem (wp)
variable {prog : Program} {w : World} {A : Around} {R : Result → Shared → Prop} {I : Addr} {fp wr : List Addr} {n : Nat} {P : Nat → Value → Prop} {St : Nat → Heap → Prop} {dkw : List (Str × Value)}
end
section
variable {prog : Program} {w : World} {A : Around} {E : Value → Shared → Prop} {s : Shared}
end
section
open Sem (wp)
variable {prog : Program} {w : World} {A : Around} {R : Result → Shared → Prop} {I : Addr} {fp wr : List Addr} {n : Nat} {P : Nat → Value → Prop} {St : Nat → Heap → Prop} {dkw : List (Str × Value)}
end
section
variable {prog : Program} {w : World} {A : Around} {E : Value → Shared → Prop} {s : Shared}
end
end Ev
end
section
set_option Elab.async false
set_option linter.all false
set_option maxRecDepth 100000
set_option maxHeartbeats 1000000
namespace Ev
open PySem L2
open PyProof.Rows hiding St
section
open Sem (wp)
variable {prog : Program} {w : World} {A : Around} {R : Result → Shared → Prop} {I : Addr} {fp wr : List Addr} {n : Nat} {P : Nat → Value → Prop} {St : Nat → Heap → Prop} {dkw : List (Str × Value)}
end
section
variable {prog : Program} {w : World} {A : Around} {E : Value → Shared → Prop} {s : Shared}
end
end Ev
end
section
set_option Elab.async false
set_option linter.all false
set_option maxRecDepth 100000
set_option maxHeartbeats 1000000
namespace L2
open PySem PySem.Spec PyProof.Rows
variable {X : Cx}
end L2
namespace Ev
open PySem L2
open PyProof.Rows hiding St
variable [Tabs] [Clos] {X : Cx} {cl : Cls} {E : XK} {e : Expr} {f : AM} {p p2 pos kp kp2 c : Pos} {j : Nat}
section
variable (hc : X.calm = true)
include hc
end
end Ev
end
section
set_option Elab.async false
set_option linter.all false
set_option maxRecDepth 100000
set_option maxHeartbeats 1000000
namespace Ev
open PySem L2
open PyProof.Rows hiding St
section
variable {prog : Program} {w : World} {A : Around} {E : Value → Shared → Prop} {s : Shared}
end
end Ev
end
section
set_option Elab.async false
set_option linter.all false
set_option maxRecDepth 100000
set_option maxHeartbeats 1000000
namespace Ev
open PySem L2
open PyProof.Rows hiding St
section
variable {prog : Program} {w : World} {A : Around} {E : Value → Shared → Prop} {s : Shared}
end
end Ev
end
section
set_option Elab.async false
set_option linter.all false
set_option maxRecDepth 100000
set_option maxHeartbeats 1000000
namespace Ev
open PySem L2
open PyProof.Rows hiding St
open AutoSeq1 (wpAny_loadPart')
section
variable {prog : Program} {w : World} {A : Around} {E : Value → Shared → Prop} {s : Shared}
end
end Ev
end
section
set_option Elab.async false
set_option linter.all false
set_option maxRecDepth 100000
set_option maxHeartbeats 1000000
namespace Ev
open PySem L2
open PyProof.Rows hiding St
variable [Tabs] [Clos] {X : Cx} {cl : Cls} {E : XK} {pos p1 p2 pos2 tpos : Pos} {e e2 : Expr} {elts : List Expr} {kk : Nat}
end Ev
end
section
set_option Elab.async false
set_option linter.all false
set_option maxRecDepth 100000
set_option maxHeartbeats 1000000
namespace Ev
open PySem L2
open PyProof.Rows hiding St
section
variable {prog : Program} {w : World} {A : Around} {E : Value → Shared → Prop} {s : Shared}
end
end Ev
end
section
set_option Elab.async false
set_option linter.all false
set_option maxRecDepth 100000
set_option maxHeartbeats 1000000
namespace Ev
open PySem L2
open PyProof.Rows hiding St
variable [Tabs] [Clos] {X : Cx}
end Ev
end
section
set_option Elab.async false
set_option linter.all false
set_option maxRecDepth 100000
namespace Ev
open PySem L2
def Cell.kpt : Cell → Bool := fun _ => true

inductive Y where
  | non | bl (b : Bool) | int (i : Int) | str (x : Str) | tup (xs : List Y) | fl (xs : List Y) | lst (xs : List Y) | dk (kvs : List (Key × Y)) | dt (kvs : List (List Key × Y)) | ty (n : String) | kc (a : Addr) | stt | clo (k : Nat) | dz (kvs : List (List Key × Y))

structure Gs where
  a : Int
  b : Int
  ha : 0 ≤ a
  hb : 0 ≤ b ∧ b < 4294967296
mutual

inductive Val (A : Nat → Prop) (n : Option Nat) (S : Sto) : D → Y → Prop where
  | non : Val A n S .non .non
  | bl (b : Bool) : Val A n S (.bl b) (.bl b)
  | int (i : Int) : Val A n S (.int i) (.int i)
  | str (x : Str) : Val A n S (.str x) (.str x)
  | tup {ds : List D} {ys : List Y} : ValL A n S ds ys → Val A n S (.tup ds) (.tup ys)
  | fl {ds : List D} {ys : List Y} : ValL A n S ds ys → Val A n S (.fl ds) (.fl ys)
  | lst {m : Nat} {ds : List D} {ys : List Y} : ¬ A m → n ≠ some m → S[m]? = some (.lst ds) → ValL A n S ds ys → Val A n S (.ref m) (.lst ys)
  | dk {m : Nat} {ds : List (Key × D)} {ys : List (Key × Y)} : ¬ A m → n ≠ some m → S[m]? = some (.dk ds) → ValK A n S ds ys → Val A n S (.ref m) (.dk ys)
  | dt {m : Nat} {ds : List (List Key × D)} {ys : List (List Key × Y)} : ¬ A m → n ≠ some m → S[m]? = some (.dt ds) → ValT A n S ds ys → Val A n S (.ref m) (.dt ys)
  | ty (t : String) : Val A n S (.ty t) (.ty t)
  | kc (a : Addr) : Val A n S (.kc a) (.kc a)
  | stt {m : Nat} : n = some m → Val A n S (.ref m) .stt
  | clo {m k : Nat} : ¬ A m → n ≠ some m → S[m]? = some (.clo k) → Val A n S (.ref m) (.clo k)
  | dz {m : Nat} {ds : List (List Key × D)} {ys : List (List Key × Y)} : ¬ A m → n ≠ some m → S[m]? = some (.dz ds) → ValT A n S ds ys → Val A n S (.ref m) (.dz ys)
inductive ValL (A : Nat → Prop) (n : Option Nat) (S : Sto) : List D → List Y → Prop where
  | nil : ValL A n S [] []
  | cons {d : D} {y : Y} {ds : List D} {ys : List Y} : Val A n S d y → ValL A n S ds ys → ValL A n S (d :: ds) (y :: ys)
inductive ValK (A : Nat → Prop) (n : Option Nat) (S : Sto) : List (Key × D) → List (Key × Y) → Prop where
  | nil : ValK A n S [] []
  | cons {k : Key} {d : D} {y : Y} {ds : List (Key × D)} {ys : List (Key × Y)} : Val A n S d y → ValK A n S ds ys → ValK A n S ((k, d) :: ds) ((k, y) :: ys)
inductive ValT (A : Nat → Prop) (n : Option Nat) (S : Sto) : List (List Key × D) → List (List Key × Y) → Prop where
  | nil : ValT A n S [] []
  | cons {k : List Key} {d : D} {y : Y} {ds : List (List Key × D)} {ys : List (List Key × Y)} : Val A n S d y → ValT A n S ds ys → ValT A n S ((k, d) :: ds) ((k, y) :: ys)
end
structure Fr (n : Option Nat) (S S' : Sto) : Prop where
  keep : ∀ (m : Nat) (c : Cell), n ≠ some m → c.kpt = true → S[m]? = some c → S'[m]? = some c
  len : S.length ≤ S'.length
theorem Fr.refl (n : Option Nat) (S : Sto) : Fr n S S := ⟨fun _ _ _ _ h => h, Nat.le_refl _⟩
theorem Fr.trans {n : Option Nat} {S S1 S2 : Sto} (a : Fr n S S1) (b : Fr n S1 S2) : Fr n S S2 := ⟨fun m c h1 h2 h3 => b.keep m c h1 h2 (a.keep m c h1 h2 h3), Nat.le_trans a.len b.len⟩
theorem Fr.app (n : Option Nat) (S T : Sto) : Fr n S (S ++ T) := ⟨fun m c _ _ h => by rw [List.getElem?_append_left (List.getElem?_eq_some_iff.mp h).1]; exact h, by simp⟩
mutual

theorem Val.mono {A A' : Nat → Prop} {n : Option Nat} {S S' : Sto} (h : ∀ (m : Nat) (c : Cell), ¬ A m → n ≠ some m → c.kpt = true → S[m]? = some c → ¬ A' m ∧ S'[m]? = some c) : ∀ {d : D} {y : Y}, Val A n S d y → Val A' n S' d y
  | _, _, .non => .non
  | _, _, .bl b => .bl b
  | _, _, .int i => .int i
  | _, _, .str x => .str x
  | _, _, .tup r => .tup (ValL.mono h r)
  | _, _, .fl r => .fl (ValL.mono h r)
  | _, _, .lst a b c r => .lst (h _ _ a b rfl c).1 b (h _ _ a b rfl c).2 (ValL.mono h r)
  | _, _, .dk a b c r => .dk (h _ _ a b rfl c).1 b (h _ _ a b rfl c).2 (ValK.mono h r)
  | _, _, .dt a b c r => .dt (h _ _ a b rfl c).1 b (h _ _ a b rfl c).2 (ValT.mono h r)
  | _, _, .ty t => .ty t
  | _, _, .kc a => .kc a
  | _, _, .stt e => .stt e
  | _, _, .clo a b c => .clo (h _ _ a b rfl c).1 b (h _ _ a b rfl c).2
  | _, _, .dz a b c r => .dz (h _ _ a b rfl c).1 b (h _ _ a b rfl c).2 (ValT.mono h r)
theorem ValL.mono {A A' : Nat → Prop} {n : Option Nat} {S S' : Sto} (h : ∀ (m : Nat) (c : Cell), ¬ A m → n ≠ some m → c.kpt = true → S[m]? = some c → ¬ A' m ∧ S'[m]? = some c) : ∀ {d : List D} {y : List Y}, ValL A n S d y → ValL A' n S' d y
  | _, _, .nil => .nil
  | _, _, .cons a b => .cons (Val.mono h a) (ValL.mono h b)
theorem ValK.mono {A A' : Nat → Prop} {n : Option Nat} {S S' : Sto} (h : ∀ (m : Nat) (c : Cell), ¬ A m → n ≠ some m → c.kpt = true → S[m]? = some c → ¬ A' m ∧ S'[m]? = some c) : ∀ {d : List (Key × D)} {y : List (Key × Y)}, ValK A n S d y → ValK A' n S' d y
  | _, _, .nil => .nil
  | _, _, .cons a b => .cons (Val.mono h a) (ValK.mono h b)
theorem ValT.mono {A A' : Nat → Prop} {n : Option Nat} {S S' : Sto} (h : ∀ (m : Nat) (c : Cell), ¬ A m → n ≠ some m → c.kpt = true → S[m]? = some c → ¬ A' m ∧ S'[m]? = some c) : ∀ {d : List (List Key × D)} {y : List (List Key × Y)}, ValT A n S d y → ValT A' n S' d y
  | _, _, .nil => .nil
  | _, _, .cons a b => .cons (Val.mono h a) (ValT.mono h b)
end
theorem Val.fr {A : Nat → Prop} {n : Option Nat} {S S' : Sto} {d : D} {y : Y} (h : Val A n S d y) (f : Fr n S S') : Val A n S' d y := h.mono fun m c a b c1 e => ⟨a, f.keep m c b c1 e⟩
theorem ValL.fr {A : Nat → Prop} {n : Option Nat} {S S' : Sto} {d : List D} {y : List Y} (h : ValL A n S d y) (f : Fr n S S') : ValL A n S' d y := h.mono fun m c a b c1 e => ⟨a, f.keep m c b c1 e⟩
theorem ValK.fr {A : Nat → Prop} {n : Option Nat} {S S' : Sto} {d : List (Key × D)} {y : List (Key × Y)} (h : ValK A n S d y) (f : Fr n S S') : ValK A n S' d y := h.mono fun m c a b c1 e => ⟨a, f.keep m c b c1 e⟩
theorem ValT.fr {A : Nat → Prop} {n : Option Nat} {S S' : Sto} {d : List (List Key × D)} {y : List (List Key × Y)} (h : ValT A n S d y) (f : Fr n S S') : ValT A n S' d y := h.mono fun m c a b c1 e => ⟨a, f.keep m c b c1 e⟩

theorem Val.less {A A' : Nat → Prop} {n : Option Nat} {S : Sto} {d : D} {y : Y} (h : Val A n S d y) (k : ∀ m, A' m → A m) : Val A' n S d y := h.mono fun m c a b c1 e => ⟨fun z => a (k m z), e⟩
theorem ValL.less {A A' : Nat → Prop} {n : Option Nat} {S : Sto} {d : List D} {y : List Y} (h : ValL A n S d y) (k : ∀ m, A' m → A m) : ValL A' n S d y := h.mono fun m c a b c1 e => ⟨fun z => a (k m z), e⟩

theorem Val.more {A A' : Nat → Prop} {n : Option Nat} {S : Sto} {d : D} {y : Y} (h : Val A n S d y) (k : ∀ m, A' m → A m ∨ S.length ≤ m) : Val A' n S d y := h.mono fun m c a b c1 e => ⟨fun z => (k m z).elim a fun z => absurd (List.getElem?_eq_some_iff.mp e).1 (Nat.not_lt.mpr z), e⟩
theorem ValL.more {A A' : Nat → Prop} {n : Option Nat} {S : Sto} {d : List D} {y : List Y} (h : ValL A n S d y) (k : ∀ m, A' m → A m ∨ S.length ≤ m) : ValL A' n S d y := h.mono fun m c a b c1 e => ⟨fun z => (k m z).elim a fun z => absurd (List.getElem?_eq_some_iff.mp e).1 (Nat.not_lt.mpr z), e⟩
theorem ValL.len {A : Nat → Prop} {n : Option Nat} {S : Sto} : ∀ {ds : List D} {ys : List Y}, ValL A n S ds ys → ds.length = ys.length
  | _, _, .nil => rfl
  | _, _, .cons _ b => by simp [ValL.len b]
theorem ValL.get {A : Nat → Prop} {n : Option Nat} {S : Sto} : ∀ {ds : List D} {ys : List Y} {i : Nat} {y : Y}, ValL A n S ds ys → ys[i]? = some y → ∃ d, ds[i]? = some d ∧ Val A n S d y
  | _, _, _, _, .nil, e => by simp at e
  | _, _, 0, _, .cons r _, e => by simp at e; subst e; exact ⟨_, rfl, r⟩
  | _, _, i + 1, y, .cons _ t, e => by
    obtain ⟨u, h1, h2⟩ := ValL.get (i := i) (y := y) t (by simpa using e)
    exact ⟨u, by simpa using h1, h2⟩
theorem ValL.app {A : Nat → Prop} {n : Option Nat} {S : Sto} : ∀ {ds es : List D} {ys us : List Y}, ValL A n S ds ys → ValL A n S es us → ValL A n S (ds ++ es) (ys ++ us)
  | _, _, _, _, .nil, s => s
  | _, _, _, _, .cons r t, s => .cons r (ValL.app t s)
theorem ValL.set {A : Nat → Prop} {n : Option Nat} {S : Sto} {d : D} {y : Y} (r : Val A n S d y) : ∀ {ds : List D} {ys : List Y} (i : Nat), ValL A n S ds ys → ValL A n S (ds.set i d) (ys.set i y)
  | _, _, _, .nil => .nil
  | _, _, 0, .cons _ t => .cons r t
  | _, _, i + 1, .cons q t => .cons q (ValL.set r i t)
theorem ValL.take {A : Nat → Prop} {n : Option Nat} {S : Sto} : ∀ {ds : List D} {ys : List Y} (i : Nat), ValL A n S ds ys → ValL A n S (ds.take i) (ys.take i)
  | _, _, 0, _ => .nil
  | _, _, _ + 1, .nil => .nil
  | _, _, i + 1, .cons r t => .cons r (ValL.take i t)
theorem ValL.drop {A : Nat → Prop} {n : Option Nat} {S : Sto} : ∀ {ds : List D} {ys : List Y} (i : Nat), ValL A n S ds ys → ValL A n S (ds.drop i) (ys.drop i)
  | _, _, 0, r => r
  | _, _, _ + 1, .nil => .nil
  | _, _, i + 1, .cons _ t => ValL.drop i t
theorem ValL.map {A : Nat → Prop} {n : Option Nat} {S : Sto} {α : Type} {f : α → D} {g : α → Y} (h : ∀ a, Val A n S (f a) (g a)) : ∀ (xs : List α), ValL A n S (xs.map f) (xs.map g)
  | [] => .nil
  | x :: xs => .cons (h x) (ValL.map h xs)
theorem ValL.mem {A : Nat → Prop} {n : Option Nat} {S : Sto} {ds : List D} {ys : List Y} (h : ValL A n S ds ys) : ∀ d ∈ ds, ∃ y ∈ ys, Val A n S d y := by
  intro d hd
  match h with
  | .nil => cases hd
  | .cons a b =>
    cases hd with
    | head => exact ⟨_, .head _, a⟩
    | tail _ hd => obtain ⟨y, h1, h2⟩ := ValL.mem b d hd; exact ⟨y, .tail _ h1, h2⟩

inductive CellV (A : Nat → Prop) (n : Option Nat) (S : Sto) : Cell → Y → Prop where
  | lst {ds : List D} {ys : List Y} : ValL A n S ds ys → CellV A n S (.lst ds) (.lst ys)
  | dk {ds : List (Key × D)} {ys : List (Key × Y)} : ValK A n S ds ys → CellV A n S (.dk ds) (.dk ys)
  | dt {ds : List (List Key × D)} {ys : List (List Key × Y)} : ValT A n S ds ys → CellV A n S (.dt ds) (.dt ys)
theorem CellV.mut {A : Nat → Prop} {n : Option Nat} {S : Sto} {c : Cell} {y : Y} (h : CellV A n S c y) : c.kpt = true := by cases h <;> rfl
theorem CellV.mono {A A' : Nat → Prop} {n : Option Nat} {S S' : Sto} {c : Cell} {y : Y} (r : CellV A n S c y) (h : ∀ (m : Nat) (c : Cell), ¬ A m → n ≠ some m → c.kpt = true → S[m]? = some c → ¬ A' m ∧ S'[m]? = some c) : CellV A' n S' c y := by
  cases r with
  | lst r => exact .lst (r.mono h)
  | dk r => exact .dk (r.mono h)
  | dt r => exact .dt (r.mono h)
theorem CellV.fr {A : Nat → Prop} {n : Option Nat} {S S' : Sto} {c : Cell} {y : Y} (h : CellV A n S c y) (f : Fr n S S') : CellV A n S' c y := h.mono fun m c a b c1 e => ⟨a, f.keep m c b c1 e⟩
theorem CellV.val {A : Nat → Prop} {n : Option Nat} {S : Sto} {c : Cell} {y : Y} {m : Nat} (h : CellV A n S c y) (e : S[m]? = some c) (a : ¬ A m) (b : n ≠ some m) : Val A n S (.ref m) y := by
  cases h with
  | lst r => exact .lst a b e r
  | dk r => exact .dk a b e r
  | dt r => exact .dt a b e r

def Stt (n : Option Nat) (S : Sto) (g : Gs) : Prop := ∀ m, n = some m → S[m]? = some (.lst [.int g.a, .int g.b])
theorem Stt.app {n : Option Nat} {S : Sto} {g : Gs} (h : Stt n S g) (T : Sto) : Stt n (S ++ T) g := fun m e => by
  rw [List.getElem?_append_left (List.getElem?_eq_some_iff.mp (h m e)).1]; exact h m e

def ValB (A : Nat → Prop) (n : Option Nat) (S : Sto) (d : D) (y : Y) : Prop := Val A n S d y ∨ ∃ m c, d = .ref m ∧ n ≠ some m ∧ S[m]? = some c ∧ CellV A n S c y
theorem Val.b {A : Nat → Prop} {n : Option Nat} {S : Sto} {d : D} {y : Y} (h : Val A n S d y) : ValB A n S d y := .inl h
theorem ValB.fr {A : Nat → Prop} {n : Option Nat} {S S' : Sto} {d : D} {y : Y} (h : ValB A n S d y) (f : Fr n S S') : ValB A n S' d y := by
  rcases h with h | ⟨m, c, h1, h2, h3, h4⟩
  · exact .inl (h.fr f)
  · exact .inr ⟨m, c, h1, h2, f.keep m c h2 h4.mut h3, h4.fr f⟩

theorem ValB.lst {A : Nat → Prop} {n : Option Nat} {S : Sto} {d : D} {ys : List Y} (h : ValB A n S d (.lst ys)) : ∃ ds m, ValL A n S ds ys ∧ d = .ref m ∧ n ≠ some m ∧ S[m]? = some (.lst ds) := by
  rcases h with h | ⟨m, c, h1, h2, h3, h4⟩
  · cases h with
    | lst a b e r => exact ⟨_, _, r, rfl, b, e⟩
  · cases h4 with
    | lst r => exact ⟨_, m, r, h1, h2, h3⟩
theorem ValB.dz {A : Nat → Prop} {n : Option Nat} {S : Sto} {d : D} {ys : List (List Key × Y)} (h : ValB A n S d (.dz ys)) : ∃ ds m, ValT A n S ds ys ∧ d = .ref m ∧ n ≠ some m ∧ S[m]? = some (.dz ds) := by
  rcases h with h | ⟨m, c, h1, h2, h3, h4⟩
  · cases h with
    | dz a b e r => exact ⟨_, _, r, rfl, b, e⟩
  · cases h4
theorem ValB.fl {A : Nat → Prop} {n : Option Nat} {S : Sto} {d : D} {ys : List Y} (h : ValB A n S d (.fl ys)) : ∃ ds, ValL A n S ds ys ∧ d = .fl ds := by
  rcases h with h | ⟨m, c, h1, h2, h3, h4⟩
  · cases h with
    | fl r => exact ⟨_, r, rfl⟩
  · cases h4
theorem ValB.tup {A : Nat → Prop} {n : Option Nat} {S : Sto} {d : D} {ys : List Y} (h : ValB A n S d (.tup ys)) : ∃ ds, ValL A n S ds ys ∧ d = .tup ds := by
  rcases h with h | ⟨m, c, h1, h2, h3, h4⟩
  · cases h with
    | tup r => exact ⟨_, r, rfl⟩
  · cases h4
theorem ValB.int {A : Nat → Prop} {n : Option Nat} {S : Sto} {d : D} {i : Int} (h : ValB A n S d (.int i)) : d = .int i := by
  rcases h with h | ⟨m, c, h1, h2, h3, h4⟩
  · cases h; rfl
  · cases h4
theorem ValB.bl {A : Nat → Prop} {n : Option Nat} {S : Sto} {d : D} {i : Bool} (h : ValB A n S d (.bl i)) : d = .bl i := by
  rcases h with h | ⟨m, c, h1, h2, h3, h4⟩
  · cases h; rfl
  · cases h4
theorem ValB.str {A : Nat → Prop} {n : Option Nat} {S : Sto} {d : D} {i : Str} (h : ValB A n S d (.str i)) : d = .str i := by
  rcases h with h | ⟨m, c, h1, h2, h3, h4⟩
  · cases h; rfl
  · cases h4
theorem ValB.ty {A : Nat → Prop} {n : Option Nat} {S : Sto} {d : D} {i : String} (h : ValB A n S d (.ty i)) : d = .ty i := by
  rcases h with h | ⟨m, c, h1, h2, h3, h4⟩
  · cases h; rfl
  · cases h4
theorem ValB.non {A : Nat → Prop} {n : Option Nat} {S : Sto} {d : D} (h : ValB A n S d .non) : d = .non := by
  rcases h with h | ⟨m, c, h1, h2, h3, h4⟩
  · cases h; rfl
  · cases h4
theorem ValB.dk {A : Nat → Prop} {n : Option Nat} {S : Sto} {d : D} {ys : List (Key × Y)} (h : ValB A n S d (.dk ys)) : ∃ ds m, ValK A n S ds ys ∧ d = .ref m ∧ n ≠ some m ∧ S[m]? = some (.dk ds) := by
  rcases h with h | ⟨m, c, h1, h2, h3, h4⟩
  · cases h with
    | dk a b e r => exact ⟨_, _, r, rfl, b, e⟩
  · cases h4 with
    | dk r => exact ⟨_, m, r, h1, h2, h3⟩
theorem ValB.dt {A : Nat → Prop} {n : Option Nat} {S : Sto} {d : D} {ys : List (List Key × Y)} (h : ValB A n S d (.dt ys)) : ∃ ds m, ValT A n S ds ys ∧ d = .ref m ∧ n ≠ some m ∧ S[m]? = some (.dt ds) := by
  rcases h with h | ⟨m, c, h1, h2, h3, h4⟩
  · cases h with
    | dt a b e r => exact ⟨_, _, r, rfl, b, e⟩
  · cases h4 with
    | dt r => exact ⟨_, m, r, h1, h2, h3⟩
end Ev
end
section
set_option Elab.async false
set_option linter.all false
set_option maxRecDepth 100000
namespace Ev
open PySem L2
abbrev VL := List (Option Y)
abbrev OV (α : Type) := Option (R α × Gs)
def bv {α γ : Type} (x : OV α) (g : α → Gs → OV γ) : OV γ := match x with
  | some (.ok a, s) => g a s
  | some (.ex e, s) => some (.ex e, s)
  | none => none
@[simp] theorem bv_ok {α γ : Type} (a : α) (s : Gs) (g : α → Gs → OV γ) : bv (some (.ok a, s)) g = g a s := rfl
@[simp] theorem bv_ex {α γ : Type} (e : Exn) (s : Gs) (g : α → Gs → OV γ) : bv (some (.ex e, s)) g = some (.ex e, s) := rfl
@[simp] theorem bv_none {α γ : Type} (g : α → Gs → OV γ) : bv none g = none := rfl
theorem bndo {α γ : Type} (a : α) (S : Sto) (g : α → Sto → O γ) : bnd (some (.ok a, S)) g = g a S := rfl
theorem bndx {α γ : Type} (e : Exn) (S : Sto) (g : α → Sto → O γ) : bnd (some (.ex e, S)) g = some (.ex e, S) := rfl
abbrev VE := VL → Gs → OV Y
abbrev VT := VL → Gs → OV Bool
abbrev VA := VL → Gs → OV (List Y)

def Av (B : Nat → Prop) (O : List Nat) (L : Loc) (m : Nat) : Prop := B m ∨ ∃ i, i ∈ O ∧ L[i]? = some (some (.ref m))
structure Rel (B P : Nat → Prop) (n : Option Nat) (O : List Nat) (S : Sto) (L : Loc) (E : VL) : Prop where
  len : L.length = E.length
  own : ∀ i ∈ O, ∀ d, L[i]? = some (some d) → ∃ m c y, d = .ref m ∧ ¬ P m ∧ ¬ B m ∧ n ≠ some m ∧ S[m]? = some c ∧ E[i]? = some (some y) ∧ CellV (Av B O L) n S c y
  set : ∀ i ∈ O, ∀ y, E[i]? = some (some y) → ∃ d, L[i]? = some (some d)
  inj : ∀ i ∈ O, ∀ j ∈ O, ∀ m, L[i]? = some (some (.ref m)) → L[j]? = some (some (.ref m)) → i = j
  shr : ∀ i, i ∉ O → ∀ y, E[i]? = some (some y) → ∃ d, L[i]? = some (some d) ∧ Val (Av B O L) n S d y
  bd : ∀ m, B m → m < S.length
  nb : ∀ m, P m → m < S.length
  st : ∀ m, n = some m → m < S.length
section
variable {B P : Nat → Prop} {n : Option Nat} {O : List Nat} {S S' : Sto} {L : Loc} {E : VL}
theorem Rel.fr (h : Rel B P n O S L E) (f : Fr n S S') : Rel B P n O S' L E :=
  ⟨h.len, fun i hi d e => let ⟨m, c, y, h1, h2, h2', h3, h4, h5, h6⟩ := h.own i hi d e; ⟨m, c, y, h1, h2, h2', h3, f.keep m c h3 h6.mut h4, h5, h6.fr f⟩, h.set, h.inj, fun i hi y e => let ⟨d, h1, h2⟩ := h.shr i hi y e; ⟨d, h1, h2.fr f⟩, fun m e => Nat.lt_of_lt_of_le (h.bd m e) f.len, fun m e => Nat.lt_of_lt_of_le (h.nb m e) f.len, fun m e => Nat.lt_of_lt_of_le (h.st m e) f.len⟩
theorem Rel.avb (h : Rel B P n O S L E) : ∀ m, Av B O L m → m < S.length := fun m hm => by
  rcases hm with hm | ⟨i, hi, e⟩
  · exact h.bd m hm
  · obtain ⟨m', c, y, h1, h2, _, h3, h4, _⟩ := h.own i hi _ e
    cases h1
    exact (List.getElem?_eq_some_iff.mp h4).1
end
def OkE {α β : Type} (n : Option Nat) (S : Sto) (P : Sto → α → β → Prop) (x : O α) (r : R β × Gs) : Prop :=
  ∃ S', Fr n S S' ∧ Stt n S' r.2 ∧ match r.1 with
    | .ok b => ∃ a, x = some (.ok a, S') ∧ P S' a b
    | .ex e => x = some (.ex e, S')
theorem OkE.bind {α β γ δ : Type} {n : Option Nat} {S : Sto} {P : Sto → α → β → Prop} {Q : Sto → γ → δ → Prop} {x : O α} {y : OV β} {f : α → Sto → O γ} {h : β → Gs → OV δ} (hx : ∀ r, y = some r → OkE n S P x r)
    (hf : ∀ S' a b g', Fr n S S' → Stt n S' g' → P S' a b → ∀ r, h b g' = some r → OkE n S' Q (f a S') r) : ∀ r, bv y h = some r → OkE n S Q (bnd x f) r := by
  intro r hr
  cases y with
  | none => cases hr
  | some z =>
    obtain ⟨z, g1⟩ := z
    obtain ⟨S1, f1, s1, h1⟩ := hx _ rfl
    cases z with
    | ex e =>
      cases hr
      have h1 : x = some (.ex e, S1) := h1
      rw [h1]
      exact ⟨S1, f1, s1, rfl⟩
    | ok b =>
      obtain ⟨a, e1, p1⟩ : ∃ a, x = some (.ok a, S1) ∧ P S1 a b := h1
      rw [e1]
      obtain ⟨S2, f2, s2, h2⟩ := hf S1 a b g1 f1 s1 p1 r hr
      exact ⟨S2, f1.trans f2, s2, h2⟩
theorem OkE.mono {α β : Type} {n : Option Nat} {S : Sto} {P Q : Sto → α → β → Prop} {x : O α} {r : R β × Gs} (h : OkE n S P x r) (k : ∀ S' a b, Fr n S S' → P S' a b → Q S' a b) : OkE n S Q x r := by
  obtain ⟨S', f, s, h⟩ := h
  refine ⟨S', f, s, ?_⟩
  obtain ⟨r, g⟩ := r
  cases r with
  | ok b => obtain ⟨a, e, p⟩ := h; exact ⟨a, e, k _ _ _ f p⟩
  | ex e => exact h

def SimE (O : List Nat) (fe : EM) (ve : VE) : Prop := ∀ B P n S L E g, Rel B P n O S L E → Stt n S g → ∀ r, ve E g = some r → OkE n S (fun S' d y => Val (Av B O L) n S' d y) (fe L S) r

def SimB (O : List Nat) (fe : EM) (ve : VE) : Prop := ∀ B P n S L E g, Rel B P n O S L E → Stt n S g → ∀ r, ve E g = some r → OkE n S (fun S' d y => ValB (Av B O L) n S' d y) (fe L S) r

def New (A : Nat → Prop) (n : Option Nat) (k : Nat) (S' : Sto) (d : D) (y : Y) : Prop := ∃ m c, d = .ref m ∧ k ≤ m ∧ S'[m]? = some c ∧ CellV (fun j => A j ∨ j = m) n S' c y
def SimN (O : List Nat) (fe : EM) (ve : VE) : Prop := ∀ B P n S L E g, Rel B P n O S L E → Stt n S g → ∀ r, ve E g = some r → OkE n S (fun S' d y => New (Av B O L) n S.length S' d y) (fe L S) r
def SimT (O : List Nat) (fe : TM) (ve : VT) : Prop := ∀ B P n S L E g, Rel B P n O S L E → Stt n S g → ∀ r, ve E g = some r → OkE n S (fun _ a b => a = b) (fe L S) r
def SimA (O : List Nat) (fe : AM) (ve : VA) : Prop := ∀ B P n S L E g, Rel B P n O S L E → Stt n S g → ∀ r, ve E g = some r → OkE n S (fun S' d y => ValL (Av B O L) n S' d y) (fe L S) r

inductive ValBL (A : Nat → Prop) (n : Option Nat) (S : Sto) : List D → List Y → Prop where
  | nil : ValBL A n S [] []
  | cons {d : D} {y : Y} {ds : List D} {ys : List Y} : ValB A n S d y → ValBL A n S ds ys → ValBL A n S (d :: ds) (y :: ys)
theorem ValBL.fr {A : Nat → Prop} {n : Option Nat} {S S' : Sto} : ∀ {d : List D} {y : List Y}, ValBL A n S d y → Fr n S S' → ValBL A n S' d y
  | _, _, .nil, _ => .nil
  | _, _, .cons a b, f => .cons (a.fr f) (b.fr f)
def SimAB (O : List Nat) (fe : AM) (ve : VA) : Prop := ∀ B P n S L E g, Rel B P n O S L E → Stt n S g → ∀ r, ve E g = some r → OkE n S (fun S' d y => ValBL (Av B O L) n S' d y) (fe L S) r
section
variable {O : List Nat} {fa fb fc : EM} {va vb vc : VE}
theorem SimE.b (h : SimE O fa va) : SimB O fa va := fun B P n S L E g R s r e => (h B P n S L E g R s r e).mono fun _ _ _ _ p => .inl p
theorem SimN.e (h : SimN O fa va) : SimE O fa va := fun B P n S L E g R s r e => (h B P n S L E g R s r e).mono fun S' d y f p => by
  obtain ⟨m, c, rfl, h1, h2, h3⟩ := p
  refine (h3.mono fun k c a b c1 e => ⟨fun z => a (.inl z), e⟩).val h2 (fun z => ?_) fun z => ?_
  · have := R.avb m z; omega
  · have := R.st m z; omega

def vvr (i : Nat) : VE := fun E g => match E[i]? with
  | some (some y) => some (.ok y, g)
  | _ => none
theorem sim_var (i : Nat) (hi : i ∉ O) : SimE O (vr i) (vvr i) := fun B P n S L E g R s r e => by
  unfold vvr at e
  split at e
  · rename_i y hy
    cases e
    obtain ⟨d, h1, h2⟩ := R.shr i hi y hy
    exact ⟨S, .refl _ _, s, d, by simp only [vr, h1], h2⟩
  · cases e
theorem simB_var (i : Nat) : SimB O (vr i) (vvr i) := fun B P n S L E g R s r e => by
  unfold vvr at e
  split at e
  · rename_i y hy
    cases e
    by_cases hi : i ∈ O
    · obtain ⟨d, hd⟩ := R.set i hi y hy
      obtain ⟨m, c, y', rfl, h2, h2', h3, h4, h5, h6⟩ := R.own i hi _ hd
      rw [hy] at h5; cases h5
      exact ⟨S, .refl _ _, s, .ref m, by simp only [vr, hd], .inr ⟨m, c, rfl, h3, h4, h6⟩⟩
    · obtain ⟨d, h1, h2⟩ := R.shr i hi y hy
      exact ⟨S, .refl _ _, s, d, by simp only [vr, h1], .inl h2⟩
  · cases e
def vcst (y : Y) : VE := fun _ g => some (.ok y, g)
inductive Cst : D → Y → Prop where
  | non : Cst .non .non
  | bl (b : Bool) : Cst (.bl b) (.bl b)
  | int (i : Int) : Cst (.int i) (.int i)
  | str (x : Str) : Cst (.str x) (.str x)
  | ty (t : String) : Cst (.ty t) (.ty t)
  | kc (a : Addr) : Cst (.kc a) (.kc a)
theorem sim_cst {d : D} {y : Y} (h : Cst d y) : SimE O (cst d) (vcst y) := fun B P n S L E g R s r e => by
  cases e
  refine ⟨S, .refl _ _, s, d, rfl, ?_⟩
  cases h
  · exact .non
  · exact .bl _
  · exact .int _
  · exact .str _
  · exact .ty _
  · exact .kc _


def SOp2 (op : Op2) (ov : Y → Y → Option Y) : Prop := ∀ A n S a b x y z, (∀ m, A m → m < S.length) → (∀ m, n = some m → m < S.length) → ValB A n S a x → ValB A n S b y → ov x y = some z → ∃ d T, op a b S = some (.ok d, S ++ T) ∧ Val A n (S ++ T) d z
def SOp2N (op : Op2) (ov : Y → Y → Option Y) : Prop := ∀ A n S a b x y z, ValB A n S a x → ValB A n S b y → ov x y = some z → ∃ c, op a b S = some (.ok (.ref S.length), S ++ [c]) ∧ CellV A n S c z
def liftV (o : Option Y) (g : Gs) : OV Y := match o with
  | some y => some (.ok y, g)
  | none => none
@[simp] theorem liftV_some (y : Y) (g : Gs) : liftV (some y) g = some (.ok y, g) := rfl
def vbin (ov : Y → Y → Option Y) (va vb : VE) : VE := fun E g => bv (va E g) fun a g1 => bv (vb E g1) fun b g2 => liftV (ov a b) g2
theorem get_new (S : Sto) (c : Cell) : (S ++ [c])[S.length]? = some c := by simp
theorem CellV.new {A : Nat → Prop} {n : Option Nat} {S : Sto} {c : Cell} {y : Y} (h : CellV A n S c y) (T : Sto) : CellV (fun j => A j ∨ j = S.length) n (S ++ T) c y :=
  h.mono fun m c a b c1 e => ⟨fun z => z.elim a fun z => by have := (List.getElem?_eq_some_iff.mp e).1; omega, by rw [List.getElem?_append_left (List.getElem?_eq_some_iff.mp e).1]; exact e⟩
theorem sim_bin {op : Op2} {ov : Y → Y → Option Y} (ho : SOp2 op ov) (ha : SimB O fa va) (hb : SimB O fb vb) : SimE O (bin2 op fa fb) (vbin ov va vb) := fun B P n S L E g R s => by
  refine OkE.bind (P := fun S' d y => ValB (Av B O L) n S' d y) (ha B P n S L E g R s) fun S1 a x g1 f1 s1 p1 => ?_
  have R1 := R.fr f1
  refine OkE.bind (P := fun S' d y => ValB (Av B O L) n S' d y) (hb B P n S1 L E g1 R1 s1) fun S2 b y g2 f2 s2 p2 => ?_
  have R2 := R1.fr f2
  intro r e
  cases hz : ov x y with
  | none => rw [hz] at e; cases e
  | some z =>
    rw [hz] at e
    cases e
    obtain ⟨d, T, e1, v1⟩ := ho _ n S2 a b x y z R2.avb R2.st (p1.fr f2) p2 hz
    exact ⟨S2 ++ T, Fr.app _ _ _, s2.app T, d, e1, v1⟩
def SOp1 (op : Op1) (ov : Y → Option Y) : Prop := ∀ A n S a x z, (∀ m, A m → m < S.length) → (∀ m, n = some m → m < S.length) → ValB A n S a x → ov x = some z → ∃ d T, op a S = some (.ok d, S ++ T) ∧ Val A n (S ++ T) d z
def vun (ov : Y → Option Y) (va : VE) : VE := fun E g => bv (va E g) fun a g1 => liftV (ov a) g1
theorem sim_un {op : Op1} {ov : Y → Option Y} (ho : SOp1 op ov) (ha : SimB O fa va) : SimE O (un1 op fa) (vun ov va) := fun B P n S L E g R s => by
  refine OkE.bind (P := fun S' d y => ValB (Av B O L) n S' d y) (ha B P n S L E g R s) fun S1 a x g1 f1 s1 p1 => ?_
  have R1 := R.fr f1
  intro r e
  cases hz : ov x with
  | none => rw [hz] at e; cases e
  | some z =>
    rw [hz] at e
    cases e
    obtain ⟨d, T, e1, v1⟩ := ho _ n S1 a x z R1.avb R1.st p1 hz
    exact ⟨S1 ++ T, Fr.app _ _ _, s1.app T, d, e1, v1⟩

def vnil : VA := fun _ g => some (.ok [], g)
def vcons (f : VE) (h : VA) : VA := fun E g => bv (f E g) fun y g1 => bv (h E g1) fun ys g2 => some (.ok (y :: ys), g2)
theorem sim_nil : SimA O nilA vnil := fun B P n S L E g R s r e => by
  cases e
  exact ⟨S, .refl _ _, s, [], rfl, .nil⟩
theorem sim_cons {f : AM} {h : VA} (ha : SimE O fa va) (hb : SimA O f h) : SimA O (consA fa f) (vcons va h) := fun B P n S L E g R s => by
  refine OkE.bind (P := fun S' d y => Val (Av B O L) n S' d y) (ha B P n S L E g R s) fun S1 a x g1 f1 s1 p1 => ?_
  refine OkE.bind (P := fun S' d y => ValL (Av B O L) n S' d y) (hb B P n S1 L E g1 (R.fr f1) s1) fun S2 b y g2 f2 s2 p2 => ?_
  intro r e
  cases e
  exact ⟨S2, .refl _ _, s2, _, rfl, .cons (p1.fr f2) p2⟩
theorem simb_nil : SimAB O nilA vnil := fun B P n S L E g R s r e => by
  cases e
  exact ⟨S, .refl _ _, s, [], rfl, .nil⟩
theorem simb_cons {f : AM} {h : VA} (ha : SimB O fa va) (hb : SimAB O f h) : SimAB O (consA fa f) (vcons va h) := fun B P n S L E g R s => by
  refine OkE.bind (P := fun S' d y => ValB (Av B O L) n S' d y) (ha B P n S L E g R s) fun S1 a x g1 f1 s1 p1 => ?_
  refine OkE.bind (P := fun S' d y => ValBL (Av B O L) n S' d y) (hb B P n S1 L E g1 (R.fr f1) s1) fun S2 b y g2 f2 s2 p2 => ?_
  intro r e
  cases e
  exact ⟨S2, .refl _ _, s2, _, rfl, .cons (p1.fr f2) p2⟩
def vtup (f : VA) : VE := fun E g => bv (f E g) fun ys g1 => if ys.length ≤ 1000000 then some (.ok (.tup ys), g1) else none
def vlst (f : VA) : VE := fun E g => bv (f E g) fun ys g1 => if ys.length ≤ 1000000 then some (.ok (.lst ys), g1) else none
theorem sim_tup {f : AM} {h : VA} (ha : SimA O f h) : SimE O (tupE f) (vtup h) := fun B P n S L E g R s => by
  refine OkE.bind (P := fun S' d y => ValL (Av B O L) n S' d y) (ha B P n S L E g R s) fun S1 a x g1 f1 s1 p1 => ?_
  intro r e
  split at e
  · rename_i hl
    cases e
    exact ⟨S1, .refl _ _, s1, _, by rw [if_pos (by rw [p1.len]; exact hl)], .tup p1⟩
  · cases e
theorem simN_lst {f : AM} {h : VA} (ha : SimA O f h) : SimN O (lstE f) (vlst h) := fun B P n S L E g R s => by
  refine OkE.bind (P := fun S' d y => ValL (Av B O L) n S' d y ∧ S.length ≤ S'.length) (fun r e => (ha B P n S L E g R s r e).mono fun _ _ _ f p => ⟨p, f.len⟩) fun S1 a x g1 f1 s1 p1 => ?_
  intro r e
  split at e
  · rename_i hl
    cases e
    exact ⟨S1 ++ [.lst a], Fr.app _ _ _, s1.app _, _, by rw [if_pos (by rw [p1.1.len]; exact hl)], _, _, rfl, p1.2, get_new _ _, (CellV.lst p1.1).new _⟩
  · cases e

def SOpN (op : OpN) (ov : List Y → Option Y) : Prop := ∀ A n S ds ys z, (∀ m, A m → m < S.length) → (∀ m, n = some m → m < S.length) → ValBL A n S ds ys → ov ys = some z → ∃ d T, op ds S = some (.ok d, S ++ T) ∧ Val A n (S ++ T) d z
def SOpNN (op : OpN) (ov : List Y → Option Y) : Prop := ∀ A n S ds ys z, ValBL A n S ds ys → ov ys = some z → ∃ c, op ds S = some (.ok (.ref S.length), S ++ [c]) ∧ CellV A n S c z
def vcall (ov : List Y → Option Y) (f : VA) : VE := fun E g => bv (f E g) fun ys g1 => liftV (ov ys) g1
theorem sim_callB {op : OpN} {ov : List Y → Option Y} {f : AM} {h : VA} (ho : SOpN op ov) (ha : SimAB O f h) : SimE O (callE op f) (vcall ov h) := fun B P n S L E g R s => by
  refine OkE.bind (P := fun S' d y => ValBL (Av B O L) n S' d y) (ha B P n S L E g R s) fun S1 a x g1 f1 s1 p1 => ?_
  have R1 := R.fr f1
  intro r e
  cases hz : ov x with
  | none => rw [hz] at e; cases e
  | some z =>
    rw [hz] at e
    cases e
    obtain ⟨d, T, e1, v1⟩ := ho _ n S1 a x z R1.avb R1.st p1 hz
    exact ⟨S1 ++ T, Fr.app _ _ _, s1.app T, d, e1, v1⟩
theorem SOpNN.e {op : OpN} {ov : List Y → Option Y} (h : SOpNN op ov) : SOpN op ov := fun A n S ds ys z hA hn v e => by
  obtain ⟨c, e1, v1⟩ := h A n S ds ys z v e
  refine ⟨_, [c], e1, CellV.val ((v1.new [c]).mono fun k c a b c1 e => ⟨fun z => a (.inl z), e⟩) (get_new _ _) (fun z => ?_) fun z => ?_⟩
  · have := hA _ z; omega
  · have := hn _ z; omega
theorem SOp2N.e {op : Op2} {ov : Y → Y → Option Y} (h : SOp2N op ov) : SOp2 op ov := fun A n S a b x y z hA hn v w e => by
  obtain ⟨c, e1, v1⟩ := h A n S a b x y z v w e
  refine ⟨_, [c], e1, CellV.val ((v1.new [c]).mono fun k c a b c1 e => ⟨fun z => a (.inl z), e⟩) (get_new _ _) (fun z => ?_) fun z => ?_⟩
  · have := hA _ z; omega
  · have := hn _ z; omega

abbrev VF := List Y → Gs → OV Y
def SimF (F : Fn) (V : VF) : Prop := ∀ (B : Nat → Prop) n S ds ys g, (∀ m, B m → m < S.length) → (∀ m, n = some m → m < S.length) → ValL B n S ds ys → Stt n S g → ∀ r, V ys g = some r → OkE n S (fun S' d y => Val B n S' d y) (F ds S) r
def SimFN (F : Fn) (V : VF) : Prop := ∀ (B : Nat → Prop) n S ds ys g, (∀ m, B m → m < S.length) → (∀ m, n = some m → m < S.length) → ValL B n S ds ys → Stt n S g → ∀ r, V ys g = some r → OkE n S (fun S' d y => New B n S.length S' d y) (F ds S) r
def vcallF (V : VF) (f : VA) : VE := fun E g => bv (f E g) fun ys g1 => V ys g1
theorem sim_callF {F : Fn} {V : VF} {f : AM} {h : VA} (hF : SimF F V) (ha : SimA O f h) : SimE O (callE F f) (vcallF V h) := fun B P n S L E g R s => by
  refine OkE.bind (P := fun S' d y => ValL (Av B O L) n S' d y) (ha B P n S L E g R s) fun S1 a x g1 f1 s1 p1 => ?_
  have R1 := R.fr f1
  exact hF _ n S1 a x g1 R1.avb R1.st p1 s1
theorem simN_callF {F : Fn} {V : VF} {f : AM} {h : VA} (hF : SimFN F V) (ha : SimA O f h) : SimN O (callE F f) (vcallF V h) := fun B P n S L E g R s => by
  refine OkE.bind (P := fun S' d y => ValL (Av B O L) n S' d y ∧ S.length ≤ S'.length) (fun r e => (ha B P n S L E g R s r e).mono fun _ _ _ f p => ⟨p, f.len⟩) fun S1 a x g1 f1 s1 p1 => ?_
  have R1 := R.fr f1
  exact fun r e => (hF _ n S1 a x g1 R1.avb R1.st p1.1 s1 r e).mono fun S' d y f ⟨m, c, h1, h2, h3⟩ => ⟨m, c, h1, Nat.le_trans p1.2 h2, h3⟩
theorem SimFN.f {F : Fn} {V : VF} (h : SimFN F V) : SimF F V := fun B n S ds ys g hB hn v s r e => (h B n S ds ys g hB hn v s r e).mono fun S' d y f p => by
  obtain ⟨m, c, rfl, h1, h2, h3⟩ := p
  refine (h3.mono fun k c a b c1 e => ⟨fun z => a (.inl z), e⟩).val h2 (fun z => ?_) fun z => ?_
  · have := hB m z; omega
  · have := hn m z; omega
end
end Ev
end
section
set_option Elab.async false
set_option linter.all false
set_option maxRecDepth 100000
namespace Ev
open PySem L2
section
variable {O : List Nat} {fa fb fc : EM} {va vb vc : VE}
def vtb (f : VE) : VT := fun E g => bv (f E g) fun y g1 => match y with
  | .bl b => some (.ok b, g1)
  | _ => none
theorem sim_tb (h : SimE O fa va) : SimT O (tb fa) (vtb va) := fun B P n S L E g R s => by
  refine OkE.bind (P := fun S' d y => Val (Av B O L) n S' d y) (h B P n S L E g R s) fun S1 a x g1 f1 s1 p1 => ?_
  intro r e
  cases x with
  | bl b => cases e; cases p1; exact ⟨S1, .refl _ _, s1, b, rfl, rfl⟩
  | _ => cases e
def vtnot (f : VT) : VT := fun E g => bv (f E g) fun b g1 => some (.ok (!b), g1)
theorem sim_tnot {f : TM} {v : VT} (h : SimT O f v) : SimT O (tnot f) (vtnot v) := fun B P n S L E g R s => by
  refine OkE.bind (P := fun S' a b => a = b) (h B P n S L E g R s) fun S1 a x g1 f1 s1 p1 => ?_
  intro r e
  cases e; subst p1
  exact ⟨S1, .refl _ _, s1, _, rfl, rfl⟩
def vtand (f h : VT) : VT := fun E g => bv (f E g) fun b g1 => match b with
  | true => h E g1
  | false => some (.ok false, g1)
def vtor (f h : VT) : VT := fun E g => bv (f E g) fun b g1 => match b with
  | true => some (.ok true, g1)
  | false => h E g1
theorem sim_tor {f h : TM} {v w : VT} (h1 : SimT O f v) (h2 : SimT O h w) : SimT O (tor f h) (vtor v w) := fun B P n S L E g R s => by
  refine OkE.bind (P := fun S' a b => a = b) (h1 B P n S L E g R s) fun S1 a x g1 f1 s1 p1 => ?_
  subst p1
  cases a with
  | false => exact h2 B P n S1 L E g1 (R.fr f1) s1
  | true => intro r e; cases e; exact ⟨S1, .refl _ _, s1, _, rfl, rfl⟩
def vvand (f h : VE) : VE := fun E g => bv (f E g) fun y g1 => match y with
  | .bl true => h E g1
  | .bl false => some (.ok (.bl false), g1)
  | _ => none
def vvor (f h : VE) : VE := fun E g => bv (f E g) fun y g1 => match y with
  | .bl true => some (.ok (.bl true), g1)
  | .bl false => h E g1
  | _ => none
theorem sim_and (h1 : SimE O fa va) (h2 : SimE O fb vb) : SimE O (vand fa fb) (vvand va vb) := fun B P n S L E g R s => by
  refine OkE.bind (P := fun S' d y => Val (Av B O L) n S' d y) (h1 B P n S L E g R s) fun S1 a x g1 f1 s1 p1 => ?_
  cases x with
  | bl b =>
    cases p1
    cases b with
    | true => exact h2 B P n S1 L E g1 (R.fr f1) s1
    | false => intro r e; cases e; exact ⟨S1, .refl _ _, s1, _, rfl, .bl _⟩
  | _ => intro r e; cases e
def vif (c : VT) (f h : VE) : VE := fun E g => bv (c E g) fun b g1 => match b with
  | true => f E g1
  | false => h E g1
def vchn (ov ov' : Y → Y → Option Y) (va vb vc : VE) : VE := fun E g => bv (va E g) fun a g1 => bv (vb E g1) fun b g2 => match ov a b with
  | some (.bl true) => bv (vc E g2) fun c g3 => liftV (ov' b c) g3
  | some (.bl false) => some (.ok (.bl false), g2)
  | _ => none
theorem sim_chn {op op' : Op2} {ov ov' : Y → Y → Option Y} (ho : SOp2 op ov) (ho' : SOp2 op' ov') (ha : SimB O fa va) (hb : SimB O fb vb) (hc : SimB O fc vc) : SimE O (chn op op' fa fb fc) (vchn ov ov' va vb vc) := fun B P n S L E g R s => by
  refine OkE.bind (P := fun S' d y => ValB (Av B O L) n S' d y) (ha B P n S L E g R s) fun S1 a x g1 f1 s1 p1 => ?_
  have R1 := R.fr f1
  refine OkE.bind (P := fun S' d y => ValB (Av B O L) n S' d y) (hb B P n S1 L E g1 R1 s1) fun S2 b y g2 f2 s2 p2 => ?_
  have R2 := R1.fr f2
  intro r e
  cases hz : ov x y with
  | none => rw [hz] at e; cases e
  | some z =>
    rw [hz] at e
    obtain ⟨d, T, e1, v1⟩ := ho _ n S2 a b x y z R2.avb R2.st (p1.fr f2) p2 hz
    have f3 := Fr.app n S2 T
    have R3 := R2.fr f3
    cases z with
    | bl k =>
      cases v1
      cases k with
      | false =>
        cases e
        exact ⟨S2 ++ T, f3, s2.app T, _, by rw [e1]; rfl, .bl _⟩
      | true =>
        have := OkE.bind (P := fun S' d y => ValB (Av B O L) n S' d y) (Q := fun S' d y => Val (Av B O L) n S' d y) (f := fun c S4 => op' b c S4) (hc B P n (S2 ++ T) L E g2 R3 (s2.app T)) (fun S4 c z g4 f4 s4 p4 => by
          have R4 := R3.fr f4
          intro r e
          cases hw : ov' y z with
          | none => rw [hw] at e; cases e
          | some w =>
            rw [hw] at e
            cases e
            obtain ⟨d2, T2, e2, v2⟩ := ho' _ n S4 b c y z w R4.avb R4.st ((p2.fr f3).fr f4) p4 hw
            exact ⟨S4 ++ T2, Fr.app _ _ _, s4.app T2, d2, e2, v2⟩) r e
        obtain ⟨S5, f5, s5, h5⟩ := this
        exact ⟨S5, f3.trans f5, s5, by rw [e1]; exact h5⟩
    | _ => cases e
end
inductive FY where
  | nx (E : VL) | rt (y : Y) | bk (E : VL) | ct (E : VL)
abbrev VS := VL → Gs → OV FY

structure FrN (P : Nat → Prop) (n : Option Nat) (S S' : Sto) : Prop where
  keep : ∀ (m : Nat) (c : Cell), P m → n ≠ some m → c.kpt = true → S[m]? = some c → S'[m]? = some c
  len : S.length ≤ S'.length
theorem FrN.refl (P : Nat → Prop) (n : Option Nat) (S : Sto) : FrN P n S S := ⟨fun _ _ _ _ _ h => h, Nat.le_refl _⟩
theorem Fr.n {n : Option Nat} {S S' : Sto} (f : Fr n S S') (P : Nat → Prop) : FrN P n S S' := ⟨fun m c _ h => f.keep m c h, f.len⟩

def StN (fx : Prop) (P : Nat → Prop) (n n' : Option Nat) : Prop := n' = n ∨ (¬ fx ∧ ∀ m, n' = some m → ¬ P m)
theorem StN.refl {fx : Prop} {P : Nat → Prop} {n : Option Nat} : StN fx P n n := .inl rfl
theorem StN.trans {fx : Prop} {P : Nat → Prop} {n n1 n2 : Option Nat} (a : StN fx P n n1) (b : StN fx P n1 n2) : StN fx P n n2 := by
  rcases b with b | b
  · rw [b]; exact a
  · exact .inr b
theorem FrN.trans {fx : Prop} {P : Nat → Prop} {n n1 : Option Nat} {S S1 S2 : Sto} (a : FrN P n S S1) (b : FrN P n1 S1 S2) (h : StN fx P n n1) : FrN P n S S2 :=
  ⟨fun m c h1 h2 h3 h4 => b.keep m c h1 (fun z => by
    rcases h with h | h
    · exact h2 (h ▸ z)
    · exact h.2 m z h1) h3 (a.keep m c h1 h2 h3 h4), Nat.le_trans a.len b.len⟩
theorem FrN.less {P P' : Nat → Prop} {n : Option Nat} {S S' : Sto} (a : FrN P n S S') (h : ∀ m, P' m → P m) : FrN P' n S S' := ⟨fun m c h1 => a.keep m c (h m h1), a.len⟩
theorem StN.less {fx : Prop} {P P' : Nat → Prop} {n n' : Option Nat} (a : StN fx P n n') (h : ∀ m, P' m → P m) : StN fx P' n n' := a.imp id fun ⟨x, y⟩ => ⟨x, fun m e z => y m e (h m z)⟩

def RetV (rv : Prop) (B P : Nat → Prop) (n : Option Nat) (S : Sto) (d : D) (y : Y) : Prop := Val B n S d y ∧ (rv → ∃ m c, d = .ref m ∧ ¬ P m ∧ n ≠ some m ∧ S[m]? = some c ∧ CellV (fun j => B j ∨ j = m) n S c y)
def EndS (fx rv : Prop) (B P : Nat → Prop) (n : Option Nat) (O' : List Nat) (S : Sto) (x : O FD) (r : R FY × Gs) : Prop :=
  ∃ S' n', FrN P n S S' ∧ StN fx P n n' ∧ Stt n' S' r.2 ∧ match r.1 with
    | .ok (.nx E') => ∃ L', x = some (.ok (.nx L'), S') ∧ Rel B P n' O' S' L' E'
    | .ok (.bk E') => ∃ L', x = some (.ok (.bk L'), S') ∧ Rel B P n' O' S' L' E'
    | .ok (.ct E') => ∃ L', x = some (.ok (.ct L'), S') ∧ Rel B P n' O' S' L' E'
    | .ok (.rt y) => ∃ d, x = some (.ok (.rt d), S') ∧ RetV rv B P n' S' d y
    | .ex e => x = some (.ex e, S')
def SimS (fx rv : Prop) (O O' : List Nat) (fs : SM) (vs : VS) : Prop := ∀ B P n S L E g, Rel B P n O S L E → Stt n S g → ∀ r, vs E g = some r → EndS fx rv B P n O' S (fs L S) r
section
variable {fx rv : Prop} {O O1 O2 : List Nat} {fa fb fc : EM} {va vb vc : VE}
theorem Rel.less {B P : Nat → Prop} {n : Option Nat} {S : Sto} {L : Loc} {E : VL} (h : Rel B P n O S L E) (k : ∀ i, i ∈ O1 → i ∈ O) : Rel B P n O1 S L E := by
  have hA : ∀ m, Av B O1 L m → Av B O L m := fun m hm => hm.imp id fun ⟨i, hi, e⟩ => ⟨i, k i hi, e⟩
  refine ⟨h.len, fun i hi d e => ?_, fun i hi => h.set i (k i hi), fun i hi j hj => h.inj i (k i hi) j (k j hj), fun i hi y e => ?_, h.bd, h.nb, h.st⟩
  · obtain ⟨m, c, y, h1, h2, h2', h3, h4, h5, h6⟩ := h.own i (k i hi) d e
    exact ⟨m, c, y, h1, h2, h2', h3, h4, h5, h6.mono fun m c a b c1 e => ⟨fun z => a (hA m z), e⟩⟩
  · by_cases hO : i ∈ O
    · obtain ⟨d, hd⟩ := h.set i hO y e
      obtain ⟨m, c, y', rfl, h2, h2', h3, h4, h5, h6⟩ := h.own i hO d hd
      rw [e] at h5; cases h5
      refine ⟨_, hd, (h6.mono fun m c a b c1 e => ⟨fun z => a (hA m z), e⟩).val h4 (fun z => ?_) h3⟩
      rcases z with z | ⟨j, hj, e2⟩
      · exact h2' z
      · exact hi (h.inj i hO j (k j hj) m hd e2 ▸ hj)
    · obtain ⟨d, h1, h2⟩ := h.shr i hO y e
      exact ⟨d, h1, h2.less hA⟩
def vnx : VS := fun E g => some (.ok (.nx E), g)
theorem sim_nx : SimS fx rv O O nxS vnx := fun B P n S L E g R s r e => by
  cases e
  exact ⟨S, n, .refl _ _ _, .refl, s, L, rfl, R⟩
def vbk : VS := fun E g => some (.ok (.bk E), g)
def vct : VS := fun E g => some (.ok (.ct E), g)
def vseq (f h : VS) : VS := fun E g => bv (f E g) fun fl g1 => match fl with
  | .nx E1 => h E1 g1
  | fl => some (.ok fl, g1)

theorem sim_seq {f h : SM} {v w : VS} (h1 : SimS fx rv O O1 f v) (h2 : SimS fx rv O1 O2 h w) (hb : ∀ E g r, v E g = some r → (∀ E', r.1 ≠ .ok (.bk E')) ∧ ∀ E', r.1 ≠ .ok (.ct E')) : SimS fx rv O O2 (seqS f h) (vseq v w) := fun B P n S L E g R s r e => by
  unfold vseq at e
  unfold seqS
  cases hv : v E g with
  | none => rw [hv] at e; cases e
  | some z =>
    rw [hv] at e
    obtain ⟨S1, n1, f1, t1, s1, q1⟩ := h1 B P n S L E g R s z hv
    have hz := hb E g z hv
    obtain ⟨z, g1⟩ := z
    cases z with
    | ex x =>
      cases e
      have q1 : f L S = some (.ex x, S1) := q1
      rw [q1]
      exact ⟨S1, n1, f1, t1, s1, rfl⟩
    | ok fl =>
      cases fl with
      | nx E1 =>
        obtain ⟨L1, e1, R1⟩ := q1
        rw [e1]
        obtain ⟨S2, n2, f2, t2, s2, q2⟩ := h2 B P n1 S1 L1 E1 g1 R1 s1 r e
        exact ⟨S2, n2, f1.trans f2 t1, t1.trans t2, s2, q2⟩
      | rt y =>
        cases e
        obtain ⟨d, e1, v1⟩ := q1
        rw [e1]
        exact ⟨S1, n1, f1, t1, s1, d, rfl, v1⟩
      | bk E1 => exact absurd rfl (hz.1 E1)
      | ct E1 => exact absurd rfl (hz.2 E1)

def vexpr (f : VE) : VS := fun E g => bv (f E g) fun _ g1 => some (.ok (.nx E), g1)

theorem EndS.of {α β : Type} {B P : Nat → Prop} {n : Option Nat} {S : Sto} {L : Loc} {E : VL} {PP : Sto → α → β → Prop} {x : Ev.O α} {y : OV β} {f : α → Sto → Ev.O FD} {h : β → Gs → OV FY} (R : Rel B P n O S L E) (hx : ∀ r, y = some r → OkE n S PP x r)
    (hf : ∀ S' a b g', Fr n S S' → Rel B P n O S' L E → Stt n S' g' → PP S' a b → ∀ r, h b g' = some r → EndS fx rv B P n O1 S' (f a S') r) : ∀ r, bv y h = some r → EndS fx rv B P n O1 S (bnd x f) r := by
  intro r hr
  cases y with
  | none => cases hr
  | some z =>
    obtain ⟨z, g1⟩ := z
    obtain ⟨S1, f1, s1, h1⟩ := hx _ rfl
    cases z with
    | ex e =>
      cases hr
      have h1 : x = some (.ex e, S1) := h1
      rw [h1]
      exact ⟨S1, n, f1.n P, .refl, s1, rfl⟩
    | ok b =>
      obtain ⟨a, e1, p1⟩ : ∃ a, x = some (.ok a, S1) ∧ PP S1 a b := h1
      rw [e1]
      obtain ⟨S2, n2, f2, t2, s2, h2⟩ := hf S1 a b g1 f1 (R.fr f1) s1 p1 r hr
      exact ⟨S2, n2, (f1.n P).trans (fx := fx) f2 .refl, t2, s2, h2⟩
theorem sim_expr (h : SimE O fa va) : SimS fx rv O O (exprS fa) (vexpr va) := fun B P n S L E g R s => by
  refine EndS.of R (h B P n S L E g R s) fun S1 a x g1 f1 R1 s1 p1 r e => ?_
  cases e
  exact ⟨S1, n, .refl _ _ _, .refl, s1, L, rfl, R1⟩
def vret (f : VE) : VS := fun E g => bv (f E g) fun y g1 => some (.ok (.rt y), g1)
theorem sim_ret (h : SimE O fa va) : SimS fx False O O1 (retS fa) (vret va) := fun B P n S L E g R s => by
  refine EndS.of R (h B P n S L E g R s) fun S1 a x g1 f1 R1 s1 p1 r e => ?_
  cases e
  exact ⟨S1, n, .refl _ _ _, .refl, s1, a, rfl, p1.less fun m z => .inl z, False.elim⟩

theorem sim_retF (h : SimN O fa va) : SimS fx rv O O1 (retS fa) (vret va) := fun B P n S L E g R s => by
  refine EndS.of R (PP := fun S' d y => New (Av B O L) n S.length S' d y) (h B P n S L E g R s) fun S1 a x g1 f1 R1 s1 p1 r e => ?_
  cases e
  obtain ⟨m, c, rfl, h1, h2, h3⟩ := p1
  have hP : ¬ P m := fun z => by have := R.nb m z; omega
  have hB : ¬ B m := fun z => by have := R.bd m z; omega
  have hn : n ≠ some m := fun z => by have := R.st m z; omega
  have h4 : CellV (fun j => B j ∨ j = m) n S1 c x := h3.mono fun k c a b c1 e => ⟨fun z => a (z.imp .inl id), e⟩
  exact ⟨S1, n, .refl _ _ _, .refl, s1, _, rfl, (h4.mono fun k c a b c1 e => ⟨fun z => a (.inl z), e⟩).val h2 hB hn, fun _ => ⟨m, c, rfl, hP, hn, h2, h4⟩⟩

theorem sim_fx {fs : SM} {vs : VS} (h : SimS True rv O O1 fs vs) : SimS fx rv O O1 fs vs := fun B P n S L E g R s r e => by
  obtain ⟨S', n', h1, h2, h3, h4⟩ := h B P n S L E g R s r e
  refine ⟨S', n', h1, h2.imp id fun z => absurd trivial z.1, h3, h4⟩
def vretN : VS := fun _ g => some (.ok (.rt .non), g)
def vifS (c : VT) (f h : VS) : VS := fun E g => bv (c E g) fun b g1 => match b with
  | true => f E g1
  | false => h E g1
theorem sim_ifS {c : TM} {v : VT} {f h : SM} {w u : VS} (h0 : SimT O c v) (h1 : SimS fx rv O O1 f w) (h2 : SimS fx rv O O1 h u) : SimS fx rv O O1 (ifS c f h) (vifS v w u) := fun B P n S L E g R s => by
  refine EndS.of R (h0 B P n S L E g R s) fun S1 a x g1 f1 R1 s1 p1 => ?_
  subst p1
  cases a with
  | true => exact h1 B P n S1 L E g1 R1 s1
  | false => exact h2 B P n S1 L E g1 R1 s1
def vraise (k : Nat) (f : VA) : VS := fun E g => bv (f E g) fun ys g1 => if ys.length ≤ 1000000 then some (.ex (.c k), g1) else none
theorem sim_raise {k : Nat} {f : AM} {h : VA} (ha : SimA O f h) : SimS fx rv O O1 (raiseS k f) (vraise k h) := fun B P n S L E g R s => by
  refine EndS.of R (ha B P n S L E g R s) fun S1 a x g1 f1 R1 s1 p1 r e => ?_
  split at e
  · rename_i hl
    cases e
    exact ⟨S1, n, .refl _ _ _, .refl, s1, by rw [if_pos (by rw [p1.len]; exact hl)]⟩
  · cases e
end
end Ev
end
section
set_option Elab.async false
set_option linter.all false
set_option maxRecDepth 100000
namespace Ev
open PySem L2
section
variable {fx rv : Prop} {O O1 O2 : List Nat} {fa fb fc : EM} {va vb vc : VE} {B P : Nat → Prop} {n : Option Nat} {S S1 : Sto} {L L' : Loc} {E : VL}
theorem av_set {i : Nat} {d : Option D} (hi : i ∉ O) : Av B O (L.set i d) = Av B O L := by
  funext m
  refine propext (or_congr_right ⟨fun ⟨j, hj, e⟩ => ⟨j, hj, ?_⟩, fun ⟨j, hj, e⟩ => ⟨j, hj, ?_⟩⟩)
  · rw [List.getElem?_set_ne (by rintro rfl; exact hi hj)] at e; exact e
  · rw [List.getElem?_set_ne (by rintro rfl; exact hi hj)]; exact e
theorem set_get {α : Type} {xs : List (Option α)} {i j : Nat} {a b : α} (h : (xs.set i (some a))[j]? = some (some b)) : (j = i ∧ b = a) ∨ (j ≠ i ∧ xs[j]? = some (some b)) := by
  by_cases hj : j = i
  · subst hj
    have hl : j < xs.length := by have := (List.getElem?_eq_some_iff.mp h).1; simpa using this
    rw [List.getElem?_set_self hl] at h
    cases h
    exact .inl ⟨rfl, rfl⟩
  · rw [List.getElem?_set_ne (Ne.symm hj)] at h
    exact .inr ⟨hj, h⟩

theorem Rel.setS (R : Rel B P n O S L E) {i : Nat} (hi : i ∉ O) {d : D} {y : Y} (v : Val (Av B O L) n S d y) : Rel B P n O S (L.set i (some d)) (E.set i (some y)) := by
  have hA : Av B O (L.set i (some d)) = Av B O L := av_set hi
  refine ⟨by simp [R.len], fun j hj e he => ?_, fun j hj y' he => ?_, fun j hj k hk m h1 h2 => ?_, fun j hj y' he => ?_, R.bd, R.nb, R.st⟩
  · rw [hA]
    have hji : j ≠ i := fun z => hi (z ▸ hj)
    rw [List.getElem?_set_ne (Ne.symm hji)] at he
    rw [List.getElem?_set_ne (Ne.symm hji)]
    exact R.own j hj e he
  · have hji : j ≠ i := fun z => hi (z ▸ hj)
    rw [List.getElem?_set_ne (Ne.symm hji)] at he ⊢
    exact R.set j hj y' he
  · have hji : j ≠ i := fun z => hi (z ▸ hj)
    have hki : k ≠ i := fun z => hi (z ▸ hk)
    rw [List.getElem?_set_ne (Ne.symm hji)] at h1
    rw [List.getElem?_set_ne (Ne.symm hki)] at h2
    exact R.inj j hj k hk m h1 h2
  · rw [hA]
    rcases set_get he with ⟨rfl, rfl⟩ | ⟨hji, he⟩
    · have hl : j < E.length := by
        have := (List.getElem?_eq_some_iff.mp he).1
        simpa using this
      exact ⟨d, by rw [List.getElem?_set_self (by rw [R.len]; exact hl)], v⟩
    · rw [List.getElem?_set_ne (Ne.symm hji)]
      exact R.shr j hj y' he

theorem Rel.setN (R : Rel B P n O S L E) (f : Fr n S S1) {i : Nat} {d : D} {y : Y} (v : New (Av B O L) n S.length S1 d y) (hO : ∀ j, j ∈ O1 → j = i ∨ j ∈ O) (hO' : ∀ j, j ∈ O → j = i ∨ j ∈ O1) (hi : i ∈ O1) : Rel B P n O1 S1 (L.set i (some d)) (E.set i (some y)) := by
  obtain ⟨m, c, rfl, h1, h2, h3⟩ := v
  have hA : ∀ k, Av B O1 (L.set i (some (.ref m))) k → Av B O L k ∨ k = m := fun k hk => by
    rcases hk with hk | ⟨j, hj, e⟩
    · exact .inl (.inl hk)
    · rcases set_get e with ⟨_, z⟩ | ⟨hji, e⟩
      · cases z; exact .inr rfl
      · rcases hO j hj with z | z
        · exact absurd z hji
        · exact .inl (.inr ⟨j, z, e⟩)
  have tr : ∀ {d : D} {y : Y}, Val (Av B O L) n S d y → Val (Av B O1 (L.set i (some (.ref m)))) n S1 d y := fun v => (v.mono (A' := fun k => Av B O L k ∨ k = m) (S' := S1) fun k c a b c1 e => ⟨fun z => z.elim a fun z => by have := (List.getElem?_eq_some_iff.mp e).1; omega, f.keep k c b c1 e⟩).less hA
  have trC : ∀ {c : Cell} {y : Y}, CellV (Av B O L) n S c y → CellV (Av B O1 (L.set i (some (.ref m)))) n S1 c y := fun v => (v.mono (A' := fun k => Av B O1 (L.set i (some (.ref m))) k) (S' := S1) fun k c a b c1 e => ⟨fun z => (hA k z).elim a fun z => by have := (List.getElem?_eq_some_iff.mp e).1; omega, f.keep k c b c1 e⟩)
  refine ⟨by simp [R.len], fun j hj e he => ?_, fun j hj y' he => ?_, fun j hj k hk q e1 e2 => ?_, fun j hj y' he => ?_, fun k hk => Nat.lt_of_lt_of_le (R.bd k hk) f.len, fun k hk => Nat.lt_of_lt_of_le (R.nb k hk) f.len, fun k hk => Nat.lt_of_lt_of_le (R.st k hk) f.len⟩
  · rcases set_get he with ⟨rfl, rfl⟩ | ⟨hji, he⟩
    · have hl : j < L.length := by
        have := (List.getElem?_eq_some_iff.mp he).1
        simpa using this
      refine ⟨m, c, y, rfl, fun z => ?_, fun z => ?_, fun z => ?_, h2, by rw [List.getElem?_set_self (by rw [← R.len]; exact hl)], h3.mono fun k c a b c1 e => ⟨fun z => a (hA k z), e⟩⟩
      · have := R.nb m z; omega
      · have := R.bd m z; omega
      · have := R.st m z; omega
    · have hjO : j ∈ O := (hO j hj).resolve_left hji
      obtain ⟨k, c', y', q1, q2, q3, q4, q5, q6, q7⟩ := R.own j hjO e he
      exact ⟨k, c', y', q1, q2, q3, q4, f.keep k c' q4 q7.mut q5, by rw [List.getElem?_set_ne (Ne.symm hji)]; exact q6, trC q7⟩
  · rcases set_get he with ⟨rfl, rfl⟩ | ⟨hji, he⟩
    · have hl : j < E.length := by
        have := (List.getElem?_eq_some_iff.mp he).1
        simpa using this
      exact ⟨_, by rw [List.getElem?_set_self (by rw [R.len]; exact hl)]⟩
    · rw [List.getElem?_set_ne (Ne.symm hji)]
      exact R.set j ((hO j hj).resolve_left hji) y' he
  · rcases set_get e1 with ⟨rfl, z1⟩ | ⟨hji, e1⟩ <;> rcases set_get e2 with ⟨rfl, z2⟩ | ⟨hki, e2⟩
    · rfl
    · cases z1
      have := R.avb m (.inr ⟨k, (hO k hk).resolve_left hki, e2⟩)
      omega
    · cases z2
      have := R.avb m (.inr ⟨j, (hO j hj).resolve_left hji, by rw [List.getElem?_set_ne (Ne.symm hji)] at e1; exact e1⟩)
      omega
    · exact R.inj j ((hO j hj).resolve_left hji) k ((hO k hk).resolve_left hki) q e1 e2
  · have hji : j ≠ i := fun z => hj (z ▸ hi)
    rw [List.getElem?_set_ne (Ne.symm hji)] at he ⊢
    have hjO : j ∉ O := fun z => (hO' j z).elim hji hj
    obtain ⟨d', q1, q2⟩ := R.shr j hjO y' he
    exact ⟨d', q1, tr q2⟩

theorem Rel.mut (R : Rel B P n O S L E) {i m : Nat} {c' : Cell} {y' : Y} (hi : i ∈ O) (hm : L[i]? = some (some (.ref m))) (v : CellV (Av B O L) n S c' y') : Rel B P n O (S.set m c') L (E.set i (some y')) := by
  have keep : ∀ k c, ¬ Av B O L k → n ≠ some k → c.kpt = true → S[k]? = some c → ¬ Av B O L k ∧ (S.set m c')[k]? = some c := fun k c a b c1 e => ⟨a, by
    rw [List.getElem?_set_ne (by rintro rfl; exact a (.inr ⟨i, hi, hm⟩))]; exact e⟩
  obtain ⟨m0, c0, y0, q1, q2, q3, q4, q5, q6, q7⟩ := R.own i hi _ hm
  cases q1
  have hl : m < S.length := (List.getElem?_eq_some_iff.mp q5).1
  refine ⟨by simp [R.len], fun j hj e he => ?_, fun j hj y he => ?_, R.inj, fun j hj y he => ?_, fun k hk => by simpa using R.bd k hk, fun k hk => by simpa using R.nb k hk, fun k hk => by simpa using R.st k hk⟩
  · obtain ⟨k, c, y, p1, p2, p3, p4, p5, p6, p7⟩ := R.own j hj e he
    by_cases hji : j = i
    · subst hji
      rw [hm] at he; cases he
      cases p1
      exact ⟨m, c', y', rfl, p2, p3, p4, List.getElem?_set_self hl, List.getElem?_set_self (by rw [← R.len]; exact (List.getElem?_eq_some_iff.mp hm).1), v.mono keep⟩
    · subst p1
      have hkm : m ≠ k := fun z => hji (R.inj j hj i hi k he (z ▸ hm))
      exact ⟨k, c, y, rfl, p2, p3, p4, by rw [List.getElem?_set_ne hkm]; exact p5, by rw [List.getElem?_set_ne (Ne.symm hji)]; exact p6, p7.mono keep⟩
  · rcases set_get he with ⟨rfl, rfl⟩ | ⟨_, he⟩
    · exact ⟨_, hm⟩
    · exact R.set j hj y he
  · have hji : j ≠ i := fun z => hj (z ▸ hi)
    rw [List.getElem?_set_ne (Ne.symm hji)] at he
    obtain ⟨d, h1, h2⟩ := R.shr j hj y he
    exact ⟨d, h1, h2.mono keep⟩
theorem Rel.mutF (R : Rel B P n O S L E) {i m : Nat} {c' : Cell} (hi : i ∈ O) (hm : L[i]? = some (some (.ref m))) : FrN P n S (S.set m c') ∧ ∀ g, Stt n S g → Stt n (S.set m c') g := by
  obtain ⟨m0, c0, y0, q1, q2, q3, q4, q5, q6, q7⟩ := R.own i hi _ hm
  cases q1
  exact ⟨⟨fun k c h1 h2 h3 h4 => by rw [List.getElem?_set_ne (by rintro rfl; exact q2 h1)]; exact h4, by simp⟩, fun g s k hk => by rw [List.getElem?_set_ne (by rintro rfl; exact q4 hk)]; exact s k hk⟩

def SimG (O : List Nat) (gm : GM) (vg : Y → VL → Option VL) : Prop := ∀ B P n S L E d y E', Rel B P n O S L E → Val (Av B O L) n S d y → vg y E = some E' → ∃ L', gm d L S = some (.ok L', S) ∧ Rel B P n O S L' E' ∧ Av B O L' = Av B O L
def SimGs (O : List Nat) (gm : GsM) (vg : List Y → VL → Option VL) : Prop := ∀ B P n S L E d y E', Rel B P n O S L E → ValL (Av B O L) n S d y → vg y E = some E' → ∃ L', gm d L S = some (.ok L', S) ∧ Rel B P n O S L' E' ∧ Av B O L' = Av B O L
def gset (i : Nat) : Y → VL → Option VL := fun y E => some (E.set i (some y))
theorem sim_gset (i : Nat) (hi : i ∉ O) : SimG O (setG i) (gset i) := fun B P n S L E d y E' R v e => by
  cases e
  exact ⟨_, rfl, R.setS hi v, av_set hi⟩
def gnil : List Y → VL → Option VL := fun ys E => match ys with
  | [] => some E
  | _ => none
def gcons (f : Y → VL → Option VL) (h : List Y → VL → Option VL) : List Y → VL → Option VL := fun ys E => match ys with
  | y :: ys => (f y E).bind (h ys)
  | [] => none
theorem sim_gnil : SimGs O nilG gnil := fun B P n S L E d y E' R v e => by
  cases v with
  | nil => cases e; exact ⟨L, rfl, R, rfl⟩
  | cons _ _ => cases e
theorem sim_gcons {f : GM} {h : GsM} {v : Y → VL → Option VL} {w : List Y → VL → Option VL} (h1 : SimG O f v) (h2 : SimGs O h w) : SimGs O (consG f h) (gcons v w) := fun B P n S L E d y E' R u e => by
  cases u with
  | nil => cases e
  | @cons d y ds ys u1 u2 =>
    obtain ⟨E1, e1, e2⟩ := Option.bind_eq_some_iff.mp e
    obtain ⟨L1, q1, R1, a1⟩ := h1 B P n S L E d y E1 R u1 e1
    obtain ⟨L2, q2, R2, a2⟩ := h2 B P n S L1 E1 ds ys E' R1 (by rw [a1]; exact u2) e2
    exact ⟨L2, by simp only [consG, q1, bndo, q2], R2, a2.trans a1⟩
def gtup (k : Nat) (h : List Y → VL → Option VL) : Y → VL → Option VL := fun y E => match y with
  | .tup ys => if ys.length = k then h ys E else none
  | _ => none
theorem sim_gtup {k : Nat} {h : GsM} {w : List Y → VL → Option VL} (h2 : SimGs O h w) : SimG O (tupG k h) (gtup k w) := fun B P n S L E d y E' R u e => by
  cases y with
  | tup ys =>
    obtain ⟨ds, u1, rfl⟩ := u.b.tup
    have e : (if ys.length = k then w ys E else none) = some E' := e
    split at e
    · rename_i hk
      obtain ⟨L2, q2, R2, a2⟩ := h2 B P n S L E ds ys E' R u1 e
      exact ⟨L2, by simp only [tupG]; rw [if_pos (by rw [u1.len]; exact hk)]; exact q2, R2, a2⟩
    · cases e
  | _ => cases e
def vasg (f : VE) (vg : Y → VL → Option VL) : VS := fun E g => bv (f E g) fun y g1 => match vg y E with
  | some E' => some (.ok (.nx E'), g1)
  | none => none
theorem sim_asg {gm : GM} {vg : Y → VL → Option VL} (ha : SimE O fa va) (hg : SimG O gm vg) : SimS fx rv O O (asgS fa gm) (vasg va vg) := fun B P n S L E g R s => by
  refine EndS.of R (ha B P n S L E g R s) fun S1 a x g1 f1 R1 s1 p1 r e => ?_
  cases hE : vg x E with
  | none => rw [hE] at e; cases e
  | some E' =>
    rw [hE] at e
    cases e
    obtain ⟨L', q1, q2, _⟩ := hg B P n S1 L E a x E' R1 p1 hE
    exact ⟨S1, n, .refl _ _ _, .refl, s1, L', by simp only [q1, bndo], q2⟩

theorem sim_own (i : Nat) (ha : SimN O fa va) (hO : ∀ j, j ∈ O1 → j = i ∨ j ∈ O) (hO' : ∀ j, j ∈ O → j = i ∨ j ∈ O1) (hi : i ∈ O1) : SimS fx rv O O1 (asgS fa (setG i)) (vasg va (gset i)) := fun B P n S L E g R s r e => by
  unfold vasg at e
  have h := ha B P n S L E g R s
  cases hv : va E g with
  | none => rw [hv] at e; cases e
  | some z =>
    rw [hv] at e
    obtain ⟨S1, f1, s1, q1⟩ := h z hv
    obtain ⟨z, g1⟩ := z
    cases z with
    | ex x =>
      cases e
      have q1 : fa L S = some (.ex x, S1) := q1
      exact ⟨S1, n, f1.n P, .refl, s1, by simp only [asgS, q1, bndx]⟩
    | ok y =>
      obtain ⟨d, e1, v1⟩ := q1
      cases e
      exact ⟨S1, n, f1.n P, .refl, s1, L.set i (some d), by simp only [asgS, e1, bndo, setG], R.setN f1 v1 hO hO' hi⟩

def vpar (i j : Nat) (f : VA) : VS := fun E g => bv (f E g) fun ys g1 => match ys with
  | [y1, y2] => some (.ok (.nx ((E.set i (some y1)).set j (some y2))), g1)
  | _ => none
theorem sim_par {i j : Nat} {f : AM} {h : VA} (ha : SimA O f h) (hi : i ∉ O) (hj : j ∉ O) : SimS fx rv O O (parS i j f) (vpar i j h) := fun B P n S L E g R s => by
  refine EndS.of R (ha B P n S L E g R s) fun S1 a x g1 f1 R1 s1 p1 r e => ?_
  match x, e with
  | [y1, y2], e =>
    cases e
    match p1 with
    | .cons u1 (.cons u2 .nil) =>
      exact ⟨S1, n, .refl _ _ _, .refl, s1, _, rfl, (R1.setS hi u1).setS hj (by rw [av_set hi]; exact u2)⟩
def vpar3 (i j k : Nat) (f : VA) : VS := fun E g => bv (f E g) fun ys g1 => match ys with
  | [y1, y2, y3] => some (.ok (.nx (((E.set i (some y1)).set j (some y2)).set k (some y3))), g1)
  | _ => none
def tyY (T : String) : Y → Bool
  | .lst _ => T == "list"
  | .dk _ => T == "dict"
  | .dt _ => T == "dict"
  | _ => false
def vmut (T : String) (i : Nat) (mv : Y → List Y → Option Y) (f : VA) : VS := fun E g => match E[i]? with
  | some (some y) => if tyY T y = true then bv (f E g) fun ys g1 => match mv y ys with
    | some y' => some (.ok (.nx (E.set i (some y'))), g1)
    | none => none
    else none
  | _ => none
theorem cell_ty {A : Nat → Prop} {S : Sto} {m : Nat} {c : Cell} {y : Y} {T : String} (h : S[m]? = some c) (v : CellV A n S c y) : tyOk T S (.ref m) = tyY T y := by
  cases v <;> simp only [tyOk, h, tyY]
def SMutV (V : (Nat → Prop) → Option Nat → Sto → List D → List Y → Prop) (op : OpM) (mv : Y → List Y → Option Y) : Prop := ∀ A n S m c ds y ys y', n ≠ some m → S[m]? = some c → CellV A n S c y → V A n S ds ys → mv y ys = some y' → ∃ c' d, op (.ref m) ds S = some (.ok d, S.set m c') ∧ CellV A n S c' y'
abbrev SMut := SMutV ValL
theorem sim_mutG {T : String} {op : OpM} {mv : Y → List Y → Option Y} {f : AM} {h : VA} {i : Nat} {V : (Nat → Prop) → Option Nat → Sto → List D → List Y → Prop} (ho : SMutV V op mv)
    (ha : ∀ B P n S L E g, Rel B P n O S L E → Stt n S g → ∀ r, h E g = some r → OkE n S (fun S' d y => V (Av B O L) n S' d y) (f L S) r) (hi : i ∈ O) : SimS fx rv O O (exprS (mthE T op (vr i) f)) (vmut T i mv h) := fun B P n S L E g R s r e => by
  unfold vmut at e
  split at e
  · rename_i y hy
    obtain ⟨d, hd⟩ := R.set i hi y hy
    obtain ⟨m, c, y', rfl, h2, h2', h3, h4, h5, h6⟩ := R.own i hi _ hd
    rw [hy] at h5; cases h5
    split at e
    · rename_i ht
      have ht' : tyOk T S (.ref m) = true := (cell_ty h4 h6).trans ht
      have key : ∀ r, (bv (h E g) fun ys g1 => match mv y ys with
        | some y' => some (.ok (.nx (E.set i (some y'))), g1)
        | none => none) = some r → EndS fx rv B P n O S (bnd (f L S) fun ds S2 => bnd (op (.ref m) ds S2) fun _ S3 => some (.ok (.nx L), S3)) r := by
        refine EndS.of R (ha B P n S L E g R s) fun S1 ds ys g1 f1 R1 s1 p1 r e => ?_
        cases hm : mv y ys with
        | none => rw [hm] at e; cases e
        | some y1 =>
          rw [hm] at e
          cases e
          have h4' := f1.keep m c h3 h6.mut h4
          obtain ⟨c', d, e1, v1⟩ := ho _ n S1 m c ds y ys y1 h3 h4' (h6.fr f1) p1 hm
          rw [e1]
          obtain ⟨k1, k2⟩ := R1.mutF (c' := c') hi hd
          exact ⟨S1.set m c', n, k1, .refl, k2 _ s1, L, rfl, R1.mut hi hd v1⟩
      have ex : exprS (mthE T op (vr i) f) L S = (bnd (f L S) fun ds S2 => bnd (op (.ref m) ds S2) fun _ S3 => some (.ok (.nx L), S3)) := by
        simp only [exprS, mthE, vr, hd, bndo, if_pos ht']
        cases f L S with
        | none => rfl
        | some z => obtain ⟨z, S2⟩ := z; cases z <;> rfl
      rw [ex]
      exact key r e
    · cases e
  · cases e
theorem sim_mut {T : String} {op : OpM} {mv : Y → List Y → Option Y} {f : AM} {h : VA} {i : Nat} (ho : SMut op mv) (ha : SimA O f h) (hi : i ∈ O) : SimS fx rv O O (exprS (mthE T op (vr i) f)) (vmut T i mv h) := sim_mutG ho ha hi
def appendV : Y → List Y → Option Y
  | .lst ys, [y] => if ys.length < 1000000 then some (.lst (ys ++ [y])) else none
  | _, _ => none
theorem so_append : SMut appendD appendV := fun A n S m c ds y ys y' hn hS hc v e => by
  match y, ys, e with
  | .lst us, [u], e =>
    cases hc with
    | lst w =>
      match v with
      | .cons v1 .nil =>
        have e : (if us.length < 1000000 then some (Y.lst (us ++ [u])) else none) = some y' := e
        split at e
        · rename_i hl
          cases e
          exact ⟨_, _, by simp only [appendD, hS]; rw [if_pos (by rw [w.len]; exact hl)], .lst (w.app (.cons v1 .nil))⟩
        · cases e
end
end Ev
end
section
set_option Elab.async false
set_option linter.all false
set_option maxRecDepth 100000
namespace Ev
open PySem L2
abbrev VI := VL → Gs → OV (List Y)

def ItV (A : Nat → Prop) (n : Option Nat) (S : Sto) (it : ItS) (ys : List Y) : Prop := ∃ ds, ValL A n S ds ys ∧ (it = .fix ds ∨ (∃ m, it = .live m ds.length ∧ ¬ A m ∧ n ≠ some m ∧ S[m]? = some (.lst ds)) ∨ ∃ f, it = .gen f ds.length ∧ ∀ S', (∀ m c, ¬ A m → n ≠ some m → c.kpt = true → S[m]? = some c → S'[m]? = some c) → f S' = some ds)
def ItB (A : Nat → Prop) (n : Option Nat) (S : Sto) (it : ItS) (ys : List Y) : Prop := ∃ ds, ValL A n S ds ys ∧ (it = .fix ds ∨ (∃ m, it = .live m ds.length ∧ n ≠ some m ∧ S[m]? = some (.lst ds)) ∨ ∃ f, it = .gen f ds.length ∧ ∀ S', (∀ m c, n ≠ some m → c.kpt = true → S[m]? = some c → S'[m]? = some c) → f S' = some ds)
def SimI (O : List Nat) (fi : IM) (vi : VI) : Prop := ∀ B P n S L E g, Rel B P n O S L E → Stt n S g → ∀ r, vi E g = some r → OkE n S (fun S' it ys => ItV (Av B O L) n S' it ys) (fi L S) r
def SimIB (O : List Nat) (fi : IM) (vi : VI) : Prop := ∀ B P n S L E g, Rel B P n O S L E → Stt n S g → ∀ r, vi E g = some r → OkE n S (fun S' it ys => ItB (Av B O L) n S' it ys) (fi L S) r
theorem SimI.b {O : List Nat} {fi : IM} {vi : VI} (h : SimI O fi vi) : SimIB O fi vi := fun B P n S L E g R s r e => (h B P n S L E g R s r e).mono fun S' it ys f ⟨ds, v, h⟩ => ⟨ds, v, h.imp id fun h => h.imp (fun ⟨m, a, b, c, d⟩ => ⟨m, a, c, d⟩) fun ⟨f, a, b⟩ => ⟨f, a, fun S' k => b S' fun m c _ h1 h2 h3 => k m c h1 h2 h3⟩⟩
def vseqI (f : VE) : VI := fun E g => bv (f E g) fun y g1 => match y with
  | .tup ys => some (.ok ys, g1)
  | .fl ys => some (.ok ys, g1)
  | .lst ys => some (.ok ys, g1)
  | _ => none
section
variable {fx rv : Prop} {O O1 O2 : List Nat} {fa fb fc : EM} {va vb vc : VE} {B P : Nat → Prop} {n : Option Nat} {S S1 : Sto} {L L' : Loc} {E : VL}
theorem sim_iseq (h : SimE O fa va) : SimI O (seqI fa) (vseqI va) := fun B P n S L E g R s => by
  refine OkE.bind (P := fun S' d y => Val (Av B O L) n S' d y) (h B P n S L E g R s) fun S1 a x g1 f1 s1 p1 r e => ?_
  cases x with
  | tup ys => cases e; cases p1 with
    | tup v => exact ⟨S1, .refl _ _, s1, _, rfl, _, v, .inl rfl⟩
  | fl ys => cases e; cases p1 with
    | fl v => exact ⟨S1, .refl _ _, s1, _, rfl, _, v, .inl rfl⟩
  | lst ys => cases e; cases p1 with
    | lst a b c v => exact ⟨S1, .refl _ _, s1, _, by simp only [c], _, v, .inr (.inl ⟨_, rfl, a, b, c⟩)⟩
  | _ => cases e
theorem sim_iseqB (h : SimB O fa va) : SimIB O (seqI fa) (vseqI va) := fun B P n S L E g R s => by
  refine OkE.bind (P := fun S' d y => ValB (Av B O L) n S' d y) (h B P n S L E g R s) fun S1 a x g1 f1 s1 p1 r e => ?_
  cases x with
  | tup ys => cases e; obtain ⟨ds, v, rfl⟩ := p1.tup; exact ⟨S1, .refl _ _, s1, _, rfl, _, v, .inl rfl⟩
  | fl ys => cases e; obtain ⟨ds, v, rfl⟩ := p1.fl; exact ⟨S1, .refl _ _, s1, _, rfl, _, v, .inl rfl⟩
  | lst ys => cases e; obtain ⟨ds, m, v, rfl, hn, c⟩ := p1.lst; exact ⟨S1, .refl _ _, s1, _, by simp only [c], _, v, .inr (.inl ⟨_, rfl, hn, c⟩)⟩
  | _ => cases e
def rngV (lo : Int) (k : Nat) : List Y := (List.range k).map fun (i : Nat) => Y.int (lo + (i : Int))
def vrng1 (f : VA) : VI := fun E g => bv (f E g) fun ys g1 => match ys with
  | [.int j] => if -1000000000 ≤ j ∧ j ≤ 1000000000 then some (.ok (rngV 0 j.toNat), g1) else none
  | _ => none
def vrng2 (f : VA) : VI := fun E g => bv (f E g) fun ys g1 => match ys with
  | [.int i, .int j] => if -1000000000 ≤ i ∧ i ≤ 1000000000 ∧ -1000000000 ≤ j ∧ j ≤ 1000000000 then some (.ok (rngV i (j - i).toNat), g1) else none
  | _ => none
theorem forN_end {nx : Nat → Sto → Option (Option D)} {step : D → SM} {k i : Nat} {L : Loc} {S : Sto} (h : nx i S = some none) : forN nx step k i L S = some (.ok (.nx L), S) := by rw [forN]; simp only [h]
theorem forN_go {nx : Nat → Sto → Option (Option D)} {step : D → SM} {k i : Nat} {L : Loc} {S : Sto} {d : D} (h : nx i S = some (some d)) : forN nx step (k + 1) i L S = bnd (step d L S) fun fl S1 => match fl with
        | .nx L1 => forN nx step k (i + 1) L1 S1
        | .ct L1 => forN nx step k (i + 1) L1 S1
        | .bk L1 => some (.ok (.nx L1), S1)
        | .rt d => some (.ok (.rt d), S1) := by rw [forN]; simp only [h] <;> rfl
def forV (step : Y → VS) : List Y → VS
  | [], E, g => some (.ok (.nx E), g)
  | y :: ys, E, g => bv (step y E g) fun fl g1 => match fl with
    | .nx E1 => forV step ys E1 g1
    | .ct E1 => forV step ys E1 g1
    | .bk E1 => some (.ok (.nx E1), g1)
    | .rt y => some (.ok (.rt y), g1)
def stepV (vg : Y → VL → Option VL) (vb : VS) : Y → VS := fun y E g => match vg y E with
  | some E1 => vb E1 g
  | none => none
def vfor (vi : VI) (vg : Y → VL → Option VL) (vb : VS) : VS := fun E g => bv (vi E g) fun ys g1 => forV (stepV vg vb) ys E g1
theorem EndS.less {B P P' : Nat → Prop} {S : Sto} {x : Ev.O FD} {r : R FY × Gs} (h : EndS fx rv B P' n O S x r) (k : ∀ m, P m → P' m) : EndS fx rv B P n O S x r := by
  obtain ⟨S', n', h1, h2, h3, h4⟩ := h
  have tr : ∀ {L : Loc} {E : VL}, Rel B P' n' O S' L E → Rel B P n' O S' L E := fun R => ⟨R.len, fun i hi d e => let ⟨m, c, y, a, b, c'⟩ := R.own i hi d e; ⟨m, c, y, a, fun z => b (k m z), c'⟩, R.set, R.inj, R.shr, R.bd, fun m z => R.nb m (k m z), R.st⟩
  refine ⟨S', n', h1.less k, h2.less k, h3, ?_⟩
  obtain ⟨r, g'⟩ := r
  cases r with
  | ex e => exact h4
  | ok f =>
    cases f with
    | nx E' => obtain ⟨L', a, b⟩ := h4; exact ⟨L', a, tr b⟩
    | bk E' => obtain ⟨L', a, b⟩ := h4; exact ⟨L', a, tr b⟩
    | ct E' => obtain ⟨L', a, b⟩ := h4; exact ⟨L', a, tr b⟩
    | rt y => obtain ⟨d, a, b, c⟩ := h4; exact ⟨d, a, b, fun z => let ⟨m, q, q1, q2, q3⟩ := c z; ⟨m, q, q1, fun z => q2 (k m z), q3⟩⟩

theorem for_core {gm : GM} {vg : Y → VL → Option VL} {body : SM} {vbd : VS} (hg : SimG O gm vg) (hb : SimS True rv O O body vbd) {nx : Nat → Sto → Option (Option D)} {ds0 : List D} {ys0 : List Y} {S0 : Sto}
    (hnx : ∀ i S, FrN P n S0 S → nx i S = some ds0[i]?) (hv : ∀ S L E, FrN P n S0 S → Rel B P n O S L E → ValL (Av B O L) n S ds0 ys0) :
    ∀ (k i : Nat) (L : Loc) (S : Sto) (E : VL) (g : Gs), i + k = ds0.length → Rel B P n O S L E → FrN P n S0 S → Stt n S g → ∀ r, forV (stepV vg vbd) (ys0.drop i) E g = some r → EndS True rv B P n O S (forN nx (stepF gm body) k i L S) r
  | 0, i, L, S, E, g, hk, R, f, s, r, e => by
    have hl := (hv S L E f R).len
    rw [List.drop_eq_nil_of_le (by omega)] at e
    cases e
    rw [forN_end (by rw [hnx i S f, List.getElem?_eq_none (by omega)])]
    exact ⟨S, n, .refl _ _ _, .refl, s, L, rfl, R⟩
  | k + 1, i, L, S, E, g, hk, R, f, s, r, e => by
    have hl := (hv S L E f R).len
    have hi : i < ds0.length := by omega
    have hi' : i < ys0.length := by omega
    rw [forN_go (by rw [hnx i S f, List.getElem?_eq_getElem hi])]
    rw [List.drop_eq_getElem_cons hi'] at e
    obtain ⟨d, hd, v⟩ := (hv S L E f R).get (i := i) (y := ys0[i]) (by simp [hi'])
    rw [List.getElem?_eq_getElem hi] at hd
    cases hd
    simp only [forV, stepV] at e
    cases hE : vg ys0[i] E with
    | none => rw [hE] at e; cases e
    | some E1 =>
      rw [hE] at e
      obtain ⟨L1, q1, R1, _⟩ := hg B P n S L E _ _ E1 R v hE
      simp only [stepF, q1, bndo]
      simp only [] at e
      cases hv1 : vbd E1 g with
      | none => rw [hv1] at e; cases e
      | some z =>
        rw [hv1] at e
        obtain ⟨S2, n2, f2, t2, s2, q2⟩ := hb B P n S L1 E1 g R1 s z hv1
        have hn : n2 = n := t2.resolve_right fun z => z.1 trivial
        subst n2
        obtain ⟨z, g1⟩ := z
        have next : ∀ L2 E2, Rel B P n O S2 L2 E2 → forV (stepV vg vbd) (ys0.drop (i + 1)) E2 g1 = some r → EndS True rv B P n O S (forN nx (stepF gm body) k (i + 1) L2 S2) r := fun L2 E2 R2 e2 => by
          obtain ⟨S3, n3, f3, t3, s3, q3⟩ := for_core hg hb hnx hv k (i + 1) L2 S2 E2 g1 (by omega) R2 (f.trans (fx := True) f2 .refl) s2 r e2
          exact ⟨S3, n3, f2.trans (fx := True) f3 .refl, t3, s3, q3⟩
        cases z with
        | ex x =>
          cases e
          have q2 : body L1 S = some (.ex x, S2) := q2
          rw [q2]
          exact ⟨S2, n, f2, .refl, s2, rfl⟩
        | ok fl =>
          cases fl with
          | nx E2 => obtain ⟨L2, e2, R2⟩ := q2; rw [e2]; exact next L2 E2 R2 e
          | ct E2 => obtain ⟨L2, e2, R2⟩ := q2; rw [e2]; exact next L2 E2 R2 e
          | bk E2 => obtain ⟨L2, e2, R2⟩ := q2; rw [e2]; cases e; exact ⟨S2, n, f2, .refl, s2, L2, rfl, R2⟩
          | rt y => obtain ⟨d2, e2, v2⟩ := q2; rw [e2]; cases e; exact ⟨S2, n, f2, .refl, s2, d2, rfl, v2⟩
theorem sim_for {fi : IM} {vi : VI} {gm : GM} {vg : Y → VL → Option VL} {body : SM} {vbd : VS} (hi : SimI O fi vi) (hg : SimG O gm vg) (hb : SimS True rv O O body vbd) : SimS True rv O O (forS fi gm body) (vfor vi vg vbd) := fun B P n S L E g R s => by
  refine EndS.of R (hi B P n S L E g R s) fun S1 it ys g1 f1 R1 s1 p1 r e => ?_
  obtain ⟨ds, v, hit⟩ := p1
  let P' : Nat → Prop := fun m => m < S1.length ∧ ¬ ∃ i, i ∈ O ∧ L[i]? = some (some (.ref m))
  have hPP : ∀ m, P m → P' m := fun m hm => ⟨R1.nb m hm, fun ⟨i, hi, e⟩ => by
    obtain ⟨m', c, y, q1, q2, _⟩ := R1.own i hi _ e
    cases q1
    exact q2 hm⟩
  have R' : Rel B P' n O S1 L E := ⟨R1.len, fun i hi d e => let ⟨m, c, y, a, b, c'⟩ := R1.own i hi d e; ⟨m, c, y, a, fun z => z.2 ⟨i, hi, a ▸ e⟩, c'⟩, R1.set, R1.inj, R1.shr, R1.bd, fun m z => z.1, R1.st⟩
  have key : ∀ m c, ¬ Av B O L m → n ≠ some m → c.kpt = true → S1[m]? = some c → ∀ S2, FrN P' n S1 S2 → P' m ∧ S2[m]? = some c := fun m c a b c1 e S2 f2 => by
    have hm : P' m := ⟨(List.getElem?_eq_some_iff.mp e).1, fun z => a (.inr z)⟩
    exact ⟨hm, f2.keep m c hm b c1 e⟩
  have hv : ∀ S L2 E, FrN P' n S1 S → Rel B P' n O S L2 E → ValL (Av B O L2) n S ds ys := fun S2 L2 E2 f2 R2 => v.mono fun m c a b c1 e => by
    obtain ⟨hm, k⟩ := key m c a b c1 e S2 f2
    refine ⟨fun z => ?_, k⟩
    rcases z with z | ⟨i, hi, z⟩
    · exact a (.inl z)
    · obtain ⟨m', c', y, q1, q2, _⟩ := R2.own i hi _ z
      cases q1
      exact q2 hm
  have hnx : ∀ i S, FrN P' n S1 S → it.nx i S = some ds[i]? := fun i S2 f2 => by
    rcases hit with rfl | ⟨m, rfl, a, b, c⟩ | ⟨f, rfl, hf'⟩
    · rfl
    · obtain ⟨_, k⟩ := key m _ a b rfl c S2 f2
      simp only [ItS.nx, k]
    · have k := hf' S2 fun m c a b c1 e => (key m c a b c1 e S2 f2).2
      simp only [ItS.nx, k]
  have hf : it.fuel = ds.length := by
    rcases hit with rfl | ⟨m, rfl, _⟩ | ⟨f, rfl, _⟩ <;> rfl
  rw [hf]
  exact (for_core hg hb hnx hv ds.length 0 L S1 E g1 (by omega) R' (.refl _ _ _) s1 r e).less hPP

theorem for_coreL {gm : GM} {vg : Y → VL → Option VL} {body : SM} {vbd : VS} (hg : SimG O gm vg) (hb : SimS False rv O O body vbd) {lo : Int} {t : Nat} :
    ∀ (k i : Nat) (n : Option Nat) (L : Loc) (S : Sto) (E : VL) (g : Gs), i + k = t → Rel B P n O S L E → Stt n S g → ∀ r, forV (stepV vg vbd) ((rngV lo t).drop i) E g = some r → EndS False rv B P n O S (forN (ItS.fix (rng lo t)).nx (stepF gm body) k i L S) r
  | 0, i, n, L, S, E, g, hk, R, s, r, e => by
    have hl : (rng lo t).length = t := by simp [rng]
    have hl' : (rngV lo t).length = t := by simp [rngV]
    rw [List.drop_eq_nil_of_le (by omega)] at e
    cases e
    rw [forN_end (by simp only [ItS.nx]; rw [List.getElem?_eq_none (by omega)])]
    exact ⟨S, n, .refl _ _ _, .refl, s, L, rfl, R⟩
  | k + 1, i, n, L, S, E, g, hk, R, s, r, e => by
    have hi : i < (rng lo t).length := by simp [rng]; omega
    have hi' : i < (rngV lo t).length := by simp [rngV]; omega
    rw [forN_go (by simp only [ItS.nx]; rw [List.getElem?_eq_getElem hi])]
    rw [List.drop_eq_getElem_cons hi'] at e
    have hd : (rng lo t)[i] = .int (lo + (i : Int)) := by simp [rng]
    have hy : (rngV lo t)[i] = .int (lo + (i : Int)) := by simp [rngV]
    rw [hy] at e
    rw [hd]
    simp only [forV, stepV] at e
    cases hE : vg (.int (lo + (i : Int))) E with
    | none => rw [hE] at e; cases e
    | some E1 =>
      rw [hE] at e
      obtain ⟨L1, q1, R1, _⟩ := hg B P n S L E _ _ E1 R (.int _) hE
      simp only [stepF, q1, bndo]
      simp only [] at e
      cases hv1 : vbd E1 g with
      | none => rw [hv1] at e; cases e
      | some z =>
        rw [hv1] at e
        obtain ⟨S2, n2, f2, t2, s2, q2⟩ := hb B P n S L1 E1 g R1 s z hv1
        obtain ⟨z, g1⟩ := z
        have next : ∀ L2 E2, Rel B P n2 O S2 L2 E2 → forV (stepV vg vbd) ((rngV lo t).drop (i + 1)) E2 g1 = some r → EndS False rv B P n O S (forN (ItS.fix (rng lo t)).nx (stepF gm body) k (i + 1) L2 S2) r := fun L2 E2 R2 e2 => by
          obtain ⟨S3, n3, f3, t3, s3, q3⟩ := for_coreL hg hb k (i + 1) n2 L2 S2 E2 g1 (by omega) R2 s2 r e2
          exact ⟨S3, n3, f2.trans f3 t2, t2.trans t3, s3, q3⟩
        cases z with
        | ex x =>
          cases e
          have q2 : body L1 S = some (.ex x, S2) := q2
          rw [q2]
          exact ⟨S2, n2, f2, t2, s2, rfl⟩
        | ok fl =>
          cases fl with
          | nx E2 => obtain ⟨L2, e2, R2⟩ := q2; rw [e2]; exact next L2 E2 R2 e
          | ct E2 => obtain ⟨L2, e2, R2⟩ := q2; rw [e2]; exact next L2 E2 R2 e
          | bk E2 => obtain ⟨L2, e2, R2⟩ := q2; rw [e2]; cases e; exact ⟨S2, n2, f2, t2, s2, L2, rfl, R2⟩
          | rt y => obtain ⟨d2, e2, v2⟩ := q2; rw [e2]; cases e; exact ⟨S2, n2, f2, t2, s2, d2, rfl, v2⟩
theorem sim_forL {f : AM} {h : VA} {gm : GM} {vg : Y → VL → Option VL} {body : SM} {vbd : VS} (ha : SimA O f h) (hg : SimG O gm vg) (hb : SimS False rv O O body vbd) : SimS False rv O O (forS (rngI1 f) gm body) (vfor (vrng1 h) vg vbd) := fun B P n S L E g R s r e => by
  unfold vfor vrng1 at e
  unfold forS rngI1
  cases hh : h E g with
  | none => rw [hh] at e; cases e
  | some z =>
    rw [hh] at e
    obtain ⟨S1, f1, s1, q1⟩ := ha B P n S L E g R s z hh
    obtain ⟨z, g1⟩ := z
    cases z with
    | ex x =>
      cases e
      have q1 : f L S = some (.ex x, S1) := q1
      rw [q1]
      exact ⟨S1, n, f1.n P, .refl, s1, rfl⟩
    | ok ys =>
      obtain ⟨ds, e1, v1⟩ := q1
      rw [e1]
      match ys, e with
      | [.int j], e =>
        match v1 with
        | .cons (.int _) .nil =>
          simp only [bv_ok] at e
          split at e
          · rename_i hj
            simp only [bndo]
            rw [if_pos hj, bndo]
            have hf : (ItS.fix (rng 0 j.toNat)).fuel = j.toNat := by simp [ItS.fuel, rng]
            rw [hf]
            obtain ⟨S3, n3, f3, t3, s3, q3⟩ := for_coreL (B := B) (P := P) (O := O) hg hb j.toNat 0 n L S1 E g1 (by omega) (R.fr f1) s1 r e
            exact ⟨S3, n3, (f1.n P).trans (fx := False) f3 .refl, t3, s3, q3⟩
          · cases e
end
end Ev
end
section
set_option Elab.async false
set_option linter.all false
set_option maxRecDepth 100000
namespace Ev
open PySem L2
def noXV {α : Type} (x : OV α) : OV α := match x with
  | some (.ex _, _) => none
  | x => x
@[simp] theorem noXV_ok {α : Type} (a : α) (g : Gs) : noXV (some (R.ok a, g)) = some (.ok a, g) := rfl
def wipeV (E : VL) : List Nat → VL
  | [] => E
  | v :: vs => (wipeV E vs).set v none
def cmpV (vg : Y → VL → Option VL) (vt : VT) (ve : VE) (E : VL) : List Y → Gs → OV (List Y)
  | [], g => some (.ok [], g)
  | y :: ys, g => match vg y E with
    | none => none
    | some E1 => bv (vt E1 g) fun b g1 => match b with
      | true => bv (ve E1 g1) fun z g2 => bv (cmpV vg vt ve E ys g2) fun zs g3 => some (.ok (z :: zs), g3)
      | false => cmpV vg vt ve E ys g1
def toL (x : OV (List Y)) : OV Y := noXV (bv x fun zs g => if zs.length ≤ 1000000 then some (.ok (.lst zs), g) else none)
def vcmp (vi : VI) (vs : List Nat) (vg : Y → VL → Option VL) (vt : VT) (ve : VE) : VE := fun E g => bv (vi E g) fun ys g1 => toL (cmpV vg vt ve (wipeV E vs) ys g1)
def cmpV2 (vg : Y → VL → Option VL) (vt : VT) (vi1 : VI) (vs1 : List Nat) (vg1 : Y → VL → Option VL) (vt1 : VT) (ve : VE) (E : VL) : List Y → Gs → OV (List Y)
  | [], g => some (.ok [], g)
  | y :: ys, g => match vg y E with
    | none => none
    | some E1 => bv (vt E1 g) fun b g1 => match b with
      | true => bv (vi1 E1 g1) fun us g2 => bv (cmpV vg1 vt1 ve (wipeV E1 vs1) us g2) fun zs g3 => bv (cmpV2 vg vt vi1 vs1 vg1 vt1 ve E ys g3) fun ws g4 => some (.ok (zs ++ ws), g4)
      | false => cmpV2 vg vt vi1 vs1 vg1 vt1 ve E ys g1
def vcmp2 (vi : VI) (vs : List Nat) (vg : Y → VL → Option VL) (vt : VT) (vi1 : VI) (vs1 : List Nat) (vg1 : Y → VL → Option VL) (vt1 : VT) (ve : VE) : VE := fun E g => bv (vi E g) fun ys g1 => toL (cmpV2 vg vt vi1 vs1 vg1 vt1 ve (wipeV E vs) ys g1)
def vyes : VT := fun _ g => some (.ok true, g)
section
variable {fx rv : Prop} {O O1 O2 : List Nat} {fa fb fc : EM} {va vb vc : VE} {B P : Nat → Prop} {n : Option Nat} {S S1 : Sto} {L L' : Loc} {E : VL}
theorem sim_yes : SimT O yesT vyes := fun B P n S L E g R s r e => by
  cases e
  exact ⟨S, .refl _ _, s, true, rfl, rfl⟩
theorem wipe_get (i : Nat) : ∀ (vs : List Nat) (L : Loc), i ∉ vs → (wipeD L vs)[i]? = L[i]?
  | [], L, _ => rfl
  | v :: vs, L, h => by
    have h' : i ≠ v ∧ i ∉ vs := by simpa using h
    rw [wipeD, List.getElem?_set_ne (Ne.symm h'.1)]
    exact wipe_get i vs L h'.2
theorem wipeV_get (i : Nat) : ∀ (vs : List Nat) (L : VL), i ∉ vs → (wipeV L vs)[i]? = L[i]?
  | [], L, _ => rfl
  | v :: vs, L, h => by
    have h' : i ≠ v ∧ i ∉ vs := by simpa using h
    rw [wipeV, List.getElem?_set_ne (Ne.symm h'.1)]
    exact wipeV_get i vs L h'.2
theorem wipeV_in (i : Nat) (y : Y) : ∀ (vs : List Nat) (L : VL), i ∈ vs → (wipeV L vs)[i]? ≠ some (some y)
  | v :: vs, L, h => by
    rw [wipeV]
    by_cases hv : i = v
    · subst hv
      intro z
      have hl := (List.getElem?_eq_some_iff.mp z).1
      rw [List.getElem?_set_self (by simpa using hl)] at z
      cases z
    · rw [List.getElem?_set_ne (Ne.symm hv)]
      exact wipeV_in i y vs L (by simpa [hv] using h)
theorem wipe_len : ∀ (vs : List Nat) (L : Loc), (wipeD L vs).length = L.length
  | [], L => rfl
  | v :: vs, L => by rw [wipeD, List.length_set]; exact wipe_len vs L
theorem wipeV_len : ∀ (vs : List Nat) (L : VL), (wipeV L vs).length = L.length
  | [], L => rfl
  | v :: vs, L => by rw [wipeV, List.length_set]; exact wipeV_len vs L
theorem av_wipe {vs : List Nat} (hvs : ∀ v ∈ vs, v ∉ O) : Av B O (wipeD L vs) = Av B O L := by
  funext m
  refine propext (or_congr_right ⟨fun ⟨j, hj, e⟩ => ⟨j, hj, ?_⟩, fun ⟨j, hj, e⟩ => ⟨j, hj, ?_⟩⟩)
  · rw [wipe_get j vs L fun z => hvs j z hj] at e; exact e
  · rw [wipe_get j vs L fun z => hvs j z hj]; exact e
theorem Rel.wipe (R : Rel B P n O S L E) {vs : List Nat} (hvs : ∀ v ∈ vs, v ∉ O) : Rel B P n O S (wipeD L vs) (wipeV E vs) := by
  have hA : Av B O (wipeD L vs) = Av B O L := av_wipe hvs
  have h1 : ∀ i ∈ O, (wipeD L vs)[i]? = L[i]? := fun i hi => wipe_get i vs L fun z => hvs i z hi
  have h2 : ∀ i ∈ O, (wipeV E vs)[i]? = E[i]? := fun i hi => wipeV_get i vs E fun z => hvs i z hi
  refine ⟨by rw [wipe_len, wipeV_len]; exact R.len, fun i hi d e => ?_, fun i hi y e => ?_, fun i hi j hj m e1 e2 => ?_, fun i hi y e => ?_, R.bd, R.nb, R.st⟩
  · rw [h1 i hi] at e; rw [h2 i hi, hA]; exact R.own i hi d e
  · rw [h2 i hi] at e; rw [h1 i hi]; exact R.set i hi y e
  · rw [h1 i hi] at e1; rw [h1 j hj] at e2; exact R.inj i hi j hj m e1 e2
  · rw [hA]
    by_cases hv : i ∈ vs
    · exact absurd e (wipeV_in i y vs E hv)
    · rw [wipeV_get i vs E hv] at e
      rw [wipe_get i vs L hv]
      exact R.shr i hi y e

theorem Rel.wr (R : Rel B P n O S L E) {q : Nat} {c : Cell} (hB : B q) (hP : ¬ P q) (hn : n ≠ some q) : Rel B P n O (S.set q c) L E := by
  have keep : ∀ k c', ¬ Av B O L k → n ≠ some k → c'.kpt = true → S[k]? = some c' → ¬ Av B O L k ∧ (S.set q c)[k]? = some c' := fun k c' a b c1 e => ⟨a, by
    rw [List.getElem?_set_ne (by rintro rfl; exact a (.inl hB))]; exact e⟩
  refine ⟨R.len, fun i hi d e => ?_, R.set, R.inj, fun i hi y e => ?_, fun k hk => by simpa using R.bd k hk, fun k hk => by simpa using R.nb k hk, fun k hk => by simpa using R.st k hk⟩
  · obtain ⟨m, c', y, h1, h2, h2', h3, h4, h5, h6⟩ := R.own i hi d e
    exact ⟨m, c', y, h1, h2, h2', h3, by rw [List.getElem?_set_ne (by rintro rfl; exact h2' hB)]; exact h4, h5, h6.mono keep⟩
  · obtain ⟨d, h1, h2⟩ := R.shr i hi y e
    exact ⟨d, h1, h2.mono keep⟩
theorem ValL.wr {A : Nat → Prop} {q : Nat} {c : Cell} {ds : List D} {ys : List Y} (v : ValL A n S ds ys) (hA : A q) : ValL A n (S.set q c) ds ys :=
  v.mono fun k c' a b c1 e => ⟨a, by rw [List.getElem?_set_ne (by rintro rfl; exact a hA)]; exact e⟩
theorem Val.wr {A : Nat → Prop} {q : Nat} {c : Cell} {d : D} {y : Y} (v : Val A n S d y) (hA : A q) : Val A n (S.set q c) d y :=
  v.mono fun k c' a b c1 e => ⟨a, by rw [List.getElem?_set_ne (by rintro rfl; exact a hA)]; exact e⟩
theorem cmpJ_end {nx : Nat → Sto → Option (Option D)} {q : Nat} {gm : GM} {tt : TM} {fe : EM} {L : Loc} {k i : Nat} {S : Sto} (h : nx i S = some none) : cmpJ nx q gm tt fe L k i S = some (.ok (), S) := by rw [cmpJ]; simp only [h]
theorem cmpJ_go {nx : Nat → Sto → Option (Option D)} {q : Nat} {gm : GM} {tt : TM} {fe : EM} {L : Loc} {k i : Nat} {S : Sto} {d : D} (h : nx i S = some (some d)) : cmpJ nx q gm tt fe L (k + 1) i S = bnd (gm d L S) fun L1 S1 => bnd (tt L1 S1) fun b S2 => match b with
        | true => bnd (fe L1 S2) fun y S3 => match S3[q]? with
          | some (.lst acc) => if acc.length < 1000000 then cmpJ nx q gm tt fe L k (i + 1) (S3.set q (.lst (acc ++ [y]))) else none
          | _ => none
        | false => cmpJ nx q gm tt fe L k (i + 1) S2 := by rw [cmpJ]; simp only [h] <;> rfl
theorem cmpN_eq {nx : Nat → Sto → Option (Option D)} {q : Nat} {gm : GM} {tt : TM} {fe : EM} {L : Loc} : ∀ (k i : Nat) (S : Sto), cmpN nx q gm tt fe L k i S = bnd (cmpJ nx q gm tt fe L k i S) fun _ S' => some (.ok (.ref q), S') := by
  intro k
  induction k with
  | zero =>
    intro i S
    rw [cmpN, cmpJ]
    split
    · rfl
    · rfl
    · rfl
  | succ k ih =>
    intro i S
    rw [cmpN, cmpJ]
    split
    · rfl
    · rfl
    · rename_i d _
      cases gm d L S with
      | none => rfl
      | some z =>
        obtain ⟨z, S1⟩ := z
        cases z with
        | ex x => rfl
        | ok L1 =>
          simp only [bndo]
          cases tt L1 S1 with
          | none => rfl
          | some z =>
            obtain ⟨z, S2⟩ := z
            cases z with
            | ex x => rfl
            | ok b =>
              simp only [bndo]
              cases b with
              | false => exact ih _ _
              | true =>
                simp only []
                cases fe L1 S2 with
                | none => rfl
                | some z =>
                  obtain ⟨z, S3⟩ := z
                  cases z with
                  | ex x => rfl
                  | ok y =>
                    simp only [bndo]
                    split
                    · split
                      · exact ih _ _
                      · rfl
                    · rfl

theorem cmp_core {gm : GM} {vg : Y → VL → Option VL} {tt : TM} {vt : VT} {fe : EM} {ve : VE} (hg : SimG O gm vg) (ht : SimT O tt vt) (he : SimE O fe ve) {q : Nat} (hB : B q) (hP : ¬ P q) (hq : n ≠ some q) {nx : Nat → Sto → Option (Option D)} {ds0 : List D} {ys0 : List Y} {S0 : Sto}
    (hnx : ∀ i S, (∀ m c, m ≠ q → n ≠ some m → c.kpt = true → S0[m]? = some c → S[m]? = some c) → nx i S = some ds0[i]?) (hv : ValL (Av B O L) n S0 ds0 ys0) :
    ∀ (k i : Nat) (S : Sto) (g : Gs) (acc : List D) (zs0 : List Y), i + k = ds0.length → Rel B P n O S L E → (∀ m c, m ≠ q → n ≠ some m → c.kpt = true → S0[m]? = some c → S[m]? = some c) → Stt n S g → S[q]? = some (.lst acc) → ValL (Av B O L) n S acc zs0 →
      ∀ zs g', cmpV vg vt ve E (ys0.drop i) g = some (.ok zs, g') → zs0.length + zs.length ≤ 1000000 →
        ∃ S' acc', cmpJ nx q gm tt fe L k i S = some (.ok (), S') ∧ (∀ m c, m ≠ q → n ≠ some m → c.kpt = true → S[m]? = some c → S'[m]? = some c) ∧ S.length ≤ S'.length ∧ Stt n S' g' ∧ S'[q]? = some (.lst acc') ∧ ValL (Av B O L) n S' acc' (zs0 ++ zs) ∧ Rel B P n O S' L E
  | 0, i, S, g, acc, zs0, hk, R, f, s, hS, ha, zs, g', e, hl => by
    have hlen := hv.len
    rw [List.drop_eq_nil_of_le (by omega)] at e
    cases e
    exact ⟨S, acc, cmpJ_end (by rw [hnx i S f, List.getElem?_eq_none (by omega)]), fun _ _ _ _ _ h => h, Nat.le_refl _, s, hS, by simpa using ha, R⟩
  | k + 1, i, S, g, acc, zs0, hk, R, f, s, hS, ha, zs, g', e, hl => by
    have hlen := hv.len
    have hi : i < ds0.length := by omega
    have hi' : i < ys0.length := by omega
    rw [cmpJ_go (by rw [hnx i S f, List.getElem?_eq_getElem hi])]
    rw [List.drop_eq_getElem_cons hi'] at e
    have hvS : ValL (Av B O L) n S ds0 ys0 := hv.mono fun m c a b c1 e => ⟨a, f m c (by rintro rfl; exact a (.inl hB)) b c1 e⟩
    obtain ⟨d, hd, v⟩ := hvS.get (i := i) (y := ys0[i]) (by simp [hi'])
    rw [List.getElem?_eq_getElem hi] at hd
    cases hd
    simp only [cmpV] at e
    cases hE : vg ys0[i] E with
    | none => rw [hE] at e; cases e
    | some E1 =>
      rw [hE] at e
      obtain ⟨L1, q1, R1, a1⟩ := hg B P n S L E _ _ E1 R v hE
      simp only [q1, bndo]
      simp only [] at e
      cases ht1 : vt E1 g with
      | none => rw [ht1] at e; cases e
      | some z =>
        rw [ht1] at e
        obtain ⟨S2, f2, s2, q2⟩ := ht B P n S L1 E1 g R1 s z ht1
        obtain ⟨z, g1⟩ := z
        cases z with
        | ex x => cases e
        | ok b =>
          obtain ⟨b', e2, rfl⟩ := q2
          rw [e2]
          simp only [bndo]
          simp only [bv_ok] at e
          have hS2 := f2.keep q _ hq rfl hS
          cases b' with
          | false =>
            obtain ⟨S', acc', r1, r2, r3, r4, r5, r6, r7⟩ := cmp_core hg ht he hB hP hq hnx hv k (i + 1) S2 g1 acc zs0 (by omega) (R.fr f2) (fun m c a b c1 e => f2.keep m c b c1 (f m c a b c1 e)) s2 hS2 (ha.fr f2) zs g' e hl
            exact ⟨S', acc', r1, fun m c a b c1 e => r2 m c a b c1 (f2.keep m c b c1 e), Nat.le_trans f2.len r3, r4, r5, r6, r7⟩
          | true =>
            simp only [] at e ⊢
            cases he1 : ve E1 g1 with
            | none => rw [he1] at e; cases e
            | some z =>
              rw [he1] at e
              obtain ⟨S3, f3, s3, q3⟩ := he B P n S2 L1 E1 g1 (R1.fr f2) s2 z he1
              obtain ⟨z, g2⟩ := z
              cases z with
              | ex x => cases e
              | ok z =>
                obtain ⟨d3, e3, v3⟩ := q3
                rw [e3]
                simp only [bndo]
                have hS3 := f3.keep q _ hq rfl hS2
                rw [hS3]
                simp only []
                simp only [bv_ok] at e
                cases hr : cmpV vg vt ve E (ys0.drop (i + 1)) g2 with
                | none => rw [hr] at e; cases e
                | some w =>
                  rw [hr] at e
                  obtain ⟨w, g3⟩ := w
                  cases w with
                  | ex x => cases e
                  | ok ws =>
                    cases e
                    have hlen2 : acc.length = zs0.length := ha.len
                    have hl : zs0.length + (ws.length + 1) ≤ 1000000 := hl
                    rw [if_pos (by omega)]
                    rw [a1] at v3
                    have hAq : Av B O L q := .inl hB
                    have hq3 : q < S3.length := (List.getElem?_eq_some_iff.mp hS3).1
                    have keep4 : ∀ m c, m ≠ q → S3[m]? = some c → (S3.set q (.lst (acc ++ [d3])))[m]? = some c := fun m c a e => by
                      rw [List.getElem?_set_ne (Ne.symm a)]; exact e
                    have s4 : Stt n (S3.set q (.lst (acc ++ [d3]))) g2 := fun m hm => keep4 m _ (by rintro rfl; exact hq hm) (s3 m hm)
                    obtain ⟨S', acc', r1, r2, r3, r4, r5, r6, r7⟩ := cmp_core hg ht he hB hP hq hnx hv k (i + 1) (S3.set q (.lst (acc ++ [d3]))) g2 (acc ++ [d3]) (zs0 ++ [z]) (by omega) (((R.fr f2).fr f3).wr hB hP hq) (fun m c a b c1 e => keep4 m c a (f3.keep m c b c1 (f2.keep m c b c1 (f m c a b c1 e)))) s4 (List.getElem?_set_self hq3)
                      ((((ha.fr f2).fr f3).app (.cons v3 .nil)).wr hAq) ws g' hr (by simp; omega)
                    exact ⟨S', acc', r1, fun m c a b c1 e => r2 m c a b c1 (keep4 m c a (f3.keep m c b c1 (f2.keep m c b c1 e))), by
                      have h1 := f2.len; have h2 := f3.len
                      simp only [List.length_set] at r3
                      omega, r4, r5, by simpa using r6, r7⟩

theorem simN_cmp {fi : IM} {vi : VI} {vs : List Nat} {gm : GM} {vg : Y → VL → Option VL} {tt : TM} {vt : VT} {fe : EM} {ve : VE} (hi : SimIB O fi vi) (hg : SimG O gm vg) (ht : SimT O tt vt) (he : SimE O fe ve) (hvs : ∀ v ∈ vs, v ∉ O) : SimN O (cmpE fi vs gm tt fe) (vcmp vi vs vg vt ve) := fun B P n S L E g R s => by
  refine OkE.bind (P := fun S' it ys => ItB (Av B O L) n S' it ys ∧ S.length ≤ S'.length) (fun r e => (hi B P n S L E g R s r e).mono fun _ _ _ f p => ⟨p, f.len⟩) fun S1 it ys g1 f1 s1 p1 r e => ?_
  obtain ⟨⟨ds, v, hit⟩, hlen⟩ := p1
  have R1 := R.fr f1
  unfold toL at e
  cases hc : cmpV vg vt ve (wipeV E vs) ys g1 with
  | none => rw [hc] at e; cases e
  | some w =>
    rw [hc] at e
    obtain ⟨w, g2⟩ := w
    cases w with
    | ex x => cases e
    | ok zs =>
      simp only [bv_ok] at e
      split at e
      · rename_i hl
        cases e
        let B' : Nat → Prop := fun m => B m ∨ m = S1.length
        have hA' : ∀ m, Av B' O (wipeD L vs) m → Av B O L m ∨ m = S1.length := fun m hm => by
          rw [av_wipe hvs] at hm
          rcases hm with (hm | hm) | hm
          · exact .inl (.inl hm)
          · exact .inr hm
          · exact .inl (.inr hm)
        have hA'' : ∀ m, Av B O L m ∨ m = S1.length → Av B' O (wipeD L vs) m := fun m hm => by
          rw [av_wipe hvs]
          rcases hm with (hm | hm) | hm
          · exact .inl (.inl hm)
          · exact .inr hm
          · exact .inl (.inr hm)
        have nolen : ∀ {m : Nat} {c : Cell}, S1[m]? = some c → m ≠ S1.length := fun e => by have := (List.getElem?_eq_some_iff.mp e).1; omega
        have getA : ∀ {m : Nat} {c : Cell}, S1[m]? = some c → (S1 ++ [Cell.lst []])[m]? = some c := fun e => by rw [List.getElem?_append_left (List.getElem?_eq_some_iff.mp e).1]; exact e
        have up : ∀ m c, ¬ Av B O L m → n ≠ some m → c.kpt = true → S1[m]? = some c → ¬ Av B' O (wipeD L vs) m ∧ (S1 ++ [Cell.lst []])[m]? = some c := fun m c a b c1 e => ⟨fun z => (hA' m z).elim a (nolen e), getA e⟩
        have Rw := R1.wipe hvs
        have hAw : Av B O (wipeD L vs) = Av B O L := av_wipe hvs
        have R2 : Rel B' P n O (S1 ++ [.lst []]) (wipeD L vs) (wipeV E vs) := by
          refine ⟨Rw.len, fun i hi d e => ?_, Rw.set, Rw.inj, fun i hi y e => ?_, fun m hm => ?_, fun m hm => ?_, fun m hm => ?_⟩
          · obtain ⟨m, c, y, h1, h2, h2', h3, h4, h5, h6⟩ := Rw.own i hi d e
            rw [hAw] at h6
            exact ⟨m, c, y, h1, h2, fun z => z.elim h2' (nolen h4), h3, getA h4, h5, h6.mono up⟩
          · obtain ⟨d, h1, h2⟩ := Rw.shr i hi y e
            rw [hAw] at h2
            exact ⟨d, h1, h2.mono up⟩
          · rcases hm with hm | hm
            · have := R1.bd m hm; simp; omega
            · simp; omega
          · have := R1.nb m hm; simp; omega
          · have := R1.st m hm; simp; omega
        have hq : n ≠ some S1.length := fun z => by have := R1.st _ z; omega
        have hP : ¬ P S1.length := fun z => by have := R1.nb _ z; omega
        have hnx : ∀ i S, (∀ m c, m ≠ S1.length → n ≠ some m → c.kpt = true → (S1 ++ [Cell.lst []])[m]? = some c → S[m]? = some c) → it.nx i S = some ds[i]? := fun i S2 f2 => by
          rcases hit with rfl | ⟨m, rfl, b, c⟩ | ⟨f, rfl, hf'⟩
          · rfl
          · have k := f2 m _ (nolen c) b rfl (getA c)
            simp only [ItS.nx, k]
          · have k := hf' S2 fun m c b c1 e => f2 m c (nolen e) b c1 (getA e)
            simp only [ItS.nx, k]
        have hf : it.fuel = ds.length := by
          rcases hit with rfl | ⟨m, rfl, _⟩ | ⟨f, rfl, _⟩ <;> rfl
        obtain ⟨S', acc', r1, r2, r3, r4, r5, r6, r7⟩ := cmp_core (B := B') (P := P) (O := O) (L := wipeD L vs) (E := wipeV E vs) (q := S1.length) hg ht he (.inr rfl) hP hq hnx (v.mono up) ds.length 0 (S1 ++ [.lst []]) g1 [] [] (by omega) R2 (fun _ _ _ _ _ h => h) (s1.app _) (by simp) .nil zs g2 hc (by simpa using hl)
        refine ⟨S', ⟨fun m c a b e => r2 m c (nolen e) a b (getA e), by simp at r3; omega⟩, r4, .ref S1.length, ?_, S1.length, .lst acc', rfl, hlen, r5, .lst (by
          rw [List.nil_append] at r6
          exact r6.less hA'')⟩
        show noX (cmpN it.nx S1.length gm tt fe (wipeD L vs) it.fuel 0 (S1 ++ [.lst []])) = _
        rw [hf, cmpN_eq, r1]
        rfl
      · cases e
end
end Ev
end
section
set_option Elab.async false
set_option linter.all false
set_option maxRecDepth 100000
namespace Ev
open PySem L2
section
variable {fx rv : Prop} {O O1 O2 : List Nat} {fa fb fc : EM} {va vb vc : VE} {B P : Nat → Prop} {n : Option Nat} {S S1 : Sto} {L L' : Loc} {E : VL}
def runV (k : Nat) (vb : VS) : VF := fun ys g => bv (vb (ys.map some ++ List.replicate (k - ys.length) none) g) fun fl g1 => match fl with
  | .rt y => some (.ok y, g1)
  | .nx _ => some (.ok .non, g1)
  | _ => none
theorem rel_start {S : Sto} {ds : List D} {ys : List Y} (k : Nat) (hB : ∀ m, B m → m < S.length) (hn : ∀ m, n = some m → m < S.length) (v : ValL B n S ds ys) : Rel B (fun m => m < S.length) n [] S (ds.map some ++ List.replicate (k - ds.length) none) (ys.map some ++ List.replicate (k - ys.length) none) := by
  have hl := v.len
  refine ⟨by simp [hl], fun i hi => (nomatch hi), fun i hi => (nomatch hi), fun i hi => (nomatch hi), fun i hi y e => ?_, hB, fun m hm => hm, hn⟩
  have hA : Av B [] (ds.map some ++ List.replicate (k - ds.length) none) = B := by
    funext m
    exact propext ⟨fun z => z.elim id fun ⟨i, hi, _⟩ => (nomatch hi), .inl⟩
  rw [hA]
  by_cases h : i < ys.length
  · rw [List.getElem?_append_left (by simpa using h)] at e
    rw [List.getElem?_map] at e
    cases hy : ys[i]? with
    | none => rw [hy] at e; cases e
    | some y' =>
      rw [hy] at e
      cases e
      obtain ⟨d, h1, h2⟩ := v.get hy
      exact ⟨d, by rw [List.getElem?_append_left (by rw [List.length_map, hl]; exact h), List.getElem?_map, h1]; rfl, h2⟩
  · rw [List.getElem?_append_right (by simpa using h)] at e
    rw [List.getElem?_replicate] at e
    split at e <;> cases e
def runVR (k : Nat) (vb : VS) : VF := fun ys g => bv (vb (ys.map some ++ List.replicate (k - ys.length) none) g) fun fl g1 => match fl with
  | .rt y => some (.ok y, g1)
  | _ => none
theorem fr_of {S S1 : Sto} (f1 : FrN (fun m => m < S.length) n S S1) : Fr n S S1 := ⟨fun m c a b e => f1.keep m c (List.getElem?_eq_some_iff.mp e).1 a b e, f1.len⟩

theorem sim_def {k : Nat} {fs : SM} {vs : VS} (h : SimS True False [] O1 fs vs) : SimF (runF k fs) (runV k vs) := fun B n S ds ys g hB hn v s r e => by
  unfold runV at e
  unfold runF
  cases hv : vs (ys.map some ++ List.replicate (k - ys.length) none) g with
  | none => rw [hv] at e; cases e
  | some z =>
    rw [hv] at e
    obtain ⟨S1, n1, f1, t1, s1, q1⟩ := h B _ n S _ _ g (rel_start k hB hn v) s z hv
    have hn1 : n1 = n := t1.resolve_right fun z => z.1 trivial
    subst n1
    have f2 := fr_of f1
    obtain ⟨z, g1⟩ := z
    cases z with
    | ex x =>
      cases e
      have q1 : fs (ds.map some ++ List.replicate (k - ds.length) none) S = some (.ex x, S1) := q1
      rw [q1]
      exact ⟨S1, f2, s1, rfl⟩
    | ok fl =>
      cases fl with
      | rt y =>
        cases e
        obtain ⟨d, e1, v1, w1⟩ := q1
        rw [e1]
        exact ⟨S1, f2, s1, d, rfl, v1⟩
      | nx E1 =>
        cases e
        obtain ⟨L1, e1, R1⟩ := q1
        rw [e1]
        exact ⟨S1, f2, s1, .non, rfl, .non⟩
      | bk E1 => cases e
      | ct E1 => cases e

theorem simN_def {k : Nat} {fs : SM} {vs : VS} (h : SimS True True [] O1 fs vs) : SimFN (runF k fs) (runVR k vs) := fun B n S ds ys g hB hn v s r e => by
  unfold runVR at e
  unfold runF
  cases hv : vs (ys.map some ++ List.replicate (k - ys.length) none) g with
  | none => rw [hv] at e; cases e
  | some z =>
    rw [hv] at e
    obtain ⟨S1, n1, f1, t1, s1, q1⟩ := h B _ n S _ _ g (rel_start k hB hn v) s z hv
    have hn1 : n1 = n := t1.resolve_right fun z => z.1 trivial
    subst n1
    have f2 := fr_of f1
    obtain ⟨z, g1⟩ := z
    cases z with
    | ex x =>
      cases e
      have q1 : fs (ds.map some ++ List.replicate (k - ds.length) none) S = some (.ex x, S1) := q1
      rw [q1]
      exact ⟨S1, f2, s1, rfl⟩
    | ok fl =>
      cases fl with
      | rt y =>
        cases e
        obtain ⟨d, e1, v1, w1⟩ := q1
        rw [e1]
        obtain ⟨m, c, a1, a2, a3, a4, a5⟩ := w1 trivial
        exact ⟨S1, f2, s1, d, rfl, m, c, a1, Nat.le_of_not_lt a2, a4, a5⟩
      | nx E1 => cases e
      | bk E1 => cases e
      | ct E1 => cases e

theorem sim_law {k : Nat} {fs : SM} {vs : VS} (h : SimS False False [] O1 fs vs) (ns : List Int) (g : Gs) (e : ∃ g', runV k vs [.fl (ns.map Y.int)] g = some (.ok (.bl true), g')) : ∃ S', runF k fs [.fl (ns.map D.int)] [] = some (.ok (.bl true), S') := by
  obtain ⟨g', e⟩ := e
  unfold runV at e
  unfold runF
  have v : ValL (fun _ => False) none [] [.fl (ns.map D.int)] [.fl (ns.map Y.int)] := .cons (.fl (ValL.map (fun i => .int i) ns)) .nil
  cases hv : vs (List.map some [.fl (ns.map Y.int)] ++ List.replicate (k - [Y.fl (ns.map Y.int)].length) none) g with
  | none => rw [hv] at e; cases e
  | some z =>
    rw [hv] at e
    obtain ⟨S1, n1, f1, t1, s1, q1⟩ := h _ _ none [] _ _ g (rel_start k (fun m z => z.elim) (fun m z => (nomatch z)) v) (fun m z => (nomatch z)) z hv
    obtain ⟨z, g1⟩ := z
    cases z with
    | ex x => cases e
    | ok fl =>
      cases fl with
      | rt y =>
        cases e
        obtain ⟨d, e1, v1, w1⟩ := q1
        cases v1
        rw [e1]
        exact ⟨S1, rfl⟩
      | nx E1 => cases e
      | bk E1 => cases e
      | ct E1 => cases e

def isInt : Y → Bool
  | .int _ => true
  | _ => false
def stFree : Y → Bool
  | .int _ => true
  | .bl _ => true
  | .fl ys => ys.all isInt
  | _ => false
theorem int_val {A A' : Nat → Prop} {n n' : Option Nat} {S S' : Sto} : ∀ (ys : List Y) (ds : List D), ys.all isInt = true → ValL A n S ds ys → ValL A' n' S' ds ys
  | [], ds, _, v => by cases v; exact .nil
  | y :: ys, ds, h, v => by
    simp only [List.all_cons, Bool.and_eq_true] at h
    cases v with
    | cons a b =>
      cases a with
      | int i => exact .cons (.int i) (int_val ys _ h.2 b)
      | _ => cases h.1
theorem stFree_val {A A' : Nat → Prop} {n n' : Option Nat} {S S' : Sto} {d : D} {y : Y} (h : stFree y = true) (v : Val A n S d y) : Val A' n' S' d y := by
  cases v with
  | int i => exact .int i
  | bl i => exact .bl i
  | fl v => exact .fl (int_val _ _ h v)
  | _ => cases h
def adoptE (E : VL) (i : Nat) (keep : List Nat) : VL := E.mapIdx fun j e => if j = i then some .stt else if keep.contains j then e else none
def vadopt (i : Nat) (keep : List Nat) (va : VE) : VS := fun E g => bv (va E g) fun y g1 => match y with
  | .lst [.int a, .int b] => if h : 0 ≤ a ∧ 0 ≤ b ∧ b < 4294967296 then if keep.all (fun j => match E[j]? with
        | some (some y) => stFree y
        | _ => true) = true then some (.ok (.nx (adoptE E i keep)), ⟨a, b, h.1, h.2⟩) else none else none
  | _ => none

theorem sim_adopt {i : Nat} {keep : List Nat} (ha : SimN [] fa va) : SimS False rv [] [] (asgS fa (setG i)) (vadopt i keep va) := fun B P n S L E g R s r e => by
  unfold vadopt at e
  cases hv : va E g with
  | none => rw [hv] at e; cases e
  | some z =>
    rw [hv] at e
    obtain ⟨S1, f1, s1, q1⟩ := ha B P n S L E g R s z hv
    obtain ⟨z, g1⟩ := z
    cases z with
    | ex x =>
      cases e
      have q1 : fa L S = some (.ex x, S1) := q1
      exact ⟨S1, n, f1.n P, .refl, s1, by simp only [asgS, q1, bndx]⟩
    | ok y =>
      obtain ⟨d, e1, m, c, rfl, h1, h2, h3⟩ := q1
      match y, e with
      | .lst [.int a, .int b], e =>
        simp only [bv_ok] at e
        split at e
        · rename_i hg
          split at e
          · rename_i hk
            cases e
            cases h3 with
            | lst v =>
              match v, h2 with
              | .cons (.int _) (.cons (.int _) .nil), h2 =>
                have hm : m < S1.length := (List.getElem?_eq_some_iff.mp h2).1
                refine ⟨S1, some m, f1.n P, .inr ⟨id, fun k hk z => ?_⟩, fun k hk => by cases hk; exact h2, L.set i (some (.ref m)), by simp only [asgS, e1, bndo, setG], ?_⟩
                · cases hk
                  have := R.nb m z; omega
                · have hA : Av B [] (L.set i (some (.ref m))) = B := by
                    funext m
                    exact propext ⟨fun z => z.elim id fun ⟨i, hi, _⟩ => (nomatch hi), .inl⟩
                  refine ⟨by simp [adoptE, R.len], fun j hj => (nomatch hj), fun j hj => (nomatch hj), fun j hj => (nomatch hj), fun j hj y he => ?_, fun k hk => Nat.lt_of_lt_of_le (R.bd k hk) f1.len, fun k hk => Nat.lt_of_lt_of_le (R.nb k hk) f1.len, fun k hk => by cases hk; exact hm⟩
                  rw [hA]
                  unfold adoptE at he
                  rw [List.getElem?_mapIdx] at he
                  cases hE : E[j]? with
                  | none => rw [hE] at he; cases he
                  | some eo =>
                    rw [hE] at he
                    have hj : j < E.length := (List.getElem?_eq_some_iff.mp hE).1
                    simp only [Option.map_some, Option.some.injEq] at he
                    split at he
                    · rename_i hji
                      cases he
                      subst hji
                      exact ⟨.ref m, by rw [List.getElem?_set_self (by rw [R.len]; exact hj)], .stt rfl⟩
                    · rename_i hji
                      split at he
                      · rename_i hkj
                        subst he
                        rw [List.getElem?_set_ne (Ne.symm hji)]
                        obtain ⟨d, q1, q2⟩ := R.shr j (by simp) y hE
                        have := List.all_eq_true.mp hk j (List.contains_iff_mem.mp hkj)
                        rw [hE] at this
                        exact ⟨d, q1, stFree_val this q2⟩
                      · cases he
          · cases e
        · cases e
def drawB : SM :=
 (seqS (ifS (tb (bin2 (cmpI fun i j => decide (j < i)) (bin2 ixD (vr 0) (cst (.int 0))) (cst (.int 0)))) (seqS (asgS (bin2 modD (bin2 ixD (vr 0) (cst (.int 0))) (vr 1)) (setG 3))
 (seqS (asgS (bin2 fdivD (bin2 ixD (vr 0) (cst (.int 0))) (vr 1)) (subG setLD (vr 0) (cst (.int 0))))
 (retS (vr 3)))) nxS)
 (seqS (asgS (bin2 modD (bin2 addD (bin2 mulD (bin2 ixD (vr 0) (cst (.int 1))) (cst (.int 48271))) (cst (.int 29))) (cst (.int 2147483647))) (subG setLD (vr 0) (cst (.int 1))))
 (seqS (asgS (bin2 modD (bin2 addD (bin2 addD (bin2 mulD (bin2 ixD (vr 0) (cst (.int 1))) (bin2 ixD (vr 0) (cst (.int 1)))) (bin2 mulD (cst (.int 39373)) (bin2 ixD (vr 0) (cst (.int 1))))) (cst (.int 7))) (cst (.int 2147483629))) (setG 2))
 (seqS (asgS (bin2 modD (bin2 addD (bin2 mulD (vr 2) (vr 2)) (bin2 mulD (cst (.int 16807)) (vr 2))) (cst (.int 2147483587))) (setG 2))
 (retS (bin2 modD (bin2 fdivD (vr 2) (cst (.int 8))) (vr 1)))))))
def drawI (g : Gs) (m : Int) : Int := if 0 < g.a then g.a % m else
  let b := (g.b * 48271 + 29) % 2147483647
  let x := (b * b + 39373 * b + 7) % 2147483629
  (x * x + 16807 * x) % 2147483587 / 8 % m
def drawG (g : Gs) (m : Int) : Gs := if 0 < g.a then if hm : 0 < m then ⟨g.a / m, g.b, Int.ediv_nonneg g.ha (Int.le_of_lt hm), g.hb⟩ else g else ⟨g.a, (g.b * 48271 + 29) % 2147483647, g.ha, by omega⟩
theorem drawI_in (g : Gs) {m : Int} (hm : 0 < m) : 0 ≤ drawI g m ∧ drawI g m < m := by
  unfold drawI
  split
  · exact ⟨Int.emod_nonneg _ (by omega), Int.emod_lt_of_pos _ hm⟩
  · exact ⟨Int.emod_nonneg _ (by omega), Int.emod_lt_of_pos _ hm⟩
def drawV : VF := fun ys g => match ys with
  | [.stt, .int m] => if 0 < m ∧ m < 18446744073709551616 then some (.ok (.int (drawI g m)), drawG g m) else none
  | _ => none
theorem mul_okV {i j : Int} (h1 : -18446744073709551616 < i) (h2 : i < 18446744073709551616) (S : Sto) : mulD (.int i) (.int j) S = some (.ok (.int (i * j)), S) := by
  simp only [mulD]; rw [if_pos (by omega)]
theorem mod_okV {i j : Int} (h1 : 0 < j) (S : Sto) : modD (.int i) (.int j) S = some (.ok (.int (i % j)), S) := by
  simp only [modD]; rw [if_pos h1]
theorem fdiv_okV {i j : Int} (h1 : 0 < j) (h2 : j < 18446744073709551616) (S : Sto) : fdivD (.int i) (.int j) S = some (.ok (.int (i / j)), S) := by
  simp only [fdivD]; rw [if_pos ⟨h1, h2⟩]
theorem ixr0V {S : Sto} {n : Nat} {x y : D} (h : S[n]? = some (.lst [x, y])) : ixD (.ref n) (.int 0) S = some (.ok x, S) := by simp only [ixD, h]; rfl
theorem ixr1V {S : Sto} {n : Nat} {x y : D} (h : S[n]? = some (.lst [x, y])) : ixD (.ref n) (.int 1) S = some (.ok y, S) := by simp only [ixD, h]; rfl
theorem set0V {S : Sto} {n : Nat} {x y d : D} (h : S[n]? = some (.lst [x, y])) : setLD (.ref n) (.int 0) d S = some (.ok (), S.set n (.lst [d, y])) := by simp only [setLD, h]; rfl
theorem set1V {S : Sto} {n : Nat} {x y d : D} (h : S[n]? = some (.lst [x, y])) : setLD (.ref n) (.int 1) d S = some (.ok (), S.set n (.lst [x, d])) := by simp only [setLD, h]; rfl
theorem sim_draw : SimF (runF 4 drawB) drawV := fun B n S ds ys g hB hn v s r e => by
  unfold drawV at e
  split at e
  · rename_i m
    split at e
    · rename_i hm
      cases e
      match v with
      | .cons (.stt (m := q) hq) (.cons (.int _) .nil) =>
        have hS := s q hq
        have hql : q < S.length := (List.getElem?_eq_some_iff.mp hS).1
        obtain ⟨a, b, ha, hb⟩ := g
        simp only [] at hS
        have fr : ∀ c, Fr n S (S.set q c) := fun c => ⟨fun k c' h1 h2 h3 => by rw [List.getElem?_set_ne (by rintro rfl; exact h1 hq)]; exact h3, by simp⟩
        have st : ∀ g' : Gs, Stt n (S.set q (.lst [.int g'.a, .int g'.b])) g' := fun g' k hk => by
          rw [hq] at hk; cases hk
          exact List.getElem?_set_self hql
        by_cases h0 : 0 < a
        · refine ⟨S.set q (.lst [.int (a / m), .int b]), fr _, ?_, .int (a % m), ?_, ?_⟩
          · have := st (drawG ⟨a, b, ha, hb⟩ m)
            simp only [drawG, h0, hm.1, if_true, dif_pos] at this ⊢
            exact this
          · simp [runF, drawB, seqS, ifS, tb, bin2, vr, cst, retS, asgS, setG, subG, nxS, ixr0V hS, cmpI, h0, mod_okV hm.1, fdiv_okV hm.1 hm.2, set0V hS, bndo]
          · simp only [drawI, h0, if_true]
            exact .int _
        · obtain ⟨b1, hb1⟩ : ∃ b1, b1 = (b * 48271 + 29) % 2147483647 := ⟨_, rfl⟩
          have g1 : 0 ≤ b1 ∧ b1 < 2147483647 := by omega
          have hS1 : (S.set q (.lst [.int a, .int b1]))[q]? = some (.lst [.int a, .int b1]) := List.getElem?_set_self hql
          obtain ⟨x1, hx1⟩ : ∃ x1, x1 = (b1 * b1 + 39373 * b1 + 7) % 2147483629 := ⟨_, rfl⟩
          have g2 : 0 ≤ x1 ∧ x1 < 2147483629 := by rw [hx1]; exact ⟨Int.emod_nonneg _ (by decide), Int.emod_lt_of_pos _ (by decide)⟩
          obtain ⟨x2, hx2⟩ : ∃ x2, x2 = (x1 * x1 + 16807 * x1) % 2147483587 := ⟨_, rfl⟩
          refine ⟨S.set q (.lst [.int a, .int b1]), fr _, ?_, .int (x2 / 8 % m), ?_, ?_⟩
          · have := st (drawG ⟨a, b, ha, hb⟩ m)
            simp only [drawG, h0, if_false] at this ⊢
            rw [hb1]
            exact this
          · simp [runF, drawB, seqS, ifS, tb, bin2, vr, cst, retS, asgS, setG, subG, nxS, ixr0V hS, ixr1V hS, cmpI, h0, mul_okV (by omega : -18446744073709551616 < b) (by omega), addD, mod_okV, set1V hS, ← hb1, ixr1V hS1, mul_okV (by omega : -18446744073709551616 < b1) (by omega : b1 < 18446744073709551616), mul_okV (by decide : (-18446744073709551616 : Int) < 39373) (by decide), ← hx1, mul_okV (by omega : -18446744073709551616 < x1) (by omega : x1 < 18446744073709551616), mul_okV (by decide : (-18446744073709551616 : Int) < 16807) (by decide), ← hx2, fdiv_okV, mod_okV hm.1, bndo]
          · simp only [drawI, h0, if_false]
            rw [← hb1, ← hx1, ← hx2]
            exact .int _
    · cases e
  · cases e
end
end Ev
end
section
set_option Elab.async false
set_option linter.all false
set_option maxRecDepth 100000
set_option maxHeartbeats 1000000
namespace Ev
open PySem L2
theorem sret {A : Nat → Prop} {n : Option Nat} {S : Sto} {d : D} {z : Y} {x : O D} (h : x = some (.ok d, S)) (v : Val A n S d z) : ∃ d T, x = some (.ok d, S ++ T) ∧ Val A n (S ++ T) d z := ⟨d, [], by rw [List.append_nil]; exact h, by rw [List.append_nil]; exact v⟩

def addVL : Y → Y → Option Y
  | .lst xs, .lst ys => if xs.length + ys.length ≤ 1000000 then some (.lst (xs ++ ys)) else none
  | _, _ => none
def addV : Y → Y → Option Y
  | .int i, .int j => some (.int (i + j))
  | .str x, .str y => if x.length + y.length ≤ 1000000 then some (.str (x ++ y)) else none
  | .tup xs, .tup ys => if xs.length + ys.length ≤ 1000000 then some (.tup (xs ++ ys)) else none
  | .lst xs, .lst ys => if xs.length + ys.length ≤ 1000000 then some (.lst (xs ++ ys)) else none
  | _, _ => none
theorem soN_add : SOp2N addD addVL := fun A n S a b x y z va vb e => by
  match x, y, e with
  | .lst xs, .lst ys, e =>
    obtain ⟨ds, m, v1, rfl, h1, h2⟩ := va.lst
    obtain ⟨es, k, v2, rfl, h3, h4⟩ := vb.lst
    have e : (if xs.length + ys.length ≤ 1000000 then some (Y.lst (xs ++ ys)) else none) = some z := e
    split at e
    · rename_i hl
      cases e
      exact ⟨.lst (ds ++ es), by simp only [addD, h2, h4]; rw [if_pos (by rw [v1.len, v2.len]; exact hl)], .lst (v1.app v2)⟩
    · cases e
theorem so_add : SOp2 addD addV := fun A n S a b x y z hA hn va vb e => by
  match x, y, e with
  | .int i, .int j, e => cases e; rw [va.int, vb.int]; exact sret rfl (.int _)
  | .str i, .str j, e =>
    rw [va.str, vb.str]
    have e : (if i.length + j.length ≤ 1000000 then some (Y.str (i ++ j)) else none) = some z := e
    split at e
    · rename_i h; cases e; exact sret (by simp only [addD, if_pos h]) (.str _)
    · cases e
  | .tup xs, .tup ys, e =>
    obtain ⟨ds, v1, rfl⟩ := va.tup
    obtain ⟨es, v2, rfl⟩ := vb.tup
    have e : (if xs.length + ys.length ≤ 1000000 then some (Y.tup (xs ++ ys)) else none) = some z := e
    split at e
    · rename_i h; cases e; exact sret (by simp only [addD]; rw [if_pos (by rw [v1.len, v2.len]; exact h)]) (.tup (v1.app v2))
    · cases e
  | .lst xs, .lst ys, e => exact soN_add.e A n S a b _ _ z hA hn va vb e
def subV : Y → Y → Option Y
  | .int i, .int j => some (.int (i - j))
  | _, _ => none
theorem so_sub : SOp2 subD subV := fun A n S a b x y z hA hn va vb e => by
  match x, y, e with
  | .int i, .int j, e => cases e; rw [va.int, vb.int]; exact sret rfl (.int _)
def mulVL : Y → Y → Option Y
  | .lst xs, .int j => if 0 ≤ j ∧ j ≤ 1000000 ∧ xs.length * j.toNat ≤ 1000000 then some (.lst (List.replicate j.toNat xs).flatten) else none
  | _, _ => none
def mulV : Y → Y → Option Y
  | .int i, .int j => if (-18446744073709551616 < i ∧ i < 18446744073709551616) ∨ (-18446744073709551616 < j ∧ j < 18446744073709551616) then some (.int (i * j)) else none
  | .lst xs, .int j => if 0 ≤ j ∧ j ≤ 1000000 ∧ xs.length * j.toNat ≤ 1000000 then some (.lst (List.replicate j.toNat xs).flatten) else none
  | _, _ => none
theorem ValL.rep {A : Nat → Prop} {n : Option Nat} {S : Sto} {ds : List D} {ys : List Y} (h : ValL A n S ds ys) : ∀ k : Nat, ValL A n S (List.replicate k ds).flatten (List.replicate k ys).flatten
  | 0 => .nil
  | k + 1 => by rw [List.replicate_succ, List.replicate_succ, List.flatten_cons, List.flatten_cons]; exact h.app (ValL.rep h k)
theorem soN_mul : SOp2N mulD mulVL := fun A n S a b x y z va vb e => by
  match x, y, e with
  | .lst xs, .int j, e =>
    obtain ⟨ds, m, v1, rfl, h1, h2⟩ := va.lst
    rw [vb.int]
    have e : (if 0 ≤ j ∧ j ≤ 1000000 ∧ xs.length * j.toNat ≤ 1000000 then some (Y.lst (List.replicate j.toNat xs).flatten) else none) = some z := e
    split at e
    · rename_i hl
      cases e
      exact ⟨.lst (List.replicate j.toNat ds).flatten, by simp only [mulD, h2]; rw [if_pos (by rw [v1.len]; exact hl)], .lst (v1.rep _)⟩
    · cases e
theorem so_mul : SOp2 mulD mulV := fun A n S a b x y z hA hn va vb e => by
  match x, y, e with
  | .int i, .int j, e =>
    rw [va.int, vb.int]
    have e : (if (-18446744073709551616 < i ∧ i < 18446744073709551616) ∨ (-18446744073709551616 < j ∧ j < 18446744073709551616) then some (Y.int (i * j)) else none) = some z := e
    split at e
    · rename_i h; cases e; exact sret (by simp only [mulD, if_pos h]) (.int _)
    · cases e
  | .lst xs, .int j, e => exact soN_mul.e A n S a b _ _ z hA hn va vb e
def modV : Y → Y → Option Y
  | .int i, .int j => if 0 < j then some (.int (i % j)) else none
  | _, _ => none
theorem so_mod : SOp2 modD modV := fun A n S a b x y z hA hn va vb e => by
  match x, y, e with
  | .int i, .int j, e =>
    rw [va.int, vb.int]
    have e : (if 0 < j then some (Y.int (i % j)) else none) = some z := e
    split at e
    · rename_i h; cases e; exact sret (by simp only [modD, if_pos h]) (.int _)
    · cases e
def fdivV : Y → Y → Option Y
  | .int i, .int j => if 0 < j ∧ j < 18446744073709551616 then some (.int (i / j)) else none
  | _, _ => none
theorem so_fdiv : SOp2 fdivD fdivV := fun A n S a b x y z hA hn va vb e => by
  match x, y, e with
  | .int i, .int j, e =>
    rw [va.int, vb.int]
    have e : (if 0 < j ∧ j < 18446744073709551616 then some (Y.int (i / j)) else none) = some z := e
    split at e
    · rename_i h; cases e; exact sret (by simp only [fdivD, if_pos h]) (.int _)
    · cases e
def powV : Y → Y → Option Y
  | .int i, .int j => if 0 ≤ j ∧ j ≤ 1000000 ∧ i.natAbs < 18446744073709551616 then some (.int (i ^ j.toNat)) else none
  | _, _ => none
theorem so_pow : SOp2 powD powV := fun A n S a b x y z hA hn va vb e => by
  match x, y, e with
  | .int i, .int j, e =>
    rw [va.int, vb.int]
    have e : (if 0 ≤ j ∧ j ≤ 1000000 ∧ i.natAbs < 18446744073709551616 then some (Y.int (i ^ j.toNat)) else none) = some z := e
    split at e
    · rename_i h; cases e; exact sret (by simp only [powD, if_pos h]) (.int _)
    · cases e
def negV : Y → Option Y
  | .int i => some (.int (-i))
  | _ => none
theorem so_neg : SOp1 negD negV := fun A n S a x z hA hn va e => by
  match x, e with
  | .int i, e => cases e; rw [va.int]; exact sret rfl (.int _)
def notV : Y → Option Y
  | .bl b => some (.bl (!b))
  | _ => none
theorem so_not : SOp1 notD notV := fun A n S a x z hA hn va e => by
  match x, e with
  | .bl i, e => cases e; rw [va.bl]; exact sret rfl (.bl _)
def cmpIV (f : Int → Int → Bool) : Y → Y → Option Y
  | .int i, .int j => some (.bl (f i j))
  | _, _ => none
theorem so_cmpI (f : Int → Int → Bool) : SOp2 (cmpI f) (cmpIV f) := fun A n S a b x y z hA hn va vb e => by
  match x, y, e with
  | .int i, .int j, e => cases e; rw [va.int, vb.int]; exact sret rfl (.bl _)
def intsOfY : List Y → Option (List Int)
  | [] => some []
  | .int i :: r => (intsOfY r).map (i :: ·)
  | _ :: _ => none
theorem intsOfY_ok {A : Nat → Prop} {n : Option Nat} {S : Sto} {ds : List D} {ys : List Y} (v : ValL A n S ds ys) : ∀ {is : List Int}, intsOfY ys = some is → intsOf ds = some is := by
  induction ys generalizing ds with
  | nil => cases v; intro is e; exact e
  | cons y ys ih =>
    cases v with
    | cons v r =>
      intro is e
      cases v with
      | int i =>
        have e : (intsOfY ys).map (i :: ·) = some is := e
        obtain ⟨js, h1, rfl⟩ := Option.map_eq_some_iff.mp e
        show (intsOf _).map (i :: ·) = _
        rw [ih r h1]; rfl
      | _ => cases e
def ltV : Y → Y → Option Y
  | .int i, .int j => some (.bl (decide (i < j)))
  | .tup xs, .tup ys => match intsOfY xs, intsOfY ys with
    | some a, some b => some (.bl (HT.lexLt a b))
    | _, _ => none
  | _, _ => none
theorem so_lt : SOp2 ltD ltV := fun A n S a b x y z hA hn va vb e => by
  match x, y, e with
  | .int i, .int j, e => cases e; rw [va.int, vb.int]; exact sret rfl (.bl _)
  | .tup xs, .tup ys, e =>
    obtain ⟨ds, v1, rfl⟩ := va.tup
    obtain ⟨es, v2, rfl⟩ := vb.tup
    have e : (match intsOfY xs, intsOfY ys with
    | some a, some b => some (Y.bl (HT.lexLt a b))
    | _, _ => none) = some z := e
    split at e
    · rename_i p q h1 h2
      cases e
      exact sret (by simp only [ltD, intsOfY_ok v1 h1, intsOfY_ok v2 h2]) (.bl _)
    · cases e
def toPY : Nat → Y → Option PyData
  | _, .non => some .none
  | _, .bl b => some (.bool b)
  | _, .int i => some (.int i)
  | _, .str x => some (.str x)
  | k + 1, .tup xs => (xs.mapM (toPY k)).map .tuple
  | k + 1, .fl xs => (xs.mapM (toPY k)).map .list
  | k + 1, .lst xs => (xs.mapM (toPY k)).map .list
  | _, _ => none
theorem mapM_val {A : Nat → Prop} {n : Option Nat} {S : Sto} {α : Type} {f : D → Option α} {g : Y → Option α} (h : ∀ d y P, Val A n S d y → g y = some P → f d = some P) : ∀ {ds : List D} {ys : List Y} {Ps : List α}, ValL A n S ds ys → ys.mapM g = some Ps → ds.mapM f = some Ps
  | _, _, _, .nil, e => by simpa using e
  | _, _, _, .cons v r, e => by
    obtain ⟨P, Ps, h1, h2, rfl⟩ := mapM_cons_some e
    rw [List.mapM_cons, h _ _ _ v h1, mapM_val h r h2]; rfl
theorem toPY_ok {A : Nat → Prop} {n : Option Nat} {S : Sto} : ∀ (k : Nat) (d : D) (y : Y) (P : PyData), Val A n S d y → toPY k y = some P → toP S k d = some P := by
  intro k
  induction k with
  | zero =>
    intro d y P v e
    cases v <;> first | exact e | cases e
  | succ k ih =>
    intro d y P v e
    cases v with
    | tup r =>
      obtain ⟨Ps, h1, rfl⟩ := Option.map_eq_some_iff.mp e
      exact Option.map_eq_some_iff.mpr ⟨Ps, mapM_val (fun d y P => ih d y P) r h1, rfl⟩
    | fl r =>
      obtain ⟨Ps, h1, rfl⟩ := Option.map_eq_some_iff.mp e
      exact Option.map_eq_some_iff.mpr ⟨Ps, mapM_val (fun d y P => ih d y P) r h1, rfl⟩
    | lst a b c r =>
      obtain ⟨Ps, h1, rfl⟩ := Option.map_eq_some_iff.mp e
      simp only [toP, c]
      exact Option.map_eq_some_iff.mpr ⟨Ps, mapM_val (fun d y P => ih d y P) r h1, rfl⟩
    | _ => first | exact e | cases e
theorem toPY_okB {A : Nat → Prop} {n : Option Nat} {S : Sto} {k : Nat} {d : D} {y : Y} {P : PyData} (v : ValB A n S d y) (e : toPY k y = some P) : toP S k d = some P := by
  rcases v with v | ⟨m, c, rfl, _, hS, w⟩
  · exact toPY_ok k d y P v e
  · cases k with
    | zero => cases w <;> cases e
    | succ k =>
      cases w with
      | lst r =>
        obtain ⟨Ps, h1, rfl⟩ := Option.map_eq_some_iff.mp e
        simp only [toP, hS]
        exact Option.map_eq_some_iff.mpr ⟨Ps, mapM_val (fun d y P => toPY_ok k d y P) r h1, rfl⟩
      | dk _ => cases e
      | dt _ => cases e
def eqSV : Y → Y → Option Bool
  | .int i, .int j => some (decide (i = j))
  | .str x, .str y => some (decide (x = y))
  | .bl i, .bl j => some (decide (i = j))
  | .non, .non => some true
  | .non, .bl _ => some false
  | .non, .int _ => some false
  | .non, .str _ => some false
  | .bl _, .non => some false
  | .bl _, .str _ => some false
  | .int _, .non => some false
  | .int _, .str _ => some false
  | .str _, .non => some false
  | .str _, .bl _ => some false
  | .str _, .int _ => some false
  | _, _ => none
def eqGV (a b : Y) : Option Bool := match toPY 9 a, toPY 9 b with
  | some P, some R => if (SeqAt.shaped P && SeqAt.shaped R) = true then some (PyData.eqv P R) else none
  | _, _ => none
def eqY (a b : Y) : Option Bool := match eqSV a b with
  | some c => some c
  | none => eqGV a b
def eqV (a b : Y) : Option Y := (eqY a b).map Y.bl
theorem eqS_same {A : Nat → Prop} {n : Option Nat} {S : Sto} {a b : D} {x y : Y} (va : ValB A n S a x) (vb : ValB A n S b y) : eqS a b = eqSV x y := by
  rcases va with va | ⟨m, c, rfl, _, _, w⟩ <;> rcases vb with vb | ⟨m', c', rfl, _, _, w'⟩
  · cases va <;> cases vb <;> rfl
  · cases va <;> cases w' <;> rfl
  · cases w <;> cases vb <;> rfl
  · cases w <;> cases w' <;> rfl
theorem eqG_same {A : Nat → Prop} {n : Option Nat} {S : Sto} {a b : D} {x y : Y} {c : Bool} (va : ValB A n S a x) (vb : ValB A n S b y) (h : eqGV x y = some c) : eqG S a b = some c := by
  unfold eqGV at h
  split at h
  · rename_i P R e1 e2
    unfold eqG
    rw [toPY_okB va e1, toPY_okB vb e2]
    exact h
  · cases h
theorem so_eq : SOp2 eqD eqV := fun A n S a b x y z hA hn va vb e => by
  obtain ⟨c, h, rfl⟩ := Option.map_eq_some_iff.mp e
  refine sret ?_ (.bl c)
  unfold eqD
  rw [eqS_same va vb]
  unfold eqY at h
  cases hs : eqSV x y with
  | some c' => rw [hs] at h; cases h; rfl
  | none =>
    rw [hs] at h
    show (match eqG S a b with
    | some c => some (Ev.R.ok (D.bl c), S)
    | none => none) = _
    rw [eqG_same va vb h]
def ixV : Y → Y → Option Y
  | .tup xs, .int i => atI xs i
  | .fl xs, .int i => atI xs i
  | .lst xs, .int i => atI xs i
  | .str z, .int i => if z.length ≤ 1000000 then (atI z.cps.toList i).map fun c => .str ⟨#[c]⟩ else none
  | _, _ => none
theorem atI_val {A : Nat → Prop} {n : Option Nat} {S : Sto} {ds : List D} {ys : List Y} {i : Int} {y : Y} (v : ValL A n S ds ys) (e : atI ys i = some y) : ∃ d, atI ds i = some d ∧ Val A n S d y := by
  obtain ⟨j, h1, h2⟩ := Option.bind_eq_some_iff.mp e
  obtain ⟨d, h3, h4⟩ := v.get h2
  exact ⟨d, Option.bind_eq_some_iff.mpr ⟨j, by rw [v.len]; exact h1, h3⟩, h4⟩
theorem so_ix : SOp2 ixD ixV := fun A n S a b x y z hA hn va vb e => by
  match x, y, e with
  | .tup xs, .int i, e =>
    obtain ⟨ds, v1, rfl⟩ := va.tup
    rw [vb.int]
    obtain ⟨d, h1, h2⟩ := atI_val v1 (show atI xs i = some z from e)
    exact sret (by simp only [ixD, h1]) h2
  | .fl xs, .int i, e =>
    obtain ⟨ds, v1, rfl⟩ := va.fl
    rw [vb.int]
    obtain ⟨d, h1, h2⟩ := atI_val v1 (show atI xs i = some z from e)
    exact sret (by simp only [ixD, h1]) h2
  | .lst xs, .int i, e =>
    obtain ⟨ds, m, v1, rfl, h3, h4⟩ := va.lst
    rw [vb.int]
    obtain ⟨d, h1, h2⟩ := atI_val v1 (show atI xs i = some z from e)
    exact sret (by simp only [ixD, h4, h1]) h2
  | .str x, .int i, e =>
    rw [va.str, vb.int]
    have e : (if x.length ≤ 1000000 then (atI x.cps.toList i).map fun c => Y.str ⟨#[c]⟩ else none) = some z := e
    split at e
    · rename_i h
      obtain ⟨c, h1, rfl⟩ := Option.map_eq_some_iff.mp e
      exact sret (by simp only [ixD, if_pos h, h1]) (.str _)
    · cases e

def lenV : List Y → Option Y
  | [.tup xs] => some (.int xs.length)
  | [.fl xs] => some (.int xs.length)
  | [.str x] => if x.length ≤ 1000000 then some (.int x.length) else none
  | [.lst xs] => some (.int xs.length)
  | [.dk xs] => some (.int xs.length)
  | _ => none
theorem ValK.len {A : Nat → Prop} {n : Option Nat} {S : Sto} : ∀ {ds : List (Key × D)} {ys : List (Key × Y)}, ValK A n S ds ys → ds.length = ys.length
  | _, _, .nil => rfl
  | _, _, .cons _ r => by simp [ValK.len r]
theorem ValT.len {A : Nat → Prop} {n : Option Nat} {S : Sto} : ∀ {ds : List (List Key × D)} {ys : List (List Key × Y)}, ValT A n S ds ys → ds.length = ys.length
  | _, _, .nil => rfl
  | _, _, .cons _ r => by simp [ValT.len r]
theorem vb1 {A : Nat → Prop} {n : Option Nat} {S : Sto} {ds : List D} {y : Y} (h : ValBL A n S ds [y]) : ∃ d, ds = [d] ∧ ValB A n S d y := by
  cases h with
  | cons v r => cases r; exact ⟨_, rfl, v⟩
theorem vb2 {A : Nat → Prop} {n : Option Nat} {S : Sto} {ds : List D} {y z : Y} (h : ValBL A n S ds [y, z]) : ∃ d e, ds = [d, e] ∧ ValB A n S d y ∧ ValB A n S e z := by
  cases h with
  | cons v r =>
    obtain ⟨e, rfl, w⟩ := vb1 r
    exact ⟨_, e, rfl, v, w⟩
theorem so_len : SOpN lenD lenV := fun A n S ds ys z hA hn v e => by
  match ys, e with
  | [.tup xs], e =>
    obtain ⟨d, rfl, u⟩ := vb1 v
    obtain ⟨es, v1, rfl⟩ := u.tup
    cases e
    exact sret (by simp only [lenD, v1.len]) (.int _)
  | [.fl xs], e =>
    obtain ⟨d, rfl, u⟩ := vb1 v
    obtain ⟨es, v1, rfl⟩ := u.fl
    cases e
    exact sret (by simp only [lenD, v1.len]) (.int _)
  | [.str x], e =>
    obtain ⟨d, rfl, u⟩ := vb1 v
    rw [u.str]
    have e : (if x.length ≤ 1000000 then some (Y.int x.length) else none) = some z := e
    split at e
    · rename_i h; cases e; exact sret (by simp only [lenD, if_pos h]) (.int _)
    · cases e
  | [.lst xs], e =>
    obtain ⟨d, rfl, u⟩ := vb1 v
    obtain ⟨es, m, v1, rfl, h1, h2⟩ := u.lst
    cases e
    exact sret (by simp only [lenD, h2, v1.len]) (.int _)
  | [.dk xs], e =>
    obtain ⟨d, rfl, u⟩ := vb1 v
    obtain ⟨es, m, v1, rfl, h1, h2⟩ := u.dk
    cases e
    exact sret (by simp only [lenD, h2, v1.len]) (.int _)
def maxV : List Y → Option Y
  | [.int i, .int j] => some (.int (if j > i then j else i))
  | _ => none
def minV : List Y → Option Y
  | [.int i, .int j] => some (.int (if j < i then j else i))
  | _ => none
def absV : List Y → Option Y
  | [.int i] => some (.int (if i < 0 then -i else i))
  | _ => none
theorem so_max : SOpN maxD maxV := fun A n S ds ys z hA hn v e => by
  match ys, e with
  | [.int i, .int j], e => obtain ⟨d, d', rfl, v1, v2⟩ := vb2 v; rw [v1.int, v2.int]; cases e; exact sret rfl (.int _)
theorem so_min : SOpN minD minV := fun A n S ds ys z hA hn v e => by
  match ys, e with
  | [.int i, .int j], e => obtain ⟨d, d', rfl, v1, v2⟩ := vb2 v; rw [v1.int, v2.int]; cases e; exact sret rfl (.int _)
theorem so_abs : SOpN absD absV := fun A n S ds ys z hA hn v e => by
  match ys, e with
  | [.int i], e => obtain ⟨d, rfl, v1⟩ := vb1 v; rw [v1.int]; cases e; exact sret rfl (.int _)
def divmodV : List Y → Option Y
  | [.int i, .int j] => if 0 < j ∧ j < 1073741824 then some (.tup [.int (i / j), .int (i % j)]) else none
  | _ => none
theorem so_divmod : SOpN divmodD divmodV := fun A n S ds ys z hA hn v e => by
  match ys, e with
  | [.int i, .int j], e =>
    obtain ⟨d, d', rfl, v1, v2⟩ := vb2 v; rw [v1.int, v2.int]
    have e : (if 0 < j ∧ j < 1073741824 then some (Y.tup [.int (i / j), .int (i % j)]) else none) = some z := e
    split at e
    · rename_i h; cases e; exact sret (by simp only [divmodD, if_pos h]) (.tup (.cons (.int _) (.cons (.int _) .nil)))
    · cases e
def tyYS : Y → Option String
  | .non => some "NoneType"
  | .bl _ => some "bool"
  | .int _ => some "int"
  | .str _ => some "str"
  | .tup _ => some "tuple"
  | .fl _ => some "list"
  | .lst _ => some "list"
  | .dk _ => some "dict"
  | .dt _ => some "dict"
  | _ => none
theorem tyYS_ok {A : Nat → Prop} {n : Option Nat} {S : Sto} {d : D} {y : Y} {T : String} (v : ValB A n S d y) (h : tyYS y = some T) : tyD S d = some T := by
  rcases v with v | ⟨m, c, rfl, _, hS, w⟩
  · cases v <;> first | exact h | (simp only [tyD]; rename_i a _; simp only [*]; exact h) | cases h
  · cases w <;> (simp only [tyD, hS]; exact h)
def isiV : List Y → Option Y
  | [y, .ty c] => if ["int", "bool", "str", "tuple", "list", "dict"].contains c then (tyYS y).map fun T => .bl (subTy T c) else none
  | _ => none
theorem so_isi : SOpN isiD isiV := fun A n S ds ys z hA hn v e => by
  match ys, e with
  | [y, .ty c], e =>
    obtain ⟨d, d', rfl, v1, v2⟩ := vb2 v; rw [v2.ty]
    have e : (if ["int", "bool", "str", "tuple", "list", "dict"].contains c then (tyYS y).map fun T => Y.bl (subTy T c) else none) = some z := e
    split at e
    · rename_i h
      obtain ⟨T, h1, rfl⟩ := Option.map_eq_some_iff.mp e
      exact sret (by simp only [isiD, tyYS_ok v1 h1, if_pos h]) (.bl _)
    · cases e
def reprV : List Y → Option Y
  | [y] => (toPY 9 y).bind fun P => if okP P = true then some (.str P.shown) else none
  | _ => none
theorem so_repr : SOpN reprD reprV := fun A n S ds ys z hA hn v e => by
  match ys, e with
  | [y], e =>
    obtain ⟨d, rfl, u⟩ := vb1 v
    obtain ⟨P, h3, e⟩ := Option.bind_eq_some_iff.mp (show (toPY 9 y).bind (fun P => if okP P = true then some (Y.str P.shown) else none) = some z from e)
    split at e
    · rename_i hc
      cases e
      exact sret (by simp only [reprD, toPY_okB u h3, if_pos hc]) (.str _)
    · cases e
end Ev
end
section
set_option Elab.async false
set_option linter.all false
set_option maxRecDepth 100000
set_option maxHeartbeats 1000000
namespace Ev
open PySem L2
def keyOY : Nat → Y → Option (List Int)
  | _, .int i => some [1, i]
  | _, .str x => some (strK x)
  | k + 1, .tup xs => (xs.mapM (keyOY k)).map tupK
  | _, _ => none
theorem keyOY_ok {A : Nat → Prop} {n : Option Nat} {S : Sto} : ∀ (k : Nat) (d : D) (y : Y) (P : List Int), Val A n S d y → keyOY k y = some P → keyO k d = some P := by
  intro k
  induction k with
  | zero =>
    intro d y P v e
    cases v <;> first | exact e | cases e
  | succ k ih =>
    intro d y P v e
    cases v with
    | tup r =>
      obtain ⟨Ps, h1, rfl⟩ := Option.map_eq_some_iff.mp e
      exact Option.map_eq_some_iff.mpr ⟨Ps, mapM_val (fun d y P => ih d y P) r h1, rfl⟩
    | _ => first | exact e | cases e
def keyKY (y : Y) : List Int := (keyOY 9 y).getD []
inductive VKey (A : Nat → Prop) (n : Option Nat) (S : Sto) : List D → List Y → Prop where
  | nil : VKey A n S [] []
  | cons {d : D} {y : Y} {ds : List D} {ys : List Y} : Val A n S d y → keyK d = keyKY y → VKey A n S ds ys → VKey A n S (d :: ds) (y :: ys)
theorem VKey.val {A : Nat → Prop} {n : Option Nat} {S : Sto} {ds : List D} {ys : List Y} (h : VKey A n S ds ys) : ValL A n S ds ys := by
  induction h with
  | nil => exact .nil
  | cons v _ _ ih => exact .cons v ih
theorem VKey.of {A : Nat → Prop} {n : Option Nat} {S : Sto} {ds : List D} {ys : List Y} (h : ValL A n S ds ys) (k : ∀ y ∈ ys, (keyOY 9 y).isSome = true) : VKey A n S ds ys := by
  induction ys generalizing ds with
  | nil => cases h; exact .nil
  | cons y ys ih =>
    cases h with
    | cons v r =>
      obtain ⟨x, hx⟩ := Option.isSome_iff_exists.mp (k y (by simp))
      refine .cons v ?_ (ih r fun z hz => k z (by simp [hz]))
      simp only [keyK, keyKY, keyOY_ok 9 _ _ _ v hx, hx]
theorem VKey.ins {A : Nat → Prop} {n : Option Nat} {S : Sto} {d : D} {y : Y} (v : Val A n S d y) (k : keyK d = keyKY y) {ds : List D} {ys : List Y} (h : VKey A n S ds ys) : VKey A n S (insB keyK d ds) (insB keyKY y ys) := by
  induction h with
  | nil => exact .cons v k .nil
  | @cons d' y' ds ys v' k' r ih =>
    unfold insB
    rw [k, k']
    by_cases q : lexT (keyKY y') (keyKY y) = true
    · rw [if_pos q, if_pos q]; exact .cons v' k' ih
    · rw [if_neg q, if_neg q]; exact .cons v k (.cons v' k' r)
def seqOfY : Y → Option (List Y)
  | .tup xs => some xs
  | .fl xs => some xs
  | .lst xs => some xs
  | _ => none
def kY : Key → Y
  | .inl i => .int i
  | .inr x => .str x
abbrev VP := VL → Gs → OV (Option Int)
def vnoP : VP := fun _ g => some (.ok none, g)
def vsomeP (f : VE) : VP := fun E g => bv (f E g) fun y g1 => match y with
  | .int i => some (.ok (some i), g1)
  | _ => none
section
variable {O : List Nat} {fa fb fc : EM} {va vb vc : VE}
def sliceV (lo hi : Option Int) : Y → Option Y
  | .tup xs => some (.tup (cutD xs lo hi))
  | .str z => if z.length ≤ 1000000 then some (.str (cutS z lo hi)) else none
  | .lst xs => some (.lst (cutD xs lo hi))
  | _ => none
def vslE (f : VE) (lo hi : VP) : VE := fun E g => bv (f E g) fun y g1 => bv (lo E g1) fun l g2 => bv (hi E g2) fun h g3 => liftV (sliceV l h y) g3
abbrev VK := VL → Gs → OV (List (List Int))
def tkY (k : List Int) : Y := .tup (k.map Y.int)
def vsortedS (f : VK) : VE := fun E g => bv (f E g) fun ks g1 => if (ks.all fun k => !k.isEmpty) = true ∧ (onceK ks).length ≤ 1000 then some (.ok (.lst ((sortT (onceK ks)).map tkY)), g1) else none
def tupsOfY : List Y → Option (List (List Int))
  | [] => some []
  | .tup ys :: r => match intsOfY ys with
    | some (i :: is) => (tupsOfY r).map ((i :: is) :: ·)
    | _ => none
  | _ :: _ => none
def vsetSE (f : VE) : VK := fun E g => bv (f E g) fun y g1 => match (seqOfY y).bind tupsOfY with
  | some ks => if ks.length ≤ 76 then some (.ok ks, g1) else none
  | none => none
end
end Ev
end
section
set_option Elab.async false
set_option linter.all false
set_option maxRecDepth 100000
set_option maxHeartbeats 1000000
namespace Ev
open PySem L2
section
variable {fx rv : Prop} {O O1 O2 : List Nat} {fa fb fc : EM} {va vb vc : VE} {B P : Nat → Prop} {n : Option Nat} {S S1 : Sto} {L L' : Loc} {E : VL}
def vzip (f : VA) : VI := fun E g => bv (f E g) fun ys g1 => match ys with
  | [.tup xs, .tup ys] => some (.ok ((xs.zip ys).map fun q => Y.tup [q.1, q.2]), g1)
  | _ => none
theorem ValL.zip {A : Nat → Prop} {n : Option Nat} {S : Sto} : ∀ {ds es : List D} {ys us : List Y}, ValL A n S ds ys → ValL A n S es us → ValL A n S ((ds.zip es).map fun q => D.tup [q.1, q.2]) ((ys.zip us).map fun q => Y.tup [q.1, q.2])
  | _, _, _, _, .nil, _ => .nil
  | _, _, _, _, .cons _ _, .nil => .nil
  | _, _, _, _, .cons v r, .cons v' r' => .cons (.tup (.cons v (.cons v' .nil))) (ValL.zip r r')
def vnox1 (f : VS) : VS := fun E g => noXV (f E g)
theorem sim_nox {fs : SM} {vs : VS} (h : SimS fx rv O O1 fs vs) : SimS fx rv O O1 (nox1 fs) (vnox1 vs) := fun B P n S L E g R s r e => by
  unfold vnox1 at e
  cases hv : vs E g with
  | none => rw [hv] at e; cases e
  | some z =>
    rw [hv] at e
    obtain ⟨z, g1⟩ := z
    cases z with
    | ex x => cases e
    | ok fl =>
      cases e
      obtain ⟨S2, n2, f2, t2, s2, q2⟩ := h B P n S L E g R s _ hv
      refine ⟨S2, n2, f2, t2, s2, ?_⟩
      unfold nox1
      cases fl with
      | nx E2 => obtain ⟨L2, e2, R2⟩ := q2; exact ⟨L2, by rw [e2]; rfl, R2⟩
      | ct E2 => obtain ⟨L2, e2, R2⟩ := q2; exact ⟨L2, by rw [e2]; rfl, R2⟩
      | bk E2 => obtain ⟨L2, e2, R2⟩ := q2; exact ⟨L2, by rw [e2]; rfl, R2⟩
      | rt y => obtain ⟨d2, e2, v2⟩ := q2; exact ⟨d2, by rw [e2]; rfl, v2⟩

def vsaid (word : Nat → Option Str) (f : VE) : VE := fun E g => match f E g with
  | some (.ok y, g1) => some (.ok (.tup [.str "told", y]), g1)
  | some (.ex (.c n), g1) => match word n with
    | some x => some (.ok (.str x), g1)
    | none => none
  | _ => none
theorem sim_said {word : Nat → Option Str} {junk : Nat → List Cell} (h : SimE O fa va) : SimE O (saidE word junk fa) (vsaid word va) := fun B P n S L E g R s r e => by
  unfold vsaid at e
  split at e
  · rename_i y g1 hv
    cases e
    obtain ⟨S', f1, s1, d, e1, v1⟩ := h B P n S L E g R s _ hv
    exact ⟨S', f1, s1, _, by unfold saidE; rw [e1], .tup (.cons (.str _) (.cons v1 .nil))⟩
  · rename_i k g1 hv
    obtain ⟨S', f1, s1, e1⟩ := h B P n S L E g R s _ hv
    have e1 : fa L S = some (.ex (.c k), S') := e1
    split at e
    · rename_i x hw
      cases e
      exact ⟨S' ++ junk k, f1.trans (Fr.app _ _ _), s1.app _, _, by unfold saidE; rw [e1]; simp only [hw], .str _⟩
    · cases e
  · cases e

def vdnewK : VE := fun _ g => some (.ok (.dk []), g)
def vdnewT : VE := fun _ g => some (.ok (.dt []), g)
def keyYo : Y → Option Key
  | .int i => some (.inl i)
  | .str x => some (.inr x)
  | _ => none
def keysYo : List Y → Option (List Key)
  | [] => some []
  | y :: r => match keyYo y, keysYo r with
    | some k, some ks => some (k :: ks)
    | _, _ => none
def valY {κ : Type} [DecidableEq κ] (kvs : List (κ × Y)) (k : κ) : Option Y := (kvs.find? fun kv => decide (kv.1 = k)).map (·.2)
def putY {κ : Type} [DecidableEq κ] (kvs : List (κ × Y)) (k : κ) (v : Y) : List (κ × Y) :=
  if (kvs.any fun kv => decide (kv.1 = k)) = true then kvs.map (fun kv => if kv.1 = k then (kv.1, v) else kv) else kvs ++ [(k, v)]
theorem ValK.any {A : Nat → Prop} {k : Key} : ∀ {ds : List (Key × D)} {ys : List (Key × Y)}, ValK A n S ds ys → (ds.any fun kv => decide (kv.1 = k)) = (ys.any fun kv => decide (kv.1 = k))
  | _, _, .nil => rfl
  | _, _, .cons _ r => by simp only [List.any_cons, ValK.any r]
theorem ValT.any {A : Nat → Prop} {k : List Key} : ∀ {ds : List (List Key × D)} {ys : List (List Key × Y)}, ValT A n S ds ys → (ds.any fun kv => decide (kv.1 = k)) = (ys.any fun kv => decide (kv.1 = k))
  | _, _, .nil => rfl
  | _, _, .cons _ r => by simp only [List.any_cons, ValT.any r]
theorem ValK.rep {A : Nat → Prop} {k : Key} {d : D} {y : Y} (v : Val A n S d y) : ∀ {ds : List (Key × D)} {ys : List (Key × Y)}, ValK A n S ds ys → ValK A n S (ds.map fun kv => if kv.1 = k then (kv.1, d) else kv) (ys.map fun kv => if kv.1 = k then (kv.1, y) else kv)
  | _, _, .nil => .nil
  | _, _, .cons (k := k') w r => by
    simp only [List.map_cons]
    by_cases e : k' = k
    · rw [if_pos e, if_pos e]; exact .cons v (ValK.rep v r)
    · rw [if_neg e, if_neg e]; exact .cons w (ValK.rep v r)
theorem ValT.rep {A : Nat → Prop} {k : List Key} {d : D} {y : Y} (v : Val A n S d y) : ∀ {ds : List (List Key × D)} {ys : List (List Key × Y)}, ValT A n S ds ys → ValT A n S (ds.map fun kv => if kv.1 = k then (kv.1, d) else kv) (ys.map fun kv => if kv.1 = k then (kv.1, y) else kv)
  | _, _, .nil => .nil
  | _, _, .cons (k := k') w r => by
    simp only [List.map_cons]
    by_cases e : k' = k
    · rw [if_pos e, if_pos e]; exact .cons v (ValT.rep v r)
    · rw [if_neg e, if_neg e]; exact .cons w (ValT.rep v r)
theorem ValK.val {A : Nat → Prop} {k : Key} : ∀ {ds : List (Key × D)} {ys : List (Key × Y)}, ValK A n S ds ys → (valD ds k = none ∧ valY ys k = none) ∨ ∃ d y, valD ds k = some d ∧ valY ys k = some y ∧ Val A n S d y
  | _, _, .nil => .inl ⟨rfl, rfl⟩
  | _, _, .cons (k := k') (d := d) (y := y) w r => by
    unfold valD valY
    simp only [List.find?_cons]
    by_cases e : k' = k
    · right; exact ⟨d, y, by simp [e], by simp [e], w⟩
    · have := ValK.val (k := k) r
      unfold valD valY at this
      simpa [e] using this
theorem ValT.val {A : Nat → Prop} {k : List Key} : ∀ {ds : List (List Key × D)} {ys : List (List Key × Y)}, ValT A n S ds ys → (valD ds k = none ∧ valY ys k = none) ∨ ∃ d y, valD ds k = some d ∧ valY ys k = some y ∧ Val A n S d y
  | _, _, .nil => .inl ⟨rfl, rfl⟩
  | _, _, .cons (k := k') (d := d) (y := y) w r => by
    unfold valD valY
    simp only [List.find?_cons]
    by_cases e : k' = k
    · right; exact ⟨d, y, by simp [e], by simp [e], w⟩
    · have := ValT.val (k := k) r
      unfold valD valY at this
      simpa [e] using this

def getYo (o y : Y) : Option (Option Y) := match o with
  | .dk kvs => (keyYo y).map fun k => valY kvs k
  | .dt kvs => match y with
    | .tup ys => (keysYo ys).map fun ks => valY kvs ks
    | _ => none
  | .dz kvs => match y with
    | .tup ys => (keysYo ys).map fun ks => valY kvs ks
    | _ => none
  | _ => none
def putYo (o y v : Y) : Option Y := match o with
  | .dk kvs => (keyYo y).bind fun k => if kvs.length < 1000000 then some (.dk (putY kvs k v)) else none
  | .dt kvs => match y with
    | .tup ys => (keysYo ys).bind fun ks => if kvs.length < 1000000 then some (.dt (putY kvs ks v)) else none
    | _ => none
  | _ => none
def vdget (fo fi : VE) : VE := fun E g => bv (fo E g) fun o g1 => bv (fi E g1) fun y g2 => match getYo o y with
  | some (some w) => some (.ok w, g2)
  | _ => none
def vdput (i : Nat) (vk vv : VE) : VS := fun E g => bv (vv E g) fun y g1 => match E[i]? with
  | some (some o) => bv (vk E g1) fun k g2 => match putYo o k y with
    | some o' => some (.ok (.nx (E.set i (some o'))), g2)
    | none => none
  | _ => none
end
end Ev
end
section
set_option Elab.async false
set_option linter.all false
set_option maxRecDepth 100000
set_option maxHeartbeats 1000000
namespace Ev
open PySem L2
section
variable {fx rv : Prop} {O O1 O2 : List Nat} {fa fb fc : EM} {va vb vc : VE} {B P : Nat → Prop} {n : Option Nat} {S S1 : Sto} {L L' : Loc} {E : VL}
def cmpSV (vg : Y → VL → Option VL) (vt : VT) (ve : VE) (E : VL) : List Y → List (List Int) → Gs → OV (List (List Int))
  | [], acc, g => some (.ok acc, g)
  | y :: ys, acc, g => match vg y E with
    | none => none
    | some E1 => bv (vt E1 g) fun b g1 => match b with
      | true => bv (ve E1 g1) fun z g2 => match z with
        | .tup us => match intsOfY us with
          | some k => if (onceK acc).length < 76 then cmpSV vg vt ve E ys (acc ++ [k]) g2 else none
          | none => none
        | _ => none
      | false => cmpSV vg vt ve E ys acc g1
def vsetc (vi : VI) (vs : List Nat) (vg : Y → VL → Option VL) (vt : VT) (ve : VE) : VK := fun E g => bv (vi E g) fun ys g1 => noXV (cmpSV vg vt ve (wipeV E vs) ys [] g1)
end
end Ev
end
section
set_option Elab.async false
set_option linter.all false
set_option maxRecDepth 100000
set_option maxHeartbeats 1000000
namespace Ev
open PySem L2
def NB (v : VS) : Prop := ∀ E g r, v E g = some r → (∀ E', r.1 ≠ .ok (.bk E')) ∧ ∀ E', r.1 ≠ .ok (.ct E')
theorem nb_of {α : Type} {x : OV α} {h : α → Gs → OV FY} (k : ∀ a g r, h a g = some r → (∀ E', r.1 ≠ .ok (.bk E')) ∧ ∀ E', r.1 ≠ .ok (.ct E')) : ∀ r, bv x h = some r → (∀ E', r.1 ≠ .ok (.bk E')) ∧ ∀ E', r.1 ≠ .ok (.ct E') := fun r e => by
  cases x with
  | none => cases e
  | some z =>
    obtain ⟨z, g⟩ := z
    cases z with
    | ok a => exact k a g r e
    | ex x => cases e; exact ⟨fun _ z => (by cases z), fun _ z => (by cases z)⟩
theorem nb_nxt {E : VL} {g : Gs} {r : R FY × Gs} (e : some (Ev.R.ok (FY.nx E), g) = some r) : (∀ E', r.1 ≠ .ok (.bk E')) ∧ ∀ E', r.1 ≠ .ok (.ct E') := by
  cases e; exact ⟨fun _ z => (by cases z), fun _ z => (by cases z)⟩
theorem nb_rtt {y : Y} {g : Gs} {r : R FY × Gs} (e : some (Ev.R.ok (FY.rt y), g) = some r) : (∀ E', r.1 ≠ .ok (.bk E')) ∧ ∀ E', r.1 ≠ .ok (.ct E') := by
  cases e; exact ⟨fun _ z => (by cases z), fun _ z => (by cases z)⟩
theorem nb_nx : NB vnx := fun E g r e => nb_nxt e
theorem nb_expr {f : VE} : NB (vexpr f) := fun E g => nb_of fun _ _ _ e => nb_nxt e
theorem nb_ret {f : VE} : NB (vret f) := fun E g => nb_of fun _ _ _ e => nb_rtt e
theorem nb_asg {f : VE} {vg : Y → VL → Option VL} : NB (vasg f vg) := fun E g => nb_of fun _ _ r e => by
  split at e
  · exact nb_nxt e
  · cases e
theorem nb_par {i j : Nat} {f : VA} : NB (vpar i j f) := fun E g => nb_of fun _ _ r e => by
  split at e
  · exact nb_nxt e
  · cases e
theorem nb_mut {T : String} {i : Nat} {mv : Y → List Y → Option Y} {f : VA} : NB (vmut T i mv f) := fun E g r e => by
  unfold vmut at e
  split at e
  · split at e
    · refine nb_of (fun _ _ r e => ?_) r e
      split at e
      · exact nb_nxt e
      · cases e
    · cases e
  · cases e
theorem nb_if {c : VT} {f h : VS} (hf : NB f) (hh : NB h) : NB (vifS c f h) := fun E g => nb_of fun b _ r e => by
  cases b
  · exact hh _ _ r e
  · exact hf _ _ r e
theorem nb_forV {step : Y → VS} : ∀ (ys : List Y) (E : VL) (g : Gs) (r), forV step ys E g = some r → (∀ E', r.1 ≠ .ok (.bk E')) ∧ ∀ E', r.1 ≠ .ok (.ct E')
  | [], E, g, r, e => nb_nxt e
  | y :: ys, E, g, r, e => by
    simp only [forV] at e
    refine nb_of (fun fl g1 r e => ?_) r e
    cases fl with
    | nx E1 => exact nb_forV ys _ _ r e
    | ct E1 => exact nb_forV ys _ _ r e
    | bk E1 => exact nb_nxt e
    | rt y => exact nb_rtt e
theorem nb_for {vi : VI} {vg : Y → VL → Option VL} {b : VS} : NB (vfor vi vg b) := fun E g => nb_of fun ys g1 r e => nb_forV ys E g1 r e
theorem nb_nox {f : VS} (h : NB f) : NB (vnox1 f) := fun E g r e => by
  unfold vnox1 at e
  cases hv : f E g with
  | none => rw [hv] at e; cases e
  | some z =>
    rw [hv] at e
    obtain ⟨z, g1⟩ := z
    cases z with
    | ex x => cases e
    | ok fl => cases e; exact h E g _ hv
theorem nb_adopt {i : Nat} {keep : List Nat} {f : VE} : NB (vadopt i keep f) := fun E g => nb_of fun y g1 r e => by
  split at e
  · split at e
    · split at e
      · exact nb_nxt e
      · cases e
    · cases e
  · cases e
end Ev
end
section
set_option Elab.async false
set_option linter.all false
set_option maxRecDepth 100000
set_option maxHeartbeats 1000000
namespace Ev
open PySem L2
section
variable {fx rv : Prop} {O O1 O2 : List Nat} {fa fb fc : EM} {va vb vc : VE} {B P : Nat → Prop} {n : Option Nat} {S S1 : Sto} {L L' : Loc} {E : VL}
def cmpDV (vg : Y → VL → Option VL) (vt : VT) (vk vv : VE) (E : VL) : List Y → Y → Gs → OV Y
  | [], acc, g => some (.ok acc, g)
  | y :: ys, acc, g => match vg y E with
    | none => none
    | some E1 => bv (vt E1 g) fun b g1 => match b with
      | true => bv (vk E1 g1) fun k g2 => bv (vv E1 g2) fun v g3 => match putYo acc k v with
        | some acc' => cmpDV vg vt vk vv E ys acc' g3
        | none => none
      | false => cmpDV vg vt vk vv E ys acc g1
def vdc (c0 : Y) (vi : VI) (vs : List Nat) (vg : Y → VL → Option VL) (vt : VT) (vk vv : VE) : VE := fun E g => bv (vi E g) fun ys g1 => noXV (cmpDV vg vt vk vv (wipeV E vs) ys c0 g1)
def vdaug (ov : Y → Y → Option Y) (i : Nat) (vk vv : VE) : VS := fun E g => match E[i]? with
  | some (some o) => bv (vk E g) fun k g1 => match getYo o k with
    | some (some x) => bv (vv E g1) fun w g2 => match (ov x w).bind fun z => putYo o k z with
      | some o' => some (.ok (.nx (E.set i (some o'))), g2)
      | none => none
    | _ => none
  | _ => none
end
end Ev
namespace Ev
def saidWV (xs : List Nat) (n : Nat) : Option PySem.Str := if n ∈ xs then (["board", "piece", "cell", "lot", "sight", "number", "prices", "turn", "placing", "text", "line", "deed"] : List PySem.Str)[n]? else none
end Ev
namespace L2
theorem Room.u1 {k : Nat} {A : PySem.Around} (r : Room k A) : A.units + 1 < PySem.cLine := by have := r.un; omega
end L2
end
section
set_option Elab.async false
set_option linter.all false
set_option maxRecDepth 100000
set_option maxHeartbeats 1000000
namespace Ev
open PySem L2
mutual
def noClo : Y → Bool
  | .tup xs => noCloL xs
  | .fl xs => noCloL xs
  | .lst xs => noCloL xs
  | .dk _ => false
  | .dt _ => false
  | .clo _ => false
  | .dz _ => false
  | _ => true
def noCloL : List Y → Bool
  | [] => true
  | y :: ys => noClo y && noCloL ys
end
theorem killS_get {S : Sto} {m : Nat} : (killS S)[m]? = (S[m]?).map Cell.kill := by
  unfold killS
  rw [List.getElem?_map]
theorem killS_len (S : Sto) : (killS S).length = S.length := List.length_map _
mutual
theorem Val.kill {A : Nat → Prop} {n : Option Nat} {S S' : Sto} (h : ∀ m ds, n ≠ some m → S[m]? = some (.lst ds) → S'[m]? = some (.lst ds)) : ∀ {d : D} {y : Y}, Val A n S d y → noClo y = true → Val A n S' d y
  | _, _, .non, _ => .non
  | _, _, .bl b, _ => .bl b
  | _, _, .int i, _ => .int i
  | _, _, .str x, _ => .str x
  | _, _, .tup r, e => .tup (ValL.kill h r (by simpa only [noClo] using e))
  | _, _, .fl r, e => .fl (ValL.kill h r (by simpa only [noClo] using e))
  | _, _, .lst a b c r, e => .lst a b (h _ _ b c) (ValL.kill h r (by simpa only [noClo] using e))
  | _, _, .dk a b c r, e => nomatch e
  | _, _, .dt a b c r, e => nomatch e
  | _, _, .ty t, _ => .ty t
  | _, _, .kc a, _ => .kc a
  | _, _, .stt e, _ => .stt e
  | _, _, .clo a b c, e => nomatch e
  | _, _, .dz a b c r, e => nomatch e
theorem ValL.kill {A : Nat → Prop} {n : Option Nat} {S S' : Sto} (h : ∀ m ds, n ≠ some m → S[m]? = some (.lst ds) → S'[m]? = some (.lst ds)) : ∀ {d : List D} {y : List Y}, ValL A n S d y → noCloL y = true → ValL A n S' d y
  | _, _, .nil, _ => .nil
  | _, _, .cons a b, e => by
    rw [noCloL, Bool.and_eq_true] at e
    exact .cons (Val.kill h a e.1) (ValL.kill h b e.2)
end
def cloV (k : Nat) : VE := fun _ g => some (.ok (.clo k), g)
section
variable {O : List Nat}
theorem sim_clo (k : Nat) : SimE O (cloE k) (cloV k) := fun B P n S L E g R s r e => by
  cases e
  refine ⟨S ++ [.clo k], Fr.app _ _ _, s.app _, .ref S.length, rfl, .clo (fun z => ?_) (fun z => ?_) (get_new _ _)⟩
  · have := R.avb _ z; omega
  · have := R.st _ z; omega
def vsaidX (word : Nat → Option Str) (vbs : Nat → Option VE) (iv : Nat) : VE := fun E g => match E[iv]? with
  | some (some (.clo k)) => match vbs k with
    | some vb => vsaid word vb E g
    | none => none
  | _ => none
theorem sim_saidX {word : Nat → Option Str} {junk : Nat → List Cell} {fbs : Nat → Option EM} {vbs : Nat → Option VE} {iv : Nat} (hi : iv ∉ O) (h : ∀ k vb, vbs k = some vb → ∃ fb, fbs k = some fb ∧ SimE O fb vb) : SimE O (saidX word junk fbs iv) (vsaidX word vbs iv) := fun B P n S L E g R s r e => by
  unfold vsaidX at e
  split at e
  · rename_i k hk
    split at e
    · rename_i vb hvb
      obtain ⟨d, hd, v⟩ := R.shr iv hi _ hk
      obtain ⟨fb, hfb, hs⟩ := h k vb hvb
      cases v with
      | @clo m _ a b c =>
        have : saidX word junk fbs iv L S = saidE word junk fb L S := by
          unfold saidX
          simp only [hd, c, hfb]
        rw [this]
        exact sim_said hs B P n S L E g R s r e
    · cases e
  · cases e
def vfbs : List VE → Nat → Option VE
  | [], _ => none
  | v :: _, 0 => some v
  | _ :: l, k + 1 => vfbs l k
theorem sim_fb_nil {fbs : Nat → Option EM} : ∀ k vb, vfbs [] k = some vb → ∃ fb, fbs k = some fb ∧ SimE O fb vb := fun k vb h => by cases k <;> cases h
theorem sim_fb_cons {fbs : Nat → Option EM} {fb : EM} {v : VE} {l : List VE} (h0 : fbs 0 = some fb) (s : SimE O fb v) (t : ∀ k vb, vfbs l k = some vb → ∃ fb, fbs (k + 1) = some fb ∧ SimE O fb vb) : ∀ k vb, vfbs (v :: l) k = some vb → ∃ fb, fbs k = some fb ∧ SimE O fb vb := fun k vb h => by
  cases k with
  | zero => cases h; exact ⟨fb, h0, s⟩
  | succ k => exact t k vb h
def runVB (k : Nat) (vb : VS) : VF := fun ys g => if noCloL ys then bv (vb (ys.map some ++ List.replicate (k - ys.length) none) g) fun fl g1 => match fl with
  | .rt (.bl b) => some (.ok (.bl b), g1)
  | _ => none
  else none
theorem stt_kill {n : Option Nat} {S : Sto} {g : Gs} (s : Stt n S g) : Stt n (killS S) g := fun m e => by
  have := s m e
  rw [killS_get, this]; rfl
theorem fr_back {n : Option Nat} {S S1 : Sto} (f : Fr n (killS S) S1) : Fr n S (backS S S1) := by
  refine ⟨fun m c a b e => ?_, ?_⟩
  · have h1 : (killS S)[m]? = some c.kill := by rw [killS_get, e]; rfl
    have h2 := f.keep m _ a rfl h1
    rw [backS_get, h2]
    show some (backC S m c.kill) = some c
    unfold backC
    rw [e]
    cases c <;> rfl
  · have := f.len
    rw [killS_len] at this
    unfold backS
    rw [List.length_mapIdx]; exact this
theorem sim_defB {k : Nat} {fs : SM} {vs : VS} {O1 : List Nat} (h : SimS True False [] O1 fs vs) : SimF (runFB k fs) (runVB k vs) := fun B n S ds ys g hB hn v s r e => by
  unfold runVB at e
  unfold runFB
  split at e
  · rename_i hc
    have v' : ValL B n (killS S) ds ys := v.kill (fun m ds _ e => by rw [killS_get, e]; rfl) hc
    cases hv : vs (ys.map some ++ List.replicate (k - ys.length) none) g with
    | none => rw [hv] at e; cases e
    | some z =>
      rw [hv] at e
      obtain ⟨S1, n1, f1, t1, s1, q1⟩ := h B _ n (killS S) _ _ g (rel_start k (fun m z => by rw [killS_len]; exact hB m z) (fun m z => by rw [killS_len]; exact hn m z) v') (stt_kill s) z hv
      have hn1 : n1 = n := t1.resolve_right fun z => z.1 trivial
      subst n1
      have f2 := fr_back (fr_of f1)
      obtain ⟨z, g1⟩ := z
      have s2 : Stt n (backS S S1) g1 := fun m hm => by
        have h1 := s1 m hm
        rw [backS_get, h1]
        have h0 := s m hm
        show some (backC S m _) = _
        unfold backC
        rw [h0]; rfl
      cases z with
      | ex x =>
        cases e
        have q1 : fs (ds.map some ++ List.replicate (k - ds.length) none) (killS S) = some (.ex x, S1) := q1
        rw [q1]
        exact ⟨_, f2, s2, rfl⟩
      | ok fl =>
        cases fl with
        | rt y =>
          cases y with
          | bl b =>
            cases e
            obtain ⟨d, e1, v1, w1⟩ := q1
            rw [e1]
            cases v1
            exact ⟨_, f2, s2, _, rfl, .bl b⟩
          | _ => cases e
        | nx E1 => cases e
        | bk E1 => cases e
        | ct E1 => cases e
  · cases e
end
end Ev
end
section
set_option Elab.async false
set_option linter.all false
set_option maxRecDepth 100000
set_option maxHeartbeats 1000000
namespace Ev
open PySem L2
end Ev
end
section
set_option Elab.async false
set_option linter.all false
set_option maxRecDepth 100000
set_option maxHeartbeats 1000000
namespace Ev
open PySem L2
variable {O : List Nat}
end Ev
end
section
set_option Elab.async false
set_option linter.all false
set_option maxRecDepth 100000
set_option maxHeartbeats 1000000
namespace Ev
open PySem L2
variable {fx rv : Prop} {O O1 : List Nat}
end Ev
end
section
set_option Elab.async false
set_option linter.all false
set_option maxRecDepth 100000
set_option maxHeartbeats 1000000
namespace Ev
open PySem L2
variable {fx rv : Prop} {O O1 : List Nat}
end Ev
end
section
set_option Elab.async false
set_option linter.all false
set_option maxRecDepth 100000
set_option maxHeartbeats 1000000
namespace Ev
open PySem L2
variable {fx rv : Prop} {O O1 : List Nat}
end Ev
end
section
set_option Elab.async false
set_option linter.all false
set_option maxRecDepth 100000
set_option maxHeartbeats 1000000
namespace Ev
open PySem L2
variable {O : List Nat} {fa : EM} {va : VE}
def fzV : Y → Option Y
  | .dt kvs => some (.dz kvs)
  | _ => none
def vfz (f : VE) : VE := fun E g => bv (f E g) fun y g1 => liftV (fzV y) g1
def vkeysI (f : VE) : VI := fun E g => bv (f E g) fun y g1 => match y with
  | .dz kvs => some (.ok (kvs.map fun kv => Y.tup (kv.1.map kY)), g1)
  | _ => none
end Ev
end
section
set_option Elab.async false
set_option linter.all false
set_option maxRecDepth 100000
set_option maxHeartbeats 1000000
namespace Ev
open PySem L2
end Ev
end
section
set_option Elab.async false
set_option linter.all false
set_option maxRecDepth 100000
set_option maxHeartbeats 1000000
namespace Ev
open PySem L2
end Ev
end
section
set_option Elab.async false
set_option linter.all false
set_option maxRecDepth 100000
set_option maxHeartbeats 1000000
namespace Ev
open PySem L2
variable {O : List Nat}
end Ev
end
section
set_option Elab.async false
set_option linter.all false
set_option maxRecDepth 100000
set_option maxHeartbeats 1000000
namespace Ev
open PySem L2
variable {O : List Nat}
end Ev
end
section
set_option Elab.async false
set_option linter.all false
set_option maxRecDepth 100000
set_option maxHeartbeats 1000000
namespace Ev
open PySem L2
variable {fx rv : Prop} {O : List Nat} {fa fb : EM} {va vb : VE}
end Ev
end
section
set_option Elab.async false
set_option linter.all false
set_option maxRecDepth 100000
set_option maxHeartbeats 1000000
namespace Ev
open PySem L2
variable {O : List Nat}
def scalarY : Y → Bool
  | .non => true
  | .bl _ => true
  | .int _ => true
  | .str _ => true
  | _ => false
def vcallFs (V : VF) (f : VA) : VE := fun E g => bv (f E g) fun ys g1 => bv (V ys g1) fun y g2 => if scalarY y = true then some (.ok y, g2) else none
end Ev
end
section
set_option Elab.async false
set_option linter.all false
set_option maxRecDepth 100000
set_option maxHeartbeats 1000000
namespace Ev
open PySem L2
variable {O : List Nat} {fa : EM} {va : VE}
end Ev
end
section
set_option Elab.async false
set_option linter.all false
set_option maxRecDepth 100000
set_option maxHeartbeats 1000000
namespace Ev
open PySem L2
variable {O : List Nat} {fa : EM} {va : VE}
def fmtV : Y → Option Y
  | .int i => if -18446744073709551616 < i ∧ i < 18446744073709551616 then some (.str (toString i)) else none
  | _ => none
theorem so_fmt : SOp1 fmtD fmtV := fun A n S a x z hA hn va e => by
  match x, e with
  | .int i, e =>
    have := va.int
    subst this
    have e : (if -18446744073709551616 < i ∧ i < 18446744073709551616 then some (Y.str (toString i)) else none) = some z := e
    split at e
    · rename_i h
      cases e
      exact ⟨.str (toString i), [], by simp only [fmtD, if_pos h, List.append_nil], .str _⟩
    · cases e
abbrev VJ := Str → VL → Gs → OV Str
def vnilJ : VJ := fun out _ g => some (.ok out, g)
def vconsJ (f : VE) (h : VJ) : VJ := fun out E g => bv (f E g) fun y g1 => match y with
  | .str y => if (out ++ y).length ≤ 1000000 then h (out ++ y) E g1 else none
  | _ => none
def vjoin (h : VJ) : VE := fun E g => bv (h Str.empty E g) fun x g1 => some (.ok (.str x), g1)
def SimJ (O : List Nat) (f : JM) (v : VJ) : Prop := ∀ out B P n S L E g, Rel B P n O S L E → Stt n S g → ∀ r, v out E g = some r → OkE n S (fun _ a b => a = b) (f out L S) r
theorem sim_jnil : SimJ O nilJ vnilJ := fun out B P n S L E g R s r e => by
  cases e
  exact ⟨S, .refl _ _, s, out, rfl, rfl⟩
theorem sim_jcons {f : JM} {v : VJ} (h1 : SimE O fa va) (h2 : SimJ O f v) : SimJ O (consJ fa f) (vconsJ va v) := fun out B P n S L E g R s => by
  refine OkE.bind (P := fun S' d y => Val (Av B O L) n S' d y) (h1 B P n S L E g R s) fun S1 a x g1 f1 s1 p1 r e => ?_
  cases x with
  | str y =>
    cases p1
    have e : (if (out ++ y).length ≤ 1000000 then v (out ++ y) E g1 else none) = some r := e
    split at e
    · rename_i hy
      simp only [if_pos hy]
      exact h2 (out ++ y) B P n S1 L E g1 (R.fr f1) s1 r e
    · cases e
  | _ => cases e
theorem sim_join {f : JM} {v : VJ} (h : SimJ O f v) : SimE O (joinE f) (vjoin v) := fun B P n S L E g R s => by
  refine OkE.bind (P := fun _ a b => a = b) (h Str.empty B P n S L E g R s) fun S1 a x g1 f1 s1 p1 r e => ?_
  cases e
  subst p1
  exact ⟨S1, .refl _ _, s1, _, rfl, .str _⟩
end Ev
end
section
set_option Elab.async false
set_option linter.all false
set_option maxRecDepth 100000
set_option maxHeartbeats 1000000
namespace Ev
open PySem L2
variable {O : List Nat}
end Ev
end
section
set_option Elab.async false
set_option linter.all false
set_option maxRecDepth 100000
set_option maxHeartbeats 1000000
namespace Ev
open PySem L2
variable {O : List Nat} {fa : EM} {va : VE}
mutual
def flatY : Y → Bool
  | .non => true
  | .bl _ => true
  | .int _ => true
  | .str _ => true
  | .tup xs => flatYL xs
  | _ => false
def flatYL : List Y → Bool
  | [] => true
  | y :: ys => flatY y && flatYL ys
end
def vcallFt (V : VF) (f : VA) : VE := fun E g => bv (f E g) fun ys g1 => bv (V ys g1) fun y g2 => if flatY y = true then some (.ok y, g2) else none
end Ev
end
section
set_option Elab.async false
set_option linter.all false
set_option maxRecDepth 100000
set_option maxHeartbeats 1000000
namespace Ev
open PySem L2
variable {O : List Nat}
def vzipA (f : VA) : VI := fun E g => bv (f E g) fun ys g1 => match ys with
  | [.tup xs, .tup ys] => some (.ok ((xs.zip ys).map fun q => Y.tup [q.1, q.2]), g1)
  | [.lst xs, .lst ys] => some (.ok ((xs.zip ys).map fun q => Y.tup [q.1, q.2]), g1)
  | _ => none
end Ev
end
section
set_option Elab.async false
set_option linter.all false
set_option maxRecDepth 100000
set_option maxHeartbeats 1000000
namespace Ev
open PySem L2
end Ev
end
section
set_option Elab.async false
set_option linter.all false
set_option maxRecDepth 100000
set_option maxHeartbeats 1000000
namespace Ev
open PySem L2
variable {O O1 : List Nat}
end Ev
end
section
set_option Elab.async false
set_option linter.all false
set_option maxRecDepth 100000
set_option maxHeartbeats 1000000
namespace Ev
open PySem L2
end Ev
end
section
set_option Elab.async false
set_option linter.all false
set_option maxRecDepth 100000
set_option maxHeartbeats 1000000
namespace Ev
open PySem L2
variable {O : List Nat}
end Ev
end
section
set_option Elab.async false
set_option linter.all false
set_option maxRecDepth 100000
set_option maxHeartbeats 1000000
namespace Ev
open PySem L2
variable {O : List Nat}
end Ev
end
section
set_option Elab.async false
set_option linter.all false
set_option maxRecDepth 100000
set_option maxHeartbeats 1000000
namespace Ev
open PySem L2
end Ev
end
section
set_option Elab.async false
set_option linter.all false
set_option maxRecDepth 100000
set_option maxHeartbeats 1000000
namespace Ev
open PySem L2
end Ev
end
section
set_option Elab.async false
set_option linter.all false
set_option maxRecDepth 100000
set_option maxHeartbeats 1000000
namespace Ev
open PySem L2
open PyProof.Rows hiding St
variable {O1 : List Nat}
end Ev
end
section
set_option Elab.async false
set_option linter.all false
set_option maxRecDepth 100000
set_option maxHeartbeats 1000000
namespace Ev
open PySem L2
open PyProof.Rows hiding St
section
variable [Tabs] [Clos]
variable {X : Cx} {cl : Cls} {E : XK}
end
end Ev
end
section
set_option Elab.async false
set_option linter.all false
set_option maxRecDepth 100000
set_option maxHeartbeats 1000000
namespace Ev
open PySem L2
variable {O : List Nat}
end Ev
end
section
set_option Elab.async false
set_option linter.all false
set_option maxRecDepth 100000
set_option maxHeartbeats 2000000
namespace Ev
open PySem L2
open PyProof.Rows hiding St
open PySem.W (KatLex KatTups Looks)
section
variable [Tabs] [Clos]
variable {prog : Program} {w : World} {A : Around} {E : Value → Shared → Prop} {s : Shared}
end
def isT : D → Bool
  | .tup _ => true
  | _ => false
def pairOk : D → Bool
  | .tup [d, .ref _] => (keyO 9 d).isSome && isT d
  | _ => false
def keyP : D → List Int
  | .tup [d, _] => keyK d
  | _ => []
section
variable [Tabs] [Clos] {X : Cx} {cl : Cls} {E : XK}
end
end Ev
end
section
set_option Elab.async false
set_option linter.all false
set_option maxRecDepth 100000
set_option maxHeartbeats 1000000
namespace Ev
open PySem L2
def keyPY : Y → List Int
  | .tup [y, _] => keyKY y
  | _ => []
def pairOkY : Y → Bool
  | .tup [.tup ys, .lst _] => (keyOY 9 (.tup ys)).isSome
  | _ => false
inductive VKeyP (A : Nat → Prop) (n : Option Nat) (S : Sto) : List D → List Y → Prop where
  | nil : VKeyP A n S [] []
  | cons {d : D} {y : Y} {ds : List D} {ys : List Y} : Val A n S d y → keyP d = keyPY y → VKeyP A n S ds ys → VKeyP A n S (d :: ds) (y :: ys)
theorem VKeyP.val {A : Nat → Prop} {n : Option Nat} {S : Sto} {ds : List D} {ys : List Y} (h : VKeyP A n S ds ys) : ValL A n S ds ys := by
  induction h with
  | nil => exact .nil
  | cons v _ _ ih => exact .cons v ih
theorem VKeyP.ins {A : Nat → Prop} {n : Option Nat} {S : Sto} {d : D} {y : Y} (v : Val A n S d y) (k : keyP d = keyPY y) {ds : List D} {ys : List Y} (h : VKeyP A n S ds ys) : VKeyP A n S (insB keyP d ds) (insB keyPY y ys) := by
  induction h with
  | nil => exact .cons v k .nil
  | @cons d' y' ds ys v' k' r ih =>
    unfold insB
    rw [k, k']
    by_cases q : lexT (keyPY y') (keyPY y) = true
    · rw [if_pos q, if_pos q]; exact .cons v' k' ih
    · rw [if_neg q, if_neg q]; exact .cons v k (.cons v' k' r)
theorem pair_val {A : Nat → Prop} {n : Option Nat} {S : Sto} {d : D} {y : Y} (v : Val A n S d y) (h : pairOkY y = true) : pairOk d = true ∧ keyP d = keyPY y := by
  unfold pairOkY at h
  split at h
  · rename_i ys zs
    cases v with
    | tup r =>
      cases r with
      | cons v1 r =>
        cases r with
        | cons v2 r =>
          cases r
          obtain ⟨k, hk⟩ := Option.isSome_iff_exists.mp h
          have hk2 := keyOY_ok 9 _ _ _ v1 hk
          have v1' := v1
          cases v1 with
          | tup r1 =>
            cases v2 with
            | lst a b c r2 =>
              refine ⟨?_, ?_⟩
              · show ((keyO 9 _).isSome && isT _) = true
                rw [hk2]; rfl
              · show keyK _ = keyKY _
                unfold keyK keyKY
                rw [hk2, hk]
  · cases h
theorem VKeyP.of {A : Nat → Prop} {n : Option Nat} {S : Sto} {ds : List D} {ys : List Y} (h : ValL A n S ds ys) (k : ∀ y ∈ ys, pairOkY y = true) : VKeyP A n S ds ys := by
  induction ys generalizing ds with
  | nil => cases h; exact .nil
  | cons y ys ih =>
    cases h with
    | cons v r => exact .cons v (pair_val v (k y (by simp))).2 (ih r fun z hz => k z (by simp [hz]))
end Ev
end
section
set_option Elab.async false
set_option linter.all false
set_option maxRecDepth 100000
set_option maxHeartbeats 0
namespace Ev
open PySem L2
open PyProof.Rows hiding St
variable [Tabs] [Clos]
def CA (n : Nat) : Addr := [37, 49, 61, 73, 85, 97, 109, 121, 133, 145, 157, 169, 188].getD n 0
def SIGHT : Addr := 24
abbrev CODE_law_none_right : Addr := 313
abbrev TAB_law_none_right : Addr := 311
abbrev XS : List Nat := [0, 2, 5]
def saidWords : List Str := ["board", "piece", "cell", "lot", "sight", "number", "prices", "turn", "placing", "text", "line", "deed"]
def saidW (n : Nat) : Option Str := saidWV [0, 2, 5] n
theorem saidW_in {n : Nat} {x : Str} (h : saidW n = some x) : n ∈ XS := by
  unfold saidW saidWV at h
  split at h
  · assumption
  · cases h
def mk (n a b : Nat) : List D := (List.range b).map fun i => D.bl (n == a + i)
def saidJ (n : Nat) : List Cell := [.lst (mk n 0 4), .lst (mk n 4 3), .lst (mk n 0 7), .lst (mk n 7 3), .lst (mk n 0 10), .lst (mk n 10 3), .lst (mk n 0 13), .lst ((saidWords.take 11).map D.str), .lst [.str "deed"], .lst (saidWords.map D.str)]
def ansX (n : Nat) (c : Addr) : Option Bool := match (List.range 13).find? (fun j => CA j == c) with
  | some j => some (n == j)
  | none => none
theorem ansX_some {n : Nat} {c : Addr} {b : Bool} (h : ansX n c = some b) : ∃ j, j < 13 ∧ c = CA j ∧ b = (n == j) := by
  unfold ansX at h
  cases e : (List.range 13).find? (fun j => CA j == c) with
  | none => rw [e] at h; cases h
  | some j =>
    rw [e] at h
    cases h
    have h1 := List.find?_some e
    have h2 := List.mem_of_find?_eq_some e
    exact ⟨j, List.mem_range.mp h2, (eq_of_beq h1).symm, rfl⟩
def bNames : List Str := ["ValueError", "abs", "bool", "divmod", "int", "isinstance", "len", "max", "min", "range", "repr", "tuple"]
def top (i : Nat) : Stmt := PySem.Challenge.pw_seeall_k61_kings_on_great_boards.main.body.getD i (.Pass ⟨0, 0, 0, 0⟩)

abbrev N_law_cell_at : List Str := ["_law_script", "_law_k"]
abbrev P_law_cell_at : List Str := ["_law_script", "_law_k"]
theorem sc_law_cell_at : FnScope N_law_cell_at P_law_cell_at (defScope (top 31)) := ⟨rfl, rfl, rfl, by decide +kernel, rfl, by decide +kernel, by decide +kernel⟩
def B_law_cell_at : SM :=
 (seqS (ifS (tb (bin2 ltD (vr 1) (callE lenD (consA (vr 0) nilA)))) (retS (bin2 ixD (vr 0) (vr 1))) nxS)
 (retS (cst (.int 0))))
def F_law_cell_at : Fn := runF 2 B_law_cell_at
theorem ok_law_cell_at {P : Program} {w : World} {K : PySem.W.Frag} {mg : Str → Option Value} {base : Heap} {cl : Cls} (h : DefAt K mg "_law_cell_at" (top 31) P_law_cell_at) (hB : ∀ x ∈ bNames, mg x = none) : Cal P w K mg base cl "_law_cell_at" 1 2 F_law_cell_at :=
 def_ok h sc_law_cell_at rfl fun f cdv A outer s H E hr =>
 (ev_bcons
 (ev_ifS (ev_tcmp (op_ltD hr.units0) (ev_var 1 (by kernel_rfl) (Or.inl (by kernel_rfl)) (by kernel_rfl) (by kernel_rfl)) (ev_callB cl_len (gl_of (by kernel_rfl)) (hB "len" (by decide +kernel)) (by kernel_rfl) (ev_cons (ev_var 0 (by kernel_rfl) (Or.inl (by kernel_rfl)) (by kernel_rfl) (by kernel_rfl)) ev_nil (by kernel_rfl)) (by decide +kernel) (by kernel_rfl) (by kernel_rfl) (by kernel_rfl)) (by kernel_rfl)) (ev_bone
 (ev_ret (ev_ix ix_D (ev_var 0 (by kernel_rfl) (Or.inl (by kernel_rfl)) (by kernel_rfl) (by kernel_rfl)) (ev_var 1 (by kernel_rfl) (Or.inl (by kernel_rfl)) (by kernel_rfl) (by kernel_rfl)) (fun _ _ => (by kernel_rfl))))) ev_bnil) (ev_bone
 (ev_ret ev_int)))

abbrev N_law_state : List Str := ["_law_script", "_law_k", "_law_cell"]
abbrev P_law_state : List Str := ["_law_script", "_law_k"]
theorem sc_law_state : FnScope N_law_state P_law_state (defScope (top 32)) := ⟨rfl, rfl, rfl, by decide +kernel, rfl, by decide +kernel, by decide +kernel⟩
def B_law_state : SM :=
 (seqS (asgS (callE F_law_cell_at (consA (vr 0) (consA (vr 1) nilA))) (setG 2))
 (retS (lstE (consA (callE maxD (consA (cst (.int 0)) (consA (bin2 subD (vr 2) (bin2 powD (cst (.int 10)) (cst (.int 18)))) nilA))) (consA (bin2 modD (vr 2) (cst (.int 2147483647))) nilA)))))
def F_law_state : Fn := runF 3 B_law_state
theorem ok_law_state {P : Program} {w : World} {K : PySem.W.Frag} {mg : Str → Option Value} {base : Heap} {cl : Cls} (h : DefAt K mg "_law_state" (top 32) P_law_state) (hB : ∀ x ∈ bNames, mg x = none) (c_law_cell_at : Cal P w K mg base cl "_law_cell_at" 1 2 F_law_cell_at) : Cal P w K mg base cl "_law_state" 2 2 F_law_state :=
 def_ok h sc_law_state rfl fun f cdv A outer s H E hr =>
 (ev_bcons
 (ev_set 2 sc_law_state.nd (by kernel_rfl) (Or.inl (by kernel_rfl)) (ev_callC c_law_cell_at (Room.mono (j := 1) (k := 1) hr (by decide)) (gl_of (by kernel_rfl)) thr_cx rfl (ev_cons (ev_var 0 (by kernel_rfl) (Or.inl (by kernel_rfl)) (by kernel_rfl) (by kernel_rfl)) (ev_cons (ev_var 1 (by kernel_rfl) (Or.inl (by kernel_rfl)) (by kernel_rfl) (by kernel_rfl)) ev_nil (by kernel_rfl)) (by kernel_rfl)) (by kernel_rfl) (by kernel_rfl) (by kernel_rfl) (len_cons (len_cons (fun _ _ _ _ h => len_nil h)))) (by kernel_rfl) (Or.inl rfl)) (ev_bone
 (ev_ret (ev_lst (ev_cons (ev_callB (cl_max rfl) (gl_of (by kernel_rfl)) (hB "max" (by decide +kernel)) (by kernel_rfl) (ev_cons ev_int (ev_cons (ev_op op_subD (ev_var 2 (by kernel_rfl) (Or.inl (by kernel_rfl)) (by kernel_rfl) (by kernel_rfl)) (ev_op op_powD ev_int ev_int)) ev_nil (by kernel_rfl)) (by kernel_rfl)) (by decide +kernel) (by kernel_rfl) (by kernel_rfl) (by kernel_rfl)) (ev_cons (ev_op op_modD (ev_var 2 (by kernel_rfl) (Or.inl (by kernel_rfl)) (by kernel_rfl) (by kernel_rfl)) ev_int) ev_nil (by kernel_rfl)) (by kernel_rfl))))))

abbrev N_law_choice : List Str := ["_law_state_here", "_law_many", "_law_mixed", "_law_found"]
abbrev P_law_choice : List Str := ["_law_state_here", "_law_many"]
theorem sc_law_choice : FnScope N_law_choice P_law_choice (defScope (top 33)) := ⟨rfl, rfl, rfl, by decide +kernel, rfl, by decide +kernel, by decide +kernel⟩
def B_law_choice : SM :=
 (seqS (ifS (tb (bin2 (cmpI fun i j => decide (j < i)) (bin2 ixD (vr 0) (cst (.int 0))) (cst (.int 0)))) (seqS (asgS (bin2 modD (bin2 ixD (vr 0) (cst (.int 0))) (vr 1)) (setG 3))
 (seqS (asgS (bin2 fdivD (bin2 ixD (vr 0) (cst (.int 0))) (vr 1)) (subG setLD (vr 0) (cst (.int 0))))
 (retS (vr 3)))) nxS)
 (seqS (asgS (bin2 modD (bin2 addD (bin2 mulD (bin2 ixD (vr 0) (cst (.int 1))) (cst (.int 48271))) (cst (.int 29))) (cst (.int 2147483647))) (subG setLD (vr 0) (cst (.int 1))))
 (seqS (asgS (bin2 modD (bin2 addD (bin2 addD (bin2 mulD (bin2 ixD (vr 0) (cst (.int 1))) (bin2 ixD (vr 0) (cst (.int 1)))) (bin2 mulD (cst (.int 39373)) (bin2 ixD (vr 0) (cst (.int 1))))) (cst (.int 7))) (cst (.int 2147483629))) (setG 2))
 (seqS (asgS (bin2 modD (bin2 addD (bin2 mulD (vr 2) (vr 2)) (bin2 mulD (cst (.int 16807)) (vr 2))) (cst (.int 2147483587))) (setG 2))
 (retS (bin2 modD (bin2 fdivD (vr 2) (cst (.int 8))) (vr 1)))))))
def F_law_choice : Fn := runF 4 B_law_choice
theorem ok_law_choice {P : Program} {w : World} {K : PySem.W.Frag} {mg : Str → Option Value} {base : Heap} {cl : Cls} (h : DefAt K mg "_law_choice" (top 33) P_law_choice)  : Cal P w K mg base cl "_law_choice" 1 2 F_law_choice :=
 def_ok h sc_law_choice rfl fun f cdv A outer s H E hr =>
 (ev_bcons
 (ev_ifS (ev_tcmp op_gtD (ev_ix ix_D (ev_var 0 (by kernel_rfl) (Or.inl (by kernel_rfl)) (by kernel_rfl) (by kernel_rfl)) ev_int (fun _ _ => (by kernel_rfl))) ev_int (by kernel_rfl)) (ev_bcons
 (ev_set 3 sc_law_choice.nd (by kernel_rfl) (Or.inl (by kernel_rfl)) (ev_op op_modD (ev_ix ix_D (ev_var 0 (by kernel_rfl) (Or.inl (by kernel_rfl)) (by kernel_rfl) (by kernel_rfl)) ev_int (fun _ _ => (by kernel_rfl))) (ev_var 1 (by kernel_rfl) (Or.inl (by kernel_rfl)) (by kernel_rfl) (by kernel_rfl))) (by kernel_rfl) (Or.inl rfl)) (ev_bcons
 (ev_asg (ev_op op_fdivD (ev_ix ix_D (ev_var 0 (by kernel_rfl) (Or.inl (by kernel_rfl)) (by kernel_rfl) (by kernel_rfl)) ev_int (fun _ _ => (by kernel_rfl))) (ev_var 1 (by kernel_rfl) (Or.inl (by kernel_rfl)) (by kernel_rfl) (by kernel_rfl))) (ev_gsub set_lst (ev_var 0 (by kernel_rfl) (Or.inl (by kernel_rfl)) (by kernel_rfl) (by kernel_rfl)) ev_int (fun _ => (by kernel_rfl))) (by kernel_rfl) (by kernel_rfl) (by kernel_rfl)) (ev_bone
 (ev_ret (ev_var 3 (by kernel_rfl) (Or.inl (by kernel_rfl)) (by kernel_rfl) (by kernel_rfl)))))) ev_bnil) (ev_bcons
 (ev_asg (ev_op op_modD (ev_op op_addD (ev_op op_mulD (ev_ix ix_D (ev_var 0 (by kernel_rfl) (Or.inl (by kernel_rfl)) (by kernel_rfl) (by kernel_rfl)) ev_int (fun _ _ => (by kernel_rfl))) ev_int) ev_int) ev_int) (ev_gsub set_lst (ev_var 0 (by kernel_rfl) (Or.inl (by kernel_rfl)) (by kernel_rfl) (by kernel_rfl)) ev_int (fun _ => (by kernel_rfl))) (by kernel_rfl) (by kernel_rfl) (by kernel_rfl)) (ev_bcons
 (ev_set 2 sc_law_choice.nd (by kernel_rfl) (Or.inl (by kernel_rfl)) (ev_op op_modD (ev_op op_addD (ev_op op_addD (ev_op op_mulD (ev_ix ix_D (ev_var 0 (by kernel_rfl) (Or.inl (by kernel_rfl)) (by kernel_rfl) (by kernel_rfl)) ev_int (fun _ _ => (by kernel_rfl))) (ev_ix ix_D (ev_var 0 (by kernel_rfl) (Or.inl (by kernel_rfl)) (by kernel_rfl) (by kernel_rfl)) ev_int (fun _ _ => (by kernel_rfl)))) (ev_op op_mulD ev_int (ev_ix ix_D (ev_var 0 (by kernel_rfl) (Or.inl (by kernel_rfl)) (by kernel_rfl) (by kernel_rfl)) ev_int (fun _ _ => (by kernel_rfl))))) ev_int) ev_int) (by kernel_rfl) (Or.inl rfl)) (ev_bcons
 (ev_set 2 sc_law_choice.nd (by kernel_rfl) (Or.inl (by kernel_rfl)) (ev_op op_modD (ev_op op_addD (ev_op op_mulD (ev_var 2 (by kernel_rfl) (Or.inl (by kernel_rfl)) (by kernel_rfl) (by kernel_rfl)) (ev_var 2 (by kernel_rfl) (Or.inl (by kernel_rfl)) (by kernel_rfl) (by kernel_rfl))) (ev_op op_mulD ev_int (ev_var 2 (by kernel_rfl) (Or.inl (by kernel_rfl)) (by kernel_rfl) (by kernel_rfl)))) ev_int) (by kernel_rfl) (Or.inl rfl)) (ev_bone
 (ev_ret (ev_op op_modD (ev_op op_fdivD (ev_var 2 (by kernel_rfl) (Or.inl (by kernel_rfl)) (by kernel_rfl) (by kernel_rfl)) ev_int) (ev_var 1 (by kernel_rfl) (Or.inl (by kernel_rfl)) (by kernel_rfl) (by kernel_rfl)))))))))

abbrev N_law_side : List Str := ["_law_state_here", "_law_some"]
abbrev P_law_side : List Str := ["_law_state_here"]
theorem sc_law_side : FnScope N_law_side P_law_side (defScope (top 36)) := ⟨rfl, rfl, rfl, by decide +kernel, rfl, by decide +kernel, by decide +kernel⟩
def B_law_side : SM :=
 (seqS (asgS (lstE (consA (bin2 subD (bin2 powD (cst (.int 10)) (cst (.int 9))) (callE F_law_choice (consA (vr 0) (consA (cst (.int 4)) nilA)))) (consA (bin2 addD (cst (.int 1)) (callE F_law_choice (consA (vr 0) (consA (bin2 powD (cst (.int 10)) (cst (.int 9))) nilA)))) (consA (bin2 addD (cst (.int 1)) (callE F_law_choice (consA (vr 0) (consA (cst (.int 5)) nilA)))) nilA)))) (setG 1))
 (retS (bin2 ixD (vr 1) (callE F_law_choice (consA (vr 0) (consA (cst (.int 3)) nilA))))))
def F_law_side : Fn := runF 2 B_law_side
theorem ok_law_side {P : Program} {w : World} {K : PySem.W.Frag} {mg : Str → Option Value} {base : Heap} {cl : Cls} (h : DefAt K mg "_law_side" (top 36) P_law_side) (c_law_choice : Cal P w K mg base cl "_law_choice" 1 2 F_law_choice) : Cal P w K mg base cl "_law_side" 2 1 F_law_side :=
 def_ok h sc_law_side rfl fun f cdv A outer s H E hr =>
 (ev_bcons
 (ev_set 1 sc_law_side.nd (by kernel_rfl) (Or.inl (by kernel_rfl)) (ev_lst (ev_cons (ev_op op_subD (ev_op op_powD ev_int ev_int) (ev_callC c_law_choice (Room.mono (j := 1) (k := 1) hr (by decide)) (gl_of (by kernel_rfl)) thr_cx rfl (ev_cons (ev_var 0 (by kernel_rfl) (Or.inl (by kernel_rfl)) (by kernel_rfl) (by kernel_rfl)) (ev_cons ev_int ev_nil (by kernel_rfl)) (by kernel_rfl)) (by kernel_rfl) (by kernel_rfl) (by kernel_rfl) (len_cons (len_cons (fun _ _ _ _ h => len_nil h))))) (ev_cons (ev_op op_addD ev_int (ev_callC c_law_choice (Room.mono (j := 1) (k := 1) hr (by decide)) (gl_of (by kernel_rfl)) thr_cx rfl (ev_cons (ev_var 0 (by kernel_rfl) (Or.inl (by kernel_rfl)) (by kernel_rfl) (by kernel_rfl)) (ev_cons (ev_op op_powD ev_int ev_int) ev_nil (by kernel_rfl)) (by kernel_rfl)) (by kernel_rfl) (by kernel_rfl) (by kernel_rfl) (len_cons (len_cons (fun _ _ _ _ h => len_nil h))))) (ev_cons (ev_op op_addD ev_int (ev_callC c_law_choice (Room.mono (j := 1) (k := 1) hr (by decide)) (gl_of (by kernel_rfl)) thr_cx rfl (ev_cons (ev_var 0 (by kernel_rfl) (Or.inl (by kernel_rfl)) (by kernel_rfl) (by kernel_rfl)) (ev_cons ev_int ev_nil (by kernel_rfl)) (by kernel_rfl)) (by kernel_rfl) (by kernel_rfl) (by kernel_rfl) (len_cons (len_cons (fun _ _ _ _ h => len_nil h))))) ev_nil (by kernel_rfl)) (by kernel_rfl)) (by kernel_rfl))) (by kernel_rfl) (Or.inl rfl)) (ev_bone
 (ev_ret (ev_ix ix_D (ev_var 1 (by kernel_rfl) (Or.inl (by kernel_rfl)) (by kernel_rfl) (by kernel_rfl)) (ev_callC c_law_choice (Room.mono (j := 1) (k := 1) hr (by decide)) (gl_of (by kernel_rfl)) thr_cx rfl (ev_cons (ev_var 0 (by kernel_rfl) (Or.inl (by kernel_rfl)) (by kernel_rfl) (by kernel_rfl)) (ev_cons ev_int ev_nil (by kernel_rfl)) (by kernel_rfl)) (by kernel_rfl) (by kernel_rfl) (by kernel_rfl) (len_cons (len_cons (fun _ _ _ _ h => len_nil h)))) (fun _ _ => (by kernel_rfl))))))

abbrev N_law_same : List Str := ["_law_found", "_law_due"]
abbrev P_law_same : List Str := ["_law_found", "_law_due"]
theorem sc_law_same : FnScope N_law_same P_law_same (defScope (top 34)) := ⟨rfl, rfl, rfl, by decide +kernel, rfl, by decide +kernel, by decide +kernel⟩
def B_law_same : SM :=
 (retS (bin2 eqD (callE reprD (consA (vr 0) nilA)) (callE reprD (consA (vr 1) nilA))))
def F_law_same : Fn := runF 2 B_law_same
theorem ok_law_same {P : Program} {w : World} {K : PySem.W.Frag} {mg : Str → Option Value} {base : Heap} {cl : Cls} (h : DefAt K mg "_law_same" (top 34) P_law_same) (hB : ∀ x ∈ bNames, mg x = none) : Cal P w K mg base cl "_law_same" 1 2 F_law_same :=
 def_ok h sc_law_same rfl fun f cdv A outer s H E hr =>
 (ev_bone
 (ev_ret (ev_cmp (op_eqDD hr.units) (ev_callB (cl_repr hr) (gl_of (by kernel_rfl)) (hB "repr" (by decide +kernel)) (by kernel_rfl) (ev_cons (ev_var 0 (by kernel_rfl) (Or.inl (by kernel_rfl)) (by kernel_rfl) (by kernel_rfl)) ev_nil (by kernel_rfl)) (by decide +kernel) (by kernel_rfl) (by kernel_rfl) (by kernel_rfl)) (ev_callB (cl_repr hr) (gl_of (by kernel_rfl)) (hB "repr" (by decide +kernel)) (by kernel_rfl) (ev_cons (ev_var 1 (by kernel_rfl) (Or.inl (by kernel_rfl)) (by kernel_rfl) (by kernel_rfl)) ev_nil (by kernel_rfl)) (by decide +kernel) (by kernel_rfl) (by kernel_rfl) (by kernel_rfl)) (by kernel_rfl))))

abbrev N_is_whole : List Str := ["thing", "low", "high"]
abbrev P_is_whole : List Str := ["thing", "low", "high"]
theorem sc_is_whole : FnScope N_is_whole P_is_whole (defScope (top 16)) := ⟨rfl, rfl, rfl, by decide +kernel, rfl, by decide +kernel, by decide +kernel⟩
def B_is_whole : SM :=
 (retS (vand (callE isiD (consA (vr 0) (consA (cst (.ty "int")) nilA))) (vand (un1 notD (callE isiD (consA (vr 0) (consA (cst (.ty "bool")) nilA)))) (chn (cmpI fun i j => decide (i ≤ j)) (cmpI fun i j => decide (i ≤ j)) (vr 1) (vr 0) (vr 2)))))
def F_is_whole : Fn := runF 3 B_is_whole
theorem ok_is_whole {P : Program} {w : World} {K : PySem.W.Frag} {mg : Str → Option Value} {base : Heap} {cl : Cls} (h : DefAt K mg "is_whole" (top 16) P_is_whole) (hB : ∀ x ∈ bNames, mg x = none) : Cal P w K mg base cl "is_whole" 1 3 F_is_whole :=
 def_ok h sc_is_whole rfl fun f cdv A outer s H E hr =>
 (ev_bone
 (ev_ret (ev_and (ev_callB cl_isi (gl_of (by kernel_rfl)) (hB "isinstance" (by decide +kernel)) (by kernel_rfl) (ev_cons (ev_var 0 (by kernel_rfl) (Or.inl (by kernel_rfl)) (by kernel_rfl) (by kernel_rfl)) (ev_cons (ev_bltn (gl_of (by kernel_rfl)) (hB "int" (by decide +kernel)) (by kernel_rfl) (by decide +kernel) (by kernel_rfl)) ev_nil (by kernel_rfl)) (by kernel_rfl)) (by decide +kernel) (by kernel_rfl) (by kernel_rfl) (by kernel_rfl)) (ev_and (ev_not (ev_callB cl_isi (gl_of (by kernel_rfl)) (hB "isinstance" (by decide +kernel)) (by kernel_rfl) (ev_cons (ev_var 0 (by kernel_rfl) (Or.inl (by kernel_rfl)) (by kernel_rfl) (by kernel_rfl)) (ev_cons (ev_bltn (gl_of (by kernel_rfl)) (hB "bool" (by decide +kernel)) (by kernel_rfl) (by decide +kernel) (by kernel_rfl)) ev_nil (by kernel_rfl)) (by kernel_rfl)) (by decide +kernel) (by kernel_rfl) (by kernel_rfl) (by kernel_rfl))) (ev_one (ev_chain op_leD op_leD (ev_var 1 (by kernel_rfl) (Or.inl (by kernel_rfl)) (by kernel_rfl) (by kernel_rfl)) (ev_var 0 (by kernel_rfl) (Or.inl (by kernel_rfl)) (by kernel_rfl) (by kernel_rfl)) (ev_var 2 (by kernel_rfl) (Or.inl (by kernel_rfl)) (by kernel_rfl) (by kernel_rfl)) (by kernel_rfl)))))))

abbrev N_check_sizes : List Str := ["high", "wide"]
abbrev P_check_sizes : List Str := ["high", "wide"]
theorem sc_check_sizes : FnScope N_check_sizes P_check_sizes (defScope (top 24)) := ⟨rfl, rfl, rfl, by decide +kernel, rfl, by decide +kernel, by decide +kernel⟩
def B_check_sizes : SM :=
 (ifS (tor (tnot (tb (callE F_is_whole (consA (vr 0) (consA (cst (.int 1)) (consA (cst (.int 1000000000)) nilA)))))) (tnot (tb (callE F_is_whole (consA (vr 1) (consA (cst (.int 1)) (consA (cst (.int 1000000000)) nilA))))))) (raiseS 0 (consA (cst (.str "high and wide are whole numbers, each from 1 to 10 ** 9")) nilA)) nxS)
def F_check_sizes : Fn := runF 2 B_check_sizes
theorem ok_check_sizes {P : Program} {w : World} {K : PySem.W.Frag} {mg : Str → Option Value} {base : Heap} {cl : Cls} (h : DefAt K mg "check_sizes" (top 24) P_check_sizes) (hC_GREATEST : CstAt mg "GREATEST" (.int 1000000000)) (c_is_whole : Cal P w K mg base cl "is_whole" 1 3 F_is_whole) (hX_NoBoard : ExAt K mg cl "NoBoard" 0 (CA 0)) : Cal P w K mg base cl "check_sizes" 2 2 F_check_sizes :=
 def_ok h sc_check_sizes rfl fun f cdv A outer s H E hr =>
 (ev_bone
 (ev_ifS (ev_tw (ev_wor (ev_tnot (ev_tval (ev_callC c_is_whole (Room.mono (j := 1) (k := 1) hr (by decide)) (gl_of (by kernel_rfl)) thr_cx rfl (ev_cons (ev_var 0 (by kernel_rfl) (Or.inl (by kernel_rfl)) (by kernel_rfl) (by kernel_rfl)) (ev_cons ev_int (ev_cons (ev_globI hC_GREATEST (gl_of (by kernel_rfl)) (by kernel_rfl)) ev_nil (by kernel_rfl)) (by kernel_rfl)) (by kernel_rfl)) (by kernel_rfl) (by kernel_rfl) (by kernel_rfl) (len_cons (len_cons (len_cons (fun _ _ _ _ h => len_nil h))))) (fun _ => (by kernel_rfl)))) (ev_wor1 (ev_tnot (ev_tval (ev_callC c_is_whole (Room.mono (j := 1) (k := 1) hr (by decide)) (gl_of (by kernel_rfl)) thr_cx rfl (ev_cons (ev_var 1 (by kernel_rfl) (Or.inl (by kernel_rfl)) (by kernel_rfl) (by kernel_rfl)) (ev_cons ev_int (ev_cons (ev_globI hC_GREATEST (gl_of (by kernel_rfl)) (by kernel_rfl)) ev_nil (by kernel_rfl)) (by kernel_rfl)) (by kernel_rfl)) (by kernel_rfl) (by kernel_rfl) (by kernel_rfl) (len_cons (len_cons (len_cons (fun _ _ _ _ h => len_nil h))))) (fun _ => (by kernel_rfl))))))) (ev_bone
 (ev_raise 0 thr_cx hr.hd (gl_of (by kernel_rfl)) hX_NoBoard.mg hX_NoBoard.ex hX_NoBoard.cl (ev_cons ev_str ev_nil (by kernel_rfl)) (by kernel_rfl) (by kernel_rfl) (by kernel_rfl))) ev_bnil))

abbrev N_is_couple : List Str := ["thing"]
abbrev P_is_couple : List Str := ["thing"]
theorem sc_is_couple : FnScope N_is_couple P_is_couple (defScope (top 18)) := ⟨rfl, rfl, rfl, by decide +kernel, rfl, by decide +kernel, by decide +kernel⟩
def B_is_couple : SM :=
 (retS (vand (callE isiD (consA (vr 0) (consA (cst (.ty "tuple")) nilA))) (bin2 eqD (callE lenD (consA (vr 0) nilA)) (cst (.int 2)))))
def F_is_couple : Fn := runF 1 B_is_couple
theorem ok_is_couple {P : Program} {w : World} {K : PySem.W.Frag} {mg : Str → Option Value} {base : Heap} {cl : Cls} (h : DefAt K mg "is_couple" (top 18) P_is_couple) (hB : ∀ x ∈ bNames, mg x = none) : Cal P w K mg base cl "is_couple" 1 1 F_is_couple :=
 def_ok h sc_is_couple rfl fun f cdv A outer s H E hr =>
 (ev_bone
 (ev_ret (ev_and (ev_callB cl_isi (gl_of (by kernel_rfl)) (hB "isinstance" (by decide +kernel)) (by kernel_rfl) (ev_cons (ev_var 0 (by kernel_rfl) (Or.inl (by kernel_rfl)) (by kernel_rfl) (by kernel_rfl)) (ev_cons (ev_bltn (gl_of (by kernel_rfl)) (hB "tuple" (by decide +kernel)) (by kernel_rfl) (by decide +kernel) (by kernel_rfl)) ev_nil (by kernel_rfl)) (by kernel_rfl)) (by decide +kernel) (by kernel_rfl) (by kernel_rfl) (by kernel_rfl)) (ev_one (ev_cmp (op_eqDD hr.units) (ev_callB cl_len (gl_of (by kernel_rfl)) (hB "len" (by decide +kernel)) (by kernel_rfl) (ev_cons (ev_var 0 (by kernel_rfl) (Or.inl (by kernel_rfl)) (by kernel_rfl) (by kernel_rfl)) ev_nil (by kernel_rfl)) (by decide +kernel) (by kernel_rfl) (by kernel_rfl) (by kernel_rfl)) ev_int (by kernel_rfl))))))

abbrev N_is_cell : List Str := ["board", "thing", "high", "wide"]
abbrev P_is_cell : List Str := ["board", "thing"]
theorem sc_is_cell : FnScope N_is_cell P_is_cell (defScope (top 20)) := ⟨rfl, rfl, rfl, by decide +kernel, rfl, by decide +kernel, by decide +kernel⟩
def B_is_cell : SM :=
 (seqS (asgS (vr 0) (tupG 2 (consG (setG 2) (consG (setG 3) nilG))))
 (retS (vand (callE F_is_couple (consA (vr 1) nilA)) (vand (callE F_is_whole (consA (bin2 ixD (vr 1) (cst (.int 0))) (consA (cst (.int 0)) (consA (bin2 subD (vr 2) (cst (.int 1))) nilA)))) (callE F_is_whole (consA (bin2 ixD (vr 1) (cst (.int 1))) (consA (cst (.int 0)) (consA (bin2 subD (vr 3) (cst (.int 1))) nilA))))))))
def F_is_cell : Fn := runF 4 B_is_cell
theorem ok_is_cell {P : Program} {w : World} {K : PySem.W.Frag} {mg : Str → Option Value} {base : Heap} {cl : Cls} (h : DefAt K mg "is_cell" (top 20) P_is_cell) (c_is_couple : Cal P w K mg base cl "is_couple" 1 1 F_is_couple) (c_is_whole : Cal P w K mg base cl "is_whole" 1 3 F_is_whole) : Cal P w K mg base cl "is_cell" 2 2 F_is_cell :=
 def_ok h sc_is_cell rfl fun f cdv A outer s H E hr =>
 (ev_bcons
 (ev_asg (ev_var 0 (by kernel_rfl) (Or.inl (by kernel_rfl)) (by kernel_rfl) (by kernel_rfl)) (ev_gtup rfl (ev_gcons (ev_gname 2 sc_is_cell.nd (by kernel_rfl) (Or.inl (by kernel_rfl)) (Or.inl rfl)) (ev_gcons (ev_gname 3 sc_is_cell.nd (by kernel_rfl) (Or.inl (by kernel_rfl)) (Or.inl rfl)) ev_gnil (by kernel_rfl)) (by kernel_rfl)) (by kernel_rfl) (by kernel_rfl)) (by kernel_rfl) (by kernel_rfl) (by kernel_rfl)) (ev_bone
 (ev_ret (ev_and (ev_callC c_is_couple (Room.mono (j := 1) (k := 1) hr (by decide)) (gl_of (by kernel_rfl)) thr_cx rfl (ev_cons (ev_var 1 (by kernel_rfl) (Or.inl (by kernel_rfl)) (by kernel_rfl) (by kernel_rfl)) ev_nil (by kernel_rfl)) (by kernel_rfl) (by kernel_rfl) (by kernel_rfl) (len_cons (fun _ _ _ _ h => len_nil h))) (ev_and (ev_callC c_is_whole (Room.mono (j := 1) (k := 1) hr (by decide)) (gl_of (by kernel_rfl)) thr_cx rfl (ev_cons (ev_ix ix_D (ev_var 1 (by kernel_rfl) (Or.inl (by kernel_rfl)) (by kernel_rfl) (by kernel_rfl)) ev_int (fun _ _ => (by kernel_rfl))) (ev_cons ev_int (ev_cons (ev_op op_subD (ev_var 2 (by kernel_rfl) (Or.inl (by kernel_rfl)) (by kernel_rfl) (by kernel_rfl)) ev_int) ev_nil (by kernel_rfl)) (by kernel_rfl)) (by kernel_rfl)) (by kernel_rfl) (by kernel_rfl) (by kernel_rfl) (len_cons (len_cons (len_cons (fun _ _ _ _ h => len_nil h))))) (ev_one (ev_callC c_is_whole (Room.mono (j := 1) (k := 1) hr (by decide)) (gl_of (by kernel_rfl)) thr_cx rfl (ev_cons (ev_ix ix_D (ev_var 1 (by kernel_rfl) (Or.inl (by kernel_rfl)) (by kernel_rfl) (by kernel_rfl)) ev_int (fun _ _ => (by kernel_rfl))) (ev_cons ev_int (ev_cons (ev_op op_subD (ev_var 3 (by kernel_rfl) (Or.inl (by kernel_rfl)) (by kernel_rfl) (by kernel_rfl)) ev_int) ev_nil (by kernel_rfl)) (by kernel_rfl)) (by kernel_rfl)) (by kernel_rfl) (by kernel_rfl) (by kernel_rfl) (len_cons (len_cons (len_cons (fun _ _ _ _ h => len_nil h)))))))))))

abbrev N_check_cell : List Str := ["board", "cell"]
abbrev P_check_cell : List Str := ["board", "cell"]
theorem sc_check_cell : FnScope N_check_cell P_check_cell (defScope (top 21)) := ⟨rfl, rfl, rfl, by decide +kernel, rfl, by decide +kernel, by decide +kernel⟩
def B_check_cell : SM :=
 (ifS (tnot (tb (callE F_is_cell (consA (vr 0) (consA (vr 1) nilA))))) (raiseS 2 (consA (cst (.str "a cell is a tuple (row, column) of two whole numbers within the board")) nilA)) nxS)
def F_check_cell : Fn := runF 2 B_check_cell
theorem ok_check_cell {P : Program} {w : World} {K : PySem.W.Frag} {mg : Str → Option Value} {base : Heap} {cl : Cls} (h : DefAt K mg "check_cell" (top 21) P_check_cell) (c_is_cell : Cal P w K mg base cl "is_cell" 2 2 F_is_cell) (hX_NoCell : ExAt K mg cl "NoCell" 2 (CA 2)) : Cal P w K mg base cl "check_cell" 3 2 F_check_cell :=
 def_ok h sc_check_cell rfl fun f cdv A outer s H E hr =>
 (ev_bone
 (ev_ifS (ev_tnot (ev_tval (ev_callC c_is_cell (Room.mono (j := 2) (k := 2) hr (by decide)) (gl_of (by kernel_rfl)) thr_cx rfl (ev_cons (ev_var 0 (by kernel_rfl) (Or.inl (by kernel_rfl)) (by kernel_rfl) (by kernel_rfl)) (ev_cons (ev_var 1 (by kernel_rfl) (Or.inl (by kernel_rfl)) (by kernel_rfl) (by kernel_rfl)) ev_nil (by kernel_rfl)) (by kernel_rfl)) (by kernel_rfl) (by kernel_rfl) (by kernel_rfl) (len_cons (len_cons (fun _ _ _ _ h => len_nil h)))) (fun _ => (by kernel_rfl)))) (ev_bone
 (ev_raise 2 thr_cx hr.hd (gl_of (by kernel_rfl)) hX_NoCell.mg hX_NoCell.ex hX_NoCell.cl (ev_cons ev_str ev_nil (by kernel_rfl)) (by kernel_rfl) (by kernel_rfl) (by kernel_rfl))) ev_bnil))

abbrev N_in_threes : List Str := ["side"]
abbrev P_in_threes : List Str := ["side"]
theorem sc_in_threes : FnScope N_in_threes P_in_threes (defScope (top 25)) := ⟨rfl, rfl, rfl, by decide +kernel, rfl, by decide +kernel, by decide +kernel⟩
def B_in_threes : SM :=
 (retS (bin2 fdivD (bin2 addD (vr 0) (cst (.int 2))) (cst (.int 3))))
def F_in_threes : Fn := runF 1 B_in_threes
theorem ok_in_threes {P : Program} {w : World} {K : PySem.W.Frag} {mg : Str → Option Value} {base : Heap} {cl : Cls} (h : DefAt K mg "in_threes" (top 25) P_in_threes)  : Cal P w K mg base cl "in_threes" 1 1 F_in_threes :=
 def_ok h sc_in_threes rfl fun f cdv A outer s H E hr =>
 (ev_bone
 (ev_ret (ev_op op_fdivD (ev_op op_addD (ev_var 0 (by kernel_rfl) (Or.inl (by kernel_rfl)) (by kernel_rfl) (by kernel_rfl)) ev_int) ev_int)))

abbrev N_king_of : List Str := ["high", "wide", "cell", "row", "column"]
abbrev P_king_of : List Str := ["high", "wide", "cell"]
theorem sc_king_of : FnScope N_king_of P_king_of (defScope (top 29)) := ⟨rfl, rfl, rfl, by decide +kernel, rfl, by decide +kernel, by decide +kernel⟩
def B_king_of : SM :=
 (seqS (exprS (callE F_check_sizes (consA (vr 0) (consA (vr 1) nilA))))
 (seqS (exprS (callE F_check_cell (consA (tupE (consA (vr 0) (consA (vr 1) nilA))) (consA (vr 2) nilA))))
 (seqS (asgS (vr 2) (tupG 2 (consG (setG 3) (consG (setG 4) nilG))))
 (retS (bin2 addD (bin2 mulD (bin2 fdivD (vr 3) (cst (.int 3))) (callE F_in_threes (consA (vr 1) nilA))) (bin2 fdivD (vr 4) (cst (.int 3))))))))
def F_king_of : Fn := runF 5 B_king_of
theorem ok_king_of {P : Program} {w : World} {K : PySem.W.Frag} {mg : Str → Option Value} {base : Heap} {cl : Cls} (h : DefAt K mg "king_of" (top 29) P_king_of) (c_check_cell : Cal P w K mg base cl "check_cell" 3 2 F_check_cell) (c_check_sizes : Cal P w K mg base cl "check_sizes" 2 2 F_check_sizes) (c_in_threes : Cal P w K mg base cl "in_threes" 1 1 F_in_threes) : Cal P w K mg base cl "king_of" 4 3 F_king_of :=
 def_ok h sc_king_of rfl fun f cdv A outer s H E hr =>
 (ev_bcons
 (ev_expr (ev_callC c_check_sizes (Room.mono (j := 2) (k := 3) hr (by decide)) (gl_of (by kernel_rfl)) thr_cx rfl (ev_cons (ev_var 0 (by kernel_rfl) (Or.inl (by kernel_rfl)) (by kernel_rfl) (by kernel_rfl)) (ev_cons (ev_var 1 (by kernel_rfl) (Or.inl (by kernel_rfl)) (by kernel_rfl) (by kernel_rfl)) ev_nil (by kernel_rfl)) (by kernel_rfl)) (by kernel_rfl) (by kernel_rfl) (by kernel_rfl) (len_cons (len_cons (fun _ _ _ _ h => len_nil h)))) (by kernel_rfl)) (ev_bcons
 (ev_expr (ev_callC c_check_cell (Room.mono (j := 3) (k := 3) hr (by decide)) (gl_of (by kernel_rfl)) thr_cx rfl (ev_cons (ev_tup (ev_cons (ev_var 0 (by kernel_rfl) (Or.inl (by kernel_rfl)) (by kernel_rfl) (by kernel_rfl)) (ev_cons (ev_var 1 (by kernel_rfl) (Or.inl (by kernel_rfl)) (by kernel_rfl) (by kernel_rfl)) ev_nil (by kernel_rfl)) (by kernel_rfl))) (ev_cons (ev_var 2 (by kernel_rfl) (Or.inl (by kernel_rfl)) (by kernel_rfl) (by kernel_rfl)) ev_nil (by kernel_rfl)) (by kernel_rfl)) (by kernel_rfl) (by kernel_rfl) (by kernel_rfl) (len_cons (len_cons (fun _ _ _ _ h => len_nil h)))) (by kernel_rfl)) (ev_bcons
 (ev_asg (ev_var 2 (by kernel_rfl) (Or.inl (by kernel_rfl)) (by kernel_rfl) (by kernel_rfl)) (ev_gtup rfl (ev_gcons (ev_gname 3 sc_king_of.nd (by kernel_rfl) (Or.inl (by kernel_rfl)) (Or.inl rfl)) (ev_gcons (ev_gname 4 sc_king_of.nd (by kernel_rfl) (Or.inl (by kernel_rfl)) (Or.inl rfl)) ev_gnil (by kernel_rfl)) (by kernel_rfl)) (by kernel_rfl) (by kernel_rfl)) (by kernel_rfl) (by kernel_rfl) (by kernel_rfl)) (ev_bone
 (ev_ret (ev_op op_addD (ev_op op_mulD (ev_op op_fdivD (ev_var 3 (by kernel_rfl) (Or.inl (by kernel_rfl)) (by kernel_rfl) (by kernel_rfl)) ev_int) (ev_callC c_in_threes (Room.mono (j := 1) (k := 3) hr (by decide)) (gl_of (by kernel_rfl)) thr_cx rfl (ev_cons (ev_var 1 (by kernel_rfl) (Or.inl (by kernel_rfl)) (by kernel_rfl) (by kernel_rfl)) ev_nil (by kernel_rfl)) (by kernel_rfl) (by kernel_rfl) (by kernel_rfl) (len_cons (fun _ _ _ _ h => len_nil h)))) (ev_op op_fdivD (ev_var 4 (by kernel_rfl) (Or.inl (by kernel_rfl)) (by kernel_rfl) (by kernel_rfl)) ev_int)))))))

abbrev N_check_whole : List Str := ["number", "low", "high"]
abbrev P_check_whole : List Str := ["number", "low", "high"]
theorem sc_check_whole : FnScope N_check_whole P_check_whole (defScope (top 17)) := ⟨rfl, rfl, rfl, by decide +kernel, rfl, by decide +kernel, by decide +kernel⟩
def B_check_whole : SM :=
 (ifS (tnot (tb (callE F_is_whole (consA (vr 0) (consA (vr 1) (consA (vr 2) nilA)))))) (raiseS 5 (consA (joinE (consJ (cst (.str "the number is a whole one from ")) (consJ (un1 fmtD (vr 1)) (consJ (cst (.str " to ")) (consJ (un1 fmtD (vr 2)) nilJ))))) nilA)) nxS)
def F_check_whole : Fn := runF 3 B_check_whole
theorem ok_check_whole {P : Program} {w : World} {K : PySem.W.Frag} {mg : Str → Option Value} {base : Heap} {cl : Cls} (h : DefAt K mg "check_whole" (top 17) P_check_whole) (c_is_whole : Cal P w K mg base cl "is_whole" 1 3 F_is_whole) (hX_NoNumber : ExAt K mg cl "NoNumber" 5 (CA 5)) : Cal P w K mg base cl "check_whole" 2 3 F_check_whole :=
 def_ok h sc_check_whole rfl fun f cdv A outer s H E hr =>
 (ev_bone
 (ev_ifS (ev_tnot (ev_tval (ev_callC c_is_whole (Room.mono (j := 1) (k := 1) hr (by decide)) (gl_of (by kernel_rfl)) thr_cx rfl (ev_cons (ev_var 0 (by kernel_rfl) (Or.inl (by kernel_rfl)) (by kernel_rfl) (by kernel_rfl)) (ev_cons (ev_var 1 (by kernel_rfl) (Or.inl (by kernel_rfl)) (by kernel_rfl) (by kernel_rfl)) (ev_cons (ev_var 2 (by kernel_rfl) (Or.inl (by kernel_rfl)) (by kernel_rfl) (by kernel_rfl)) ev_nil (by kernel_rfl)) (by kernel_rfl)) (by kernel_rfl)) (by kernel_rfl) (by kernel_rfl) (by kernel_rfl) (len_cons (len_cons (len_cons (fun _ _ _ _ h => len_nil h))))) (fun _ => (by kernel_rfl)))) (ev_bone
 (ev_raise 5 thr_cx hr.hd (gl_of (by kernel_rfl)) hX_NoNumber.mg hX_NoNumber.ex hX_NoNumber.cl (ev_cons (ev_join (ev_jcons ev_str (ev_jcons (ev_fmt (ev_var 1 (by kernel_rfl) (Or.inl (by kernel_rfl)) (by kernel_rfl) (by kernel_rfl))) (ev_jcons ev_str (ev_jcons (ev_fmt (ev_var 2 (by kernel_rfl) (Or.inl (by kernel_rfl)) (by kernel_rfl) (by kernel_rfl))) ev_jnil (by kernel_rfl)) (by kernel_rfl)) (by kernel_rfl)) (by kernel_rfl)) (by kernel_rfl)) ev_nil (by kernel_rfl)) (by kernel_rfl) (by kernel_rfl) (by kernel_rfl))) ev_bnil))

abbrev N_middle_of : List Str := ["part", "side"]
abbrev P_middle_of : List Str := ["part", "side"]
theorem sc_middle_of : FnScope N_middle_of P_middle_of (defScope (top 27)) := ⟨rfl, rfl, rfl, by decide +kernel, rfl, by decide +kernel, by decide +kernel⟩
def B_middle_of : SM :=
 (retS (callE minD (consA (bin2 addD (bin2 mulD (cst (.int 3)) (vr 0)) (cst (.int 1))) (consA (bin2 subD (vr 1) (cst (.int 1))) nilA))))
def F_middle_of : Fn := runF 2 B_middle_of
theorem ok_middle_of {P : Program} {w : World} {K : PySem.W.Frag} {mg : Str → Option Value} {base : Heap} {cl : Cls} (h : DefAt K mg "middle_of" (top 27) P_middle_of) (hB : ∀ x ∈ bNames, mg x = none) : Cal P w K mg base cl "middle_of" 1 2 F_middle_of :=
 def_ok h sc_middle_of rfl fun f cdv A outer s H E hr =>
 (ev_bone
 (ev_ret (ev_callB (cl_min rfl) (gl_of (by kernel_rfl)) (hB "min" (by decide +kernel)) (by kernel_rfl) (ev_cons (ev_op op_addD (ev_op op_mulD ev_int (ev_var 0 (by kernel_rfl) (Or.inl (by kernel_rfl)) (by kernel_rfl) (by kernel_rfl))) ev_int) (ev_cons (ev_op op_subD (ev_var 1 (by kernel_rfl) (Or.inl (by kernel_rfl)) (by kernel_rfl) (by kernel_rfl)) ev_int) ev_nil (by kernel_rfl)) (by kernel_rfl)) (by decide +kernel) (by kernel_rfl) (by kernel_rfl) (by kernel_rfl))))

abbrev N_kings : List Str := ["high", "wide"]
abbrev P_kings : List Str := ["high", "wide"]
theorem sc_kings : FnScope N_kings P_kings (defScope (top 26)) := ⟨rfl, rfl, rfl, by decide +kernel, rfl, by decide +kernel, by decide +kernel⟩
def B_kings : SM :=
 (seqS (exprS (callE F_check_sizes (consA (vr 0) (consA (vr 1) nilA))))
 (retS (bin2 mulD (callE F_in_threes (consA (vr 0) nilA)) (callE F_in_threes (consA (vr 1) nilA)))))
def F_kings : Fn := runF 2 B_kings
theorem ok_kings {P : Program} {w : World} {K : PySem.W.Frag} {mg : Str → Option Value} {base : Heap} {cl : Cls} (h : DefAt K mg "kings" (top 26) P_kings) (c_check_sizes : Cal P w K mg base cl "check_sizes" 2 2 F_check_sizes) (c_in_threes : Cal P w K mg base cl "in_threes" 1 1 F_in_threes) : Cal P w K mg base cl "kings" 3 2 F_kings :=
 def_ok h sc_kings rfl fun f cdv A outer s H E hr =>
 (ev_bcons
 (ev_expr (ev_callC c_check_sizes (Room.mono (j := 2) (k := 2) hr (by decide)) (gl_of (by kernel_rfl)) thr_cx rfl (ev_cons (ev_var 0 (by kernel_rfl) (Or.inl (by kernel_rfl)) (by kernel_rfl) (by kernel_rfl)) (ev_cons (ev_var 1 (by kernel_rfl) (Or.inl (by kernel_rfl)) (by kernel_rfl) (by kernel_rfl)) ev_nil (by kernel_rfl)) (by kernel_rfl)) (by kernel_rfl) (by kernel_rfl) (by kernel_rfl) (len_cons (len_cons (fun _ _ _ _ h => len_nil h)))) (by kernel_rfl)) (ev_bone
 (ev_ret (ev_op op_mulD (ev_callC c_in_threes (Room.mono (j := 1) (k := 2) hr (by decide)) (gl_of (by kernel_rfl)) thr_cx rfl (ev_cons (ev_var 0 (by kernel_rfl) (Or.inl (by kernel_rfl)) (by kernel_rfl) (by kernel_rfl)) ev_nil (by kernel_rfl)) (by kernel_rfl) (by kernel_rfl) (by kernel_rfl) (len_cons (fun _ _ _ _ h => len_nil h))) (ev_callC c_in_threes (Room.mono (j := 1) (k := 2) hr (by decide)) (gl_of (by kernel_rfl)) thr_cx rfl (ev_cons (ev_var 1 (by kernel_rfl) (Or.inl (by kernel_rfl)) (by kernel_rfl) (by kernel_rfl)) ev_nil (by kernel_rfl)) (by kernel_rfl) (by kernel_rfl) (by kernel_rfl) (len_cons (fun _ _ _ _ h => len_nil h)))))))

abbrev N_king_at : List Str := ["high", "wide", "number", "part_row", "part_column"]
abbrev P_king_at : List Str := ["high", "wide", "number"]
theorem sc_king_at : FnScope N_king_at P_king_at (defScope (top 28)) := ⟨rfl, rfl, rfl, by decide +kernel, rfl, by decide +kernel, by decide +kernel⟩
def B_king_at : SM :=
 (seqS (exprS (callE F_check_whole (consA (vr 2) (consA (cst (.int 0)) (consA (bin2 subD (callE F_kings (consA (vr 0) (consA (vr 1) nilA))) (cst (.int 1))) nilA)))))
 (seqS (asgS (callE divmodD (consA (vr 2) (consA (callE F_in_threes (consA (vr 1) nilA)) nilA))) (tupG 2 (consG (setG 3) (consG (setG 4) nilG))))
 (retS (tupE (consA (callE F_middle_of (consA (vr 3) (consA (vr 0) nilA))) (consA (callE F_middle_of (consA (vr 4) (consA (vr 1) nilA))) nilA))))))
def F_king_at : Fn := runF 5 B_king_at
theorem ok_king_at {P : Program} {w : World} {K : PySem.W.Frag} {mg : Str → Option Value} {base : Heap} {cl : Cls} (h : DefAt K mg "king_at" (top 28) P_king_at) (hB : ∀ x ∈ bNames, mg x = none) (c_check_whole : Cal P w K mg base cl "check_whole" 2 3 F_check_whole) (c_in_threes : Cal P w K mg base cl "in_threes" 1 1 F_in_threes) (c_kings : Cal P w K mg base cl "kings" 3 2 F_kings) (c_middle_of : Cal P w K mg base cl "middle_of" 1 2 F_middle_of) : Cal P w K mg base cl "king_at" 4 3 F_king_at :=
 def_ok h sc_king_at rfl fun f cdv A outer s H E hr =>
 (ev_bcons
 (ev_expr (ev_callC c_check_whole (Room.mono (j := 2) (k := 3) hr (by decide)) (gl_of (by kernel_rfl)) thr_cx rfl (ev_cons (ev_var 2 (by kernel_rfl) (Or.inl (by kernel_rfl)) (by kernel_rfl) (by kernel_rfl)) (ev_cons ev_int (ev_cons (ev_op op_subD (ev_callC c_kings (Room.mono (j := 3) (k := 3) hr (by decide)) (gl_of (by kernel_rfl)) thr_cx rfl (ev_cons (ev_var 0 (by kernel_rfl) (Or.inl (by kernel_rfl)) (by kernel_rfl) (by kernel_rfl)) (ev_cons (ev_var 1 (by kernel_rfl) (Or.inl (by kernel_rfl)) (by kernel_rfl) (by kernel_rfl)) ev_nil (by kernel_rfl)) (by kernel_rfl)) (by kernel_rfl) (by kernel_rfl) (by kernel_rfl) (len_cons (len_cons (fun _ _ _ _ h => len_nil h)))) ev_int) ev_nil (by kernel_rfl)) (by kernel_rfl)) (by kernel_rfl)) (by kernel_rfl) (by kernel_rfl) (by kernel_rfl) (len_cons (len_cons (len_cons (fun _ _ _ _ h => len_nil h))))) (by kernel_rfl)) (ev_bcons
 (ev_asg (ev_callB cl_divmod (gl_of (by kernel_rfl)) (hB "divmod" (by decide +kernel)) (by kernel_rfl) (ev_cons (ev_var 2 (by kernel_rfl) (Or.inl (by kernel_rfl)) (by kernel_rfl) (by kernel_rfl)) (ev_cons (ev_callC c_in_threes (Room.mono (j := 1) (k := 3) hr (by decide)) (gl_of (by kernel_rfl)) thr_cx rfl (ev_cons (ev_var 1 (by kernel_rfl) (Or.inl (by kernel_rfl)) (by kernel_rfl) (by kernel_rfl)) ev_nil (by kernel_rfl)) (by kernel_rfl) (by kernel_rfl) (by kernel_rfl) (len_cons (fun _ _ _ _ h => len_nil h))) ev_nil (by kernel_rfl)) (by kernel_rfl)) (by decide +kernel) (by kernel_rfl) (by kernel_rfl) (by kernel_rfl)) (ev_gtup rfl (ev_gcons (ev_gname 3 sc_king_at.nd (by kernel_rfl) (Or.inl (by kernel_rfl)) (Or.inl rfl)) (ev_gcons (ev_gname 4 sc_king_at.nd (by kernel_rfl) (Or.inl (by kernel_rfl)) (Or.inl rfl)) ev_gnil (by kernel_rfl)) (by kernel_rfl)) (by kernel_rfl) (by kernel_rfl)) (by kernel_rfl) (by kernel_rfl) (by kernel_rfl)) (ev_bone
 (ev_ret (ev_tup (ev_cons (ev_callC c_middle_of (Room.mono (j := 1) (k := 3) hr (by decide)) (gl_of (by kernel_rfl)) thr_cx rfl (ev_cons (ev_var 3 (by kernel_rfl) (Or.inl (by kernel_rfl)) (by kernel_rfl) (by kernel_rfl)) (ev_cons (ev_var 0 (by kernel_rfl) (Or.inl (by kernel_rfl)) (by kernel_rfl) (by kernel_rfl)) ev_nil (by kernel_rfl)) (by kernel_rfl)) (by kernel_rfl) (by kernel_rfl) (by kernel_rfl) (len_cons (len_cons (fun _ _ _ _ h => len_nil h)))) (ev_cons (ev_callC c_middle_of (Room.mono (j := 1) (k := 3) hr (by decide)) (gl_of (by kernel_rfl)) thr_cx rfl (ev_cons (ev_var 4 (by kernel_rfl) (Or.inl (by kernel_rfl)) (by kernel_rfl) (by kernel_rfl)) (ev_cons (ev_var 1 (by kernel_rfl) (Or.inl (by kernel_rfl)) (by kernel_rfl) (by kernel_rfl)) ev_nil (by kernel_rfl)) (by kernel_rfl)) (by kernel_rfl) (by kernel_rfl) (by kernel_rfl) (len_cons (len_cons (fun _ _ _ _ h => len_nil h)))) ev_nil (by kernel_rfl)) (by kernel_rfl)))))))

abbrev N_law_said : List Str := ["_law_call", "_law_found", "e", "_law_marks", "_law_words"]
abbrev P_law_said : List Str := ["_law_call"]
theorem sc_law_said : FnScope N_law_said P_law_said (defScope (top 35)) := ⟨rfl, rfl, rfl, by decide +kernel, rfl, by decide +kernel, by decide +kernel⟩
def S_law_said (ea : Addr) (n : Nat) : SM :=
 (seqS (asgS (lstE (consA (callE (isxD ea (ansX n)) (consA (vr 2) (consA (cst (.kc (CA 0))) nilA))) (consA (callE (isxD ea (ansX n)) (consA (vr 2) (consA (cst (.kc (CA 1))) nilA))) (consA (callE (isxD ea (ansX n)) (consA (vr 2) (consA (cst (.kc (CA 2))) nilA))) (consA (callE (isxD ea (ansX n)) (consA (vr 2) (consA (cst (.kc (CA 3))) nilA))) nilA))))) (setG 3))
 (seqS (asgS (bin2 addD (vr 3) (lstE (consA (callE (isxD ea (ansX n)) (consA (vr 2) (consA (cst (.kc (CA 4))) nilA))) (consA (callE (isxD ea (ansX n)) (consA (vr 2) (consA (cst (.kc (CA 5))) nilA))) (consA (callE (isxD ea (ansX n)) (consA (vr 2) (consA (cst (.kc (CA 6))) nilA))) nilA))))) (setG 3))
 (seqS (asgS (bin2 addD (vr 3) (lstE (consA (callE (isxD ea (ansX n)) (consA (vr 2) (consA (cst (.kc (CA 7))) nilA))) (consA (callE (isxD ea (ansX n)) (consA (vr 2) (consA (cst (.kc (CA 8))) nilA))) (consA (callE (isxD ea (ansX n)) (consA (vr 2) (consA (cst (.kc (CA 9))) nilA))) nilA))))) (setG 3))
 (seqS (asgS (bin2 addD (vr 3) (lstE (consA (callE (isxD ea (ansX n)) (consA (vr 2) (consA (cst (.kc (CA 10))) nilA))) (consA (callE (isxD ea (ansX n)) (consA (vr 2) (consA (cst (.kc (CA 11))) nilA))) (consA (callE (isxD ea (ansX n)) (consA (vr 2) (consA (cst (.kc (CA 12))) nilA))) nilA))))) (setG 3))
 (seqS (ifS (tor (tnot (tb (callE (isxD ea (ansX n)) (consA (vr 2) (consA (cst (.ty "ValueError")) nilA))))) (tb (bin2 neD (mthE "list" countD (vr 3) (consA (cst (.bl true)) nilA)) (cst (.int 1))))) (retS (cst (.str "other"))) nxS)
 (seqS (ifS (tb (bin2 ixD (vr 3) (cst (.int 12)))) noneS nxS)
 (seqS (asgS (lstE (consA (cst (.str "board")) (consA (cst (.str "piece")) (consA (cst (.str "cell")) (consA (cst (.str "lot")) (consA (cst (.str "sight")) (consA (cst (.str "number")) (consA (cst (.str "prices")) (consA (cst (.str "turn")) (consA (cst (.str "placing")) (consA (cst (.str "text")) (consA (cst (.str "line")) nilA)))))))))))) (setG 4))
 (retS (bin2 ixD (bin2 addD (vr 4) (lstE (consA (cst (.str "deed")) nilA))) (mthE "list" indexD (vr 3) (consA (cst (.bl true)) nilA)))))))))))
theorem gapp (S T : Sto) (k : Nat) : (S ++ T)[S.length + k]? = T[k]? := by
  rw [List.getElem?_append_right (by omega)]
  congr 1; omega
theorem gapp0 (S T : Sto) : (S ++ T)[S.length]? = T[0]? := gapp S T 0
theorem said_isx (ea : Addr) (n j : Nat) (S : Sto) (hj : ansX n (CA j) = some (n == j)) : isxD ea (ansX n) [.kc ea, .kc (CA j)] S = some (.ok (.bl (n == j)), S) := by
  simp [isxD, hj]
theorem said_isv (ea : Addr) (n : Nat) (S : Sto) : isxD ea (ansX n) [.kc ea, .ty "ValueError"] S = some (.ok (.bl true), S) := by
  simp [isxD]
theorem ans_all : ∀ n ∈ XS, ∀ j, j < 13 → ansX n (CA j) = some (n == j) := by decide +kernel
theorem word0 (a ea : Addr) (S : Sto) : S_law_said ea 0 [some (.kc a), none, some (.kc ea), none, none] S = some (.ok (.rt (.str "board")), S ++ saidJ 0) := by
  have ha := ans_all 0 (by decide)
  have i0 := fun S => said_isx ea 0 0 S (ha 0 (by decide))
  have i1 := fun S => said_isx ea 0 1 S (ha 1 (by decide))
  have i2 := fun S => said_isx ea 0 2 S (ha 2 (by decide))
  have i3 := fun S => said_isx ea 0 3 S (ha 3 (by decide))
  have i4 := fun S => said_isx ea 0 4 S (ha 4 (by decide))
  have i5 := fun S => said_isx ea 0 5 S (ha 5 (by decide))
  have i6 := fun S => said_isx ea 0 6 S (ha 6 (by decide))
  have i7 := fun S => said_isx ea 0 7 S (ha 7 (by decide))
  have i8 := fun S => said_isx ea 0 8 S (ha 8 (by decide))
  have i9 := fun S => said_isx ea 0 9 S (ha 9 (by decide))
  have i10 := fun S => said_isx ea 0 10 S (ha 10 (by decide))
  have i11 := fun S => said_isx ea 0 11 S (ha 11 (by decide))
  have i12 := fun S => said_isx ea 0 12 S (ha 12 (by decide))
  have iv := fun S => said_isv ea 0 S
  unfold S_law_said
  generalize isxD ea (ansX 0) = isx at i0 i1 i2 i3 i4 i5 i6 i7 i8 i9 i10 i11 i12 iv ⊢
  generalize CA = ca at *
  simp [seqS, asgS, retS, ifS, vr, cst, callE, consA, nilA, bin2, tb, tnot, tor, setG, lstE, nxS, mthE, i0, i1, i2, i3, i4, i5, i6, i7, i8, i9, i10, i11, i12, iv, addD, gapp, gapp0, tyOk, countD, blsOf, neD, eqS, ixD, atI, ixN, indexD, noneS, List.findIdx?, List.findIdx?.go, List.countP, List.countP.go]
  rfl
theorem word2 (a ea : Addr) (S : Sto) : S_law_said ea 2 [some (.kc a), none, some (.kc ea), none, none] S = some (.ok (.rt (.str "cell")), S ++ saidJ 2) := by
  have ha := ans_all 2 (by decide)
  have i0 := fun S => said_isx ea 2 0 S (ha 0 (by decide))
  have i1 := fun S => said_isx ea 2 1 S (ha 1 (by decide))
  have i2 := fun S => said_isx ea 2 2 S (ha 2 (by decide))
  have i3 := fun S => said_isx ea 2 3 S (ha 3 (by decide))
  have i4 := fun S => said_isx ea 2 4 S (ha 4 (by decide))
  have i5 := fun S => said_isx ea 2 5 S (ha 5 (by decide))
  have i6 := fun S => said_isx ea 2 6 S (ha 6 (by decide))
  have i7 := fun S => said_isx ea 2 7 S (ha 7 (by decide))
  have i8 := fun S => said_isx ea 2 8 S (ha 8 (by decide))
  have i9 := fun S => said_isx ea 2 9 S (ha 9 (by decide))
  have i10 := fun S => said_isx ea 2 10 S (ha 10 (by decide))
  have i11 := fun S => said_isx ea 2 11 S (ha 11 (by decide))
  have i12 := fun S => said_isx ea 2 12 S (ha 12 (by decide))
  have iv := fun S => said_isv ea 2 S
  unfold S_law_said
  generalize isxD ea (ansX 2) = isx at i0 i1 i2 i3 i4 i5 i6 i7 i8 i9 i10 i11 i12 iv ⊢
  generalize CA = ca at *
  simp [seqS, asgS, retS, ifS, vr, cst, callE, consA, nilA, bin2, tb, tnot, tor, setG, lstE, nxS, mthE, i0, i1, i2, i3, i4, i5, i6, i7, i8, i9, i10, i11, i12, iv, addD, gapp, gapp0, tyOk, countD, blsOf, neD, eqS, ixD, atI, ixN, indexD, noneS, List.findIdx?, List.findIdx?.go, List.countP, List.countP.go]
  rfl
theorem word5 (a ea : Addr) (S : Sto) : S_law_said ea 5 [some (.kc a), none, some (.kc ea), none, none] S = some (.ok (.rt (.str "number")), S ++ saidJ 5) := by
  have ha := ans_all 5 (by decide)
  have i0 := fun S => said_isx ea 5 0 S (ha 0 (by decide))
  have i1 := fun S => said_isx ea 5 1 S (ha 1 (by decide))
  have i2 := fun S => said_isx ea 5 2 S (ha 2 (by decide))
  have i3 := fun S => said_isx ea 5 3 S (ha 3 (by decide))
  have i4 := fun S => said_isx ea 5 4 S (ha 4 (by decide))
  have i5 := fun S => said_isx ea 5 5 S (ha 5 (by decide))
  have i6 := fun S => said_isx ea 5 6 S (ha 6 (by decide))
  have i7 := fun S => said_isx ea 5 7 S (ha 7 (by decide))
  have i8 := fun S => said_isx ea 5 8 S (ha 8 (by decide))
  have i9 := fun S => said_isx ea 5 9 S (ha 9 (by decide))
  have i10 := fun S => said_isx ea 5 10 S (ha 10 (by decide))
  have i11 := fun S => said_isx ea 5 11 S (ha 11 (by decide))
  have i12 := fun S => said_isx ea 5 12 S (ha 12 (by decide))
  have iv := fun S => said_isv ea 5 S
  unfold S_law_said
  generalize isxD ea (ansX 5) = isx at i0 i1 i2 i3 i4 i5 i6 i7 i8 i9 i10 i11 i12 iv ⊢
  generalize CA = ca at *
  simp [seqS, asgS, retS, ifS, vr, cst, callE, consA, nilA, bin2, tb, tnot, tor, setG, lstE, nxS, mthE, i0, i1, i2, i3, i4, i5, i6, i7, i8, i9, i10, i11, i12, iv, addD, gapp, gapp0, tyOk, countD, blsOf, neD, eqS, ixD, atI, ixN, indexD, noneS, List.findIdx?, List.findIdx?.go, List.countP, List.countP.go]
  rfl
theorem said_word (a ea : Addr) (n : Nat) (x : Str) (S : Sto) (hw : saidW n = some x) : S_law_said ea n [some (.kc a), none, some (.kc ea), none, none] S = some (.ok (.rt (.str x)), S ++ saidJ n) := by
  have hn := saidW_in hw
  simp only [XS, List.mem_cons, List.not_mem_nil, or_false] at hn
  rcases hn with rfl | rfl | rfl
  · rw [show saidW 0 = some "board" by decide +kernel] at hw
    cases hw
    exact word0 a ea S
  · rw [show saidW 2 = some "cell" by decide +kernel] at hw
    cases hw
    exact word2 a ea S
  · rw [show saidW 5 = some "number" by decide +kernel] at hw
    cases hw
    exact word5 a ea S
structure SaidF (K : PySem.W.Frag) (mg : Str → Option Value) (cl : Cls) : Prop where
  sight : mg "SightError" = some (.ref SIGHT)
  m_NoBoard : mg "NoBoard" = some (.ref (CA 0))
  m_NoPiece : mg "NoPiece" = some (.ref (CA 1))
  m_NoCell : mg "NoCell" = some (.ref (CA 2))
  m_NoLot : mg "NoLot" = some (.ref (CA 3))
  m_NoSight : mg "NoSight" = some (.ref (CA 4))
  m_NoNumber : mg "NoNumber" = some (.ref (CA 5))
  m_NoPrices : mg "NoPrices" = some (.ref (CA 6))
  m_NoTurn : mg "NoTurn" = some (.ref (CA 7))
  m_NoPlacing : mg "NoPlacing" = some (.ref (CA 8))
  m_NoText : mg "NoText" = some (.ref (CA 9))
  m_NoLine : mg "NoLine" = some (.ref (CA 10))
  m_NoDeed : mg "NoDeed" = some (.ref (CA 11))
  m_TooGreat : mg "TooGreat" = some (.ref (CA 12))
  cl : ∀ n ∈ XS, cl n = .ref (CA n)
  exk : ∀ n ∈ XS, ExcK K (CA n)
  kit : ∀ n ∈ XS, ∀ j < 13, PySem.W.kitOne K (.ref (CA n)) (.ref (CA j)) = some (n == j)
  kitv : ∀ n ∈ XS, PySem.W.kitOne K (.ref (CA n)) (.type "ValueError") = some true
  exm : ∀ n ∈ XS, PySem.W.exmOne K (.ref (CA n)) (.ref SIGHT) = some true
theorem saidX_rule {X : Cx} {cl : Cls} {k iv : Nat} {pr : Nat → Arguments} {bd : Nat → Expr} {sc : Nat → Scope} {fbs : Nat → Option EM} {y : Str} {vs : List Nat} {np pos py : Pos} {bsc : Scope} (D : DefAt X.K X.mg "_law_said" (top 35) P_law_said) (Z : SaidF X.K X.mg cl) (hB : ∀ x ∈ bNames, X.mg x = none) (hr : Room (k + 2) X.A)
    (hclo : ∀ k c o, Clos.clo k c o → ∃ ctv, o = lamObj X (pr k) (bd k) (sc k) c ctv) (hq : ∀ k, Clos.q k = X.env.qual ++ "<lambda>")
    (hL : ∀ k fb, fbs k = some fb → LamScope X (sc k)) (hbind : ∀ k fb, fbs k = some fb → ∀ cs pm cdv ct, bindArgs (PySem.W.kla_fn "<lambda>" (X.env.qual ++ "<lambda>") (pr k) (bd k) (sc k) cs pm cdv ct) ⟨[], []⟩ = pure [])
    (hdis : ∀ k fb, fbs k = some fb → ∀ i ∈ vs, ∀ x, X.N[i]? = some x → (sc k).names.lookup x ≠ some .free)
    (hb : ∀ k fb, fbs k = some fb → ∀ (fs : Addr) (cd2 : Value) (s1 s2 : Shared) (H1 : Hp) (E2 E3 : XK) (a c' : Addr), EvE (lamCx (saidCx X saidN "_law_said" (defScope (top 35)) fs cd2 s1 H1 E2) X.N (X.env.qual ++ "<lambda>") (sc k) a c' (cloFrom X.env.cells (sc k).names []) s2 H1 E3) cl E3 (bd k) fb)
    (hfn : ∀ x, X.fn x = true) (hy : X.N[iv]? = some y) (hdb : (y == ("__debug__" : Str)) = false) (hcd : (y == ("__classdict__" : Str)) = false)
    (hg : (relabel bsc X.env).names.lookup ("_law_said" : Str) = some .globalImplicit) (hvis : Vis (relabel bsc X.env) y) (hs : ∀ env, starEach [Expr.Name y py] env = [(false, eval (.Name y py) env)]) :
    ∀ (s : Shared) (H : Hp) (C : Addr) (c : List (Str × Addr)) (fp : List Addr) (pins0 : List (Addr × Obj)) (σ0 : L2.St), Inv X pins0 σ0 H s → (∀ b ∈ fp, ∀ x c, X.env.cells.lookup x = some c → c ≠ b) → PEw (X.blk s H bsc (compEnvC bsc c C X.env) fp) vs (wipe σ0 vs) (.Call (.Name "_law_said" np) [.Name y py] [] pos) (tr X.K cl XF (saidX saidW saidJ fbs iv)) := by
  obtain ⟨fs, fd, F, hm, hbn⟩ := D.ex
  have T : SaidT (top 35) _ _ _ _ _ ⟨0, 0, 0, 0⟩ _ _ _ _ _ := ⟨rfl⟩
  refine ev_saidX (word := saidW) (junk := saidJ) (fS := S_law_said) F T sc_law_said hr hm hbn (by kernel_rfl) Z.sight (fun n x hw => ?_) (by decide +kernel) (fun _ => (by kernel_rfl)) (fun cd2 s1 H1 E2 => ?_) (fun cd2 s1 H1 E2 ea ob n x hw hcls => ?_) said_word hclo hq hL hbind hdis (fun k fb h => hb k fb h fs) hfn hy hdb hcd hg hvis hs
  · rw [Z.cl n (saidW_in hw)]
    exact Z.exm n (saidW_in hw)
  · exact (ev_bone (ev_ret (ev_tup (ev_cons ev_str (ev_cons (ev_var 1 (by kernel_rfl) (Or.inl (by kernel_rfl)) (by kernel_rfl) (by kernel_rfl)) ev_nil (by kernel_rfl)) (by kernel_rfl)))))
  · have hin := saidW_in hw
    have hr2 : Room (k + 1) (saidCx X saidN "_law_said" (defScope (top 35)) fs cd2 s1 H1 E2).A := hr.deeper _
    have hisx : ClD (hanCx (saidCx X saidN "_law_said" (defScope (top 35)) fs cd2 s1 H1 E2) ea [(ea, ob)]) (.builtin "isinstance") (isxD ea (ansX n)) := cl_isx (C := CA n) (by simp [hanCx]) (hcls.trans (Z.cl n hin)) (Z.exk n hin) (fun c b hc => by
      obtain ⟨j, hj, rfl, rfl⟩ := ansX_some hc
      exact Z.kit n hin j hj) (Z.kitv n hin)
    exact (ev_bcons
 (ev_set 3 sc_law_said.nd (by kernel_rfl) (Or.inl (by kernel_rfl)) (ev_lst (ev_cons (ev_callB hisx (gl_of (by kernel_rfl)) (hB "isinstance" (by decide +kernel)) (by kernel_rfl) (ev_cons (ev_var 2 (by kernel_rfl) (Or.inl (by kernel_rfl)) (by kernel_rfl) (by kernel_rfl)) (ev_cons (ev_cls (gl_of (by kernel_rfl)) Z.m_NoBoard (by kernel_rfl)) ev_nil (by kernel_rfl)) (by kernel_rfl)) (by decide +kernel) (by kernel_rfl) (by kernel_rfl) (by kernel_rfl)) (ev_cons (ev_callB hisx (gl_of (by kernel_rfl)) (hB "isinstance" (by decide +kernel)) (by kernel_rfl) (ev_cons (ev_var 2 (by kernel_rfl) (Or.inl (by kernel_rfl)) (by kernel_rfl) (by kernel_rfl)) (ev_cons (ev_cls (gl_of (by kernel_rfl)) Z.m_NoPiece (by kernel_rfl)) ev_nil (by kernel_rfl)) (by kernel_rfl)) (by decide +kernel) (by kernel_rfl) (by kernel_rfl) (by kernel_rfl)) (ev_cons (ev_callB hisx (gl_of (by kernel_rfl)) (hB "isinstance" (by decide +kernel)) (by kernel_rfl) (ev_cons (ev_var 2 (by kernel_rfl) (Or.inl (by kernel_rfl)) (by kernel_rfl) (by kernel_rfl)) (ev_cons (ev_cls (gl_of (by kernel_rfl)) Z.m_NoCell (by kernel_rfl)) ev_nil (by kernel_rfl)) (by kernel_rfl)) (by decide +kernel) (by kernel_rfl) (by kernel_rfl) (by kernel_rfl)) (ev_cons (ev_callB hisx (gl_of (by kernel_rfl)) (hB "isinstance" (by decide +kernel)) (by kernel_rfl) (ev_cons (ev_var 2 (by kernel_rfl) (Or.inl (by kernel_rfl)) (by kernel_rfl) (by kernel_rfl)) (ev_cons (ev_cls (gl_of (by kernel_rfl)) Z.m_NoLot (by kernel_rfl)) ev_nil (by kernel_rfl)) (by kernel_rfl)) (by decide +kernel) (by kernel_rfl) (by kernel_rfl) (by kernel_rfl)) ev_nil (by kernel_rfl)) (by kernel_rfl)) (by kernel_rfl)) (by kernel_rfl))) (by kernel_rfl) (Or.inl rfl)) (ev_bcons
 (ev_set 3 sc_law_said.nd (by kernel_rfl) (Or.inl (by kernel_rfl)) (ev_op op_addD (ev_var 3 (by kernel_rfl) (Or.inl (by kernel_rfl)) (by kernel_rfl) (by kernel_rfl)) (ev_lst (ev_cons (ev_callB hisx (gl_of (by kernel_rfl)) (hB "isinstance" (by decide +kernel)) (by kernel_rfl) (ev_cons (ev_var 2 (by kernel_rfl) (Or.inl (by kernel_rfl)) (by kernel_rfl) (by kernel_rfl)) (ev_cons (ev_cls (gl_of (by kernel_rfl)) Z.m_NoSight (by kernel_rfl)) ev_nil (by kernel_rfl)) (by kernel_rfl)) (by decide +kernel) (by kernel_rfl) (by kernel_rfl) (by kernel_rfl)) (ev_cons (ev_callB hisx (gl_of (by kernel_rfl)) (hB "isinstance" (by decide +kernel)) (by kernel_rfl) (ev_cons (ev_var 2 (by kernel_rfl) (Or.inl (by kernel_rfl)) (by kernel_rfl) (by kernel_rfl)) (ev_cons (ev_cls (gl_of (by kernel_rfl)) Z.m_NoNumber (by kernel_rfl)) ev_nil (by kernel_rfl)) (by kernel_rfl)) (by decide +kernel) (by kernel_rfl) (by kernel_rfl) (by kernel_rfl)) (ev_cons (ev_callB hisx (gl_of (by kernel_rfl)) (hB "isinstance" (by decide +kernel)) (by kernel_rfl) (ev_cons (ev_var 2 (by kernel_rfl) (Or.inl (by kernel_rfl)) (by kernel_rfl) (by kernel_rfl)) (ev_cons (ev_cls (gl_of (by kernel_rfl)) Z.m_NoPrices (by kernel_rfl)) ev_nil (by kernel_rfl)) (by kernel_rfl)) (by decide +kernel) (by kernel_rfl) (by kernel_rfl) (by kernel_rfl)) ev_nil (by kernel_rfl)) (by kernel_rfl)) (by kernel_rfl)))) (by kernel_rfl) (Or.inl rfl)) (ev_bcons
 (ev_set 3 sc_law_said.nd (by kernel_rfl) (Or.inl (by kernel_rfl)) (ev_op op_addD (ev_var 3 (by kernel_rfl) (Or.inl (by kernel_rfl)) (by kernel_rfl) (by kernel_rfl)) (ev_lst (ev_cons (ev_callB hisx (gl_of (by kernel_rfl)) (hB "isinstance" (by decide +kernel)) (by kernel_rfl) (ev_cons (ev_var 2 (by kernel_rfl) (Or.inl (by kernel_rfl)) (by kernel_rfl) (by kernel_rfl)) (ev_cons (ev_cls (gl_of (by kernel_rfl)) Z.m_NoTurn (by kernel_rfl)) ev_nil (by kernel_rfl)) (by kernel_rfl)) (by decide +kernel) (by kernel_rfl) (by kernel_rfl) (by kernel_rfl)) (ev_cons (ev_callB hisx (gl_of (by kernel_rfl)) (hB "isinstance" (by decide +kernel)) (by kernel_rfl) (ev_cons (ev_var 2 (by kernel_rfl) (Or.inl (by kernel_rfl)) (by kernel_rfl) (by kernel_rfl)) (ev_cons (ev_cls (gl_of (by kernel_rfl)) Z.m_NoPlacing (by kernel_rfl)) ev_nil (by kernel_rfl)) (by kernel_rfl)) (by decide +kernel) (by kernel_rfl) (by kernel_rfl) (by kernel_rfl)) (ev_cons (ev_callB hisx (gl_of (by kernel_rfl)) (hB "isinstance" (by decide +kernel)) (by kernel_rfl) (ev_cons (ev_var 2 (by kernel_rfl) (Or.inl (by kernel_rfl)) (by kernel_rfl) (by kernel_rfl)) (ev_cons (ev_cls (gl_of (by kernel_rfl)) Z.m_NoText (by kernel_rfl)) ev_nil (by kernel_rfl)) (by kernel_rfl)) (by decide +kernel) (by kernel_rfl) (by kernel_rfl) (by kernel_rfl)) ev_nil (by kernel_rfl)) (by kernel_rfl)) (by kernel_rfl)))) (by kernel_rfl) (Or.inl rfl)) (ev_bcons
 (ev_set 3 sc_law_said.nd (by kernel_rfl) (Or.inl (by kernel_rfl)) (ev_op op_addD (ev_var 3 (by kernel_rfl) (Or.inl (by kernel_rfl)) (by kernel_rfl) (by kernel_rfl)) (ev_lst (ev_cons (ev_callB hisx (gl_of (by kernel_rfl)) (hB "isinstance" (by decide +kernel)) (by kernel_rfl) (ev_cons (ev_var 2 (by kernel_rfl) (Or.inl (by kernel_rfl)) (by kernel_rfl) (by kernel_rfl)) (ev_cons (ev_cls (gl_of (by kernel_rfl)) Z.m_NoLine (by kernel_rfl)) ev_nil (by kernel_rfl)) (by kernel_rfl)) (by decide +kernel) (by kernel_rfl) (by kernel_rfl) (by kernel_rfl)) (ev_cons (ev_callB hisx (gl_of (by kernel_rfl)) (hB "isinstance" (by decide +kernel)) (by kernel_rfl) (ev_cons (ev_var 2 (by kernel_rfl) (Or.inl (by kernel_rfl)) (by kernel_rfl) (by kernel_rfl)) (ev_cons (ev_cls (gl_of (by kernel_rfl)) Z.m_NoDeed (by kernel_rfl)) ev_nil (by kernel_rfl)) (by kernel_rfl)) (by decide +kernel) (by kernel_rfl) (by kernel_rfl) (by kernel_rfl)) (ev_cons (ev_callB hisx (gl_of (by kernel_rfl)) (hB "isinstance" (by decide +kernel)) (by kernel_rfl) (ev_cons (ev_var 2 (by kernel_rfl) (Or.inl (by kernel_rfl)) (by kernel_rfl) (by kernel_rfl)) (ev_cons (ev_cls (gl_of (by kernel_rfl)) Z.m_TooGreat (by kernel_rfl)) ev_nil (by kernel_rfl)) (by kernel_rfl)) (by decide +kernel) (by kernel_rfl) (by kernel_rfl) (by kernel_rfl)) ev_nil (by kernel_rfl)) (by kernel_rfl)) (by kernel_rfl)))) (by kernel_rfl) (Or.inl rfl)) (ev_bcons
 (ev_ifS (ev_tw (ev_wor (ev_tnot (ev_tval (ev_callB hisx (gl_of (by kernel_rfl)) (hB "isinstance" (by decide +kernel)) (by kernel_rfl) (ev_cons (ev_var 2 (by kernel_rfl) (Or.inl (by kernel_rfl)) (by kernel_rfl) (by kernel_rfl)) (ev_cons (ev_bltn (gl_of (by kernel_rfl)) (hB "ValueError" (by decide +kernel)) (by kernel_rfl) (by decide +kernel) (by kernel_rfl)) ev_nil (by kernel_rfl)) (by kernel_rfl)) (by decide +kernel) (by kernel_rfl) (by kernel_rfl) (by kernel_rfl)) (fun _ => (by kernel_rfl)))) (ev_wor1 (ev_tcmp (op_neDD hr2.units) (ev_meth mt_countD PySem.F.plainAttrs_list PySem.F.slot_list_count PySem.F.type_list_count (ev_var 3 (by kernel_rfl) (Or.inl (by kernel_rfl)) (by kernel_rfl) (by kernel_rfl)) (ev_cons ev_bl ev_nil (by kernel_rfl)) (by kernel_rfl) (by kernel_rfl) (by kernel_rfl) (by kernel_rfl) (by kernel_rfl)) ev_int (by kernel_rfl))))) (ev_bone
 (ev_ret ev_str)) ev_bnil) (ev_bcons
 (ev_ifS (ev_tval (ev_ix ix_D (ev_var 3 (by kernel_rfl) (Or.inl (by kernel_rfl)) (by kernel_rfl) (by kernel_rfl)) ev_int (fun _ _ => (by kernel_rfl))) (fun _ => (by kernel_rfl))) ev_never ev_bnil) (ev_bcons
 (ev_set 4 sc_law_said.nd (by kernel_rfl) (Or.inl (by kernel_rfl)) (ev_lst (ev_cons ev_str (ev_cons ev_str (ev_cons ev_str (ev_cons ev_str (ev_cons ev_str (ev_cons ev_str (ev_cons ev_str (ev_cons ev_str (ev_cons ev_str (ev_cons ev_str (ev_cons ev_str ev_nil (by kernel_rfl)) (by kernel_rfl)) (by kernel_rfl)) (by kernel_rfl)) (by kernel_rfl)) (by kernel_rfl)) (by kernel_rfl)) (by kernel_rfl)) (by kernel_rfl)) (by kernel_rfl)) (by kernel_rfl))) (by kernel_rfl) (Or.inl rfl)) (ev_bone
 (ev_ret (ev_ix ix_D (ev_op op_addD (ev_var 4 (by kernel_rfl) (Or.inl (by kernel_rfl)) (by kernel_rfl) (by kernel_rfl)) (ev_lst (ev_cons ev_str ev_nil (by kernel_rfl)))) (ev_meth mt_indexD PySem.F.plainAttrs_list PySem.F.slot_list_index PySem.F.type_list_index (ev_var 3 (by kernel_rfl) (Or.inl (by kernel_rfl)) (by kernel_rfl) (by kernel_rfl)) (ev_cons ev_bl ev_nil (by kernel_rfl)) (by kernel_rfl) (by kernel_rfl) (by kernel_rfl) (by kernel_rfl) (by kernel_rfl)) (fun _ _ => (by kernel_rfl))))))))))))

abbrev N_law_none_right : List Str := ["_law_state_here", "_law_high", "_law_wide", "_law_cell", "_law_odd", "_law_many", "_law_number", "_law_wrong", "_law_calls", "_law_row", "_law_column", "_law_call"]
abbrev P_law_none_right : List Str := ["_law_state_here", "_law_high", "_law_wide", "_law_cell"]
theorem sc_law_none_right : FnScope N_law_none_right P_law_none_right (defScope (top 37)) := ⟨rfl, rfl, rfl, by decide +kernel, rfl, by decide +kernel, by decide +kernel⟩
def fb_law_none_right_0 : EM := (callE F_kings (consA (vr 4) (consA (vr 2) nilA)))
def fb_law_none_right_1 : EM := (callE F_kings (consA (vr 1) (consA (vr 4) nilA)))
def fb_law_none_right_2 : EM := (callE F_king_at (consA (vr 4) (consA (vr 2) (consA (vr 6) nilA))))
def fb_law_none_right_3 : EM := (callE F_king_at (consA (vr 1) (consA (vr 4) (consA (cst (.int 0)) nilA))))
def fb_law_none_right_4 : EM := (callE F_king_of (consA (vr 4) (consA (vr 4) (consA (vr 7) nilA))))
def fb_law_none_right_5 : EM := (callE F_king_of (consA (vr 1) (consA (vr 4) (consA (vr 3) nilA))))
def fb_law_none_right_6 : EM := (callE F_king_at (consA (vr 1) (consA (vr 2) (consA (vr 6) nilA))))
def fb_law_none_right_7 : EM := (callE F_king_of (consA (vr 1) (consA (vr 2) (consA (vr 7) nilA))))
def FB_law_none_right : Nat → Option EM
  | 0 => some fb_law_none_right_0
  | 1 => some fb_law_none_right_1
  | 2 => some fb_law_none_right_2
  | 3 => some fb_law_none_right_3
  | 4 => some fb_law_none_right_4
  | 5 => some fb_law_none_right_5
  | 6 => some fb_law_none_right_6
  | 7 => some fb_law_none_right_7
  | _ => none
def B_law_none_right : SM :=
 (seqS (asgS (bin2 ixD (lstE (consA (cst (.int 0)) (consA (un1 negD (cst (.int 1))) (consA (bin2 addD (bin2 powD (cst (.int 10)) (cst (.int 9))) (cst (.int 1))) (consA (bin2 powD (cst (.int 10)) (cst (.int 29))) (consA (cst (.bl true)) (consA (cst .non) (consA (cst (.str "3")) (consA (tupE (consA (cst (.int 3)) nilA)) nilA))))))))) (callE F_law_choice (consA (vr 0) (consA (cst (.int 8)) nilA)))) (setG 4))
 (seqS (asgS (callE F_kings (consA (vr 1) (consA (vr 2) nilA))) (setG 5))
 (seqS (asgS (bin2 ixD (lstE (consA (un1 negD (cst (.int 1))) (consA (vr 5) (consA (bin2 addD (vr 5) (bin2 powD (cst (.int 10)) (cst (.int 9)))) (consA (cst (.bl true)) (consA (cst .non) (consA (cst (.str "0")) nilA))))))) (callE F_law_choice (consA (vr 0) (consA (cst (.int 6)) nilA)))) (setG 6))
 (seqS (asgS (vr 3) (tupG 2 (consG (setG 9) (consG (setG 10) nilG))))
 (seqS (asgS (bin2 ixD (lstE (consA (tupE (consA (un1 negD (cst (.int 1))) (consA (vr 10) nilA))) (consA (tupE (consA (vr 1) (consA (vr 10) nilA))) (consA (tupE (consA (vr 9) (consA (vr 2) nilA))) (consA (lstE (consA (vr 9) (consA (vr 10) nilA))) (consA (cst .non) (consA (vr 9) (consA (tupE (consA (vr 9) nilA)) nilA)))))))) (callE F_law_choice (consA (vr 0) (consA (cst (.int 7)) nilA)))) (setG 7))
 (seqS (asgS (lstE (consA (cloE 0) nilA)) (setG 8))
 (seqS (exprS (mthE "list" appendD (vr 8) (consA (cloE 1) nilA)))
 (seqS (exprS (mthE "list" appendD (vr 8) (consA (cloE 2) nilA)))
 (seqS (exprS (mthE "list" appendD (vr 8) (consA (cloE 3) nilA)))
 (seqS (exprS (mthE "list" appendD (vr 8) (consA (cloE 4) nilA)))
 (seqS (exprS (mthE "list" appendD (vr 8) (consA (cloE 5) nilA)))
 (seqS (exprS (mthE "list" appendD (vr 8) (consA (cloE 6) nilA)))
 (seqS (exprS (mthE "list" appendD (vr 8) (consA (cloE 7) nilA)))
 (retS (bin2 eqD (cmpE (seqI (vr 8)) [11] (setG 11) yesT (saidX saidW saidJ FB_law_none_right 11)) (bin2 addD (bin2 mulD (lstE (consA (cst (.str "board")) nilA)) (cst (.int 6))) (lstE (consA (cst (.str "number")) (consA (cst (.str "cell")) nilA)))))))))))))))))))
def F_law_none_right : Fn := runFB 12 B_law_none_right
theorem ok_law_none_right {P : Program} {w : World} {K : PySem.W.Frag} {mg : Str → Option Value} {base : Heap} {cl : Cls} (h : DefAtC K mg "_law_none_right" (top 37) P_law_none_right CODE_law_none_right) (hB : ∀ x ∈ bNames, mg x = none) (c_law_choice : ∀ J : Clos, Cal P w K mg base cl "_law_choice" 1 2 F_law_choice) (c_king_at : ∀ J : Clos, Cal P w K mg base cl "king_at" 4 3 F_king_at) (c_king_of : ∀ J : Clos, Cal P w K mg base cl "king_of" 4 3 F_king_of) (c_kings : ∀ J : Clos, Cal P w K mg base cl "kings" 3 2 F_kings) (hDs : DefAt K mg "_law_said" (top 35) P_law_said) (Z : SaidF K mg cl) (hbm : BMod base mg) (hhd : PySem.W.codeHdIn K CODE_law_none_right TAB_law_none_right = true) (hT : ((TAB_law_none_right, (("_law_none_right.<locals>." : Str) ++ ("<lambda>" : Str))) : Addr × Str) ∈ Tabs.tl) : Cal P w K mg base cl "_law_none_right" 7 4 F_law_none_right :=
 def_okB (lamP (top 37)) (lamBd (top 37)) (lamSc (top 37)) h sc_law_none_right rfl fun f A outer s H E J hq hJ hr =>
 (ev_bcons
 (ev_set 4 sc_law_none_right.nd (by kernel_rfl) (Or.inr (by kernel_rfl)) (ev_ix ix_D (ev_lst (ev_cons ev_int (ev_cons (ev_un op_negD ev_int) (ev_cons (ev_op op_addD (ev_op op_powD ev_int ev_int) ev_int) (ev_cons (ev_op op_powD ev_int ev_int) (ev_cons ev_bl (ev_cons ev_non (ev_cons ev_str (ev_cons (ev_tup (ev_cons ev_int ev_nil (by kernel_rfl))) ev_nil (by kernel_rfl)) (by kernel_rfl)) (by kernel_rfl)) (by kernel_rfl)) (by kernel_rfl)) (by kernel_rfl)) (by kernel_rfl)) (by kernel_rfl))) (ev_callC (c_law_choice _) (Room.mono (j := 1) (k := 6) hr (by decide)) (gl_of (by kernel_rfl)) thr_cx rfl (ev_cons (ev_var 0 (by kernel_rfl) (Or.inl (by kernel_rfl)) (by kernel_rfl) (by kernel_rfl)) (ev_cons ev_int ev_nil (by kernel_rfl)) (by kernel_rfl)) (by kernel_rfl) (by kernel_rfl) (by kernel_rfl) (len_cons (len_cons (fun _ _ _ _ h => len_nil h)))) (fun _ _ => (by kernel_rfl))) (by kernel_rfl) (Or.inl rfl)) (ev_bcons
 (ev_set 5 sc_law_none_right.nd (by kernel_rfl) (Or.inl (by kernel_rfl)) (ev_callC (c_kings _) (Room.mono (j := 3) (k := 6) hr (by decide)) (gl_of (by kernel_rfl)) thr_cx rfl (ev_cons (ev_var 1 (by kernel_rfl) (Or.inr (Or.inl (by kernel_rfl))) (by kernel_rfl) (by kernel_rfl)) (ev_cons (ev_var 2 (by kernel_rfl) (Or.inr (Or.inl (by kernel_rfl))) (by kernel_rfl) (by kernel_rfl)) ev_nil (by kernel_rfl)) (by kernel_rfl)) (by kernel_rfl) (by kernel_rfl) (by kernel_rfl) (len_cons (len_cons (fun _ _ _ _ h => len_nil h)))) (by kernel_rfl) (Or.inl rfl)) (ev_bcons
 (ev_set 6 sc_law_none_right.nd (by kernel_rfl) (Or.inr (by kernel_rfl)) (ev_ix ix_D (ev_lst (ev_cons (ev_un op_negD ev_int) (ev_cons (ev_var 5 (by kernel_rfl) (Or.inl (by kernel_rfl)) (by kernel_rfl) (by kernel_rfl)) (ev_cons (ev_op op_addD (ev_var 5 (by kernel_rfl) (Or.inl (by kernel_rfl)) (by kernel_rfl) (by kernel_rfl)) (ev_op op_powD ev_int ev_int)) (ev_cons ev_bl (ev_cons ev_non (ev_cons ev_str ev_nil (by kernel_rfl)) (by kernel_rfl)) (by kernel_rfl)) (by kernel_rfl)) (by kernel_rfl)) (by kernel_rfl))) (ev_callC (c_law_choice _) (Room.mono (j := 1) (k := 6) hr (by decide)) (gl_of (by kernel_rfl)) thr_cx rfl (ev_cons (ev_var 0 (by kernel_rfl) (Or.inl (by kernel_rfl)) (by kernel_rfl) (by kernel_rfl)) (ev_cons ev_int ev_nil (by kernel_rfl)) (by kernel_rfl)) (by kernel_rfl) (by kernel_rfl) (by kernel_rfl) (len_cons (len_cons (fun _ _ _ _ h => len_nil h)))) (fun _ _ => (by kernel_rfl))) (by kernel_rfl) (Or.inl rfl)) (ev_bcons
 (ev_asg (ev_var 3 (by kernel_rfl) (Or.inr (Or.inl (by kernel_rfl))) (by kernel_rfl) (by kernel_rfl)) (ev_gtup rfl (ev_gcons (ev_gname 9 sc_law_none_right.nd (by kernel_rfl) (Or.inl (by kernel_rfl)) (Or.inl rfl)) (ev_gcons (ev_gname 10 sc_law_none_right.nd (by kernel_rfl) (Or.inl (by kernel_rfl)) (Or.inl rfl)) ev_gnil (by kernel_rfl)) (by kernel_rfl)) (by kernel_rfl) (by kernel_rfl)) (by kernel_rfl) (by kernel_rfl) (by kernel_rfl)) (ev_bcons
 (ev_set 7 sc_law_none_right.nd (by kernel_rfl) (Or.inr (by kernel_rfl)) (ev_ix ix_D (ev_lst (ev_cons (ev_tup (ev_cons (ev_un op_negD ev_int) (ev_cons (ev_var 10 (by kernel_rfl) (Or.inl (by kernel_rfl)) (by kernel_rfl) (by kernel_rfl)) ev_nil (by kernel_rfl)) (by kernel_rfl))) (ev_cons (ev_tup (ev_cons (ev_var 1 (by kernel_rfl) (Or.inr (Or.inl (by kernel_rfl))) (by kernel_rfl) (by kernel_rfl)) (ev_cons (ev_var 10 (by kernel_rfl) (Or.inl (by kernel_rfl)) (by kernel_rfl) (by kernel_rfl)) ev_nil (by kernel_rfl)) (by kernel_rfl))) (ev_cons (ev_tup (ev_cons (ev_var 9 (by kernel_rfl) (Or.inl (by kernel_rfl)) (by kernel_rfl) (by kernel_rfl)) (ev_cons (ev_var 2 (by kernel_rfl) (Or.inr (Or.inl (by kernel_rfl))) (by kernel_rfl) (by kernel_rfl)) ev_nil (by kernel_rfl)) (by kernel_rfl))) (ev_cons (ev_lst (ev_cons (ev_var 9 (by kernel_rfl) (Or.inl (by kernel_rfl)) (by kernel_rfl) (by kernel_rfl)) (ev_cons (ev_var 10 (by kernel_rfl) (Or.inl (by kernel_rfl)) (by kernel_rfl) (by kernel_rfl)) ev_nil (by kernel_rfl)) (by kernel_rfl))) (ev_cons ev_non (ev_cons (ev_var 9 (by kernel_rfl) (Or.inl (by kernel_rfl)) (by kernel_rfl) (by kernel_rfl)) (ev_cons (ev_tup (ev_cons (ev_var 9 (by kernel_rfl) (Or.inl (by kernel_rfl)) (by kernel_rfl) (by kernel_rfl)) ev_nil (by kernel_rfl))) ev_nil (by kernel_rfl)) (by kernel_rfl)) (by kernel_rfl)) (by kernel_rfl)) (by kernel_rfl)) (by kernel_rfl)) (by kernel_rfl))) (ev_callC (c_law_choice _) (Room.mono (j := 1) (k := 6) hr (by decide)) (gl_of (by kernel_rfl)) thr_cx rfl (ev_cons (ev_var 0 (by kernel_rfl) (Or.inl (by kernel_rfl)) (by kernel_rfl) (by kernel_rfl)) (ev_cons ev_int ev_nil (by kernel_rfl)) (by kernel_rfl)) (by kernel_rfl) (by kernel_rfl) (by kernel_rfl) (len_cons (len_cons (fun _ _ _ _ h => len_nil h)))) (fun _ _ => (by kernel_rfl))) (by kernel_rfl) (Or.inl rfl)) (ev_bcons
 (ev_set 8 sc_law_none_right.nd (by kernel_rfl) (Or.inl (by kernel_rfl)) (ev_lst (ev_cons (ev_lam 0 hbm rfl hhd hT (by kernel_rfl) (lam_of (by kernel_rfl)) (hq 0) (fun c ctv => (hJ 0 c _).mpr ⟨ctv, by kernel_rfl⟩)) ev_nil (by kernel_rfl))) (by kernel_rfl) (Or.inl rfl)) (ev_bcons
 (ev_expr (ev_meth mt_appendD PySem.F.plainAttrs_list PySem.F.slot_list_append PySem.F.type_list_append (ev_var 8 (by kernel_rfl) (Or.inl (by kernel_rfl)) (by kernel_rfl) (by kernel_rfl)) (ev_cons (ev_lam 1 hbm rfl hhd hT (by kernel_rfl) (lam_of (by kernel_rfl)) (hq 1) (fun c ctv => (hJ 1 c _).mpr ⟨ctv, by kernel_rfl⟩)) ev_nil (by kernel_rfl)) (by kernel_rfl) (by kernel_rfl) (by kernel_rfl) (by kernel_rfl) (by kernel_rfl)) (by kernel_rfl)) (ev_bcons
 (ev_expr (ev_meth mt_appendD PySem.F.plainAttrs_list PySem.F.slot_list_append PySem.F.type_list_append (ev_var 8 (by kernel_rfl) (Or.inl (by kernel_rfl)) (by kernel_rfl) (by kernel_rfl)) (ev_cons (ev_lam 2 hbm rfl hhd hT (by kernel_rfl) (lam_of (by kernel_rfl)) (hq 2) (fun c ctv => (hJ 2 c _).mpr ⟨ctv, by kernel_rfl⟩)) ev_nil (by kernel_rfl)) (by kernel_rfl) (by kernel_rfl) (by kernel_rfl) (by kernel_rfl) (by kernel_rfl)) (by kernel_rfl)) (ev_bcons
 (ev_expr (ev_meth mt_appendD PySem.F.plainAttrs_list PySem.F.slot_list_append PySem.F.type_list_append (ev_var 8 (by kernel_rfl) (Or.inl (by kernel_rfl)) (by kernel_rfl) (by kernel_rfl)) (ev_cons (ev_lam 3 hbm rfl hhd hT (by kernel_rfl) (lam_of (by kernel_rfl)) (hq 3) (fun c ctv => (hJ 3 c _).mpr ⟨ctv, by kernel_rfl⟩)) ev_nil (by kernel_rfl)) (by kernel_rfl) (by kernel_rfl) (by kernel_rfl) (by kernel_rfl) (by kernel_rfl)) (by kernel_rfl)) (ev_bcons
 (ev_expr (ev_meth mt_appendD PySem.F.plainAttrs_list PySem.F.slot_list_append PySem.F.type_list_append (ev_var 8 (by kernel_rfl) (Or.inl (by kernel_rfl)) (by kernel_rfl) (by kernel_rfl)) (ev_cons (ev_lam 4 hbm rfl hhd hT (by kernel_rfl) (lam_of (by kernel_rfl)) (hq 4) (fun c ctv => (hJ 4 c _).mpr ⟨ctv, by kernel_rfl⟩)) ev_nil (by kernel_rfl)) (by kernel_rfl) (by kernel_rfl) (by kernel_rfl) (by kernel_rfl) (by kernel_rfl)) (by kernel_rfl)) (ev_bcons
 (ev_expr (ev_meth mt_appendD PySem.F.plainAttrs_list PySem.F.slot_list_append PySem.F.type_list_append (ev_var 8 (by kernel_rfl) (Or.inl (by kernel_rfl)) (by kernel_rfl) (by kernel_rfl)) (ev_cons (ev_lam 5 hbm rfl hhd hT (by kernel_rfl) (lam_of (by kernel_rfl)) (hq 5) (fun c ctv => (hJ 5 c _).mpr ⟨ctv, by kernel_rfl⟩)) ev_nil (by kernel_rfl)) (by kernel_rfl) (by kernel_rfl) (by kernel_rfl) (by kernel_rfl) (by kernel_rfl)) (by kernel_rfl)) (ev_bcons
 (ev_expr (ev_meth mt_appendD PySem.F.plainAttrs_list PySem.F.slot_list_append PySem.F.type_list_append (ev_var 8 (by kernel_rfl) (Or.inl (by kernel_rfl)) (by kernel_rfl) (by kernel_rfl)) (ev_cons (ev_lam 6 hbm rfl hhd hT (by kernel_rfl) (lam_of (by kernel_rfl)) (hq 6) (fun c ctv => (hJ 6 c _).mpr ⟨ctv, by kernel_rfl⟩)) ev_nil (by kernel_rfl)) (by kernel_rfl) (by kernel_rfl) (by kernel_rfl) (by kernel_rfl) (by kernel_rfl)) (by kernel_rfl)) (ev_bcons
 (ev_expr (ev_meth mt_appendD PySem.F.plainAttrs_list PySem.F.slot_list_append PySem.F.type_list_append (ev_var 8 (by kernel_rfl) (Or.inl (by kernel_rfl)) (by kernel_rfl) (by kernel_rfl)) (ev_cons (ev_lam 7 hbm rfl hhd hT (by kernel_rfl) (lam_of (by kernel_rfl)) (hq 7) (fun c ctv => (hJ 7 c _).mpr ⟨ctv, by kernel_rfl⟩)) ev_nil (by kernel_rfl)) (by kernel_rfl) (by kernel_rfl) (by kernel_rfl) (by kernel_rfl) (by kernel_rfl)) (by kernel_rfl)) (ev_bone
 (ev_ret (ev_cmp (op_eqDD hr.units) (ev_lcw rfl sc_law_none_right.nd (ev_iseq (ev_var 8 (by kernel_rfl) (Or.inl (by kernel_rfl)) (by kernel_rfl) (by kernel_rfl))) (blk_of (own := [("_law_call", 11)]) (by kernel_rfl)) rfl (fun _ _ _ _ _ => (ev_wname 11 sc_law_none_right.nd (by kernel_rfl) (Or.inl (by kernel_rfl)) (Or.inr (by kernel_rfl)) (by decide))) (fun _ _ _ _ _ => ev_tsnil) (saidX_rule (k := 4) (pr := lamP (top 37)) (bd := lamBd (top 37)) (sc := lamSc (top 37)) (fbs := FB_law_none_right) hDs Z hB hr (fun k c' o h => (hJ k c' o).mp h) hq (fun k fb h => match k, h with | 0, rfl => lam_of (by kernel_rfl) | 1, rfl => lam_of (by kernel_rfl) | 2, rfl => lam_of (by kernel_rfl) | 3, rfl => lam_of (by kernel_rfl) | 4, rfl => lam_of (by kernel_rfl) | 5, rfl => lam_of (by kernel_rfl) | 6, rfl => lam_of (by kernel_rfl) | 7, rfl => lam_of (by kernel_rfl)) (fun k fb h => match k, h with | 0, rfl => fun _ _ _ _ => (by kernel_rfl) | 1, rfl => fun _ _ _ _ => (by kernel_rfl) | 2, rfl => fun _ _ _ _ => (by kernel_rfl) | 3, rfl => fun _ _ _ _ => (by kernel_rfl) | 4, rfl => fun _ _ _ _ => (by kernel_rfl) | 5, rfl => fun _ _ _ _ => (by kernel_rfl) | 6, rfl => fun _ _ _ _ => (by kernel_rfl) | 7, rfl => fun _ _ _ _ => (by kernel_rfl)) (fun k fb h => match k, h with | 0, rfl => dis_of (by kernel_rfl) | 1, rfl => dis_of (by kernel_rfl) | 2, rfl => dis_of (by kernel_rfl) | 3, rfl => dis_of (by kernel_rfl) | 4, rfl => dis_of (by kernel_rfl) | 5, rfl => dis_of (by kernel_rfl) | 6, rfl => dis_of (by kernel_rfl) | 7, rfl => dis_of (by kernel_rfl))
 (fun k fb h => match k, h with | 0, rfl => fun _ _ _ _ _ _ _ _ _ => (ev_callC (c_kings _) (Room.mono (j := 3) (k := 4) ((hr.deeper _).deeper _) (by decide)) (gl_of (by kernel_rfl)) thr_lam rfl (ev_cons (ev_var 4 (by kernel_rfl) (Or.inr (Or.inr (by kernel_rfl))) (by kernel_rfl) (by kernel_rfl)) (ev_cons (ev_var 2 (by kernel_rfl) (Or.inr (Or.inr (by kernel_rfl))) (by kernel_rfl) (by kernel_rfl)) ev_nil (by kernel_rfl)) (by kernel_rfl)) (by kernel_rfl) (by kernel_rfl) (by kernel_rfl) (len_cons (len_cons (fun _ _ _ _ h => len_nil h)))) | 1, rfl => fun _ _ _ _ _ _ _ _ _ => (ev_callC (c_kings _) (Room.mono (j := 3) (k := 4) ((hr.deeper _).deeper _) (by decide)) (gl_of (by kernel_rfl)) thr_lam rfl (ev_cons (ev_var 1 (by kernel_rfl) (Or.inr (Or.inr (by kernel_rfl))) (by kernel_rfl) (by kernel_rfl)) (ev_cons (ev_var 4 (by kernel_rfl) (Or.inr (Or.inr (by kernel_rfl))) (by kernel_rfl) (by kernel_rfl)) ev_nil (by kernel_rfl)) (by kernel_rfl)) (by kernel_rfl) (by kernel_rfl) (by kernel_rfl) (len_cons (len_cons (fun _ _ _ _ h => len_nil h)))) | 2, rfl => fun _ _ _ _ _ _ _ _ _ => (ev_callC (c_king_at _) (Room.mono (j := 4) (k := 4) ((hr.deeper _).deeper _) (by decide)) (gl_of (by kernel_rfl)) thr_lam rfl (ev_cons (ev_var 4 (by kernel_rfl) (Or.inr (Or.inr (by kernel_rfl))) (by kernel_rfl) (by kernel_rfl)) (ev_cons (ev_var 2 (by kernel_rfl) (Or.inr (Or.inr (by kernel_rfl))) (by kernel_rfl) (by kernel_rfl)) (ev_cons (ev_var 6 (by kernel_rfl) (Or.inr (Or.inr (by kernel_rfl))) (by kernel_rfl) (by kernel_rfl)) ev_nil (by kernel_rfl)) (by kernel_rfl)) (by kernel_rfl)) (by kernel_rfl) (by kernel_rfl) (by kernel_rfl) (len_cons (len_cons (len_cons (fun _ _ _ _ h => len_nil h))))) | 3, rfl => fun _ _ _ _ _ _ _ _ _ => (ev_callC (c_king_at _) (Room.mono (j := 4) (k := 4) ((hr.deeper _).deeper _) (by decide)) (gl_of (by kernel_rfl)) thr_lam rfl (ev_cons (ev_var 1 (by kernel_rfl) (Or.inr (Or.inr (by kernel_rfl))) (by kernel_rfl) (by kernel_rfl)) (ev_cons (ev_var 4 (by kernel_rfl) (Or.inr (Or.inr (by kernel_rfl))) (by kernel_rfl) (by kernel_rfl)) (ev_cons ev_int ev_nil (by kernel_rfl)) (by kernel_rfl)) (by kernel_rfl)) (by kernel_rfl) (by kernel_rfl) (by kernel_rfl) (len_cons (len_cons (len_cons (fun _ _ _ _ h => len_nil h))))) | 4, rfl => fun _ _ _ _ _ _ _ _ _ => (ev_callC (c_king_of _) (Room.mono (j := 4) (k := 4) ((hr.deeper _).deeper _) (by decide)) (gl_of (by kernel_rfl)) thr_lam rfl (ev_cons (ev_var 4 (by kernel_rfl) (Or.inr (Or.inr (by kernel_rfl))) (by kernel_rfl) (by kernel_rfl)) (ev_cons (ev_var 4 (by kernel_rfl) (Or.inr (Or.inr (by kernel_rfl))) (by kernel_rfl) (by kernel_rfl)) (ev_cons (ev_var 7 (by kernel_rfl) (Or.inr (Or.inr (by kernel_rfl))) (by kernel_rfl) (by kernel_rfl)) ev_nil (by kernel_rfl)) (by kernel_rfl)) (by kernel_rfl)) (by kernel_rfl) (by kernel_rfl) (by kernel_rfl) (len_cons (len_cons (len_cons (fun _ _ _ _ h => len_nil h))))) | 5, rfl => fun _ _ _ _ _ _ _ _ _ => (ev_callC (c_king_of _) (Room.mono (j := 4) (k := 4) ((hr.deeper _).deeper _) (by decide)) (gl_of (by kernel_rfl)) thr_lam rfl (ev_cons (ev_var 1 (by kernel_rfl) (Or.inr (Or.inr (by kernel_rfl))) (by kernel_rfl) (by kernel_rfl)) (ev_cons (ev_var 4 (by kernel_rfl) (Or.inr (Or.inr (by kernel_rfl))) (by kernel_rfl) (by kernel_rfl)) (ev_cons (ev_var 3 (by kernel_rfl) (Or.inr (Or.inr (by kernel_rfl))) (by kernel_rfl) (by kernel_rfl)) ev_nil (by kernel_rfl)) (by kernel_rfl)) (by kernel_rfl)) (by kernel_rfl) (by kernel_rfl) (by kernel_rfl) (len_cons (len_cons (len_cons (fun _ _ _ _ h => len_nil h))))) | 6, rfl => fun _ _ _ _ _ _ _ _ _ => (ev_callC (c_king_at _) (Room.mono (j := 4) (k := 4) ((hr.deeper _).deeper _) (by decide)) (gl_of (by kernel_rfl)) thr_lam rfl (ev_cons (ev_var 1 (by kernel_rfl) (Or.inr (Or.inr (by kernel_rfl))) (by kernel_rfl) (by kernel_rfl)) (ev_cons (ev_var 2 (by kernel_rfl) (Or.inr (Or.inr (by kernel_rfl))) (by kernel_rfl) (by kernel_rfl)) (ev_cons (ev_var 6 (by kernel_rfl) (Or.inr (Or.inr (by kernel_rfl))) (by kernel_rfl) (by kernel_rfl)) ev_nil (by kernel_rfl)) (by kernel_rfl)) (by kernel_rfl)) (by kernel_rfl) (by kernel_rfl) (by kernel_rfl) (len_cons (len_cons (len_cons (fun _ _ _ _ h => len_nil h))))) | 7, rfl => fun _ _ _ _ _ _ _ _ _ => (ev_callC (c_king_of _) (Room.mono (j := 4) (k := 4) ((hr.deeper _).deeper _) (by decide)) (gl_of (by kernel_rfl)) thr_lam rfl (ev_cons (ev_var 1 (by kernel_rfl) (Or.inr (Or.inr (by kernel_rfl))) (by kernel_rfl) (by kernel_rfl)) (ev_cons (ev_var 2 (by kernel_rfl) (Or.inr (Or.inr (by kernel_rfl))) (by kernel_rfl) (by kernel_rfl)) (ev_cons (ev_var 7 (by kernel_rfl) (Or.inr (Or.inr (by kernel_rfl))) (by kernel_rfl) (by kernel_rfl)) ev_nil (by kernel_rfl)) (by kernel_rfl)) (by kernel_rfl)) (by kernel_rfl) (by kernel_rfl) (by kernel_rfl) (len_cons (len_cons (len_cons (fun _ _ _ _ h => len_nil h))))))
 (fun _ => rfl) (by kernel_rfl) (by kernel_rfl) (by kernel_rfl) (by kernel_rfl) (Or.inl (by kernel_rfl)) (fun _ => (by kernel_rfl))) (fun _ => (by kernel_rfl))) (ev_op op_addD (ev_op op_mulD (ev_lst (ev_cons ev_str ev_nil (by kernel_rfl))) ev_int) (ev_lst (ev_cons ev_str (ev_cons ev_str ev_nil (by kernel_rfl)) (by kernel_rfl)))) (by kernel_rfl)))))))))))))))))

abbrev N_law : List Str := ["_law_script", "_law_k", "_law_state_here", "_law_number", "_law_cell", "_law_high", "_law_wide", "_law_down", "_law_across", "_law_row", "_law_column", "_law_part", "_law_there"]
abbrev P_law : List Str := ["_law_script"]
theorem sc_law : FnScope N_law P_law (defScope (top 38)) := ⟨rfl, rfl, rfl, by decide +kernel, rfl, by decide +kernel, by decide +kernel⟩
def B_law : SM :=
 (seqS (nox1 (forS (rngI1 (consA (callE maxD (consA (cst (.int 1)) (consA (callE minD (consA (callE lenD (consA (vr 0) nilA)) (consA (cst (.int 5)) nilA))) nilA))) nilA)) (setG 1)
 (seqS (asgS (callE F_law_state (consA (vr 0) (consA (vr 1) nilA))) (setG 2))
 (seqS (parS 5 6 (consA (callE F_law_side (consA (vr 2) nilA)) (consA (callE F_law_side (consA (vr 2) nilA)) nilA)))
 (seqS (parS 7 8 (consA (bin2 fdivD (bin2 addD (vr 5) (cst (.int 2))) (cst (.int 3))) (consA (bin2 fdivD (bin2 addD (vr 6) (cst (.int 2))) (cst (.int 3))) nilA)))
 (seqS (ifS (tnot (tb (callE F_law_same (consA (callE F_kings (consA (vr 5) (consA (vr 6) nilA))) (consA (bin2 mulD (vr 7) (vr 8)) nilA))))) (retS (cst (.bl false))) nxS)
 (seqS (forS (seqI (lstE (consA (cst (.int 0)) (consA (bin2 subD (bin2 mulD (vr 7) (vr 8)) (cst (.int 1))) (consA (bin2 subD (vr 8) (cst (.int 1))) (consA (callE F_law_choice (consA (vr 2) (consA (bin2 mulD (vr 7) (vr 8)) nilA))) nilA)))))) (setG 3)
 (seqS (parS 9 10 (consA (bin2 addD (bin2 mulD (bin2 fdivD (vr 3) (vr 8)) (cst (.int 3))) (cst (.int 1))) (consA (bin2 addD (bin2 mulD (bin2 modD (vr 3) (vr 8)) (cst (.int 3))) (cst (.int 1))) nilA)))
 (ifS (tnot (tb (callE F_law_same (consA (callE F_king_at (consA (vr 5) (consA (vr 6) (consA (vr 3) nilA)))) (consA (tupE (consA (callE minD (consA (vr 9) (consA (bin2 subD (vr 5) (cst (.int 1))) nilA))) (consA (callE minD (consA (vr 10) (consA (bin2 subD (vr 6) (cst (.int 1))) nilA))) nilA))) nilA))))) (retS (cst (.bl false))) nxS)))
 (seqS (asgS (tupE (consA (callE F_law_choice (consA (vr 2) (consA (vr 5) nilA))) (consA (callE F_law_choice (consA (vr 2) (consA (vr 6) nilA))) nilA))) (setG 4))
 (seqS (forS (seqI (lstE (consA (vr 4) (consA (tupE (consA (bin2 subD (vr 5) (cst (.int 1))) (consA (bin2 subD (vr 6) (cst (.int 1))) nilA))) (consA (tupE (consA (cst (.int 0)) (consA (bin2 subD (vr 6) (cst (.int 1))) nilA))) (consA (tupE (consA (bin2 subD (vr 5) (cst (.int 1))) (consA (bin2 ixD (vr 4) (cst (.int 1))) nilA))) (consA (tupE (consA (callE maxD (consA (cst (.int 0)) (consA (bin2 subD (vr 5) (cst (.int 2))) nilA))) (consA (cst (.int 0)) nilA))) nilA))))))) (tupG 2 (consG (setG 9) (consG (setG 10) nilG)))
 (seqS (asgS (callE F_king_of (consA (vr 5) (consA (vr 6) (consA (tupE (consA (vr 9) (consA (vr 10) nilA))) nilA)))) (setG 11))
 (seqS (asgS (callE F_king_at (consA (vr 5) (consA (vr 6) (consA (vr 11) nilA)))) (setG 12))
 (seqS (ifS (tnot (tb (callE F_law_same (consA (vr 11) (consA (bin2 addD (bin2 mulD (bin2 fdivD (vr 9) (cst (.int 3))) (vr 8)) (bin2 fdivD (vr 10) (cst (.int 3)))) nilA))))) (retS (cst (.bl false))) nxS)
 (ifS (tb (bin2 (cmpI fun i j => decide (j < i)) (callE maxD (consA (callE absD (consA (bin2 subD (bin2 ixD (vr 12) (cst (.int 0))) (vr 9)) nilA)) (consA (callE absD (consA (bin2 subD (bin2 ixD (vr 12) (cst (.int 1))) (vr 10)) nilA)) nilA))) (cst (.int 1)))) (retS (cst (.bl false))) nxS)))))
 (ifS (tnot (tb (callE F_law_none_right (consA (vr 2) (consA (vr 5) (consA (vr 6) (consA (vr 4) nilA))))))) (retS (cst (.bl false))) nxS))))))))))
 (retS (cst (.bl true))))
def F_law : Fn := runF 13 B_law
theorem ok_law {P : Program} {w : World} {K : PySem.W.Frag} {mg : Str → Option Value} {base : Heap} {cl : Cls} {f : Addr} {fd : FuncData} (h : Fun K "law" "law" (top 38) f fd) (hB : ∀ x ∈ bNames, mg x = none) (c_law_choice : Cal P w K mg base cl "_law_choice" 1 2 F_law_choice) (c_law_none_right : Cal P w K mg base cl "_law_none_right" 7 4 F_law_none_right) (c_law_same : Cal P w K mg base cl "_law_same" 1 2 F_law_same) (c_law_side : Cal P w K mg base cl "_law_side" 2 1 F_law_side) (c_law_state : Cal P w K mg base cl "_law_state" 2 2 F_law_state) (c_king_at : Cal P w K mg base cl "king_at" 4 3 F_king_at) (c_king_of : Cal P w K mg base cl "king_of" 4 3 F_king_of) (c_kings : Cal P w K mg base cl "kings" 3 2 F_kings) : FnOk P w K mg base (CXR P w) 8 f fd P_law (spOf K cl 1 F_law) :=
 fun_ok h sc_law rfl fun cdv A outer s H E hr =>
 (ev_bcons
 (ev_nox1 (ev_for PassesOwn.never rfl (ev_irng1 (gl_of (by kernel_rfl)) (hB "range" (by decide +kernel)) (ev_cons (ev_callB (cl_max rfl) (gl_of (by kernel_rfl)) (hB "max" (by decide +kernel)) (by kernel_rfl) (ev_cons ev_int (ev_cons (ev_callB (cl_min rfl) (gl_of (by kernel_rfl)) (hB "min" (by decide +kernel)) (by kernel_rfl) (ev_cons (ev_callB cl_len (gl_of (by kernel_rfl)) (hB "len" (by decide +kernel)) (by kernel_rfl) (ev_cons (ev_var 0 (by kernel_rfl) (Or.inl (by kernel_rfl)) (by kernel_rfl) (by kernel_rfl)) ev_nil (by kernel_rfl)) (by decide +kernel) (by kernel_rfl) (by kernel_rfl) (by kernel_rfl)) (ev_cons ev_int ev_nil (by kernel_rfl)) (by kernel_rfl)) (by decide +kernel) (by kernel_rfl) (by kernel_rfl) (by kernel_rfl)) ev_nil (by kernel_rfl)) (by kernel_rfl)) (by decide +kernel) (by kernel_rfl) (by kernel_rfl) (by kernel_rfl)) ev_nil (by kernel_rfl)) (by kernel_rfl)) (ev_gname 1 sc_law.nd (by kernel_rfl) (Or.inl (by kernel_rfl)) (Or.inl rfl)) (ev_bcons
 (ev_set 2 sc_law.nd (by kernel_rfl) (Or.inl (by kernel_rfl)) (ev_callC c_law_state (Room.mono (j := 2) (k := 7) hr (by decide)) (gl_of (by kernel_rfl)) thr_no rfl (ev_cons (ev_var 0 (by kernel_rfl) (Or.inl (by kernel_rfl)) (by kernel_rfl) (by kernel_rfl)) (ev_cons (ev_var 1 (by kernel_rfl) (Or.inl (by kernel_rfl)) (by kernel_rfl) (by kernel_rfl)) ev_nil (by kernel_rfl)) (by kernel_rfl)) (by kernel_rfl) (by kernel_rfl) (by kernel_rfl) (len_cons (len_cons (fun _ _ _ _ h => len_nil h)))) (by kernel_rfl) (Or.inl rfl)) (ev_bcons
 (ev_par 5 6 rfl sc_law.nd (by kernel_rfl) (by kernel_rfl) (by decide) (by kernel_rfl) (by kernel_rfl) (ev_cons (ev_callC c_law_side (Room.mono (j := 2) (k := 7) hr (by decide)) (gl_of (by kernel_rfl)) thr_no rfl (ev_cons (ev_var 2 (by kernel_rfl) (Or.inl (by kernel_rfl)) (by kernel_rfl) (by kernel_rfl)) ev_nil (by kernel_rfl)) (by kernel_rfl) (by kernel_rfl) (by kernel_rfl) (len_cons (fun _ _ _ _ h => len_nil h))) (ev_cons (ev_callC c_law_side (Room.mono (j := 2) (k := 7) hr (by decide)) (gl_of (by kernel_rfl)) thr_no rfl (ev_cons (ev_var 2 (by kernel_rfl) (Or.inl (by kernel_rfl)) (by kernel_rfl) (by kernel_rfl)) ev_nil (by kernel_rfl)) (by kernel_rfl) (by kernel_rfl) (by kernel_rfl) (len_cons (fun _ _ _ _ h => len_nil h))) ev_nil (by kernel_rfl)) (by kernel_rfl)) (by kernel_rfl) (by kernel_rfl)) (ev_bcons
 (ev_par 7 8 rfl sc_law.nd (by kernel_rfl) (by kernel_rfl) (by decide) (by kernel_rfl) (by kernel_rfl) (ev_cons (ev_op op_fdivD (ev_op op_addD (ev_var 5 (by kernel_rfl) (Or.inl (by kernel_rfl)) (by kernel_rfl) (by kernel_rfl)) ev_int) ev_int) (ev_cons (ev_op op_fdivD (ev_op op_addD (ev_var 6 (by kernel_rfl) (Or.inl (by kernel_rfl)) (by kernel_rfl) (by kernel_rfl)) ev_int) ev_int) ev_nil (by kernel_rfl)) (by kernel_rfl)) (by kernel_rfl) (by kernel_rfl)) (ev_bcons
 (ev_ifS (ev_tnot (ev_tval (ev_callC c_law_same (Room.mono (j := 1) (k := 7) hr (by decide)) (gl_of (by kernel_rfl)) thr_no rfl (ev_cons (ev_callC c_kings (Room.mono (j := 3) (k := 7) hr (by decide)) (gl_of (by kernel_rfl)) thr_no rfl (ev_cons (ev_var 5 (by kernel_rfl) (Or.inl (by kernel_rfl)) (by kernel_rfl) (by kernel_rfl)) (ev_cons (ev_var 6 (by kernel_rfl) (Or.inl (by kernel_rfl)) (by kernel_rfl) (by kernel_rfl)) ev_nil (by kernel_rfl)) (by kernel_rfl)) (by kernel_rfl) (by kernel_rfl) (by kernel_rfl) (len_cons (len_cons (fun _ _ _ _ h => len_nil h)))) (ev_cons (ev_op op_mulD (ev_var 7 (by kernel_rfl) (Or.inl (by kernel_rfl)) (by kernel_rfl) (by kernel_rfl)) (ev_var 8 (by kernel_rfl) (Or.inl (by kernel_rfl)) (by kernel_rfl) (by kernel_rfl))) ev_nil (by kernel_rfl)) (by kernel_rfl)) (by kernel_rfl) (by kernel_rfl) (by kernel_rfl) (len_cons (len_cons (fun _ _ _ _ h => len_nil h)))) (fun _ => (by kernel_rfl)))) (ev_bone
 (ev_ret ev_bl)) ev_bnil) (ev_bcons
 (ev_for PassesOwn.never rfl (ev_iseq (ev_lst (ev_cons ev_int (ev_cons (ev_op op_subD (ev_op op_mulD (ev_var 7 (by kernel_rfl) (Or.inl (by kernel_rfl)) (by kernel_rfl) (by kernel_rfl)) (ev_var 8 (by kernel_rfl) (Or.inl (by kernel_rfl)) (by kernel_rfl) (by kernel_rfl))) ev_int) (ev_cons (ev_op op_subD (ev_var 8 (by kernel_rfl) (Or.inl (by kernel_rfl)) (by kernel_rfl) (by kernel_rfl)) ev_int) (ev_cons (ev_callC c_law_choice (Room.mono (j := 1) (k := 7) hr (by decide)) (gl_of (by kernel_rfl)) thr_no rfl (ev_cons (ev_var 2 (by kernel_rfl) (Or.inl (by kernel_rfl)) (by kernel_rfl) (by kernel_rfl)) (ev_cons (ev_op op_mulD (ev_var 7 (by kernel_rfl) (Or.inl (by kernel_rfl)) (by kernel_rfl) (by kernel_rfl)) (ev_var 8 (by kernel_rfl) (Or.inl (by kernel_rfl)) (by kernel_rfl) (by kernel_rfl))) ev_nil (by kernel_rfl)) (by kernel_rfl)) (by kernel_rfl) (by kernel_rfl) (by kernel_rfl) (len_cons (len_cons (fun _ _ _ _ h => len_nil h)))) ev_nil (by kernel_rfl)) (by kernel_rfl)) (by kernel_rfl)) (by kernel_rfl)))) (ev_gname 3 sc_law.nd (by kernel_rfl) (Or.inl (by kernel_rfl)) (Or.inl rfl)) (ev_bcons
 (ev_par 9 10 rfl sc_law.nd (by kernel_rfl) (by kernel_rfl) (by decide) (by kernel_rfl) (by kernel_rfl) (ev_cons (ev_op op_addD (ev_op op_mulD (ev_op op_fdivD (ev_var 3 (by kernel_rfl) (Or.inl (by kernel_rfl)) (by kernel_rfl) (by kernel_rfl)) (ev_var 8 (by kernel_rfl) (Or.inl (by kernel_rfl)) (by kernel_rfl) (by kernel_rfl))) ev_int) ev_int) (ev_cons (ev_op op_addD (ev_op op_mulD (ev_op op_modD (ev_var 3 (by kernel_rfl) (Or.inl (by kernel_rfl)) (by kernel_rfl) (by kernel_rfl)) (ev_var 8 (by kernel_rfl) (Or.inl (by kernel_rfl)) (by kernel_rfl) (by kernel_rfl))) ev_int) ev_int) ev_nil (by kernel_rfl)) (by kernel_rfl)) (by kernel_rfl) (by kernel_rfl)) (ev_bone
 (ev_ifS (ev_tnot (ev_tval (ev_callC c_law_same (Room.mono (j := 1) (k := 7) hr (by decide)) (gl_of (by kernel_rfl)) thr_no rfl (ev_cons (ev_callC c_king_at (Room.mono (j := 4) (k := 7) hr (by decide)) (gl_of (by kernel_rfl)) thr_no rfl (ev_cons (ev_var 5 (by kernel_rfl) (Or.inl (by kernel_rfl)) (by kernel_rfl) (by kernel_rfl)) (ev_cons (ev_var 6 (by kernel_rfl) (Or.inl (by kernel_rfl)) (by kernel_rfl) (by kernel_rfl)) (ev_cons (ev_var 3 (by kernel_rfl) (Or.inl (by kernel_rfl)) (by kernel_rfl) (by kernel_rfl)) ev_nil (by kernel_rfl)) (by kernel_rfl)) (by kernel_rfl)) (by kernel_rfl) (by kernel_rfl) (by kernel_rfl) (len_cons (len_cons (len_cons (fun _ _ _ _ h => len_nil h))))) (ev_cons (ev_tup (ev_cons (ev_callB (cl_min rfl) (gl_of (by kernel_rfl)) (hB "min" (by decide +kernel)) (by kernel_rfl) (ev_cons (ev_var 9 (by kernel_rfl) (Or.inl (by kernel_rfl)) (by kernel_rfl) (by kernel_rfl)) (ev_cons (ev_op op_subD (ev_var 5 (by kernel_rfl) (Or.inl (by kernel_rfl)) (by kernel_rfl) (by kernel_rfl)) ev_int) ev_nil (by kernel_rfl)) (by kernel_rfl)) (by decide +kernel) (by kernel_rfl) (by kernel_rfl) (by kernel_rfl)) (ev_cons (ev_callB (cl_min rfl) (gl_of (by kernel_rfl)) (hB "min" (by decide +kernel)) (by kernel_rfl) (ev_cons (ev_var 10 (by kernel_rfl) (Or.inl (by kernel_rfl)) (by kernel_rfl) (by kernel_rfl)) (ev_cons (ev_op op_subD (ev_var 6 (by kernel_rfl) (Or.inl (by kernel_rfl)) (by kernel_rfl) (by kernel_rfl)) ev_int) ev_nil (by kernel_rfl)) (by kernel_rfl)) (by decide +kernel) (by kernel_rfl) (by kernel_rfl) (by kernel_rfl)) ev_nil (by kernel_rfl)) (by kernel_rfl))) ev_nil (by kernel_rfl)) (by kernel_rfl)) (by kernel_rfl) (by kernel_rfl) (by kernel_rfl) (len_cons (len_cons (fun _ _ _ _ h => len_nil h)))) (fun _ => (by kernel_rfl)))) (ev_bone
 (ev_ret ev_bl)) ev_bnil))) (fun _ => (by kernel_rfl))) (ev_bcons
 (ev_set 4 sc_law.nd (by kernel_rfl) (Or.inl (by kernel_rfl)) (ev_tup (ev_cons (ev_callC c_law_choice (Room.mono (j := 1) (k := 7) hr (by decide)) (gl_of (by kernel_rfl)) thr_no rfl (ev_cons (ev_var 2 (by kernel_rfl) (Or.inl (by kernel_rfl)) (by kernel_rfl) (by kernel_rfl)) (ev_cons (ev_var 5 (by kernel_rfl) (Or.inl (by kernel_rfl)) (by kernel_rfl) (by kernel_rfl)) ev_nil (by kernel_rfl)) (by kernel_rfl)) (by kernel_rfl) (by kernel_rfl) (by kernel_rfl) (len_cons (len_cons (fun _ _ _ _ h => len_nil h)))) (ev_cons (ev_callC c_law_choice (Room.mono (j := 1) (k := 7) hr (by decide)) (gl_of (by kernel_rfl)) thr_no rfl (ev_cons (ev_var 2 (by kernel_rfl) (Or.inl (by kernel_rfl)) (by kernel_rfl) (by kernel_rfl)) (ev_cons (ev_var 6 (by kernel_rfl) (Or.inl (by kernel_rfl)) (by kernel_rfl) (by kernel_rfl)) ev_nil (by kernel_rfl)) (by kernel_rfl)) (by kernel_rfl) (by kernel_rfl) (by kernel_rfl) (len_cons (len_cons (fun _ _ _ _ h => len_nil h)))) ev_nil (by kernel_rfl)) (by kernel_rfl))) (by kernel_rfl) (Or.inl rfl)) (ev_bcons
 (ev_for PassesOwn.never rfl (ev_iseq (ev_lst (ev_cons (ev_var 4 (by kernel_rfl) (Or.inl (by kernel_rfl)) (by kernel_rfl) (by kernel_rfl)) (ev_cons (ev_tup (ev_cons (ev_op op_subD (ev_var 5 (by kernel_rfl) (Or.inl (by kernel_rfl)) (by kernel_rfl) (by kernel_rfl)) ev_int) (ev_cons (ev_op op_subD (ev_var 6 (by kernel_rfl) (Or.inl (by kernel_rfl)) (by kernel_rfl) (by kernel_rfl)) ev_int) ev_nil (by kernel_rfl)) (by kernel_rfl))) (ev_cons (ev_tup (ev_cons ev_int (ev_cons (ev_op op_subD (ev_var 6 (by kernel_rfl) (Or.inl (by kernel_rfl)) (by kernel_rfl) (by kernel_rfl)) ev_int) ev_nil (by kernel_rfl)) (by kernel_rfl))) (ev_cons (ev_tup (ev_cons (ev_op op_subD (ev_var 5 (by kernel_rfl) (Or.inl (by kernel_rfl)) (by kernel_rfl) (by kernel_rfl)) ev_int) (ev_cons (ev_ix ix_D (ev_var 4 (by kernel_rfl) (Or.inl (by kernel_rfl)) (by kernel_rfl) (by kernel_rfl)) ev_int (fun _ _ => (by kernel_rfl))) ev_nil (by kernel_rfl)) (by kernel_rfl))) (ev_cons (ev_tup (ev_cons (ev_callB (cl_max rfl) (gl_of (by kernel_rfl)) (hB "max" (by decide +kernel)) (by kernel_rfl) (ev_cons ev_int (ev_cons (ev_op op_subD (ev_var 5 (by kernel_rfl) (Or.inl (by kernel_rfl)) (by kernel_rfl) (by kernel_rfl)) ev_int) ev_nil (by kernel_rfl)) (by kernel_rfl)) (by decide +kernel) (by kernel_rfl) (by kernel_rfl) (by kernel_rfl)) (ev_cons ev_int ev_nil (by kernel_rfl)) (by kernel_rfl))) ev_nil (by kernel_rfl)) (by kernel_rfl)) (by kernel_rfl)) (by kernel_rfl)) (by kernel_rfl)))) (ev_gtup rfl (ev_gcons (ev_gname 9 sc_law.nd (by kernel_rfl) (Or.inl (by kernel_rfl)) (Or.inl rfl)) (ev_gcons (ev_gname 10 sc_law.nd (by kernel_rfl) (Or.inl (by kernel_rfl)) (Or.inl rfl)) ev_gnil (by kernel_rfl)) (by kernel_rfl)) (by kernel_rfl) (by kernel_rfl)) (ev_bcons
 (ev_set 11 sc_law.nd (by kernel_rfl) (Or.inl (by kernel_rfl)) (ev_callC c_king_of (Room.mono (j := 4) (k := 7) hr (by decide)) (gl_of (by kernel_rfl)) thr_no rfl (ev_cons (ev_var 5 (by kernel_rfl) (Or.inl (by kernel_rfl)) (by kernel_rfl) (by kernel_rfl)) (ev_cons (ev_var 6 (by kernel_rfl) (Or.inl (by kernel_rfl)) (by kernel_rfl) (by kernel_rfl)) (ev_cons (ev_tup (ev_cons (ev_var 9 (by kernel_rfl) (Or.inl (by kernel_rfl)) (by kernel_rfl) (by kernel_rfl)) (ev_cons (ev_var 10 (by kernel_rfl) (Or.inl (by kernel_rfl)) (by kernel_rfl) (by kernel_rfl)) ev_nil (by kernel_rfl)) (by kernel_rfl))) ev_nil (by kernel_rfl)) (by kernel_rfl)) (by kernel_rfl)) (by kernel_rfl) (by kernel_rfl) (by kernel_rfl) (len_cons (len_cons (len_cons (fun _ _ _ _ h => len_nil h))))) (by kernel_rfl) (Or.inl rfl)) (ev_bcons
 (ev_set 12 sc_law.nd (by kernel_rfl) (Or.inl (by kernel_rfl)) (ev_callC c_king_at (Room.mono (j := 4) (k := 7) hr (by decide)) (gl_of (by kernel_rfl)) thr_no rfl (ev_cons (ev_var 5 (by kernel_rfl) (Or.inl (by kernel_rfl)) (by kernel_rfl) (by kernel_rfl)) (ev_cons (ev_var 6 (by kernel_rfl) (Or.inl (by kernel_rfl)) (by kernel_rfl) (by kernel_rfl)) (ev_cons (ev_var 11 (by kernel_rfl) (Or.inl (by kernel_rfl)) (by kernel_rfl) (by kernel_rfl)) ev_nil (by kernel_rfl)) (by kernel_rfl)) (by kernel_rfl)) (by kernel_rfl) (by kernel_rfl) (by kernel_rfl) (len_cons (len_cons (len_cons (fun _ _ _ _ h => len_nil h))))) (by kernel_rfl) (Or.inl rfl)) (ev_bcons
 (ev_ifS (ev_tnot (ev_tval (ev_callC c_law_same (Room.mono (j := 1) (k := 7) hr (by decide)) (gl_of (by kernel_rfl)) thr_no rfl (ev_cons (ev_var 11 (by kernel_rfl) (Or.inl (by kernel_rfl)) (by kernel_rfl) (by kernel_rfl)) (ev_cons (ev_op op_addD (ev_op op_mulD (ev_op op_fdivD (ev_var 9 (by kernel_rfl) (Or.inl (by kernel_rfl)) (by kernel_rfl) (by kernel_rfl)) ev_int) (ev_var 8 (by kernel_rfl) (Or.inl (by kernel_rfl)) (by kernel_rfl) (by kernel_rfl))) (ev_op op_fdivD (ev_var 10 (by kernel_rfl) (Or.inl (by kernel_rfl)) (by kernel_rfl) (by kernel_rfl)) ev_int)) ev_nil (by kernel_rfl)) (by kernel_rfl)) (by kernel_rfl) (by kernel_rfl) (by kernel_rfl) (len_cons (len_cons (fun _ _ _ _ h => len_nil h)))) (fun _ => (by kernel_rfl)))) (ev_bone
 (ev_ret ev_bl)) ev_bnil) (ev_bone
 (ev_ifS (ev_tcmp op_gtD (ev_callB (cl_max rfl) (gl_of (by kernel_rfl)) (hB "max" (by decide +kernel)) (by kernel_rfl) (ev_cons (ev_callB cl_abs (gl_of (by kernel_rfl)) (hB "abs" (by decide +kernel)) (by kernel_rfl) (ev_cons (ev_op op_subD (ev_ix ix_D (ev_var 12 (by kernel_rfl) (Or.inl (by kernel_rfl)) (by kernel_rfl) (by kernel_rfl)) ev_int (fun _ _ => (by kernel_rfl))) (ev_var 9 (by kernel_rfl) (Or.inl (by kernel_rfl)) (by kernel_rfl) (by kernel_rfl))) ev_nil (by kernel_rfl)) (by decide +kernel) (by kernel_rfl) (by kernel_rfl) (by kernel_rfl)) (ev_cons (ev_callB cl_abs (gl_of (by kernel_rfl)) (hB "abs" (by decide +kernel)) (by kernel_rfl) (ev_cons (ev_op op_subD (ev_ix ix_D (ev_var 12 (by kernel_rfl) (Or.inl (by kernel_rfl)) (by kernel_rfl) (by kernel_rfl)) ev_int (fun _ _ => (by kernel_rfl))) (ev_var 10 (by kernel_rfl) (Or.inl (by kernel_rfl)) (by kernel_rfl) (by kernel_rfl))) ev_nil (by kernel_rfl)) (by decide +kernel) (by kernel_rfl) (by kernel_rfl) (by kernel_rfl)) ev_nil (by kernel_rfl)) (by kernel_rfl)) (by decide +kernel) (by kernel_rfl) (by kernel_rfl) (by kernel_rfl)) ev_int (by kernel_rfl)) (ev_bone
 (ev_ret ev_bl)) ev_bnil))))) (fun _ => (by kernel_rfl))) (ev_bone
 (ev_ifS (ev_tnot (ev_tval (ev_callC c_law_none_right (Room.mono (j := 7) (k := 7) hr (by decide)) (gl_of (by kernel_rfl)) thr_no rfl (ev_cons (ev_var 2 (by kernel_rfl) (Or.inl (by kernel_rfl)) (by kernel_rfl) (by kernel_rfl)) (ev_cons (ev_var 5 (by kernel_rfl) (Or.inl (by kernel_rfl)) (by kernel_rfl) (by kernel_rfl)) (ev_cons (ev_var 6 (by kernel_rfl) (Or.inl (by kernel_rfl)) (by kernel_rfl) (by kernel_rfl)) (ev_cons (ev_var 4 (by kernel_rfl) (Or.inl (by kernel_rfl)) (by kernel_rfl) (by kernel_rfl)) ev_nil (by kernel_rfl)) (by kernel_rfl)) (by kernel_rfl)) (by kernel_rfl)) (by kernel_rfl) (by kernel_rfl) (by kernel_rfl) (len_cons (len_cons (len_cons (len_cons (fun _ _ _ _ h => len_nil h)))))) (fun _ => (by kernel_rfl)))) (ev_bone
 (ev_ret ev_bl)) ev_bnil))))))))) (fun _ => (by kernel_rfl)))) (ev_bone
 (ev_ret ev_bl)))

theorem chain {P : Program} {w : World} {K : PySem.W.Frag} {mg : Str → Option Value} {cl : Cls} (hB : ∀ x ∈ bNames, mg x = none) (hC_GREATEST : CstAt mg "GREATEST" (.int 1000000000)) (hX_NoBoard : ExAt K mg cl "NoBoard" 0 (CA 0)) (hX_NoCell : ExAt K mg cl "NoCell" 2 (CA 2)) (hX_NoNumber : ExAt K mg cl "NoNumber" 5 (CA 5)) (d_law_cell_at : DefAt K mg "_law_cell_at" (top 31) P_law_cell_at) (d_law_state : DefAt K mg "_law_state" (top 32) P_law_state) (d_law_choice : DefAt K mg "_law_choice" (top 33) P_law_choice) (d_law_side : DefAt K mg "_law_side" (top 36) P_law_side) (d_law_same : DefAt K mg "_law_same" (top 34) P_law_same) (d_is_whole : DefAt K mg "is_whole" (top 16) P_is_whole) (d_check_sizes : DefAt K mg "check_sizes" (top 24) P_check_sizes) (d_is_couple : DefAt K mg "is_couple" (top 18) P_is_couple) (d_is_cell : DefAt K mg "is_cell" (top 20) P_is_cell) (d_check_cell : DefAt K mg "check_cell" (top 21) P_check_cell) (d_in_threes : DefAt K mg "in_threes" (top 25) P_in_threes) (d_king_of : DefAt K mg "king_of" (top 29) P_king_of) (d_check_whole : DefAt K mg "check_whole" (top 17) P_check_whole) (d_middle_of : DefAt K mg "middle_of" (top 27) P_middle_of) (d_kings : DefAt K mg "kings" (top 26) P_kings) (d_king_at : DefAt K mg "king_at" (top 28) P_king_at) (d_law_said : DefAt K mg "_law_said" (top 35) P_law_said) (d_law_none_right : DefAtC K mg "_law_none_right" (top 37) P_law_none_right CODE_law_none_right) (t_law_none_right : PySem.W.codeHdIn K CODE_law_none_right TAB_law_none_right = true) (u_law_none_right : ((TAB_law_none_right, (("_law_none_right.<locals>." : Str) ++ ("<lambda>" : Str))) : Addr × Str) ∈ Tabs.tl) {f : Addr} {fd : FuncData} (d_law : Fun K "law" "law" (top 38) f fd) (Z : SaidF K mg cl) (base : Heap) (hbm : BMod base mg) : FnOk P w K mg base (CXR P w) 8 f fd P_law (spOf K cl 1 F_law) := by
  have c_law_cell_at : ∀ J : Clos, Cal P w K mg base cl "_law_cell_at" 1 2 F_law_cell_at := fun J => ok_law_cell_at d_law_cell_at hB
  have c_law_state : ∀ J : Clos, Cal P w K mg base cl "_law_state" 2 2 F_law_state := fun J => ok_law_state d_law_state hB (c_law_cell_at _)
  have c_law_choice : ∀ J : Clos, Cal P w K mg base cl "_law_choice" 1 2 F_law_choice := fun J => ok_law_choice d_law_choice
  have c_law_side : ∀ J : Clos, Cal P w K mg base cl "_law_side" 2 1 F_law_side := fun J => ok_law_side d_law_side (c_law_choice _)
  have c_law_same : ∀ J : Clos, Cal P w K mg base cl "_law_same" 1 2 F_law_same := fun J => ok_law_same d_law_same hB
  have c_is_whole : ∀ J : Clos, Cal P w K mg base cl "is_whole" 1 3 F_is_whole := fun J => ok_is_whole d_is_whole hB
  have c_check_sizes : ∀ J : Clos, Cal P w K mg base cl "check_sizes" 2 2 F_check_sizes := fun J => ok_check_sizes d_check_sizes hC_GREATEST (c_is_whole _) hX_NoBoard
  have c_is_couple : ∀ J : Clos, Cal P w K mg base cl "is_couple" 1 1 F_is_couple := fun J => ok_is_couple d_is_couple hB
  have c_is_cell : ∀ J : Clos, Cal P w K mg base cl "is_cell" 2 2 F_is_cell := fun J => ok_is_cell d_is_cell (c_is_couple _) (c_is_whole _)
  have c_check_cell : ∀ J : Clos, Cal P w K mg base cl "check_cell" 3 2 F_check_cell := fun J => ok_check_cell d_check_cell (c_is_cell _) hX_NoCell
  have c_in_threes : ∀ J : Clos, Cal P w K mg base cl "in_threes" 1 1 F_in_threes := fun J => ok_in_threes d_in_threes
  have c_king_of : ∀ J : Clos, Cal P w K mg base cl "king_of" 4 3 F_king_of := fun J => ok_king_of d_king_of (c_check_cell _) (c_check_sizes _) (c_in_threes _)
  have c_check_whole : ∀ J : Clos, Cal P w K mg base cl "check_whole" 2 3 F_check_whole := fun J => ok_check_whole d_check_whole (c_is_whole _) hX_NoNumber
  have c_middle_of : ∀ J : Clos, Cal P w K mg base cl "middle_of" 1 2 F_middle_of := fun J => ok_middle_of d_middle_of hB
  have c_kings : ∀ J : Clos, Cal P w K mg base cl "kings" 3 2 F_kings := fun J => ok_kings d_kings (c_check_sizes _) (c_in_threes _)
  have c_king_at : ∀ J : Clos, Cal P w K mg base cl "king_at" 4 3 F_king_at := fun J => ok_king_at d_king_at hB (c_check_whole _) (c_in_threes _) (c_kings _) (c_middle_of _)
  have c_law_none_right : ∀ J : Clos, Cal P w K mg base cl "_law_none_right" 7 4 F_law_none_right := fun J => ok_law_none_right d_law_none_right hB c_law_choice c_king_at c_king_of c_kings d_law_said Z hbm t_law_none_right u_law_none_right
  exact ok_law d_law hB (c_law_choice _) (c_law_none_right _) (c_law_same _) (c_law_side _) (c_law_state _) (c_king_at _) (c_king_of _) (c_kings _)
end Ev
end
section
set_option Elab.async false
set_option linter.all false
set_option maxRecDepth 100000
namespace Ev
open PySem L2
def VB_is_couple : VS :=
 (vret (vvand (vcall isiV (vcons (vvr 0) (vcons (vcst (.ty "tuple")) vnil))) (vbin eqV (vcall lenV (vcons (vvr 0) vnil)) (vcst (.int 2)))))
def VF_is_couple : VF := runV 1 VB_is_couple

def VB_is_whole : VS :=
 (vret (vvand (vcall isiV (vcons (vvr 0) (vcons (vcst (.ty "int")) vnil))) (vvand (vun notV (vcall isiV (vcons (vvr 0) (vcons (vcst (.ty "bool")) vnil)))) (vchn (cmpIV fun i j => decide (i ≤ j)) (cmpIV fun i j => decide (i ≤ j)) (vvr 1) (vvr 0) (vvr 2)))))
def VF_is_whole : VF := runV 3 VB_is_whole

def VB_is_cell : VS :=
 (vseq (vasg (vvr 0) (gtup 2 (gcons (gset 2) (gcons (gset 3) gnil))))
 (vret (vvand (vcallF VF_is_couple (vcons (vvr 1) vnil)) (vvand (vcallF VF_is_whole (vcons (vbin ixV (vvr 1) (vcst (.int 0))) (vcons (vcst (.int 0)) (vcons (vbin subV (vvr 2) (vcst (.int 1))) vnil)))) (vcallF VF_is_whole (vcons (vbin ixV (vvr 1) (vcst (.int 1))) (vcons (vcst (.int 0)) (vcons (vbin subV (vvr 3) (vcst (.int 1))) vnil))))))))
def VF_is_cell : VF := runV 4 VB_is_cell

end Ev
end
section
set_option Elab.async false
set_option linter.all false
set_option maxRecDepth 100000
namespace Ev
open PySem L2
def VB_law_cell_at_8c34e : VS :=
 (vseq (vifS (vtb (vbin ltV (vvr 1) (vcall lenV (vcons (vvr 0) vnil)))) (vret (vbin ixV (vvr 0) (vvr 1))) vnx)
 (vret (vcst (.int 0))))
def VF_law_cell_at_8c34e : VF := runV 2 VB_law_cell_at_8c34e

def VB_law_state_04838 : VS :=
 (vseq (vasg (vcallF VF_law_cell_at_8c34e (vcons (vvr 0) (vcons (vvr 1) vnil))) (gset 2))
 (vret (vlst (vcons (vcall maxV (vcons (vcst (.int 0)) (vcons (vbin subV (vvr 2) (vbin powV (vcst (.int 10)) (vcst (.int 18)))) vnil))) (vcons (vbin modV (vvr 2) (vcst (.int 2147483647))) vnil)))))
def VF_law_state_04838 : VF := runVR 3 VB_law_state_04838

def VB_law_same_52f71 : VS :=
 (vret (vbin eqV (vcall reprV (vcons (vvr 0) vnil)) (vcall reprV (vcons (vvr 1) vnil))))
def VF_law_same_52f71 : VF := runV 2 VB_law_same_52f71

end Ev
end
section
set_option Elab.async false
set_option linter.all false
set_option maxRecDepth 100000
namespace Ev
open PySem L2
def VB_check_cell : VS :=
 (vifS (vtnot (vtb (vcallF VF_is_cell (vcons (vvr 0) (vcons (vvr 1) vnil))))) (vraise 2 (vcons (vcst (.str "a cell is a tuple (row, column) of two whole numbers within the board")) vnil)) vnx)
def VF_check_cell : VF := runV 2 VB_check_cell

end Ev
end
section
set_option Elab.async false
set_option linter.all false
set_option maxRecDepth 100000
namespace Ev
open PySem L2
end Ev
end
section
set_option Elab.async false
set_option linter.all false
set_option maxRecDepth 100000
namespace Ev
open PySem L2
end Ev
end
section
set_option Elab.async false
set_option linter.all false
set_option maxRecDepth 100000
namespace Ev
open PySem L2
end Ev
end
section
set_option Elab.async false
set_option linter.all false
set_option maxRecDepth 100000
namespace Ev
open PySem L2
end Ev
end
section
set_option Elab.async false
set_option linter.all false
set_option maxRecDepth 100000
namespace Ev
open PySem L2
end Ev
end
section
set_option Elab.async false
set_option linter.all false
set_option maxRecDepth 100000
namespace Ev
open PySem L2
end Ev
end
section
set_option Elab.async false
set_option linter.all false
set_option maxRecDepth 100000
namespace Ev
open PySem L2
end Ev
end
section
set_option Elab.async false
set_option linter.all false
set_option maxRecDepth 100000
namespace Ev
open PySem L2
end Ev
end
section
set_option Elab.async false
set_option linter.all false
set_option maxRecDepth 100000
namespace Ev
open PySem L2
end Ev
end
section
set_option Elab.async false
set_option linter.all false
set_option maxRecDepth 100000
namespace Ev
open PySem L2
def VB_check_whole : VS :=
 (vifS (vtnot (vtb (vcallF VF_is_whole (vcons (vvr 0) (vcons (vvr 1) (vcons (vvr 2) vnil)))))) (vraise 5 (vcons (vjoin (vconsJ (vcst (.str "the number is a whole one from ")) (vconsJ (vun fmtV (vvr 1)) (vconsJ (vcst (.str " to ")) (vconsJ (vun fmtV (vvr 2)) vnilJ))))) vnil)) vnx)
def VF_check_whole : VF := runV 3 VB_check_whole

end Ev
end
section
set_option Elab.async false
set_option linter.all false
set_option maxRecDepth 100000
namespace Ev
open PySem L2
end Ev
end
section
set_option Elab.async false
set_option linter.all false
set_option maxRecDepth 100000
namespace Ev
open PySem L2
end Ev
end
section
set_option Elab.async false
set_option linter.all false
set_option maxRecDepth 100000
namespace Ev
open PySem L2
end Ev
end
section
set_option Elab.async false
set_option linter.all false
set_option maxRecDepth 100000
namespace Ev
open PySem L2
end Ev
end
section
set_option Elab.async false
set_option linter.all false
set_option maxRecDepth 100000
namespace Ev
open PySem L2
end Ev
end
section
set_option Elab.async false
set_option linter.all false
set_option maxRecDepth 100000
namespace Ev
open PySem L2
end Ev
end
section
set_option Elab.async false
set_option linter.all false
set_option maxRecDepth 100000
namespace Ev
open PySem L2
end Ev
end
section
set_option Elab.async false
set_option linter.all false
set_option maxRecDepth 100000
namespace Ev
open PySem L2
end Ev
end
section
set_option Elab.async false
set_option linter.all false
set_option maxRecDepth 100000
namespace Ev
open PySem L2
end Ev
end
section
set_option Elab.async false
set_option linter.all false
set_option maxRecDepth 100000
namespace Ev
open PySem L2
end Ev
end
section
set_option Elab.async false
set_option linter.all false
set_option maxRecDepth 100000
namespace Ev
open PySem L2
end Ev
end
section
set_option Elab.async false
set_option linter.all false
set_option maxRecDepth 100000
namespace Ev
open PySem L2
end Ev
end
section
set_option Elab.async false
set_option linter.all false
set_option maxRecDepth 100000
namespace Ev
open PySem L2
end Ev
end
section
set_option Elab.async false
set_option linter.all false
set_option maxRecDepth 100000
namespace Ev
open PySem L2
end Ev
end
section
set_option Elab.async false
set_option linter.all false
set_option maxRecDepth 100000
namespace Ev
open PySem L2
end Ev
end
section
set_option Elab.async false
set_option linter.all false
set_option maxRecDepth 100000
namespace Ev
open PySem L2
def VB_law_side_2ab2c : VS :=
 (vseq (vasg (vlst (vcons (vbin subV (vbin powV (vcst (.int 10)) (vcst (.int 9))) (vcallF drawV (vcons (vvr 0) (vcons (vcst (.int 4)) vnil)))) (vcons (vbin addV (vcst (.int 1)) (vcallF drawV (vcons (vvr 0) (vcons (vbin powV (vcst (.int 10)) (vcst (.int 9))) vnil)))) (vcons (vbin addV (vcst (.int 1)) (vcallF drawV (vcons (vvr 0) (vcons (vcst (.int 5)) vnil)))) vnil)))) (gset 1))
 (vret (vbin ixV (vvr 1) (vcallF drawV (vcons (vvr 0) (vcons (vcst (.int 3)) vnil))))))
def VF_law_side_2ab2c : VF := runV 2 VB_law_side_2ab2c

def VB_check_sizes : VS :=
 (vifS (vtor (vtnot (vtb (vcallF VF_is_whole (vcons (vvr 0) (vcons (vcst (.int 1)) (vcons (vcst (.int 1000000000)) vnil)))))) (vtnot (vtb (vcallF VF_is_whole (vcons (vvr 1) (vcons (vcst (.int 1)) (vcons (vcst (.int 1000000000)) vnil))))))) (vraise 0 (vcons (vcst (.str "high and wide are whole numbers, each from 1 to 10 ** 9")) vnil)) vnx)
def VF_check_sizes : VF := runV 2 VB_check_sizes

def VB_in_threes : VS :=
 (vret (vbin fdivV (vbin addV (vvr 0) (vcst (.int 2))) (vcst (.int 3))))
def VF_in_threes : VF := runV 1 VB_in_threes

def VB_king_of : VS :=
 (vseq (vexpr (vcallF VF_check_sizes (vcons (vvr 0) (vcons (vvr 1) vnil))))
 (vseq (vexpr (vcallF VF_check_cell (vcons (vtup (vcons (vvr 0) (vcons (vvr 1) vnil))) (vcons (vvr 2) vnil))))
 (vseq (vasg (vvr 2) (gtup 2 (gcons (gset 3) (gcons (gset 4) gnil))))
 (vret (vbin addV (vbin mulV (vbin fdivV (vvr 3) (vcst (.int 3))) (vcallF VF_in_threes (vcons (vvr 1) vnil))) (vbin fdivV (vvr 4) (vcst (.int 3))))))))
def VF_king_of : VF := runV 5 VB_king_of

def VB_middle_of : VS :=
 (vret (vcall minV (vcons (vbin addV (vbin mulV (vcst (.int 3)) (vvr 0)) (vcst (.int 1))) (vcons (vbin subV (vvr 1) (vcst (.int 1))) vnil))))
def VF_middle_of : VF := runV 2 VB_middle_of

def VB_kings : VS :=
 (vseq (vexpr (vcallF VF_check_sizes (vcons (vvr 0) (vcons (vvr 1) vnil))))
 (vret (vbin mulV (vcallF VF_in_threes (vcons (vvr 0) vnil)) (vcallF VF_in_threes (vcons (vvr 1) vnil)))))
def VF_kings : VF := runV 2 VB_kings

def VB_king_at : VS :=
 (vseq (vexpr (vcallF VF_check_whole (vcons (vvr 2) (vcons (vcst (.int 0)) (vcons (vbin subV (vcallF VF_kings (vcons (vvr 0) (vcons (vvr 1) vnil))) (vcst (.int 1))) vnil)))))
 (vseq (vasg (vcall divmodV (vcons (vvr 2) (vcons (vcallF VF_in_threes (vcons (vvr 1) vnil)) vnil))) (gtup 2 (gcons (gset 3) (gcons (gset 4) gnil))))
 (vret (vtup (vcons (vcallF VF_middle_of (vcons (vvr 3) (vcons (vvr 0) vnil))) (vcons (vcallF VF_middle_of (vcons (vvr 4) (vcons (vvr 1) vnil))) vnil))))))
def VF_king_at : VF := runV 5 VB_king_at

def VB_law_none_right_0cc4b : VS :=
 (vseq (vasg (vbin ixV (vlst (vcons (vcst (.int 0)) (vcons (vun negV (vcst (.int 1))) (vcons (vbin addV (vbin powV (vcst (.int 10)) (vcst (.int 9))) (vcst (.int 1))) (vcons (vbin powV (vcst (.int 10)) (vcst (.int 29))) (vcons (vcst (.bl true)) (vcons (vcst .non) (vcons (vcst (.str "3")) (vcons (vtup (vcons (vcst (.int 3)) vnil)) vnil))))))))) (vcallF drawV (vcons (vvr 0) (vcons (vcst (.int 8)) vnil)))) (gset 4))
 (vseq (vasg (vcallF VF_kings (vcons (vvr 1) (vcons (vvr 2) vnil))) (gset 5))
 (vseq (vasg (vbin ixV (vlst (vcons (vun negV (vcst (.int 1))) (vcons (vvr 5) (vcons (vbin addV (vvr 5) (vbin powV (vcst (.int 10)) (vcst (.int 9)))) (vcons (vcst (.bl true)) (vcons (vcst .non) (vcons (vcst (.str "0")) vnil))))))) (vcallF drawV (vcons (vvr 0) (vcons (vcst (.int 6)) vnil)))) (gset 6))
 (vseq (vasg (vvr 3) (gtup 2 (gcons (gset 9) (gcons (gset 10) gnil))))
 (vseq (vasg (vbin ixV (vlst (vcons (vtup (vcons (vun negV (vcst (.int 1))) (vcons (vvr 10) vnil))) (vcons (vtup (vcons (vvr 1) (vcons (vvr 10) vnil))) (vcons (vtup (vcons (vvr 9) (vcons (vvr 2) vnil))) (vcons (vlst (vcons (vvr 9) (vcons (vvr 10) vnil))) (vcons (vcst .non) (vcons (vvr 9) (vcons (vtup (vcons (vvr 9) vnil)) vnil)))))))) (vcallF drawV (vcons (vvr 0) (vcons (vcst (.int 7)) vnil)))) (gset 7))
 (vseq (vasg (vlst (vcons (cloV 0) vnil)) (gset 8))
 (vseq (vmut "list" 8 appendV (vcons (cloV 1) vnil))
 (vseq (vmut "list" 8 appendV (vcons (cloV 2) vnil))
 (vseq (vmut "list" 8 appendV (vcons (cloV 3) vnil))
 (vseq (vmut "list" 8 appendV (vcons (cloV 4) vnil))
 (vseq (vmut "list" 8 appendV (vcons (cloV 5) vnil))
 (vseq (vmut "list" 8 appendV (vcons (cloV 6) vnil))
 (vseq (vmut "list" 8 appendV (vcons (cloV 7) vnil))
 (vret (vbin eqV (vcmp (vseqI (vvr 8)) [11] (gset 11) vyes (vsaidX (saidWV [0, 2, 5]) (vfbs [(vcallF VF_kings (vcons (vvr 4) (vcons (vvr 2) vnil))), (vcallF VF_kings (vcons (vvr 1) (vcons (vvr 4) vnil))), (vcallF VF_king_at (vcons (vvr 4) (vcons (vvr 2) (vcons (vvr 6) vnil)))), (vcallF VF_king_at (vcons (vvr 1) (vcons (vvr 4) (vcons (vcst (.int 0)) vnil)))), (vcallF VF_king_of (vcons (vvr 4) (vcons (vvr 4) (vcons (vvr 7) vnil)))), (vcallF VF_king_of (vcons (vvr 1) (vcons (vvr 4) (vcons (vvr 3) vnil)))), (vcallF VF_king_at (vcons (vvr 1) (vcons (vvr 2) (vcons (vvr 6) vnil)))), (vcallF VF_king_of (vcons (vvr 1) (vcons (vvr 2) (vcons (vvr 7) vnil))))]) 11)) (vbin addV (vbin mulV (vlst (vcons (vcst (.str "board")) vnil)) (vcst (.int 6))) (vlst (vcons (vcst (.str "number")) (vcons (vcst (.str "cell")) vnil)))))))))))))))))))
def VF_law_none_right_0cc4b : VF := runVB 12 VB_law_none_right_0cc4b

def VB_law_k61 : VS :=
 (vseq (vnox1 (vfor (vrng1 (vcons (vcall maxV (vcons (vcst (.int 1)) (vcons (vcall minV (vcons (vcall lenV (vcons (vvr 0) vnil)) (vcons (vcst (.int 5)) vnil))) vnil))) vnil)) (gset 1)
 (vseq (vadopt 2 [0, 1] (vcallF VF_law_state_04838 (vcons (vvr 0) (vcons (vvr 1) vnil))))
 (vseq (vpar 5 6 (vcons (vcallF VF_law_side_2ab2c (vcons (vvr 2) vnil)) (vcons (vcallF VF_law_side_2ab2c (vcons (vvr 2) vnil)) vnil)))
 (vseq (vpar 7 8 (vcons (vbin fdivV (vbin addV (vvr 5) (vcst (.int 2))) (vcst (.int 3))) (vcons (vbin fdivV (vbin addV (vvr 6) (vcst (.int 2))) (vcst (.int 3))) vnil)))
 (vseq (vifS (vtnot (vtb (vcallF VF_law_same_52f71 (vcons (vcallF VF_kings (vcons (vvr 5) (vcons (vvr 6) vnil))) (vcons (vbin mulV (vvr 7) (vvr 8)) vnil))))) (vret (vcst (.bl false))) vnx)
 (vseq (vfor (vseqI (vlst (vcons (vcst (.int 0)) (vcons (vbin subV (vbin mulV (vvr 7) (vvr 8)) (vcst (.int 1))) (vcons (vbin subV (vvr 8) (vcst (.int 1))) (vcons (vcallF drawV (vcons (vvr 2) (vcons (vbin mulV (vvr 7) (vvr 8)) vnil))) vnil)))))) (gset 3)
 (vseq (vpar 9 10 (vcons (vbin addV (vbin mulV (vbin fdivV (vvr 3) (vvr 8)) (vcst (.int 3))) (vcst (.int 1))) (vcons (vbin addV (vbin mulV (vbin modV (vvr 3) (vvr 8)) (vcst (.int 3))) (vcst (.int 1))) vnil)))
 (vifS (vtnot (vtb (vcallF VF_law_same_52f71 (vcons (vcallF VF_king_at (vcons (vvr 5) (vcons (vvr 6) (vcons (vvr 3) vnil)))) (vcons (vtup (vcons (vcall minV (vcons (vvr 9) (vcons (vbin subV (vvr 5) (vcst (.int 1))) vnil))) (vcons (vcall minV (vcons (vvr 10) (vcons (vbin subV (vvr 6) (vcst (.int 1))) vnil))) vnil))) vnil))))) (vret (vcst (.bl false))) vnx)))
 (vseq (vasg (vtup (vcons (vcallF drawV (vcons (vvr 2) (vcons (vvr 5) vnil))) (vcons (vcallF drawV (vcons (vvr 2) (vcons (vvr 6) vnil))) vnil))) (gset 4))
 (vseq (vfor (vseqI (vlst (vcons (vvr 4) (vcons (vtup (vcons (vbin subV (vvr 5) (vcst (.int 1))) (vcons (vbin subV (vvr 6) (vcst (.int 1))) vnil))) (vcons (vtup (vcons (vcst (.int 0)) (vcons (vbin subV (vvr 6) (vcst (.int 1))) vnil))) (vcons (vtup (vcons (vbin subV (vvr 5) (vcst (.int 1))) (vcons (vbin ixV (vvr 4) (vcst (.int 1))) vnil))) (vcons (vtup (vcons (vcall maxV (vcons (vcst (.int 0)) (vcons (vbin subV (vvr 5) (vcst (.int 2))) vnil))) (vcons (vcst (.int 0)) vnil))) vnil))))))) (gtup 2 (gcons (gset 9) (gcons (gset 10) gnil)))
 (vseq (vasg (vcallF VF_king_of (vcons (vvr 5) (vcons (vvr 6) (vcons (vtup (vcons (vvr 9) (vcons (vvr 10) vnil))) vnil)))) (gset 11))
 (vseq (vasg (vcallF VF_king_at (vcons (vvr 5) (vcons (vvr 6) (vcons (vvr 11) vnil)))) (gset 12))
 (vseq (vifS (vtnot (vtb (vcallF VF_law_same_52f71 (vcons (vvr 11) (vcons (vbin addV (vbin mulV (vbin fdivV (vvr 9) (vcst (.int 3))) (vvr 8)) (vbin fdivV (vvr 10) (vcst (.int 3)))) vnil))))) (vret (vcst (.bl false))) vnx)
 (vifS (vtb (vbin (cmpIV fun i j => decide (j < i)) (vcall maxV (vcons (vcall absV (vcons (vbin subV (vbin ixV (vvr 12) (vcst (.int 0))) (vvr 9)) vnil)) (vcons (vcall absV (vcons (vbin subV (vbin ixV (vvr 12) (vcst (.int 1))) (vvr 10)) vnil)) vnil))) (vcst (.int 1)))) (vret (vcst (.bl false))) vnx)))))
 (vifS (vtnot (vtb (vcallF VF_law_none_right_0cc4b (vcons (vvr 2) (vcons (vvr 5) (vcons (vvr 6) (vcons (vvr 4) vnil))))))) (vret (vcst (.bl false))) vnx))))))))))
 (vret (vcst (.bl true))))
def VF_law_k61 : VF := runV 13 VB_law_k61
end Ev
end
section
set_option Elab.async false
set_option linter.all false
set_option maxRecDepth 100000
set_option maxHeartbeats 0
namespace Ev
open PySem L2
theorem sim_law_cell_at : SimF F_law_cell_at VF_law_cell_at_8c34e := sim_def (vs := VB_law_cell_at_8c34e) (O1 := [])
 ((sim_seq (O1 := [])
 (sim_ifS (sim_tb (sim_bin so_lt (simB_var 1) (SimE.b (sim_callB so_len (simb_cons (simB_var 0) simb_nil))))) (sim_ret (sim_bin so_ix (simB_var 0) (simB_var 1))) sim_nx) (sim_ret (sim_cst (.int _))) (nb_if nb_ret nb_nx)))
theorem sim_law_state : SimFN F_law_state VF_law_state_04838 := simN_def (vs := VB_law_state_04838) (O1 := [])
 ((sim_seq (O1 := [])
 (sim_asg (sim_callF sim_law_cell_at (sim_cons (sim_var 0 (by decide)) (sim_cons (sim_var 1 (by decide)) sim_nil))) (sim_gset 2 (by decide))) (sim_retF (simN_lst (sim_cons (sim_callB so_max (simb_cons (SimE.b (sim_cst (.int _))) (simb_cons (SimE.b (sim_bin so_sub (simB_var 2) (SimE.b (sim_bin so_pow (SimE.b (sim_cst (.int _))) (SimE.b (sim_cst (.int _))))))) simb_nil))) (sim_cons (sim_bin so_mod (simB_var 2) (SimE.b (sim_cst (.int _)))) sim_nil)))) nb_asg))
theorem sim_law_choice : SimF F_law_choice drawV := sim_draw
theorem sim_law_side : SimF F_law_side VF_law_side_2ab2c := sim_def (vs := VB_law_side_2ab2c) (O1 := [])
 ((sim_seq (O1 := [])
 (sim_asg (SimN.e (simN_lst (sim_cons (sim_bin so_sub (SimE.b (sim_bin so_pow (SimE.b (sim_cst (.int _))) (SimE.b (sim_cst (.int _))))) (SimE.b (sim_callF sim_law_choice (sim_cons (sim_var 0 (by decide)) (sim_cons (sim_cst (.int _)) sim_nil))))) (sim_cons (sim_bin so_add (SimE.b (sim_cst (.int _))) (SimE.b (sim_callF sim_law_choice (sim_cons (sim_var 0 (by decide)) (sim_cons (sim_bin so_pow (SimE.b (sim_cst (.int _))) (SimE.b (sim_cst (.int _)))) sim_nil))))) (sim_cons (sim_bin so_add (SimE.b (sim_cst (.int _))) (SimE.b (sim_callF sim_law_choice (sim_cons (sim_var 0 (by decide)) (sim_cons (sim_cst (.int _)) sim_nil))))) sim_nil))))) (sim_gset 1 (by decide))) (sim_ret (sim_bin so_ix (simB_var 1) (SimE.b (sim_callF sim_law_choice (sim_cons (sim_var 0 (by decide)) (sim_cons (sim_cst (.int _)) sim_nil)))))) nb_asg))
theorem sim_law_same : SimF F_law_same VF_law_same_52f71 := sim_def (vs := VB_law_same_52f71) (O1 := [])
 ((sim_ret (sim_bin so_eq (SimE.b (sim_callB so_repr (simb_cons (simB_var 0) simb_nil))) (SimE.b (sim_callB so_repr (simb_cons (simB_var 1) simb_nil))))))
theorem sim_is_whole : SimF F_is_whole VF_is_whole := sim_def (vs := VB_is_whole) (O1 := [])
 ((sim_ret (sim_and (sim_callB so_isi (simb_cons (simB_var 0) (simb_cons (SimE.b (sim_cst (.ty _))) simb_nil))) (sim_and (sim_un so_not (SimE.b (sim_callB so_isi (simb_cons (simB_var 0) (simb_cons (SimE.b (sim_cst (.ty _))) simb_nil))))) (sim_chn (so_cmpI _) (so_cmpI _) (simB_var 1) (simB_var 0) (simB_var 2))))))
theorem sim_check_sizes : SimF F_check_sizes VF_check_sizes := sim_def (vs := VB_check_sizes) (O1 := [])
 ((sim_ifS (sim_tor (sim_tnot (sim_tb (sim_callF sim_is_whole (sim_cons (sim_var 0 (by decide)) (sim_cons (sim_cst (.int _)) (sim_cons (sim_cst (.int _)) sim_nil)))))) (sim_tnot (sim_tb (sim_callF sim_is_whole (sim_cons (sim_var 1 (by decide)) (sim_cons (sim_cst (.int _)) (sim_cons (sim_cst (.int _)) sim_nil))))))) (sim_raise (sim_cons (sim_cst (.str _)) sim_nil)) sim_nx))
theorem sim_is_couple : SimF F_is_couple VF_is_couple := sim_def (vs := VB_is_couple) (O1 := [])
 ((sim_ret (sim_and (sim_callB so_isi (simb_cons (simB_var 0) (simb_cons (SimE.b (sim_cst (.ty _))) simb_nil))) (sim_bin so_eq (SimE.b (sim_callB so_len (simb_cons (simB_var 0) simb_nil))) (SimE.b (sim_cst (.int _)))))))
theorem sim_is_cell : SimF F_is_cell VF_is_cell := sim_def (vs := VB_is_cell) (O1 := [])
 ((sim_seq (O1 := [])
 (sim_asg (sim_var 0 (by decide)) (sim_gtup (sim_gcons (sim_gset 2 (by decide)) (sim_gcons (sim_gset 3 (by decide)) sim_gnil)))) (sim_ret (sim_and (sim_callF sim_is_couple (sim_cons (sim_var 1 (by decide)) sim_nil)) (sim_and (sim_callF sim_is_whole (sim_cons (sim_bin so_ix (simB_var 1) (SimE.b (sim_cst (.int _)))) (sim_cons (sim_cst (.int _)) (sim_cons (sim_bin so_sub (simB_var 2) (SimE.b (sim_cst (.int _)))) sim_nil)))) (sim_callF sim_is_whole (sim_cons (sim_bin so_ix (simB_var 1) (SimE.b (sim_cst (.int _)))) (sim_cons (sim_cst (.int _)) (sim_cons (sim_bin so_sub (simB_var 3) (SimE.b (sim_cst (.int _)))) sim_nil))))))) nb_asg))
theorem sim_check_cell : SimF F_check_cell VF_check_cell := sim_def (vs := VB_check_cell) (O1 := [])
 ((sim_ifS (sim_tnot (sim_tb (sim_callF sim_is_cell (sim_cons (sim_var 0 (by decide)) (sim_cons (sim_var 1 (by decide)) sim_nil))))) (sim_raise (sim_cons (sim_cst (.str _)) sim_nil)) sim_nx))
theorem sim_in_threes : SimF F_in_threes VF_in_threes := sim_def (vs := VB_in_threes) (O1 := [])
 ((sim_ret (sim_bin so_fdiv (SimE.b (sim_bin so_add (simB_var 0) (SimE.b (sim_cst (.int _))))) (SimE.b (sim_cst (.int _))))))
theorem sim_king_of : SimF F_king_of VF_king_of := sim_def (vs := VB_king_of) (O1 := [])
 ((sim_seq (O1 := [])
 (sim_expr (sim_callF sim_check_sizes (sim_cons (sim_var 0 (by decide)) (sim_cons (sim_var 1 (by decide)) sim_nil)))) (sim_seq (O1 := [])
 (sim_expr (sim_callF sim_check_cell (sim_cons (sim_tup (sim_cons (sim_var 0 (by decide)) (sim_cons (sim_var 1 (by decide)) sim_nil))) (sim_cons (sim_var 2 (by decide)) sim_nil)))) (sim_seq (O1 := [])
 (sim_asg (sim_var 2 (by decide)) (sim_gtup (sim_gcons (sim_gset 3 (by decide)) (sim_gcons (sim_gset 4 (by decide)) sim_gnil)))) (sim_ret (sim_bin so_add (SimE.b (sim_bin so_mul (SimE.b (sim_bin so_fdiv (simB_var 3) (SimE.b (sim_cst (.int _))))) (SimE.b (sim_callF sim_in_threes (sim_cons (sim_var 1 (by decide)) sim_nil))))) (SimE.b (sim_bin so_fdiv (simB_var 4) (SimE.b (sim_cst (.int _))))))) nb_asg) nb_expr) nb_expr))
theorem sim_check_whole : SimF F_check_whole VF_check_whole := sim_def (vs := VB_check_whole) (O1 := [])
 ((sim_ifS (sim_tnot (sim_tb (sim_callF sim_is_whole (sim_cons (sim_var 0 (by decide)) (sim_cons (sim_var 1 (by decide)) (sim_cons (sim_var 2 (by decide)) sim_nil)))))) (sim_raise (sim_cons (sim_join (sim_jcons (sim_cst (.str _)) (sim_jcons (sim_un so_fmt (simB_var 1)) (sim_jcons (sim_cst (.str _)) (sim_jcons (sim_un so_fmt (simB_var 2)) sim_jnil))))) sim_nil)) sim_nx))
theorem sim_middle_of : SimF F_middle_of VF_middle_of := sim_def (vs := VB_middle_of) (O1 := [])
 ((sim_ret (sim_callB so_min (simb_cons (SimE.b (sim_bin so_add (SimE.b (sim_bin so_mul (SimE.b (sim_cst (.int _))) (simB_var 0))) (SimE.b (sim_cst (.int _))))) (simb_cons (SimE.b (sim_bin so_sub (simB_var 1) (SimE.b (sim_cst (.int _))))) simb_nil)))))
theorem sim_kings : SimF F_kings VF_kings := sim_def (vs := VB_kings) (O1 := [])
 ((sim_seq (O1 := [])
 (sim_expr (sim_callF sim_check_sizes (sim_cons (sim_var 0 (by decide)) (sim_cons (sim_var 1 (by decide)) sim_nil)))) (sim_ret (sim_bin so_mul (SimE.b (sim_callF sim_in_threes (sim_cons (sim_var 0 (by decide)) sim_nil))) (SimE.b (sim_callF sim_in_threes (sim_cons (sim_var 1 (by decide)) sim_nil))))) nb_expr))
theorem sim_king_at : SimF F_king_at VF_king_at := sim_def (vs := VB_king_at) (O1 := [])
 ((sim_seq (O1 := [])
 (sim_expr (sim_callF sim_check_whole (sim_cons (sim_var 2 (by decide)) (sim_cons (sim_cst (.int _)) (sim_cons (sim_bin so_sub (SimE.b (sim_callF sim_kings (sim_cons (sim_var 0 (by decide)) (sim_cons (sim_var 1 (by decide)) sim_nil)))) (SimE.b (sim_cst (.int _)))) sim_nil))))) (sim_seq (O1 := [])
 (sim_asg (sim_callB so_divmod (simb_cons (simB_var 2) (simb_cons (SimE.b (sim_callF sim_in_threes (sim_cons (sim_var 1 (by decide)) sim_nil))) simb_nil))) (sim_gtup (sim_gcons (sim_gset 3 (by decide)) (sim_gcons (sim_gset 4 (by decide)) sim_gnil)))) (sim_ret (sim_tup (sim_cons (sim_callF sim_middle_of (sim_cons (sim_var 3 (by decide)) (sim_cons (sim_var 0 (by decide)) sim_nil))) (sim_cons (sim_callF sim_middle_of (sim_cons (sim_var 4 (by decide)) (sim_cons (sim_var 1 (by decide)) sim_nil))) sim_nil)))) nb_asg) nb_expr))
theorem sim_law_none_right : SimF F_law_none_right VF_law_none_right_0cc4b := sim_defB (vs := VB_law_none_right_0cc4b) (O1 := [])
 ((sim_seq (O1 := [])
 (sim_asg (sim_bin so_ix (SimE.b (SimN.e (simN_lst (sim_cons (sim_cst (.int _)) (sim_cons (sim_un so_neg (SimE.b (sim_cst (.int _)))) (sim_cons (sim_bin so_add (SimE.b (sim_bin so_pow (SimE.b (sim_cst (.int _))) (SimE.b (sim_cst (.int _))))) (SimE.b (sim_cst (.int _)))) (sim_cons (sim_bin so_pow (SimE.b (sim_cst (.int _))) (SimE.b (sim_cst (.int _)))) (sim_cons (sim_cst (.bl _)) (sim_cons (sim_cst .non) (sim_cons (sim_cst (.str _)) (sim_cons (sim_tup (sim_cons (sim_cst (.int _)) sim_nil)) sim_nil))))))))))) (SimE.b (sim_callF sim_law_choice (sim_cons (sim_var 0 (by decide)) (sim_cons (sim_cst (.int _)) sim_nil))))) (sim_gset 4 (by decide))) (sim_seq (O1 := [])
 (sim_asg (sim_callF sim_kings (sim_cons (sim_var 1 (by decide)) (sim_cons (sim_var 2 (by decide)) sim_nil))) (sim_gset 5 (by decide))) (sim_seq (O1 := [])
 (sim_asg (sim_bin so_ix (SimE.b (SimN.e (simN_lst (sim_cons (sim_un so_neg (SimE.b (sim_cst (.int _)))) (sim_cons (sim_var 5 (by decide)) (sim_cons (sim_bin so_add (simB_var 5) (SimE.b (sim_bin so_pow (SimE.b (sim_cst (.int _))) (SimE.b (sim_cst (.int _)))))) (sim_cons (sim_cst (.bl _)) (sim_cons (sim_cst .non) (sim_cons (sim_cst (.str _)) sim_nil))))))))) (SimE.b (sim_callF sim_law_choice (sim_cons (sim_var 0 (by decide)) (sim_cons (sim_cst (.int _)) sim_nil))))) (sim_gset 6 (by decide))) (sim_seq (O1 := [])
 (sim_asg (sim_var 3 (by decide)) (sim_gtup (sim_gcons (sim_gset 9 (by decide)) (sim_gcons (sim_gset 10 (by decide)) sim_gnil)))) (sim_seq (O1 := [])
 (sim_asg (sim_bin so_ix (SimE.b (SimN.e (simN_lst (sim_cons (sim_tup (sim_cons (sim_un so_neg (SimE.b (sim_cst (.int _)))) (sim_cons (sim_var 10 (by decide)) sim_nil))) (sim_cons (sim_tup (sim_cons (sim_var 1 (by decide)) (sim_cons (sim_var 10 (by decide)) sim_nil))) (sim_cons (sim_tup (sim_cons (sim_var 9 (by decide)) (sim_cons (sim_var 2 (by decide)) sim_nil))) (sim_cons (SimN.e (simN_lst (sim_cons (sim_var 9 (by decide)) (sim_cons (sim_var 10 (by decide)) sim_nil)))) (sim_cons (sim_cst .non) (sim_cons (sim_var 9 (by decide)) (sim_cons (sim_tup (sim_cons (sim_var 9 (by decide)) sim_nil)) sim_nil)))))))))) (SimE.b (sim_callF sim_law_choice (sim_cons (sim_var 0 (by decide)) (sim_cons (sim_cst (.int _)) sim_nil))))) (sim_gset 7 (by decide))) (sim_seq (O1 := [8])
 (sim_own (O := []) (O1 := [8]) 8 (simN_lst (sim_cons (sim_clo 0) sim_nil)) (by decide) (by decide) (by decide)) (sim_seq (O1 := [8])
 (sim_mut so_append (sim_cons (sim_clo 1) sim_nil) (by decide)) (sim_seq (O1 := [8])
 (sim_mut so_append (sim_cons (sim_clo 2) sim_nil) (by decide)) (sim_seq (O1 := [8])
 (sim_mut so_append (sim_cons (sim_clo 3) sim_nil) (by decide)) (sim_seq (O1 := [8])
 (sim_mut so_append (sim_cons (sim_clo 4) sim_nil) (by decide)) (sim_seq (O1 := [8])
 (sim_mut so_append (sim_cons (sim_clo 5) sim_nil) (by decide)) (sim_seq (O1 := [8])
 (sim_mut so_append (sim_cons (sim_clo 6) sim_nil) (by decide)) (sim_seq (O1 := [8])
 (sim_mut so_append (sim_cons (sim_clo 7) sim_nil) (by decide)) (sim_ret (sim_bin so_eq (SimE.b (SimN.e (simN_cmp (sim_iseqB (simB_var 8)) (sim_gset 11 (by decide)) sim_yes (sim_saidX (by decide) (sim_fb_cons rfl (sim_callF sim_kings (sim_cons (sim_var 4 (by decide)) (sim_cons (sim_var 2 (by decide)) sim_nil))) (sim_fb_cons rfl (sim_callF sim_kings (sim_cons (sim_var 1 (by decide)) (sim_cons (sim_var 4 (by decide)) sim_nil))) (sim_fb_cons rfl (sim_callF sim_king_at (sim_cons (sim_var 4 (by decide)) (sim_cons (sim_var 2 (by decide)) (sim_cons (sim_var 6 (by decide)) sim_nil)))) (sim_fb_cons rfl (sim_callF sim_king_at (sim_cons (sim_var 1 (by decide)) (sim_cons (sim_var 4 (by decide)) (sim_cons (sim_cst (.int _)) sim_nil)))) (sim_fb_cons rfl (sim_callF sim_king_of (sim_cons (sim_var 4 (by decide)) (sim_cons (sim_var 4 (by decide)) (sim_cons (sim_var 7 (by decide)) sim_nil)))) (sim_fb_cons rfl (sim_callF sim_king_of (sim_cons (sim_var 1 (by decide)) (sim_cons (sim_var 4 (by decide)) (sim_cons (sim_var 3 (by decide)) sim_nil)))) (sim_fb_cons rfl (sim_callF sim_king_at (sim_cons (sim_var 1 (by decide)) (sim_cons (sim_var 2 (by decide)) (sim_cons (sim_var 6 (by decide)) sim_nil)))) (sim_fb_cons rfl (sim_callF sim_king_of (sim_cons (sim_var 1 (by decide)) (sim_cons (sim_var 2 (by decide)) (sim_cons (sim_var 7 (by decide)) sim_nil)))) sim_fb_nil))))))))) (by decide)))) (SimE.b (sim_bin so_add (SimE.b (sim_bin so_mul (SimE.b (SimN.e (simN_lst (sim_cons (sim_cst (.str _)) sim_nil)))) (SimE.b (sim_cst (.int _))))) (SimE.b (SimN.e (simN_lst (sim_cons (sim_cst (.str _)) (sim_cons (sim_cst (.str _)) sim_nil))))))))) nb_mut) nb_mut) nb_mut) nb_mut) nb_mut) nb_mut) nb_mut) nb_asg) nb_asg) nb_asg) nb_asg) nb_asg) nb_asg))
theorem simL_law (ns : List Int) (g : Gs) (e : ∃ g', VF_law_k61 [.fl (ns.map Y.int)] g = some (.ok (.bl true), g')) : ∃ S', F_law [.fl (ns.map D.int)] [] = some (.ok (.bl true), S') := Ev.sim_law (vs := VB_law_k61) (O1 := []) ((sim_seq (O1 := [])
 (sim_nox (sim_forL (sim_cons (sim_callB so_max (simb_cons (SimE.b (sim_cst (.int _))) (simb_cons (SimE.b (sim_callB so_min (simb_cons (SimE.b (sim_callB so_len (simb_cons (simB_var 0) simb_nil))) (simb_cons (SimE.b (sim_cst (.int _))) simb_nil)))) simb_nil))) sim_nil) (sim_gset 1 (by decide))
 (sim_seq (O1 := [])
 (sim_adopt (keep := [0, 1]) (simN_callF sim_law_state (sim_cons (sim_var 0 (by decide)) (sim_cons (sim_var 1 (by decide)) sim_nil)))) (sim_seq (O1 := [])
 (sim_par (sim_cons (sim_callF sim_law_side (sim_cons (sim_var 2 (by decide)) sim_nil)) (sim_cons (sim_callF sim_law_side (sim_cons (sim_var 2 (by decide)) sim_nil)) sim_nil)) (by decide) (by decide)) (sim_seq (O1 := [])
 (sim_par (sim_cons (sim_bin so_fdiv (SimE.b (sim_bin so_add (simB_var 5) (SimE.b (sim_cst (.int _))))) (SimE.b (sim_cst (.int _)))) (sim_cons (sim_bin so_fdiv (SimE.b (sim_bin so_add (simB_var 6) (SimE.b (sim_cst (.int _))))) (SimE.b (sim_cst (.int _)))) sim_nil)) (by decide) (by decide)) (sim_seq (O1 := [])
 (sim_ifS (sim_tnot (sim_tb (sim_callF sim_law_same (sim_cons (sim_callF sim_kings (sim_cons (sim_var 5 (by decide)) (sim_cons (sim_var 6 (by decide)) sim_nil))) (sim_cons (sim_bin so_mul (simB_var 7) (simB_var 8)) sim_nil))))) (sim_ret (sim_cst (.bl _))) sim_nx) (sim_seq (O1 := [])
 (sim_fx (sim_for (sim_iseq (SimN.e (simN_lst (sim_cons (sim_cst (.int _)) (sim_cons (sim_bin so_sub (SimE.b (sim_bin so_mul (simB_var 7) (simB_var 8))) (SimE.b (sim_cst (.int _)))) (sim_cons (sim_bin so_sub (simB_var 8) (SimE.b (sim_cst (.int _)))) (sim_cons (sim_callF sim_law_choice (sim_cons (sim_var 2 (by decide)) (sim_cons (sim_bin so_mul (simB_var 7) (simB_var 8)) sim_nil))) sim_nil))))))) (sim_gset 3 (by decide))
 (sim_seq (O1 := [])
 (sim_par (sim_cons (sim_bin so_add (SimE.b (sim_bin so_mul (SimE.b (sim_bin so_fdiv (simB_var 3) (simB_var 8))) (SimE.b (sim_cst (.int _))))) (SimE.b (sim_cst (.int _)))) (sim_cons (sim_bin so_add (SimE.b (sim_bin so_mul (SimE.b (sim_bin so_mod (simB_var 3) (simB_var 8))) (SimE.b (sim_cst (.int _))))) (SimE.b (sim_cst (.int _)))) sim_nil)) (by decide) (by decide)) (sim_ifS (sim_tnot (sim_tb (sim_callF sim_law_same (sim_cons (sim_callF sim_king_at (sim_cons (sim_var 5 (by decide)) (sim_cons (sim_var 6 (by decide)) (sim_cons (sim_var 3 (by decide)) sim_nil)))) (sim_cons (sim_tup (sim_cons (sim_callB so_min (simb_cons (simB_var 9) (simb_cons (SimE.b (sim_bin so_sub (simB_var 5) (SimE.b (sim_cst (.int _))))) simb_nil))) (sim_cons (sim_callB so_min (simb_cons (simB_var 10) (simb_cons (SimE.b (sim_bin so_sub (simB_var 6) (SimE.b (sim_cst (.int _))))) simb_nil))) sim_nil))) sim_nil))))) (sim_ret (sim_cst (.bl _))) sim_nx) nb_par))) (sim_seq (O1 := [])
 (sim_asg (sim_tup (sim_cons (sim_callF sim_law_choice (sim_cons (sim_var 2 (by decide)) (sim_cons (sim_var 5 (by decide)) sim_nil))) (sim_cons (sim_callF sim_law_choice (sim_cons (sim_var 2 (by decide)) (sim_cons (sim_var 6 (by decide)) sim_nil))) sim_nil))) (sim_gset 4 (by decide))) (sim_seq (O1 := [])
 (sim_fx (sim_for (sim_iseq (SimN.e (simN_lst (sim_cons (sim_var 4 (by decide)) (sim_cons (sim_tup (sim_cons (sim_bin so_sub (simB_var 5) (SimE.b (sim_cst (.int _)))) (sim_cons (sim_bin so_sub (simB_var 6) (SimE.b (sim_cst (.int _)))) sim_nil))) (sim_cons (sim_tup (sim_cons (sim_cst (.int _)) (sim_cons (sim_bin so_sub (simB_var 6) (SimE.b (sim_cst (.int _)))) sim_nil))) (sim_cons (sim_tup (sim_cons (sim_bin so_sub (simB_var 5) (SimE.b (sim_cst (.int _)))) (sim_cons (sim_bin so_ix (simB_var 4) (SimE.b (sim_cst (.int _)))) sim_nil))) (sim_cons (sim_tup (sim_cons (sim_callB so_max (simb_cons (SimE.b (sim_cst (.int _))) (simb_cons (SimE.b (sim_bin so_sub (simB_var 5) (SimE.b (sim_cst (.int _))))) simb_nil))) (sim_cons (sim_cst (.int _)) sim_nil))) sim_nil)))))))) (sim_gtup (sim_gcons (sim_gset 9 (by decide)) (sim_gcons (sim_gset 10 (by decide)) sim_gnil)))
 (sim_seq (O1 := [])
 (sim_asg (sim_callF sim_king_of (sim_cons (sim_var 5 (by decide)) (sim_cons (sim_var 6 (by decide)) (sim_cons (sim_tup (sim_cons (sim_var 9 (by decide)) (sim_cons (sim_var 10 (by decide)) sim_nil))) sim_nil)))) (sim_gset 11 (by decide))) (sim_seq (O1 := [])
 (sim_asg (sim_callF sim_king_at (sim_cons (sim_var 5 (by decide)) (sim_cons (sim_var 6 (by decide)) (sim_cons (sim_var 11 (by decide)) sim_nil)))) (sim_gset 12 (by decide))) (sim_seq (O1 := [])
 (sim_ifS (sim_tnot (sim_tb (sim_callF sim_law_same (sim_cons (sim_var 11 (by decide)) (sim_cons (sim_bin so_add (SimE.b (sim_bin so_mul (SimE.b (sim_bin so_fdiv (simB_var 9) (SimE.b (sim_cst (.int _))))) (simB_var 8))) (SimE.b (sim_bin so_fdiv (simB_var 10) (SimE.b (sim_cst (.int _)))))) sim_nil))))) (sim_ret (sim_cst (.bl _))) sim_nx) (sim_ifS (sim_tb (sim_bin (so_cmpI _) (SimE.b (sim_callB so_max (simb_cons (SimE.b (sim_callB so_abs (simb_cons (SimE.b (sim_bin so_sub (SimE.b (sim_bin so_ix (simB_var 12) (SimE.b (sim_cst (.int _))))) (simB_var 9))) simb_nil))) (simb_cons (SimE.b (sim_callB so_abs (simb_cons (SimE.b (sim_bin so_sub (SimE.b (sim_bin so_ix (simB_var 12) (SimE.b (sim_cst (.int _))))) (simB_var 10))) simb_nil))) simb_nil)))) (SimE.b (sim_cst (.int _))))) (sim_ret (sim_cst (.bl _))) sim_nx) (nb_if nb_ret nb_nx)) nb_asg) nb_asg))) (sim_ifS (sim_tnot (sim_tb (sim_callF sim_law_none_right (sim_cons (sim_var 2 (by decide)) (sim_cons (sim_var 5 (by decide)) (sim_cons (sim_var 6 (by decide)) (sim_cons (sim_var 4 (by decide)) sim_nil))))))) (sim_ret (sim_cst (.bl _))) sim_nx) nb_for) nb_asg) nb_for) (nb_if nb_ret nb_nx)) nb_par) nb_par) nb_adopt))) (sim_ret (sim_cst (.bl _))) (nb_nox nb_for))) ns g e
end Ev
end
section
set_option Elab.async false
set_option linter.all false
set_option maxRecDepth 100000
namespace Ev
open PySem L2
def seqL (y : Y) (g : Gs) : OV (List Y) := match seqOfY y with
  | some ys => some (.ok ys, g)
  | none => none
@[simp] theorem seqL_tup (ys : List Y) (g : Gs) : seqL (.tup ys) g = some (.ok ys, g) := rfl
@[simp] theorem seqL_fl (ys : List Y) (g : Gs) : seqL (.fl ys) g = some (.ok ys, g) := rfl
@[simp] theorem seqL_lst (ys : List Y) (g : Gs) : seqL (.lst ys) g = some (.ok ys, g) := rfl
section
variable {E : VL} {g : Gs} {f h fa fb fc : VE} {c d : VT} {s t : VS} {a b : VA}
@[simp] theorem e_seq : vseq s t E g = bv (s E g) fun fl g1 => match fl with
  | .nx E1 => t E1 g1
  | fl => some (.ok fl, g1) := rfl
@[simp] theorem e_if : vifS c s t E g = bv (c E g) fun b g1 => match b with
  | true => s E g1
  | false => t E g1 := rfl
@[simp] theorem e_ret : vret f E g = bv (f E g) fun y g1 => some (.ok (.rt y), g1) := rfl
@[simp] theorem e_retN : vretN E g = some (.ok (.rt .non), g) := rfl
@[simp] theorem e_nx : vnx E g = some (.ok (.nx E), g) := rfl
@[simp] theorem e_bk : vbk E g = some (.ok (.bk E), g) := rfl
@[simp] theorem e_ct : vct E g = some (.ok (.ct E), g) := rfl
@[simp] theorem e_expr : vexpr f E g = bv (f E g) fun _ g1 => some (.ok (.nx E), g1) := rfl
@[simp] theorem e_asg {vg : Y → VL → Option VL} : vasg f vg E g = bv (f E g) fun y g1 => match vg y E with
  | some E1 => some (.ok (.nx E1), g1)
  | none => none := rfl
@[simp] theorem e_raise {k : Nat} : vraise k a E g = bv (a E g) fun ys g1 => if ys.length ≤ 1000000 then some (.ex (.c k), g1) else none := rfl
@[simp] theorem e_var {i : Nat} : vvr i E g = match E[i]? with
  | some (some y) => some (.ok y, g)
  | _ => none := rfl
@[simp] theorem e_cst {y : Y} : vcst y E g = some (.ok y, g) := rfl
@[simp] theorem e_bin {ov : Y → Y → Option Y} : vbin ov fa fb E g = bv (fa E g) fun a g1 => bv (fb E g1) fun b g2 => liftV (ov a b) g2 := rfl
@[simp] theorem e_un {ov : Y → Option Y} : vun ov fa E g = bv (fa E g) fun a g1 => liftV (ov a) g1 := rfl
@[simp] theorem e_call {ov : List Y → Option Y} : vcall ov a E g = bv (a E g) fun ys g1 => liftV (ov ys) g1 := rfl
@[simp] theorem e_callF {V : VF} : vcallF V a E g = bv (a E g) fun ys g1 => V ys g1 := rfl
@[simp] theorem e_nil : vnil E g = some (.ok [], g) := rfl
@[simp] theorem e_cons : vcons f a E g = bv (f E g) fun y g1 => bv (a E g1) fun ys g2 => some (.ok (y :: ys), g2) := rfl
@[simp] theorem e_tup : vtup a E g = bv (a E g) fun ys g1 => if ys.length ≤ 1000000 then some (.ok (.tup ys), g1) else none := rfl
@[simp] theorem e_lst : vlst a E g = bv (a E g) fun ys g1 => if ys.length ≤ 1000000 then some (.ok (.lst ys), g1) else none := rfl
@[simp] theorem e_tb : vtb f E g = bv (f E g) fun y g1 => match y with
  | .bl b => some (.ok b, g1)
  | _ => none := rfl
@[simp] theorem e_tnot : vtnot c E g = bv (c E g) fun b g1 => some (.ok (!b), g1) := rfl
@[simp] theorem e_tand : vtand c d E g = bv (c E g) fun b g1 => match b with
  | true => d E g1
  | false => some (.ok false, g1) := rfl
@[simp] theorem e_tor : vtor c d E g = bv (c E g) fun b g1 => match b with
  | true => some (.ok true, g1)
  | false => d E g1 := rfl
@[simp] theorem e_and : vvand f h E g = bv (f E g) fun y g1 => match y with
  | .bl true => h E g1
  | .bl false => some (.ok (.bl false), g1)
  | _ => none := rfl
@[simp] theorem e_or : vvor f h E g = bv (f E g) fun y g1 => match y with
  | .bl true => some (.ok (.bl true), g1)
  | .bl false => h E g1
  | _ => none := rfl
@[simp] theorem e_ifE : vif c f h E g = bv (c E g) fun b g1 => match b with
  | true => f E g1
  | false => h E g1 := rfl
@[simp] theorem e_chn {ov ov' : Y → Y → Option Y} : vchn ov ov' fa fb fc E g = bv (fa E g) fun a g1 => bv (fb E g1) fun b g2 => match ov a b with
  | some (.bl true) => bv (fc E g2) fun c g3 => liftV (ov' b c) g3
  | some (.bl false) => some (.ok (.bl false), g2)
  | _ => none := rfl
@[simp] theorem e_par {i j : Nat} : vpar i j a E g = bv (a E g) fun ys g1 => match ys with
  | [y1, y2] => some (.ok (.nx ((E.set i (some y1)).set j (some y2))), g1)
  | _ => none := rfl
@[simp] theorem e_par3 {i j k : Nat} : vpar3 i j k a E g = bv (a E g) fun ys g1 => match ys with
  | [y1, y2, y3] => some (.ok (.nx (((E.set i (some y1)).set j (some y2)).set k (some y3))), g1)
  | _ => none := rfl
@[simp] theorem e_gset {i : Nat} {y : Y} : gset i y E = some (E.set i (some y)) := rfl
@[simp] theorem e_gtup {k : Nat} {w : List Y → VL → Option VL} {ys : List Y} : gtup k w (.tup ys) E = if ys.length = k then w ys E else none := rfl
@[simp] theorem e_gnil : gnil [] E = some E := rfl
@[simp] theorem e_gcons {v : Y → VL → Option VL} {w : List Y → VL → Option VL} {y : Y} {ys : List Y} : gcons v w (y :: ys) E = (v y E).bind (w ys) := rfl
@[simp] theorem e_mut {T : String} {i : Nat} {mv : Y → List Y → Option Y} : vmut T i mv a E g = match E[i]? with
  | some (some y) => if tyY T y = true then bv (a E g) fun ys g1 => match mv y ys with
      | some y' => some (.ok (.nx (E.set i (some y'))), g1)
      | none => none else none
  | _ => none := rfl
@[simp] theorem e_dput {i : Nat} : vdput i fa fb E g = bv (fb E g) fun y g1 => match E[i]? with
  | some (some o) => bv (fa E g1) fun k g2 => match putYo o k y with
    | some o' => some (.ok (.nx (E.set i (some o'))), g2)
    | none => none
  | _ => none := rfl
@[simp] theorem e_daug {ov : Y → Y → Option Y} {i : Nat} : vdaug ov i fa fb E g = match E[i]? with
  | some (some o) => bv (fa E g) fun k g1 => match getYo o k with
    | some (some x) => bv (fb E g1) fun w g2 => match (ov x w).bind fun z => putYo o k z with
      | some o' => some (.ok (.nx (E.set i (some o'))), g2)
      | none => none
    | _ => none
  | _ => none := rfl
@[simp] theorem e_dget : vdget fa fb E g = bv (fa E g) fun o g1 => bv (fb E g1) fun y g2 => match getYo o y with
  | some (some w) => some (.ok w, g2)
  | _ => none := rfl
@[simp] theorem e_nox : vnox1 s E g = noXV (s E g) := rfl
@[simp] theorem e_for {vi : VI} {vg : Y → VL → Option VL} {vb : VS} : vfor vi vg vb E g = bv (vi E g) fun ys g1 => forV (stepV vg vb) ys E g1 := rfl
@[simp] theorem e_seqI : vseqI f E g = bv (f E g) seqL := by
  unfold vseqI
  congr 1
  funext y g1
  cases y <;> rfl
@[simp] theorem e_rng1 : vrng1 a E g = bv (a E g) fun ys g1 => match ys with
  | [.int j] => if -1000000000 ≤ j ∧ j ≤ 1000000000 then some (.ok (rngV 0 j.toNat), g1) else none
  | _ => none := rfl
@[simp] theorem e_rng2 : vrng2 a E g = bv (a E g) fun ys g1 => match ys with
  | [.int i, .int j] => if -1000000000 ≤ i ∧ i ≤ 1000000000 ∧ -1000000000 ≤ j ∧ j ≤ 1000000000 then some (.ok (rngV i (j - i).toNat), g1) else none
  | _ => none := rfl
@[simp] theorem e_zip : vzip a E g = bv (a E g) fun ys g1 => match ys with
  | [.tup xs, .tup ys] => some (.ok ((xs.zip ys).map fun q => Y.tup [q.1, q.2]), g1)
  | _ => none := rfl
@[simp] theorem e_cmp {vi : VI} {vs : List Nat} {vg : Y → VL → Option VL} {vt : VT} {ve : VE} : vcmp vi vs vg vt ve E g = bv (vi E g) fun ys g1 => toL (cmpV vg vt ve (wipeV E vs) ys g1) := rfl
@[simp] theorem e_cmp2 {vi : VI} {vs : List Nat} {vg : Y → VL → Option VL} {vt : VT} {vi1 : VI} {vs1 : List Nat} {vg1 : Y → VL → Option VL} {vt1 : VT} {ve : VE} : vcmp2 vi vs vg vt vi1 vs1 vg1 vt1 ve E g = bv (vi E g) fun ys g1 => toL (cmpV2 vg vt vi1 vs1 vg1 vt1 ve (wipeV E vs) ys g1) := rfl
@[simp] theorem e_setc {vi : VI} {vs : List Nat} {vg : Y → VL → Option VL} {vt : VT} {ve : VE} : vsetc vi vs vg vt ve E g = bv (vi E g) fun ys g1 => noXV (cmpSV vg vt ve (wipeV E vs) ys [] g1) := rfl
@[simp] theorem e_sortedS {f : VK} : vsortedS f E g = bv (f E g) fun ks g1 => if (ks.all fun k => !k.isEmpty) = true ∧ (onceK ks).length ≤ 1000 then some (.ok (.lst ((sortT (onceK ks)).map tkY)), g1) else none := rfl
@[simp] theorem e_setSE : vsetSE f E g = bv (f E g) fun y g1 => match (seqOfY y).bind tupsOfY with
  | some ks => if ks.length ≤ 76 then some (.ok ks, g1) else none
  | none => none := rfl
@[simp] theorem e_dc {c0 : Y} {vi : VI} {vs : List Nat} {vg : Y → VL → Option VL} {vt : VT} : vdc c0 vi vs vg vt fa fb E g = bv (vi E g) fun ys g1 => noXV (cmpDV vg vt fa fb (wipeV E vs) ys c0 g1) := rfl
@[simp] theorem e_dnewT : vdnewT E g = some (.ok (.dt []), g) := rfl
@[simp] theorem e_dnewK : vdnewK E g = some (.ok (.dk []), g) := rfl
@[simp] theorem e_noP : vnoP E g = some (.ok none, g) := rfl
@[simp] theorem e_someP : vsomeP f E g = bv (f E g) fun y g1 => match y with
  | .int i => some (.ok (some i), g1)
  | _ => none := rfl
@[simp] theorem e_slE {l u : VP} : vslE f l u E g = bv (f E g) fun y g1 => bv (l E g1) fun l g2 => bv (u E g2) fun h g3 => liftV (sliceV l h y) g3 := rfl
@[simp] theorem e_yes : vyes E g = some (.ok true, g) := rfl
end
@[simp] theorem liftV_none (g : Gs) : liftV none g = none := rfl
theorem runV_eq {k : Nat} {vb : VS} {ys : List Y} {g : Gs} : runV k vb ys g = bv (vb (ys.map some ++ List.replicate (k - ys.length) none) g) fun fl g1 => match fl with
  | .rt y => some (.ok y, g1)
  | .nx _ => some (.ok .non, g1)
  | _ => none := rfl
theorem runVR_eq {k : Nat} {vb : VS} {ys : List Y} {g : Gs} : runVR k vb ys g = bv (vb (ys.map some ++ List.replicate (k - ys.length) none) g) fun fl g1 => match fl with
  | .rt y => some (.ok y, g1)
  | _ => none := rfl

theorem toL_ok {zs : List Y} {g : Gs} (h : zs.length ≤ 1000000) : toL (some (.ok zs, g)) = some (.ok (.lst zs), g) := by
  unfold toL
  simp only [bv_ok, if_pos h, noXV_ok]

def Wp {α : Type} (x : OV α) (Q : α → Gs → Prop) : Prop := ∃ a g, x = some (.ok a, g) ∧ Q a g
theorem Wp.bind {α β : Type} {x : OV α} {f : α → Gs → OV β} {Q : β → Gs → Prop} (h : Wp x fun a g => Wp (f a g) Q) : Wp (bv x f) Q := by
  obtain ⟨a, g, rfl, b, g', e, q⟩ := h
  exact ⟨b, g', e, q⟩
theorem Wp.ok {α : Type} {a : α} {g : Gs} {Q : α → Gs → Prop} (h : Q a g) : Wp (some (.ok a, g)) Q := ⟨a, g, rfl, h⟩
theorem Wp.mono {α : Type} {x : OV α} {Q Q' : α → Gs → Prop} (h : Wp x Q) (k : ∀ a g, Q a g → Q' a g) : Wp x Q' := by
  obtain ⟨a, g, e, q⟩ := h
  exact ⟨a, g, e, k a g q⟩
@[simp] theorem wp_ok {α : Type} {a : α} {g : Gs} {Q : α → Gs → Prop} : Wp (some (R.ok a, g)) Q ↔ Q a g := ⟨fun ⟨_, _, e, q⟩ => by cases e; exact q, Wp.ok⟩
@[simp] theorem wp_bind {α β : Type} {x : OV α} {f : α → Gs → OV β} {Q : β → Gs → Prop} : Wp (bv x f) Q ↔ Wp x fun a g => Wp (f a g) Q := by
  refine ⟨fun ⟨b, g', e, q⟩ => ?_, Wp.bind⟩
  cases x with
  | none => cases e
  | some z =>
    obtain ⟨z, g⟩ := z
    cases z with
    | ok a => exact ⟨a, g, rfl, b, g', e, q⟩
    | ex x => cases e
theorem wp_draw {m : Int} {g : Gs} {Q : Y → Gs → Prop} (hm : 0 < m) (hm2 : m < 18446744073709551616) (h : ∀ i g', 0 ≤ i → i < m → Q (.int i) g') : Wp (drawV [.stt, .int m] g) Q := by
  refine ⟨.int (drawI g m), drawG g m, ?_, h _ _ (drawI_in g hm).1 (drawI_in g hm).2⟩
  simp [drawV, hm, hm2]
theorem wp_nox {α : Type} {x : OV α} {Q : α → Gs → Prop} (h : Wp x Q) : Wp (noXV x) Q := by
  obtain ⟨a, g, rfl, q⟩ := h
  exact ⟨a, g, rfl, q⟩

theorem wp_for {step : Y → VS} {Q : FY → Gs → Prop} (I : List Y → VL → Gs → Prop) (hs : ∀ y ys E g, I (y :: ys) E g → Wp (step y E g) fun fl g' => match fl with
    | .nx E' => I ys E' g'
    | .ct E' => I ys E' g'
    | .bk E' => Q (.nx E') g'
    | .rt y => Q (.rt y) g') (hd : ∀ E g, I [] E g → Q (.nx E) g) : ∀ (ys : List Y) (E : VL) (g : Gs), I ys E g → Wp (forV step ys E g) Q
  | [], E, g, h => .ok (hd E g h)
  | y :: ys, E, g, h => by
    simp only [forV]
    refine Wp.bind ((hs y ys E g h).mono fun fl g1 q => ?_)
    cases fl with
    | nx E1 => exact wp_for I hs hd ys E1 g1 q
    | ct E1 => exact wp_for I hs hd ys E1 g1 q
    | bk E1 => exact .ok q
    | rt y => exact .ok q
end Ev
end
section
set_option Elab.async false
set_option linter.all false
set_option maxRecDepth 100000
namespace Ev
open PySem L2
abbrev C2 := Int × Int
def cY (c : C2) : Y := .tup [.int c.1, .int c.2]
def lotY (l : List C2) : Y := .tup (l.map cY)
@[simp] theorem seqL_lot (l : List C2) (g : Gs) : seqL (lotY l) g = some (.ok (l.map cY), g) := rfl
def pieceY (p : List C2 × List C2) : Y := .tup [lotY p.1, lotY p.2]
def boardY (h w : Int) : Y := .tup [.int h, .int w]
def kC (c : C2) : List Int := [c.1, c.2]
def ltC (a b : C2) : Bool := if a.1 = b.1 then decide (a.2 < b.2) else decide (a.1 < b.1)
theorem ltC_iff {a b : C2} : ltC a b = true ↔ a.1 < b.1 ∨ (a.1 = b.1 ∧ a.2 < b.2) := by
  unfold ltC
  split
  · rename_i h; simp [h]
  · rename_i h; simp [h]
theorem lexT_C (a b : C2) : lexT (kC a) (kC b) = ltC a b := by
  unfold ltC kC
  rw [lexT_cons, lexT_cons, lexT_irr]
  split
  · split
    · rename_i h; simp [h]
    · rfl
  · rfl
theorem ltC_trans {a b c : C2} (h1 : ltC a b = true) (h2 : ltC b c = true) : ltC a c = true := by
  rw [ltC_iff] at *
  omega
theorem ltC_irr (a : C2) : ltC a a = false := by
  cases h : ltC a a with
  | false => rfl
  | true => rw [ltC_iff] at h; omega
theorem ltC_ne {a b : C2} (h : ltC a b = true) : a ≠ b := by
  rintro rfl
  rw [ltC_irr] at h; cases h
theorem ltC_tot {a b : C2} (h1 : ltC a b = false) (h2 : ltC b a = false) : a = b := by
  have h1' : ¬ (a.1 < b.1 ∨ (a.1 = b.1 ∧ a.2 < b.2)) := by rw [← ltC_iff, h1]; simp
  have h2' : ¬ (b.1 < a.1 ∨ (b.1 = a.1 ∧ b.2 < a.2)) := by rw [← ltC_iff, h2]; simp
  exact Prod.ext (by omega) (by omega)
def UpC (l : List C2) : Prop := l.Pairwise fun a b => ltC a b = true
theorem UpC.nodup {l : List C2} (h : UpC l) : l.Nodup := List.Pairwise.imp (fun h => ltC_ne h) h

def sortC (l : List C2) : List C2 := sortB kC l
theorem sortC_perm (l : List C2) : (sortC l).Perm l := sortB_perm l
theorem sortC_ups (l : List C2) : (sortC l).Pairwise fun a b => ltC b a = false := List.Pairwise.imp (fun h => by rw [← lexT_C]; exact h) (sortB_ups (key := kC) l)
theorem sortC_up {l : List C2} (h : l.Nodup) : UpC (sortC l) := by
  have h1 := sortC_ups l
  have h2 : (sortC l).Nodup := (sortC_perm l).nodup_iff.mpr h
  refine List.Pairwise.imp₂ (R := fun a b => ltC b a = false) (S := fun a b => a ≠ b) (fun a b p q => ?_) h1 h2
  cases h : ltC a b with
  | true => rfl
  | false => exact absurd (ltC_tot h p) q
theorem mem_sortC {l : List C2} {c : C2} : c ∈ sortC l ↔ c ∈ l := (sortC_perm l).mem_iff
def inB (h w : Int) (c : C2) : Bool := decide (0 ≤ c.1) && decide (c.1 < h) && decide (0 ≤ c.2) && decide (c.2 < w)
theorem inB_iff {h w : Int} {c : C2} : inB h w c = true ↔ 0 ≤ c.1 ∧ c.1 < h ∧ 0 ≤ c.2 ∧ c.2 < w := by
  simp [inB, and_assoc]
def rowC (r : Nat) (w : Int) : List C2 := (List.range w.toNat).map fun (c : Nat) => ((r : Int), (c : Int))
def cellsC (h w : Int) : List C2 := (List.range h.toNat).flatMap fun r => rowC r w
theorem mem_cellsC {h w : Int} {c : C2} : c ∈ cellsC h w ↔ inB h w c = true := by
  rw [inB_iff]
  simp only [cellsC, rowC, List.mem_flatMap, List.mem_map, List.mem_range]
  constructor
  · rintro ⟨r, hr, k, hk, rfl⟩
    simp only
    omega
  · rintro ⟨h1, h2, h3, h4⟩
    exact ⟨c.1.toNat, by omega, c.2.toNat, by omega, Prod.ext (by simp; omega) (by simp; omega)⟩
theorem cellsC_up (h w : Int) : UpC (cellsC h w) := by
  unfold UpC cellsC
  rw [List.pairwise_flatMap]
  refine ⟨fun r _ => ?_, ?_⟩
  · unfold rowC
    refine List.pairwise_map.mpr (List.Pairwise.imp (fun {a b} h => ?_) List.pairwise_lt_range)
    rw [ltC_iff]; exact .inr ⟨rfl, Int.ofNat_lt.mpr h⟩
  · refine List.Pairwise.imp (fun {a b} h c hc d hd => ?_) List.pairwise_lt_range
    unfold rowC at hc hd
    simp only [List.mem_map, List.mem_range] at hc hd
    obtain ⟨i, _, rfl⟩ := hc
    obtain ⟨j, _, rfl⟩ := hd
    rw [ltC_iff]; exact .inl (Int.ofNat_lt.mpr h)
theorem cellsC_len (h w : Int) : (cellsC h w).length = h.toNat * w.toNat := by
  simp only [cellsC, rowC, List.length_flatMap, List.length_map, List.length_range]
  rw [List.map_const', List.sum_replicate_nat, List.length_range]
theorem up_sub {a b : List C2} (h : UpC b) (s : a.Sublist b) : UpC a := List.Pairwise.sublist s h
theorem nodup_sub {α : Type} [DecidableEq α] : ∀ {l m : List α}, l.Nodup → (∀ c ∈ l, c ∈ m) → l.length ≤ m.length
  | [], _, _, _ => Nat.zero_le _
  | a :: l, m, hn, hs => by
    have ha := hs a (by simp)
    have h1 := List.nodup_cons.mp hn
    have ih := nodup_sub (l := l) (m := m.erase a) h1.2 fun c hc => (List.mem_erase_of_ne (by rintro rfl; exact h1.1 hc)).mpr (hs c (by simp [hc]))
    rw [List.length_erase_of_mem ha] at ih
    have : 0 < m.length := List.length_pos_of_mem ha
    simp only [List.length_cons]
    omega

theorem nodup_le {l : List C2} {h w : Int} (hn : l.Nodup) (hl : ∀ c ∈ l, inB h w c = true) : l.length ≤ h.toNat * w.toNat := by
  rw [← cellsC_len]
  exact nodup_sub hn fun c hc => mem_cellsC.mpr (hl c hc)

def risB : List C2 → Bool
  | a :: b :: r => ltC a b && risB (b :: r)
  | _ => true
theorem risB_up : ∀ {l : List C2}, risB l = true ↔ UpC l
  | [] => by simp [risB, UpC]
  | [a] => by simp [risB, UpC]
  | a :: b :: r => by
    have ih := risB_up (l := b :: r)
    rw [risB, Bool.and_eq_true, ih]
    constructor
    · rintro ⟨h1, h2⟩
      refine List.pairwise_cons.mpr ⟨fun c hc => ?_, h2⟩
      rcases List.mem_cons.mp hc with rfl | hc
      · exact h1
      · exact ltC_trans h1 ((List.pairwise_cons.mp h2).1 c hc)
    · intro h
      have h := List.pairwise_cons.mp h
      exact ⟨h.1 b (by simp), h.2⟩
end Ev
end
section
set_option Elab.async false
set_option linter.all false
set_option maxRecDepth 100000
namespace Ev
open PySem L2
theorem wpE {α : Type} {x : OV α} {a : α} {g : Gs} {Q : α → Gs → Prop} (e : x = some (.ok a, g)) (h : Q a g) : Wp x Q := by rw [e]; exact wp_ok.mpr h
theorem ifN {c : VT} {s : VS} {E : VL} {g g1 : Gs} (h : c E g = some (.ok false, g1)) : vifS c s vnx E g = some (.ok (.nx E), g1) := by rw [e_if, h]; rfl
theorem tnotN {c : VT} {E : VL} {g g1 : Gs} (h : c E g = some (.ok true, g1)) : vtnot c E g = some (.ok false, g1) := by rw [e_tnot, h]; rfl
theorem tbN {f : VE} {E : VL} {g g1 : Gs} {t : Bool} (h : f E g = some (.ok (.bl t), g1)) : vtb f E g = some (.ok t, g1) := by rw [e_tb, h]; rfl
theorem binN {ov : Y → Y → Option Y} {f h : VE} {E : VL} {g : Gs} {y z u : Y} (h1 : f E g = some (.ok y, g)) (h2 : h E g = some (.ok z, g)) (h3 : ov y z = some u) : vbin ov f h E g = some (.ok u, g) := by rw [e_bin, h1, bv_ok, h2, bv_ok, h3]; rfl
theorem asgN {f : VE} {i : Nat} {E : VL} {g g1 : Gs} {y : Y} (h : f E g = some (.ok y, g1)) : vasg f (gset i) E g = some (.ok (.nx (E.set i (some y))), g1) := by rw [e_asg, h]; rfl
theorem seqN {s t : VS} {E E1 : VL} {g g1 : Gs} {Q : FY → Gs → Prop} (h : s E g = some (.ok (.nx E1), g1)) (k : Wp (t E1 g1) Q) : Wp (vseq s t E g) Q := by
  have : vseq s t E g = t E1 g1 := by rw [e_seq, h]; rfl
  rw [this]; exact k
end Ev
end
section
set_option Elab.async false
set_option linter.all false
set_option maxRecDepth 100000
namespace Ev
open PySem L2
theorem asgTN {f : VE} {vg : Y → VL → Option VL} {E E1 : VL} {g g1 : Gs} {y : Y} (h : f E g = some (.ok y, g1)) (h2 : vg y E = some E1) : vasg f vg E g = some (.ok (.nx E1), g1) := by rw [e_asg, h, bv_ok, h2]
theorem wp_asg {f : VE} {i : Nat} {E : VL} {g g1 : Gs} {y : Y} {t : VS} {Q : FY → Gs → Prop} (h : f E g = some (.ok y, g1)) (k : Wp (t (E.set i (some y)) g1) Q) : Wp (vseq (vasg f (gset i)) t E g) Q := seqN (asgN h) k
section
variable {E : VL} {g g1 : Gs} {f : VE} {a : VA}
theorem consN {y : Y} {ys : List Y} (h1 : f E g = some (.ok y, g)) (h2 : a E g = some (.ok ys, g)) : vcons f a E g = some (.ok (y :: ys), g) := by rw [e_cons, h1, bv_ok, h2]; rfl
theorem nilN : vnil E g = some (.ok [], g) := rfl
theorem lstN {ys : List Y} (h : a E g = some (.ok ys, g)) (hl : ys.length ≤ 1000000) : vlst a E g = some (.ok (.lst ys), g) := by rw [e_lst, h, bv_ok, if_pos hl]
theorem tupN {ys : List Y} (h : a E g = some (.ok ys, g)) (hl : ys.length ≤ 1000000) : vtup a E g = some (.ok (.tup ys), g) := by rw [e_tup, h, bv_ok, if_pos hl]
theorem callN {ov : List Y → Option Y} {ys : List Y} {y : Y} (h : a E g = some (.ok ys, g)) (h2 : ov ys = some y) : vcall ov a E g = some (.ok y, g) := by rw [e_call, h, bv_ok, h2]; rfl
theorem callFN {V : VF} {ys : List Y} {r : OV Y} (h : a E g = some (.ok ys, g)) (h2 : V ys g = r) : vcallF V a E g = r := by rw [e_callF, h, bv_ok, h2]
theorem unN {ov : Y → Option Y} {y z : Y} (h : f E g = some (.ok y, g)) (h2 : ov y = some z) : vun ov f E g = some (.ok z, g) := by rw [e_un, h, bv_ok, h2]; rfl
theorem add_lst {xs ys : List Y} (h : xs.length + ys.length ≤ 1000000) : addV (.lst xs) (.lst ys) = some (.lst (xs ++ ys)) := if_pos h
end
section
variable {E : VL} {g g1 : Gs} {f h : VE} {a : VA} {t : VS}
theorem wp_asgW {i : Nat} {Q : FY → Gs → Prop} (h : Wp (f E g) fun y g1 => Wp (t (E.set i (some y)) g1) Q) : Wp (vseq (vasg f (gset i)) t E g) Q := by
  obtain ⟨y, g1, e, k⟩ := h; exact wp_asg e k
theorem wp_parW {i j : Nat} {Q : FY → Gs → Prop} (h : Wp (a E g) fun ys g1 => ∃ y1 y2, ys = [y1, y2] ∧ Wp (t ((E.set i (some y1)).set j (some y2)) g1) Q) : Wp (vseq (vpar i j a) t E g) Q := by
  obtain ⟨_, g1, e, y1, y2, rfl, k⟩ := h
  have : vseq (vpar i j a) t E g = t ((E.set i (some y1)).set j (some y2)) g1 := by rw [e_seq, e_par, e]; rfl
  rw [this]; exact k
theorem wp_nil {Q : List Y → Gs → Prop} (h : Q [] g) : Wp (vnil E g) Q := ⟨[], g, rfl, h⟩
theorem wp_cons {Q : List Y → Gs → Prop} (k : Wp (f E g) fun y g1 => Wp (a E g1) fun ys g2 => Q (y :: ys) g2) : Wp (vcons f a E g) Q := by
  obtain ⟨y, g1, e1, ys, g2, e2, q⟩ := k
  exact ⟨y :: ys, g2, by rw [e_cons, e1, bv_ok, e2]; rfl, q⟩
theorem wp_lst {Q : Y → Gs → Prop} (k : Wp (a E g) fun ys g1 => ys.length ≤ 1000000 ∧ Q (.lst ys) g1) : Wp (vlst a E g) Q := by
  obtain ⟨ys, g1, e1, l, q⟩ := k
  exact ⟨_, g1, by rw [e_lst, e1, bv_ok, if_pos l], q⟩
theorem wp_tup {Q : Y → Gs → Prop} (k : Wp (a E g) fun ys g1 => ys.length ≤ 1000000 ∧ Q (.tup ys) g1) : Wp (vtup a E g) Q := by
  obtain ⟨ys, g1, e1, l, q⟩ := k
  exact ⟨_, g1, by rw [e_tup, e1, bv_ok, if_pos l], q⟩
theorem wp_callF {V : VF} {Q : Y → Gs → Prop} (k : Wp (a E g) fun ys g1 => Wp (V ys g1) Q) : Wp (vcallF V a E g) Q := by
  obtain ⟨ys, g1, e1, q⟩ := k
  rw [e_callF, e1, bv_ok]; exact q
theorem wp_bin {ov : Y → Y → Option Y} {Q : Y → Gs → Prop} (k : Wp (f E g) fun y g1 => Wp (h E g1) fun z g2 => ∃ u, ov y z = some u ∧ Q u g2) : Wp (vbin ov f h E g) Q := by
  obtain ⟨y, g1, e1, z, g2, e2, u, e3, q⟩ := k
  exact ⟨u, g2, by rw [e_bin, e1, bv_ok, e2, bv_ok, e3]; rfl, q⟩
theorem wp_seqI {Q : List Y → Gs → Prop} (k : Wp (f E g) fun y g1 => ∃ ys, seqOfY y = some ys ∧ Q ys g1) : Wp (vseqI f E g) Q := by
  obtain ⟨y, g1, e1, ys, e2, q⟩ := k
  refine ⟨ys, g1, ?_, q⟩
  rw [e_seqI, e1, bv_ok]
  unfold seqL
  rw [e2]
theorem wp_var {i : Nat} {y : Y} {Q : Y → Gs → Prop} (e : E[i]? = some (some y)) (q : Q y g) : Wp (vvr i E g) Q := ⟨y, g, by rw [e_var, e], q⟩
theorem wp_cst {y : Y} {Q : Y → Gs → Prop} (q : Q y g) : Wp (vcst y E g) Q := ⟨y, g, rfl, q⟩
theorem wp_forW {vi : VI} {vg : Y → VL → Option VL} {vb : VS} {Q : FY → Gs → Prop} (I : List Y → VL → Gs → Prop) (hit : Wp (vi E g) fun ys g1 => I ys E g1) (hs : ∀ y ys E g, I (y :: ys) E g → ∃ E1, vg y E = some E1 ∧ Wp (vb E1 g) fun fl g' => match fl with
    | .nx E' => I ys E' g'
    | _ => False) (hd : ∀ E g, I [] E g → Wp (t E g) Q) : Wp (vseq (vfor vi vg vb) t E g) Q := by
  obtain ⟨ys, g1, e1, i⟩ := hit
  have hw : Wp (forV (stepV vg vb) ys E g1) fun fl g' => match fl with
      | .nx E1 => Wp (t E1 g') Q
      | _ => False := by
    refine wp_for I (fun y ys E g hi => ?_) (fun E g hi => hd E g hi) ys E g1 i
    obtain ⟨E1, e2, w⟩ := hs y ys E g hi
    have : stepV vg vb y E g = vb E1 g := by unfold stepV; rw [e2]
    rw [this]
    refine w.mono fun fl g' q => ?_
    cases fl with
    | nx E' => exact q
    | _ => exact q.elim
  obtain ⟨fl, g2, e3, q⟩ := hw
  cases fl with
  | nx E1 =>
    have : vseq (vfor vi vg vb) t E g = t E1 g2 := by rw [e_seq, e_for, e1, bv_ok, e3]; rfl
    rw [this]; exact q
  | _ => exact q.elim
theorem wp_draw8 {i : Nat} {m : Int} {Q : Y → Gs → Prop} (e : E[i]? = some (some .stt)) (h0 : 0 < m) (h1 : m < 18446744073709551616) (q : ∀ j g', 0 ≤ j → j < m → Q (.int j) g') : Wp (vcallF drawV (vcons (vvr i) (vcons (vcst (.int m)) vnil)) E g) Q :=
  wp_callF (wp_cons (wp_var e (wp_cons (wp_cst (wp_nil (wp_draw h0 h1 q))))))
end
theorem runVW {n : Nat} {vb : VS} {ys : List Y} {g : Gs} {Q : Y → Gs → Prop} (h : Wp (vb (ys.map some ++ List.replicate (n - ys.length) none) g) fun fl g1 => match fl with
    | .rt y => Q y g1
    | .nx _ => Q .non g1
    | _ => False) : Wp (runV n vb ys g) Q := by
  obtain ⟨fl, g1, e, q⟩ := h
  rw [runV_eq, e, bv_ok]
  cases fl with
  | rt y => exact ⟨y, g1, rfl, q⟩
  | nx E => exact ⟨.non, g1, rfl, q⟩
  | _ => exact q.elim
end Ev
end
section
set_option Elab.async false
set_option linter.all false
set_option maxRecDepth 100000
namespace Ev
open PySem L2
inductive Dt : Y → Prop where
  | non : Dt .non
  | bl (b : Bool) : Dt (.bl b)
  | int (i : Int) : Dt (.int i)
  | str (x : Str) : Dt (.str x)
  | tup {ys : List Y} : (∀ y ∈ ys, Dt y) → Dt (.tup ys)
  | fl {ys : List Y} : (∀ y ∈ ys, Dt y) → Dt (.fl ys)
  | lst {ys : List Y} : (∀ y ∈ ys, Dt y) → Dt (.lst ys)
  | dk (ys : List (Key × Y)) : Dt (.dk ys)
  | dt (ys : List (List Key × Y)) : Dt (.dt ys)
theorem Dt.cell (c : C2) : Dt (cY c) := .tup (by intro y hy; simp only [List.mem_cons, List.not_mem_nil, or_false] at hy; rcases hy with rfl | rfl <;> exact .int _)
theorem Dt.lot (l : List C2) : Dt (lotY l) := .tup (by intro y hy; obtain ⟨c, _, rfl⟩ := List.mem_map.mp hy; exact .cell c)
theorem Dt.two {a b : Y} (ha : Dt a) (hb : Dt b) : Dt (.tup [a, b]) := .tup (by intro y hy; simp only [List.mem_cons, List.not_mem_nil, or_false] at hy; rcases hy with rfl | rfl <;> assumption)
theorem Dt.fst {a b : Y} (h : Dt (.tup [a, b])) : Dt a := by cases h with | tup h => exact h a (by simp)
theorem Dt.snd {a b : Y} (h : Dt (.tup [a, b])) : Dt b := by cases h with | tup h => exact h b (by simp)
theorem Dt.items {ys : List Y} (h : Dt (.tup ys)) : ∀ y ∈ ys, Dt y := by cases h with | tup h => exact h

def isW (lo hi : Int) : Y → Bool
  | .int i => decide (lo ≤ i) && decide (i ≤ hi)
  | _ => false
theorem s_is_whole {y : Y} (h : Dt y) (lo hi : Int) (g : Gs) : VF_is_whole [y, .int lo, .int hi] g = some (.ok (.bl (isW lo hi y)), g) := by
  cases h <;> simp [VF_is_whole, VB_is_whole, runV_eq, isiV, tyYS, subTy, notV, cmpIV, isW]
  rename_i i
  by_cases h : lo ≤ i <;> simp [h]
def isCo : Y → Bool
  | .tup [_, _] => true
  | _ => false
theorem s_is_couple {y : Y} (h : Dt y) (g : Gs) : VF_is_couple [y] g = some (.ok (.bl (isCo y)), g) := by
  cases h <;> simp [VF_is_couple, VB_is_couple, runV_eq, isiV, tyYS, subTy, lenV, eqV, eqY, eqSV, isCo]
  rename_i ys _
  match ys with
  | [] => simp
  | [a] => simp
  | [a, b] => simp
  | a :: b :: c :: r => simp; omega
theorem isCo_iff {y : Y} (h : isCo y = true) : ∃ a b, y = .tup [a, b] := by
  unfold isCo at h
  split at h
  · exact ⟨_, _, rfl⟩
  · cases h
def isWC (lo hi : Int) : Y → Bool
  | .tup [a, b] => isW lo hi a && isW lo hi b
  | _ => false
structure Bd (h w : Int) : Prop where
  h1 : 1 ≤ h
  h2 : h ≤ 8
  w1 : 1 ≤ w
  w2 : w ≤ 8
theorem Bd.is {h w : Int} (b : Bd h w) : isWC 1 8 (boardY h w) = true := by
  simp [isWC, boardY, isW, b.h1, b.h2, b.w1, b.w2]
theorem Dt.board (h w : Int) : Dt (boardY h w) := .two (.int _) (.int _)
def isCl (h w : Int) : Y → Bool
  | .tup [a, b] => isW 0 (h - 1) a && isW 0 (w - 1) b
  | _ => false
theorem s_is_cell {y : Y} (hy : Dt y) (h w : Int) (g : Gs) : VF_is_cell [boardY h w, y] g = some (.ok (.bl (isCl h w y)), g) := by
  cases hc : isCo y with
  | false =>
    have : isCl h w y = false := by
      unfold isCl; split
      · simp [isCo] at hc
      · rfl
    simp [VF_is_cell, VB_is_cell, runV_eq, boardY, s_is_couple hy, hc, this]
  | true =>
    obtain ⟨a, b, rfl⟩ := isCo_iff hc
    have h1 := s_is_whole hy.fst 0 (h - 1) g
    have h2 := s_is_whole hy.snd 0 (w - 1) g
    simp [VF_is_cell, VB_is_cell, runV_eq, boardY, s_is_couple hy, hc, isCl, ixV, atI, ixN, subV, h1, h2]
    cases isW 0 (h - 1) a <;> simp
theorem isCl_cell (h w : Int) (c : C2) : isCl h w (cY c) = inB h w c := by
  rw [Bool.eq_iff_iff, inB_iff]
  simp only [isCl, cY, isW, Bool.and_eq_true, decide_eq_true_eq]
  omega
end Ev
end
section
set_option Elab.async false
set_option linter.all false
set_option maxRecDepth 100000
namespace Ev
open PySem L2
def rdC : Y → Option C2
  | .tup [.int a, .int b] => some (a, b)
  | _ => none
theorem rd_cells (l : List C2) : (l.map cY).filterMap rdC = l := by
  rw [List.filterMap_map]
  have : rdC ∘ cY = some := by funext c; rfl
  rw [this, List.filterMap_some]
@[simp] theorem rd_cells' (l : List C2) : l.filterMap (rdC ∘ cY) = l := by rw [← List.filterMap_map]; exact rd_cells l
def isLt (h w : Int) : Y → Bool
  | .tup ys => ys.all (isCl h w) && risB (ys.filterMap rdC)
  | _ => false
def Sz (y : Y) : Prop := ∀ ys, y = .tup ys → ys.length ≤ 1000000
structure LotC (h w : Int) (l : List C2) : Prop where
  up : UpC l
  inb : ∀ c ∈ l, inB h w c = true
theorem LotC.is {h w : Int} {l : List C2} (x : LotC h w l) : isLt h w (lotY l) = true := by
  show ((l.map cY).all (isCl h w) && risB ((l.map cY).filterMap rdC)) = true
  rw [Bool.and_eq_true, rd_cells, risB_up]
  refine ⟨List.all_eq_true.mpr fun y hy => ?_, x.up⟩
  obtain ⟨c, hc, rfl⟩ := List.mem_map.mp hy
  rw [isCl_cell]; exact x.inb c hc
theorem LotC.len {h w : Int} {l : List C2} (x : LotC h w l) : l.length ≤ h.toNat * w.toNat := nodup_le x.up.nodup x.inb
def isSt (y : Y) : Bool := isWC (-3) 3 y && !(rdC y == some (0, 0))
theorem rdC_cY (c : C2) : rdC (cY c) = some c := rfl
structure StC (s : C2) : Prop where
  a1 : -3 ≤ s.1
  a2 : s.1 ≤ 3
  b1 : -3 ≤ s.2
  b2 : s.2 ≤ 3
  ne : s ≠ (0, 0)
theorem StC.is {s : C2} (x : StC s) : isSt (cY s) = true := by
  have h : isWC (-3) 3 (cY s) = true := by simp [isWC, cY, isW, x.a1, x.a2, x.b1, x.b2]
  unfold isSt
  rw [h, rdC_cY]
  simp [x.ne]
def isSs : Y → Bool
  | .tup ys => decide (ys.length ≤ 8) && (ys.all isSt && risB (ys.filterMap rdC))
  | _ => false
def isPc : Y → Bool
  | .tup [a, b] => isSs a && isSs b
  | _ => false
structure Ss (l : List C2) : Prop where
  up : UpC l
  st : ∀ s ∈ l, StC s
  len : l.length ≤ 8
structure Pc (p : List C2 × List C2) : Prop where
  l : Ss p.1
  r : Ss p.2
theorem Ss.is {l : List C2} (x : Ss l) : isSs (lotY l) = true := by
  show (decide ((l.map cY).length ≤ 8) && ((l.map cY).all isSt && risB ((l.map cY).filterMap rdC))) = true
  rw [rd_cells, Bool.and_eq_true, Bool.and_eq_true, risB_up]
  refine ⟨by simpa using x.len, List.all_eq_true.mpr fun y hy => ?_, x.up⟩
  obtain ⟨c, hc, rfl⟩ := List.mem_map.mp hy
  exact (x.st c hc).is
theorem Pc.is {p : List C2 × List C2} (x : Pc p) : isPc (pieceY p) = true := by
  show (isSs (lotY p.1) && isSs (lotY p.2)) = true
  rw [x.l.is, x.r.is]; rfl
theorem Dt.piece (p : List C2 × List C2) : Dt (pieceY p) := .two (.lot _) (.lot _)
end Ev
end
section
set_option Elab.async false
set_option linter.all false
set_option maxRecDepth 100000
namespace Ev
open PySem L2
end Ev
end
section
set_option Elab.async false
set_option linter.all false
set_option maxRecDepth 100000
namespace Ev
open PySem L2
end Ev
end
section
set_option Elab.async false
set_option linter.all false
set_option maxRecDepth 100000
namespace Ev
open PySem L2
theorem rngV_map (k : Nat) : rngV 0 k = (List.range k).map fun (i : Nat) => Y.int (i : Int) := by
  unfold rngV
  refine List.map_congr_left fun i _ => ?_
  simp
end Ev
end
section
set_option Elab.async false
set_option linter.all false
set_option maxRecDepth 100000
namespace Ev
open PySem L2
theorem s_cell_at (ns : List Int) (k : Nat) (g : Gs) : VF_law_cell_at_8c34e [.fl (ns.map Y.int), .int k] g = some (.ok (.int (ns.getD k 0)), g) := by
  by_cases h : k < ns.length
  · have h' : (k : Int) < (ns.length : Int) := by omega
    simp [VF_law_cell_at_8c34e, VB_law_cell_at_8c34e, runV_eq, lenV, ltV, h', ixV, atI, ixN, h]
  · have h' : ¬ (k : Int) < (ns.length : Int) := by omega
    simp [VF_law_cell_at_8c34e, VB_law_cell_at_8c34e, runV_eq, lenV, ltV, h', h]
theorem s_state (ns : List Int) (k : Nat) (g : Gs) : ∃ a b, 0 ≤ a ∧ 0 ≤ b ∧ b < 4294967296 ∧ VF_law_state_04838 [.fl (ns.map Y.int), .int k] g = some (.ok (.lst [.int a, .int b]), g) := by
  refine ⟨if 0 < ns.getD k 0 - 10 ^ 18 then ns.getD k 0 - 10 ^ 18 else 0, ns.getD k 0 % 2147483647, ?_, ?_, ?_, ?_⟩
  · split <;> omega
  · omega
  · omega
  · simp [VF_law_state_04838, VB_law_state_04838, runVR_eq, s_cell_at, maxV, subV, powV, modV]
theorem wp_adopt {ns : List Int} {k : Nat} {x2 : Option Y} {es : List (Option Y)} {g : Gs} {Q : FY → Gs → Prop} (h : ∀ g', Q (.nx (some (.fl (ns.map Y.int)) :: some (.int k) :: some .stt :: es.map fun _ => none)) g') : Wp (vadopt 2 [0, 1] (vcallF VF_law_state_04838 (vcons (vvr 0) (vcons (vvr 1) vnil))) (some (.fl (ns.map Y.int)) :: some (.int k) :: x2 :: es) g) Q := by
  obtain ⟨a, b, h1, h2, h3, e⟩ := s_state ns k g
  have e' : vcallF VF_law_state_04838 (vcons (vvr 0) (vcons (vvr 1) vnil)) (some (.fl (ns.map Y.int)) :: some (.int k) :: x2 :: es) g = some (.ok (.lst [.int a, .int b]), g) := by simp [e]
  unfold vadopt
  rw [e']
  simp only [bv_ok]
  rw [dif_pos ⟨h1, h2, h3⟩]
  split
  case isFalse hn => exact absurd (by simp [stFree, isInt]) hn
  refine .ok ?_
  have : adoptE (some (Y.fl (ns.map Y.int)) :: some (.int k) :: x2 :: es) 2 [0, 1] = some (.fl (ns.map Y.int)) :: some (.int k) :: some .stt :: es.map fun _ => none := by
    unfold adoptE
    simp [List.mapIdx_cons]
    refine List.ext_getElem (by simp) fun i h1 h2 => ?_
    simp
  rw [this]
  exact h _

end Ev
end
section
set_option Elab.async false
set_option linter.all false
set_option maxRecDepth 100000
namespace Ev
open PySem L2
theorem Ss.of {l : List C2} (hn : l.Nodup) (hs : ∀ s ∈ l, StC s) (hl : l.length ≤ 8) : Ss (sortC l) := ⟨sortC_up hn, fun s h => hs s (mem_sortC.mp h), by rw [(sortC_perm l).length_eq]; exact hl⟩
end Ev
end
section
set_option Elab.async false
set_option linter.all false
set_option maxRecDepth 100000
namespace Ev
open PySem L2
def Pl (y : Y) : Prop := ∃ P, toPY 8 y = some P ∧ P.canLay0 = true ∧ P.depth ≤ 60
theorem Pl.cell (c : C2) : Pl (cY c) := ⟨_, rfl, by simp [PyData.canLay0, PyData.canLayAll0], by simp [PyData.depth, PyData.depthAll]⟩
theorem Pl.int (i : Int) : Pl (.int i) := ⟨_, rfl, rfl, by simp [PyData.depth]⟩
theorem Pl.bl (i : Bool) : Pl (.bl i) := ⟨_, rfl, rfl, by simp [PyData.depth]⟩
theorem Pl.non : Pl .non := ⟨_, rfl, rfl, by simp [PyData.depth]⟩
end Ev
end
section
set_option Elab.async false
set_option linter.all false
set_option maxRecDepth 100000
namespace Ev
open PySem L2
def pC (c : C2) : PyData := .tuple [.int c.1, .int c.2]
structure Sm (c : C2) : Prop where
  a1 : 0 ≤ c.1
  a2 : c.1 < 8
  b1 : 0 ≤ c.2
  b2 : c.2 < 8
theorem Sm.of {h w : Int} (b : Bd h w) {c : C2} (hc : inB h w c = true) : Sm c := by
  obtain ⟨h1, h2, h3, h4⟩ := inB_iff.mp hc
  have := b.h2; have := b.w2
  exact ⟨h1, by omega, h3, by omega⟩
theorem ix_pick {ys : List Y} {i : Int} (h0 : 0 ≤ i) (h1 : i < ys.length) : ∃ y, y ∈ ys ∧ ixV (.lst ys) (.int i) = some y := by
  have hi : i.toNat < ys.length := by omega
  refine ⟨ys[i.toNat], List.getElem_mem hi, ?_⟩
  show atI ys i = _
  simp [atI, ixN, h0, h1, hi]
theorem s_check_cell {y : Y} (hy : Dt y) (h w : Int) (g : Gs) : VF_check_cell [boardY h w, y] g = if isCl h w y = true then some (.ok .non, g) else some (.ex (.c 2), g) := by
  simp [VF_check_cell, VB_check_cell, runV_eq, s_is_cell hy]
  cases isCl h w y <;> simp
end Ev
end
section
set_option Elab.async false
set_option linter.all false
set_option maxRecDepth 100000
namespace Ev
open PySem L2
theorem Wp.eq {α : Type} {x y : OV α} {Q : α → Gs → Prop} (e : x = y) (h : Wp y Q) : Wp x Q := e ▸ h
end Ev
end
section
set_option Elab.async false
set_option linter.all false
set_option maxRecDepth 100000
namespace Ev
open PySem L2
end Ev
end
section
set_option Elab.async false
set_option linter.all false
set_option maxRecDepth 100000
namespace Ev
open PySem L2
theorem LotC.sub {h w : Int} {l : List C2} (s : l.Sublist (cellsC h w)) : LotC h w l := ⟨up_sub (cellsC_up h w) s, fun c hc => mem_cellsC.mp (s.subset hc)⟩
end Ev
end
section
set_option Elab.async false
set_option linter.all false
set_option maxRecDepth 100000
namespace Ev
open PySem L2
inductive Fl : Nat → Y → Prop where
  | int (n : Nat) (i : Int) : Fl (n + 1) (.int i)
  | bl (n : Nat) (i : Bool) : Fl (n + 1) (.bl i)
  | non (n : Nat) : Fl (n + 1) .non
  | str (n : Nat) (x : Str) : Fl (n + 1) (.str x)
  | tup {n : Nat} {ys : List Y} : (∀ y ∈ ys, Fl n y) → ys.length ≤ 1000000 → Fl (n + 1) (.tup ys)
theorem Sz.lot {l : List C2} (h : l.length ≤ 1000000) : Sz (lotY l) := fun ys e => by
  unfold lotY at e
  cases e
  simpa using h
end Ev
end
section
set_option Elab.async false
set_option linter.all false
set_option maxRecDepth 100000
namespace Ev
open PySem L2
structure Sv (c : C2) : Prop where
  a1 : -3 ≤ c.1
  a2 : c.1 < 8
  b1 : -3 ≤ c.2
  b2 : c.2 < 8
theorem Sv.st {c : C2} (h : StC c) : Sv c := ⟨h.a1, by have := h.a2; omega, h.b1, by have := h.b2; omega⟩
theorem Sv.inB {h w : Int} (b : Bd h w) {c : C2} (hc : inB h w c = true) : Sv c := by
  obtain ⟨h1, h2, h3, h4⟩ := inB_iff.mp hc
  have := b.h2; have := b.w2
  exact ⟨by omega, by omega, by omega, by omega⟩
end Ev
end
section
set_option Elab.async false
set_option linter.all false
set_option maxRecDepth 100000
namespace Ev
open PySem L2
end Ev
end
section
set_option Elab.async false
set_option linter.all false
set_option maxRecDepth 100000
namespace Ev
open PySem L2
theorem LotC.nil (h w : Int) : LotC h w [] := ⟨List.Pairwise.nil, by simp⟩
end Ev
end
section
set_option Elab.async false
set_option linter.all false
set_option maxRecDepth 100000
namespace Ev
open PySem L2
@[simp] theorem e_keysI {f : VE} {E : VL} {g : Gs} : vkeysI f E g = bv (f E g) fun y g1 => match y with
  | .dz kvs => some (.ok (kvs.map fun kv => Y.tup (kv.1.map kY)), g1)
  | _ => none := rfl
@[simp] theorem e_fz {f : VE} {E : VL} {g : Gs} : vfz f E g = bv (f E g) fun y g1 => liftV (fzV y) g1 := rfl
end Ev
end
section
set_option Elab.async false
set_option linter.all false
set_option maxRecDepth 100000
namespace Ev
open PySem L2
end Ev
end
section
set_option Elab.async false
set_option linter.all false
set_option maxRecDepth 100000
namespace Ev
open PySem L2
section
variable {E : VL} {g : Gs} {vi : VI} {vs : List Nat} {vg : Y → VL → Option VL} {vt : VT} {ve f : VE}
theorem seqIN {y : Y} {ys : List Y} (h : f E g = some (.ok y, g)) (h2 : seqOfY y = some ys) : vseqI f E g = some (.ok ys, g) := by
  rw [e_seqI, h, bv_ok]
  unfold seqL
  rw [h2]
end
end Ev
end
section
set_option Elab.async false
set_option linter.all false
set_option maxRecDepth 100000
namespace Ev
open PySem L2
def Adopts (V : VF) : Prop := ∀ {ns : List Int} {k : Nat} {x2 : Option Y} {es : List (Option Y)} {g : Gs} {Q : FY → Gs → Prop}, (∀ g', Q (.nx (some (.fl (ns.map Y.int)) :: some (.int k) :: some .stt :: es.map fun _ => none)) g') → Wp (vadopt 2 [0, 1] (vcallF V (vcons (vvr 0) (vcons (vvr 1) vnil))) (some (.fl (ns.map Y.int)) :: some (.int k) :: x2 :: es) g) Q
theorem adoptsA : Adopts VF_law_state_04838 := fun h => wp_adopt h
def Goes (ns : List Int) (n : Nat) (fl : FY) (_ : Gs) : Prop := ∃ xs : List (Option Y), fl = .nx (some (.fl (ns.map Y.int)) :: xs) ∧ xs.length = n + 2
theorem law_loop {ns : List Int} {V : VF} (hV : Adopts V) {N : Int} (h1 : 1 ≤ N) (hN : N ≤ 63) {n : Nat} {body fin : VS} (hb : ∀ (k : Nat) (g : Gs), Wp (body (some (.fl (ns.map Y.int)) :: some (.int k) :: some .stt :: List.replicate n none) g) (Goes ns n)) (hf : ∀ (xs : List (Option Y)) (g : Gs), xs.length = n + 2 → Wp (fin (some (.fl (ns.map Y.int)) :: xs) g) fun fl _ => fl = .rt (.bl true)) (g : Gs) : ∃ g', runV (n + 3) (vseq (vnox1 (vfor (vrng1 (vcons (vcall maxV (vcons (vcst (.int 1)) (vcons (vcall minV (vcons (vcall lenV (vcons (vvr 0) vnil)) (vcons (vcst (.int N)) vnil))) vnil))) vnil)) (gset 1) (vseq (vadopt 2 [0, 1] (vcallF V (vcons (vvr 0) (vcons (vvr 1) vnil)))) body))) fin) [.fl (ns.map Y.int)] g = some (.ok (.bl true), g') := by
  let E0 : VL := some (.fl (ns.map Y.int)) :: List.replicate (n + 2) none
  suffices hw : Wp ((vseq (vnox1 (vfor (vrng1 (vcons (vcall maxV (vcons (vcst (.int 1)) (vcons (vcall minV (vcons (vcall lenV (vcons (vvr 0) vnil)) (vcons (vcst (.int N)) vnil))) vnil))) vnil)) (gset 1) (vseq (vadopt 2 [0, 1] (vcallF V (vcons (vvr 0) (vcons (vvr 1) vnil)))) body))) fin) E0 g) fun fl _ => fl = .rt (.bl true) by
    obtain ⟨fl, g', e, rfl⟩ := hw
    refine ⟨g', ?_⟩
    rw [runV_eq]
    have : ([.fl (ns.map Y.int)] : List Y).map some ++ List.replicate (n + 3 - ([.fl (ns.map Y.int)] : List Y).length) none = E0 := by
      simp [E0]
    rw [this, e]
    rfl
  have hm : ∃ m : Int, 0 ≤ m ∧ m ≤ 63 ∧ vcall maxV (vcons (vcst (.int 1)) (vcons (vcall minV (vcons (vcall lenV (vcons (vvr 0) vnil)) (vcons (vcst (.int N)) vnil))) vnil)) E0 g = some (.ok (.int m), g) := by
    refine ⟨if (if N < (ns.length : Int) then N else (ns.length : Int)) > 1 then (if N < (ns.length : Int) then N else (ns.length : Int)) else 1, by split <;> split <;> omega, by split <;> split <;> omega, ?_⟩
    simp [E0, lenV, minV, maxV]
  obtain ⟨m, m0, m5, em⟩ := hm
  have hb1 : (-1000000000 ≤ m ∧ m ≤ 1000000000) := by omega
  simp only [wp_bind, e_seq, e_nox]
  refine wp_nox ?_
  simp only [e_for, e_rng1, e_cons, e_nil, em, bv_ok, wp_bind]
  rw [if_pos hb1]
  simp only [wp_ok]
  refine wp_for (fun ys E g => (∀ y ∈ ys, ∃ k : Nat, y = .int (k : Int)) ∧ ∃ xs, E = some (.fl (ns.map Y.int)) :: xs ∧ xs.length = n + 2) ?_ ?_ _ _ _ ?_
  · rintro y ys E g ⟨hy, xs, rfl, hl⟩
    obtain ⟨k, rfl⟩ := hy y (by simp)
    match xs, hl with
    | a :: b :: es, hl =>
      have hl : es.length = n := by simpa using hl
      simp only [stepV, e_gset, List.set_cons_succ, List.set_cons_zero, e_seq, wp_bind]
      refine hV fun g1 => ?_
      have : (es.map fun _ => none : List (Option Y)) = List.replicate n none := by rw [← hl]; exact List.map_const' ..
      rw [this]
      refine (hb k g1).mono fun fl g2 q => ?_
      obtain ⟨xs, rfl, h⟩ := q
      exact ⟨fun y h => hy y (by simp [h]), xs, rfl, h⟩
  · rintro E g ⟨_, xs, rfl, hl⟩
    exact hf xs g hl
  · refine ⟨?_, _, rfl, by simp⟩
    intro y hy
    rw [rngV_map] at hy
    obtain ⟨k, _, rfl⟩ := List.mem_map.mp hy
    exact ⟨k, rfl⟩
theorem fin_true {ns : List Int} {n : Nat} (xs : List (Option Y)) (g : Gs) (_ : xs.length = n + 2) : Wp (vret (vcst (.bl true)) (some (.fl (ns.map Y.int)) :: xs) g) fun fl _ => fl = .rt (.bl true) := ⟨_, g, rfl, rfl⟩
end Ev
end
section
set_option Elab.async false
set_option linter.all false
set_option maxRecDepth 100000
namespace Ev
open PySem L2
end Ev
end
section
set_option Elab.async false
set_option linter.all false
set_option maxRecDepth 100000
namespace Ev
open PySem L2
section
variable {E E1 : VL} {g g1 : Gs}
theorem lawQ {i j k : Nat} {V : VF} {x y z : Y} {r : R Y × Gs} (hi : E[i]? = some (some x)) (hj : E[j]? = some (some y)) (hk : E[k]? = some (some z)) (h : V [x, y, z] g = some r) : vcallF V (vcons (vvr i) (vcons (vvr j) (vcons (vvr k) vnil))) E g = some r := callFN (consN (by rw [e_var, hi]) (consN (by rw [e_var, hj]) (consN (by rw [e_var, hk]) nilN))) h
theorem call2Q {i j : Nat} {V : VF} {x y : Y} {r : R Y × Gs} (hi : E[i]? = some (some x)) (hj : E[j]? = some (some y)) (h : V [x, y] g = some r) : vcallF V (vcons (vvr i) (vcons (vvr j) vnil)) E g = some r := callFN (consN (by rw [e_var, hi]) (consN (by rw [e_var, hj]) nilN)) h
theorem call1Q {i : Nat} {V : VF} {x : Y} {r : R Y × Gs} (hi : E[i]? = some (some x)) (h : V [x] g = some r) : vcallF V (vcons (vvr i) vnil) E g = some r := callFN (consN (by rw [e_var, hi]) nilN) h
theorem wp_ifQ {c : VT} {s : VS} {Q : FY → Gs → Prop} (h : Wp (c E g) fun b g1 => b = false ∧ Q (.nx E) g1) : Wp (vifS c s vnx E g) Q := by
  obtain ⟨_, g1, e, rfl, q⟩ := h
  exact ⟨_, g1, ifN e, q⟩
theorem wp_tnotQ {c : VT} {Q : Bool → Gs → Prop} (h : Wp (c E g) fun b g1 => Q (!b) g1) : Wp (vtnot c E g) Q := by
  obtain ⟨b, g1, e, q⟩ := h
  exact ⟨_, g1, by rw [e_tnot, e]; rfl, q⟩
theorem wp_tbQ {f : VE} {Q : Bool → Gs → Prop} (h : Wp (f E g) fun y g1 => ∃ b, y = .bl b ∧ Q b g1) : Wp (vtb f E g) Q := by
  obtain ⟨_, g1, e, b, rfl, q⟩ := h
  exact ⟨b, g1, tbN e, q⟩
theorem exprQ {f : VE} {y : Y} (h : f E g = some (.ok y, g1)) : vexpr f E g = some (.ok (.nx E), g1) := by
  rw [e_expr, h]; rfl
theorem retQ {f : VE} {y : Y} (h : f E g = some (.ok y, g1)) : vret f E g = some (.ok (.rt y), g1) := by
  rw [e_ret, h]; rfl
theorem seqQ {s t : VS} {r : OV FY} (h : s E g = some (.ok (.nx E1), g1)) (k : t E1 g1 = r) : vseq s t E g = r := by
  rw [e_seq, h, bv_ok]; exact k
end
theorem runQ' {n : Nat} {vb : VS} {ys : List Y} {g : Gs} {y : Y} (h : vb (ys.map some ++ List.replicate (n - ys.length) none) g = some (.ok (.rt y), g)) : runV n vb ys g = some (.ok y, g) := by
  rw [runV_eq, h]; rfl
end Ev
end
section
set_option Elab.async false
set_option linter.all false
set_option maxRecDepth 100000
namespace Ev
open PySem L2
end Ev
end
section
set_option Elab.async false
set_option linter.all false
set_option maxRecDepth 100000
namespace Ev
open PySem L2
@[simp] theorem e_zipA {a : VA} {E : VL} {g : Gs} : vzipA a E g = bv (a E g) fun ys g1 => match ys with
  | [.tup xs, .tup ys] => some (.ok ((xs.zip ys).map fun q => Y.tup [q.1, q.2]), g1)
  | [.lst xs, .lst ys] => some (.ok ((xs.zip ys).map fun q => Y.tup [q.1, q.2]), g1)
  | _ => none := rfl
@[simp] theorem e_callFsP {V : VF} {a : VA} {E : VL} {g : Gs} : vcallFs V a E g = bv (a E g) fun ys g1 => bv (V ys g1) fun y g2 => if scalarY y = true then some (.ok y, g2) else none := rfl
@[simp] theorem e_callFt {V : VF} {a : VA} {E : VL} {g : Gs} : vcallFt V a E g = bv (a E g) fun ys g1 => bv (V ys g1) fun y g2 => if flatY y = true then some (.ok y, g2) else none := rfl
theorem check_whole_ok {i lo hi : Int} (h0 : lo ≤ i) (h1 : i ≤ hi) (g : Gs) : VF_check_whole [.int i, .int lo, .int hi] g = some (.ok .non, g) := by
  have hw := s_is_whole (.int i) lo hi g
  have hi : isW lo hi (.int i) = true := by simp only [isW, Bool.and_eq_true, decide_eq_true_eq]; omega
  rw [hi] at hw
  simp [VF_check_whole, VB_check_whole, runV_eq, hw]
end Ev
end
section
set_option Elab.async false
set_option linter.all false
set_option maxRecDepth 100000
namespace Ev
open PySem L2
theorem shown_big {i : Int} (h0 : 0 ≤ i) (h1 : i < 10 ^ 19) : ((PyData.int i).shown).length ≤ 19 := by
  obtain ⟨m, rfl⟩ := Int.eq_ofNat_of_zero_le h0
  show (Str.ofString (toString (m : Int))).length ≤ 19
  have e : toString (m : Int) = Nat.repr m := rfl
  rw [e, Str.ofString_eq_toList]
  show ((List.map Char.toNat (Nat.repr m).toList).toArray).size ≤ 19
  rw [List.size_toArray, List.length_map, String.length_toList]
  exact (Nat.length_repr_le_iff (by decide)).mpr (by omega)
theorem showable_big {i : Int} (h0 : 0 ≤ i) (h1 : i < 10 ^ 19) : (PyData.int i).showable = true := by
  rw [PyData.showable]
  refine decide_eq_true ?_
  by_cases hz : i.natAbs = 0
  · rw [hz]; decide
  · refine (Nat.log2_lt hz).mpr ?_
    have h2 : i.natAbs < 2 ^ 64 := by omega
    exact Nat.lt_of_lt_of_le h2 (Nat.pow_le_pow_right (by decide) (by decide))
theorem same_big {i : Int} (h0 : 0 ≤ i) (h1 : i < 10 ^ 19) (g : Gs) : VF_law_same_52f71 [.int i, .int i] g = some (.ok (.bl true), g) := by
  have ho : okP (.int i) = true := by
    have := shown_big h0 h1
    unfold okP
    rw [showable_big h0 h1, decide_eq_true (p := _ ≤ 1000000) (by omega)]
    rfl
  have hr : reprV [.int i] = some (.str (PyData.int i).shown) := by
    have ht : toPY 9 (.int i) = some (.int i) := rfl
    simp only [reprV, ht, Option.bind_some]
    rw [if_pos ho]
  simp [VF_law_same_52f71, VB_law_same_52f71, runV_eq, hr, eqV, eqY, eqSV]
theorem same_cell61 {c : C2} (h0 : 0 ≤ c.1) (h1 : c.1 < 10 ^ 19) (h2 : 0 ≤ c.2) (h3 : c.2 < 10 ^ 19) (g : Gs) : VF_law_same_52f71 [cY c, cY c] g = some (.ok (.bl true), g) := by
  have ho : okP (pC c) = true := by
    have a1 := shown_big h0 h1
    have a2 := shown_big h2 h3
    have a3 : (pC c).shown.length ≤ 1000000 := by
      unfold pC
      rw [PyData.shown.eq_6]
      refine Nat.le_trans (tupleText_len_le _) ?_
      simp only [PyData.shownAll, List.map_cons, List.map_nil, List.sum_cons, List.sum_nil, List.length_cons, List.length_nil]
      omega
    have a4 : (pC c).showable = true := by
      unfold pC
      rw [PyData.showable.eq_6, PyData.showableAll.eq_2, PyData.showableAll.eq_2, showable_big h0 h1, showable_big h2 h3]
      rfl
    unfold okP
    rw [a4, decide_eq_true a3]
    rfl
  have hr : reprV [cY c] = some (.str (pC c).shown) := by
    have ht : toPY 9 (cY c) = some (pC c) := rfl
    simp only [reprV, ht, Option.bind_some]
    rw [if_pos ho]
  simp [VF_law_same_52f71, VB_law_same_52f71, runV_eq, hr, eqV, eqY, eqSV]

structure Gb (h w : Int) : Prop where
  h1 : 1 ≤ h
  h2 : h ≤ 1000000000
  w1 : 1 ≤ w
  w2 : w ≤ 1000000000
def thr (i : Int) : Int := (i + 2) / 3
theorem thr_in {i : Int} (h1 : 1 ≤ i) (h2 : i ≤ 1000000000) : 1 ≤ thr i ∧ thr i ≤ 333333334 := by unfold thr; omega
theorem s_thr (i : Int) (g : Gs) : VF_in_threes [.int i] g = some (.ok (.int (thr i)), g) := by
  refine runQ' (retQ (binN (y := .int (i + 2)) rfl rfl ?_))
  rfl
theorem s_sizes {y z : Y} (hy : Dt y) (hz : Dt z) (g : Gs) : VF_check_sizes [y, z] g = if isW 1 1000000000 y = true ∧ isW 1 1000000000 z = true then some (.ok .non, g) else some (.ex (.c 0), g) := by
  have h1 := s_is_whole hy 1 1000000000 g
  have h2 := s_is_whole hz 1 1000000000 g
  cases e1 : isW 1 1000000000 y <;> cases e2 : isW 1 1000000000 z <;> rw [e1] at h1 <;> rw [e2] at h2 <;> simp [VF_check_sizes, VB_check_sizes, runV_eq, h1, h2]
theorem mul_big {i j : Int} (h0 : 0 ≤ i) (h1 : i ≤ 10 ^ 18) : mulV (.int i) (.int j) = some (.int (i * j)) := by
  show (if _ then _ else _) = _
  rw [if_pos (Or.inl ⟨by omega, by omega⟩)]
theorem isW_61 {lo hi i : Int} (h0 : lo ≤ i) (h1 : i ≤ hi) : isW lo hi (.int i) = true := by
  show (decide _ && decide _) = true
  rw [decide_eq_true h0, decide_eq_true h1]
  rfl
theorem Gb.sz {h w : Int} (b : Gb h w) (g : Gs) : VF_check_sizes [.int h, .int w] g = some (.ok .non, g) := by
  rw [s_sizes (.int _) (.int _), if_pos ⟨isW_61 b.h1 b.h2, isW_61 b.w1 b.w2⟩]
def kgs (h w : Int) : Int := thr h * thr w
theorem kgs_in {h w : Int} (b : Gb h w) : 1 ≤ kgs h w ∧ kgs h w < 10 ^ 18 := by
  obtain ⟨a1, a2⟩ := thr_in b.h1 b.h2
  obtain ⟨b1, b2⟩ := thr_in b.w1 b.w2
  have h1 : 1 * 1 ≤ thr h * thr w := Int.mul_le_mul a1 b1 (by omega) (by omega)
  have h2 : thr h * thr w ≤ 333333334 * 333333334 := Int.mul_le_mul a2 b2 (by omega) (by omega)
  unfold kgs
  omega
theorem s_kings {h w : Int} (b : Gb h w) (g : Gs) : VF_kings [.int h, .int w] g = some (.ok (.int (kgs h w)), g) := by
  obtain ⟨a1, a2⟩ := thr_in b.h1 b.h2
  refine runQ' (seqQ (exprQ (call2Q rfl rfl (b.sz g))) (retQ (binN (call1Q rfl (s_thr h g)) (call1Q rfl (s_thr w g)) (mul_big (by omega) (by omega)))))
theorem kings_no {y z : Y} (hy : Dt y) (hz : Dt z) (e : ¬ (isW 1 1000000000 y = true ∧ isW 1 1000000000 z = true)) (g : Gs) : VF_kings [y, z] g = some (.ex (.c 0), g) := by
  have h := s_sizes hy hz g
  rw [if_neg e] at h
  simp [VF_kings, VB_kings, runV_eq, h]
def mid (i s : Int) : Int := if s - 1 < 3 * i + 1 then s - 1 else 3 * i + 1
theorem s_mid {i s : Int} (g : Gs) : VF_middle_of [.int i, .int s] g = some (.ok (.int (mid i s)), g) := by
  have hm : mulV (.int 3) (.int i) = some (.int (3 * i)) := mul_big (by decide) (by decide)
  exact runQ' (retQ (callN (consN (y := .int (3 * i + 1)) (binN (y := .int (3 * i)) (binN rfl rfl hm) rfl rfl) (consN (y := .int (s - 1)) (binN rfl rfl rfl) nilN)) rfl))
theorem whole_no {y : Y} (hy : Dt y) {hi : Int} (h0 : 0 ≤ hi) (h1 : hi < 10 ^ 19) (e : isW 0 hi y = false) (g : Gs) : VF_check_whole [y, .int 0, .int hi] g = some (.ex (.c 5), g) := by
  have hw := s_is_whole hy 0 hi g
  rw [e] at hw
  have f2 : fmtV (.int hi) = some (.str (toString hi)) := by
    show (if _ then _ else _) = _
    rw [if_pos ⟨by omega, by omega⟩]
  have hl := shown_big h0 h1
  let A : Str := Str.empty ++ "the number is a whole one from " ++ toString (0 : Int) ++ " to "
  have hA : A.length ≤ 100 := by decide +kernel
  obtain ⟨t, ht⟩ : ∃ x, vjoin (vconsJ (vcst (.str "the number is a whole one from ")) (vconsJ (vun fmtV (vvr 1)) (vconsJ (vcst (.str " to ")) (vconsJ (vun fmtV (vvr 2)) vnilJ)))) [some y, some (.int 0), some (.int hi)] g = some (.ok (.str x), g) := by
    refine ⟨A ++ toString hi, ?_⟩
    have hlast : vconsJ (vun fmtV (vvr 2)) vnilJ A [some y, some (.int 0), some (.int hi)] g = some (.ok (A ++ toString hi), g) := by
      unfold vconsJ
      rw [unN (y := .int hi) rfl f2, bv_ok]
      show (if _ then _ else _) = _
      have hl2 : (A ++ Str.ofString (toString hi)).length ≤ 1000000 := by
        rw [Str.length_append]
        have : (Str.ofString (toString hi)).length ≤ 19 := hl
        omega
      rw [if_pos hl2]
      rfl
    show bv (vconsJ (vun fmtV (vvr 2)) vnilJ A [some y, some (.int 0), some (.int hi)] g) (fun x g1 => some (R.ok (Y.str x), g1)) = _
    rw [hlast]
    rfl
  simp only [VF_check_whole, VB_check_whole, runV_eq, List.map_cons, List.map_nil, List.length_cons, List.length_nil, Nat.reduceAdd, Nat.reduceSub, List.replicate_zero, List.append_nil, e_if, e_tnot, e_tb, e_callF, e_cons, e_nil, e_var, List.getElem?_cons_succ, List.getElem?_cons_zero, bv_ok, hw, Bool.not_false]
  simp only [vraise, e_cons, e_nil, ht, bv_ok]
  rfl
def kat (h w n : Int) : C2 := (mid (n / thr w) h, mid (n % thr w) w)
theorem s_king_at {h w : Int} (b : Gb h w) {n : Int} (n0 : 0 ≤ n) (n1 : n < kgs h w) (g : Gs) : VF_king_at [.int h, .int w, .int n] g = some (.ok (cY (kat h w n)), g) := by
  obtain ⟨a1, a2⟩ := thr_in b.w1 b.w2
  have hdm : divmodV [.int n, .int (thr w)] = some (.tup [.int (n / thr w), .int (n % thr w)]) := by
    show (if _ then _ else _) = _
    rw [if_pos ⟨by omega, by omega⟩]
  refine runQ' (seqQ (exprQ (callFN (consN rfl (consN rfl (consN (y := .int (kgs h w - 1)) (binN (call2Q rfl rfl (s_kings b g)) rfl rfl) nilN))) (check_whole_ok n0 (by omega) g))) ?_)
  refine seqQ (asgTN (callN (consN rfl (consN (call1Q rfl (s_thr w g)) nilN)) hdm) rfl) ?_
  exact retQ (tupN (consN (call2Q rfl rfl (s_mid g)) (consN (call2Q rfl rfl (s_mid g)) nilN)) (by simp))
theorem king_at_no {y z v : Y} (hy : Dt y) (hz : Dt z) (e : ¬ (isW 1 1000000000 y = true ∧ isW 1 1000000000 z = true)) (g : Gs) : VF_king_at [y, z, v] g = some (.ex (.c 0), g) := by
  simp [VF_king_at, VB_king_at, runV_eq, kings_no hy hz e]
theorem king_at_num {h w : Int} (b : Gb h w) {v : Y} (hv : Dt v) (e : isW 0 (kgs h w - 1) v = false) (g : Gs) : VF_king_at [.int h, .int w, v] g = some (.ex (.c 5), g) := by
  obtain ⟨k1, k2⟩ := kgs_in b
  have hs : subV (.int (kgs h w)) (.int 1) = some (.int (kgs h w - 1)) := rfl
  simp [VF_king_at, VB_king_at, runV_eq, s_kings b, hs, whole_no hv (hi := kgs h w - 1) (by omega) (by omega) e]
def kof (w : Int) (c : C2) : Int := c.1 / 3 * thr w + c.2 / 3
theorem king_of_no {y z v : Y} (hy : Dt y) (hz : Dt z) (e : ¬ (isW 1 1000000000 y = true ∧ isW 1 1000000000 z = true)) (g : Gs) : VF_king_of [y, z, v] g = some (.ex (.c 0), g) := by
  have h := s_sizes hy hz g
  rw [if_neg e] at h
  simp [VF_king_of, VB_king_of, runV_eq, h]
theorem king_of_cell {h w : Int} (b : Gb h w) {v : Y} (hv : Dt v) (e : isCl h w v = false) (g : Gs) : VF_king_of [.int h, .int w, v] g = some (.ex (.c 2), g) := by
  have hc := s_check_cell hv h w g
  rw [e, if_neg (by decide)] at hc
  have hc : VF_check_cell [.tup [.int h, .int w], v] g = some (.ex (.c 2), g) := hc
  simp [VF_king_of, VB_king_of, runV_eq, b.sz, hc]
theorem s_king_of {h w : Int} (b : Gb h w) {c : C2} (hc : inB h w c = true) (g : Gs) : VF_king_of [.int h, .int w, cY c] g = some (.ok (.int (kof w c)), g) := by
  obtain ⟨a1, a2⟩ := thr_in b.w1 b.w2
  have h1 := b.h1; have h2 := b.h2; have h3 := b.w1; have h4 := b.w2
  obtain ⟨i1, i2, i3, i4⟩ := inB_iff.mp hc
  have hck := s_check_cell (.cell c) h w g
  rw [isCl_cell, hc, if_pos rfl] at hck
  refine runQ' (seqQ (exprQ (call2Q rfl rfl (b.sz g))) (seqQ (exprQ (callFN (consN (tupN (consN rfl (consN rfl nilN)) (by simp)) (consN rfl nilN)) hck)) ?_))
  refine seqQ (asgTN (y := cY c) rfl rfl) ?_
  exact retQ (binN (y := .int (c.1 / 3 * thr w)) (z := .int (c.2 / 3)) (binN (y := .int (c.1 / 3)) (binN (y := .int c.1) rfl rfl rfl) (call1Q rfl (s_thr w g)) (mul_big (by omega) (by omega))) (binN (y := .int c.2) rfl rfl rfl) rfl)
end Ev
end
section
set_option Elab.async false
set_option linter.all false
set_option maxRecDepth 100000
namespace Ev
open PySem L2
theorem pow9 : powV (.int 10) (.int 9) = some (.int 1000000000) := rfl
theorem ix_mem61 {L : List Y} {i : Int} (h0 : 0 ≤ i) (h1 : i < (L.length : Int)) : ∃ y ∈ L, ixV (.lst L) (.int i) = some y := by
  obtain ⟨y, h, e⟩ := ix_pick h0 (show i < (L.length : Int) from h1)
  exact ⟨y, h, e⟩
theorem wp_retQ61 {f : VE} {E : VL} {g : Gs} {Q : FY → Gs → Prop} (h : Wp (f E g) fun y g1 => Q (.rt y) g1) : Wp (vret f E g) Q := by
  obtain ⟨y, g1, e, q⟩ := h
  exact ⟨_, g1, retQ e, q⟩
theorem wp_asgT61 {f : VE} {vg : Y → VL → Option VL} {E E1 : VL} {g g1 : Gs} {y : Y} {t : VS} {Q : FY → Gs → Prop} (h : f E g = some (.ok y, g1)) (h2 : vg y E = some E1) (k : Wp (t E1 g1) Q) : Wp (vseq (vasg f vg) t E g) Q := seqN (asgTN h h2) k
theorem wp_side (g : Gs) {Q : Y → Gs → Prop} (hq : ∀ i g', 1 ≤ i → i ≤ 1000000000 → Q (.int i) g') : Wp (VF_law_side_2ab2c [.stt] g) Q := by
  refine runVW ?_
  show Wp (VB_law_side_2ab2c [some .stt, none] g) _
  unfold VB_law_side_2ab2c
  refine wp_asgW (wp_lst (wp_cons (wp_bin (wpE (binN rfl rfl pow9) (wp_draw8 rfl (by decide) (by decide) fun a g1 a0 a1 => ⟨_, rfl, ?_⟩))))) 
  refine wp_cons (wp_bin (wp_cst (wp_callF (wp_cons (wp_var rfl (wp_cons (wpE (binN rfl rfl pow9) (wp_nil (wp_draw (by decide) (by decide) fun b g2 b0 b1 => ⟨_, rfl, ?_⟩)))))))))
  refine wp_cons (wp_bin (wp_cst (wp_draw8 rfl (by decide) (by decide) fun c g3 c0 c1 => ⟨_, rfl, wp_nil ⟨by simp, ?_⟩⟩)))
  refine wp_retQ61 (wp_bin (wp_var rfl (wp_draw8 rfl (by decide) (by decide) fun d g4 d0 d1 => ?_)))
  obtain ⟨y, hy, e⟩ := ix_mem61 (L := [.int (1000000000 - a), .int (1 + b), .int (1 + c)]) d0 (by simpa using d1)
  refine ⟨y, e, ?_⟩
  simp only [List.mem_cons, List.not_mem_nil, or_false] at hy
  rcases hy with rfl | rfl | rfl
  · exact hq _ g4 (by omega) (by omega)
  · exact hq _ g4 (by omega) (by omega)
  · exact hq _ g4 (by omega) (by omega)
theorem odd61 {y : Y} (h : y ∈ [Y.int 0, .int (-1), .int 1000000001, .int 100000000000000000000000000000, .bl true, .non, .str "3", .tup [.int 3]]) : Dt y ∧ isW 1 1000000000 y = false := by
  simp only [List.mem_cons, List.not_mem_nil, or_false] at h
  rcases h with rfl | rfl | rfl | rfl | rfl | rfl | rfl | rfl
  · exact ⟨.int _, by decide⟩
  · exact ⟨.int _, by decide⟩
  · exact ⟨.int _, by decide⟩
  · exact ⟨.int _, by decide⟩
  · exact ⟨.bl _, rfl⟩
  · exact ⟨.non, rfl⟩
  · exact ⟨.str _, rfl⟩
  · exact ⟨.tup (by intro y hy; rw [List.mem_singleton.mp hy]; exact .int _), rfl⟩
theorem num61 {n : Int} (hn : 1 ≤ n) {y : Y} (h : y ∈ [Y.int (-1), .int n, .int (n + 1000000000), .bl true, .non, .str "0"]) : Dt y ∧ isW 0 (n - 1) y = false := by
  have hi : ∀ i : Int, ¬ (0 ≤ i ∧ i ≤ n - 1) → isW 0 (n - 1) (.int i) = false := fun i hi => by
    show (decide _ && decide _) = false
    rw [Bool.and_eq_false_iff, decide_eq_false_iff_not, decide_eq_false_iff_not]
    omega
  simp only [List.mem_cons, List.not_mem_nil, or_false] at h
  rcases h with rfl | rfl | rfl | rfl | rfl | rfl
  · exact ⟨.int _, hi _ (by omega)⟩
  · exact ⟨.int _, hi _ (by omega)⟩
  · exact ⟨.int _, hi _ (by omega)⟩
  · exact ⟨.bl _, rfl⟩
  · exact ⟨.non, rfl⟩
  · exact ⟨.str _, rfl⟩
theorem wrong61 {h w : Int} {r c : Int} {y : Y} (hy : y ∈ [Y.tup [.int (-1), .int c], .tup [.int h, .int c], .tup [.int r, .int w], .lst [.int r, .int c], .non, .int r, .tup [.int r]]) : Dt y ∧ isCl h w y = false := by
  have d2 : ∀ {a b : Y}, Dt a → Dt b → Dt (.tup [a, b]) := fun ha hb => .two ha hb
  have m1 : isW 0 (h - 1) (.int h) = false := by simp only [isW]; rw [decide_eq_false (p := h ≤ h - 1) (by omega), Bool.and_false]
  have m2 : isW 0 (w - 1) (.int w) = false := by simp only [isW]; rw [decide_eq_false (p := w ≤ w - 1) (by omega), Bool.and_false]
  simp only [List.mem_cons, List.not_mem_nil, or_false] at hy
  rcases hy with rfl | rfl | rfl | rfl | rfl | rfl | rfl
  · exact ⟨d2 (.int _) (.int _), rfl⟩
  · exact ⟨d2 (.int _) (.int _), by show (isW 0 (h - 1) (.int h) && _) = false; rw [m1]; rfl⟩
  · exact ⟨d2 (.int _) (.int _), by show (_ && isW 0 (w - 1) (.int w)) = false; rw [m2, Bool.and_false]⟩
  · exact ⟨.lst (by intro y hy; simp only [List.mem_cons, List.not_mem_nil, or_false] at hy; rcases hy with rfl | rfl <;> exact .int _), rfl⟩
  · exact ⟨.non, rfl⟩
  · exact ⟨.int _, rfl⟩
  · exact ⟨.tup (by intro y hy; rw [List.mem_singleton.mp hy]; exact .int _), rfl⟩
def words61 : List Y := [.str "board", .str "board", .str "board", .str "board", .str "board", .str "board", .str "number", .str "cell"]
theorem wp_none {h w : Int} (b : Gb h w) {c : C2} (g : Gs) {Q : Y → Gs → Prop} (hq : ∀ g', Q (.bl true) g') : Wp (VF_law_none_right_0cc4b [.stt, .int h, .int w, cY c] g) Q := by
  obtain ⟨k1, k2⟩ := kgs_in b
  have hcl : noCloL [.stt, .int h, .int w, cY c] = true := rfl
  unfold VF_law_none_right_0cc4b runVB
  rw [if_pos hcl]
  suffices hw : Wp (VB_law_none_right_0cc4b [some .stt, some (.int h), some (.int w), some (cY c), none, none, none, none, none, none, none, none] g) fun fl g1 => fl = .rt (.bl true) by
    obtain ⟨fl, g1, e, rfl⟩ := hw
    refine ⟨.bl true, g1, ?_, hq g1⟩
    show bv (VB_law_none_right_0cc4b [some .stt, some (.int h), some (.int w), some (cY c), none, none, none, none, none, none, none, none] g) _ = _
    rw [e]
    rfl
  unfold VB_law_none_right_0cc4b
  refine wp_asgW (wp_bin (wpE (lstN (consN rfl (consN (unN rfl rfl) (consN (binN (binN rfl rfl pow9) rfl rfl) (consN (binN rfl rfl rfl) (consN rfl (consN rfl (consN rfl (consN (tupN (consN rfl nilN) (by simp)) nilN)))))))) (by simp)) (wp_draw8 rfl (by decide) (by decide) fun i1 g1 a1 b1 => ?_)))
  obtain ⟨yo, ho, eo⟩ := ix_mem61 (L := [.int 0, .int (-1), .int 1000000001, .int 100000000000000000000000000000, .bl true, .non, .str "3", .tup [.int 3]]) a1 (by simpa using b1)
  obtain ⟨do1, do2⟩ := odd61 ho
  refine ⟨yo, eo, ?_⟩
  refine wp_asg (y := .int (kgs h w)) (g1 := g1) (call2Q rfl rfl (s_kings b g1)) ?_
  refine wp_asgW (wp_bin (wpE (lstN (consN (unN rfl rfl) (consN rfl (consN (binN rfl (binN rfl rfl pow9) rfl) (consN rfl (consN rfl (consN rfl nilN)))))) (by simp)) (wp_draw8 rfl (by decide) (by decide) fun i2 g2 a2 b2 => ?_)))
  obtain ⟨yn, hn, en⟩ := ix_mem61 (L := [.int (-1), .int (kgs h w), .int (kgs h w + 1000000000), .bl true, .non, .str "0"]) a2 (by simpa using b2)
  obtain ⟨dn1, dn2⟩ := num61 k1 hn
  refine ⟨yn, en, ?_⟩
  refine wp_asgT61 (y := cY c) (g1 := g2) rfl rfl ?_
  refine wp_asgW (wp_bin (wpE (lstN (consN (tupN (consN (unN rfl rfl) (consN rfl nilN)) (by simp)) (consN (tupN (consN rfl (consN rfl nilN)) (by simp)) (consN (tupN (consN rfl (consN rfl nilN)) (by simp)) (consN (lstN (consN rfl (consN rfl nilN)) (by simp)) (consN rfl (consN rfl (consN (tupN (consN rfl nilN) (by simp)) nilN))))))) (by simp)) (wp_draw8 rfl (by decide) (by decide) fun i3 g3 a3 b3 => ?_)))
  obtain ⟨yw, hw, ew⟩ := ix_mem61 (L := [.tup [.int (-1), .int c.2], .tup [.int h, .int c.2], .tup [.int c.1, .int w], .lst [.int c.1, .int c.2], .non, .int c.1, .tup [.int c.1]]) a3 (by simpa using b3)
  obtain ⟨dw1, dw2⟩ := wrong61 hw
  refine ⟨yw, ew, ?_⟩
  let E8 (y8 : Option Y) : VL := [some .stt, some (.int h), some (.int w), some (cY c), some yo, some (.int (kgs h w)), some yn, some yw, y8, some (.int c.1), some (.int c.2), none]
  refine wp_asg (y := .lst [.clo 0]) (g1 := g3) rfl ?_
  refine seqN (E1 := E8 (some (.lst [.clo 0, .clo 1]))) (g1 := g3) rfl ?_
  refine seqN (E1 := E8 (some (.lst [.clo 0, .clo 1, .clo 2]))) (g1 := g3) rfl ?_
  refine seqN (E1 := E8 (some (.lst [.clo 0, .clo 1, .clo 2, .clo 3]))) (g1 := g3) rfl ?_
  refine seqN (E1 := E8 (some (.lst [.clo 0, .clo 1, .clo 2, .clo 3, .clo 4]))) (g1 := g3) rfl ?_
  refine seqN (E1 := E8 (some (.lst [.clo 0, .clo 1, .clo 2, .clo 3, .clo 4, .clo 5]))) (g1 := g3) rfl ?_
  refine seqN (E1 := E8 (some (.lst [.clo 0, .clo 1, .clo 2, .clo 3, .clo 4, .clo 5, .clo 6]))) (g1 := g3) rfl ?_
  refine seqN (E1 := E8 (some (.lst [.clo 0, .clo 1, .clo 2, .clo 3, .clo 4, .clo 5, .clo 6, .clo 7]))) (g1 := g3) rfl ?_
  have n1 : ¬ (isW 1 1000000000 yo = true ∧ isW 1 1000000000 (.int w) = true) := fun z => by rw [do2] at z; cases z.1
  have n2 : ¬ (isW 1 1000000000 (.int h) = true ∧ isW 1 1000000000 yo = true) := fun z => by rw [do2] at z; cases z.2
  have n3 : ¬ (isW 1 1000000000 yo = true ∧ isW 1 1000000000 yo = true) := fun z => by rw [do2] at z; cases z.1
  have c0 := kings_no do1 (.int w) n1 g3
  have c1 := kings_no (.int h) do1 n2 g3
  have c2 := king_at_no (v := yn) do1 (.int w) n1 g3
  have c3 := king_at_no (v := .int 0) (.int h) do1 n2 g3
  have c4 := king_of_no (v := yw) do1 do1 n3 g3
  have c5 := king_of_no (v := cY c) (.int h) do1 n2 g3
  have c6 := king_at_num b dn1 dn2 g3
  have c7 := king_of_cell b dw1 dw2 g3
  have s0 : saidWV [0, 2, 5] 0 = some "board" := rfl
  have s1 : saidWV [0, 2, 5] 2 = some "cell" := rfl
  have s2 : saidWV [0, 2, 5] 5 = some "number" := rfl
  let FB : List VE := [(vcallF VF_kings (vcons (vvr 4) (vcons (vvr 2) vnil))), (vcallF VF_kings (vcons (vvr 1) (vcons (vvr 4) vnil))), (vcallF VF_king_at (vcons (vvr 4) (vcons (vvr 2) (vcons (vvr 6) vnil)))), (vcallF VF_king_at (vcons (vvr 1) (vcons (vvr 4) (vcons (vcst (.int 0)) vnil)))), (vcallF VF_king_of (vcons (vvr 4) (vcons (vvr 4) (vcons (vvr 7) vnil)))), (vcallF VF_king_of (vcons (vvr 1) (vcons (vvr 4) (vcons (vvr 3) vnil)))), (vcallF VF_king_at (vcons (vvr 1) (vcons (vvr 2) (vcons (vvr 6) vnil)))), (vcallF VF_king_of (vcons (vvr 1) (vcons (vvr 2) (vcons (vvr 7) vnil))))]
  let CL : List Y := [.clo 0, .clo 1, .clo 2, .clo 3, .clo 4, .clo 5, .clo 6, .clo 7]
  have hcv : cmpV (gset 11) vyes (vsaidX (saidWV [0, 2, 5]) (vfbs FB) 11) (E8 (some (.lst CL))) CL g3 = some (.ok words61, g3) := by
    simp [E8, CL, FB, cmpV, vsaidX, vfbs, vsaid, c0, c1, c2, c3, c4, c5, c6, c7, s0, s1, s2, words61]
  have hcm : vcmp (vseqI (vvr 8)) [11] (gset 11) vyes (vsaidX (saidWV [0, 2, 5]) (vfbs FB) 11) (E8 (some (.lst CL))) g3 = some (.ok (.lst words61), g3) := by
    rw [e_cmp, seqIN (y := .lst CL) rfl rfl, bv_ok]
    have hw : wipeV (E8 (some (.lst CL))) [11] = E8 (some (.lst CL)) := rfl
    rw [hw, hcv, toL_ok (by decide)]
  have hm : mulV (.lst [.str "board"]) (.int 6) = some (.lst [.str "board", .str "board", .str "board", .str "board", .str "board", .str "board"]) := by simp [mulV, List.replicate]
  have hne : eqV (.lst words61) (.lst words61) = some (.bl true) := by
    have : eqY (.lst words61) (.lst words61) = some true := by decide +kernel
    unfold eqV
    rw [this]; rfl
  exact wp_retQ61 (wpE (binN hcm (binN (binN (lstN (consN rfl nilN) (by simp)) rfl hm) (lstN (consN rfl (consN rfl nilN)) (by simp)) (add_lst (by simp))) hne) rfl)
end Ev
end
section
set_option Elab.async false
set_option linter.all false
set_option maxRecDepth 100000
namespace Ev
open PySem L2
theorem kof_div {h w : Int} (b : Gb h w) {c : C2} (hc : inB h w c = true) : kof w c / thr w = c.1 / 3 ∧ kof w c % thr w = c.2 / 3 ∧ 0 ≤ kof w c ∧ kof w c < kgs h w := by
  obtain ⟨a1, a2⟩ := thr_in b.w1 b.w2
  obtain ⟨a3, a4⟩ := thr_in b.h1 b.h2
  obtain ⟨i1, i2, i3, i4⟩ := inB_iff.mp hc
  have hb : c.2 / 3 < thr w := by unfold thr; omega
  have ha : c.1 / 3 ≤ thr h - 1 := by unfold thr; omega
  have h0 : 0 ≤ c.2 / 3 := by omega
  have h1 : 0 ≤ c.1 / 3 := by omega
  unfold kof kgs
  generalize c.1 / 3 = q at *
  generalize c.2 / 3 = r at *
  generalize thr w = n at *
  generalize thr h = m at *
  refine ⟨?_, ?_, ?_, ?_⟩
  · rw [Int.add_comm, Int.add_mul_ediv_right _ _ (by omega), Int.ediv_eq_zero_of_lt h0 hb]; omega
  · rw [Int.add_comm, Int.add_mul_emod_self_right, Int.emod_eq_of_lt h0 hb]
  · have := Int.mul_nonneg h1 (show 0 ≤ n by omega)
    omega
  · have h2 : q * n ≤ (m - 1) * n := Int.mul_le_mul_of_nonneg_right ha (by omega)
    rw [Int.sub_mul] at h2
    omega
theorem mid_near {r s : Int} (h0 : 0 ≤ r) (h1 : r < s) : -1 ≤ mid (r / 3) s - r ∧ mid (r / 3) s - r ≤ 1 ∧ 0 ≤ mid (r / 3) s ∧ mid (r / 3) s < s := by
  unfold mid
  split <;> omega
theorem mid_in {i s : Int} (h0 : 0 ≤ i) (h1 : 1 ≤ s) : 0 ≤ mid i s ∧ mid i s < s := by
  unfold mid
  split <;> omega
theorem minV_mid (i s : Int) : minV [.int (i * 3 + 1), .int (s - 1)] = some (.int (mid i s)) := by
  show some (Y.int (if s - 1 < i * 3 + 1 then s - 1 else i * 3 + 1)) = _
  unfold mid
  rw [Int.mul_comm i 3]
theorem plain_law61 (ns : List Int) (g : Gs) : ∃ g', VF_law_k61 [.fl (ns.map Y.int)] g = some (.ok (.bl true), g') := by
  refine law_loop (N := 5) (n := 10) adoptsA (by decide) (by decide) (fun k g1 => ?_) fin_true g
  refine wp_parW (wp_cons (wp_callF (wpE (consN rfl nilN) (wp_side g1 fun h g2 b1 b2 => wp_cons (wp_callF (wpE (consN rfl nilN) (wp_side g2 fun w g3 b3 b4 => wp_nil ⟨_, _, rfl, ?_⟩)))))))
  have b : Gb h w := ⟨b1, b2, b3, b4⟩
  obtain ⟨k1, k2⟩ := kgs_in b
  obtain ⟨a1, a2⟩ := thr_in b.w1 b.w2
  obtain ⟨a3, a4⟩ := thr_in b.h1 b.h2
  have ht : ∀ i : Int, fdivV (.int (i + 2)) (.int 3) = some (.int (thr i)) := fun i => rfl
  have hm : mulV (.int (thr h)) (.int (thr w)) = some (.int (kgs h w)) := mul_big (by omega) (by omega)
  refine wp_parW (wpE (consN (binN (y := .int (h + 2)) (binN rfl rfl rfl) rfl (ht h)) (consN (binN (y := .int (w + 2)) (binN rfl rfl rfl) rfl (ht w)) nilN)) ⟨_, _, rfl, ?_⟩)
  have hmul : ∀ {E : VL}, E[7]? = some (some (.int (thr h))) → E[8]? = some (some (.int (thr w))) → ∀ g, vbin mulV (vvr 7) (vvr 8) E g = some (.ok (.int (kgs h w)), g) := fun h7 h8 g => binN (by rw [e_var, h7]) (by rw [e_var, h8]) hm
  refine seqN (g1 := g3) (ifN (tnotN (tbN (callFN (consN (call2Q rfl rfl (s_kings b g3)) (consN (hmul rfl rfl g3) nilN)) (same_big (by omega) (by omega) g3))))) ?_
  let E1 (x3 x4 x9 x10 x11 x12 : Option Y) : VL := [some (.fl (ns.map Y.int)), some (.int k), some .stt, x3, x4, some (.int h), some (.int w), some (.int (thr h)), some (.int (thr w)), x9, x10, x11, x12]
  refine wp_forW (fun ys E g => (∀ y ∈ ys, ∃ n : Int, y = .int n ∧ 0 ≤ n ∧ n < kgs h w) ∧ ∃ x3 x9 x10, E = E1 x3 none x9 x10 none none) (wp_seqI (wp_lst (wp_cons (wp_cst (wp_cons (wpE (binN (hmul rfl rfl g3) rfl rfl) (wp_cons (wpE (binN rfl rfl rfl) (wp_cons (wp_callF (wp_cons (wp_var rfl (wp_cons (wpE (hmul rfl rfl g3) (wp_nil (wp_draw (by omega) (by omega) fun d g4 d0 d1 => wp_nil ⟨by simp, _, rfl, ⟨?_, none, none, none, rfl⟩⟩)))))))))))))))) ?_ ?_
  · intro y hy
    simp only [List.mem_cons, List.not_mem_nil, or_false] at hy
    have hle : thr w ≤ kgs h w := by
      have : 1 * thr w ≤ thr h * thr w := Int.mul_le_mul_of_nonneg_right a3 (by omega)
      unfold kgs
      omega
    rcases hy with rfl | rfl | rfl | rfl
    · exact ⟨0, rfl, by omega, by omega⟩
    · exact ⟨_, rfl, by omega, by omega⟩
    · exact ⟨_, rfl, by omega, by omega⟩
    · exact ⟨d, rfl, d0, d1⟩
  · rintro y ys E g ⟨hy, x3, x9, x10, rfl⟩
    obtain ⟨n, rfl, n0, n1⟩ := hy y (by simp)
    refine ⟨E1 (some (.int n)) none x9 x10 none none, rfl, ?_⟩
    have hq0 : 0 ≤ n / thr w := Int.ediv_nonneg n0 (by omega)
    have hr0 : 0 ≤ n % thr w := Int.emod_nonneg _ (by omega)
    have hr1 : n % thr w < thr w := Int.emod_lt_of_pos _ (by omega)
    have hq1 : n / thr w ≤ n := Int.ediv_le_self _ n0
    have hd : fdivV (.int n) (.int (thr w)) = some (.int (n / thr w)) := by
      show (if _ then _ else _) = _
      rw [if_pos ⟨by omega, by omega⟩]
    have hmd : modV (.int n) (.int (thr w)) = some (.int (n % thr w)) := by
      show (if _ then _ else _) = _
      rw [if_pos (by omega)]
    refine wp_parW (wpE (consN (binN (binN (binN rfl rfl hd) rfl (mul_big hq0 (by omega))) rfl rfl) (consN (binN (binN (binN rfl rfl hmd) rfl (mul_big hr0 (by omega))) rfl rfl) nilN)) ⟨_, _, rfl, ?_⟩)
    have hk := s_king_at b n0 n1 g
    obtain ⟨m1, m2⟩ := mid_in (s := h) hq0 b.h1
    obtain ⟨m3, m4⟩ := mid_in (s := w) hr0 b.w1
    have h2 := b.h2; have h4 := b.w2
    refine wpE (ifN (tnotN (tbN (callFN (consN (lawQ rfl rfl rfl hk) (consN (tupN (consN (callN (consN rfl (consN (binN rfl rfl rfl) nilN)) (minV_mid (n / thr w) h)) (consN (callN (consN rfl (consN (binN rfl rfl rfl) nilN)) (minV_mid (n % thr w) w)) nilN)) (by simp)) nilN)) (same_cell61 (c := kat h w n) m1 (by show mid _ _ < _; omega) m3 (by show mid _ _ < _; omega) g))))) ⟨fun z hz => hy z (by simp [hz]), _, _, _, rfl⟩
  · rintro E g ⟨_, x3, x9, x10, rfl⟩
    have h2 := b.h2; have h4 := b.w2
    refine wp_asgW (wp_tup (wp_cons (wp_callF (wp_cons (wp_var rfl (wp_cons (wp_var rfl (wp_nil (wp_draw (by omega) (by omega) fun r g5 r0 r1 => wp_cons (wp_callF (wp_cons (wp_var rfl (wp_cons (wp_var rfl (wp_nil (wp_draw (by omega) (by omega) fun c g6 c0 c1 => wp_nil ⟨by simp, ?_⟩))))))))))))))))
    let E2 (x9 x10 x11 x12 : Option Y) : VL := E1 x3 (some (cY (r, c))) x9 x10 x11 x12
    have i1 : ixV (.tup [.int r, .int c]) (.int 1) = some (.int c) := rfl
    have hmx : maxV [.int 0, .int (h - 2)] = some (.int (if h - 2 > 0 then h - 2 else 0)) := rfl
    refine wp_forW (fun ys E g => (∀ y ∈ ys, ∃ q : C2, y = cY q ∧ inB h w q = true) ∧ ∃ x9 x10 x11 x12, E = E2 x9 x10 x11 x12) (wp_seqI (wpE (lstN (consN rfl (consN (tupN (consN (binN rfl rfl rfl) (consN (binN rfl rfl rfl) nilN)) (by simp)) (consN (tupN (consN rfl (consN (binN rfl rfl rfl) nilN)) (by simp)) (consN (tupN (consN (binN rfl rfl rfl) (consN (binN rfl rfl i1) nilN)) (by simp)) (consN (tupN (consN (callN (consN rfl (consN (binN rfl rfl rfl) nilN)) hmx) (consN rfl nilN)) (by simp)) nilN))))) (by simp)) ⟨_, rfl, ?_, x9, x10, none, none, rfl⟩)) ?_ ?_
    · intro y hy
      simp only [List.mem_cons, List.not_mem_nil, or_false] at hy
      rcases hy with rfl | rfl | rfl | rfl | rfl
      · exact ⟨(r, c), rfl, inB_iff.mpr ⟨r0, r1, c0, c1⟩⟩
      · exact ⟨(h - 1, w - 1), rfl, inB_iff.mpr ⟨by show 0 ≤ h - 1; omega, by show h - 1 < h; omega, by show 0 ≤ w - 1; omega, by show w - 1 < w; omega⟩⟩
      · exact ⟨(0, w - 1), rfl, inB_iff.mpr ⟨Int.le_refl 0, by show 0 < h; omega, by show 0 ≤ w - 1; omega, by show w - 1 < w; omega⟩⟩
      · exact ⟨(h - 1, c), rfl, inB_iff.mpr ⟨by show 0 ≤ h - 1; omega, by show h - 1 < h; omega, c0, c1⟩⟩
      · refine ⟨(if h - 2 > 0 then h - 2 else 0, 0), rfl, inB_iff.mpr ⟨?_, ?_, by show (0 : Int) ≤ 0; omega, by show 0 < w; omega⟩⟩
        · show 0 ≤ if h - 2 > 0 then h - 2 else 0
          split <;> omega
        · show (if h - 2 > 0 then h - 2 else 0) < h
          split <;> omega
    · rintro y ys E g ⟨hy, y9, y10, y11, y12, rfl⟩
      obtain ⟨q, rfl, hq⟩ := hy y (by simp)
      obtain ⟨j1, j2, j3, j4⟩ := inB_iff.mp hq
      obtain ⟨d1, d2, d3, d4⟩ := kof_div b hq
      refine ⟨E2 (some (.int q.1)) (some (.int q.2)) y11 y12, rfl, ?_⟩
      have hka : kat h w (kof w q) = (mid (q.1 / 3) h, mid (q.2 / 3) w) := by
        unfold kat
        rw [d1, d2]
      obtain ⟨n1, n2, n3, n4⟩ := mid_near j1 j2
      obtain ⟨n5, n6, n7, n8⟩ := mid_near j3 j4
      refine wp_asg (y := .int (kof w q)) (g1 := g) (callFN (consN rfl (consN rfl (consN (tupN (consN rfl (consN rfl nilN)) (by simp)) nilN))) (s_king_of b hq g)) ?_
      refine wp_asg (y := cY (mid (q.1 / 3) h, mid (q.2 / 3) w)) (g1 := g) (by
        have := s_king_at b d3 d4 g
        rw [hka] at this
        exact lawQ rfl rfl rfl this) ?_
      refine seqN (g1 := g) (ifN (tnotN (tbN (callFN (consN rfl (consN (binN (y := .int (q.1 / 3 * thr w)) (z := .int (q.2 / 3)) (binN (y := .int (q.1 / 3)) (binN (y := .int q.1) rfl rfl rfl) rfl (mul_big (by omega) (by omega))) (binN (y := .int q.2) rfl rfl rfl) rfl) nilN)) (same_big d3 (by omega) g))))) ?_
      let A : Int := mid (q.1 / 3) h - q.1
      let B : Int := mid (q.2 / 3) w - q.2
      have ha : absV [.int A] = some (.int (if A < 0 then -A else A)) := rfl
      have hb : absV [.int B] = some (.int (if B < 0 then -B else B)) := rfl
      have hA : (if A < 0 then -A else A) ≤ 1 := by split <;> omega
      have hB : (if B < 0 then -B else B) ≤ 1 := by split <;> omega
      have hmm : ∀ u v : Int, u ≤ 1 → v ≤ 1 → ∃ m : Int, m ≤ 1 ∧ maxV [.int u, .int v] = some (.int m) := fun u v hu hv => ⟨if v > u then v else u, by split <;> assumption, rfl⟩
      obtain ⟨m, hm1, hm2⟩ := hmm _ _ hA hB
      have hgt : (cmpIV fun i j => decide (j < i)) (.int m) (.int 1) = some (.bl false) := by
        show some (Y.bl (decide (1 < m))) = _
        rw [decide_eq_false (by omega)]
      exact wpE (ifN (tbN (binN (callN (consN (callN (consN (binN (y := .int (mid (q.1 / 3) h)) (z := .int q.1) (binN rfl rfl rfl) rfl rfl) nilN) ha) (consN (callN (consN (binN (y := .int (mid (q.2 / 3) w)) (z := .int q.2) (binN rfl rfl rfl) rfl rfl) nilN) hb) nilN)) hm2) rfl hgt))) ⟨fun z hz => hy z (by simp [hz]), _, _, _, _, rfl⟩
    · rintro E g ⟨_, y9, y10, y11, y12, rfl⟩
      refine wp_ifQ (wp_tnotQ (wp_tbQ (wp_callF (wpE (consN rfl (consN rfl (consN rfl (consN rfl nilN)))) (wp_none b (c := (r, c)) g fun g' => ⟨true, rfl, rfl, ⟨_, rfl, rfl⟩⟩)))))
end Ev
end
section
set_option Elab.async false
namespace Ev
open PySem L2
open PyProof.Rows hiding St
set_option linter.all false
variable [Tabs] [Clos] {K : PySem.W.Frag} {mg : Str → Option Value} {h : Heap} {Goal : Prop}
theorem def_cut {x : Str} {st : Stmt} {ps : List Str} {f : Addr} {oc : Value} {od an : Option Addr} {osl : Array (Option Value)} {kV doc pm cdv ct : Value} (X : K.In h) (G : h.Ns mainGlobals mg) (e : PySem.W.nsIn K mainGlobals x = some (some (.ref f))) (l : K.lookup f = some ⟨oc, od, .func (PySem.W.fnOf x x (defArgs st) (defBody st) (defScope st) .none kV doc pm an cdv ct), osl⟩)
    (c : PySem.W.codeIn K cdv x = true) (k : PySem.W.keepIn K (.ref f) = true) (b : ∀ (kV doc pm : Value) (an : Option Addr) (cdv ct : Value) (us : List Value), us.length = ps.length → bindArgs (PySem.W.fnOf x x (defArgs st) (defBody st) (defScope st) .none kV doc pm an cdv ct) ⟨us, []⟩ = pure (ps.zip us)) (r : DefAt K mg x st ps → Goal) : Goal := r (def_mk X G e l c k b)
theorem defC_cut {x : Str} {st : Stmt} {ps : List Str} {f c0 : Addr} {oc : Value} {od an : Option Addr} {osl : Array (Option Value)} {kV doc pm ct : Value} (X : K.In h) (G : h.Ns mainGlobals mg) (e : PySem.W.nsIn K mainGlobals x = some (some (.ref f))) (l : K.lookup f = some ⟨oc, od, .func (PySem.W.fnOf x x (defArgs st) (defBody st) (defScope st) .none kV doc pm an (.ref c0) ct), osl⟩)
    (c : PySem.W.codeIn K (.ref c0) x = true) (k : PySem.W.keepIn K (.ref f) = true) (b : ∀ (kV doc pm : Value) (an : Option Addr) (cdv ct : Value) (us : List Value), us.length = ps.length → bindArgs (PySem.W.fnOf x x (defArgs st) (defBody st) (defScope st) .none kV doc pm an cdv ct) ⟨us, []⟩ = pure (ps.zip us)) (r : DefAtC K mg x st ps c0 → Goal) : Goal := r (defC_mk X G e l c k b)
theorem law_cut {x y : Str} {st : Stmt} {f fa : Addr} {oc : Value} {od an : Option Addr} {osl : Array (Option Value)} {kV doc pm cdv ct : Value} (X : K.In h) (G : h.Ns mainGlobals mg) (hfa : mg x = some (.ref fa)) (e : PySem.W.nsIn K mainGlobals x = some (some (.ref f))) (l : K.lookup f = some ⟨oc, od, .func (PySem.W.fnOf x x (defArgs st) (defBody st) (defScope st) .none kV doc pm an cdv ct), osl⟩)
    (c : PySem.W.codeIn K cdv x = true) (k : PySem.W.keepIn K (.ref f) = true) (b : ∀ (kV doc pm : Value) (an : Option Addr) (cdv ct : Value) (u : Value), bindArgs (PySem.W.fnOf x x (defArgs st) (defBody st) (defScope st) .none kV doc pm an cdv ct) ⟨[u], []⟩ = pure [(y, u)]) (r : (∃ fd, Fun K x x st fa fd ∧ ∀ (s : Shared) (u : Value), BindsTo s fd ⟨[u], []⟩ [(y, u)]) → Goal) : Goal := r (law_mk X G hfa e l c k b)
theorem cst_cut {x : Str} {i : Int} {k : Tok} (X : K.In h) (G : h.Ns mainGlobals mg) (e : PySem.W.nsIn K mainGlobals x = some (some (.int i k))) (r : CstAt mg x (.int i) → Goal) : Goal := r ⟨_, PySem.W.mg_of X G e, ⟨k, rfl⟩⟩
theorem cls_cut {x : Str} (C : Addr) (X : K.In h) (G : h.Ns mainGlobals mg) (e : PySem.W.nsIn K mainGlobals x = some (some (.ref C))) (r : mg x = some (.ref C) → Goal) : Goal := r (PySem.W.mg_of X G e)
theorem none_cut (X : K.In h) (G : h.Ns mainGlobals mg) (e : ∀ x ∈ bNames, PySem.W.nsIn K mainGlobals x = some none) (r : (∀ x ∈ bNames, mg x = none) → Goal) : Goal := r fun x hx => PySem.W.mg_none_of X G (e x hx)
abbrev clA : Cls := fun n => Value.ref (CA n)
theorem said_cut (X : K.In h) (hs : mg "SightError" = some (.ref SIGHT)) (m0 : mg "NoBoard" = some (.ref (CA 0))) (m1 : mg "NoPiece" = some (.ref (CA 1))) (m2 : mg "NoCell" = some (.ref (CA 2))) (m3 : mg "NoLot" = some (.ref (CA 3))) (m4 : mg "NoSight" = some (.ref (CA 4))) (m5 : mg "NoNumber" = some (.ref (CA 5))) (m6 : mg "NoPrices" = some (.ref (CA 6))) (m7 : mg "NoTurn" = some (.ref (CA 7))) (m8 : mg "NoPlacing" = some (.ref (CA 8))) (m9 : mg "NoText" = some (.ref (CA 9))) (m10 : mg "NoLine" = some (.ref (CA 10))) (m11 : mg "NoDeed" = some (.ref (CA 11))) (m12 : mg "TooGreat" = some (.ref (CA 12)))
  (exk : ∀ n ∈ XS, ExcK K (CA n))
  (kit : ∀ n ∈ XS, ∀ j < 13, PySem.W.kitOne K (.ref (CA n)) (.ref (CA j)) = some (n == j))
  (kitv : ∀ n ∈ XS, PySem.W.kitOne K (.ref (CA n)) (.type "ValueError") = some true)
  (exm : ∀ n ∈ XS, PySem.W.exmOne K (.ref (CA n)) (.ref SIGHT) = some true) (r : SaidF K mg clA → Goal) : Goal := r ⟨hs, m0, m1, m2, m3, m4, m5, m6, m7, m8, m9, m10, m11, m12, fun _ _ => rfl, exk, kit, kitv, exm⟩
theorem plain_law : ∀ ns : List Int, ns.length ≤ 63 → ∃ S', F_law [.fl (ns.map D.int)] [] = some (.ok (.bl true), S') := fun ns _ => simL_law ns ⟨0, 0, by decide, by decide⟩ (plain_law61 ns _)
end Ev
open PySem PySem.W PyProof.Rows
set_option maxRecDepth 100000 in
set_option maxHeartbeats 0 in
theorem PySem.Challenge.cw_seeall_k61_kings_on_great_boards_holds : PySem.Challenge.rw_seeall_k61_kings_on_great_boards.Holds := by
  w_on; o_law; km_head; (case hw => w_witness2)
  k_fill
  letI TT : Ev.Tabs := ⟨[(311, (("_law_none_right.<locals>." : Str) ++ ("<lambda>" : Str)))], by
    intro q hq r hr he
    simp only [List.mem_cons, List.not_mem_nil, or_false] at hq hr
    rcases hq with rfl <;> rcases hr with rfl <;> first | rfl | (exact absurd he (by decide))⟩
  letI CC : Ev.Clos := ⟨fun _ => "", fun _ _ _ => False⟩
  refine Ev.walkTX (l := PySem.Challenge.rw_seeall_k61_kings_on_great_boards) (k := 8) (ts := [311]) (x := "_law_script") (Fl := Ev.F_law) rfl rfl ⟨rfl, by decide, by decide, rfl⟩ (fun w h Y => ⟨PySem.W.km_in_of Y, PySem.W.km_tabs_of Y⟩) ?hcd ?htl ?F Ev.plain_law
  case htl => decide
  case hcd =>
    intro p P hP
    simp only [List.mem_cons, List.not_mem_nil, or_false] at hP
    rcases hP with rfl
    · exact ⟨by kernel_rfl, 313, by kernel_rfl⟩
  case F =>
    intro w mg fa h KX G hmg XPh
    refine' Ev.def_cut (x := "_law_cell_at") (st := Ev.top 31) (ps := Ev.P_law_cell_at) KX G ?a1 ?l1 ?c1 ?k1 (fun _ _ _ _ _ _ us hl => match us, hl with | [_, _], _ => rfl) ?r1
    (case a1 => k_is); (case l1 => k_is); (case c1 => k_is); (case k1 => k_is)
    intro d_law_cell_at
    refine' Ev.def_cut (x := "_law_state") (st := Ev.top 32) (ps := Ev.P_law_state) KX G ?a2 ?l2 ?c2 ?k2 (fun _ _ _ _ _ _ us hl => match us, hl with | [_, _], _ => rfl) ?r2
    (case a2 => k_is); (case l2 => k_is); (case c2 => k_is); (case k2 => k_is)
    intro d_law_state
    refine' Ev.def_cut (x := "_law_choice") (st := Ev.top 33) (ps := Ev.P_law_choice) KX G ?a3 ?l3 ?c3 ?k3 (fun _ _ _ _ _ _ us hl => match us, hl with | [_, _], _ => rfl) ?r3
    (case a3 => k_is); (case l3 => k_is); (case c3 => k_is); (case k3 => k_is)
    intro d_law_choice
    refine' Ev.def_cut (x := "_law_side") (st := Ev.top 36) (ps := Ev.P_law_side) KX G ?a4 ?l4 ?c4 ?k4 (fun _ _ _ _ _ _ us hl => match us, hl with | [_], _ => rfl) ?r4
    (case a4 => k_is); (case l4 => k_is); (case c4 => k_is); (case k4 => k_is)
    intro d_law_side
    refine' Ev.def_cut (x := "_law_same") (st := Ev.top 34) (ps := Ev.P_law_same) KX G ?a5 ?l5 ?c5 ?k5 (fun _ _ _ _ _ _ us hl => match us, hl with | [_, _], _ => rfl) ?r5
    (case a5 => k_is); (case l5 => k_is); (case c5 => k_is); (case k5 => k_is)
    intro d_law_same
    refine' Ev.def_cut (x := "is_whole") (st := Ev.top 16) (ps := Ev.P_is_whole) KX G ?a6 ?l6 ?c6 ?k6 (fun _ _ _ _ _ _ us hl => match us, hl with | [_, _, _], _ => rfl) ?r6
    (case a6 => k_is); (case l6 => k_is); (case c6 => k_is); (case k6 => k_is)
    intro d_is_whole
    refine' Ev.def_cut (x := "check_sizes") (st := Ev.top 24) (ps := Ev.P_check_sizes) KX G ?a7 ?l7 ?c7 ?k7 (fun _ _ _ _ _ _ us hl => match us, hl with | [_, _], _ => rfl) ?r7
    (case a7 => k_is); (case l7 => k_is); (case c7 => k_is); (case k7 => k_is)
    intro d_check_sizes
    refine' Ev.def_cut (x := "is_couple") (st := Ev.top 18) (ps := Ev.P_is_couple) KX G ?a8 ?l8 ?c8 ?k8 (fun _ _ _ _ _ _ us hl => match us, hl with | [_], _ => rfl) ?r8
    (case a8 => k_is); (case l8 => k_is); (case c8 => k_is); (case k8 => k_is)
    intro d_is_couple
    refine' Ev.def_cut (x := "is_cell") (st := Ev.top 20) (ps := Ev.P_is_cell) KX G ?a9 ?l9 ?c9 ?k9 (fun _ _ _ _ _ _ us hl => match us, hl with | [_, _], _ => rfl) ?r9
    (case a9 => k_is); (case l9 => k_is); (case c9 => k_is); (case k9 => k_is)
    intro d_is_cell
    refine' Ev.def_cut (x := "check_cell") (st := Ev.top 21) (ps := Ev.P_check_cell) KX G ?a10 ?l10 ?c10 ?k10 (fun _ _ _ _ _ _ us hl => match us, hl with | [_, _], _ => rfl) ?r10
    (case a10 => k_is); (case l10 => k_is); (case c10 => k_is); (case k10 => k_is)
    intro d_check_cell
    refine' Ev.def_cut (x := "in_threes") (st := Ev.top 25) (ps := Ev.P_in_threes) KX G ?a11 ?l11 ?c11 ?k11 (fun _ _ _ _ _ _ us hl => match us, hl with | [_], _ => rfl) ?r11
    (case a11 => k_is); (case l11 => k_is); (case c11 => k_is); (case k11 => k_is)
    intro d_in_threes
    refine' Ev.def_cut (x := "king_of") (st := Ev.top 29) (ps := Ev.P_king_of) KX G ?a12 ?l12 ?c12 ?k12 (fun _ _ _ _ _ _ us hl => match us, hl with | [_, _, _], _ => rfl) ?r12
    (case a12 => k_is); (case l12 => k_is); (case c12 => k_is); (case k12 => k_is)
    intro d_king_of
    refine' Ev.def_cut (x := "check_whole") (st := Ev.top 17) (ps := Ev.P_check_whole) KX G ?a13 ?l13 ?c13 ?k13 (fun _ _ _ _ _ _ us hl => match us, hl with | [_, _, _], _ => rfl) ?r13
    (case a13 => k_is); (case l13 => k_is); (case c13 => k_is); (case k13 => k_is)
    intro d_check_whole
    refine' Ev.def_cut (x := "middle_of") (st := Ev.top 27) (ps := Ev.P_middle_of) KX G ?a14 ?l14 ?c14 ?k14 (fun _ _ _ _ _ _ us hl => match us, hl with | [_, _], _ => rfl) ?r14
    (case a14 => k_is); (case l14 => k_is); (case c14 => k_is); (case k14 => k_is)
    intro d_middle_of
    refine' Ev.def_cut (x := "kings") (st := Ev.top 26) (ps := Ev.P_kings) KX G ?a15 ?l15 ?c15 ?k15 (fun _ _ _ _ _ _ us hl => match us, hl with | [_, _], _ => rfl) ?r15
    (case a15 => k_is); (case l15 => k_is); (case c15 => k_is); (case k15 => k_is)
    intro d_kings
    refine' Ev.def_cut (x := "king_at") (st := Ev.top 28) (ps := Ev.P_king_at) KX G ?a16 ?l16 ?c16 ?k16 (fun _ _ _ _ _ _ us hl => match us, hl with | [_, _, _], _ => rfl) ?r16
    (case a16 => k_is); (case l16 => k_is); (case c16 => k_is); (case k16 => k_is)
    intro d_king_at
    refine' Ev.def_cut (x := "_law_said") (st := Ev.top 35) (ps := Ev.P_law_said) KX G ?a17 ?l17 ?c17 ?k17 (fun _ _ _ _ _ _ us hl => match us, hl with | [_], _ => rfl) ?r17
    (case a17 => k_is); (case l17 => k_is); (case c17 => k_is); (case k17 => k_is)
    intro d_law_said
    refine' Ev.defC_cut (x := "_law_none_right") (st := Ev.top 37) (ps := Ev.P_law_none_right) (c0 := Ev.CODE_law_none_right) KX G ?a18 ?l18 ?c18 ?k18 (fun _ _ _ _ _ _ us hl => match us, hl with | [_, _, _, _], _ => rfl) ?r18
    (case a18 => k_is); (case l18 => k_is); (case c18 => k_is); (case k18 => k_is)
    intro d_law_none_right
    refine' Ev.law_cut (x := "law") (y := "_law_script") (st := Ev.top 38) KX G hmg ?a19 ?l19 ?c19 ?k19 (fun _ _ _ _ _ _ _ => rfl) ?r19
    (case a19 => k_is); (case l19 => k_is); (case c19 => k_is); (case k19 => k_is)
    rintro ⟨fd, d_law, hbt⟩
    refine' Ev.none_cut KX G ?z20 ?r20
    case z20 =>
      intro x hx
      simp only [Ev.bNames, List.mem_cons, List.not_mem_nil, or_false] at hx
      rcases hx with rfl | rfl | rfl | rfl | rfl | rfl | rfl | rfl | rfl | rfl | rfl | rfl <;> kernel_rfl
    intro hB
    refine' Ev.cst_cut (x := "GREATEST") (i := 1000000000) KX G ?a21 ?r21
    (case a21 => k_is)
    intro hC_GREATEST
    refine' Ev.cls_cut (x := "SightError") Ev.SIGHT KX G ?a22 ?r22
    (case a22 => kernel_rfl)
    intro ms
    refine' Ev.cls_cut (x := "NoBoard") (Ev.CA 0) KX G ?a23 ?r23
    (case a23 => kernel_rfl)
    intro m0
    refine' Ev.cls_cut (x := "NoPiece") (Ev.CA 1) KX G ?a24 ?r24
    (case a24 => kernel_rfl)
    intro m1
    refine' Ev.cls_cut (x := "NoCell") (Ev.CA 2) KX G ?a25 ?r25
    (case a25 => kernel_rfl)
    intro m2
    refine' Ev.cls_cut (x := "NoLot") (Ev.CA 3) KX G ?a26 ?r26
    (case a26 => kernel_rfl)
    intro m3
    refine' Ev.cls_cut (x := "NoSight") (Ev.CA 4) KX G ?a27 ?r27
    (case a27 => kernel_rfl)
    intro m4
    refine' Ev.cls_cut (x := "NoNumber") (Ev.CA 5) KX G ?a28 ?r28
    (case a28 => kernel_rfl)
    intro m5
    refine' Ev.cls_cut (x := "NoPrices") (Ev.CA 6) KX G ?a29 ?r29
    (case a29 => kernel_rfl)
    intro m6
    refine' Ev.cls_cut (x := "NoTurn") (Ev.CA 7) KX G ?a30 ?r30
    (case a30 => kernel_rfl)
    intro m7
    refine' Ev.cls_cut (x := "NoPlacing") (Ev.CA 8) KX G ?a31 ?r31
    (case a31 => kernel_rfl)
    intro m8
    refine' Ev.cls_cut (x := "NoText") (Ev.CA 9) KX G ?a32 ?r32
    (case a32 => kernel_rfl)
    intro m9
    refine' Ev.cls_cut (x := "NoLine") (Ev.CA 10) KX G ?a33 ?r33
    (case a33 => kernel_rfl)
    intro m10
    refine' Ev.cls_cut (x := "NoDeed") (Ev.CA 11) KX G ?a34 ?r34
    (case a34 => kernel_rfl)
    intro m11
    refine' Ev.cls_cut (x := "TooGreat") (Ev.CA 12) KX G ?a35 ?r35
    (case a35 => kernel_rfl)
    intro m12
    refine' Ev.said_cut KX ms m0 m1 m2 m3 m4 m5 m6 m7 m8 m9 m10 m11 m12 ?exk36 ?kit36 ?kitv36 ?exm36 ?r36
    case exk36 =>
      intro n hn
      simp only [Ev.XS, List.mem_cons, List.not_mem_nil, or_false] at hn
      rcases hn with rfl | rfl | rfl <;> exact ⟨by kernel_rfl, by kernel_rfl, by kernel_rfl, by kernel_rfl, by kernel_rfl, by kernel_rfl, by kernel_rfl, by kernel_rfl⟩
    case kit36 =>
      intro n hn j hj
      simp only [Ev.XS, List.mem_cons, List.not_mem_nil, or_false] at hn
      rcases hn with rfl | rfl | rfl
      · match j, hj with
        | 0, _ => kernel_rfl
        | 1, _ => kernel_rfl
        | 2, _ => kernel_rfl
        | 3, _ => kernel_rfl
        | 4, _ => kernel_rfl
        | 5, _ => kernel_rfl
        | 6, _ => kernel_rfl
        | 7, _ => kernel_rfl
        | 8, _ => kernel_rfl
        | 9, _ => kernel_rfl
        | 10, _ => kernel_rfl
        | 11, _ => kernel_rfl
        | 12, _ => kernel_rfl
      · match j, hj with
        | 0, _ => kernel_rfl
        | 1, _ => kernel_rfl
        | 2, _ => kernel_rfl
        | 3, _ => kernel_rfl
        | 4, _ => kernel_rfl
        | 5, _ => kernel_rfl
        | 6, _ => kernel_rfl
        | 7, _ => kernel_rfl
        | 8, _ => kernel_rfl
        | 9, _ => kernel_rfl
        | 10, _ => kernel_rfl
        | 11, _ => kernel_rfl
        | 12, _ => kernel_rfl
      · match j, hj with
        | 0, _ => kernel_rfl
        | 1, _ => kernel_rfl
        | 2, _ => kernel_rfl
        | 3, _ => kernel_rfl
        | 4, _ => kernel_rfl
        | 5, _ => kernel_rfl
        | 6, _ => kernel_rfl
        | 7, _ => kernel_rfl
        | 8, _ => kernel_rfl
        | 9, _ => kernel_rfl
        | 10, _ => kernel_rfl
        | 11, _ => kernel_rfl
        | 12, _ => kernel_rfl
    case kitv36 =>
      intro n hn
      simp only [Ev.XS, List.mem_cons, List.not_mem_nil, or_false] at hn
      rcases hn with rfl | rfl | rfl <;> kernel_rfl
    case exm36 =>
      intro n hn
      simp only [Ev.XS, List.mem_cons, List.not_mem_nil, or_false] at hn
      rcases hn with rfl | rfl | rfl <;> kernel_rfl
    intro Z
    refine ⟨fd, Ev.clA, hbt, fun base _ _ hbm => ?_⟩
    refine' Ev.chain hB hC_GREATEST ⟨m0, ?x_NoBoard, rfl⟩ ⟨m2, ?x_NoCell, rfl⟩ ⟨m5, ?x_NoNumber, rfl⟩ d_law_cell_at d_law_state d_law_choice d_law_side d_law_same d_is_whole d_check_sizes d_is_couple d_is_cell d_check_cell d_in_threes d_king_of d_check_whole d_middle_of d_kings d_king_at d_law_said d_law_none_right ?t_law_none_right (by decide) d_law Z base hbm
    all_goals kernel_rfl

end
