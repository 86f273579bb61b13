import PyProof.Rows.All
import Wide.All
import OpenK.AllK
import Wide.FinOn
import PyProof.EqAt
import PyProof.EqKinds
import PyProof.TupleCall
import Open.SpecLaws
import KE.OsHead
import KE.OsGo
import PyProof.SetScanFacts
import PyProof.SetKind
import PyProof.DictKinds
import PyProof.DictStraight
import PyProof.CollectWalk
import PyProof.FactsAll.set
import PyProof.ForAny
import PyProof.ZipIter
import PyProof.Rows.SetFrom
import PyProof.ListRange
import PyProof.Rows.SortShellAny
import PyProof.Rows.SortWalk
import PyProof.AttrMissHeap
import PyProof.Rows.TupIter
import KE.KTabLook
import KE.KTurns
import KE.KDictLaws
import KE.KDictList
import PySem.Challenge.RW_heldthingsdesk_s01_answers
set_option Elab.async false
set_option linter.all false
set_option maxRecDepth 100000
namespace L2
open PySem PySem.Spec PyProof.Rows
abbrev Key := Sum Int Str
def keyIs : Key → Value → Bool
  | .inl k, v => Value.isInt k v
  | .inr x, v => Value.isStrOf x v
def keyH (w : World) : Key → Int
  | .inl k => hashInt k
  | .inr x => hashStr w x
theorem keyIs_shape : ∀ {k : Key} {v : Value}, keyIs k v = true → (∃ i t, k = Sum.inl i ∧ v = Value.int i t) ∨ (∃ x t, k = Sum.inr x ∧ v = Value.str x t)
  | .inl i, v, h => by
    obtain ⟨t, e⟩ := Value.isInt_shape (k := i) (v := v) h
    exact .inl ⟨i, t, rfl, e⟩
  | .inr x, v, h => by
    obtain ⟨t, e⟩ := Value.isStrOf_shape (x := x) (v := v) h
    exact .inr ⟨x, t, rfl, e⟩
theorem keyIs_int (i : Int) (t : Tok) : keyIs (.inl i) (.int i t) = true := by simp [keyIs, Value.isInt]
theorem keyIs_str (x : Str) (t : Tok) : keyIs (.inr x) (.str x t) = true := by simp [keyIs, Value.isStrOf]
theorem key_ll (a b : Int) : decide ((Sum.inl a : Key) = Sum.inl b) = (a == b) := by
  by_cases e : a = b
  · subst e; simp
  · have h : ¬ (Sum.inl a : Key) = Sum.inl b := fun q => e (Sum.inl.inj q)
    rw [decide_eq_false h]
    exact (beq_eq_false_iff_ne.mpr e).symm
theorem key_rr (a b : Str) : decide ((Sum.inr a : Key) = Sum.inr b) = decide (a = b) := by
  by_cases e : a = b
  · subst e; simp
  · have h : ¬ (Sum.inr a : Key) = Sum.inr b := fun q => e (Sum.inr.inj q)
    rw [decide_eq_false h, decide_eq_false e]
theorem key_lr (a : Int) (b : Str) : decide ((Sum.inl a : Key) = Sum.inr b) = false := decide_eq_false (fun q => nomatch q)
theorem key_rl (a : Str) (b : Int) : decide ((Sum.inr a : Key) = Sum.inl b) = false := decide_eq_false (fun q => nomatch q)
def mixKind (prog : Program) (w : World) : PySem.KeyKind prog w Key where
  is := keyIs
  hash := keyH w
  inj := fun v a b ha hb => by
    rcases keyIs_shape ha with ⟨i, t, rfl, rfl⟩ | ⟨x, t, rfl, rfl⟩
    · rcases keyIs_shape hb with ⟨j, u, rfl, e⟩ | ⟨y, u, rfl, e⟩
      · injection e with e1 _; rw [e1]
      · exact nomatch e
    · rcases keyIs_shape hb with ⟨j, u, rfl, e⟩ | ⟨y, u, rfl, e⟩
      · exact nomatch e
      · injection e with e1 _; rw [e1]
  byValue := fun k v h => by
    rcases keyIs_shape h with ⟨i, t, rfl, rfl⟩ | ⟨x, t, rfl, rfl⟩ <;> rfl
  pyHash := fun hv h => by
    rcases keyIs_shape hv with ⟨i, t, rfl, rfl⟩ | ⟨x, t, rfl, rfl⟩
    · exact wpAny_pyHash_int h
    · exact wpAny_pyHash_str h
  eqBool := fun hu hv h => by
    rcases keyIs_shape hu with ⟨i, t, rfl, rfl⟩ | ⟨x, t, rfl, rfl⟩
    · rcases keyIs_shape hv with ⟨j, u, rfl, rfl⟩ | ⟨y, u, rfl, rfl⟩
      · rw [key_ll] at h; exact wpAny_eqBool_int h
      · rw [key_lr] at h; exact SeqAt.EqAt.int_str i t y u _ _ _ _ h
    · rcases keyIs_shape hv with ⟨j, u, rfl, rfl⟩ | ⟨y, u, rfl, rfl⟩
      · rw [key_rl] at h; exact SeqAt.EqAt.str_int x t j u _ _ _ _ h
      · rw [key_rr] at h; exact wpAny_eqBool_str h
  «strs» := fun k x t v h => by
    rcases keyIs_shape h with ⟨i, u, rfl, e⟩ | ⟨y, u, rfl, e⟩
    · exact nomatch e
    · injection e with e1 _
      subst e1
      cases v <;> rfl
theorem mixKind_int (prog : Program) (w : World) (i : Int) (t : Tok) : (mixKind prog w).is (.inl i) (.int i t) = true := keyIs_int i t
theorem mixKind_str (prog : Program) (w : World) (x : Str) (t : Tok) : (mixKind prog w).is (.inr x) (.str x t) = true := keyIs_str x t
end L2
namespace L2
open PySem PySem.Spec PyProof.Rows
inductive V where
  | non | bl (b : Bool) | int (i : Int) | str (x : Str) | byt (b : Array UInt8) | flt (b : UInt64) | ref (a : Addr) | ty (n : String)
  deriving DecidableEq
def RelV : V → Value → Prop
  | .non, u => u = Value.none
  | .bl b, u => u = Value.bool b
  | .int i, u => ∃ t, u = Value.int i t
  | .str x, u => ∃ t, u = Value.str x t
  | .byt b, u => ∃ t, u = Value.bytes b t
  | .flt b, u => ∃ t, u = Value.float b t
  | .ref a, u => u = Value.ref a
  | .ty n, u => u = Value.type n
abbrev Vals : List V → List Value → Prop := Paired RelV
theorem Vals.length {xs : List V} {us : List Value} (r : Vals xs us) : xs.length = us.length := Paired.length r
theorem Vals.get : ∀ {xs : List V} {us : List Value} {i : Nat} {x : V}, Vals xs us → xs[i]? = some x → ∃ u, us[i]? = some u ∧ RelV x u
  | _, _, _, _, .nil, e => by simp at e
  | _, _, 0, _, .cons r _, e => by simp at e; subst e; exact ⟨_, rfl, r⟩
  | _, _, i + 1, x, .cons _ t, e => by
    obtain ⟨u, h1, h2⟩ := Vals.get (i := i) (x := x) t (by simpa using e)
    exact ⟨u, by simpa using h1, h2⟩
theorem Vals.set {x : V} {u : Value} (r : RelV x u) : ∀ {xs : List V} {us : List Value} (i : Nat), Vals xs us → Vals (xs.set i x) (us.set i u)
  | _, _, _, .nil => .nil
  | _, _, 0, .cons _ t => .cons r t
  | _, _, i + 1, .cons q t => .cons q (Vals.set r i t)
theorem Vals.append : ∀ {xs ys : List V} {us ws : List Value}, Vals xs us → Vals ys ws → Vals (xs ++ ys) (us ++ ws)
  | _, _, _, _, .nil, s => s
  | _, _, _, _, .cons r t, s => .cons r (Vals.append t s)
theorem Vals.take : ∀ {xs : List V} {us : List Value} (n : Nat), Vals xs us → Vals (xs.take n) (us.take n)
  | _, _, 0, _ => .nil
  | _, _, _ + 1, .nil => .nil
  | _, _, n + 1, .cons r t => .cons r (Vals.take n t)
theorem Vals.drop : ∀ {xs : List V} {us : List Value} (n : Nat), Vals xs us → Vals (xs.drop n) (us.drop n)
  | _, _, 0, r => r
  | _, _, _ + 1, .nil => .nil
  | _, _, n + 1, .cons _ t => Vals.drop n t
def RelO : Option V → Option Value → Prop
  | some v, some u => RelV v u
  | none, none => True
  | _, _ => False
def KV {κ : Type} : List (κ × V) → List (κ × Value) → Prop := Paired fun (p : κ × V) (q : κ × Value) => p.1 = q.1 ∧ RelV p.2 q.2
def kV : Key → V
  | .inl i => .int i
  | .inr x => .str x
inductive HO where
  | lst (xs : List V)
  | tup (xs : List V)
  | dK (kvs : List (Key × V)) | dT (kvs : List (List Key × V))
  | set (S : Int → Bool) (n : Nat)
  | ins (C dx : Addr) (fs : List (Str × V))
  | own (x : Addr)
  | xd (fs : List (Str × V))
  | met (f x : Addr)
  | rng (lo hi : Int)
  | frz (o : Obj) (u : HO)
  | tbl (ps : Array Value)
  | ext (φ : Heap → Prop)
abbrev Hp := Addr → Option HO
def upd (H : Hp) (a : Addr) (o : HO) : Hp := fun b => if b = a then some o else H b
theorem upd_same {H : Hp} {a : Addr} {o : HO} : upd H a o a = some o := by unfold upd; rw [if_pos rfl]
theorem upd_ne {H : Hp} {a b : Addr} {o : HO} (h : b ≠ a) : upd H a o b = H b := by unfold upd; rw [if_neg h]
theorem upd_upd {H : Hp} {a : Addr} {o u : HO} : upd (upd H a o) a u = upd H a u := by
  funext b; unfold upd; split <;> rfl
theorem ne_of {H : Hp} {a b : Addr} {o u : HO} (h : H a = some o) (h' : H b = some u) (d : o ≠ u) : a ≠ b := by
  intro e; subst e; rw [h] at h'; exact d (Option.some.inj h')
theorem ne_of_none {H : Hp} {a b : Addr} {o : HO} (h : H a = some o) (h' : H b = none) : a ≠ b := by
  intro e; subst e; rw [h] at h'; cases h'
section
variable (P : Program) (w : World)
def ObjOk (H : Hp) (h : Heap) (a : Addr) : HO → Prop
  | .lst xs => xs.length ≤ sizeLine ∧ ∃ (its : List Value) (n : Nat), Vals xs its ∧ h.get? a = some { cls := .type "list", data := .seq its.toArray n }
  | .tup xs => xs.length ≤ sizeLine ∧ ∃ its : List Value, Vals xs its ∧ IsTup h a its.toArray
  | .dK kvs => kvs.length ≤ sizeLine ∧ (a == sysModules) = false ∧ ∃ vs, KV kvs vs ∧ h.DictOf (mixKind P w) a vs
  | .dT kvs => kvs.length ≤ sizeLine ∧ (a == sysModules) = false ∧ ∃ xs : List (List Key × Addr × Value),
      Paired (fun (p : List Key × V) (q : List Key × Addr × Value) => p.1 = q.1 ∧ H q.2.1 = some (.tup (p.1.map kV)) ∧ RelV p.2 q.2.2) kvs xs ∧
      ∃ o es ep, h.get? a = some o ∧ o.ExactDict ∧ o.data = .dict es ep ∧ es.toList = xs.map (entryOfKey (tupleKind (mixKind P w))) ∧ (xs.map (·.1)).Nodup
  | .set S n => h.SetOf (intKind P w) a S n
  | .ins C dx fs => H dx = some (.own a) ∧ fs.length ≤ 1000 ∧ dx ≠ a ∧ h.get? a = some (PySem.W.instObj C dx) ∧
      ∃ mA, h.Ns1 dx mA ∧ (∀ f, RelO (fs.lookup f) (mA f)) ∧ PySem.Within mA (fs.map (·.1))
  | .own _ => ∃ o, h.get? a = some o
  | .xd fs => ∃ mA, h.Ns1 a mA ∧ ∀ f, RelO (fs.lookup f) (mA f)
  | .rng lo hi => ∃ t u v, h.get? a = some { cls := .type "range", data := .fields #[.int lo t, .int hi u, .int 1 v] }
  | .frz o u => h.get? a = some o ∧ ObjOk H h a u
  | .tbl ps => h.get? a = some { cls := .none, data := .fields ps }
  | .met f x => h.get? a = some (PySem.W.methodObj (.ref f) (.ref x))
  | .ext φ => φ h ∧ (∃ o, h.get? a = some o) ∧ ∀ h1 h2 : Heap, φ h1 → (∀ o, h1.get? a = some o → h2.get? a = some o) → φ h2
def HOk (H : Hp) (h : Heap) : Prop := ∀ a o, H a = some o → ObjOk P w H h a o
end
section
variable {P : Program} {w : World} {H H' : Hp} {h h' : Heap} {a : Addr} {o : HO}
theorem ObjOk.lt (x : ObjOk P w H h a o) : a < h.objs.size := by
  cases o with
  | lst xs => obtain ⟨_, _, _, _, e⟩ := x; exact Heap.lt_size e
  | tup xs => obtain ⟨_, _, _, p⟩ := x; exact p.lt
  | dK kvs => obtain ⟨_, _, _, _, o, _, _, e, _⟩ := x; exact Heap.lt_size e
  | dT kvs => obtain ⟨_, _, _, _, o, _, _, e, _⟩ := x; exact Heap.lt_size e
  | set S n => obtain ⟨o, _, _, _, e, _⟩ := x; exact Heap.lt_size e
  | ins C dx fs => obtain ⟨_, _, _, e, _⟩ := x; exact Heap.lt_size e
  | own y => obtain ⟨_, e⟩ := x; exact Heap.lt_size e
  | xd fs => obtain ⟨_, ⟨_, _, _, e, _⟩, _⟩ := x; exact Heap.lt_size e
  | rng lo hi => obtain ⟨_, _, _, e⟩ := x; exact Heap.lt_size e
  | frz ob u => obtain ⟨e, _⟩ := x; exact Heap.lt_size e
  | tbl ps => exact Heap.lt_size (show h.get? a = some _ from x)
  | met f y => exact Heap.lt_size (show h.get? a = some _ from x)
  | ext φ => obtain ⟨_, ⟨_, e⟩, _⟩ := x; exact Heap.lt_size e
theorem Paired.mapP {α β : Type} {F G : α → β → Prop} : ∀ {l₁ : List α} {l₂ : List β}, Paired F l₁ l₂ → (∀ a b, F a b → G a b) → Paired G l₁ l₂
  | _, _, .nil, _ => .nil
  | _, _, .cons r t, f => .cons (f _ _ r) (Paired.mapP t f)
theorem ObjOk.stay (x : ObjOk P w H h a o) (k : ∀ b u, (b = a ∨ H b = some (.own a)) → h.get? b = some u → h'.get? b = some u)
    (ho : ∀ b, H b = some (.own a) → H' b = some (.own a)) (ht : ∀ b xs, H b = some (.tup xs) → H' b = some (.tup xs)) : ObjOk P w H' h' a o := by
  induction o with
  | lst xs => obtain ⟨z, its, n, r, e⟩ := x; exact ⟨z, its, n, r, k _ _ (.inl rfl) e⟩
  | tup xs => obtain ⟨z, its, r, ob, e, c⟩ := x; exact ⟨z, its, r, ob, k _ _ (.inl rfl) e, c⟩
  | dK kvs => obtain ⟨z, y, vs, r, ob, es, ep, e, c⟩ := x; exact ⟨z, y, vs, r, ob, es, ep, k _ _ (.inl rfl) e, c⟩
  | dT kvs =>
    obtain ⟨z, y, xs, r, ob, es, ep, e, c⟩ := x
    exact ⟨z, y, xs, Paired.mapP r fun p q z => ⟨z.1, ht _ _ z.2.1, z.2.2⟩, ob, es, ep, k _ _ (.inl rfl) e, c⟩
  | set S n => obtain ⟨ob, es, ep, t, e, c⟩ := x; exact ⟨ob, es, ep, t, k _ _ (.inl rfl) e, c⟩
  | ins C dx fs =>
    obtain ⟨d, z, ne, e, mA, ⟨od, es, ep, e2, c⟩, r⟩ := x
    exact ⟨ho _ d, z, ne, k _ _ (.inl rfl) e, mA, ⟨od, es, ep, k _ _ (.inr d) e2, c⟩, r⟩
  | own y => obtain ⟨ob, e⟩ := x; exact ⟨ob, k _ _ (.inl rfl) e⟩
  | xd fs => obtain ⟨mA, ⟨od, es, ep, e, c⟩, r⟩ := x; exact ⟨mA, ⟨od, es, ep, k _ _ (.inl rfl) e, c⟩, r⟩
  | rng lo hi => obtain ⟨t, u, v, e⟩ := x; exact ⟨t, u, v, k _ _ (.inl rfl) e⟩
  | frz ob u ih => obtain ⟨e, q⟩ := x; exact ⟨k _ _ (.inl rfl) e, ih q⟩
  | tbl ps =>
    have e : h.get? a = some { cls := .none, data := .fields ps } := x
    show h'.get? a = some { cls := .none, data := .fields ps }
    exact k a _ (.inl rfl) e
  | met f y =>
    have e : h.get? a = some (PySem.W.methodObj (.ref f) (.ref y)) := x
    show h'.get? a = some (PySem.W.methodObj (.ref f) (.ref y))
    exact k a _ (.inl rfl) e
  | ext φ => obtain ⟨p, ⟨o, e⟩, st⟩ := x; exact ⟨st _ _ p fun o q => k _ _ (.inl rfl) q, ⟨o, k _ _ (.inl rfl) e⟩, st⟩
theorem HOk.lt (x : HOk P w H h) (e : H a = some o) : a < h.objs.size := (x a o e).lt
theorem HOk.fresh (x : HOk P w H h) (e : h.objs.size ≤ a) : H a = none := by
  cases q : H a with
  | none => rfl
  | some u => exact absurd (Nat.lt_of_lt_of_le (x.lt q) e) (Nat.lt_irrefl _)
theorem HOk.kept (x : HOk P w H h) (k : ∀ b u, h.get? b = some u → h'.get? b = some u) : HOk P w H h' := fun a o e =>
  (x a o e).stay (fun b u _ q => k b u q) (fun _ q => q) fun _ _ q => q
theorem HOk.laid (x : HOk P w H h) (k : ∀ b u, h.get? b = some u → h'.get? b = some u) (hp : h.objs.size ≤ a) (new : ObjOk P w (upd H a o) h' a o) : HOk P w (upd H a o) h' := fun b u e => by
  have hn := x.fresh hp
  by_cases hb : b = a
  · subst hb; rw [upd_same] at e; cases e; exact new
  · rw [upd_ne hb] at e
    exact (x b u e).stay (fun c v _ q => k c v q) (fun c q => by rw [upd_ne (ne_of_none q hn)]; exact q) fun c xs q => by rw [upd_ne (ne_of_none q hn)]; exact q
end
def Rd (H : Hp) (a : Addr) (u : HO) : Prop := H a = some u ∨ ∃ o, H a = some (.frz o u)
theorem Rd.ok {P : Program} {w : World} {H : Hp} {h : Heap} {a : Addr} {u : HO} (r : Rd H a u) (x : HOk P w H h) : ObjOk P w H h a u := by
  rcases r with r | ⟨o, r⟩
  · exact x a u r
  · obtain ⟨_, q⟩ := x a _ r
    exact q
def Mut : Option HO → Prop
  | some (.lst _) => True
  | some (.dK _) => True
  | some (.dT _) => True
  | some (.set _ _) => True
  | some (.ins _ _ _) => True
  | some (.ext _) => True
  | _ => False
section
variable {P : Program} {w : World} {H : Hp} {h h' : Heap} {x e : Addr} {o' : HO}
theorem HOk.write (ok : HOk P w H h) (mu : Mut (H x)) (he : e = x ∨ H e = some (.own x)) (k : ∀ b u, b ≠ e → h.get? b = some u → h'.get? b = some u) (heo : ∃ u, h'.get? e = some u)
    (new : ObjOk P w (upd H x o') h' x o') : HOk P w (upd H x o') h' := fun b u q => by
  have nown : ∀ c y, H c = some (.own y) → c ≠ x := fun c y r z => by subst z; rw [r] at mu; exact mu
  have ntup : ∀ c xs, H c = some (.tup xs) → c ≠ x := fun c xs r z => by subst z; rw [r] at mu; exact mu
  by_cases hb : b = x
  · subst hb; rw [upd_same] at q; cases q; exact new
  · rw [upd_ne hb] at q
    by_cases hbe : b = e
    · have q' : H b = some (.own x) := by
        rcases he with z | z
        · exact absurd (hbe.trans z) hb
        · rw [hbe]; exact z
      rw [q] at q'; cases q'
      obtain ⟨v, hv⟩ := heo
      exact ⟨v, by rw [hbe]; exact hv⟩
    · refine (ok b u q).stay (fun c v hc r => k c v ?_ r) (fun c r => by rw [upd_ne (nown c b r)]; exact r) fun c xs r => by rw [upd_ne (ntup c xs r)]; exact r
      rcases hc with rfl | hc
      · exact hbe
      · rintro rfl
        rcases he with z | z
        · exact nown c b hc z
        · rw [hc] at z; cases z; exact hb rfl
end
structure Un (fs ex : List Addr) (H H' : Hp) (h h' : Heap) : Prop where
  keep : ∀ b o, h.get? b = some o → H b = none → b ∉ fs → b ∉ ex → h'.get? b = some o
  slot : ∀ b o, h.get? b = some o → H b = none → b ∈ fs → b ∉ ex → ∃ sl, h'.get? b = some { o with slots := sl }
  free : ∀ b o, h.get? b = some o → H b = none → b ∉ ex → H' b = none
  there : ∀ b o, h.get? b = some o → b ∉ ex → ∃ o', h'.get? b = some o'
  tups : ∀ b xs, H b = some (.tup xs) → H' b = some (.tup xs)
  frzs : ∀ b o u, H b = some (.frz o u) → H' b = some (.frz o u)
  tbls : ∀ b ps, H b = some (.tbl ps) → ∃ more, H' b = some (.tbl (ps ++ more))
section
variable {fs fs' ex ex' : List Addr} {H H1 H2 : Hp} {h h1 h2 h' : Heap} {a x e : Addr} {o : HO}
theorem Un.any (u : Un fs ex H H1 h h1) {b : Addr} {ob : Obj} (q : h.get? b = some ob) (n : H b = none) (hx : b ∉ ex) : ∃ sl, h1.get? b = some { ob with slots := sl } := by
  by_cases hb : b ∈ fs
  · exact u.slot b ob q n hb hx
  · exact ⟨ob.slots, u.keep b ob q n hb hx⟩
theorem Un.kept (k : ∀ b u, h.get? b = some u → h'.get? b = some u) : Un fs ex H H h h' :=
  ⟨fun b ob q _ _ _ => k b ob q, fun b ob q _ _ _ => ⟨ob.slots, k b ob q⟩, fun _ _ _ n _ => n, fun b ob q _ => ⟨ob, k b ob q⟩, fun _ _ q => q, fun _ _ _ q => q, fun _ ps q => ⟨#[], by rw [q]; simp⟩⟩
theorem Un.refl : Un fs ex H H h h := Un.kept fun _ _ q => q
theorem Un.laid (k : ∀ b u, h.get? b = some u → h'.get? b = some u) (hp : h.objs.size ≤ a) (hn : H a = none) : Un fs ex H (upd H a o) h h' where
  keep := fun b u q _ _ _ => k b u q
  slot := fun b u q _ _ _ => ⟨u.slots, k b u q⟩
  free := fun b u q n _ => by rw [upd_ne (Nat.ne_of_lt (Nat.lt_of_lt_of_le (Heap.lt_size q) hp))]; exact n
  there := fun b u q _ => ⟨u, k b u q⟩
  tups := fun b xs q => by rw [upd_ne (ne_of_none q hn)]; exact q
  frzs := fun b u xs q => by rw [upd_ne (ne_of_none q hn)]; exact q
  tbls := fun b ps q => ⟨#[], by rw [upd_ne (ne_of_none q hn), q]; simp⟩
theorem Un.write (mu : Mut (H x)) (he : e = x ∨ H e = some (.own x)) (k : ∀ b u, b ≠ e → h.get? b = some u → h'.get? b = some u) (heo : ∃ u, h'.get? e = some u) : Un fs ex H (upd H x o) h h' := by
  have hx : ∀ b, H b = none → b ≠ x := fun b n z => by subst z; rw [n] at mu; exact mu
  have hb : ∀ b, H b = none → b ≠ e := fun b n z => by
    subst z
    rcases he with r | r
    · exact hx b n r
    · rw [n] at r; cases r
  have hm : ∀ b u, H b = some u → ¬ Mut (some u) → b ≠ x := fun b u q nm z => by subst z; rw [q] at mu; exact nm mu
  refine ⟨fun b u q n _ _ => k b u (hb b n) q, fun b u q n _ _ => ⟨u.slots, k b u (hb b n) q⟩, fun b u q n _ => by rw [upd_ne (hx b n)]; exact n, fun b u q _ => ?_,
    fun b xs q => by rw [upd_ne (hm b _ q fun z => z)]; exact q, fun b u xs q => by rw [upd_ne (hm b _ q fun z => z)]; exact q, fun b ps q => ⟨#[], by rw [upd_ne (hm b _ q fun z => z), q]; simp⟩⟩
  by_cases hbe : b = e
  · subst hbe; exact heo
  · exact ⟨u, k b u hbe q⟩
end
def trk (h : Heap) (H : Hp) : List Addr := (List.range h.objs.size).filter fun a => (H a).isSome
def hidT (h : Heap) (H : Hp) : Heap := PySem.W.hideAll h (trk h H)
theorem hidT_size (h : Heap) (H : Hp) : (hidT h H).objs.size = h.objs.size := PySem.W.hideAll_size _ _
theorem hidT_get {h : Heap} {H : Hp} {b : Addr} {o : Obj} (e : h.get? b = some o) (n : H b = none) : (hidT h H).get? b = some o :=
  PySem.W.hideAll_get _ e fun hm => by
    have q : (H b).isSome = true := (List.mem_filter.mp hm).2
    rw [n] at q; simp at q
theorem of_hidT {h : Heap} {H : Hp} {b : Addr} {o : Obj} (e : (hidT h H).get? b = some o) : h.get? b = some o ∧ H b = none := by
  have e' : h.get? b = some o := PySem.W.of_hideAll (trk h H) e
  refine ⟨e', ?_⟩
  cases q : H b with
  | none => rfl
  | some x =>
    have hm : b ∈ trk h H := List.mem_filter.mpr ⟨List.mem_range.mpr (Heap.lt_size e'), by simp [q]⟩
    have z : (hidT h H).get? b = none := PySem.W.hideAll_none (trk h H) hm
    rw [z] at e; cases e
end L2
namespace L2
open PySem PySem.Spec PyProof.Rows
structure Mod (K : PySem.W.Frag) (mg : Str → Option Value) (base : Heap) : Prop where
  kin : K.In base
  glob : base.Ns mainGlobals mg
  blt : ∃ mb, base.Ns builtinsNs mb ∧ ∀ x : Str, x ≠ "__name__" → mb x = bootBuiltins x
  nolimit : base.NoLimit
structure Cx where
  prog : Program
  w : World
  K : PySem.W.Frag
  mg : Str → Option Value
  base : Heap
  A : Around
  N : List Str
  s_0 : Shared
  H_0 : Hp
  env : Env
  outer : List Env
  stack : List Env
  ex : List Addr
  fn : Str → Bool
  calm : Bool
  pn : List (Addr × Obj)
  xe : Value → Shared → Prop
def frs (l : List Env) : List Addr := l.filterMap (·.frame)
abbrev Cx.fs (X : Cx) : List Addr := frs X.outer
def Vis (sc : Scope) (x : Str) : Prop := sc.names.lookup x = some .local ∨ sc.names.lookup x = some .cell ∨ sc.names.lookup x = some .free
def Loc (sc : Scope) (x : Str) : Prop := sc.names.lookup x = some .local ∨ sc.names.lookup x = some .cell
def Look (env : Env) (h : Heap) (m : Str → Option Value) (x : Str) (u : Value) : Prop :=
  (env.kindOf x = some .local ∧ m x = some u) ∨ ((env.kindOf x = some .cell ∨ env.kindOf x = some .free) ∧ ∃ c, env.cells.lookup x = some c ∧ h.IsCell c (some u))
structure Cx.Ok (X : Cx) : Prop where
  mod : Mod X.K X.mg X.base
  kind : X.env.scope.kind = .function
  glob : X.env.globals = mainGlobals
  blt : X.env.builtins = builtinsNs
  above : X.s_0.heap.objs.size ≤ X.env.locals
  inj : ∀ x y c, X.env.cells.lookup x = some c → X.env.cells.lookup y = some c → x = y
  has : ∀ x, (X.env.kindOf x = some .cell ∨ X.env.kindOf x = some .free) → ∃ c, X.env.cells.lookup x = some c
  cab : ∀ x c, X.fn x = true → X.env.cells.lookup x = some c → X.s_0.heap.objs.size ≤ c
  hd : X.calm = true → X.A.handled = none
  frames : X.A.frames = some X.stack
  stk : X.stack = X.outer ∨ (X.stack = X.env :: X.outer ∧ X.env.frame = some X.env.locals)
  exf : ∀ b ∈ X.ex, b ≠ X.env.locals ∧ ∀ x c, X.env.cells.lookup x = some c → c ≠ b
  bs : ∀ b o, X.base.get? b = some o → X.s_0.heap.get? b = some o ∧ X.H_0 b = none
  bsz : X.base.objs.size ≤ X.s_0.heap.objs.size
  noex : ∀ b o, X.base.get? b = some o → b ∉ X.ex
  exfs : ∀ b ∈ X.ex, b ∉ X.fs
  funs : X.s_0.heap.FunFrames X.base X.outer
  frf : ∀ b ∈ X.fs, X.H_0 b = none
structure Inv (X : Cx) (pins : List (Addr × Obj)) (σ : List (Option V)) (H : Hp) (s : Shared) : Prop where
  ok : X.Ok
  os : s.os = X.s_0.os
  bare : AllBare s.gens
  base : Un X.fs X.ex X.H_0 H X.s_0.heap s.heap
  loc : ∃ m, s.heap.Ns X.env.locals m ∧ ∀ (i : Nat) (x : Str) (v : V), X.N[i]? = some x → σ[i]? = some (some v) → Vis X.env.scope x → ∃ u, RelV v u ∧ Look X.env s.heap m x u
  cell : ∀ x c, X.env.cells.lookup x = some c → ∃ v, s.heap.IsCell c v
  free : H X.env.locals = none
  freeC : ∀ x c, X.env.cells.lookup x = some c → H c = none
  pin : ∀ p ∈ X.pn ++ pins, s.heap.get? p.1 = some p.2 ∧ H p.1 = none ∧ p.1 ≠ X.env.locals ∧ p.1 ∉ X.fs ∧ ∀ v, p.2.data ≠ .cell v
  hok : HOk X.prog X.w H s.heap
  len : σ.length = X.N.length
section
variable {X : Cx} {pins : List (Addr × Obj)} {σ : List (Option V)} {H H' : Hp} {s : Shared} {h' : Heap}
theorem Cx.Ok.nofr (ok : X.Ok) {b : Addr} {o : Obj} (e : X.base.get? b = some o) : b ∉ X.fs := fun hb => by
  have := (ok.funs.mem hb).1
  rw [e] at this; cases this
theorem Inv.bs (I : Inv X pins σ H s) : ∀ b o, X.base.get? b = some o → s.heap.get? b = some o ∧ H b = none := fun b o e =>
  ⟨I.base.keep b o (I.ok.bs b o e).1 (I.ok.bs b o e).2 (I.ok.nofr e) (I.ok.noex b o e), I.base.free b o (I.ok.bs b o e).1 (I.ok.bs b o e).2 (I.ok.noex b o e)⟩
theorem Inv.bk (I : Inv X pins σ H s) : ∀ b o, X.base.get? b = some o → s.heap.get? b = some o := fun b o e => (I.bs b o e).1
theorem Inv.mod (I : Inv X pins σ H s) : Mod X.K X.mg X.base := I.ok.mod
theorem Inv.kIn (I : Inv X pins σ H s) : X.K.In s.heap := I.ok.mod.kin.keeps I.bk
theorem Inv.lt (I : Inv X pins σ H s) : X.env.locals < s.heap.objs.size := let ⟨_, hn, _⟩ := I.loc; hn.lt
theorem Inv.sz (I : Inv X pins σ H s) : X.s_0.heap.objs.size ≤ s.heap.objs.size := Nat.le_trans I.ok.above (Nat.le_of_lt I.lt)
theorem Inv.nofs (I : Inv X pins σ H s) {a : Addr} (h : s.heap.objs.size ≤ a) : a ∉ X.fs := fun hb => by
  obtain ⟨_, o, ho, _⟩ := I.ok.funs.mem hb
  exact absurd (Nat.lt_of_lt_of_le (Heap.lt_size ho) (Nat.le_trans I.sz h)) (Nat.lt_irrefl _)
theorem Inv.cne (I : Inv X pins σ H s) : ∀ x c, X.env.cells.lookup x = some c → c ≠ X.env.locals := fun x c e z => by
  obtain ⟨v, o, ho, hd⟩ := I.cell x c e
  obtain ⟨m, ⟨o', es, ep, ho', hd', _⟩, _⟩ := I.loc
  rw [z, ho'] at ho; cases ho; rw [hd'] at hd; cases hd
theorem Inv.funs (I : Inv X pins σ H s) : s.heap.FunFrames X.base X.outer := by
  have all : ∀ (l : List Env), (∀ b ∈ frs l, b ∈ X.fs) → X.s_0.heap.FunFrames X.base l → s.heap.FunFrames X.base l := by
    intro l
    induction l with
    | nil => intro _ _; trivial
    | cons env r ih =>
      intro hs hl
      obtain ⟨hk, ⟨L, o, hf, hn, ho, hd⟩, hr⟩ := hl
      have hL : L ∈ X.fs := hs L (by unfold frs; rw [List.filterMap_cons, hf]; exact List.mem_cons_self)
      obtain ⟨sl, e⟩ := I.base.slot L o ho (I.ok.frf L hL) hL fun z => I.ok.exfs L z hL
      exact ⟨hk, ⟨L, _, hf, hn, e, hd⟩, ih (fun b hb => hs b (by unfold frs; rw [List.filterMap_cons, hf]; exact List.mem_cons_of_mem _ hb)) hr⟩
  exact all X.outer (fun _ hb => hb) I.ok.funs
theorem Inv.stack (I : Inv X pins σ H s) : s.heap.FunFrames X.base X.stack := by
  rcases I.ok.stk with e | ⟨e, hf⟩
  · rw [e]; exact I.funs
  · rw [e]
    obtain ⟨m, hn, _⟩ := I.loc
    refine .cons (by rw [I.ok.kind]; decide) hf hn ?_ I.funs
    exact Heap.get?_none_of_le (Nat.le_trans I.ok.bsz I.ok.above)
theorem Inv.stkSub (I : Inv X pins σ H s) : ∀ b ∈ frs X.stack, b ∈ X.env.locals :: X.fs := fun b hb => by
  rcases I.ok.stk with e | ⟨e, hf⟩
  · rw [e] at hb; exact List.mem_cons_of_mem _ hb
  · rw [e] at hb
    unfold frs at hb
    rw [List.filterMap_cons, hf] at hb
    exact hb
theorem Inv.stkFree (I : Inv X pins σ H s) : ∀ b ∈ frs X.stack, H b = none := fun b hb => by
  rcases List.mem_cons.mp (I.stkSub b hb) with e | hb
  · rw [e]; exact I.free
  · obtain ⟨_, o, ho, _⟩ := I.ok.funs.mem hb
    exact I.base.free b o ho (I.ok.frf b hb) fun z => I.ok.exfs b z hb
theorem Inv.step {g' : Array GenState} {t' : Nat} {d' : Drawn} {ch : List Addr} (I : Inv X pins σ H s)
    (hch : ∀ b ∈ ch, (b ∈ X.ex ∨ X.s_0.heap.objs.size ≤ b) ∧ b ≠ X.env.locals ∧ (∀ x c, X.env.cells.lookup x = some c → c ≠ b) ∧ ∀ p ∈ X.pn ++ pins, p.1 ≠ b)
    (keep : ∀ b o, b ≠ X.env.locals → b ∉ X.fs → b ∉ ch → s.heap.get? b = some o → H b = none → h'.get? b = some o)
    (slot : ∀ b o, b ≠ X.env.locals → b ∈ X.fs → b ∉ ch → s.heap.get? b = some o → H b = none → ∃ sl, h'.get? b = some { o with slots := sl }) (free : ∀ b o, b ∉ ch → s.heap.get? b = some o → H b = none → H' b = none)
    (there : ∀ b o, b ∉ ch → s.heap.get? b = some o → ∃ o', h'.get? b = some o')
    (tups : ∀ b xs, H b = some (.tup xs) → H' b = some (.tup xs)) (frzs : ∀ b o u, H b = some (.frz o u) → H' b = some (.frz o u)) (tbls : ∀ b ps, H b = some (.tbl ps) → ∃ more, H' b = some (.tbl (ps ++ more)))
    (ns : ∀ m, s.heap.Ns X.env.locals m → h'.Ns X.env.locals m) (hok : HOk X.prog X.w H' h') (hg : AllBare g') :
    Inv X pins σ H' { s with heap := h', gens := g', drawn := d', toks := t' } := by
  have neL : ∀ b o, X.s_0.heap.get? b = some o → b ≠ X.env.locals := fun b o e => Nat.ne_of_lt (Nat.lt_of_lt_of_le (Heap.lt_size e) I.ok.above)
  have neC : ∀ b o, X.s_0.heap.get? b = some o → b ∉ X.ex → b ∉ ch := fun b o e hx hb => by
    rcases (hch b hb).1 with z | z
    · exact hx z
    · exact absurd (Nat.lt_of_lt_of_le (Heap.lt_size e) z) (Nat.lt_irrefl _)
  have cellK : ∀ x c, X.env.cells.lookup x = some c → ∀ v, s.heap.IsCell c v → h'.IsCell c v := fun x c e v ⟨o, ho, hd⟩ => by
    have nch : c ∉ ch := fun z => (hch c z).2.2.1 x c e rfl
    by_cases hc : c ∈ X.fs
    · obtain ⟨sl, q⟩ := slot c o (I.cne x c e) hc nch ho (I.freeC x c e)
      exact ⟨_, q, hd⟩
    · exact ⟨o, keep c o (I.cne x c e) hc nch ho (I.freeC x c e), hd⟩
  refine ⟨I.ok, I.os, hg, ⟨fun b o e n hb hx => ?_, fun b o e n hb hx => ?_, fun b o e n hx => ?_, fun b o e hx => ?_, fun b xs e => tups b xs (I.base.tups b xs e), fun b o xs e => frzs b o xs (I.base.frzs b o xs e), fun b ps e => ?_⟩, ?_, fun x c e => ?_, ?_, fun x c e => ?_, fun p hp => ?_, hok, I.len⟩
  · exact keep b o (neL b o e) hb (neC b o e hx) (I.base.keep b o e n hb hx) (I.base.free b o e n hx)
  · obtain ⟨sl, e1⟩ := I.base.slot b o e n hb hx
    obtain ⟨sl', e2⟩ := slot b _ (neL b o e) hb (neC b o e hx) e1 (I.base.free b o e n hx)
    exact ⟨sl', e2⟩
  · obtain ⟨o', e1⟩ := I.base.there b o e hx
    exact free b o' (neC b o e hx) e1 (I.base.free b o e n hx)
  · obtain ⟨o', e1⟩ := I.base.there b o e hx
    exact there b o' (neC b o e hx) e1
  · obtain ⟨m1, e1⟩ := I.base.tbls b ps e
    obtain ⟨m2, e2⟩ := tbls b _ e1
    exact ⟨m1 ++ m2, by rw [e2, Array.append_assoc]⟩
  · obtain ⟨m, hn, hl⟩ := I.loc
    refine ⟨m, ns m hn, fun i x v e1 e2 e3 => ?_⟩
    obtain ⟨u, r, l⟩ := hl i x v e1 e2 e3
    refine ⟨u, r, ?_⟩
    rcases l with l | ⟨k, c, e, z⟩
    · exact .inl l
    · exact .inr ⟨k, c, e, cellK x c e _ z⟩
  · obtain ⟨v, z⟩ := I.cell x c e
    exact ⟨v, cellK x c e v z⟩
  · obtain ⟨m, ⟨o, _, _, ho, _⟩, _⟩ := I.loc
    exact free _ o (fun z => (hch _ z).2.1 rfl) ho I.free
  · obtain ⟨v, o, ho, hd⟩ := I.cell x c e
    exact free c o (fun z => (hch c z).2.2.1 x c e rfl) ho (I.freeC x c e)
  · obtain ⟨e, n, ne, nf, d⟩ := I.pin p hp
    have nch : p.1 ∉ ch := fun z => (hch p.1 z).2.2.2 p hp rfl
    exact ⟨keep p.1 p.2 ne nf nch e n, free p.1 p.2 nch e n, ne, nf, d⟩
theorem Inv.un {t' : Nat} (I : Inv X pins σ H s) (u : Un X.fs [] H H' s.heap h') (hok : HOk X.prog X.w H' h') : Inv X pins σ H' { s with heap := h', toks := t' } := by
  obtain ⟨m, ⟨o, es, ep, ho, r⟩, _⟩ := id I.loc
  obtain ⟨sl, hL⟩ := u.any ho I.free (by simp)
  exact I.step (g' := s.gens) (d' := s.drawn) (ch := []) (fun _ z => nomatch z) (fun b o _ hb _ e n => u.keep b o e n hb (by simp)) (fun b o _ hb _ e n => u.slot b o e n hb (by simp)) (fun b o _ e n => u.free b o e n (by simp)) (fun b o _ e => u.there b o e (by simp)) u.tups u.frzs u.tbls (fun m' hm => by
    obtain ⟨o', es', ep', ho', r'⟩ := hm
    rw [ho] at ho'; cases ho'
    exact ⟨_, es', ep', hL, r'⟩) hok I.bare
theorem Inv.call {g' : Array GenState} {t' : Nat} {d' : Drawn} {ch : List Addr} (I : Inv X pins σ H s) (u : Un (frs X.stack) ch H H' s.heap h') (hok : HOk X.prog X.w H' h') (hg : AllBare g')
    (hch : ∀ b ∈ ch, (b ∈ X.ex ∨ X.s_0.heap.objs.size ≤ b) ∧ b ≠ X.env.locals ∧ (∀ x c, X.env.cells.lookup x = some c → c ≠ b) ∧ ∀ p ∈ X.pn ++ pins, p.1 ≠ b) :
    Inv X pins σ H' { s with heap := h', gens := g', drawn := d', toks := t' } := by
  obtain ⟨m, ⟨o, es, ep, ho, r⟩, _⟩ := id I.loc
  obtain ⟨sl, hL⟩ := u.any ho I.free fun z => (hch _ z).2.1 rfl
  exact I.step (ch := ch) hch (fun b o hL hb hc e n => u.keep b o e n (fun z => (List.mem_cons.mp (I.stkSub b z)).elim hL hb) hc) (fun b o _ _ hc e n => u.any e n hc) (fun b o hc e n => u.free b o e n hc) (fun b o hc e => u.there b o e hc) u.tups u.frzs u.tbls (fun m' hm => by
    obtain ⟨o', es', ep', ho', r'⟩ := hm
    rw [ho] at ho'; cases ho'
    exact ⟨_, es', ep', hL, r'⟩) hok hg
theorem Inv.turned {t' : Nat} {it : Addr} (I : Inv X pins σ H s) (k : ∀ b o, b ≠ it → s.heap.get? b = some o → h'.get? b = some o) (hn : H it = none) (hL : it ≠ X.env.locals)
    (h1 : it ∈ X.ex ∨ X.s_0.heap.objs.size ≤ it) (h2 : ∀ x c, X.env.cells.lookup x = some c → c ≠ it) (h3 : ∀ p ∈ X.pn ++ pins, p.1 ≠ it) : Inv X pins σ H { s with heap := h', toks := t' } := by
  have nit : ∀ b u, H b = some u → b ≠ it := fun b u e z => by rw [z, hn] at e; cases e
  refine I.step (g' := s.gens) (d' := s.drawn) (ch := [it]) (fun b hb => ?_) (fun b o _ _ hc e _ => k b o (fun z => hc (by simp [z])) e) (fun b o _ _ hc e _ => ⟨o.slots, k b o (fun z => hc (by simp [z])) e⟩) (fun _ _ _ _ n => n)
    (fun b o hc e => ⟨o, k b o (fun z => hc (by simp [z])) e⟩) (fun _ _ e => e) (fun _ _ _ e => e) (fun b ps e => ⟨#[], by rw [e]; simp⟩) (fun m hm => ?_) (fun b u e => ?_) I.bare
  · have e : b = it := by simpa using hb
    subst e
    exact ⟨h1, hL, h2, h3⟩
  · obtain ⟨o, es, ep, ho, r⟩ := hm
    exact ⟨o, es, ep, k _ o (Ne.symm hL) ho, r⟩
  · refine (I.hok b u e).stay (fun c v hc q => k c v ?_ q) (fun _ q => q) fun _ _ q => q
    rcases hc with z | z
    · rw [z]; exact nit b u e
    · exact nit c _ z
theorem Inv.tok (I : Inv X pins σ H s) (t : Nat) : Inv X pins σ H { s with toks := t } := I.un (h' := s.heap) (t' := t) Un.refl I.hok
theorem Inv.kept {t' : Nat} (I : Inv X pins σ H s) (k : ∀ b u, s.heap.get? b = some u → h'.get? b = some u) : Inv X pins σ H { s with heap := h', toks := t' } := I.un (Un.kept k) (I.hok.kept k)
theorem Inv.laid {a : Addr} {o : HO} {t' : Nat} (I : Inv X pins σ H s) (k : ∀ b u, s.heap.get? b = some u → h'.get? b = some u) (hp : s.heap.objs.size ≤ a) (new : ObjOk X.prog X.w (upd H a o) h' a o) :
    Inv X pins σ (upd H a o) { s with heap := h', toks := t' } := I.un (Un.laid k hp (I.hok.fresh hp)) (I.hok.laid k hp new)
theorem Inv.write {x e : Addr} {o : HO} {t' : Nat} (I : Inv X pins σ H s) (mu : Mut (H x)) (he : e = x ∨ H e = some (.own x)) (k : ∀ b u, b ≠ e → s.heap.get? b = some u → h'.get? b = some u) (heo : ∃ u, h'.get? e = some u)
    (new : ObjOk X.prog X.w (upd H x o) h' x o) : Inv X pins σ (upd H x o) { s with heap := h', toks := t' } := I.un (Un.write mu he k heo) (I.hok.write mu he k heo new)
theorem Inv.weak {σ' : List (Option V)} (I : Inv X pins σ H s) (hl : σ'.length = σ.length) (w : ∀ (i : Nat) v, σ'[i]? = some (some v) → σ[i]? = some (some v)) : Inv X pins σ' H s :=
  ⟨I.ok, I.os, I.bare, I.base, let ⟨m, hn, hl'⟩ := I.loc; ⟨m, hn, fun i x v e1 e2 e3 => hl' i x v e1 (w i v e2) e3⟩, I.cell, I.free, I.freeC, I.pin, I.hok, hl.trans I.len⟩
theorem Inv.pins_of {pins' : List (Addr × Obj)} (I : Inv X pins σ H s) (h : ∀ p ∈ pins', s.heap.get? p.1 = some p.2 ∧ H p.1 = none ∧ p.1 ≠ X.env.locals ∧ p.1 ∉ X.fs ∧ ∀ v, p.2.data ≠ .cell v) : Inv X pins' σ H s :=
  ⟨I.ok, I.os, I.bare, I.base, I.loc, I.cell, I.free, I.freeC, fun p hp => (List.mem_append.mp hp).elim (fun z => I.pin p (List.mem_append_left _ z)) (h p), I.hok, I.len⟩
theorem nodup_ix {N : List Str} (hN : N.Nodup) {i j : Nat} {x : Str} (a : N[i]? = some x) (b : N[j]? = some x) : i = j := by
  obtain ⟨h1, e1⟩ := List.getElem?_eq_some_iff.mp a
  obtain ⟨h2, e2⟩ := List.getElem?_eq_some_iff.mp b
  exact (List.getElem_inj hN).mp (e1.trans e2.symm)
theorem store_ok2 {M : Model} {A : Around} {E : Value → Shared → Prop} {i : Nat} {x : Str} {v : V} {u : Value} {Q : Unit → Shared → Prop} (I : Inv X pins σ H s) (hN : X.N.Nodup) (hi : X.N[i]? = some x) (hx : Loc X.env.scope x) (r : RelV v u)
    (h : ∀ s', Inv X pins (σ.set i (some v)) H s' → (∃ a, Heap.SameBut a s.heap s'.heap ∧ (a = X.env.locals ∨ X.env.cells.lookup x = some a)) → Q () s') (hf : X.fn x = true ∨ X.env.scope.names.lookup x = some .local := by first | exact .inl rfl | exact .inr rfl | assumption) : wpAny M A (storeName X.env x u) Q E s := by
  obtain ⟨m, hn, hl⟩ := id I.loc
  have hcls : (X.env.scope.kind == .class || (X.env.scope.kind == .module && X.env.locals != X.env.globals)) = false := by rw [I.ok.kind]; rfl
  have hiσ : i < σ.length := by rw [I.len]; exact (List.getElem?_eq_some_iff.mp hi).1
  have cne := I.cne
  have tracked : ∀ {a : Addr} {h' : Heap}, (∃ o, s.heap.get? a = some o ∧ H a = none) → Heap.SameBut a s.heap h' → HOk X.prog X.w H h' := fun {a h'} ha hs b ob e => by
    obtain ⟨_, _, hfree⟩ := ha
    refine (I.hok b ob e).stay (fun c w' hc q => (hs.2 c ?_).trans q) (fun _ q => q) fun _ _ q => q
    rintro rfl
    rcases hc with rfl | hc
    · rw [hfree] at e; cases e
    · rw [hfree] at hc; cases hc
  rcases hx with hk | hk
  · refine wpAny_storeName_local hk hn (fun h' hn' hs => ?_) hcls
    obtain ⟨oL, _, _, hoL, _⟩ := id hn
    refine h _ ⟨I.ok, I.os, I.bare, ⟨fun b o e n hb hx => ?_, fun b o e n hb hx => ?_, I.base.free, fun b o e hx => ?_, I.base.tups, I.base.frzs, I.base.tbls⟩, ⟨_, hn', fun j y v' e1 e2 e3 => ?_⟩, fun y c e => ?_, I.free, I.freeC, fun p hp => ?_, tracked ⟨oL, hoL, I.free⟩ hs, by simpa using I.len⟩ ⟨_, hs, .inl rfl⟩
    · exact (hs.2 b (Nat.ne_of_lt (Nat.lt_of_lt_of_le (Heap.lt_size e) I.ok.above))).trans (I.base.keep b o e n hb hx)
    · obtain ⟨sl, e1⟩ := I.base.slot b o e n hb hx
      exact ⟨sl, (hs.2 b (Nat.ne_of_lt (Nat.lt_of_lt_of_le (Heap.lt_size e) I.ok.above))).trans e1⟩
    · obtain ⟨o', e1⟩ := I.base.there b o e hx
      exact ⟨o', (hs.2 b (Nat.ne_of_lt (Nat.lt_of_lt_of_le (Heap.lt_size e) I.ok.above))).trans e1⟩
    · by_cases hj : j = i
      · subst hj
        rw [hi] at e1; cases e1
        rw [List.getElem?_set_self hiσ] at e2
        cases e2
        exact ⟨u, r, .inl ⟨hk, by simp⟩⟩
      · rw [List.getElem?_set_ne (Ne.symm hj)] at e2
        obtain ⟨u', r', q⟩ := hl j y v' e1 e2 e3
        refine ⟨u', r', ?_⟩
        rcases q with ⟨k, e⟩ | ⟨k, c, e, z⟩
        · refine .inl ⟨k, ?_⟩
          have : y ≠ x := fun e => hj (nodup_ix hN e1 (e ▸ hi))
          simp [this, e]
        · exact .inr ⟨k, c, e, z.sameBut hs (cne y c e)⟩
    · obtain ⟨w', z⟩ := I.cell y c e
      exact ⟨w', z.sameBut hs (cne y c e)⟩
    · obtain ⟨e, n, ne, nf, d⟩ := I.pin p hp
      exact ⟨(hs.2 p.1 ne).trans e, n, ne, nf, d⟩
  · have hfn : X.fn x = true := by
      rcases hf with z | z
      · exact z
      · rw [z] at hk; cases hk
    obtain ⟨c, hc⟩ := I.ok.has x (.inl hk)
    obtain ⟨w', z⟩ := I.cell x c hc
    refine wpAny_storeName_cell I.ok.kind hk hc z (fun h' hc' hs => ?_)
    obtain ⟨oc, hoc, hocd⟩ := id z
    refine h { s with heap := h' } ⟨I.ok, I.os, I.bare, ⟨fun b o e n hb hx => ?_, fun b o e n hb hx => ?_, I.base.free, fun b o e hx => ?_, I.base.tups, I.base.frzs, I.base.tbls⟩, ⟨m, hn.sameBut hs (Ne.symm (cne x c hc)), fun j y v' e1 e2 e3 => ?_⟩, fun y c' e => ?_, I.free, I.freeC, fun p hp => ?_, tracked ⟨oc, hoc, I.freeC x c hc⟩ hs, by simpa using I.len⟩ ⟨c, hs, .inr hc⟩
    · exact (hs.2 b (Nat.ne_of_lt (Nat.lt_of_lt_of_le (Heap.lt_size e) (I.ok.cab x c hfn hc)))).trans (I.base.keep b o e n hb hx)
    · obtain ⟨sl, e1⟩ := I.base.slot b o e n hb hx
      exact ⟨sl, (hs.2 b (Nat.ne_of_lt (Nat.lt_of_lt_of_le (Heap.lt_size e) (I.ok.cab x c hfn hc)))).trans e1⟩
    · obtain ⟨o', e1⟩ := I.base.there b o e hx
      exact ⟨o', (hs.2 b (Nat.ne_of_lt (Nat.lt_of_lt_of_le (Heap.lt_size e) (I.ok.cab x c hfn hc)))).trans e1⟩
    · by_cases hj : j = i
      · subst hj
        rw [hi] at e1; cases e1
        rw [List.getElem?_set_self hiσ] at e2
        cases e2
        exact ⟨u, r, .inr ⟨.inl hk, c, hc, hc'⟩⟩
      · rw [List.getElem?_set_ne (Ne.symm hj)] at e2
        obtain ⟨u', r', q⟩ := hl j y v' e1 e2 e3
        refine ⟨u', r', ?_⟩
        rcases q with q | ⟨k, c', e, z'⟩
        · exact .inl q
        · refine .inr ⟨k, c', e, z'.sameBut hs ?_⟩
          rintro rfl
          exact hj (nodup_ix hN e1 (I.ok.inj _ _ _ e hc ▸ hi))
    · by_cases hcc : c' = c
      · subst hcc; exact ⟨_, hc'⟩
      · obtain ⟨w2, z2⟩ := I.cell y c' e
        exact ⟨w2, z2.sameBut hs hcc⟩
    · obtain ⟨e, n, ne, nf, d⟩ := I.pin p hp
      refine ⟨(hs.2 p.1 ?_).trans e, n, ne, nf, d⟩
      intro q
      rw [q, hoc] at e
      have q' : oc = p.2 := Option.some.inj e
      exact d w' (by rw [← q']; exact hocd)
theorem store_ok {M : Model} {A : Around} {E : Value → Shared → Prop} {i : Nat} {x : Str} {v : V} {u : Value} {Q : Unit → Shared → Prop} (I : Inv X pins σ H s) (hN : X.N.Nodup) (hi : X.N[i]? = some x) (hx : Loc X.env.scope x) (r : RelV v u)
    (h : ∀ s', Inv X pins (σ.set i (some v)) H s' → Q () s') (hf : X.fn x = true ∨ X.env.scope.names.lookup x = some .local := by first | exact .inl rfl | exact .inr rfl | assumption) : wpAny M A (storeName X.env x u) Q E s :=
  store_ok2 I hN hi hx r (fun s' I' _ => h s' I') hf
theorem Inv.call' {s' : Shared} {ch : List Addr} (I : Inv X pins σ H s) (ho : s'.os = s.os) (u : Un (frs X.stack) ch H H' s.heap s'.heap) (hok : HOk X.prog X.w H' s'.heap) (hg : AllBare s'.gens)
    (hch : ∀ b ∈ ch, (b ∈ X.ex ∨ X.s_0.heap.objs.size ≤ b) ∧ b ≠ X.env.locals ∧ (∀ x c, X.env.cells.lookup x = some c → c ≠ b) ∧ ∀ p ∈ X.pn ++ pins, p.1 ≠ b) : Inv X pins σ H' s' := by
  obtain ⟨h', g', d', t', o'⟩ := s'
  have e : o' = s.os := ho
  subst e
  exact I.call (g' := g') (t' := t') (d' := d') u hok hg hch
end
abbrev XK := Value → Option Addr → Hp → Prop
abbrev St := List (Option V)
abbrev VK := V → Hp → Prop
abbrev TE := St → Hp → VK → Prop
abbrev TT := St → Hp → (Bool → Hp → Prop) → Prop
abbrev TA := St → Hp → (List V → Hp → Prop) → Prop
structure Ends where
  nx : St → Hp → Prop
  rt : VK
  bk : St → Hp → Prop := fun _ _ => False
  ct : St → Hp → Prop := fun _ _ => False
abbrev TS := Ends → St → Hp → Prop
def EP (X : Cx) (pins : List (Addr × Obj)) (σ : St) (Q : VK) (u : Value) (s' : Shared) : Prop := ∃ v H', Inv X pins σ H' s' ∧ RelV v u ∧ Q v H'
def TP (X : Cx) (pins : List (Addr × Obj)) (σ : St) (Q : Bool → Hp → Prop) (b : Bool) (s' : Shared) : Prop := ∃ H', Inv X pins σ H' s' ∧ Q b H'
def AP (X : Cx) (pins : List (Addr × Obj)) (σ : St) (Q : List V → Hp → Prop) (us : List Value) (s' : Shared) : Prop := ∃ vs H', Inv X pins σ H' s' ∧ Vals vs us ∧ Q vs H'
def SP (X : Cx) (pins : List (Addr × Obj)) (D : Ends) (f : Flow) (s' : Shared) : Prop :=
  match f with
  | .next => ∃ σ' H', Inv X pins σ' H' s' ∧ D.nx σ' H'
  | .brk => ∃ σ' H', Inv X pins σ' H' s' ∧ D.bk σ' H'
  | .cont => ∃ σ' H', Inv X pins σ' H' s' ∧ D.ct σ' H'
  | .ret u => ∃ v σ' H', Inv X pins σ' H' s' ∧ RelV v u ∧ D.rt v H'
def PE (X : Cx) (e : Expr) (t : TE) : Prop :=
  ∀ (pins : List (Addr × Obj)) (s : Shared) (σ : St) (H : Hp) (Q : VK), Inv X pins σ H s → t σ H Q → wpAny (model X.prog X.w) X.A (eval e X.env) (EP X pins σ Q) X.xe s
def PT (X : Cx) (e : Expr) (t : TT) : Prop :=
  ∀ (pins : List (Addr × Obj)) (s : Shared) (σ : St) (H : Hp) (Q : Bool → Hp → Prop), Inv X pins σ H s → t σ H Q → wpAny (model X.prog X.w) X.A (isTrue e X.env (eval e X.env)) (TP X pins σ Q) X.xe s
def PW (X : Cx) (e : Expr) (t : TT) : Prop :=
  ∀ (whole : Sem Value) (pins : List (Addr × Obj)) (s : Shared) (σ : St) (H : Hp) (Q : Bool → Hp → Prop), Inv X pins σ H s → t σ H Q → wpAny (model X.prog X.w) X.A (isTrue e X.env whole) (TP X pins σ Q) X.xe s
theorem PW.pt {X : Cx} {e : Expr} {t : TT} (h : PW X e t) : PT X e t := h _
def PA (X : Cx) (es : List Expr) (t : TA) : Prop :=
  ∀ (pos : Pos) (pins : List (Addr × Obj)) (s : Shared) (σ : St) (H : Hp) (Q : List V → Hp → Prop), Inv X pins σ H s → t σ H Q → wpAny (model X.prog X.w) X.A (spliced (backTo pos (starEach es X.env))) (AP X pins σ Q) X.xe s
def PS (X : Cx) (st : Stmt) (t : TS) : Prop :=
  ∀ (pins : List (Addr × Obj)) (s : Shared) (σ : St) (H : Hp) (D : Ends), Inv X pins σ H s → t D σ H → wpAny (model X.prog X.w) X.A (exec st X.env) (SP X pins D) X.xe s
def PSs (X : Cx) (st : List Stmt) (t : TS) : Prop :=
  ∀ (pins : List (Addr × Obj)) (s : Shared) (σ : St) (H : Hp) (D : Ends), Inv X pins σ H s → t D σ H → wpAny (model X.prog X.w) X.A (execs st X.env) (SP X pins D) X.xe s
theorem thn {α : Type} {t : Sem α} {Q Q' : α → Shared → Prop} {M : Model} {A : Around} {E : Value → Shared → Prop} {s : Shared} (h : wpAny M A t Q E s) (hQ : ∀ a s, Q a s → Q' a s) : wpAny M A t Q' E s := wpAny_mono h hQ fun _ _ x => x
end L2
namespace L2
open PySem PySem.Spec PyProof.Rows
section
variable {X : Cx}
def tVar (i : Nat) : TE := fun σ H Q => ∃ v, σ[i]? = some (some v) ∧ Q v H
def tC (v : V) : TE := fun _ H Q => Q v H
theorem pe_var {i : Nat} {x : Str} {pos : Pos} (hN : X.N[i]? = some x) (hv : Vis X.env.scope x) (hd : (x == ("__debug__" : Str)) = false := by decide) (hcd : (x == ("__classdict__" : Str)) = false := by decide) : PE X (.Name x pos) (tVar i) := by
  intro pins s σ H Q I h
  obtain ⟨v, e, h⟩ := h
  obtain ⟨m, hn, hl⟩ := I.loc
  obtain ⟨u, r, l⟩ := hl i x v hN e hv
  have fin : EP X pins σ Q u s := ⟨v, H, I, r, h⟩
  rcases l with ⟨hk, hm⟩ | ⟨hk, c, hc, hcell⟩
  · exact wpAny_Name (wpAny_loadName_local I.ok.kind hk hn hm fin) hd
  · rcases hk with hk | hk
    · exact wpAny_Name (wpAny_loadName_cell I.ok.kind hk hc hcell fin) hd
    · exact wpAny_Name (wpAny_loadName_free I.ok.kind hk hc hcell fin hcd) hd
theorem pe_int {i j pos} : PE X (.Constant (.int i) j pos) (tC (.int i)) := fun _ _ _ H _ I h => wpAny_Constant_int ⟨.int i, H, I.tok _, ⟨_, rfl⟩, h⟩
theorem pe_bl {b j pos} : PE X (.Constant (.bool b) j pos) (tC (.bl b)) := fun _ _ _ H _ I h => Constant_bool ⟨.bl b, H, I, rfl, h⟩
theorem pe_str {x j pos} : PE X (.Constant (.str x) j pos) (tC (.str x)) := fun _ _ _ H _ I h => Calls.Constant_str ⟨.str x, H, I.tok _, ⟨_, rfl⟩, h⟩
def Gl (X : Cx) (x : Str) : Prop := X.env.kindOf x = some .globalImplicit
theorem ld_glob {E : Value → Shared → Prop} {pins : List (Addr × Obj)} {s : Shared} {σ : St} {H : Hp} {x : Str} {u : Value} {pos : Pos} {Q : Value → Shared → Prop} (I : Inv X pins σ H s) (hg : Gl X x) (hm : X.mg x = some u) (h : Q u s)
    (hd : (x == ("__debug__" : Str)) = false := by decide) : wpAny (model X.prog X.w) X.A (eval (.Name x pos) X.env) Q E s :=
  Calls.Name_function_global I.ok.kind hg (Calls.loadGlobal_global (by rw [I.ok.glob]; exact I.mod.glob.keeps I.bk) hm h) hd
theorem ld_blt {E : Value → Shared → Prop} {pins : List (Addr × Obj)} {s : Shared} {σ : St} {H : Hp} {x : Str} {u : Value} {pos : Pos} {Q : Value → Shared → Prop} (I : Inv X pins σ H s) (hg : Gl X x) (hm : X.mg x = none) (hv : bootBuiltins x = some u) (h : Q u s)
    (hn : x ≠ "__name__" := by decide) (hd : (x == ("__debug__" : Str)) = false := by decide) : wpAny (model X.prog X.w) X.A (eval (.Name x pos) X.env) Q E s := by
  obtain ⟨mb, h1, h2⟩ := I.mod.blt
  exact Calls.Name_function_global I.ok.kind hg (Calls.loadGlobal_builtin (by rw [I.ok.glob]; exact I.mod.glob.keeps I.bk) hm (by rw [I.ok.blt]; exact h1.keeps I.bk) ((h2 x hn).trans hv) h) hd
theorem pe_glob {x : Str} {v : V} {u : Value} {pos : Pos} (hg : Gl X x) (hm : X.mg x = some u) (r : RelV v u) (hd : (x == ("__debug__" : Str)) = false := by decide) : PE X (.Name x pos) (tC v) :=
  fun _ _ _ H _ I h => ld_glob I hg hm ⟨v, H, I, r, h⟩ hd
variable {a b : Expr} {ta tb : TE} {pos : Pos}
def tB (t : TE) : TT := fun σ H Q => t σ H fun x H1 => ∃ c, x = .bl c ∧ Q c H1
theorem pt_val {e : Expr} {t : TE} (h : PE X e t) (he : ∀ whole, isTrue e X.env whole = (do let v ← whole; standAt e.pos; holding [v] (truthy v)) := by intro _; rfl) : PT X e (tB t) := by
  intro pins s σ H Q I hw
  refine isTrue_plain (thn (h pins s σ H _ I hw) fun v s1 ⟨x, H1, I1, r1, q1⟩ => ?_) (he _)
  obtain ⟨d, rfl, q⟩ := q1
  cases r1
  exact wpAny_truthy_bool ⟨H1, I1, q⟩
variable {tA tB' : TT} {rest : List Expr}
def tAnd (t u : TT) : TT := fun σ H Q => t σ H fun c H1 => if c = true then u σ H1 Q else Q false H1
def tNot (t : TT) : TT := fun σ H Q => t σ H fun c H1 => Q (!c) H1
theorem pw_and1 (ha : PT X a tA) : PW X (.BoolOp .And [a] pos) tA := by
  intro wh pins s σ H Q I h
  refine isTrue_and (thn (ha pins s σ H Q I h) fun c s1 e => ?_)
  cases c with
  | true => exact isTrue_and_nil e
  | false => exact e
theorem pw_and (ha : PT X a tA) (hb : PW X (.BoolOp .And (b :: rest) pos) tB') : PW X (.BoolOp .And (a :: b :: rest) pos) (tAnd tA tB') := by
  intro wh pins s σ H Q I h
  refine isTrue_and (thn (ha pins s σ H _ I h) fun c s1 ⟨H1, I1, q1⟩ => ?_)
  cases c with
  | true => exact hb wh pins s1 σ H1 Q I1 q1
  | false => exact ⟨H1, I1, q1⟩
theorem pt_not (ha : PT X a tA) : PT X (.UnaryOp .Not a pos) (tNot tA) := by
  intro pins s σ H Q I h
  exact isTrue_not (ha pins s σ H (fun c H1 => Q (!c) H1) I h)
def tAndV (ta tb : TE) : TE := fun σ H Q => ta σ H fun x H1 => ∃ c, x = .bl c ∧ if c = true then tb σ H1 Q else Q (.bl false) H1
def tOrV (ta tb : TE) : TE := fun σ H Q => ta σ H fun x H1 => ∃ c, x = .bl c ∧ if c = true then Q (.bl true) H1 else tb σ H1 Q
theorem pe_one {op} {t : TE} (h : PE X a t) : PE X (.BoolOp op [a] pos) t := fun pins s σ H Q I hw => BoolOp_one (h pins s σ H Q I hw)
theorem pe_and (ha : PE X a ta) (hb : PE X (.BoolOp .And (b :: rest) pos) tb) : PE X (.BoolOp .And (a :: b :: rest) pos) (tAndV ta tb) := by
  intro pins s σ H Q I h
  refine BoolOp_and (thn (ha pins s σ H _ I h) fun v s1 ⟨x, H1, I1, r1, q1⟩ => ?_)
  obtain ⟨c, rfl, q1⟩ := q1
  cases r1
  refine wpAny_truthy_bool ?_
  cases c with
  | true => exact hb pins s1 σ H1 Q I1 q1
  | false => exact ⟨.bl false, H1, I1, rfl, q1⟩
theorem pe_or (ha : PE X a ta) (hb : PE X (.BoolOp .Or (b :: rest) pos) tb) : PE X (.BoolOp .Or (a :: b :: rest) pos) (tOrV ta tb) := by
  intro pins s σ H Q I h
  refine BoolOp_or (thn (ha pins s σ H _ I h) fun v s1 ⟨x, H1, I1, r1, q1⟩ => ?_)
  obtain ⟨c, rfl, q1⟩ := q1
  cases r1
  refine wpAny_truthy_bool ?_
  cases c with
  | false => exact hb pins s1 σ H1 Q I1 q1
  | true => exact ⟨.bl true, H1, I1, rfl, q1⟩
end
end L2
namespace L2
open PySem PySem.Spec PyProof.Rows
def SqL (K : PySem.W.Frag) (H : Hp) (a : Addr) (xs : List V) : Prop :=
  Rd H a (.lst xs) ∨
    ∃ (o : Obj) (its : Array Value) (n : Nat), K.lookup a = some o ∧ o.cls = .type "list" ∧ o.dict = none ∧ o.data = .seq its n ∧ its.size ≤ sizeLine ∧ Vals xs its.toList
def SqT (K : PySem.W.Frag) (H : Hp) (a : Addr) (xs : List V) : Prop :=
  Rd H a (.tup xs) ∨
    ∃ (o : Obj) (its : Array Value) (n : Nat), K.lookup a = some o ∧ o.cls = .type "tuple" ∧ o.data = .seq its n ∧ its.size ≤ sizeLine ∧ Vals xs its.toList
def absV : Value → Option V
  | .none => some .non
  | .bool b => some (.bl b)
  | .int i _ => some (.int i)
  | .str x _ => some (.str x)
  | .bytes b _ => some (.byt b)
  | .float b _ => some (.flt b)
  | .ref a => some (.ref a)
  | .type n => some (.ty n)
  | _ => none
theorem RelV.abs {x : V} {u : Value} (r : RelV x u) : absV u = some x := by
  cases x with
  | non => cases r; rfl
  | bl _ => cases r; rfl
  | int _ => obtain ⟨t, rfl⟩ := r; rfl
  | str _ => obtain ⟨t, rfl⟩ := r; rfl
  | byt _ => obtain ⟨t, rfl⟩ := r; rfl
  | flt _ => obtain ⟨t, rfl⟩ := r; rfl
  | ref _ => cases r; rfl
  | ty _ => cases r; rfl
theorem RelV.inj {x y : V} {u : Value} (r : RelV x u) (q : RelV y u) : x = y := Option.some.inj (r.abs.symm.trans q.abs)
theorem Vals.inj : ∀ {xs ys : List V} {us : List Value}, Vals xs us → Vals ys us → xs = ys
  | _, _, _, .nil, .nil => rfl
  | _, _, _, .cons r t, .cons r' t' => by rw [r.inj r', Vals.inj t t']
section
variable {X : Cx} {pins : List (Addr × Obj)} {σ : St} {H : Hp} {s : Shared} {a : Addr} {xs ys : List V}
theorem SqL.of {K : PySem.W.Frag} (h : H a = some (.lst xs)) : SqL K H a xs := .inl (.inl h)
theorem SqT.of {K : PySem.W.Frag} (h : H a = some (.tup xs)) : SqT K H a xs := .inl (.inl h)
theorem Inv.list (I : Inv X pins σ H s) (h : SqL X.K H a xs) : ∃ its : List Value, Vals xs its ∧ PlainL s.heap a its.toArray ∧ xs.length ≤ sizeLine := by
  rcases h with h | ⟨o, its, n, hk, hc, hd, hs, hz, r⟩
  · obtain ⟨z, its, n, r, e⟩ := h.ok I.hok
    exact ⟨its, r, ⟨_, n, e, rfl, rfl, rfl⟩, z⟩
  · refine ⟨its.toList, r, ⟨o, n, I.kIn a o hk, hc, hd, by simpa using hs⟩, ?_⟩
    have e := r.length
    simp only [Array.length_toList] at e
    omega
theorem Inv.tuple (I : Inv X pins σ H s) (h : SqT X.K H a xs) : ∃ its : List Value, Vals xs its ∧ IsTup s.heap a its.toArray ∧ xs.length ≤ sizeLine := by
  rcases h with h | ⟨o, its, n, hk, hc, hs, hz, r⟩
  · obtain ⟨z, its, r, p⟩ := h.ok I.hok
    exact ⟨its, r, p, z⟩
  · refine ⟨its.toList, r, ⟨o, I.kIn a o hk, hc, n, by simpa using hs⟩, ?_⟩
    have e := r.length
    simp only [Array.length_toList] at e
    omega
theorem Inv.list_inj (I : Inv X pins σ H s) (h : SqL X.K H a xs) (h' : SqL X.K H a ys) : xs = ys := by
  obtain ⟨its, r, ⟨o, n, e, _, _, d⟩, _⟩ := I.list h
  obtain ⟨its', r', ⟨o', n', e', _, _, d'⟩, _⟩ := I.list h'
  rw [e] at e'; cases e'
  rw [d] at d'
  injection d' with d1 _
  have : its = its' := by simpa using congrArg Array.toList d1
  subst this
  exact r.inj r'
end
abbrev Cx.wish (X : Cx) (E : Value → Shared → Prop) : Cx := { X with xe := E }
abbrev Cx.nox (X : Cx) : Cx := X.wish fun _ _ => False
theorem Cx.Ok.wish {X : Cx} (ok : X.Ok) (E : Value → Shared → Prop) : (X.wish E).Ok :=
  ⟨ok.mod, ok.kind, ok.glob, ok.blt, ok.above, ok.inj, ok.has, ok.cab, ok.hd, ok.frames, ok.stk, ok.exf, ok.bs, ok.bsz, ok.noex, ok.exfs, ok.funs, ok.frf⟩
theorem Cx.Ok.unwish {X : Cx} {E : Value → Shared → Prop} (ok : (X.wish E).Ok) : X.Ok :=
  ⟨ok.mod, ok.kind, ok.glob, ok.blt, ok.above, ok.inj, ok.has, ok.cab, ok.hd, ok.frames, ok.stk, ok.exf, ok.bs, ok.bsz, ok.noex, ok.exfs, ok.funs, ok.frf⟩
section
variable {X : Cx} {pins : List (Addr × Obj)} {σ : St} {H : Hp} {s : Shared} {E : Value → Shared → Prop}
theorem Inv.wish (I : Inv X pins σ H s) (E : Value → Shared → Prop) : Inv (X.wish E) pins σ H s := ⟨I.ok.wish E, I.os, I.bare, I.base, I.loc, I.cell, I.free, I.freeC, I.pin, I.hok, I.len⟩
theorem Inv.unwish (I : Inv (X.wish E) pins σ H s) : Inv X pins σ H s := ⟨I.ok.unwish, I.os, I.bare, I.base, I.loc, I.cell, I.free, I.freeC, I.pin, I.hok, I.len⟩
theorem SP.unwish {D : Ends} {f : Flow} {s' : Shared} (h : SP (X.wish E) pins D f s') : SP X pins D f s' := by
  cases f with
  | next => obtain ⟨σ', H', I, q⟩ := h; exact ⟨σ', H', I.unwish, q⟩
  | brk => obtain ⟨σ', H', I, q⟩ := h; exact ⟨σ', H', I.unwish, q⟩
  | cont => obtain ⟨σ', H', I, q⟩ := h; exact ⟨σ', H', I.unwish, q⟩
  | ret u => obtain ⟨v, σ', H', I, r, q⟩ := h; exact ⟨v, σ', H', I.unwish, r, q⟩
theorem PSs.nox {st : List Stmt} {t : TS} (h : PSs X.nox st t) : PSs X st t := fun pins s σ H D I hw =>
  wpAny_mono (h pins s σ H D (I.wish _) hw) (fun _ _ q => q.unwish) fun _ _ z => False.elim z
end
section
variable {X : Cx} {st : Stmt} {rest : List Stmt} {t u : TS} {e : Expr} {te : TE} {pos : Pos}
def tNext : TS := fun D σ H => D.nx σ H
def tSeq (t u : TS) : TS := fun D σ H => t { D with nx := u D } σ H
theorem pss_nil : PSs X [] tNext := fun _ _ σ H _ I h => wpAny_execs_nil ⟨σ, H, I, h⟩
theorem pss_cons (h1 : PS X st t) (h2 : PSs X rest u) : PSs X (st :: rest) (tSeq t u) := by
  intro pins s σ H D I h
  refine wpAny_execs_cons (thn (h1 pins s σ H { D with nx := u D } I h) fun f s1 q => ?_)
  cases f with
  | next =>
    obtain ⟨σ', H', I', q⟩ := q
    exact h2 pins s1 σ' H' D I' q
  | ret v => exact q
  | brk => exact q
  | cont => exact q
theorem pss_one (h1 : PS X st t) : PSs X [st] t := by
  intro pins s σ H D I h
  refine wpAny_execs_cons (thn (h1 pins s σ H D I h) fun f s1 q => ?_)
  cases f with
  | next => exact wpAny_execs_nil q
  | ret v => exact q
  | brk => exact q
  | cont => exact q
theorem Inv.quiet {pins : List (Addr × Obj)} {σ : St} {H : Hp} {s : Shared} (I : Inv X pins σ H s) : interactive X.env = false := by simp [interactive, I.ok.kind]
def tDrop (te : TE) : TS := fun D σ H => te σ H fun _ H1 => D.nx σ H1
theorem ps_expr (he : PE X e te) (hs : swapsWith e none pos.line X.env = pure false := by rfl) : PS X (.Expr e pos) (tDrop te) := by
  intro pins s σ H D I h
  exact wpAny_Expr_any (thn (he pins s σ H _ I h) fun v s1 ⟨x, H1, I1, r1, q1⟩ => ⟨σ, H1, I1, q1⟩) I.quiet hs
def tRet (te : TE) : TS := fun D σ H => te σ H D.rt
theorem ps_ret (he : PE X e te) : PS X (.Return (some e) pos) (tRet te) := by
  intro pins s σ H D I h
  exact wpAny_Return_some (thn (he pins s σ H _ I h) fun v s1 ⟨x, H1, I1, r1, q1⟩ => ⟨x, σ, H1, I1, r1, q1⟩)
def tIfS (c : TT) (t u : TS) : TS := fun D σ H => c σ H fun b H1 => if b = true then t D σ H1 else u D σ H1
theorem ps_if {c : Expr} {a b : List Stmt} {tc : TT} (hc : PT X c tc) (ha : PSs X a t) (hb : PSs X b u) : PS X (.If c a b pos) (tIfS tc t u) := by
  intro pins s σ H D I h
  refine wpAny_If (thn (hc pins s σ H _ I h) fun d s1 ⟨H1, I1, q1⟩ => ?_)
  cases d with
  | true => exact ha pins s1 σ H1 D I1 q1
  | false => exact hb pins s1 σ H1 D I1 q1
end
abbrev TG := V → St → Hp → (St → Hp → Prop) → Prop
abbrev TGs := List V → St → Hp → (St → Hp → Prop) → Prop
def PG (X : Cx) (target : Expr) (t : TG) : Prop :=
  ∀ (pins : List (Addr × Obj)) (s : Shared) (σ : St) (H : Hp) (v : V) (u : Value) (Q : St → Hp → Prop), Inv X pins σ H s → RelV v u → t v σ H Q →
    wpAny (model X.prog X.w) X.A (assign target X.env u) (fun _ s' => ∃ σ' H', Inv X pins σ' H' s' ∧ Q σ' H') X.xe s
def PGs (X : Cx) (ts : List Expr) (t : TGs) : Prop :=
  ∀ (pins : List (Addr × Obj)) (s : Shared) (σ : St) (H : Hp) (vs : List V) (us : List Value) (Q : St → Hp → Prop), Inv X pins σ H s → Vals vs us → t vs σ H Q →
    wpAny (model X.prog X.w) X.A (assignInOrder ((assignEach ts X.env).map (·.2)) us) (fun _ s' => ∃ σ' H', Inv X pins σ' H' s' ∧ Q σ' H') X.xe s
abbrev TSet := V → V → V → Hp → (Hp → Prop) → Prop
def PSet (X : Cx) (t : TSet) : Prop :=
  ∀ (pins : List (Addr × Obj)) (s : Shared) (σ : St) (H : Hp) (o i v : V) (ov iv u : Value) (Q : Hp → Prop), Inv X pins σ H s → RelV o ov → RelV i iv → RelV v u → t o i v H Q →
    wpAny (model X.prog X.w) X.A (setItem ov iv u) (fun _ s' => ∃ H', Inv X pins σ H' s' ∧ Q H') X.xe s
abbrev TIp := V → V → Hp → VK → Prop
def PIp (X : Cx) (op : Operator) (t : TIp) : Prop :=
  ∀ (pins : List (Addr × Obj)) (s : Shared) (σ : St) (H : Hp) (x y : V) (v u : Value) (Q : VK), Inv X pins σ H s → RelV x v → RelV y u → t x y H Q →
    wpAny (model X.prog X.w) X.A (inplaceOp op v u) (EP X pins σ Q) X.xe s
section
variable {X : Cx} {pos : Pos}
def gName (i : Nat) : TG := fun v σ H Q => Q (σ.set i (some v)) H
theorem pg_name {i : Nat} {x : Str} (hN : X.N.Nodup) (hi : X.N[i]? = some x) (hx : Loc X.env.scope x) (hf : X.fn x = true ∨ X.env.scope.names.lookup x = some .local := by first | exact .inl rfl | exact .inr rfl | assumption) : PG X (.Name x pos) (gName i) := by
  intro pins s σ H v u Q I r h
  exact wpAny_assign_Name (store_ok I hN hi hx r (fun s' I' => ⟨_, H, I', h⟩) hf)
def gNil : TGs := fun vs σ H Q => vs = [] ∧ Q σ H
def gCons (t : TG) (u : TGs) : TGs := fun vs σ H Q => ∃ v r, vs = v :: r ∧ t v σ H fun σ' H' => u r σ' H' Q
theorem pgs_nil : PGs X [] gNil := by
  intro pins s σ H vs us Q I r h
  obtain ⟨e, h⟩ := h
  subst e
  cases r
  exact assignInOrder_nil ⟨σ, H, I, h⟩
theorem pgs_cons {e : Expr} {es : List Expr} {t : TG} {u : TGs} (h1 : PG X e t) (h2 : PGs X es u)
    (hs : (assignEach (e :: es) X.env).map (·.2) = assign e X.env :: (assignEach es X.env).map (·.2) := by rfl) : PGs X (e :: es) (gCons t u) := by
  intro pins s σ H vs us Q I r h
  obtain ⟨v, vr, e1, h⟩ := h
  subst e1
  cases r with
  | cons r rr =>
    rw [hs]
    refine assignInOrder_cons (thn (h1 pins s σ H _ _ _ I r h) fun _ s1 ⟨σ1, H1, I1, q1⟩ => ?_)
    exact h2 pins s1 σ1 H1 _ _ Q I1 rr q1
def gTup (K : PySem.W.Frag) (n : Nat) (t : TGs) : TG := fun v σ H Q => ∃ a xs, v = .ref a ∧ SqT K H a xs ∧ xs.length = n ∧ t xs σ H Q
theorem pg_tup {es : List Expr} {k : Nat} {t : TGs} {n : Nat} (hc : X.calm = true) (h : PGs X es t)
    (hn : (assignEach es X.env).length = n := by rfl) (hst : (assignEach es X.env).findIdx? (·.1) = none := by rfl) : PG X (.Tuple es k pos) (gTup X.K n t) := by
  intro pins s σ H v u Q I r hw
  obtain ⟨a, xs, e1, hq, hl, hw⟩ := hw
  subst e1
  cases r
  obtain ⟨its, rv, ht, hz⟩ := I.tuple hq
  refine assign_Tuple_tuple (I.ok.hd hc) ht (by simp [hn, ← hl, rv.length]) hst fun h' hx => ?_
  have I1 : Inv X pins σ H { s with heap := h' } := I.kept (t' := s.toks) fun b o e => hx b o (Nat.ne_of_lt (Heap.lt_size e)) e
  exact h pins _ σ H xs _ Q I1 (by simpa using rv) hw
def gSub (to ti : TE) (t : TSet) : TG := fun v σ H Q => to σ H fun o H1 => ti σ H1 fun i H2 => t o i v H2 fun H3 => Q σ H3
theorem pg_sub {o i : Expr} {to ti : TE} {t : TSet} (ho : PE X o to) (hi : PE X i ti) (hs : PSet X t)
    (ha : ∀ v, assign (.Subscript o i pos) X.env v = (do
      let ov ← holding [v] (eval o X.env)
      let iv ← holding [v, ov] (eval i X.env)
      standAt pos
      holding [v, ov, iv] (setItem ov iv v)
      release [v, ov, iv] []) := by intro _; rfl) : PG X (.Subscript o i pos) (gSub to ti t) := by
  intro pins s σ H v u Q I r h
  rw [ha]
  refine wpAny_bind (wpAny_holding (thn (ho pins s σ H _ I h) fun ov s1 ⟨x, H1, I1, r1, q1⟩ => ?_))
  refine wpAny_bind (wpAny_holding (thn (hi pins s1 σ H1 _ I1 q1) fun iv s2 ⟨y, H2, I2, r2, q2⟩ => ?_))
  refine wpAny_bind (wpAny_standAt (wpAny_bind (wpAny_holding (thn (hs pins s2 σ H2 x y v ov iv u _ I2 r1 r2 r q2) fun _ s3 ⟨H3, I3, q3⟩ => ?_))))
  exact wpAny_release ⟨σ, H3, I3, q3⟩
def tAsg (te : TE) (g : TG) : TS := fun D σ H => te σ H fun x H1 => g x σ H1 D.nx
theorem ps_asg {tg e : Expr} {te : TE} {g : TG} (he : PE X e te) (hg : PG X tg g) (hs : swapsWithSole [tg] e pos.line X.env = pure false := by rfl) (hw : swappedStores [tg] e X.env = pure none := by rfl)
    (h1 : (assignEach [tg] X.env).map (·.2) = [assign tg X.env] := by rfl) : PS X (.Assign [tg] e pos) (tAsg te g) := by
  intro pins s σ H D I h
  refine wpAny_Assign_stores (thn (he pins s σ H _ I h) fun v s1 ⟨x, H1, I1, r1, q1⟩ => ?_) hs hw
  rw [h1]
  exact thn (hg pins s1 σ H1 x v _ I1 r1 q1) fun _ s2 q => q
theorem ps_set {i : Nat} {x : Str} {e : Expr} {te : TE} {pos' : Pos} (hN : X.N.Nodup) (hi : X.N[i]? = some x) (hx : Loc X.env.scope x) (he : PE X e te) (hs : swapsWith e (some (.Name x pos')) pos.line X.env = pure false := by rfl) (hf : X.fn x = true ∨ X.env.scope.names.lookup x = some .local := by first | exact .inl rfl | exact .inr rfl | assumption) :
    PS X (.Assign [.Name x pos'] e pos) (tAsg te (gName i)) := by
  intro pins s σ H D I h
  refine wpAny_Assign_Name (thn (he pins s σ H _ I h) fun v s1 ⟨y, H1, I1, r1, q1⟩ => ?_) hs
  exact store_ok I1 hN hi hx r1 (fun s2 I2 => ⟨_, H1, I2, q1⟩) hf
def tAug (i : Nat) (te : TE) (ti : TIp) : TS := fun D σ H => ∃ x, σ[i]? = some (some x) ∧ te σ H fun y H1 => ti x y H1 fun z H2 => D.nx (σ.set i (some z)) H2
theorem ps_aug {i : Nat} {x : Str} {e : Expr} {te : TE} {op : Operator} {ti : TIp} {pos' : Pos} (hN : X.N.Nodup) (hi : X.N[i]? = some x) (hx : Loc X.env.scope x) (he : PE X e te) (ho : PIp X op ti) (hf : X.fn x = true ∨ X.env.scope.names.lookup x = some .local := by first | exact .inl rfl | exact .inr rfl | assumption) :
    PS X (.AugAssign (.Name x pos') op e pos) (tAug i te ti) := by
  intro pins s σ H D I h
  obtain ⟨v, e1, h⟩ := h
  obtain ⟨m, hn, hl⟩ := I.loc
  have vis : Vis X.env.scope x := by rcases hx with k | k; exact .inl k; exact .inr (.inl k)
  obtain ⟨u, r, l⟩ := hl i x v hi e1 vis
  refine wpAny_AugAssign_Name ?_
  have go : wpAny (model X.prog X.w) X.A (eval e X.env) (fun w s₂ => wpAny (model X.prog X.w) X.A (inplaceOp op u w) (fun r s₃ => wpAny (model X.prog X.w) X.A (storeName X.env x r) (fun _ => SP X pins D .next) X.xe s₃) X.xe s₂) X.xe s := by
    refine thn (he pins s σ H _ I h) fun w s1 ⟨y, H1, I1, r1, q1⟩ => ?_
    refine thn (ho pins s1 σ H1 v y u w _ I1 r r1 q1) fun z s2 ⟨zv, H2, I2, r2, q2⟩ => ?_
    exact store_ok I2 hN hi hx r2 (fun s3 I3 => ⟨_, H2, I3, q2⟩) hf
  rcases l with ⟨hk, hm⟩ | ⟨hk, c, hc, hcell⟩
  · exact wpAny_loadName_local I.ok.kind hk hn hm go
  · rcases hk with hk | hk
    · exact wpAny_loadName_cell I.ok.kind hk hc hcell go
    · rcases hx with k | k
      · have : X.env.scope.names.lookup x = some .free := hk
        rw [k] at this; cases this
      · have : X.env.scope.names.lookup x = some .free := hk
        rw [k] at this; cases this
def tAugS (to ti te : TE) (tget : V → V → Hp → VK → Prop) (tip : TIp) (tset : TSet) : TS := fun D σ H => to σ H fun o H1 => ti σ H1 fun i H2 => tget o i H2 fun x H3 => te σ H3 fun y H4 => tip x y H4 fun z H5 => tset o i z H5 fun H6 => D.nx σ H6
def PGet (X : Cx) (t : V → V → Hp → VK → Prop) : Prop :=
  ∀ (pins : List (Addr × Obj)) (s : Shared) (σ : St) (H : Hp) (o i : V) (ov iv : Value) (Q : VK), Inv X pins σ H s → RelV o ov → RelV i iv → t o i H Q →
    wpAny (model X.prog X.w) X.A (getItem ov iv) (EP X pins σ Q) X.xe s
theorem ps_augS {o i e : Expr} {to ti te : TE} {tget : V → V → Hp → VK → Prop} {tip : TIp} {tset : TSet} {op : Operator} {tpos : Pos} (ho : PE X o to) (hi : PE X i ti) (hg : PGet X tget) (he : PE X e te) (hp : PIp X op tip) (hs : PSet X tset)
    (ha : ∀ ov iv new, augStore i ov iv new = (do holding [new, ov, iv] (setItem ov iv new); release [new, ov, iv] []; pure .next) := by intros; rfl) : PS X (.AugAssign (.Subscript o i tpos) op e pos) (tAugS to ti te tget tip tset) := by
  intro pins s σ H D I h
  refine wpAny_AugAssign_SubscriptAny (thn (ho pins s σ H _ I h) fun ov s1 ⟨x1, H1, I1, r1, q1⟩ => ?_) ha
  refine thn (hi pins s1 σ H1 _ I1 q1) fun iv s2 ⟨x2, H2, I2, r2, q2⟩ => ?_
  refine thn (hg pins s2 σ H2 x1 x2 ov iv _ I2 r1 r2 q2) fun old s3 ⟨x3, H3, I3, r3, q3⟩ => ?_
  refine thn (he pins s3 σ H3 _ I3 q3) fun v s4 ⟨x4, H4, I4, r4, q4⟩ => ?_
  refine thn (hp pins s4 σ H4 x3 x4 old v _ I4 r3 r4 q4) fun new s5 ⟨x5, H5, I5, r5, q5⟩ => ?_
  exact thn (hs pins s5 σ H5 x1 x2 x5 ov iv new _ I5 r1 r2 r5 q5) fun _ s6 ⟨H6, I6, q6⟩ => ⟨σ, H6, I6, q6⟩
def ipI (f : Int → Int → Int) : TIp := fun x y H Q => ∃ i j, x = .int i ∧ y = .int j ∧ Q (.int (f i j)) H
theorem ip_add : PIp X .Add (ipI fun i j => i + j) := by
  intro pins s σ H x y v u Q I r1 r2 h
  obtain ⟨i, j, e1, e2, q⟩ := h
  subst e1; subst e2
  obtain ⟨t, rfl⟩ := r1
  obtain ⟨t', rfl⟩ := r2
  exact iadd_int ⟨.int _, H, I.tok _, ⟨_, rfl⟩, q⟩
end
section
variable {X : Cx} {pos : Pos}
def tWhile (c : TT) (tb : TS) : TS := fun D σ H => ∃ W : Nat → St → Hp → Prop, (∃ m, W m σ H) ∧ ∀ m σ H, W m σ H →
  c σ H fun b H1 => if b = true then ∃ N : St → Hp → Prop, (∀ σ' H', N σ' H' → ∃ m', m' < m ∧ W m' σ' H') ∧ tb { D with nx := N, ct := N, bk := D.nx } σ H1 else D.nx σ H1
theorem ps_while {c : Expr} {body : List Stmt} {tc : TT} {tb : TS} (hp : PassesOwn (model X.prog X.w) X.A X.env X.xe) (hc : PT X c tc) (hb : PSs X body tb) : PS X (.While c body [] pos) (tWhile tc tb) := by
  intro pins s σ H D I h
  obtain ⟨W, ⟨m0, w0⟩, turn⟩ := h
  refine wpAny_While (codeAny_whileLoop (fun n s' => ∃ σ' H', Inv X pins σ' H' s' ∧ W n σ' H') ?_ m0 ⟨σ, H, I, w0⟩)
  rintro n s1 ⟨σ1, H1, I1, w1⟩
  refine wpAny_passesOwn hp (thn (hc pins s1 σ1 H1 _ I1 (turn n σ1 H1 w1)) fun b s2 ⟨H2, I2, q2⟩ => ?_)
  cases b with
  | true =>
    obtain ⟨N, hN, q2⟩ := q2
    rw [if_pos rfl]
    refine wpAny_passesOwn hp (thn (hb pins s2 σ1 H2 _ I2 q2) fun f s3 q3 => ?_)
    cases f with
    | next =>
      obtain ⟨σ3, H3, I3, n3⟩ := q3
      obtain ⟨m', hm, w3⟩ := hN σ3 H3 n3
      exact ⟨m', hm, σ3, H3, I3, w3⟩
    | cont =>
      obtain ⟨σ3, H3, I3, n3⟩ := q3
      obtain ⟨m', hm, w3⟩ := hN σ3 H3 n3
      exact ⟨m', hm, σ3, H3, I3, w3⟩
    | brk => exact q3
    | ret v => exact q3
  | false =>
    rw [if_neg Bool.false_ne_true]
    exact wpAny_execs_nil ⟨σ1, H2, I2, q2⟩
end
structure It where
  go : Nat → Hp → Prop
  yld : Nat → Hp → V → Hp → Prop
  stop : Nat → Hp → Prop
def FpOk (X : Cx) (pins : List (Addr × Obj)) (H : Hp) (b : Addr) : Prop :=
  H b = none ∧ b ≠ X.env.locals ∧ b ∉ X.fs ∧ (b ∈ X.ex ∨ X.s_0.heap.objs.size ≤ b) ∧ (∀ x c, X.env.cells.lookup x = some c → c ≠ b) ∧ ∀ p ∈ X.pn ++ pins, p.1 ≠ b
theorem Inv.fpOk {X : Cx} {pins : List (Addr × Obj)} {σ : St} {H H' : Hp} {s : Shared} {b : Addr} (I : Inv X pins σ H s) (hb : s.heap.objs.size ≤ b) (hn : H' b = none) : FpOk X pins H' b := by
  refine ⟨hn, Nat.ne_of_gt (Nat.lt_of_lt_of_le I.lt hb), I.nofs hb, .inr (Nat.le_trans I.sz hb), fun x c e z => ?_, fun p hp z => ?_⟩
  · obtain ⟨v, q⟩ := I.cell x c e
    exact absurd (Nat.lt_of_lt_of_le q.lt (by rw [z]; exact hb)) (Nat.lt_irrefl _)
  · exact absurd (Nat.lt_of_lt_of_le (Heap.lt_size (I.pin p hp).1) (by rw [z]; exact hb)) (Nat.lt_irrefl _)
structure Turn (P : Program) (w : World) (K : PySem.W.Frag) (tg : Expr) (J : It) (fp : List Addr) (it : Addr) (tn : Nat → Heap → Prop) : Prop where
  mem : it ∈ fp
  obj : ∀ i h, tn i h → ∀ b ∈ fp, ∃ o, h.get? b = some o ∧ ∀ v, o.data ≠ .cell v
  keep : ∀ i h h', tn i h → (∀ b ∈ fp, ∀ o, h.get? b = some o → h'.get? b = some o) → tn i h'
  item : ∀ (X : Cx), X.prog = P → X.w = w → X.K = K → X.calm = true → ∀ (i : Nat) (pins : List (Addr × Obj)) (s : Shared) (σ : St) (H : Hp) (E : Value → Shared → Prop), Inv X pins σ H s → (∀ b ∈ fp, FpOk X pins H b) → tn i s.heap → J.go i H →
    wpAny (model P w) X.A (pyNext (.ref it)) (fun r s1 => ∃ u, r = some u ∧
      wpAny (model P w) X.A (letOwnedTupleGo tg (.ref it) u) (fun _ s2 => ∃ x H', Inv X pins σ H' s2 ∧ RelV x u ∧ J.yld i H x H' ∧ tn (i + 1) s2.heap ∧ ∀ b ∈ fp, H' b = none) E s1) E s
  done : ∀ (X : Cx), X.prog = P → X.w = w → X.K = K → X.calm = true → ∀ (i : Nat) (pins : List (Addr × Obj)) (s : Shared) (σ : St) (H : Hp) (E : Value → Shared → Prop), Inv X pins σ H s → (∀ b ∈ fp, FpOk X pins H b) → tn i s.heap → J.stop i H →
    wpAny (model P w) X.A (pyNext (.ref it)) (fun r s1 => r = none ∧ Inv X pins σ H s1) E s
  self : ∀ (A : Around) (i : Nat) (s : Shared) (Q : Value → Shared → Prop) (E : Value → Shared → Prop), tn i s.heap → Q (.ref it) s → wpAny (model P w) A (pyIter (.ref it)) Q E s
abbrev TI := St → Hp → (It → Hp → Prop) → Prop
def PIE (X : Cx) (pins : List (Addr × Obj)) (σ : St) (tg : Expr) (R : It → Hp → Prop) (itv : Value) (s2 : Shared) : Prop :=
  ∃ (it : Addr) (fp : List Addr) (tn : Nat → Heap → Prop) (J : It) (H' : Hp), itv = .ref it ∧ Inv X pins σ H' s2 ∧ Turn X.prog X.w X.K tg J fp it tn ∧ tn 0 s2.heap ∧ (∀ b ∈ fp, FpOk X pins H' b) ∧ R J H'
def PI (X : Cx) (tg iter : Expr) (wi : TI) : Prop :=
  ∀ (pins : List (Addr × Obj)) (s : Shared) (σ : St) (H : Hp) (R : It → Hp → Prop), Inv X pins σ H s → wi σ H R →
    wpAny (model X.prog X.w) X.A (eval iter X.env) (fun v s1 => wpAny (model X.prog X.w) X.A (pyIter v) (PIE X pins σ tg R) X.xe s1) X.xe s
theorem go_of {M : Model} {A : Around} {E : Value → Shared → Prop} {s : Shared} {tg : Expr} {it : Addr} {u : Value} {o : Obj} {n : String} {vs : Array Value} {Q : Unit → Shared → Prop} (ho : s.heap.get? it = some o) (hc : o.cls = .type n) (hd : o.data = .fields vs)
    (hn : ["enumerate", "zip", "dict_itemiterator", "dict_reverseitemiterator", "odict_iterator", "itertools.zip_longest", "itertools.pairwise"].contains n = false) (hQ : Q () s) : wpAny M A (letOwnedTupleGo tg (.ref it) u) Q E s := by
  unfold letOwnedTupleGo
  cases tg <;> first
    | exact wpAny_pure hQ
    | (cases u <;> first
        | exact wpAny_pure hQ
        | (refine wpAny_bind (wpAny_load ho ?_)
           rw [hc, hd]
           show wpAny M A (if (["enumerate", "zip", "dict_itemiterator", "dict_reverseitemiterator", "odict_iterator", "itertools.zip_longest", "itertools.pairwise"].contains n && vs[0]? == some (rawInt _)) = true then _ else _) Q E s
           rw [if_neg (by intro h; rw [hn, Bool.false_and] at h; cases h)]
           exact wpAny_pure hQ))
def Itl (K : PySem.W.Frag) (a : Addr) : It :=
  ⟨fun i H => ∃ xs x, SqL K H a xs ∧ xs[i]? = some x, fun i H x H' => H' = H ∧ ∀ xs, SqL K H a xs → xs[i]? = some x, fun i H => ∃ xs, SqL K H a xs ∧ xs.length ≤ i⟩
def Itr (lo : Int) (n : Nat) : It := ⟨fun i _ => i < n, fun i H x H' => H' = H ∧ x = .int (lo + i), fun i _ => n ≤ i⟩
theorem turn_list {P : Program} {w : World} {K : PySem.W.Frag} {tg : Expr} (a it : Addr) : Turn P w K tg (Itl K a) [it] it (fun i h => h.IsListIter it a i) where
  mem := by simp
  obj := fun i h st b hb => by
    have e : b = it := by simpa using hb
    subst e
    obtain ⟨o, e, c, d⟩ := st
    exact ⟨o, e, fun v z => by rw [d] at z; cases z⟩
  keep := fun i h h' st k => st.at fun o e => k it (by simp) o e
  item := by
    intro X hP hw hK hc i pins s σ H E I hf st hg
    subst hP hw hK
    obtain ⟨xs, x, hq, hx⟩ := hg
    obtain ⟨its, rv, p, hz⟩ := I.list hq
    obtain ⟨u, hu, ru⟩ := rv.get hx
    obtain ⟨f0, f1, f2, f3, f4, f5⟩ := hf it (by simp)
    refine wpAny_pyNext_list_item st p.isList (x := u) (by simpa using hu) fun h' st' sb => ?_
    have I1 : Inv X pins σ H { s with heap := h' } := I.turned (t' := s.toks) (fun b o hb e => (sb.2 b hb).trans e) f0 f1 f3 f4 f5
    obtain ⟨o, e, c, d⟩ := id st'
    exact ⟨u, rfl, go_of (s := { s with heap := h' }) e c d (by decide) ⟨x, H, I1, ru, ⟨rfl, fun ys hy => by rw [I.list_inj hy hq]; exact hx⟩, st', fun b hb => (hf b hb).1⟩⟩
  done := by
    intro X hP hw hK hc i pins s σ H E I hf st hg
    subst hP hw hK
    obtain ⟨xs, hq, hx⟩ := hg
    obtain ⟨its, rv, p, hz⟩ := I.list hq
    obtain ⟨f0, f1, f2, f3, f4, f5⟩ := hf it (by simp)
    have hl := rv.length
    exact wpAny_pyNext_list_end (I.ok.hd hc) st p.isList (by simp; omega) fun h' eb => ⟨rfl, I.turned (t' := s.toks) (fun b o hb e => eb b o hb e) f0 f1 f3 f4 f5⟩
  self := fun _ _ _ _ _ st h => wpAny_pyIter_listiter st h
theorem turn_range {P : Program} {w : World} {K : PySem.W.Frag} {tg : Expr} (it : Addr) (lo : Int) (n : Nat) : Turn P w K tg (Itr lo n) [it] it (fun i h => IsRangeIter h it (lo + (i : Nat) * 1) ((n : Int) - (i : Nat)) 1) where
  mem := by simp
  obj := fun i h st b hb => by
    have e : b = it := by simpa using hb
    subst e
    exact ⟨_, st, fun v z => by
      have z' : Data.fields _ = Data.cell v := z
      cases z'⟩
  keep := fun i h h' st k => k it (by simp) _ st
  item := by
    intro X hP hw hK hc i pins s σ H E I hf st hg
    subst hP hw hK
    obtain ⟨f0, f1, f2, f3, f4, f5⟩ := hf it (by simp)
    have W := Walks.range (prog := X.prog) (w := X.w) (I.ok.hd hc) it lo 1 n
    refine W.item i s _ _ hg st fun v h' tk hv st' kk => ?_
    obtain ⟨t, rfl⟩ := hv
    have I1 : Inv X pins σ H { s with heap := h', toks := tk } := I.turned (fun b o hb e => kk b o (by simpa using hb) e) f0 f1 f3 f4 f5
    refine ⟨_, rfl, go_of (s := { s with heap := h', toks := tk }) (n := "range_iterator") st' rfl rfl (by decide) ⟨.int (lo + i), H, I1, ⟨t, ?_⟩, ⟨rfl, rfl⟩, st', fun b hb => (hf b hb).1⟩⟩
    rw [Int.mul_one]
  done := by
    intro X hP hw hK hc i pins s σ H E I hf st hg
    subst hP hw hK
    obtain ⟨f0, f1, f2, f3, f4, f5⟩ := hf it (by simp)
    exact wpAny_pyNext_range_end (I.ok.hd hc) st (by have : n ≤ i := hg; omega) fun h' eb => ⟨rfl, I.turned (t' := s.toks) (fun b o hb e => eb b o hb e) f0 f1 f3 f4 f5⟩
  self := fun _ _ _ _ _ st h => wpAny_pyIter_rangeiter st h
end L2
namespace L2
open PySem PySem.Spec PyProof.Rows
section
variable {X : Cx} {tg : Expr}
def iList (K : PySem.W.Frag) (tl : TE) : TI := fun σ H R => tl σ H fun x H1 => ∃ a, x = .ref a ∧ (∃ xs, SqL K H1 a xs) ∧ R (Itl K a) H1
theorem pi_list {l : Expr} {tl : TE} (hl : PE X l tl) : PI X tg l (iList X.K tl) := by
  intro pins s σ H R I h
  refine thn (hl pins s σ H _ I h) fun v s1 ⟨x, H1, I1, r1, q1⟩ => ?_
  obtain ⟨a, e, ⟨xs, hq⟩, q⟩ := q1
  subst e
  cases r1
  obtain ⟨its, rv, p, hz⟩ := I1.list hq
  refine wpAny_pyIter_list p.isList ?_
  refine ⟨s1.heap.objs.size, [s1.heap.objs.size], _, _, H1, rfl, I1.kept (t' := s1.toks) fun b o e => Heap.get?_push_of_some _ e, turn_list a _, ⟨_, Heap.get?_push_size _ rfl, rfl, rfl⟩, fun b hb => ?_, q⟩
  have e : b = s1.heap.objs.size := by simpa using hb
  subst e
  exact I1.fpOk (Nat.le_refl _) (I1.hok.fresh (Nat.le_refl _))
theorem range_it {pins : List (Addr × Obj)} {σ : St} {H : Hp} {s : Shared} {R : It → Hp → Prop} {E : Value → Shared → Prop} {lo hi : Int} {t u v : Tok} {tk : Nat} (I : Inv X pins σ H s) (h1 : -(2 ^ 62) ≤ lo) (h2 : lo < 2 ^ 62) (h3 : -(2 ^ 62) ≤ hi) (h4 : hi < 2 ^ 62)
    (q : R (Itr lo (hi - lo).toNat) H) : wpAny (model X.prog X.w) X.A (pyIter (.ref s.heap.objs.size)) (PIE X pins σ tg R) E { s with heap := s.heap.push { cls := .type "range", data := .fields #[.int lo t, .int hi u, .int 1 v] }, toks := tk } := by
  refine wpAny_pyIter_range (IsRange.new ..) (small_one h1 h2 h3 h4) ?_
  have I1 : Inv X pins σ H { s with heap := s.heap.push { cls := .type "range", data := .fields #[.int lo t, .int hi u, .int 1 v] }, toks := tk } := I.kept fun b o e => Heap.get?_push_of_some _ e
  refine ⟨(s.heap.push { cls := .type "range", data := .fields #[.int lo t, .int hi u, .int 1 v] }).objs.size, [(s.heap.push { cls := .type "range", data := .fields #[.int lo t, .int hi u, .int 1 v] }).objs.size], _, _, H, rfl,
    I1.kept (t' := tk) fun b o e => Heap.get?_push_of_some _ e, turn_range _ lo (hi - lo).toNat, ?_, fun b hb => ?_, q⟩
  · have e1 : lo + ((0 : Nat) : Int) * 1 = lo := by simp
    have e2 : (((hi - lo).toNat : Nat) : Int) - ((0 : Nat) : Int) = Builtin.Range.rangeSize lo hi 1 := by rw [rangeSize_one]; split <;> omega
    show IsRangeIter _ _ (lo + ((0 : Nat) : Int) * 1) ((((hi - lo).toNat : Nat) : Int) - ((0 : Nat) : Int)) 1
    rw [e1, e2]
    exact Heap.get?_push_size _ rfl
  · have e : b = (s.heap.push { cls := .type "range", data := .fields #[.int lo t, .int hi u, .int 1 v] }).objs.size := by simpa using hb
    subst e
    exact I1.fpOk (Nat.le_refl _) (I1.hok.fresh (Nat.le_refl _))
def iRng2 (ta : TA) : TI := fun σ H R => ta σ H fun vs H1 => ∃ i j : Int, vs = [.int i, .int j] ∧ (-(2 ^ 62) ≤ i ∧ i < 2 ^ 62 ∧ -(2 ^ 62) ≤ j ∧ j < 2 ^ 62) ∧ R (Itr i (j - i).toNat) H1
theorem pi_range2 {a b : Expr} {ta : TA} {p pos : Pos} (hg : Gl X "range") (hm : X.mg "range" = none) (ha : PA X [a, b] ta) (hs : starEach [a, b] X.env = [(false, eval a X.env), (false, eval b X.env)] := by rfl) (hs2 : starEach [b] X.env = [(false, eval b X.env)] := by rfl) :
    PI X tg (.Call (.Name "range" p) [a, b] [] pos) (iRng2 ta) := by
  intro pins s σ H R I h
  refine Call_ (ld_blt I hg hm boot_range (PyProof.Rows.callWith_type1 (thn (ha pos pins s σ H _ I h) fun us s1 ⟨vs, H1, I1, r1, q1⟩ => ?_) (by rw [hs, hs2]) (by rw [hs2]; rfl)))
  obtain ⟨i, j, e, ⟨q1, q2, q3, q4⟩, q⟩ := q1
  subst e
  cases r1 with
  | cons r rr =>
    cases rr with
    | cons r' rr =>
      cases rr
      obtain ⟨t, rfl⟩ := r
      obtain ⟨t', rfl⟩ := r'
      exact call_range_2 (range_it I1 q1 q2 q3 q4 q)
def tFor (wi : TI) (g : TG) (tb : TS) : TS := fun D σ H => wi σ H fun J H1 => ∃ W : Nat → Nat → St → Hp → Prop, (∃ m, W 0 m σ H1) ∧ ∀ i m σ H, W i m σ H →
  (J.stop i H ∧ D.nx σ H) ∨ (J.go i H ∧ ∃ N : St → Hp → Prop, (∀ σ' H', N σ' H' → ∃ m', m' < m ∧ W (i + 1) m' σ' H') ∧ ∀ x H', J.yld i H x H' → g x σ H' fun σ2 H2 => tb { D with nx := N, ct := N, bk := D.nx } σ2 H2)
def pinsAt (fp : List Addr) (h : Heap) : List (Addr × Obj) := fp.filterMap fun b => (h.get? b).map fun o => (b, o)
theorem mem_pinsAt {fp : List Addr} {h : Heap} {b : Addr} {o : Obj} (hb : b ∈ fp) (e : h.get? b = some o) : (b, o) ∈ pinsAt fp h := List.mem_filterMap.mpr ⟨b, hb, by rw [e]; rfl⟩
theorem of_pinsAt {fp : List Addr} {h : Heap} {p : Addr × Obj} (hp : p ∈ pinsAt fp h) : p.1 ∈ fp ∧ h.get? p.1 = some p.2 := by
  obtain ⟨b, hb, e⟩ := List.mem_filterMap.mp hp
  cases q : h.get? b with
  | none => rw [q] at e; cases e
  | some o =>
    rw [q] at e
    have e' : (b, o) = p := Option.some.inj e
    subst e'
    exact ⟨hb, q⟩
theorem Inv.pinned {pins : List (Addr × Obj)} {σ : St} {H : Hp} {s : Shared} {fp : List Addr} (I : Inv X pins σ H s) (hf : ∀ b ∈ fp, FpOk X pins H b) (ho : ∀ b ∈ fp, ∃ o, s.heap.get? b = some o ∧ ∀ v, o.data ≠ .cell v) : Inv X (pins ++ pinsAt fp s.heap) σ H s :=
  I.pins_of fun p hp => (List.mem_append.mp hp).elim (fun z => I.pin p (List.mem_append_right _ z)) fun z => by
    obtain ⟨hb, e⟩ := of_pinsAt z
    obtain ⟨f0, f1, f2, _⟩ := hf p.1 hb
    obtain ⟨o, e', d⟩ := ho p.1 hb
    rw [e] at e'; cases e'
    exact ⟨e, f0, f1, f2, d⟩
theorem Inv.unpinned {pins pl : List (Addr × Obj)} {σ : St} {H : Hp} {s : Shared} (I : Inv X (pins ++ pl) σ H s) : Inv X pins σ H s := I.pins_of fun p hp => I.pin p (List.mem_append_right _ (List.mem_append_left _ hp))
theorem ps_for {iter : Expr} {body : List Stmt} {wi : TI} {g : TG} {tb : TS} {pos : Pos} (hp : PassesOwn (model X.prog X.w) X.A X.env X.xe) (hc : X.calm = true) (hi : PI X tg iter wi) (hg : PG X tg g) (hb : PSs X body tb)
    (hs : ∀ x, foldedSetIterable iter X.env x = pure x := by intro _; rfl) : PS X (.For tg iter body [] pos) (tFor wi g tb) := by
  intro pins s σ H D I h
  refine wpAny_For (thn (hi pins s σ H _ I h) fun v s1 h1 => thn h1 fun itv s2 h2 => ?_) hs
  obtain ⟨it, fp, tn, J, H2, e, I2, T, st2, f2, W, ⟨m0, w0⟩, turn⟩ := h2
  subst e
  have stat : ∀ {H' : Hp}, (∀ b ∈ fp, H' b = none) → ∀ b ∈ fp, FpOk X pins H' b := fun hn b hb => ⟨hn b hb, (f2 b hb).2⟩
  refine codeAny_forLoop_any (fun n s' => ∃ i σ' H', Inv X pins σ' H' s' ∧ tn i s'.heap ∧ (∀ b ∈ fp, H' b = none) ∧ W i n σ' H') ?_ m0 ⟨0, σ, H2, I2, st2, fun b hb => (f2 b hb).1, w0⟩
  rintro n s3 ⟨i, σ3, H3, I3, st3, fr3, w3⟩
  rcases turn i n σ3 H3 w3 with ⟨stop, qn⟩ | ⟨go, N, hN, step⟩
  · refine wpAny_passesOwn hp (thn (T.done X rfl rfl rfl hc i pins s3 σ3 H3 X.xe I3 (stat fr3) st3 stop) fun r s4 ⟨hr, I4⟩ => ?_)
    subst hr
    exact wpAny_execs_nil ⟨σ3, H3, I4, qn⟩
  · refine wpAny_passesOwn hp (thn (T.item X rfl rfl rfl hc i pins s3 σ3 H3 X.xe I3 (stat fr3) st3 go) fun r s4 ⟨u, hr, h4⟩ => ?_)
    subst hr
    refine wpAny_passesOwn hp (thn h4 fun _ s5 ⟨x, H5, I5, r5, y5, st5, fr5⟩ => ?_)
    have I5' := I5.pinned (stat fr5) (T.obj _ _ st5)
    refine wpAny_passesOwn hp (thn (hg _ s5 σ3 H5 x u _ I5' r5 (step x H5 y5)) fun _ s6 ⟨σ6, H6, I6, q6⟩ => ?_)
    refine wpAny_passesOwn hp (thn (hb _ s6 σ6 H6 _ I6 q6) fun f s7 q7 => ?_)
    have again : ∀ {σ7 : St} {H7 : Hp}, Inv X (pins ++ pinsAt fp s5.heap) σ7 H7 s7 → N σ7 H7 → ∃ m, m < n ∧ ∃ i σ' H', Inv X pins σ' H' s7 ∧ tn i s7.heap ∧ (∀ b ∈ fp, H' b = none) ∧ W i m σ' H' := fun {σ7 H7} I7 n7 => by
      obtain ⟨m', hm, w7⟩ := hN σ7 H7 n7
      refine ⟨m', hm, i + 1, σ7, H7, I7.unpinned, T.keep _ _ _ st5 fun b hb o e => (I7.pin (b, o) (List.mem_append_right _ (List.mem_append_right _ (mem_pinsAt hb e)))).1, fun b hb => ?_, w7⟩
      obtain ⟨o, e, d⟩ := T.obj _ _ st5 b hb
      exact (I7.pin (b, o) (List.mem_append_right _ (List.mem_append_right _ (mem_pinsAt hb e)))).2.1
    cases f with
    | next => obtain ⟨σ7, H7, I7, n7⟩ := q7; exact again I7 n7
    | cont => obtain ⟨σ7, H7, I7, n7⟩ := q7; exact again I7 n7
    | brk => obtain ⟨σ7, H7, I7, q7⟩ := q7; exact ⟨σ7, H7, I7.unpinned, q7⟩
    | ret v => obtain ⟨x7, σ7, H7, I7, r7, q7⟩ := q7; exact ⟨x7, σ7, H7, I7.unpinned, r7, q7⟩
end
theorem for_list {K : PySem.W.Frag} {a : Addr} {xs : List V} {g : TG} {tb : TS} {D : Ends} {σ : St} {H : Hp} (Pv : Nat → St → Hp → Prop) (h0 : Pv 0 σ H) (hl : ∀ i σ H, i ≤ xs.length → Pv i σ H → SqL K H a xs)
    (hs : ∀ i x σ H, xs[i]? = some x → Pv i σ H → g x σ H fun σ2 H2 => tb { D with nx := Pv (i + 1), ct := Pv (i + 1), bk := D.nx } σ2 H2) (hd : ∀ σ H, Pv xs.length σ H → D.nx σ H) :
    ∃ W : Nat → Nat → St → Hp → Prop, (∃ m, W 0 m σ H) ∧ ∀ i m σ H, W i m σ H →
      ((Itl K a).stop i H ∧ D.nx σ H) ∨ ((Itl K a).go i H ∧ ∃ N : St → Hp → Prop, (∀ σ' H', N σ' H' → ∃ m', m' < m ∧ W (i + 1) m' σ' H') ∧ ∀ x H', (Itl K a).yld i H x H' → g x σ H' fun σ2 H2 => tb { D with nx := N, ct := N, bk := D.nx } σ2 H2) := by
  refine ⟨fun i m σ H => m = xs.length - i ∧ i ≤ xs.length ∧ Pv i σ H, ⟨xs.length, by simp, Nat.zero_le _, h0⟩, ?_⟩
  rintro i m σ H ⟨rfl, hi, p⟩
  have q := hl i σ H hi p
  by_cases hlt : i < xs.length
  · refine .inr ⟨⟨xs, xs[i], q, by simp [hlt]⟩, Pv (i + 1), fun σ' H' p' => ⟨xs.length - (i + 1), by omega, rfl, hlt, p'⟩, fun x H' y => ?_⟩
    obtain ⟨e, y⟩ := y
    subst e
    exact hs i x σ _ (y xs q) p
  · have e : i = xs.length := by omega
    subst e
    exact .inl ⟨⟨xs, q, Nat.le_refl _⟩, hd σ H p⟩
theorem for_range {lo : Int} {n : Nat} {g : TG} {tb : TS} {D : Ends} {σ : St} {H : Hp} (Pv : Nat → St → Hp → Prop) (h0 : Pv 0 σ H)
    (hs : ∀ i σ H, i < n → Pv i σ H → g (.int (lo + i)) σ H fun σ2 H2 => tb { D with nx := Pv (i + 1), ct := Pv (i + 1), bk := D.nx } σ2 H2) (hd : ∀ σ H, Pv n σ H → D.nx σ H) :
    ∃ W : Nat → Nat → St → Hp → Prop, (∃ m, W 0 m σ H) ∧ ∀ i m σ H, W i m σ H →
      ((Itr lo n).stop i H ∧ D.nx σ H) ∨ ((Itr lo n).go i H ∧ ∃ N : St → Hp → Prop, (∀ σ' H', N σ' H' → ∃ m', m' < m ∧ W (i + 1) m' σ' H') ∧ ∀ x H', (Itr lo n).yld i H x H' → g x σ H' fun σ2 H2 => tb { D with nx := N, ct := N, bk := D.nx } σ2 H2) := by
  refine ⟨fun i m σ H => m = n - i ∧ i ≤ n ∧ Pv i σ H, ⟨n, by simp, Nat.zero_le _, h0⟩, ?_⟩
  rintro i m σ H ⟨rfl, hi, p⟩
  by_cases hlt : i < n
  · refine .inr ⟨hlt, Pv (i + 1), fun σ' H' p' => ⟨n - (i + 1), by omega, rfl, hlt, p'⟩, fun x H' y => ?_⟩
    obtain ⟨e, y⟩ := y
    subst e y
    exact hs i σ _ hlt p
  · have e : i = n := by omega
    subst e
    exact .inl ⟨Nat.le_refl _, hd σ H p⟩
end L2
namespace L2
open PySem PySem.Spec PyProof.Rows
abbrev R2 := V → V → Hp → VK → Prop
def OpR (X : Cx) (f : Value → Value → Sem Value) (r : R2) : Prop :=
  ∀ (pins : List (Addr × Obj)) (s : Shared) (σ : St) (H : Hp) (x y : V) (v u : Value) (Q : VK), Inv X pins σ H s → RelV x v → RelV y u → r x y H Q →
    wpAny (model X.prog X.w) X.A (f v u) (EP X pins σ Q) X.xe s
def UnR (X : Cx) (f : Value → Sem Value) (r : V → Hp → VK → Prop) : Prop :=
  ∀ (pins : List (Addr × Obj)) (s : Shared) (σ : St) (H : Hp) (x : V) (v : Value) (Q : VK), Inv X pins σ H s → RelV x v → r x H Q →
    wpAny (model X.prog X.w) X.A (f v) (EP X pins σ Q) X.xe s
def CallR (X : Cx) (f : Value) (r : List V → Hp → VK → Prop) : Prop :=
  ∀ (pins : List (Addr × Obj)) (s : Shared) (σ : St) (H : Hp) (xs : List V) (us : List Value) (Q : VK), Inv X pins σ H s → Vals xs us → r xs H Q →
    wpAny (model X.prog X.w) X.A (call f us) (EP X pins σ Q) X.xe s
def tOp (r : R2) (ta tb : TE) : TE := fun σ H Q => ta σ H fun x H1 => tb σ H1 fun y H2 => r x y H2 Q
def tUn (r : V → Hp → VK → Prop) (ta : TE) : TE := fun σ H Q => ta σ H fun x H1 => r x H1 Q
def rI (C : Int → Int → Prop) (g : Int → Int → V) : R2 := fun x y H Q => ∃ i j, x = .int i ∧ y = .int j ∧ C i j ∧ Q (g i j) H
def rI0 (g : Int → Int → V) : R2 := fun x y H Q => ∃ i j, x = .int i ∧ y = .int j ∧ Q (g i j) H
def rU (g : Int → V) : V → Hp → VK → Prop := fun x H Q => ∃ i, x = .int i ∧ Q (g i) H
section
variable {X : Cx} {a b c : Expr} {ta tb tc : TE} {pos : Pos}
theorem binT (ha : PE X a ta) (hb : PE X b tb) {pins : List (Addr × Obj)} {s : Shared} {σ : St} {H : Hp} {R : V → V → Hp → Prop} (I : Inv X pins σ H s)
    (h : ta σ H fun x H1 => tb σ H1 fun y H2 => R x y H2) {Q : Value → Shared → Prop} {f : Value → Value → Sem Value}
    (hf : ∀ v u s2 x y H2, Inv X pins σ H2 s2 → RelV x v → RelV y u → R x y H2 → wpAny (model X.prog X.w) X.A (f v u) Q X.xe s2) :
    wpAny (model X.prog X.w) X.A (eval a X.env) (fun v s₁ => wpAny (model X.prog X.w) X.A (eval b X.env) (fun u s₂ => wpAny (model X.prog X.w) X.A (f v u) Q X.xe s₂) X.xe s₁) X.xe s := by
  refine thn (ha pins s σ H _ I h) fun v s1 ⟨x, H1, I1, r1, q1⟩ => ?_
  refine thn (hb pins s1 σ H1 _ I1 q1) fun u s2 ⟨y, H2, I2, r2, q2⟩ => ?_
  exact hf v u s2 x y H2 I2 r1 r2 q2
theorem pe_op {op : Operator} {r : R2} (ho : OpR X (binaryOp op) r) (ha : PE X a ta) (hb : PE X b tb) : PE X (.BinOp a op b pos) (tOp r ta tb) := by
  intro pins s σ H Q I h
  exact wpAny_BinOp (binT ha hb I h fun v u s2 x y H2 I2 rx ry q => ho pins s2 σ H2 x y v u Q I2 rx ry q)
theorem pe_un {op : UnaryOp} {r : V → Hp → VK → Prop} (ho : UnR X (unaryOp op) r) (ha : PE X a ta) : PE X (.UnaryOp op a pos) (tUn r ta) := by
  intro pins s σ H Q I h
  exact UnaryOp_ (thn (ha pins s σ H _ I h) fun v s1 ⟨x, H1, I1, r1, q1⟩ => ho pins s1 σ H1 x v Q I1 r1 q1)
theorem opI {f : Value → Value → Sem Value} {C : Int → Int → Prop} {g : Int → Int → Int}
    (rule : ∀ (i j : Int) (t u : Tok) (s : Shared) (Q : Value → Shared → Prop) (E : Value → Shared → Prop), C i j → Q (.int (g i j) s.toks) { s with toks := s.toks + 1 } → wpAny (model X.prog X.w) X.A (f (.int i t) (.int j u)) Q E s) :
    OpR X f (rI C fun i j => .int (g i j)) := by
  intro pins s σ H x y v u Q I rx ry h
  obtain ⟨i, j, rfl, rfl, hc, q⟩ := h
  obtain ⟨t, rfl⟩ := rx
  obtain ⟨t', rfl⟩ := ry
  exact rule i j t t' s _ _ hc ⟨.int (g i j), H, I.tok _, ⟨_, rfl⟩, q⟩
theorem opI0 {f : Value → Value → Sem Value} {g : Int → Int → Int}
    (rule : ∀ (i j : Int) (t u : Tok) (s : Shared) (Q : Value → Shared → Prop) (E : Value → Shared → Prop), Q (.int (g i j) s.toks) { s with toks := s.toks + 1 } → wpAny (model X.prog X.w) X.A (f (.int i t) (.int j u)) Q E s) :
    OpR X f (rI0 fun i j => .int (g i j)) := by
  intro pins s σ H x y v u Q I rx ry h
  obtain ⟨i, j, rfl, rfl, q⟩ := h
  obtain ⟨t, rfl⟩ := rx
  obtain ⟨t', rfl⟩ := ry
  exact rule i j t t' s _ _ ⟨.int (g i j), H, I.tok _, ⟨_, rfl⟩, q⟩
theorem opB0 {f : Value → Value → Sem Value} {g : Int → Int → Bool}
    (rule : ∀ (i j : Int) (t u : Tok) (s : Shared) (Q : Value → Shared → Prop) (E : Value → Shared → Prop), Q (.bool (g i j)) s → wpAny (model X.prog X.w) X.A (f (.int i t) (.int j u)) Q E s) :
    OpR X f (rI0 fun i j => .bl (g i j)) := by
  intro pins s σ H x y v u Q I rx ry h
  obtain ⟨i, j, rfl, rfl, q⟩ := h
  obtain ⟨t, rfl⟩ := rx
  obtain ⟨t', rfl⟩ := ry
  exact rule i j t t' s _ _ ⟨.bl (g i j), H, I, rfl, q⟩
def CDiv (i j : Int) : Prop := 0 < j ∧ j < 1073741824
def CMul (i j : Int) : Prop := (-(2 ^ 64) < i ∧ i < 2 ^ 64) ∨ (-(2 ^ 64) < j ∧ j < 2 ^ 64)
theorem CMul.ok {i j : Int} (h : CMul i j) : IntMulOk i j := by
  rcases h with ⟨h1, h2⟩ | ⟨h1, h2⟩
  · exact .of_left (intBits_le_64 h1 h2)
  · exact .of_right (intBits_le_64 h1 h2)
theorem op_add : OpR X (binaryOp .Add) (rI0 fun i j => .int (i + j)) := opI0 fun _ _ _ _ _ _ _ q => add_int q
theorem op_sub : OpR X (binaryOp .Sub) (rI0 fun i j => .int (i - j)) := opI0 fun _ _ _ _ _ _ _ q => sub_int q
theorem op_mul : OpR X (binaryOp .Mult) (rI CMul fun i j => .int (i * j)) := opI fun _ _ _ _ _ _ _ hc q => mul_int q hc.ok
theorem op_fdiv : OpR X (binaryOp .FloorDiv) (rI CDiv fun i j => .int (i / j)) := opI fun i j _ _ _ _ _ hc q => by
  have h1 : (0 : Int) < j := hc.1
  have h2 : j < 1073741824 := hc.2
  exact floordiv_int (by omega) (by rw [Int.fdiv_eq_ediv_of_nonneg i (by omega)]; exact q) (.inl (PyProof.noPylong_small (by omega)))
theorem op_mod : OpR X (binaryOp .Mod) (rI (fun _ j => 0 < j) fun i j => .int (i % j)) := opI fun i j _ _ _ _ _ hc q => by
  have h1 : (0 : Int) < j := hc
  exact mod_int' (by omega) (by rw [Int.fmod_eq_emod_of_nonneg i (by omega)]; exact q)
theorem unI {f : Value → Sem Value} {g : Int → Int}
    (rule : ∀ (i : Int) (t : Tok) (s : Shared) (Q : Value → Shared → Prop) (E : Value → Shared → Prop), Q (.int (g i) s.toks) { s with toks := s.toks + 1 } → wpAny (model X.prog X.w) X.A (f (.int i t)) Q E s) :
    UnR X f (rU fun i => .int (g i)) := by
  intro pins s σ H x v Q I rx h
  obtain ⟨i, rfl, q⟩ := h
  obtain ⟨t, rfl⟩ := rx
  exact rule i t s _ _ ⟨.int (g i), H, I.tok _, ⟨_, rfl⟩, q⟩
theorem un_neg : UnR X (unaryOp .USub) (rU fun i => .int (-i)) := unI fun _ _ _ _ _ q => neg_int q
end
def scal : V → V → Bool
  | .non, .non => true | .non, .int _ => true | .int _, .non => true | .non, .bl _ => true | .bl _, .non => true | .non, .str _ => true | .str _, .non => true
  | .int _, .int _ => true | .bl _, .bl _ => true | .str _, .str _ => true | .byt _, .byt _ => true
  | .int _, .str _ => true | .str _, .int _ => true | .bl _, .str _ => true | .str _, .bl _ => true
  | _, _ => false
def rEq : R2 := fun x y H Q => scal x y = true ∧ Q (.bl (decide (x = y))) H
theorem dec_int {i j : Int} : decide (V.int i = V.int j) = (i == j) := by
  rw [Bool.eq_iff_iff]
  simp
theorem dec_bl {i j : Bool} : decide (V.bl i = V.bl j) = (i == j) := by
  rw [Bool.eq_iff_iff]
  simp
theorem dec_str {i j : Str} : decide (V.str i = V.str j) = (i == j) := by
  rw [Bool.eq_iff_iff]
  simp
theorem dec_byt {i j : Array UInt8} : decide (V.byt i = V.byt j) = (i.toList == j.toList) := by
  rw [Bool.eq_iff_iff]
  cases i
  cases j
  simp
section
variable {X : Cx} {a b c : Expr} {ta tb tc : TE} {pos : Pos}
theorem fin_bl {pins : List (Addr × Obj)} {σ : St} {H : Hp} {s : Shared} {Q : VK} {k k' : Bool} (I : Inv X pins σ H s) (q : Q (.bl k) H) (e : k = k') : EP X pins σ Q (.bool k') s := by
  subst e
  exact ⟨.bl k, H, I, rfl, q⟩
theorem op_eq : OpR X (compareOp .Eq) rEq := by
  intro pins s σ H x y v u Q I rx ry h
  obtain ⟨hs, q⟩ := h
  cases x with
  | non =>
    cases rx
    cases y with
    | non => cases ry; exact PySem.EqNone.eq_none_none (fin_bl I q (by simp))
    | bl j => cases ry; exact PySem.EqNone.eq_none_bool (fin_bl I q (by simp))
    | int j => obtain ⟨t', rfl⟩ := ry; exact PySem.EqNone.eq_none_int (fin_bl I q (by simp))
    | str j => obtain ⟨t', rfl⟩ := ry; exact PySem.EqNone.eq_none_str (fin_bl I q (by simp))
    | _ => exact absurd (show false = true from hs) Bool.false_ne_true
  | bl i =>
    cases rx
    cases y with
    | non => cases ry; exact PySem.EqNone.eq_bool_none (fin_bl I q (by simp))
    | bl j => cases ry; exact eq_bool (fin_bl I q dec_bl)
    | str j => obtain ⟨t', rfl⟩ := ry; exact PySem.EqMixed.eq_bool_str (fin_bl I q (by simp))
    | _ => exact absurd (show false = true from hs) Bool.false_ne_true
  | int i =>
    obtain ⟨t, rfl⟩ := rx
    cases y with
    | non => cases ry; exact PySem.EqNone.eq_int_none (fin_bl I q (by simp))
    | int j => obtain ⟨t', rfl⟩ := ry; exact eq_int (fin_bl I q dec_int)
    | str j => obtain ⟨t', rfl⟩ := ry; exact PySem.EqMixed.eq_int_str (fin_bl I q (by simp))
    | _ => exact absurd (show false = true from hs) Bool.false_ne_true
  | str i =>
    obtain ⟨t, rfl⟩ := rx
    cases y with
    | non => cases ry; exact PySem.EqNone.eq_str_none (fin_bl I q (by simp))
    | bl j => cases ry; exact PySem.EqMixed.eq_str_bool (fin_bl I q (by simp))
    | int j => obtain ⟨t', rfl⟩ := ry; exact PySem.EqMixed.eq_str_int (fin_bl I q (by simp))
    | str j => obtain ⟨t', rfl⟩ := ry; exact eq_str (fin_bl I q dec_str)
    | _ => exact absurd (show false = true from hs) Bool.false_ne_true
  | byt i =>
    obtain ⟨t, rfl⟩ := rx
    cases y with
    | byt j => obtain ⟨t', rfl⟩ := ry; exact PySem.W.eq_bytes (fin_bl I q dec_byt)
    | _ => exact absurd (show false = true from hs) Bool.false_ne_true
  | _ => cases y <;> exact absurd (show false = true from hs) Bool.false_ne_true
theorem op_lt : OpR X (compareOp .Lt) (rI0 fun i j => .bl (decide (i < j))) := opB0 fun _ _ _ _ _ _ _ q => lt_int q
theorem op_le : OpR X (compareOp .LtE) (rI0 fun i j => .bl (decide (i ≤ j))) := opB0 fun _ _ _ _ _ _ _ q => le_int q
theorem op_gt : OpR X (compareOp .Gt) (rI0 fun i j => .bl (decide (j < i))) := opB0 fun _ _ _ _ _ _ _ q => gt_int q
theorem op_ge : OpR X (compareOp .GtE) (rI0 fun i j => .bl (decide (j ≤ i))) := opB0 fun _ _ _ _ _ _ _ q => ge_int q
theorem nomark (b : Expr) {op : CmpOp} (h : op ≠ .In := by decide) (h2 : op ≠ .NotIn := by decide) : behindInMarks op b = false := by
  have e1 : (op == CmpOp.In) = false := by cases op <;> first | rfl | exact absurd rfl h
  have e2 : (op == CmpOp.NotIn) = false := by cases op <;> first | rfl | exact absurd rfl h2
  cases b <;> simp [behindInMarks, e1, e2]
theorem pe_cmpR {op : CmpOp} {r : R2} (ho : OpR X (compareOp op) r) (ha : PE X a ta) (hb : PE X b tb) (hm : behindInMarks op b = false) : PE X (.Compare a [op] [b] pos) (tOp r ta tb) := by
  intro pins s σ H Q I h
  exact wpAny_Compare1 (binT ha hb I h fun v u s2 x y H2 I2 rx ry q => ho pins s2 σ H2 x y v u Q I2 rx ry q) hm
def tTest (t : TE) : TT := fun σ H Q => t σ H fun x H' => ∃ k, x = .bl k ∧ Q k H'
theorem pt_cmpR {op : CmpOp} {r : R2} (ho : OpR X (compareOp op) r) (ha : PE X a ta) (hb : PE X b tb) (hm : behindInMarks op b = false) : PT X (.Compare a [op] [b] pos) (tTest (tOp r ta tb)) := by
  intro pins s σ H Q I h
  refine wpAny_isTrue_Compare1 (thn (ha pins s σ H _ I h) fun v s1 ⟨x, H1, I1, r1, q1⟩ => thn (hb pins s1 σ H1 _ I1 q1) fun u s2 ⟨y, H2, I2, r2, q2⟩ =>
    thn (ho pins s2 σ H2 x y v u _ I2 r1 r2 q2) fun c s3 ⟨z, H3, I3, r3, k, e, q3⟩ => ?_) hm
  subst e
  cases r3
  exact wpAny_truthy_bool ⟨H3, I3, q3⟩
def tChain (r r' : R2) (ta tb tc : TE) : TE := fun σ H Q => ta σ H fun x H1 => tb σ H1 fun y H2 => r x y H2 fun z H3 => ∃ k, z = .bl k ∧
  (if k = true then tc σ H3 fun w' H4 => r' y w' H4 Q else Q (.bl false) H3)
theorem pe_chain {op op' : CmpOp} {r r' : R2} (ho : OpR X (compareOp op) r) (ho' : OpR X (compareOp op') r') (ha : PE X a ta) (hb : PE X b tb) (hc : PE X c tc)
    (hm : lastMarks [op, op'] [b, c] = false := by with_unfolding_all rfl) : PE X (.Compare a [op, op'] [b, c] pos) (tChain r r' ta tb tc) := by
  intro pins s σ H Q I h
  refine Compare_chain (thn (ha pins s σ H _ I h) fun v s1 ⟨x, H1, I1, r1, q1⟩ => chain_link (thn (hb pins s1 σ H1 _ I1 q1) fun u s2 ⟨y, H2, I2, r2, q2⟩ =>
    thn (ho pins s2 σ H2 x y v u _ I2 r1 r2 q2) fun d s3 ⟨z, H3, I3, r3, k, e, q3⟩ => ?_)) hm
  subst e
  cases r3
  refine wpAny_truthy_bool ?_
  cases k with
  | false => exact ite_ff ⟨.bl false, H3, I3, rfl, q3⟩
  | true => exact ite_tt (chain_last (thn (hc pins s3 σ H3 _ I3 q3) fun w' s4 ⟨z', H4, I4, r4, q4⟩ => ho' pins s4 σ H4 y z' u w' Q I4 r2 r4 q4))
theorem pt_chain {op op' : CmpOp} {r r' : R2} (ho : OpR X (compareOp op) r) (ho' : OpR X (compareOp op') r') (ha : PE X a ta) (hb : PE X b tb) (hc : PE X c tc)
    (hm : lastMarks [op, op'] [b, c] = false := by with_unfolding_all rfl) : PT X (.Compare a [op, op'] [b, c] pos) (tTest (tChain r r' ta tb tc)) := by
  intro pins s σ H Q I h
  refine isTrue_chain (thn (ha pins s σ H _ I h) fun v s1 ⟨x, H1, I1, r1, q1⟩ => test_link (thn (hb pins s1 σ H1 _ I1 q1) fun u s2 ⟨y, H2, I2, r2, q2⟩ =>
    thn (ho pins s2 σ H2 x y v u _ I2 r1 r2 q2) fun d s3 ⟨z, H3, I3, r3, k, e, q3⟩ => ?_)) hm
  subst e
  cases r3
  refine wpAny_truthy_bool ?_
  cases k with
  | false =>
    obtain ⟨k', e', q'⟩ := q3
    cases e'
    exact ite_ff ⟨H3, I3, q'⟩
  | true =>
    refine ite_tt (test_last (thn (hc pins s3 σ H3 _ I3 q3) fun w' s4 ⟨z', H4, I4, r4, q4⟩ => thn (ho' pins s4 σ H4 y z' u w' _ I4 r2 r4 q4) fun d' s5 ⟨z2, H5, I5, r5, k2, e2, q5⟩ => ?_))
    subst e2
    cases r5
    exact wpAny_truthy_bool ⟨H5, I5, q5⟩
theorem line63 : (sizeLine : Nat) < 2 ^ 63 := by rw [sizeLine_eq]; decide
theorem vals1 {x : V} {us : List Value} (r : Vals [x] us) : ∃ u, us = [u] ∧ RelV x u := by
  cases r with
  | cons r1 r2 => cases r2; exact ⟨_, rfl, r1⟩
theorem vals2 {x y : V} {us : List Value} (r : Vals [x, y] us) : ∃ u w', us = [u, w'] ∧ RelV x u ∧ RelV y w' := by
  cases r with
  | cons r1 r2 =>
    cases r2 with
    | cons r3 r4 => cases r4; exact ⟨_, _, rfl, r1, r3⟩
theorem call_min2 (hc : X.calm = true) : CallR X (.builtin "min") (fun xs H Q => ∃ i j, xs = [.int i, .int j] ∧ Q (.int (if j < i then j else i)) H) := by
  intro pins s σ H xs us Q I r h
  obtain ⟨i, j, rfl, q⟩ := h
  obtain ⟨u, w', rfl, ⟨t, rfl⟩, ⟨t', rfl⟩⟩ := vals2 r
  refine min_two_ints (I.ok.hd hc) fun h' tk k => ⟨_, H, I.kept k, ?_, q⟩
  by_cases hj : j < i
  · rw [if_pos hj, if_pos hj]; exact ⟨_, rfl⟩
  · rw [if_neg hj, if_neg hj]; exact ⟨_, rfl⟩
end
end L2
namespace L2
open PySem PySem.Spec PyProof.Rows
structure ObjM (h : Heap) (x dx C : Addr) (mA : Str → Option Value) : Prop where
  obj : h.get? x = some (PySem.W.instObj C dx)
  ns : h.Ns1 dx mA
  ne : dx ≠ x
theorem lookIn_ns {h : Heap} {dx : Addr} {mA : Str → Option Value} (n : h.Ns1 dx mA) : ∃ od, h.get? dx = some od ∧ ∀ name, PySem.W.lookIn name od = some (mA name) := by
  obtain ⟨o, es, ep, ho, hd, hk, _, hm⟩ := n
  refine ⟨o, ho, fun name => ?_⟩
  have e := hm name
  unfold nsFind findBy at e
  rw [← Array.find?_toList] at e
  unfold PySem.W.lookIn
  rw [hd]
  dsimp only
  split
  · rename_i y q
    rw [q] at e
    exact congrArg some e
  · rename_i q
    rw [q] at e
    have a : es.toList.any (·.refKey) = false := by
      rw [List.any_eq_false]
      intro y hy
      obtain ⟨z, t, hkey⟩ := hk y (Array.mem_toList_iff.mp hy)
      simp [DictEntry.refKey, hkey]
    have a' : ¬ es.toList.any (·.refKey) = true := by rw [a]; exact Bool.false_ne_true
    rw [if_neg a']
    exact congrArg some e
theorem ObjM.look {h : Heap} {x dx C : Addr} {mA : Str → Option Value} (I : ObjM h x dx C mA) : ∃ od, PySem.W.InstAt h x (PySem.W.instObj C dx) C (some od) ∧ ∀ name, PySem.W.lookIn name od = some (mA name) :=
  let ⟨od, ho, hl⟩ := lookIn_ns I.ns
  ⟨od, ⟨I.obj, rfl, rfl, ho⟩, hl⟩
section
variable {prog : Program} {w : World} {A : Around} {E : Value → Shared → Prop} {s : Shared} {K : PySem.W.Frag} {x dx C f : Addr} {mA : Str → Option Value} {name : Str} {v : Value}
theorem get_map {expr : Bool} {Q : Value → Shared → Prop} (X : K.In s.heap) (I : ObjM s.heap x dx C mA) (hg : PySem.W.plainGet K C name = true) (hh : PySem.W.hasDictIn K C = true)
    (ha : PySem.W.findIn K (.ref C) name = some none) (hv : mA name = some v) (hv' : PySem.W.handedIn v = true) (h : Q v { s with toks := s.toks + 1 }) :
    wpAny (model prog w) A (getAttr (.ref x) name expr) Q E s := by
  obtain ⟨od, J, hl⟩ := I.look
  exact PySem.W.get_value X J (PySem.W.plainGet_of hg).1 (PySem.W.findObj_own hh ha rfl (by rw [hl, hv])) hv' h
theorem get_meth {pl : Sem Bool} {Q : Value × List Value → Shared → Prop} (X : K.In s.heap) (I : ObjM s.heap x dx C mA) (hg : PySem.W.plainGet K C name = true)
    (hf : PySem.W.findIn K (.ref C) name = some (some (.ref f))) (ht : PySem.W.isFn K (.ref f) = true) (hv : mA name = none) (h : Q (.ref f, [.ref x]) s) :
    wpAny (model prog w) A (getMethod (.ref x) name pl) Q E s := by
  obtain ⟨od, J, hl⟩ := I.look
  exact PySem.W.method_fn X J (PySem.W.plainGet_of hg).1 (PySem.W.plainGet_of hg).2 hf (beq_iff_eq.mp ht) (by show (PySem.W.lookIn name od).map (·.isSome) = some false; rw [hl, hv]; rfl) h
theorem set_map {ns : List Str} {Q : Unit → Shared → Prop} (X : K.In s.heap) (I : ObjM s.heap x dx C mA)
    (hs : PySem.W.findIn K (.ref C) "__setattr__" = some (some (.builtin "object.__setattr__"))) (hp : PySem.W.plainOver K C = true) (ht : PySem.W.takerIn K C name = some none) (hh : PySem.W.hasDictIn K C = true)
    (hw : PySem.Within mA ns) (hsz : ns.length ≤ sizeLine)
    (h : ∀ h', ObjM h' x dx C (fun y => if y = name then some v else mA y) → Heap.SameBut dx s.heap h' → Q () { s with heap := h', toks := s.toks + 2 }) :
    wpAny (model prog w) A (setAttr (.ref x) name v) Q E s := by
  obtain ⟨od, J, hl⟩ := I.look
  refine PySem.W.set_plain X J hs (PySem.W.osa_open (s := { s with toks := s.toks + 1 }) (r := none) X J hp ht fun b => ?_)
  obtain ⟨cd, hc, hd'⟩ := PySem.W.any_some hh
  have hx : s.heap.get? x = some ⟨.ref C, some dx, .plain, #[]⟩ := I.obj
  refine wpAny_bind (wpAny_pure (wpAny_bind (wpAny_bind (wpAny_loadPart hx (wpAny_bind (PySem.W.Looks.here (s := { s with toks := s.toks + 1 }) (PySem.W.looks_clsIn X hc) ?_))))))
  rw [hd']
  refine wpAny_pure (a := some dx) (wpAny_bind (wpAny_pure (wpAny_bind ?_)))
  refine wpAny_nsSet1 (s := { s with toks := s.toks + 1 }) I.ns fun h' hn2 hs2 => ?_
  obtain ⟨oD, esD, epD, hoD, hdD, hcD⟩ := hn2.count (PySem.Within.cons name v hw)
  refine wpAny_bind (wpAny_lookBehind hoD (by rw [hdD]; exact pastItsLine_dict (Nat.le_trans hcD (by rw [List.length_cons]; omega))) ?_)
  exact wpAny_pure (h _ ⟨(hs2.2 _ (Ne.symm I.ne)).trans I.obj, hn2, I.ne⟩ hs2)
theorem make_map {R : Result → Shared → Prop} {vs : List Value} {kw : List (Str × Value)} (X : K.In s.heap) (hm : PySem.W.makesIn K C = true)
    (hi : PySem.W.findIn K (.ref C) "__init__" = some (some (.ref f))) (hf : PySem.W.typeIn K (.ref f) = some (.type "function"))
    (h : codeAny (model prog w) (A.under (.builtin "type.__call__" ⟨.ref C :: vs, kw⟩)) (.call (.ref f) ⟨.ref (s.heap.objs.size + 1) :: vs, kw⟩) (PySem.W.InitBack (s.heap.objs.size + 1) R)
      { s with heap := (s.heap.push PySem.W.emptyDict).push (PySem.W.instObj C s.heap.objs.size) }) :
    codeAny (model prog w) A (.call (.ref C) ⟨vs, kw⟩) R s := by
  obtain ⟨hh, g, d, t, os⟩ := s
  exact PySem.W.make_core (PySem.W.makes_of X hm) (PySem.W.looks_findIn X hi) (fun self => PySem.W.bind_fn X self hf) (.inl rfl) h
end
def putF (f : Str) (v : V) : List (Str × V) → List (Str × V)
  | [] => [(f, v)]
  | (g, x) :: r => if g = f then (g, v) :: r else (g, x) :: putF f v r
theorem lookup_putF (f g : Str) (v : V) : ∀ fs : List (Str × V), (putF f v fs).lookup g = if g = f then some v else fs.lookup g
  | [] => by
    show List.lookup g [(f, v)] = _
    by_cases h : g = f
    · have hb : (g == f) = true := beq_iff_eq.mpr h
      simp only [List.lookup, hb, if_pos h]
    · have hb : (g == f) = false := beq_eq_false_iff_ne.mpr h
      simp only [List.lookup, hb, if_neg h]
  | (k, x) :: r => by
    have ih := lookup_putF f g v r
    rw [show putF f v ((k, x) :: r) = (if k = f then (k, v) :: r else (k, x) :: putF f v r) from rfl]
    by_cases hk : k = f
    · rw [if_pos hk]
      by_cases h : g = k
      · have hb : (g == k) = true := beq_iff_eq.mpr h
        simp only [List.lookup, hb, if_pos (h.trans hk)]
      · have hb : (g == k) = false := beq_eq_false_iff_ne.mpr h
        simp only [List.lookup, hb, if_neg (fun e : g = f => h (e.trans hk.symm))]
    · rw [if_neg hk]
      by_cases h : g = k
      · have hb : (g == k) = true := beq_iff_eq.mpr h
        simp only [List.lookup, hb, if_neg (fun e : g = f => hk (h.symm.trans e))]
      · have hb : (g == k) = false := beq_eq_false_iff_ne.mpr h
        simp only [List.lookup, hb]
        exact ih
theorem keys_putF (f : Str) (v : V) : ∀ fs : List (Str × V), f ∈ (putF f v fs).map (·.1) ∧ ∀ g, g ∈ fs.map (·.1) → g ∈ (putF f v fs).map (·.1)
  | [] => ⟨by simp [putF], fun g h => by simp at h⟩
  | (k, x) :: r => by
    obtain ⟨i1, i2⟩ := keys_putF f v r
    rw [show putF f v ((k, x) :: r) = (if k = f then (k, v) :: r else (k, x) :: putF f v r) from rfl]
    by_cases hk : k = f
    · rw [if_pos hk]
      subst hk
      exact ⟨by simp, fun g h => by simpa using h⟩
    · rw [if_neg hk]
      refine ⟨?_, fun g h => ?_⟩
      · rw [List.map_cons]
        exact List.mem_cons_of_mem _ i1
      · rw [List.map_cons] at h ⊢
        rcases List.mem_cons.mp h with e | e
        · exact List.mem_cons.mpr (.inl e)
        · exact List.mem_cons_of_mem _ (i2 g e)
theorem length_putF (f : Str) (v : V) : ∀ fs : List (Str × V), (putF f v fs).length ≤ fs.length + 1
  | [] => by simp [putF]
  | (k, x) :: r => by
    have ih := length_putF f v r
    rw [show putF f v ((k, x) :: r) = (if k = f then (k, v) :: r else (k, x) :: putF f v r) from rfl]
    by_cases hk : k = f
    · rw [if_pos hk, List.length_cons, List.length_cons]; omega
    · rw [if_neg hk, List.length_cons, List.length_cons]; omega
theorem RelO.some_of {v : V} {o : Option Value} (r : RelO (some v) o) : ∃ u, o = some u ∧ RelV v u := by
  cases o with
  | none => exact (show False from r).elim
  | some u => exact ⟨u, rfl, r⟩
theorem RelO.none_of {o : Option Value} (r : RelO none o) : o = none := by
  cases o with
  | none => rfl
  | some u => exact (show False from r).elim
theorem handed_of {v : V} {u : Value} (r : RelV v u) : PySem.W.handedIn u = true := by
  cases v with
  | non => cases (show u = Value.none from r); rfl
  | bl b => cases (show u = Value.bool b from r); rfl
  | int i => obtain ⟨t, e⟩ := (show ∃ t, u = Value.int i t from r); cases e; rfl
  | str x => obtain ⟨t, e⟩ := (show ∃ t, u = Value.str x t from r); cases e; rfl
  | byt b => obtain ⟨t, e⟩ := (show ∃ t, u = Value.bytes b t from r); cases e; rfl
  | flt b => obtain ⟨t, e⟩ := (show ∃ t, u = Value.float b t from r); cases e; rfl
  | ref a => cases (show u = Value.ref a from r); rfl
  | ty n => cases (show u = Value.type n from r); rfl
section
variable {P : Program} {w : World} {H H' : Hp} {h h' : Heap} {a C dx : Addr} {fs fs' : List (Str × V)}
theorem ins_get (hok : HOk P w H h) (e : H a = some (.ins C dx fs)) : ∃ mA, ObjM h a dx C mA ∧ (∀ f, RelO (fs.lookup f) (mA f)) ∧ PySem.Within mA (fs.map (·.1)) ∧ fs.length ≤ 1000 ∧ H dx = some (.own a) := by
  obtain ⟨d, z, ne, ob, mA, n, r, q⟩ := (show ObjOk P w H h a (.ins C dx fs) from hok a _ e)
  exact ⟨mA, ⟨ob, n, ne⟩, r, q, z, d⟩
end
structure Cls (K : PySem.W.Frag) (C : Addr) : Prop where
  pg : PySem.W.plainGet K C Str.empty = true
  hd : PySem.W.hasDictIn K C = true
  po : PySem.W.plainOver K C = true
  sa : PySem.W.findIn K (.ref C) "__setattr__" = some (some (.builtin "object.__setattr__"))
theorem Cls.get {K : PySem.W.Frag} {C : Addr} (c : Cls K C) (f : Str) : PySem.W.plainGet K C f = true := c.pg
def NoAttr (K : PySem.W.Frag) (C : Addr) (f : Str) : Prop := PySem.W.findIn K (.ref C) f = some none
theorem NoAttr.taker {K : PySem.W.Frag} {C : Addr} {f : Str} (n : NoAttr K C f) : PySem.W.takerIn K C f = some none := by
  unfold PySem.W.takerIn
  rw [show PySem.W.findIn K (.ref C) f = some none from n]
  rfl
structure Meth (K : PySem.W.Frag) (C : Addr) (m : Str) (f : Addr) : Prop where
  at_ : PySem.W.findIn K (.ref C) m = some (some (.ref f))
  fn : PySem.W.isFn K (.ref f) = true
  kp : PySem.W.keepIn K (.ref f) = true
section
variable {X : Cx} {pins : List (Addr × Obj)} {σ : St} {H : Hp} {s : Shared} {a C dx : Addr} {fs : List (Str × V)} {f : Str} {v : V} {A : Around} {E : Value → Shared → Prop}
theorem getattr_ok {b : Bool} {Q : Value → Shared → Prop} (I : Inv X pins σ H s) (e : H a = some (.ins C dx fs)) (c : Cls X.K C) (n : NoAttr X.K C f) (l : fs.lookup f = some v)
    (h : ∀ u s', Inv X pins σ H s' → RelV v u → Q u s') : wpAny (model X.prog X.w) A (getAttr (.ref a) f b) Q E s := by
  obtain ⟨mA, O, r, _, _, _⟩ := ins_get I.hok e
  obtain ⟨u, hu, ru⟩ := RelO.some_of (v := v) (o := mA f) (by rw [← l]; exact r f)
  exact get_map I.kIn O (c.get f) c.hd n hu (handed_of ru) (h u _ (I.tok _) ru)
theorem getmeth_ok {m : Str} {g : Addr} {pl : Sem Bool} {Q : Value × List Value → Shared → Prop} (I : Inv X pins σ H s) (e : H a = some (.ins C dx fs)) (c : Cls X.K C) (k : Meth X.K C m g) (l : fs.lookup m = none)
    (h : Q (.ref g, [.ref a]) s) : wpAny (model X.prog X.w) A (getMethod (.ref a) m pl) Q E s := by
  obtain ⟨mA, O, r, _, _, _⟩ := ins_get I.hok e
  have hn : mA m = none := RelO.none_of (by rw [← l]; exact r m)
  exact get_meth I.kIn O (c.get m) k.at_ k.fn hn h
theorem setattr_ok {y : V} {u : Value} {Q : Unit → Shared → Prop} (I : Inv X pins σ H s) (e : H a = some (.ins C dx fs)) (c : Cls X.K C) (n : NoAttr X.K C f) (hl : fs.length < 1000) (ry : RelV y u)
    (h : ∀ s', Inv X pins σ (upd H a (.ins C dx (putF f y fs))) s' → Q () s') : wpAny (model X.prog X.w) A (setAttr (.ref a) f u) Q E s := by
  obtain ⟨mA, O, r, wi, _, ho⟩ := ins_get I.hok e
  have hz : (fs.map (·.1)).length ≤ sizeLine := by rw [List.length_map, sizeLine_eq]; omega
  refine set_map I.kIn O c.sa c.po n.taker c.hd wi hz fun h' O' sb => h _ ?_
  have hd : ∃ o, h'.get? dx = some o := let ⟨o, _, _, e', _⟩ := O'.ns; ⟨o, e'⟩
  refine I.write (x := a) (e := dx) (by rw [e]; exact True.intro) (.inr ho) (fun b q hb z => (sb.2 b hb).trans z) hd ?_
  refine ⟨by rw [upd_ne O.ne]; exact ho, ?_, O.ne, O'.obj, _, O'.ns, fun g => ?_, fun g hg => ?_⟩
  · have := length_putF f y fs; omega
  · show RelO ((putF f y fs).lookup g) (if g = f then some u else mA g)
    rw [lookup_putF]
    by_cases q : g = f
    · rw [if_pos q, if_pos q]; exact ry
    · rw [if_neg q, if_neg q]; exact r g
  · by_cases q : g = f
    · rw [q]; exact (keys_putF f y fs).1
    · refine (keys_putF f y fs).2 g (wi g fun z => hg ?_)
      show (if g = f then some u else mA g) = none
      rw [if_neg q]; exact z
theorem Inv.made (I : Inv X pins σ H s) : Inv X pins σ (upd (upd H s.heap.objs.size (.own (s.heap.objs.size + 1))) (s.heap.objs.size + 1) (.ins C s.heap.objs.size []))
    { s with heap := (s.heap.push PySem.W.emptyDict).push (PySem.W.instObj C s.heap.objs.size) } := by
  have e1 : (s.heap.push PySem.W.emptyDict).get? s.heap.objs.size = some PySem.W.emptyDict := Heap.get?_push_size s.heap rfl
  have e2 : ((s.heap.push PySem.W.emptyDict).push (PySem.W.instObj C s.heap.objs.size)).get? (s.heap.objs.size + 1) = some (PySem.W.instObj C s.heap.objs.size) := by
    have := Heap.get?_push_size (s.heap.push PySem.W.emptyDict) (o := PySem.W.instObj C s.heap.objs.size) rfl
    rwa [Heap.size_push] at this
  have e3 : (s.heap.push PySem.W.emptyDict).Ns s.heap.objs.size (fun _ => none) := ⟨PySem.W.emptyDict, #[], _, e1, rfl, (fun e he => absurd he (by simp)), fun _ => rfl⟩
  have I1 := I.laid (a := s.heap.objs.size) (o := .own (s.heap.objs.size + 1)) (h' := s.heap.push PySem.W.emptyDict) (t' := s.toks) (fun b u q => Heap.get?_push_of_some _ q) (Nat.le_refl _) ⟨_, e1⟩
  refine I1.laid (a := s.heap.objs.size + 1) (o := .ins C s.heap.objs.size []) (t' := s.toks) (fun b u q => Heap.get?_push_of_some _ q) (Nat.le_of_eq (Heap.size_push _ _)) ?_
  have ne : s.heap.objs.size ≠ s.heap.objs.size + 1 := Nat.ne_of_lt (Nat.lt_succ_self _)
  refine ⟨by rw [upd_ne ne, upd_same], Nat.zero_le _, ne, e2, fun _ => none, (Heap.Ns1.of_empty e3).at fun o q => Heap.get?_push_of_some _ q, fun _ => True.intro, fun y hy => absurd rfl hy⟩
theorem attr_of {prog : Program} {w : World} {env : Env} {e : Expr} {f : Str} {pos : Pos} {s : Shared} {Q : Value → Shared → Prop} (hb : attributeBase e f env (eval e env) = eval e env)
    (h : wpAny (model prog w) A (eval e env) (fun o s₁ => wpAny (model prog w) A (getAttr o f true) Q E s₁) E s) : wpAny (model prog w) A (eval (.Attribute e f pos) env) Q E s :=
  Attribute_any_ h (by rw [arm_eval_Attribute, hb])
end
def tFld (K : PySem.W.Frag) (ta : TE) (f : Str) : TE := fun σ H Q => ta σ H fun x H1 => ∃ a C dx fs v, x = .ref a ∧ H1 a = some (.ins C dx fs) ∧ Cls K C ∧ NoAttr K C f ∧ fs.lookup f = some v ∧ Q v H1
def sFld (K : PySem.W.Frag) (ta tv : TE) (f : Str) : TS := fun D σ H => tv σ H fun y H1 => ta σ H1 fun x H2 => ∃ a C dx fs, x = .ref a ∧ H2 a = some (.ins C dx fs) ∧ Cls K C ∧ NoAttr K C f ∧ fs.length < 1000 ∧
  D.nx σ (upd H2 a (.ins C dx (putF f y fs)))
def InOp (X : Cx) (op : Operator) (rd : V → V → Hp → VK → Prop) : Prop :=
  ∀ (pins : List (Addr × Obj)) (s : Shared) (σ : St) (H : Hp) (x y : V) (u v : Value) (Q : VK), Inv X pins σ H s → RelV x u → RelV y v → rd x y H Q → wpAny (model X.prog X.w) X.A (inplaceOp op u v) (EP X pins σ Q) X.xe s
def sFldAug (K : PySem.W.Frag) (ta tv : TE) (rd : V → V → Hp → VK → Prop) (f : Str) : TS := fun D σ H => ta σ H fun x H1 => ∃ a C dx fs v, x = .ref a ∧ H1 a = some (.ins C dx fs) ∧ Cls K C ∧ NoAttr K C f ∧ fs.lookup f = some v ∧
  tv σ H1 fun y H2 => rd v y H2 fun z H3 => ∃ dx' fs', H3 a = some (.ins C dx' fs') ∧ fs'.length < 1000 ∧ D.nx σ (upd H3 a (.ins C dx' (putF f z fs')))
section
variable {X : Cx} {o e value : Expr} {f : Str} {pos pos' tpos : Pos} {ta tv : TE}
theorem pe_fld (he : PE X e ta) (hb : attributeBase e f X.env (eval e X.env) = eval e X.env) : PE X (.Attribute e f pos) (tFld X.K ta f) := by
  intro pins s σ H Q I h
  refine attr_of hb (thn (he pins s σ H _ I h) fun u s1 ⟨x, H1, I1, rx, a, C, dx, fs, v, ex, ea, c, n, l, q⟩ => ?_)
  subst ex
  obtain rfl : u = Value.ref a := rx
  exact getattr_ok I1 ea c n l fun u' s2 I2 ru => ⟨v, H1, I2, ru, q⟩
theorem ps_fld (ha : PE X o ta) (hv : PE X value tv) (hs : swapsWith value (some (.Attribute o f pos')) pos.line X.env = pure false) : PS X (.Assign [.Attribute o f pos'] value pos) (sFld X.K ta tv f) := by
  intro pins s σ H D I h
  refine plainObj_wpAny_Assign_Attribute (thn (hv pins s σ H _ I h) fun u s1 ⟨y, H1, I1, ry, q⟩ => thn (ha pins s1 σ H1 _ I1 q) fun ov s2 ⟨x, H2, I2, rx, a, C, dx, fs, ex, ea, c, n, l, q2⟩ => ?_) hs
  subst ex
  obtain rfl : ov = Value.ref a := rx
  exact setattr_ok I2 ea c n l ry fun s3 I3 => ⟨σ, _, I3, q2⟩
theorem ps_fldaug {op : Operator} {rd : V → V → Hp → VK → Prop} (ha : PE X o ta) (hv : PE X value tv) (hop : InOp X op rd) : PS X (.AugAssign (.Attribute o f tpos) op value pos) (sFldAug X.K ta tv rd f) := by
  intro pins s σ H D I h
  refine wpAny_AugAssign_AttributeAny (thn (ha pins s σ H _ I h) fun ov s1 ⟨x, H1, I1, rx, a, C, dx, fs, v, ex, ea, c, n, l, q⟩ => ?_)
  subst ex
  obtain rfl : ov = Value.ref a := rx
  refine getattr_ok I1 ea c n l fun u s2 I2 ru => thn (hv pins s2 σ H1 _ I2 q) fun w3 s3 ⟨y, H2, I3, ry, q3⟩ => thn (hop pins s3 σ H2 v y u w3 _ I3 ru ry q3) fun w4 s4 ⟨z, H3, I4, rz, dx', fs', ea', l', q4⟩ => ?_
  exact setattr_ok I4 ea' c n l' rz fun s5 I5 => ⟨σ, _, I5, q4⟩
def rAdd : V → V → Hp → VK → Prop := fun x y H Q => ∃ i j, x = .int i ∧ y = .int j ∧ Q (.int (i + j)) H
def rSub : V → V → Hp → VK → Prop := fun x y H Q => ∃ i j, x = .int i ∧ y = .int j ∧ Q (.int (i - j)) H
theorem in_add : InOp X .Add rAdd := by
  rintro pins s σ H x y u v Q I rx ry ⟨i, j, rfl, rfl, q⟩
  obtain ⟨t, rfl⟩ := (show ∃ t, u = Value.int i t from rx)
  obtain ⟨t', rfl⟩ := (show ∃ t', v = Value.int j t' from ry)
  exact PyProof.Rows.iadd_int ⟨.int (i + j), H, I.tok _, ⟨_, rfl⟩, q⟩
theorem in_sub : InOp X .Sub rSub := by
  rintro pins s σ H x y u v Q I rx ry ⟨i, j, rfl, rfl, q⟩
  obtain ⟨t, rfl⟩ := (show ∃ t, u = Value.int i t from rx)
  obtain ⟨t', rfl⟩ := (show ∃ t', v = Value.int j t' from ry)
  exact PyProof.Rows.isub_int ⟨.int (i - j), H, I.tok _, ⟨_, rfl⟩, q⟩
end
end L2
namespace L2
open PySem PySem.Spec PyProof.Rows
structure Room (k : Nat) (A : Around) : Prop where
  hd : A.handled = none
  dp : A.depth + 3 * k + 5 < recursionLimit
  un : A.units + 16 * k + 200 < cLine
theorem Room.mono {j k : Nat} {A : Around} (r : Room k A) (h : j ≤ k) : Room j A := ⟨r.hd, by have := r.dp; omega, by have := r.un; omega⟩
theorem Room.deeper {k : Nat} {A : Around} (r : Room (k + 1) A) (env : Env) : Room k (A.deeper env) :=
  ⟨r.hd, by have := r.dp; show A.depth + 1 + 3 * k + 5 < _; omega, by have := r.un; show A.units + 3 + 16 * k + 200 < _; omega⟩
theorem make_depth {A : Around} {C : Addr} {us : List Value} {kw : List (Str × Value)} : (A.under (.builtin "type.__call__" ⟨.ref C :: us, kw⟩)).depth = A.depth + 1 := by
  first | rfl | simp [Around.under, Code.weight, Code.isCreation, Code.isGuard, Code.isCaller, Code.frames, Code.isFrame, guardIds]
theorem make_units {A : Around} {C : Addr} {us : List Value} {kw : List (Str × Value)} : (A.under (.builtin "type.__call__" ⟨.ref C :: us, kw⟩)).units = A.units + 1 := by
  first | rfl | simp [Around.under, Code.cUnits, Code.frames, Code.isFrame]
theorem Room.make {k : Nat} {A : Around} (r : Room (k + 1) A) (C : Addr) (us : List Value) (kw : List (Str × Value)) : Room k (A.under (.builtin "type.__call__" ⟨.ref C :: us, kw⟩)) :=
  ⟨r.hd, by have := r.dp; rw [make_depth]; omega, by have := r.un; rw [make_units]; omega⟩
theorem Room.depth {k : Nat} {A : Around} (r : Room k A) : A.depth < recursionLimit := by have := r.dp; omega
theorem Room.units {k : Nat} {A : Around} (r : Room k A) : A.units + 64 < cLine := by have := r.un; omega
def tNil : TA := fun _ H Q => Q [] H
def tCons (ta : TE) (tr : TA) : TA := fun σ H Q => ta σ H fun x H1 => tr σ H1 fun xs H2 => Q (x :: xs) H2
section
variable {X : Cx} {e : Expr} {es : List Expr} {te : TE} {t : TA} {pos : Pos}
theorem pa_nil : PA X [] tNil := fun _ _ _ _ H Q I h => Calls.spliced_nil ⟨[], H, I, .nil, h⟩
theorem pa_cons (ha : PE X e te) (hr : PA X es t) (hs : starEach (e :: es) X.env = (false, eval e X.env) :: starEach es X.env := by rfl) : PA X (e :: es) (tCons te t) := by
  intro pos pins s σ H Q I h
  rw [hs]
  show wpAny _ _ (spliced ((false, eval e X.env) :: backTo pos (starEach es X.env))) _ _ s
  refine Calls.spliced_cons (thn (ha pins s σ H _ I h) fun u s1 ⟨x, H1, I1, r1, q1⟩ => ?_)
  exact thn (hr pos pins s1 σ H1 _ I1 q1) fun us s2 ⟨xs, H2, I2, r2, q2⟩ => ⟨x :: xs, H2, I2, .cons r1 r2, q2⟩
def tLst (t : TA) : TE := fun σ H Q => t σ H fun xs H1 => xs.length ≤ sizeLine ∧ ∀ p, H1 p = none → Q (.ref p) (upd H1 p (.lst xs))
theorem pe_lst (h : PA X es t) : PE X (.List es pos) (tLst t) := by
  intro pins s σ H Q I hq
  refine wpAny_List_spliced (thn (h pos pins s σ H _ I hq) fun us s1 ⟨xs, H1, I1, r, z, q⟩ => ⟨by rw [← r.length]; exact z, ?_⟩)
  have hf : H1 s1.heap.objs.size = none := I1.hok.fresh (Nat.le_refl _)
  refine ⟨.ref s1.heap.objs.size, upd H1 s1.heap.objs.size (.lst xs), I1.laid (t' := s1.toks) (fun b u e => Heap.get?_push_of_some _ e) (Nat.le_refl _) ?_, rfl, q _ hf⟩
  exact ⟨z, us, 0, r, Heap.get?_push_size _ rfl⟩
end
abbrev Sp := List V → Hp → VK → XK → Prop
abbrev CXT := List Env → Hp → Shared → XK → Value → Shared → Prop
structure Env0 (P : Program) (w : World) (K : PySem.W.Frag) (mg : Str → Option Value) (base : Heap) (A : Around) (outer : List Env) (s : Shared) (H : Hp) : Prop where
  frames : A.frames = some outer
  mod : Mod K mg base
  bs : ∀ b o, base.get? b = some o → s.heap.get? b = some o ∧ H b = none
  bsz : base.objs.size ≤ s.heap.objs.size
  funs : s.heap.FunFrames base outer
  frf : ∀ b ∈ frs outer, H b = none
  hok : HOk P w H s.heap
  bare : AllBare s.gens
def CE (outer : List Env) (P : Program) (w : World) (H : Hp) (s : Shared) (Q : VK) (u : Value) (s' : Shared) : Prop :=
  ∃ v H', s'.os = s.os ∧ AllBare s'.gens ∧ Un (frs outer) [] H H' s.heap s'.heap ∧ HOk P w H' s'.heap ∧ RelV v u ∧ Q v H'
def CR (CX : CXT) (outer : List Env) (P : Program) (w : World) (H : Hp) (s : Shared) (Q : VK) (E : XK) (r : Result) (s' : Shared) : Prop :=
  match r with
  | .ok (.ret u) => CE outer P w H s Q u s'
  | .ok _ => False
  | .error e => CX outer H s E e s'
structure FnOk (P : Program) (w : World) (K : PySem.W.Frag) (mg : Str → Option Value) (base : Heap) (CX : CXT) (k : Nat) (f : Addr) (fd : FuncData) (ps : List Str) (sp : Sp) : Prop where
  len : ∀ vs H Q E, sp vs H Q E → vs.length = ps.length
  run : ∀ (A : Around) (outer : List Env) (s : Shared) (H : Hp) (args : Args) (us : List Value) (vs : List V) (Q : VK) (E : XK), Room k A → Env0 P w K mg base A outer s H → BindsTo s fd args (ps.zip us) → Vals vs us → sp vs H Q E →
    codeAny (model P w) A (.call (.ref f) args) (CR CX outer P w H s Q E) s
theorem FnOk.mono {P : Program} {w : World} {K : PySem.W.Frag} {mg : Str → Option Value} {base : Heap} {CX : CXT} {j k : Nat} {f : Addr} {fd : FuncData} {ps : List Str} {sp : Sp} (F : FnOk P w K mg base CX j f fd ps sp) (h : j ≤ k) :
    FnOk P w K mg base CX k f fd ps sp := ⟨F.len, fun A outer s H args us vs Q E hr => F.run A outer s H args us vs Q E (hr.mono h)⟩
theorem Env0.make {P : Program} {w : World} {K : PySem.W.Frag} {mg : Str → Option Value} {base : Heap} {A : Around} {outer : List Env} {s : Shared} {H : Hp} (e : Env0 P w K mg base A outer s H) (C : Addr) (us : List Value) (kw : List (Str × Value)) :
    Env0 P w K mg base (A.under (.builtin "type.__call__" ⟨.ref C :: us, kw⟩)) outer s H := ⟨by first | exact e.frames | (simpa [Around.under, Code.envs, Code.isFrame, pushEnvs] using e.frames), e.mod, e.bs, e.bsz, e.funs, e.frf, e.hok, e.bare⟩
section
variable {X : Cx} {pins : List (Addr × Obj)} {σ : St} {H : Hp} {s s' : Shared}
theorem Inv.env0 (I : Inv X pins σ H s) : Env0 X.prog X.w X.K X.mg X.base X.A X.stack s H :=
  ⟨I.ok.frames, I.ok.mod, I.bs, Nat.le_trans I.ok.bsz I.sz, I.stack, I.stkFree, I.hok, I.bare⟩
theorem Inv.after {Q : VK} {u : Value} (I : Inv X pins σ H s) (h : CE X.stack X.prog X.w H s Q u s') : EP X pins σ Q u s' := by
  obtain ⟨v, H', os, bare, un, hok, r, q⟩ := h
  obtain ⟨hh, g, d, t, os'⟩ := s'
  obtain rfl : os' = s.os := os
  exact ⟨v, H', I.call (h' := hh) (g' := g) (d' := d) (t' := t) (ch := []) un hok bare (fun b z => absurd z (by simp)), r, q⟩
end
def tCall (sp : Sp) (dvs : List V) (E : XK) (t : TA) : TE := fun σ H Q => t σ H fun vs H1 => sp (vs ++ dvs) H1 Q E
def tMeth (C : Addr) (m : Str) (sp : Sp) (dvs : List V) (E : XK) (ta : TE) (t : TA) : TE := fun σ H Q => ta σ H fun x H1 => ∃ a dx fs, x = .ref a ∧ H1 a = some (.ins C dx fs) ∧ fs.lookup m = none ∧
  t σ H1 fun vs H2 => sp (x :: (vs ++ dvs)) H2 Q E
def tMake (C : Addr) (sp : Sp) (dvs : List V) (E : XK) (t : TA) : TE := fun σ H Q => t σ H fun vs H1 => ∀ x dx, H1 x = none → H1 dx = none → dx ≠ x →
  sp (.ref x :: (vs ++ dvs)) (upd (upd H1 dx (.own x)) x (.ins C dx [])) (fun v H2 => v = .non ∧ Q (.ref x) H2) E
def Binds (K : PySem.W.Frag) (fd : FuncData) (ps : List Str) (ds : List Value) : Prop :=
  ∀ (s : Shared) (us : List Value), K.In s.heap → (us ++ ds).length = ps.length → BindsTo s fd ⟨us, []⟩ (ps.zip (us ++ ds))
theorem Binds.all {K : PySem.W.Frag} {fd : FuncData} {ps : List Str} (h : ∀ us : List Value, us.length = ps.length → bindArgs fd ⟨us, []⟩ = pure (ps.zip us)) : Binds K fd ps [] := fun s us _ hl => by
  rw [List.append_nil] at hl ⊢
  exact .of_eq (h us hl)
def Passes (CX : CXT) (X : Cx) (E : XK) : Prop := ∀ (pins : List (Addr × Obj)) (σ : St) (H : Hp) (s : Shared) (e : Value) (s' : Shared), Inv X pins σ H s → CX X.stack H s E e s' → X.xe e s'
section
variable {X : Cx} {CX : CXT} {k : Nat} {f C : Addr} {fd : FuncData} {ps : List Str} {sp : Sp} {dvs : List V} {ds : List Value} {E : XK} {x m : Str} {p pos apos : Pos} {e o : Expr} {es : List Expr} {ta : TE} {t : TA}
theorem run_fn {pins : List (Addr × Obj)} {σ : St} {H : Hp} {s : Shared} {Q : VK} {us : List Value} {vs : List V} (F : FnOk X.prog X.w X.K X.mg X.base CX k f fd ps sp) (hr : Room k X.A) (hb : Binds X.K fd ps ds) (hd : Vals dvs ds) (hx : Passes CX X E)
    (I : Inv X pins σ H s) (r : Vals vs us) (h : sp (vs ++ dvs) H Q E) : wpAny (model X.prog X.w) X.A (call (.ref f) us) (EP X pins σ Q) X.xe s := by
  have r2 : Vals (vs ++ dvs) (us ++ ds) := r.append hd
  have hl : (us ++ ds).length = ps.length := by rw [← r2.length]; exact F.len _ _ _ _ h
  refine wpAny_call (codeAny_mono (F.run X.A X.stack s H ⟨us, []⟩ (us ++ ds) (vs ++ dvs) Q E hr I.env0 (hb s us I.kIn hl) r2 h) fun r s' hq => ?_)
  cases r with
  | error e => exact hx pins σ H s e s' I hq
  | ok fl =>
    cases fl with
    | ret u => exact I.after hq
    | next => exact False.elim hq
    | brk => exact False.elim hq
    | cont => exact False.elim hq
theorem pe_call (F : FnOk X.prog X.w X.K X.mg X.base CX k f fd ps sp) (hr : Room k X.A) (hg : Gl X x) (hm : X.mg x = some (.ref f)) (hk : PySem.W.keepIn X.K (.ref f) = true) (hb : Binds X.K fd ps ds) (hd : Vals dvs ds) (hx : Passes CX X E)
    (ha : PA X (e :: es) t) (hdb : (x == ("__debug__" : Str)) = false := by decide) (he : starEach (e :: es) X.env = (false, eval e X.env) :: starEach es X.env := by rfl) (hpl : (backTo pos (starEach es X.env)).any (·.1) = false := by rfl) :
    PE X (.Call (.Name x p) (e :: es) [] pos) (tCall sp dvs E t) := by
  intro pins s σ H Q I h
  refine wpAny_Call_Name_kw (ld_glob I hg hm ?_ hdb)
  refine PySem.W.callWith_K (h₀ := X.base) I.ok.mod.kin hk (thn (ha pos pins s σ H _ I h) fun us s1 ⟨vs, H1, I1, r, q⟩ => ⟨I1.kIn, ?_⟩) he hpl
  exact run_fn F hr hb hd hx I1 r q
theorem pe_meth {pl : Sem Bool} (he : PE X o ta) (c : Cls X.K C) (hm : Meth X.K C m f) (F : FnOk X.prog X.w X.K X.mg X.base CX k f fd ps sp) (hr : Room k X.A) (hb : Binds X.K fd ps ds) (hd : Vals dvs ds) (hx : Passes CX X E) (ha : PA X (e :: es) t)
    (hst : starEach (e :: es) X.env = (false, eval e X.env) :: starEach es X.env := by rfl) (hpl : (backTo pos (starEach es X.env)).any (·.1) = false := by rfl)
    (ht : eval (.Call (.Attribute o m apos) (e :: es) [] pos) X.env = (do
      let ov ← eval o X.env
      standAt apos.atName
      let (f, first) ← holding [ov] (getMethod ov m pl)
      callWith pos f first (backTo pos (starEach (e :: es) X.env)) (backToKw pos (keywordEach [] X.env))) := by rfl) :
    PE X (.Call (.Attribute o m apos) (e :: es) [] pos) (tMeth C m sp dvs E ta t) := by
  intro pins s σ H Q I h
  refine PySem.W.methodCall_KW (pl := pl) (thn (he pins s σ H _ I h) fun u s1 ⟨x, H1, I1, rx, a, dx, fs, ex, ea, l, q⟩ => ?_) ht
  subst ex
  obtain rfl : u = Value.ref a := rx
  refine getmeth_ok I1 ea c hm l ?_
  refine PySem.W.callWith_K (first := [.ref a]) (h₀ := X.base) I.ok.mod.kin hm.kp (thn (ha pos pins s1 σ H1 _ I1 q) fun us s2 ⟨vs, H2, I2, r, q2⟩ => ⟨I2.kIn, ?_⟩) hst hpl
  exact run_fn (us := .ref a :: us) (vs := .ref a :: vs) F hr hb hd hx I2 (.cons rfl r) q2
theorem pe_meth0 {pl : Sem Bool} (he : PE X o ta) (c : Cls X.K C) (hm : Meth X.K C m f) (F : FnOk X.prog X.w X.K X.mg X.base CX k f fd ps sp) (hr : Room k X.A) (hb : Binds X.K fd ps ds) (hd : Vals dvs ds) (hx : Passes CX X E)
    (ht : eval (.Call (.Attribute o m apos) [] [] pos) X.env = (do
      let ov ← eval o X.env
      standAt apos.atName
      let (f, first) ← holding [ov] (getMethod ov m pl)
      callWith pos f first (backTo pos (starEach [] X.env)) (backToKw pos (keywordEach [] X.env))) := by rfl) :
    PE X (.Call (.Attribute o m apos) [] [] pos) (tMeth C m sp dvs E ta tNil) := by
  intro pins s σ H Q I h
  refine PySem.W.methodCall_KW (pl := pl) (thn (he pins s σ H _ I h) fun u s1 ⟨x, H1, I1, rx, a, dx, fs, ex, ea, l, q⟩ => ?_) ht
  subst ex
  obtain rfl : u = Value.ref a := rx
  refine getmeth_ok I1 ea c hm l ?_
  exact PySem.W.callWith_K0 (first := [.ref a]) I1.kIn hm.kp (run_fn (us := [.ref a]) (vs := [.ref a]) F hr hb hd hx I1 (.cons rfl .nil) q)
structure Mk (K : PySem.W.Frag) (C f : Addr) : Prop where
  makes : PySem.W.makesIn K C = true
  init : PySem.W.findIn K (.ref C) "__init__" = some (some (.ref f))
  fn : PySem.W.isFn K (.ref f) = true
  kp : PySem.W.keepIn K (.ref C) = true
theorem run_make {pins : List (Addr × Obj)} {σ : St} {H : Hp} {s : Shared} {Q : VK} {us : List Value} {vs : List V} (M : Mk X.K C f) (F : FnOk X.prog X.w X.K X.mg X.base CX k f fd ps sp) (hr : Room (k + 1) X.A) (hb : Binds X.K fd ps ds) (hd : Vals dvs ds)
    (hx : Passes CX X E) (I : Inv X pins σ H s) (r : Vals vs us)
    (h : ∀ x dx, H x = none → H dx = none → dx ≠ x → sp (.ref x :: (vs ++ dvs)) (upd (upd H dx (.own x)) x (.ins C dx [])) (fun v H2 => v = .non ∧ Q (.ref x) H2) E) :
    wpAny (model X.prog X.w) X.A (call (.ref C) us) (EP X pins σ Q) X.xe s := by
  have hq := h (s.heap.objs.size + 1) s.heap.objs.size (I.hok.fresh (Nat.le_succ _)) (I.hok.fresh (Nat.le_refl _)) (Nat.ne_of_lt (Nat.lt_succ_self _))
  have I2 := Inv.made (C := C) I
  have r2 : Vals (V.ref (s.heap.objs.size + 1) :: (vs ++ dvs)) (Value.ref (s.heap.objs.size + 1) :: (us ++ ds)) := .cons rfl (r.append hd)
  have hl : (Value.ref (s.heap.objs.size + 1) :: us ++ ds).length = ps.length := by
    have e := r2.length
    rw [F.len _ _ _ _ hq] at e
    exact e.symm
  refine wpAny_call (make_map (f := f) I.kIn M.makes M.init (beq_iff_eq.mp M.fn) (codeAny_mono (F.run _ X.stack _ _ ⟨Value.ref (s.heap.objs.size + 1) :: us, []⟩ (Value.ref (s.heap.objs.size + 1) :: (us ++ ds)) _ _ E (hr.make C us [])
    (I2.env0.make C us []) (hb _ (Value.ref (s.heap.objs.size + 1) :: us) I2.kIn hl) r2 hq) fun r s' hq' => ?_))
  cases r with
  | error e => exact hx pins σ _ _ e s' I2 hq'
  | ok fl =>
    cases fl with
    | ret u =>
      obtain ⟨v, H', I3, rv, ev, q3⟩ := I2.after hq'
      subst ev
      exact ⟨rv, ⟨V.ref (s.heap.objs.size + 1), H', I3, rfl, q3⟩⟩
    | next => exact False.elim hq'
    | brk => exact False.elim hq'
    | cont => exact False.elim hq'
theorem pe_make (M : Mk X.K C f) (F : FnOk X.prog X.w X.K X.mg X.base CX k f fd ps sp) (hr : Room (k + 1) X.A) (hg : Gl X x) (hm : X.mg x = some (.ref C)) (hb : Binds X.K fd ps ds) (hd : Vals dvs ds) (hx : Passes CX X E)
    (ha : PA X (e :: es) t) (hdb : (x == ("__debug__" : Str)) = false := by decide) (he : starEach (e :: es) X.env = (false, eval e X.env) :: starEach es X.env := by rfl) (hpl : (backTo pos (starEach es X.env)).any (·.1) = false := by rfl) :
    PE X (.Call (.Name x p) (e :: es) [] pos) (tMake C sp dvs E t) := by
  intro pins s σ H Q I h
  refine wpAny_Call_Name_kw (ld_glob I hg hm ?_ hdb)
  refine PySem.W.callWith_K (h₀ := X.base) I.ok.mod.kin M.kp (thn (ha pos pins s σ H _ I h) fun us s1 ⟨vs, H1, I1, r, q⟩ => ⟨I1.kIn, ?_⟩) he hpl
  exact run_make M F hr hb hd hx I1 r q
theorem pe_make0 (M : Mk X.K C f) (F : FnOk X.prog X.w X.K X.mg X.base CX k f fd ps sp) (hr : Room (k + 1) X.A) (hg : Gl X x) (hm : X.mg x = some (.ref C)) (hb : Binds X.K fd ps ds) (hd : Vals dvs ds) (hx : Passes CX X E)
    (hdb : (x == ("__debug__" : Str)) = false := by decide) : PE X (.Call (.Name x p) [] [] pos) (tMake C sp dvs E tNil) := by
  intro pins s σ H Q I h
  refine wpAny_Call_Name_kw (ld_glob I hg hm ?_ hdb)
  exact PySem.W.callWith_K0 I.kIn M.kp (run_make (us := []) M F hr hb hd hx I .nil h)
end
structure FnScope (N P : List Str) (sc : Scope) : Prop where
  kind : sc.kind = .function
  co : sc.isCoroutine = false
  gen : sc.isGenerator = false
  nd : N.Nodup
  pre : N.take P.length = P
  par : ∀ x ∈ P, sc.names.lookup x = some .local ∨ sc.names.lookup x = some .cell
  nofree : ∀ y ∈ sc.names, y.2 ≠ .free
theorem bindL_out {kindOf : Str → Option NameKind} {x : Str} : ∀ {binds : List (Str × Value)} {m : Str → Option Value}, (∀ v, (x, v) ∉ binds) → bindL kindOf binds m x = m x
  | [], _, _ => rfl
  | (n, v) :: r, m, h => by
    unfold bindL
    rw [bindL_out fun w hw => h w (List.mem_cons_of_mem _ hw)]
    split
    · have : x ≠ n := by rintro rfl; exact h v List.mem_cons_self
      simp [this]
    · rfl
theorem bindC_out {kindOf : Str → Option NameKind} {x : Str} : ∀ {binds : List (Str × Value)} {m : Str → Option Value}, (∀ v, (x, v) ∉ binds) → bindC kindOf binds m x = m x
  | [], _, _ => rfl
  | (n, v) :: r, m, h => by
    unfold bindC
    rw [bindC_out fun w hw => h w (List.mem_cons_of_mem _ hw)]
    split
    · rfl
    · have : x ≠ n := by rintro rfl; exact h v List.mem_cons_self
      simp [this]
theorem bindL_get {kindOf : Str → Option NameKind} {x : Str} {v : Value} : ∀ {P : List Str} {vs : List Value} {i : Nat} {m : Str → Option Value}, P.Nodup → P[i]? = some x → vs[i]? = some v → kindOf x = some .local →
    bindL kindOf (P.zip vs) m x = some v
  | [], _, _, _, _, h, _, _ => by simp at h
  | _ :: _, [], _, _, _, _, h, _ => by simp at h
  | p :: P, w :: vs, 0, m, nd, h1, h2, hk => by
    simp at h1 h2; subst h1; subst h2
    show bindL kindOf ((p, w) :: P.zip vs) m p = _
    unfold bindL
    rw [bindL_out fun v hv => (List.nodup_cons.mp nd).1 (List.of_mem_zip hv).1, if_pos hk]
    simp
  | p :: P, w :: vs, i + 1, m, nd, h1, h2, hk => by
    show bindL kindOf ((p, w) :: P.zip vs) m x = _
    unfold bindL
    exact bindL_get (i := i) (List.nodup_cons.mp nd).2 (by simpa using h1) (by simpa using h2) hk
theorem bindC_get {kindOf : Str → Option NameKind} {x : Str} {v : Value} : ∀ {P : List Str} {vs : List Value} {i : Nat} {m : Str → Option Value}, P.Nodup → P[i]? = some x → vs[i]? = some v → kindOf x ≠ some .local →
    bindC kindOf (P.zip vs) m x = some v
  | [], _, _, _, _, h, _, _ => by simp at h
  | _ :: _, [], _, _, _, _, h, _ => by simp at h
  | p :: P, w :: vs, 0, m, nd, h1, h2, hk => by
    simp at h1 h2; subst h1; subst h2
    show bindC kindOf ((p, w) :: P.zip vs) m p = _
    unfold bindC
    rw [bindC_out fun v hv => (List.nodup_cons.mp nd).1 (List.of_mem_zip hv).1, if_neg hk]
    simp
  | p :: P, w :: vs, i + 1, m, nd, h1, h2, hk => by
    show bindC kindOf ((p, w) :: P.zip vs) m x = _
    unfold bindC
    exact bindC_get (i := i) (List.nodup_cons.mp nd).2 (by simpa using h1) (by simpa using h2) hk
def start (N : List Str) (vs : List V) : St := vs.map some ++ List.replicate (N.length - vs.length) none
def cxOf (CX : CXT) (P : Program) (w : World) (K : PySem.W.Frag) (mg : Str → Option Value) (base : Heap) (N : List Str) (qual : Str) (scope : Scope) (f : Addr) (cd : Value) (A : Around) (outer : List Env) (s : Shared) (H : Hp) (E : XK) : Cx where
  prog := P
  w := w
  K := K
  mg := mg
  base := base
  A := A.deeper (envOfC qual scope s.heap.objs.size f cd)
  N := N
  s_0 := s
  H_0 := H
  env := envOfC qual scope s.heap.objs.size f cd
  outer := outer
  stack := envOfC qual scope s.heap.objs.size f cd :: outer
  ex := []
  calm := true
  fn := fun _ => true
  pn := []
  xe := fun e s' => wpAny (model P w) (A.deeper (envOfC qual scope s.heap.objs.size f cd)) (leaving (envOfC qual scope s.heap.objs.size f cd) e) (fun _ s'' => CX outer H s E e s'') (fun e' s'' => CX outer H s E e' s'') s'
theorem cell_has {sc : Scope} {n : Nat} {x : Str} (h : sc.names.lookup x = some .cell) : ∃ c, (cellsFrom n sc.names []).lookup x = some c := by
  have q := PySem.W.cellsFrom_some sc.names n [] (.inl h)
  exact Option.isSome_iff_exists.mp q
theorem inv_start {CX : CXT} {P : Program} {w : World} {K : PySem.W.Frag} {mg : Str → Option Value} {base : Heap} {N ps : List Str} {qual : Str} {scope : Scope} {f : Addr} {cd : Value} {A : Around} {outer : List Env} {s s1 : Shared} {H : Hp} {E : XK} {us : List Value} {vs : List V}
    (S : FnScope N ps scope) (hd : A.handled = none) (e0 : Env0 P w K mg base A outer s H) (hl : vs.length = ps.length) (r : Vals vs us)
    (x : InCallC s s.heap.objs.size (bindL (envOfC qual scope s.heap.objs.size f cd).kindOf (ps.zip us) fun _ => none) (cellsFrom (s.heap.objs.size + 1) scope.names []) (bindC (envOfC qual scope s.heap.objs.size f cd).kindOf (ps.zip us) fun _ => none) s1) :
    Inv (cxOf CX P w K mg base N qual scope f cd A outer s H E) [] (start N vs) H s1 := by
  have hpl : ps.length ≤ N.length := by have := congrArg List.length S.pre; rw [List.length_take] at this; omega
  obtain ⟨h1, tk, rfl, hk⟩ := x.done
  have noA : ∀ b : Addr, b ∉ (cxOf CX P w K mg base N qual scope f cd A outer s H E).ex := fun b z => absurd (show b ∈ ([] : List Addr) from z) (by simp)
  refine ⟨⟨e0.mod, S.kind, rfl, rfl, Nat.le_refl _, fun y z c h1 h2 => ?_, fun y hy => ?_, fun y c _ h => ?_, fun _ => hd, Around.frames_deeper e0.frames, .inr ⟨rfl, rfl⟩, fun b z => absurd z (noA b), e0.bs, e0.bsz, fun b _ _ => noA b, fun b z => absurd z (noA b), e0.funs, e0.frf⟩,
    rfl, e0.bare, Un.kept hk, ⟨_, x.toInCall.ns, fun i y v h1 h2 h3 => ?_⟩, fun y c h => ⟨_, x.cell y c h⟩, e0.hok.fresh (Nat.le_refl _), fun y c h => ?_, fun p hp => absurd (show p ∈ ([] : List (Addr × Obj)) from hp) (by simp), e0.hok.kept hk, ?_⟩
  · exact name_of_addr x.apart (PySem.mem_of_lookup h1) (PySem.mem_of_lookup h2)
  · have hy : scope.names.lookup y = some .cell ∨ scope.names.lookup y = some .free := hy
    rcases hy with hy | hy
    · exact cell_has hy
    · exact absurd rfl (S.nofree _ (PySem.mem_of_lookup hy))
  · exact Nat.le_of_lt (x.above y c (PySem.mem_of_lookup h))
  · have hi : i < vs.length := by
      unfold start at h2
      by_cases hi : i < vs.length
      · exact hi
      · rw [List.getElem?_append_right (by simpa using hi)] at h2
        rw [List.getElem?_replicate] at h2
        split at h2 <;> cases h2
    have ha : vs[i]? = some v := by
      unfold start at h2
      rw [List.getElem?_append_left (by simpa using hi), List.getElem?_map] at h2
      cases e : vs[i]? with
      | none => rw [e] at h2; cases h2
      | some a => rw [e] at h2; cases h2; rfl
    obtain ⟨u, hu, rv⟩ := r.get ha
    have hp : ps[i]? = some y := by
      rw [← S.pre, List.getElem?_take_of_lt (by omega)]; exact h1
    have ndP : ps.Nodup := by rw [← S.pre]; exact S.nd.sublist (List.take_sublist _ _)
    refine ⟨u, rv, ?_⟩
    rcases S.par y (List.mem_of_getElem? hp) with k | k
    · exact .inl ⟨k, bindL_get ndP hp hu k⟩
    · obtain ⟨c, e⟩ := cell_has (n := s.heap.objs.size + 1) k
      refine .inr ⟨.inl k, c, e, ?_⟩
      have q := x.cell y c e
      rw [bindC_get ndP hp hu (by show scope.names.lookup y ≠ _; rw [k]; decide)] at q
      exact q
  · exact e0.hok.fresh (Nat.le_of_lt (x.above y c (PySem.mem_of_lookup h)))
  · unfold start
    show _ = N.length
    rw [List.length_append, List.length_map, List.length_replicate]
    omega
theorem fn_of {CX : CXT} {P : Program} {w : World} {K : PySem.W.Frag} {mg : Str → Option Value} {base : Heap} {k : Nat} {f : Addr} {name qual : Str} {params : Arguments} {body : List Stmt} {scope : Scope} {dV kV doc pm cdv ct oc : Value} {an od : Option Addr}
    {osl : Array (Option Value)} {N ps : List Str} {sp : Sp} (lk : K.lookup f = some ⟨oc, od, .func (PySem.W.fnOf name qual params body scope dV kV doc pm an cdv ct), osl⟩) (hcd : PySem.W.codeIn K cdv qual = true) (S : FnScope N ps scope)
    (len : ∀ vs H Q E, sp vs H Q E → vs.length = ps.length)
    (hbody : ∀ (A : Around) (outer : List Env) (s : Shared) (H : Hp) (vs : List V) (Q : VK) (E : XK), Room k (A.deeper (envOfC qual scope s.heap.objs.size f cdv)) → sp vs H Q E →
      ∃ t, PSs (cxOf CX P w K mg base N qual scope f cdv A outer s H E) body t ∧ t { nx := fun _ H' => Q .non H', rt := Q } (start N vs) H) :
    FnOk P w K mg base CX (k + 1) f (PySem.W.fnOf name qual params body scope dV kV doc pm an cdv ct) ps sp := by
  refine ⟨len, fun A outer s H args us vs Q E hr e0 hb r hsp => ?_⟩
  have hl := len _ _ _ _ hsp
  have KX : K.In s.heap := e0.mod.kin.keeps fun b o e => (e0.bs b o e).1
  have lim : s.heap.NoLimit := e0.mod.nolimit.keeps fun b o e => (e0.bs b o e).1
  have hkind : ∀ y ∈ ps.zip us, scope.names.lookup y.1 = some .local ∨ (scope.names.lookup y.1 = some .cell ∧ ((cellsFrom (s.heap.objs.size + 1) scope.names []).lookup y.1).isSome = true) := fun ⟨n, v⟩ hy => by
    rcases S.par n (List.of_mem_zip hy).1 with q | q
    · exact .inl q
    · exact .inr ⟨q, PySem.W.cellsFrom_some _ _ _ (.inl q)⟩
  refine codeAny_call_function hr.depth (KX _ _ lk) rfl S.co S.gen rfl (PySem.W.codeRec_of KX hcd) (hb _ _ _ _ ?_)
  refine wpAny_newFunctionEnv_cells S.kind hkind fun env he s1 x => ?_
  subst he
  refine ⟨lim.keeps x.toInCall.keep, codeAny_func ?_⟩
  obtain ⟨t, ht, hq⟩ := hbody A outer s H vs Q E (hr.deeper _) hsp
  have I : Inv (cxOf CX P w K mg base N qual scope f cdv A outer s H E) [] (start N vs) H s1 := inv_start S hr.hd e0 hl r x
  refine wpAny_mono (ht [] s1 (start N vs) H _ I hq) (fun fl s' hs => ?_) fun e s' hs => hs
  have fin : ∀ {σ' : St} {H' : Hp} {v : V} {u : Value}, Inv (cxOf CX P w K mg base N qual scope f cdv A outer s H E) [] σ' H' s' → RelV v u → Q v H' → CE outer P w H s Q u s' :=
    fun {σ' H' v u} J rv q => ⟨v, H', J.os, J.bare, J.base, J.hok, rv, q⟩
  cases fl with
  | ret u =>
    obtain ⟨v, σ', H', J, rv, q⟩ := hs
    exact fin J rv q
  | next =>
    obtain ⟨σ', H', J, q⟩ := hs
    exact fin (v := V.non) (u := Value.none) J rfl q
  | brk =>
    obtain ⟨_, _, _, q⟩ := hs
    exact False.elim q
  | cont =>
    obtain ⟨_, _, _, q⟩ := hs
    exact False.elim q
end L2
namespace L2
open PySem PySem.Spec PyProof.Rows
section
variable {X : Cx} {x : Str} {p pos : Pos} {e : Expr} {es : List Expr} {t : TA} {id T : String} {r : List V → Hp → VK → Prop}
def tCB (r : List V → Hp → VK → Prop) (t : TA) : TE := fun σ H Q => t σ H fun vs H1 => r vs H1 Q
theorem pe_callB (hc : CallR X (.builtin id) r) (hg : Gl X x) (hm : X.mg x = none) (hv : bootBuiltins x = some (.builtin id)) (ha : PA X (e :: es) t) (hn : x ≠ "__name__" := by decide) (hdb : (x == ("__debug__" : Str)) = false := by decide)
    (he : starEach (e :: es) X.env = (false, eval e X.env) :: starEach es X.env := by rfl) (hpl : (backTo pos (starEach es X.env)).any (·.1) = false := by rfl) : PE X (.Call (.Name x p) (e :: es) [] pos) (tCB r t) := by
  intro pins s σ H Q I h
  refine wpAny_Call_Name_kw (ld_blt I hg hm hv ?_ hn hdb)
  exact PyProof.Rows.callWith_builtin1 (thn (ha pos pins s σ H _ I h) fun us s1 ⟨vs, H1, I1, r1, q1⟩ => hc pins s1 σ H1 vs us Q I1 r1 q1) he hpl
theorem pe_callTy (hc : CallR X (.type T) r) (hg : Gl X x) (hm : X.mg x = none) (hv : bootBuiltins x = some (.type T)) (ha : PA X (e :: es) t) (hn : x ≠ "__name__" := by decide) (hdb : (x == ("__debug__" : Str)) = false := by decide)
    (he : starEach (e :: es) X.env = (false, eval e X.env) :: starEach es X.env := by rfl) (hpl : (backTo pos (starEach es X.env)).any (·.1) = false := by rfl) : PE X (.Call (.Name x p) (e :: es) [] pos) (tCB r t) := by
  intro pins s σ H Q I h
  refine wpAny_Call_Name_kw (ld_blt I hg hm hv ?_ hn hdb)
  exact PyProof.Rows.callWith_type1 (thn (ha pos pins s σ H _ I h) fun us s1 ⟨vs, H1, I1, r1, q1⟩ => hc pins s1 σ H1 vs us Q I1 r1 q1) he hpl
end
end L2
namespace HT
open PySem PyProof.Rows
section
variable {prog : Program} {w : World} {A : Around} {E : Value → Shared → Prop} {s : Shared}
def sIx (n d : Nat) : Option Int → Nat
  | none => d
  | some v => if v < 0 then (v + (n : Int)).toNat else min v.toNat n
theorem sIx_nat (n d k : Nat) : sIx n d (some (k : Int)) = min k n := by
  show (if (k : Int) < 0 then ((k : Int) + (n : Int)).toNat else min (k : Int).toNat n) = min k n
  rw [if_neg (by omega), Int.toNat_natCast]
end
end HT
namespace L2
open PySem PySem.Spec PyProof.Rows
abbrev TO := St → Hp → (Option Int → Hp → Prop) → Prop
def PO (X : Cx) (e : Option Expr) (t : TO) : Prop :=
  ∀ (pins : List (Addr × Obj)) (s : Shared) (σ : St) (H : Hp) (Q : Option Int → Hp → Prop), Inv X pins σ H s → t σ H Q →
    wpAny (model X.prog X.w) X.A (evalPart e X.env) (fun u s' => ∃ o H', Inv X pins σ H' s' ∧ IsPart u o ∧ Q o H') X.xe s
def tNoPart : TO := fun _ H Q => Q none H
def tPart (t : TE) : TO := fun σ H Q => t σ H fun x H1 => ∃ i, x = .int i ∧ Q (some i) H1
section
variable {X : Cx} {e : Expr} {te : TE} {lo hi : Option Expr} {tl th : TO} {pos p2 : Pos}
theorem po_none : PO X none tNoPart := by
  intro pins s σ H Q I h
  rw [evalPart_none]
  exact wpAny_pure ⟨none, H, I, .none, h⟩
theorem po_some (h : PE X e te) : PO X (some e) (tPart te) := by
  intro pins s σ H Q I hw
  rw [evalPart_some]
  refine thn (h pins s σ H _ I hw) fun u s1 ⟨x, H1, I1, r1, q1⟩ => ?_
  obtain ⟨i, rfl, q⟩ := q1
  obtain ⟨t, rfl⟩ := r1
  exact ⟨some i, H1, I1, .int i t, q⟩
def SlR (X : Cx) (r : V → Option Int → Option Int → Hp → VK → Prop) : Prop :=
  ∀ (pins : List (Addr × Obj)) (s : Shared) (σ : St) (H : Hp) (x : V) (v vl vu : Value) (lo hi : Option Int) (sl : Addr) (Q : VK), Inv X pins σ H s → RelV x v → s.heap.IsSliceOf sl vl vu .none → IsPart vl lo → IsPart vu hi → r x lo hi H Q →
    ∃ T id, typeLookup (.type T) "__getitem__" = pure (some (.builtin id)) ∧ s.TypeIs v T ∧ wpAny (model X.prog X.w) X.A (getItem v (.ref sl)) (EP X pins σ Q) X.xe s
def tSl (r : V → Option Int → Option Int → Hp → VK → Prop) (te : TE) (tl th : TO) : TE := fun σ H Q => te σ H fun x H1 => tl σ H1 fun l H2 => th σ H2 fun u H3 => r x l u H3 Q
theorem pe_slice {r : V → Option Int → Option Int → Hp → VK → Prop} (hr : SlR X r) (he : PE X e te) (hl : PO X lo tl) (hu : PO X hi th) : PE X (.Subscript e (.Slice lo hi none p2) pos) (tSl r te tl th) := by
  intro pins s σ H Q I h
  refine Subscript_ (thn (he pins s σ H _ I h) fun v s1 ⟨x, H1, I1, r1, q1⟩ => ?_)
  refine wpAny_Slice (thn (hl pins s1 σ H1 _ I1 q1) fun vl s2 ⟨l, H2, I2, pl, q2⟩ => thn (hu pins s2 σ H2 _ I2 q2) fun vu s3 ⟨u, H3, I3, pu, q3⟩ => ?_)
  rw [evalPart_none]
  refine wpAny_pure ?_
  have I4 : Inv X pins σ H3 { s3 with heap := s3.heap.push { cls := .type "slice", data := .fields #[vl, vu, .none] } } := I3.kept (t' := s3.toks) fun b ob q => Heap.get?_push_of_some _ q
  obtain ⟨T, id, hT, ht, hg⟩ := hr pins { s3 with heap := s3.heap.push { cls := .type "slice", data := .fields #[vl, vu, .none] } } σ H3 x v vl vu l u s3.heap.objs.size Q I4 r1 (Heap.IsSliceOf.new ..) pl pu q3
  show wpAny (model X.prog X.w) X.A (subscriptTail e (.Slice lo hi none p2) v (.ref s3.heap.objs.size)) (EP X pins σ Q) X.xe { s3 with heap := s3.heap.push { cls := .type "slice", data := .fields #[vl, vu, .none] } }
  exact tail_any (ops := [.ref s3.heap.objs.size, v]) ht hT hg (by with_unfolding_all rfl)
def cutV (xs : List V) (lo hi : Option Int) : List V := (xs.drop (HT.sIx xs.length 0 lo)).take (HT.sIx xs.length xs.length hi - HT.sIx xs.length 0 lo)
theorem cutV_length (xs : List V) (lo hi : Option Int) : (cutV xs lo hi).length ≤ xs.length := by
  unfold cutV
  rw [List.length_take, List.length_drop]
  omega
end
end L2
namespace L2
open PySem PySem.Spec PyProof.Rows
def ixN (n : Nat) (i : Int) : Option Nat := if 0 ≤ i then (if i < n then some i.toNat else none) else if -(n : Int) ≤ i then some (i + n).toNat else none
def atI {α : Type} (xs : List α) (i : Int) : Option α := (ixN xs.length i).bind fun j => xs[j]?
theorem ixN_seq {n : Nat} {i : Int} {j : Nat} (h : ixN n i = some j) : seqIndex? i n = some j ∧ j < n ∧ -(n : Int) ≤ i ∧ i < n := by
  unfold ixN at h
  by_cases h0 : 0 ≤ i
  · rw [if_pos h0] at h
    by_cases h1 : i < n
    · rw [if_pos h1] at h
      have e : i.toNat = j := Option.some.inj h
      exact ⟨by rw [seqIndex_of h0 h1, e], by omega, by omega, h1⟩
    · rw [if_neg h1] at h; cases h
  · rw [if_neg h0] at h
    by_cases h1 : -(n : Int) ≤ i
    · rw [if_pos h1] at h
      have e : (i + n).toNat = j := Option.some.inj h
      exact ⟨by rw [seqIndex_neg (by omega) h1, e], by omega, h1, by omega⟩
    · rw [if_neg h1] at h; cases h
theorem atI_get {α : Type} {xs : List α} {i : Int} {v : α} (h : atI xs i = some v) : ∃ j, seqIndex? i xs.length = some j ∧ xs[j]? = some v ∧ j < xs.length ∧ -(xs.length : Int) ≤ i ∧ i < xs.length := by
  unfold atI at h
  cases e : ixN xs.length i with
  | none => rw [e] at h; cases h
  | some j =>
    rw [e] at h
    obtain ⟨h1, h2, h3, h4⟩ := ixN_seq e
    exact ⟨j, h1, h, h2, h3, h4⟩
theorem atI_nat {α : Type} {xs : List α} {j : Nat} {v : α} (h : xs[j]? = some v) : atI xs (j : Int) = some v := by
  have hj : j < xs.length := (List.getElem?_eq_some_iff.mp h).1
  have e : ixN xs.length (j : Int) = some j := by
    unfold ixN
    rw [if_pos (by omega), if_pos (by omega)]; simp
  unfold atI; rw [e]; exact h
def PlainIx (b : Expr) : Prop := ∀ o i, subscripted b false o i = operate [o, i] (getItem o i)
def IxR (X : Cx) (r : R2) : Prop :=
  ∀ (value slice : Expr) (pins : List (Addr × Obj)) (s : Shared) (σ : St) (H : Hp) (x y : V) (v u : Value) (Q : VK), Inv X pins σ H s → RelV x v → RelV y u → r x y H Q →
    subscripted slice false v u = operate [v, u] (getItem v u) → wpAny (model X.prog X.w) X.A (subscriptTail value slice v u) (EP X pins σ Q) X.xe s
def MtR (X : Cx) (id : String) (r : V → List V → Hp → VK → Prop) : Prop :=
  ∀ (pins : List (Addr × Obj)) (s : Shared) (σ : St) (H : Hp) (x : V) (xs : List V) (v : Value) (us : List Value) (Q : VK), Inv X pins σ H s → RelV x v → Vals xs us → r x xs H Q →
    wpAny (model X.prog X.w) X.A (call (.builtin id) (v :: us)) (EP X pins σ Q) X.xe s
section
variable {X : Cx} {a b : Expr} {ta tb : TE} {pos : Pos}
theorem pe_ix {r : R2} (hr : IxR X r) (ha : PE X a ta) (hb : PE X b tb) (hs : PlainIx b) : PE X (.Subscript a b pos) (tOp r ta tb) := by
  intro pins s σ H Q I h
  exact Subscript_ (binT ha hb I h fun v u s2 x y H2 I2 rx ry q => hr a b pins s2 σ H2 x y v u Q I2 rx ry q (hs _ _))
def rIxL (K : PySem.W.Frag) : R2 := fun x y H Q => ∃ p xs i v, x = .ref p ∧ y = .int i ∧ SqL K H p xs ∧ atI xs i = some v ∧ Q v H
def rIxT (K : PySem.W.Frag) : R2 := fun x y H Q => ∃ p xs i v, x = .ref p ∧ y = .int i ∧ SqT K H p xs ∧ atI xs i = some v ∧ Q v H
theorem ix_list : IxR X (rIxL X.K) := by
  intro value slice pins s σ H x y v u Q I rx ry h hs
  obtain ⟨p, xs, i, z, rfl, rfl, hq, he, q⟩ := h
  cases rx
  obtain ⟨t, rfl⟩ := ry
  obtain ⟨its, r, pl, hz⟩ := I.list hq
  obtain ⟨j, h1, h2, h3, h4, h5⟩ := atI_get he
  obtain ⟨w, ew, rw'⟩ := r.get h2
  have hl := r.length
  have hn := line63
  have fin : EP X pins σ Q w s := ⟨z, H, I, rw', q⟩
  by_cases h0 : 0 ≤ i
  · have hj : i.toNat = j := by
      rw [seqIndex_of h0 h5] at h1
      exact Option.some.inj h1
    exact item_listR pl.isList h0 (by omega) (by rw [hj]; simpa using ew) fin hs
  · have hj : (i + (its.toArray.size : Int)).toNat = j := by
      rw [seqIndex_neg (by omega) h4] at h1
      rw [List.size_toArray, ← hl]
      exact Option.some.inj h1
    exact subscriptTail_builtinR (x := w) pl.isList.typeIs slot_list_getitem.lookup
      (wpAny_getItem_list_neg (Q := fun r s' => r = w ∧ EP X pins σ Q r s') pl.isList (by omega) (by rw [List.size_toArray] <;> omega) (by omega) (by rw [hj]; simpa using ew) ⟨rfl, fin⟩) hs
theorem ix_tup : IxR X (rIxT X.K) := by
  intro value slice pins s σ H x y v u Q I rx ry h hs
  obtain ⟨p, xs, i, z, rfl, rfl, hq, he, q⟩ := h
  cases rx
  obtain ⟨t, rfl⟩ := ry
  obtain ⟨its, r, pl, hz⟩ := I.tuple hq
  obtain ⟨j, h1, h2, h3, h4, h5⟩ := atI_get he
  obtain ⟨w, ew, rw'⟩ := r.get h2
  have hl := r.length
  have hn := line63
  have fin : EP X pins σ Q w s := ⟨z, H, I, rw', q⟩
  exact subscriptTail_builtinR (x := w) pl.typeIs slot_tuple_getitem.lookup
    (getItem_tuple (j := j) (Q := fun r s' => r = w ∧ EP X pins σ Q r s') pl (by omega) (by omega) (by rw [List.size_toArray, ← hl]; exact h1) (by simpa using ew) ⟨rfl, fin⟩) hs
theorem mapSeq_set (its : List Value) (n j : Nat) (u : Value) : Obj.mapSeq (·.setIfInBounds j u) { cls := .type "list", data := .seq its.toArray n } = { cls := .type "list", data := .seq (its.set j u).toArray n } := by
  simp [Obj.mapSeq]
theorem Inv.lst {pins : List (Addr × Obj)} {σ : St} {H : Hp} {s : Shared} {p : Addr} {xs : List V} (I : Inv X pins σ H s) (h : H p = some (.lst xs)) :
    ∃ (its : List Value) (n : Nat), Vals xs its ∧ s.heap.get? p = some { cls := .type "list", data := .seq its.toArray n } ∧ xs.length ≤ sizeLine := by
  obtain ⟨z, its, n, r, e⟩ := I.hok p _ h
  exact ⟨its, n, r, e, z⟩
theorem Inv.lstUpd {pins : List (Addr × Obj)} {σ : St} {H : Hp} {s : Shared} {p : Addr} {xs ys : List V} {its its' : List Value} {n n' : Nat} {f : Obj → Obj} (I : Inv X pins σ H s) (h : H p = some (.lst xs))
    (ho : s.heap.get? p = some { cls := .type "list", data := .seq its.toArray n }) (hf : f { cls := .type "list", data := .seq its.toArray n } = { cls := .type "list", data := .seq its'.toArray n' }) (r : Vals ys its') (hz : ys.length ≤ sizeLine) (t : Nat) :
    Inv X pins σ (upd H p (.lst ys)) { s with heap := s.heap.update p f, toks := t } := by
  have e : (s.heap.update p f).get? p = some { cls := .type "list", data := .seq its'.toArray n' } := by
    rw [Heap.get?_update_self f ho (by rw [hf] <;> rfl), hf]
  refine I.write (x := p) (e := p) (by rw [h]; trivial) (.inl rfl) (fun b u hb q => (Heap.get?_update_other _ _ (Ne.symm hb)).trans q) ⟨_, e⟩ ?_
  exact ⟨hz, its', n', r, e⟩
def rSetL : V → V → V → Hp → (Hp → Prop) → Prop := fun o i v H Q => ∃ p xs k j, o = .ref p ∧ i = .int k ∧ H p = some (.lst xs) ∧ ixN xs.length k = some j ∧ Q (upd H p (.lst (xs.set j v)))
theorem set_list : PSet X rSetL := by
  intro pins s σ H o i v ov iv u Q I ro ri rv h
  obtain ⟨p, xs, k, j, rfl, rfl, hp, hj, q⟩ := h
  cases ro
  obtain ⟨t, rfl⟩ := ri
  obtain ⟨its, n, r, ho, hz⟩ := I.lst hp
  obtain ⟨h1, h2, h3, h4⟩ := ixN_seq hj
  have hl := r.length
  have hn := line63
  have I' : Inv X pins σ (upd H p (.lst (xs.set j v))) { s with heap := s.heap.update p (Obj.mapSeq (·.setIfInBounds j u)) } :=
    I.lstUpd hp ho (mapSeq_set its n j u) (r.set rv j) (by rw [List.length_set]; exact hz) s.toks
  by_cases h0 : 0 ≤ k
  · have hk : k.toNat = j := by
      rw [seqIndex_of h0 h4] at h1
      exact Option.some.inj h1
    exact PySem.W.ki_setAt ho h0 (by omega) (by rw [List.size_toArray, ← hl]; exact h4) (by rw [hk]; exact ⟨_, I', q⟩)
  · have hk : (k + (its.toArray.size : Int)).toNat = j := by
      rw [seqIndex_neg (by omega) h3] at h1
      rw [List.size_toArray, ← hl]
      exact Option.some.inj h1
    exact PySem.W.ki_setBack ho (by omega) (by rw [List.size_toArray, ← hl]; exact h3) (by omega) (by rw [hk]; exact ⟨_, I', q⟩)
theorem slice_bounds (lo hi : Option Int) (n : Nat) : (sliceBounds lo hi none n).1 = ((HT.sIx n 0 lo : Nat) : Int) ∧ (sliceBounds lo hi none n).2.1 = ((HT.sIx n n hi : Nat) : Int) ∧ (sliceBounds lo hi none n).2.2 = 1 := by
  refine ⟨?_, ?_, rfl⟩
  · cases lo with
    | none => simp [sliceBounds, HT.sIx]
    | some i =>
      simp only [sliceBounds, HT.sIx, Option.getD_none, show (1 : Int) > 0 by decide, if_true]
      by_cases h : i < 0
      · simp only [h, if_true] <;> omega
      · simp only [h, if_false] <;> omega
  · cases hi with
    | none => simp [sliceBounds, HT.sIx]
    | some i =>
      simp only [sliceBounds, HT.sIx, Option.getD_none, show (1 : Int) > 0 by decide, if_true]
      by_cases h : i < 0
      · simp only [h, if_true] <;> omega
      · simp only [h, if_false] <;> omega
theorem slicePick_cut (its : List Value) (lo hi : Option Int) : slicePick its.toArray lo hi none = ((its.drop (HT.sIx its.length 0 lo)).take (HT.sIx its.length its.length hi - HT.sIx its.length 0 lo)).toArray := by
  obtain ⟨h1, h2, h3⟩ := slice_bounds lo hi its.toArray.size
  unfold slicePick
  rw [h1, h2, h3]
  simp only [sliceRange_one, pick_run, List.size_toArray] <;> rfl
def rSlL (K : PySem.W.Frag) : V → Option Int → Option Int → Hp → VK → Prop := fun x lo hi H Q => ∃ a xs, x = .ref a ∧ SqL K H a xs ∧ ∀ p, H p = none → Q (.ref p) (upd H p (.lst (cutV xs lo hi)))
theorem sl_list : SlR X (rSlL X.K) := by
  intro pins s σ H x v vl vu lo hi sl Q I rx hs pl pu h
  obtain ⟨a, xs, rfl, hx, q⟩ := h
  cases rx
  obtain ⟨its, r, ht, hz⟩ := I.list hx
  have hlen := r.length
  refine ⟨"list", _, slot_list_getitem.lookup, ht.isList.typeIs, ?_⟩
  refine wpAny_getItem_list_slice ht.isList hs pl pu .none (by simp) ?_ (by rw [List.size_toArray] <;> omega)
  rw [slicePick_cut, ← hlen]
  refine ⟨.ref s.heap.objs.size, _, I.laid (t' := s.toks) (o := .lst (cutV xs lo hi)) (fun b ob q => Heap.get?_push_of_some _ q) (Nat.le_refl _) ?_, rfl, q _ (I.hok.fresh (Nat.le_refl _))⟩
  exact ⟨Nat.le_trans (cutV_length xs lo hi) hz, _, 0, (r.drop (HT.sIx xs.length 0 lo)).take (HT.sIx xs.length xs.length hi - HT.sIx xs.length 0 lo), Heap.get?_push_size _ rfl⟩
theorem call_len_seq : CallR X (.builtin "len") (fun xs H Q => ∃ p ys, xs = [.ref p] ∧ (SqL X.K H p ys ∨ SqT X.K H p ys) ∧ Q (.int ys.length) H) := by
  intro pins s σ H xs us Q I r h
  obtain ⟨p, ys, rfl, hq, q⟩ := h
  obtain ⟨u, rfl, rx⟩ := vals1 r
  cases rx
  have hn := line63
  rcases hq with hq | hq
  · obtain ⟨its, r', pl, hz⟩ := I.list hq
    have hlen := r'.length
    exact Calls.call_len_list pl.isList (by simp only [List.size_toArray] <;> omega) ⟨.int ys.length, H, I.tok _, ⟨s.toks + 1, by rw [List.size_toArray, hlen]⟩, q⟩
  · obtain ⟨its, r', pl, hz⟩ := I.tuple hq
    have hlen := r'.length
    exact len_tuple pl (by simp only [List.size_toArray] <;> omega) ⟨.int ys.length, H, I.tok _, ⟨s.toks + 1, by rw [List.size_toArray, hlen]⟩, q⟩
theorem call_list_of : CallR X (.type "list") (fun xs H Q => ∃ p ys, xs = [.ref p] ∧ (SqL X.K H p ys ∨ SqT X.K H p ys) ∧ ∀ l, H l = none → Q (.ref l) (upd H l (.lst ys))) := by
  intro pins s σ H xs us Q I r h
  obtain ⟨p, ys, rfl, hq, q⟩ := h
  obtain ⟨u, rfl, rx⟩ := vals1 r
  cases rx
  have fin : ∀ (its : List Value), Vals ys its → ys.length ≤ sizeLine → ∀ (h' : Heap) (c' : Nat), (∀ b o', s.heap.get? b = some o' → h'.get? b = some o') →
      h'.get? s.heap.objs.size = some { cls := .type "list", dict := none, data := .seq its.toArray c', slots := #[] } → EP X pins σ Q (.ref s.heap.objs.size) { s with heap := h' } := fun its r' hz h' c' kp e =>
    ⟨.ref s.heap.objs.size, _, I.laid (t' := s.toks) kp (Nat.le_refl _) (show ObjOk X.prog X.w _ h' _ (.lst ys) from ⟨hz, its, c', r', e⟩), rfl, q _ (I.hok.fresh (Nat.le_refl _))⟩
  rcases hq with hq | hq
  · obtain ⟨its, r', pl, hz⟩ := I.list hq
    have hlen := r'.length
    obtain ⟨o, ho, hc, n, hd⟩ := pl.isList
    exact call_list_seq p (.inl rfl) ho hc hd (fun h' c' kp e => fin its r' hz h' c' kp e) (by simp only [List.size_toArray] <;> omega)
  · obtain ⟨its, r', pl, hz⟩ := I.tuple hq
    have hlen := r'.length
    obtain ⟨o, ho, hc, n, hd⟩ := pl
    exact call_list_seq p (.inr rfl) ho hc hd (fun h' c' kp e => fin its r' hz h' c' kp e) (by simp only [List.size_toArray] <;> omega)
def tyV (K : PySem.W.Frag) (T : String) (x : V) (H : Hp) : Prop := match x with
  | .str _ => T = "str"
  | .int _ => T = "int"
  | .ref p => (T = "list" ∧ ∃ xs, SqL K H p xs) ∨ (T = "tuple" ∧ ∃ o, K.lookup p = some o ∧ o.cls = .type "tuple" ∧ o.dict = none) ∨
      (T = "dict" ∧ ((∃ kvs, H p = some (.dK kvs)) ∨ ∃ kvs, H p = some (.dT kvs))) ∨ (T = "set" ∧ ∃ S n, H p = some (.set S n))
  | _ => False
theorem tyV_is {pins : List (Addr × Obj)} {σ : St} {H : Hp} {s : Shared} {T : String} {x : V} {v : Value} (I : Inv X pins σ H s) (r : RelV x v) (ty : tyV X.K T x H) :
    s.TypeIs v T ∧ ∀ a, v = .ref a → ∃ ob, s.heap.get? a = some ob ∧ ob.dict = none := by
  cases x with
  | str z =>
    obtain ⟨t, rfl⟩ := r
    cases (show T = "str" from ty)
    exact ⟨typeIs_str s z t, fun _ e => nomatch e⟩
  | int i =>
    obtain ⟨t, rfl⟩ := r
    cases (show T = "int" from ty)
    exact ⟨typeIs_int s i t, fun _ e => nomatch e⟩
  | ref p =>
    cases r
    rcases ty with ⟨rfl, xs, hq⟩ | ⟨rfl, o, hk, hc, hd⟩ | ⟨rfl, hk⟩ | ⟨rfl, S, n, hk⟩
    · obtain ⟨its, _, pl, _⟩ := I.list hq
      refine ⟨pl.isList.typeIs, fun a e => ?_⟩
      cases e
      obtain ⟨o, n, e, c, hd, _⟩ := pl
      exact ⟨o, e, hd⟩
    · refine ⟨⟨o, I.kIn p o hk, hc⟩, fun a e => ?_⟩
      cases e
      exact ⟨o, I.kIn _ o hk, hd⟩
    · have z : ∃ o, s.heap.get? p = some o ∧ o.ExactDict := by
        rcases hk with ⟨kvs, hk⟩ | ⟨kvs, hk⟩
        · obtain ⟨_, _, _, _, o, _, _, e, ex, _⟩ := I.hok p _ hk
          exact ⟨o, e, ex⟩
        · obtain ⟨_, _, _, _, o, _, _, e, ex, _⟩ := I.hok p _ hk
          exact ⟨o, e, ex⟩
      obtain ⟨o, e, ex⟩ := z
      refine ⟨⟨o, e, ex.1⟩, fun a e2 => ?_⟩
      cases e2
      exact ⟨o, e, ex.2.1⟩
    · obtain ⟨o, _, _, _, e, ex, _⟩ := I.hok p _ hk
      refine ⟨⟨o, e, ex.1⟩, fun a e2 => ?_⟩
      cases e2
      exact ⟨o, e, ex.2.1⟩
  | _ => exact False.elim ty
def tBM (K : PySem.W.Frag) (T : String) (r : V → List V → Hp → VK → Prop) (to : TE) (t : TA) : TE := fun σ H Q => to σ H fun x H1 => tyV K T x H1 ∧ t σ H1 fun xs H2 => r x xs H2 Q
variable {o e : Expr} {es : List Expr} {to : TE} {t : TA} {name : Str} {apos cpos : Pos} {T id : String} {r : V → List V → Hp → VK → Prop}
theorem pe_bm (pa : PlainAttrs T) (slot : Slot T name id) (hty : typeOf (.builtin id) = pure (.type "method_descriptor")) (hm : MtR X id r) (ho : PE X o to) (ha : PA X (e :: es) t)
    (hbase : attributeBase o name X.env (eval o X.env) = eval o X.env := by rfl)
    (hfew : ((backTo cpos (starEach (e :: es) X.env)).all (fun x => !x.1) && (backToKw cpos (keywordEach [] X.env)).all (fun x => x.1.isSome)
      && decide ((e :: es).length + ([] : List Keyword).length + (if ([] : List Keyword).isEmpty then 0 else 1) < 30)) = true := by rfl)
    (hline : (apos.endLine == cpos.line) = true := by rfl) (hs : starEach (e :: es) X.env = (false, eval e X.env) :: starEach es X.env := by rfl) (hplain : (backTo cpos (starEach es X.env)).any (·.1) = false := by rfl) :
    PE X (.Call (.Attribute o name apos) (e :: es) [] cpos) (tBM X.K T r to t) := by
  intro pins s σ H Q I h
  refine wpAny_Call_method_late hbase hfew hline rfl (thn (ho pins s σ H _ I h) fun v s1 ⟨x, H1, I1, r1, ty, q1⟩ => ?_)
  obtain ⟨h1, h2⟩ := tyV_is I1 r1 ty
  refine ⟨T, id, pa, slot, hty, h1, h2, ?_⟩
  have hA := ha cpos pins s1 σ H1 _ I1 q1
  rw [hs] at hA ⊢
  refine Calls.callWith_builtin (by show (false || (backTo cpos (starEach es X.env)).any (·.1)) = false; rw [hplain] <;> rfl) (Calls.evalArgs_plain ?_)
  exact thn hA fun us s2 ⟨vs, H2, I2, r2, q2⟩ => hm pins s2 σ H2 x vs v us Q I2 r1 r2 q2
end
end L2
namespace L2
open PySem PySem.Spec PyProof.Rows
def MtM (X : Cx) (id : String) (r : V → List V → Hp → VK → Prop) : Prop :=
  ∀ (pins : List (Addr × Obj)) (s : Shared) (σ : St) (H : Hp) (x : V) (xs : List V) (v : Value) (us : List Value) (Q : VK), Inv X pins σ H s → RelV x v → Vals xs us → r x xs H Q →
    wpAny (model X.prog X.w) X.A (call (.builtin id) (v :: us)) (EP X pins σ Q) X.xe s
theorem Vals.one : ∀ {x : V} {us : List Value}, Vals [x] us → ∃ u, us = [u] ∧ RelV x u
  | _, _, .cons r .nil => ⟨_, rfl, r⟩
theorem Vals.rep {xs : List V} {us : List Value} (h : Vals xs us) : ∀ k : Nat, Vals (List.replicate k xs).flatten (List.replicate k us).flatten
  | 0 => .nil
  | k + 1 => by
    rw [List.replicate_succ, List.replicate_succ, List.flatten_cons, List.flatten_cons]
    exact Vals.append h (Vals.rep h k)
theorem foldl_rep (its : List Value) : ∀ (k : Nat) (acc : List Value),
    List.foldl (fun x1 x2 => x1 ++ x2) acc.toArray (List.replicate k its.toArray) = (acc ++ (List.replicate k its).flatten).toArray
  | 0, acc => by simp
  | k + 1, acc => by
    have e : acc.toArray ++ its.toArray = (acc ++ its).toArray := by simp
    have e2 : (acc ++ its) ++ (List.replicate k its).flatten = acc ++ (List.replicate (k + 1) its).flatten := by
      rw [List.replicate_succ, List.flatten_cons, List.append_assoc]
    rw [← e2, ← foldl_rep its k (acc ++ its), ← e, List.replicate_succ, List.foldl_cons]
section
variable {X : Cx} {pins : List (Addr × Obj)} {σ : St} {H : Hp} {s : Shared} {l b : Addr} {xs ys zs : List V}
theorem Inv.lset {its its' : List Value} {n : Nat} {f : Array Value → Array Value} {t' : Nat} (I : Inv X pins σ H s) (hH : H l = some (.lst xs))
    (e : s.heap.get? l = some { cls := .type "list", data := .seq its.toArray n }) (hf : f its.toArray = its'.toArray) (hv : Vals ys its') (hz : ys.length ≤ sizeLine) :
    Inv X pins σ (upd H l (.lst ys)) { s with heap := s.heap.update l (Obj.mapSeq f), toks := t' } := by
  have q := PySem.IsL.update e f
  rw [hf] at q
  refine I.write (x := l) (e := l) (by rw [hH]; exact trivial) (.inl rfl) (fun b' u hb hu => (Heap.get?_update_other s.heap (Obj.mapSeq f) (Ne.symm hb)).trans hu) ⟨_, q⟩ ?_
  exact ⟨hz, its', _, hv, q⟩
theorem Inv.lnew {its : List Value} {t' : Nat} (I : Inv X pins σ H s) (hv : Vals ys its) (hz : ys.length ≤ sizeLine) :
    Inv X pins σ (upd H s.heap.objs.size (.lst ys)) { s with heap := s.heap.push { cls := .type "list", data := .seq its.toArray }, toks := t' } :=
  I.laid (fun _ _ q => Heap.get?_push_of_some _ q) (Nat.le_refl _) ⟨hz, its, 0, hv, Heap.get?_push_size _ rfl⟩
theorem Inv.fresh (I : Inv X pins σ H s) : H s.heap.objs.size = none := I.hok.fresh (Nat.le_refl _)
theorem Inv.lstM (I : Inv X pins σ H s) (hH : H l = some (.lst xs)) : xs.length ≤ sizeLine ∧ ∃ (its : List Value) (n : Nat), Vals xs its ∧ xs.length = its.length ∧ s.heap.get? l = some { cls := .type "list", data := .seq its.toArray n } := by
  obtain ⟨z, its, n, r, e⟩ := I.hok l _ hH
  exact ⟨z, its, n, r, r.length, e⟩
theorem notLongL {n : Nat} (h : n ≤ sizeLine) : Builtin.List.listTooLong n = false := by
  unfold Builtin.List.listTooLong
  exact decide_eq_false (by omega)
end
section
variable {X : Cx}
def rAppend : V → List V → Hp → VK → Prop := fun x vs H Q => ∃ l xs y, x = .ref l ∧ vs = [y] ∧ H l = some (.lst xs) ∧ xs.length < sizeLine ∧ Q .non (upd H l (.lst (xs ++ [y])))
theorem mt_append : MtM X "list.append" rAppend := by
  intro pins s σ H x vs v us Q I rx rv h
  obtain ⟨l, xs, y, rfl, rfl, hH, hz, q⟩ := h
  cases rx
  obtain ⟨u, rfl, ru⟩ := rv.one
  obtain ⟨z, its, n, r, hl, e⟩ := I.lstM hH
  refine call_meets F.slot_list_append ⟨_, e, rfl⟩ F.entry_list_append (F.args_list_append_2 _ _) (PySem.list_append l its.toArray n u (by rw [List.size_toArray]; omega)) ⟨e, ?_⟩
  refine ⟨.non, _, I.lset (its' := its ++ [u]) hH e (by simp) (r.append (.cons ru .nil)) ?_, rfl, q⟩
  rw [List.length_append, List.length_singleton]
  omega
def rExtend : V → List V → Hp → VK → Prop := fun x vs H Q => ∃ l b xs zs, x = .ref l ∧ vs = [.ref b] ∧ H l = some (.lst xs) ∧ H b = some (.lst zs) ∧ xs.length + zs.length ≤ sizeLine ∧ Q .non (upd H l (.lst (xs ++ zs)))
theorem mt_extend : MtM X "list.extend" rExtend := by
  intro pins s σ H x vs v us Q I rx rv h
  obtain ⟨l, b, xs, zs, rfl, rfl, hH, hB, hz, q⟩ := h
  cases rx
  obtain ⟨u, rfl, ru⟩ := rv.one
  cases ru
  obtain ⟨z, its, n, r, hl, e⟩ := I.lstM hH
  obtain ⟨z2, its2, n2, r2, hl2, e2⟩ := I.lstM hB
  have hsz : its.toArray.size + its2.toArray.size ≤ sizeLine := by rw [List.size_toArray, List.size_toArray]; omega
  have hlong : ¬ (!its.toArray.isEmpty && Builtin.List.listTooLong (its.toArray.size + its2.toArray.size)) = true := by
    rw [notLongL hsz, Bool.and_false]
    exact Bool.false_ne_true
  refine call_meets F.slot_list_extend ⟨_, e, rfl⟩ F.entry_list_extend (F.args_list_extend_2 _ _)
    (AutoSeq1.list_extend_list_list_0 l its.toArray n b its2.toArray n2 hlong (by rw [List.size_toArray]; omega) (by omega)) ⟨e, e2, ?_⟩
  refine ⟨.non, _, I.lset (its' := its ++ its2) hH e (by simp) (r.append r2) ?_, rfl, q⟩
  rw [List.length_append]
  omega
def rCat : R2 := fun x y H Q => ∃ l b xs zs, x = .ref l ∧ y = .ref b ∧ H l = some (.lst xs) ∧ H b = some (.lst zs) ∧ xs.length + zs.length ≤ sizeLine ∧ ∀ p, H p = none → Q (.ref p) (upd H p (.lst (xs ++ zs)))
theorem op_cat : OpR X (binaryOp .Add) rCat := by
  intro pins s σ H x y v u Q I rx ry h
  obtain ⟨l, b, xs, zs, rfl, rfl, hH, hB, hz, q⟩ := h
  cases rx
  cases ry
  obtain ⟨z, its, n, r, hl, e⟩ := I.lstM hH
  obtain ⟨z2, its2, n2, r2, hl2, e2⟩ := I.lstM hB
  refine PySem.P.add_list e e2 ?_ (by rw [List.size_toArray, List.size_toArray]; omega)
  have ea : its.toArray ++ its2.toArray = (its ++ its2).toArray := by simp
  rw [ea]
  exact ⟨.ref _, _, I.lnew (t' := s.toks) (r.append r2) (by rw [List.length_append]; omega), rfl, q _ I.fresh⟩
def rRep : R2 := fun x y H Q => ∃ l k xs, x = .ref l ∧ y = .int k ∧ H l = some (.lst xs) ∧ -(2 ^ 63) ≤ k ∧ k < 2 ^ 63 ∧ xs.length * k.toNat ≤ sizeLine ∧
  ∀ p, H p = none → Q (.ref p) (upd H p (.lst (List.replicate k.toNat xs).flatten))
theorem len_rep {α : Type} (xs : List α) (k : Nat) : (List.replicate k xs).flatten.length = k * xs.length := by
  induction k with
  | zero => simp
  | succ k ih => rw [List.replicate_succ, List.flatten_cons, List.length_append, ih, Nat.succ_mul, Nat.add_comm]
theorem op_rep : OpR X (binaryOp .Mult) rRep := by
  intro pins s σ H x y v u Q I rx ry h
  obtain ⟨l, k, xs, rfl, rfl, hH, h1, h2, hz, q⟩ := h
  cases rx
  obtain ⟨t, rfl⟩ := ry
  obtain ⟨z, its, n, r, hl, e⟩ := I.lstM hH
  have hlen : its.toArray.size * k.toNat ≤ sizeLine := by rw [List.size_toArray, ← hl]; exact hz
  have hcap : ¬ its.toArray.size * k.toNat > (2 ^ 63 - 1) / 8 := by
    have : (sizeLine : Nat) ≤ (2 ^ 63 - 1) / 8 := by decide
    omega
  have hfit : ¬ (!Builtin.List.listFitsIndex k) = true := by
    rw [fitsIndex_both h1 h2]
    exact Bool.false_ne_true
  have hlong : ¬ Builtin.List.listTooLong (its.toArray.size * k.toNat) = true := by
    rw [notLongL hlen]
    exact Bool.false_ne_true
  have hnew : List.foldl (fun x1 x2 => x1 ++ x2) #[] (List.replicate (if its.toArray.isEmpty = true then 0 else k.toNat) its.toArray) = (List.replicate k.toNat its).flatten.toArray := by
    have f0 : ∀ m : Nat, List.foldl (fun x1 x2 => x1 ++ x2) #[] (List.replicate m its.toArray) = (List.replicate m its).flatten.toArray := fun m => by
      have := foldl_rep its m []
      rw [List.nil_append] at this
      exact this
    rw [f0]
    cases its with
    | nil => simp
    | cons a r' => rw [if_neg (by simp)]
  refine wpAny_binaryOp_repeat_ref (T := "list") (U := "int") (by decide) ⟨_, e, rfl⟩ (fun s' => typeIs_int s' k t) noFill_list_mul F.fills_int_mul F.slot_int_rmul repeat_list F.slot_int_index.lookup
    (call_meets F.slot_int_rmul (typeIs_int s k t) F.entry_int_rmul (F.args_int_rmul_2 _ _) (int___rmul___int_list k t l its.toArray n)
      ⟨e, rfl, ⟨_, e, rfl⟩, call_meets F.slot_list_mul ⟨_, e, rfl⟩ F.entry_list_mul (F.args_list_mul_2 _ _) (AutoListH.list___mul___list_int_3 l its.toArray n k t hfit hcap hlong) ⟨e, ?_⟩⟩)
  rw [hnew]
  exact ⟨.ref _, _, I.lnew (t' := s.toks) (r.rep k.toNat) (by rw [len_rep, Nat.mul_comm]; exact hz), rfl, q _ I.fresh⟩
end
end L2
namespace L2
open PySem PySem.Spec PyProof.Rows
theorem Vals.ints : ∀ {ns : List Int} {us : List Value}, Vals (ns.map V.int) us → IntsAre us ns
  | [], us, h => by
    rw [List.map_nil] at h
    cases h
    exact IntsAre.nil
  | n :: ns, us, h => by
    rw [List.map_cons] at h
    cases h with
    | cons r t =>
      obtain ⟨k, rfl⟩ := r
      exact IntsAre.cons n k (Vals.ints t)
theorem vals_of_ints : ∀ {us : List Value} {ns : List Int}, IntsAre us ns → Vals (ns.map V.int) us
  | _, _, .nil => by rw [List.map_nil]; exact Paired.nil
  | _, _, .cons n t h => by rw [List.map_cons]; exact Paired.cons (show RelV (V.int n) (Value.int n t) from ⟨t, rfl⟩) (vals_of_ints h)
theorem Vals.bls : ∀ {bs : List Bool} {us : List Value}, Vals (bs.map V.bl) us → us = bs.map Value.bool
  | [], us, h => by
    rw [List.map_nil] at h
    cases h
    rfl
  | b :: bs, us, h => by
    rw [List.map_cons] at h
    cases h with
    | cons r t =>
      cases r
      rw [Vals.bls t, List.map_cons]
theorem Vals.ref1 {a : Addr} {us : List Value} (r : Vals [V.ref a] us) : us = [Value.ref a] := by
  cases r with
  | cons r t =>
    cases t
    cases r
    rfl
section
variable {prog : Program} {w : World} {A : Around} {E : Value → Shared → Prop} {s : Shared} {l : Addr} {its : List Value} {ns : List Int} {Q : Value → Shared → Prop}
theorem max_raw (hh : A.handled = none) (hl : s.heap.IsList l its.toArray) (hi : IntsAre its ns) (hne : 0 < ns.length)
    (h : ∀ h' tk M t', (∀ b o, s.heap.get? b = some o → h'.get? b = some o) → M ∈ ns → (∀ a, a ∈ ns → a ≤ M) → Q (.int M t') { s with heap := h', toks := tk }) : wpAny (model prog w) A (call (.builtin "max") [.ref l]) Q E s := by
  obtain ⟨xs, e⟩ := hi.allInts.items
  have hn : numsOf (intItems xs).toList = ns := by rw [← e]; exact hi.numsOf
  rw [nums_intItems] at hn
  subst hn
  rw [e] at hl
  have hsz : 0 < xs.size := by simpa using hne
  refine PySem.max_intList hh hl hsz fun v h' tk hv hk => ?_
  obtain ⟨t, rfl⟩ := intItems_at hv
  obtain ⟨h1, h2⟩ := argBest_gt (numAt xs) (xs.size - 1)
  refine h h' tk _ t hk ?_ fun a ha => ?_
  · rw [numAt_eq]; exact PySem.getD_mem (by rw [List.length_map, Array.length_toList]; omega)
  · obtain ⟨j, hj, rfl⟩ := mem_getD ha
    rw [List.length_map, Array.length_toList] at hj
    rw [← numAt_eq]; exact h2 j (by omega)
theorem min_raw (hh : A.handled = none) (hl : s.heap.IsList l its.toArray) (hi : IntsAre its ns) (hne : 0 < ns.length)
    (h : ∀ h' tk M t', (∀ b o, s.heap.get? b = some o → h'.get? b = some o) → M ∈ ns → (∀ a, a ∈ ns → M ≤ a) → Q (.int M t') { s with heap := h', toks := tk }) : wpAny (model prog w) A (call (.builtin "min") [.ref l]) Q E s := by
  obtain ⟨xs, e⟩ := hi.allInts.items
  have hn : numsOf (intItems xs).toList = ns := by rw [← e]; exact hi.numsOf
  rw [nums_intItems] at hn
  subst hn
  rw [e] at hl
  have hsz : 0 < xs.size := by simpa using hne
  refine PySem.min_intList hh hl hsz fun v h' tk hv hk => ?_
  obtain ⟨t, rfl⟩ := intItems_at hv
  obtain ⟨h1, h2⟩ := argBest_lt (numAt xs) (xs.size - 1)
  refine h h' tk _ t hk ?_ fun a ha => ?_
  · rw [numAt_eq]; exact PySem.getD_mem (by rw [List.length_map, Array.length_toList]; omega)
  · obtain ⟨j, hj, rfl⟩ := mem_getD ha
    rw [List.length_map, Array.length_toList] at hj
    rw [← numAt_eq]; exact h2 j (by omega)
end
section
variable {X : Cx}
def rMax (K : PySem.W.Frag) : List V → Hp → VK → Prop := fun vs H Q => ∃ (a : Addr) (ns : List Int), vs = [V.ref a] ∧ SqL K H a (ns.map V.int) ∧ 0 < ns.length ∧ ∀ m, m ∈ ns → (∀ y, y ∈ ns → y ≤ m) → Q (.int m) H
def rMin (K : PySem.W.Frag) : List V → Hp → VK → Prop := fun vs H Q => ∃ (a : Addr) (ns : List Int), vs = [V.ref a] ∧ SqL K H a (ns.map V.int) ∧ 0 < ns.length ∧ ∀ m, m ∈ ns → (∀ y, y ∈ ns → m ≤ y) → Q (.int m) H
theorem cr_max (hc : X.calm = true) : CallR X (.builtin "max") (rMax X.K) := by
  intro pins s σ H vs us Q I r h
  obtain ⟨a, ns, rfl, hs, hne, q⟩ := h
  obtain ⟨its, rv, hl, _⟩ := I.list hs
  rw [Vals.ref1 r]
  exact max_raw (I.ok.hd hc) hl.isList rv.ints hne fun h' tk m t' hk h1 h2 => ⟨.int _, H, I.kept hk, ⟨_, rfl⟩, q m h1 h2⟩
theorem cr_min (hc : X.calm = true) : CallR X (.builtin "min") (rMin X.K) := by
  intro pins s σ H vs us Q I r h
  obtain ⟨a, ns, rfl, hs, hne, q⟩ := h
  obtain ⟨its, rv, hl, _⟩ := I.list hs
  rw [Vals.ref1 r]
  exact min_raw (I.ok.hd hc) hl.isList rv.ints hne fun h' tk m t' hk h1 h2 => ⟨.int _, H, I.kept hk, ⟨_, rfl⟩, q m h1 h2⟩
end
theorem iter_any {prog : Program} {w : World} {A : Around} {E : Value → Shared → Prop} {s : Shared} {l : Addr} {items : Array Value} {Q : Value → Shared → Prop} (hl : s.heap.IsList l items)
    (h : ∀ s₂ : Shared, s₂ = { s with heap := s.heap.push { cls := .type "list_iterator", data := .fields #[.ref l, .int 0 0] } } →
      (s₂.heap.IsListIter s.heap.objs.size l 0 ∧ s₂.heap.IsList l items) → l ≠ s.heap.objs.size → Q (.ref s.heap.objs.size) s₂) : wpAny (model prog w) A (pyIter (.ref l)) Q E s := by
  have hlt : l < s.heap.objs.size := by obtain ⟨_, e, _⟩ := hl; exact Heap.lt_size e
  exact wpAny_pyIter_list hl (h _ rfl ⟨⟨_, Heap.get?_push_size _ rfl, rfl, rfl⟩, hl.push _⟩ (Nat.ne_of_lt hlt))
theorem truth_bools {prog : Program} {w : World} {A : Around} {bs : List Bool} {its : List Value} (e : its = bs.map Value.bool) :
    TruthOf prog w A (fun i v => its.toArray[i]? = some v) (fun i => bs.getD i false) := fun i v s Q E hv hq => by
  have hv' : its[i]? = some v := by simpa using hv
  rw [e, List.getElem?_map] at hv'
  obtain ⟨b, hb, rfl⟩ := Option.map_eq_some_iff.mp hv'
  have hg : bs.getD i false = b := by rw [List.getD_eq_getElem?_getD, hb] <;> rfl
  have hq' : Q (bs.getD i false) s := hq
  rw [hg] at hq'
  exact wpAny_truthy_bool hq'
theorem any_range : ∀ bs : List Bool, (List.range bs.length).any (fun i => bs.getD i false) = bs.any id
  | [] => rfl
  | b :: bs => by
    rw [List.length_cons, List.range_succ_eq_map, List.any_cons, List.any_map, List.any_cons, ← any_range bs]
    all_goals rfl
theorem all_range : ∀ bs : List Bool, (List.range bs.length).all (fun i => bs.getD i false) = bs.all id
  | [] => rfl
  | b :: bs => by
    rw [List.length_cons, List.range_succ_eq_map, List.all_cons, List.all_map, List.all_cons, ← all_range bs]
    all_goals rfl
section
variable {X : Cx}
def rAny (K : PySem.W.Frag) : List V → Hp → VK → Prop := fun vs H Q => ∃ (a : Addr) (bs : List Bool), vs = [V.ref a] ∧ SqL K H a (bs.map V.bl) ∧ Q (.bl (bs.any id)) H
def rAll (K : PySem.W.Frag) : List V → Hp → VK → Prop := fun vs H Q => ∃ (a : Addr) (bs : List Bool), vs = [V.ref a] ∧ SqL K H a (bs.map V.bl) ∧ Q (.bl (bs.all id)) H
theorem cr_any (hc : X.calm = true) : CallR X (.builtin "any") (rAny X.K) := by
  intro pins s σ H vs us Q I r h
  obtain ⟨a, bs, rfl, hs, q⟩ := h
  obtain ⟨its, rv, hl, _⟩ := I.list hs
  rw [Vals.ref1 r]
  have hb := rv.bls
  refine call_any_walk (iter_any hl.isList fun s₂ e2 st hne => ?_)
  subst e2
  refine ⟨_, _, _, _, _, _, _, rfl, Walks.list (A := X.A.in1) (I.ok.hd hc) _ a hne its.toArray, st, truth_bools hb, fun h' tk hk => ?_⟩
  refine ⟨.bl _, H, I.kept fun b o eo => hk b o (fun hmem => ?_) (Heap.get?_push_of_some _ eo), ?_, q⟩
  · rcases List.mem_cons.mp hmem with e1 | hmem
    · exact absurd (e1 ▸ Heap.lt_size eo) (Nat.lt_irrefl _)
    · cases hmem
  · show Value.bool _ = Value.bool _
    rw [← any_range, hb, List.size_toArray, List.length_map]
theorem cr_all (hc : X.calm = true) : CallR X (.builtin "all") (rAll X.K) := by
  intro pins s σ H vs us Q I r h
  obtain ⟨a, bs, rfl, hs, q⟩ := h
  obtain ⟨its, rv, hl, _⟩ := I.list hs
  rw [Vals.ref1 r]
  have hb := rv.bls
  refine call_all_walk (iter_any hl.isList fun s₂ e2 st hne => ?_)
  subst e2
  refine ⟨_, _, _, _, _, _, _, rfl, Walks.list (A := X.A.in1) (I.ok.hd hc) _ a hne its.toArray, st, truth_bools hb, fun h' tk hk => ?_⟩
  refine ⟨.bl _, H, I.kept fun b o eo => hk b o (fun hmem => ?_) (Heap.get?_push_of_some _ eo), ?_, q⟩
  · rcases List.mem_cons.mp hmem with e1 | hmem
    · exact absurd (e1 ▸ Heap.lt_size eo) (Nat.lt_irrefl _)
    · cases hmem
  · show Value.bool _ = Value.bool _
    rw [← all_range, hb, List.size_toArray, List.length_map]
end
mutual
inductive Dp (K : PySem.W.Frag) (H : Hp) : V → PyData → Prop
  | non : Dp K H .non .none
  | bl (b : Bool) : Dp K H (.bl b) (.bool b)
  | int (i : Int) : Dp K H (.int i) (.int i)
  | str (x : Str) : Dp K H (.str x) (.str x)
  | lst {a : Addr} {xs : List V} {ds : List PyData} : SqL K H a xs → DpAll K H xs ds → Dp K H (.ref a) (.list ds)
  | tup {a : Addr} {xs : List V} {ds : List PyData} : SqT K H a xs → DpAll K H xs ds → Dp K H (.ref a) (.tuple ds)
inductive DpAll (K : PySem.W.Frag) (H : Hp) : List V → List PyData → Prop
  | nil : DpAll K H [] []
  | cons {v : V} {vs : List V} {d : PyData} {ds : List PyData} : Dp K H v d → DpAll K H vs ds → DpAll K H (v :: vs) (d :: ds)
end
section
variable {X : Cx} {pins : List (Addr × Obj)} {σ : St} {H : Hp} {s : Shared}
mutual
theorem Dp.reads (I : Inv X pins σ H s) : ∀ (d : PyData) (v : V) (u : Value), Dp X.K H v d → RelV v u → ∃ as, Reads s.heap u d as
  | .none, _, _, h, r => by
    cases h
    cases r
    exact ⟨_, Reads.none⟩
  | .bool b, _, _, h, r => by
    cases h
    cases r
    exact ⟨_, Reads.bool b⟩
  | .int i, _, _, h, r => by
    cases h
    obtain ⟨t, rfl⟩ := r
    exact ⟨_, Reads.int i t⟩
  | .str x, _, _, h, r => by
    cases h
    obtain ⟨t, rfl⟩ := r
    exact ⟨_, Reads.str x t⟩
  | .list ds, _, _, h, r => by
    cases h with
    | lst hs ha =>
      cases r
      obtain ⟨its, rv, ⟨o, n, ho, hc, _, hd⟩, _⟩ := I.list hs
      obtain ⟨as, hr⟩ := Dp.readsAll I ds _ its ha rv
      exact ⟨_, Reads.list ho hc hd hr⟩
  | .tuple ds, _, _, h, r => by
    cases h with
    | tup hs ha =>
      cases r
      obtain ⟨its, rv, ⟨o, ho, hc, n, hd⟩, _⟩ := I.tuple hs
      obtain ⟨as, hr⟩ := Dp.readsAll I ds _ its ha rv
      exact ⟨_, Reads.tuple ho hc hd hr⟩
  | .dict _, _, _, h, _ => by cases h
theorem Dp.readsAll (I : Inv X pins σ H s) : ∀ (ds : List PyData) (vs : List V) (us : List Value), DpAll X.K H vs ds → Vals vs us → ∃ as, ReadsAll s.heap us ds as
  | [], _, _, h, r => by
    cases h
    cases r
    exact ⟨_, ReadsAll.nil⟩
  | d :: ds, _, _, h, r => by
    cases h with
    | cons h1 h2 =>
      cases r with
      | cons r1 r2 =>
        obtain ⟨as, q1⟩ := Dp.reads I d _ _ h1 r1
        obtain ⟨bs, q2⟩ := Dp.readsAll I ds _ _ h2 r2
        exact ⟨_, ReadsAll.cons q1 q2⟩
end
end
end L2
namespace L2
open PySem PySem.Spec PyProof.Rows
abbrev CellAt (h : Heap) (c : Addr) (v : Option Value) : Prop := h.IsCell c v
def relS (scope sc : Scope) : Scope :=
  { scope with names := scope.names.map fun (n, k) => if (k == .free && sc.kind == .function && sc.names.lookup n == some .cell) then (n, .cell) else (n, k) }
def cloFrom (cells : List (Str × Addr)) : List (Str × NameKind) → List (Str × Addr) → List (Str × Addr)
  | [], acc => acc
  | (n, k) :: r, acc => if k == .free then cloFrom cells r ((n, (cells.lookup n).getD 0) :: acc) else cloFrom cells r acc
theorem closure_loop (env : Env) (f : Str × NameKind → List (Str × Addr) → Sem (ForInStep (List (Str × Addr))))
    (hf : ∀ n k c, f (n, k) c = if k == .free then (do let a ← cellOf env n; pure (.yield ((n, a) :: c))) else pure (.yield c)) :
    ∀ (names : List (Str × NameKind)) (acc : List (Str × Addr)), (∀ y ∈ names, y.2 = .free → ∃ c, env.cells.lookup y.1 = some c) → forIn names acc f = pure (cloFrom env.cells names acc)
  | [], acc, _ => by rw [List.forIn_nil]; rfl
  | (n, k) :: r, acc, h => by
    rw [List.forIn_cons, hf]
    have ih := fun acc => closure_loop env f hf r acc fun y hy => h y (List.mem_cons_of_mem _ hy)
    unfold cloFrom
    by_cases hk : (k == NameKind.free) = true
    · rw [if_pos hk, if_pos hk]
      obtain ⟨c, hc⟩ := h (n, k) List.mem_cons_self (by simpa using hk)
      have e : cellOf env n = pure c := by unfold cellOf; rw [hc]
      rw [e]
      have e2 : (env.cells.lookup n).getD 0 = c := by rw [hc]; rfl
      rw [e2]
      exact ih _
    · rw [if_neg hk, if_neg hk]
      exact ih _
theorem closure_ok {scope : Scope} {env : Env} (h : ∀ y ∈ scope.names, y.2 = .free → ∃ c, env.cells.lookup y.1 = some c) : closureFor scope env = pure (cloFrom env.cells scope.names []) := by
  simp only [closureFor]
  rw [closure_loop env _ (fun n k c => rfl) scope.names [] h]
  rfl
theorem mem_lookup {α : Type} : ∀ {l : List (Str × α)} {n : Str} {c : α}, (n, c) ∈ l → ∃ c', l.lookup n = some c'
  | (k, v) :: r, n, c, h => by
    rw [List.lookup_cons]
    cases hb : n == k with
    | true => exact ⟨_, rfl⟩
    | false =>
      rcases List.mem_cons.mp h with e | h
      · cases e; simp at hb
      · exact mem_lookup h
theorem cloFrom_mem {cells : List (Str × Addr)} : ∀ {names : List (Str × NameKind)} {acc : List (Str × Addr)} {n : Str} {c : Addr}, (n, c) ∈ cloFrom cells names acc → (n, c) ∈ acc ∨ ((n, .free) ∈ names ∧ c = (cells.lookup n).getD 0)
  | [], _, _, _, h => .inl h
  | (m, k) :: r, acc, n, c, h => by
    unfold cloFrom at h
    split at h
    · rename_i hk
      have hk : k = .free := by simpa using hk
      rcases cloFrom_mem h with h | ⟨h1, h2⟩
      · rcases List.mem_cons.mp h with e | h
        · cases e; exact .inr ⟨hk ▸ List.mem_cons_self, rfl⟩
        · exact .inl h
      · exact .inr ⟨List.mem_cons_of_mem _ h1, h2⟩
    · rcases cloFrom_mem h with h | ⟨h1, h2⟩
      · exact .inl h
      · exact .inr ⟨List.mem_cons_of_mem _ h1, h2⟩
theorem cloFrom_acc {cells : List (Str × Addr)} : ∀ {names : List (Str × NameKind)} {acc : List (Str × Addr)} {p : Str × Addr}, p ∈ acc → p ∈ cloFrom cells names acc
  | [], _, _, h => h
  | (m, k) :: r, acc, p, h => by
    unfold cloFrom
    split
    · exact cloFrom_acc (List.mem_cons_of_mem _ h)
    · exact cloFrom_acc h
theorem cloFrom_has {cells : List (Str × Addr)} : ∀ {names : List (Str × NameKind)} {acc : List (Str × Addr)} {n : Str}, (n, .free) ∈ names → (n, (cells.lookup n).getD 0) ∈ cloFrom cells names acc
  | (m, k) :: r, acc, n, h => by
    unfold cloFrom
    rcases List.mem_cons.mp h with e | h
    · cases e
      exact cloFrom_acc List.mem_cons_self
    · split
      · exact cloFrom_has h
      · exact cloFrom_has h
theorem cells_mem : ∀ {names : List (Str × NameKind)} {h : Heap} {acc : List (Str × Addr)} {x : Str} {c : Addr}, (x, c) ∈ cellsFrom h.objs.size names acc →
    (x, c) ∈ acc ∨ ((x, .cell) ∈ names ∧ h.objs.size ≤ c ∧ CellAt (pushCells h names) c none)
  | [], _, _, _, _, h => .inl h
  | (n, k) :: r, h, acc, x, c, hm => by
    unfold cellsFrom at hm
    unfold pushCells
    split at hm
    · rename_i hk
      rw [if_pos hk]
      have hk : k = .cell := by simpa using hk
      rw [← Heap.size_push h { cls := .type "cell", data := .cell none }] at hm
      rcases cells_mem hm with hm | ⟨h1, h2, h3⟩
      · rcases List.mem_cons.mp hm with e | hm
        · cases e
          exact .inr ⟨hk ▸ List.mem_cons_self, Nat.le_refl _, _, pushCells_keeps r _ _ _ (Heap.get?_push_size _ rfl), rfl⟩
        · exact .inl hm
      · rw [Heap.size_push] at h2
        exact .inr ⟨List.mem_cons_of_mem _ h1, Nat.le_of_succ_le h2, h3⟩
    · rename_i hk
      rw [if_neg hk]
      rcases cells_mem hm with hm | ⟨h1, h2, h3⟩
      · exact .inl hm
      · exact .inr ⟨List.mem_cons_of_mem _ h1, h2, h3⟩
theorem cells_acc : ∀ {names : List (Str × NameKind)} {n : Nat} {acc : List (Str × Addr)} {p : Str × Addr}, p ∈ acc → p ∈ cellsFrom n names acc
  | [], _, _, _, h => h
  | (m, k) :: r, n, acc, p, h => by
    unfold cellsFrom
    split
    · exact cells_acc (List.mem_cons_of_mem _ h)
    · exact cells_acc h
theorem cells_has : ∀ {names : List (Str × NameKind)} {n : Nat} {acc : List (Str × Addr)} {x : Str}, (x, .cell) ∈ names → ∃ c, (x, c) ∈ cellsFrom n names acc
  | (m, k) :: r, n, acc, x, h => by
    unfold cellsFrom
    rcases List.mem_cons.mp h with e | h
    · cases e
      exact ⟨n, cells_acc List.mem_cons_self⟩
    · split
      · exact cells_has h
      · exact cells_has h
theorem cells_inj : ∀ {names : List (Str × NameKind)} {h : Heap} {acc : List (Str × Addr)} {x y : Str} {c : Addr}, (∀ p ∈ acc, p.2 < h.objs.size) → (∀ x y c, (x, c) ∈ acc → (y, c) ∈ acc → x = y) →
    (x, c) ∈ cellsFrom h.objs.size names acc → (y, c) ∈ cellsFrom h.objs.size names acc → x = y
  | [], _, _, _, _, _, _, hi, h1, h2 => hi _ _ _ h1 h2
  | (n, k) :: r, h, acc, x, y, c, hl, hi, h1, h2 => by
    unfold cellsFrom at h1 h2
    split at h1
    · rename_i hk
      rw [if_pos hk] at h2
      rw [← Heap.size_push h { cls := .type "cell", data := .cell none }] at h1 h2
      refine cells_inj (h := h.push _) (fun p hp => ?_) (fun x y c a b => ?_) h1 h2
      · rw [Heap.size_push]
        rcases List.mem_cons.mp hp with rfl | hp
        · exact Nat.lt_succ_self _
        · exact Nat.lt_succ_of_lt (hl p hp)
      · rcases List.mem_cons.mp a with e | a <;> rcases List.mem_cons.mp b with e' | b
        · cases e; cases e'; rfl
        · cases e; exact absurd (hl _ b) (Nat.lt_irrefl _)
        · cases e'; exact absurd (hl _ a) (Nat.lt_irrefl _)
        · exact hi _ _ _ a b
    · rename_i hk
      rw [if_neg hk] at h2
      exact cells_inj hl hi h1 h2
theorem newEnv_comp {M : Model} {A : Around} {E : Value → Shared → Prop} {s : Shared} {scope : Scope} {globals : Addr} {closure : List (Str × Addr)} {qual : Str} {func : Option Addr} {code : Value} {around : Env} {builtins : Addr} {Q : Env → Shared → Prop}
    (h : Q (newEnv scope s.heap.objs.size globals (cellsFrom (s.heap.objs.size + 1) scope.names closure) qual func code (some around) builtins)
      { s with heap := pushCells (s.heap.push { cls := .type "dict", data := .dict #[] }) scope.names }) :
    wpAny M A (newFunctionEnv scope globals closure [] qual func code (some around) builtins) Q E s := by
  simp only [newFunctionEnv, Option.isSome_some, if_true]
  refine wpAny_bind (wpAny_alloc ?_)
  refine wpAny_bind (wpAny_layCells _ (fun n k c => rfl) scope.names closure _ _ ?_)
  rw [show ({ s with heap := s.heap.push { cls := .type "dict", data := .dict #[] } } : Shared).heap.objs.size = s.heap.objs.size + 1 from Heap.size_push ..]
  rw [List.forIn_nil]
  exact wpAny_bind (wpAny_pure (wpAny_pure h))
theorem lookup_relS {sc : Scope} : ∀ {names : List (Str × NameKind)} {x : Str} {k : NameKind},
    (names.map fun (n, k) => if (k == NameKind.free && sc.kind == .function && sc.names.lookup n == some .cell) then (n, NameKind.cell) else (n, k)).lookup x = some k →
    ∃ k', names.lookup x = some k' ∧ (k = k' ∨ (k' = .free ∧ k = .cell))
  | [], _, _, h => by simp at h
  | (n, k₀) :: r, x, k, h => by
    have ih := @lookup_relS sc r x k
    have h' : List.lookup x ((if (k₀ == NameKind.free && sc.kind == .function && sc.names.lookup n == some .cell) = true then (n, NameKind.cell) else (n, k₀)) :: (r.map _)) = some k := h
    cases hx : x == n with
    | true =>
      simp only [List.lookup_cons, hx]
      by_cases hc : (k₀ == NameKind.free && sc.kind == .function && sc.names.lookup n == some .cell) = true
      · rw [if_pos hc] at h'
        simp only [List.lookup_cons, hx] at h'
        cases h'
        simp only [Bool.and_eq_true, beq_iff_eq] at hc
        exact ⟨k₀, rfl, .inr ⟨hc.1.1, rfl⟩⟩
      · rw [if_neg hc] at h'
        simp only [List.lookup_cons, hx] at h'
        cases h'
        exact ⟨_, rfl, .inl rfl⟩
    | false =>
      simp only [List.lookup_cons, hx]
      by_cases hc : (k₀ == NameKind.free && sc.kind == .function && sc.names.lookup n == some .cell) = true
      · rw [if_pos hc] at h'
        simp only [List.lookup_cons, hx] at h'
        exact ih h'
      · rw [if_neg hc] at h'
        simp only [List.lookup_cons, hx] at h'
        exact ih h'
structure BlkOk (N : List Str) (sc scope : Scope) (own : List (Str × Nat)) : Prop where
  kind : scope.kind = .function
  uniq : ∀ y ∈ scope.names, scope.names.lookup y.1 = some y.2
  ix : ∀ p ∈ own, N[p.2]? = some p.1
  free : ∀ y ∈ scope.names, y.2 = .free → sc.names.lookup y.1 = some .cell ∨ sc.names.lookup y.1 = some .free
  own : ∀ y ∈ scope.names, y.2 = .local ∨ y.2 = .cell → y.1 ∈ own.map (·.1) ∨ y.1 ∉ N
def wipe (σ : St) : List Nat → St
  | [] => σ
  | v :: vs => (wipe σ vs).set v none
theorem wipe_length (σ : St) : ∀ vs : List Nat, (wipe σ vs).length = σ.length
  | [] => rfl
  | v :: vs => by unfold wipe; rw [List.length_set, wipe_length σ vs]
theorem wipe_some {σ : St} {i : Nat} {x : V} : ∀ {vs : List Nat}, (wipe σ vs)[i]? = some (some x) → σ[i]? = some (some x) ∧ i ∉ vs
  | [], h => ⟨h, by simp⟩
  | v :: vs, h => by
    unfold wipe at h
    by_cases hi : v = i
    · subst hi
      by_cases hv : v < (wipe σ vs).length
      · rw [List.getElem?_set_self hv] at h; cases h
      · rw [List.getElem?_eq_none (by simpa using hv)] at h; cases h
    · rw [List.getElem?_set_ne hi] at h
      obtain ⟨h1, h2⟩ := wipe_some h
      exact ⟨h1, by simp only [List.mem_cons, not_or]; exact ⟨fun e => hi e.symm, h2⟩⟩
abbrev Cx.blk (X : Cx) (s : Shared) (H : Hp) (scope : Scope) (cenv : Env) (fp : List Addr) : Cx := { X with s_0 := s, H_0 := H, env := cenv, outer := X.stack, ex := fp, fn := fun x => scope.names.lookup x == some .cell, pn := [], xe := fun _ _ => False }
section
variable {X : Cx} {pins : List (Addr × Obj)} {σ : St} {H : Hp} {s : Shared}
theorem block_start {scope : Scope} {own : List (Str × Nat)} {fp : List Addr} (I : Inv X pins σ H s) (ok : BlkOk X.N X.env.scope scope own) (hN : X.N.Nodup) (hfp : ∀ b ∈ fp, FpOk X pins H b ∧ b < s.heap.objs.size) :
    Inv (X.blk s H scope (compEnvC scope (cellsFrom (s.heap.objs.size + 1) scope.names (cloFrom X.env.cells scope.names [])) s.heap.objs.size X.env) fp) [] (wipe σ (own.map (·.2))) H { s with heap := pushCells (s.heap.push { cls := .type "dict", data := .dict #[] }) scope.names } := by
  have hfree : ∀ y ∈ scope.names, y.2 = .free → ∃ c, X.env.cells.lookup y.1 = some c := fun y hy e => by
    rcases ok.free y hy e with k | k
    · exact I.ok.has _ (.inl k)
    · exact I.ok.has _ (.inr k)
  generalize hcenv : compEnvC scope (cellsFrom (s.heap.objs.size + 1) scope.names (cloFrom X.env.cells scope.names [])) s.heap.objs.size X.env = cenv
  have kp : ∀ b o, s.heap.get? b = some o → (pushCells (s.heap.push { cls := .type "dict", data := .dict #[] }) scope.names).get? b = some o := fun b o e => pushCells_keeps _ _ _ _ (Heap.get?_push_of_some _ e)
  have hL : cenv.locals = s.heap.objs.size := by rw [← hcenv]; rfl
  have hcl : cenv.cells = cellsFrom (s.heap.objs.size + 1) scope.names (cloFrom X.env.cells scope.names []) := by rw [← hcenv]; rfl
  have hsc : cenv.scope = relS scope X.env.scope := by rw [← hcenv]; rfl
  rw [← Heap.size_push s.heap { cls := .type "dict", data := .dict #[] }] at hcl
  have cm : ∀ {y c}, (y, c) ∈ cloFrom X.env.cells scope.names [] → X.env.cells.lookup y = some c ∧ c < s.heap.objs.size := fun {y c} hm => by
    rcases cloFrom_mem hm with hm | ⟨h1, rfl⟩
    · cases hm
    · obtain ⟨c, hc⟩ := hfree _ h1 rfl
      rw [hc]
      obtain ⟨w, z⟩ := I.cell _ _ hc
      exact ⟨rfl, z.lt⟩
  have mem : ∀ {y c}, cenv.cells.lookup y = some c → (X.env.cells.lookup y = some c ∧ c < s.heap.objs.size) ∨ (s.heap.objs.size + 1 ≤ c ∧ CellAt (pushCells (s.heap.push { cls := .type "dict", data := .dict #[] }) scope.names) c none) := fun {y c} e => by
    rw [hcl] at e
    rcases cells_mem (PySem.mem_of_lookup e) with hm | ⟨_, h2, h3⟩
    · exact .inl (cm hm)
    · rw [Heap.size_push] at h2; exact .inr ⟨h2, h3⟩
  have look : ∀ {y}, scope.names.lookup y = some .free → ∃ c, cenv.cells.lookup y = some c ∧ X.env.cells.lookup y = some c := fun {y} hl => by
    have hy : (y, NameKind.free) ∈ scope.names := PySem.mem_of_lookup hl
    obtain ⟨c', e'⟩ := mem_lookup (cells_acc (names := scope.names) (n := (s.heap.push { cls := .type "dict", data := .dict #[] }).objs.size) (cloFrom_has (cells := X.env.cells) (acc := []) hy))
    rw [← hcl] at e'
    refine ⟨c', e', ?_⟩
    rw [hcl] at e'
    rcases cells_mem (PySem.mem_of_lookup e') with hm | ⟨h1, _, _⟩
    · exact (cm hm).1
    · have := ok.uniq _ h1
      rw [hl] at this; cases this
  have okB : (X.blk s H scope cenv fp).Ok := by
    refine ⟨I.ok.mod, by show cenv.scope.kind = _; rw [hsc]; exact ok.kind, by show cenv.globals = _; rw [← hcenv]; exact I.ok.glob, by show cenv.builtins = _; rw [← hcenv]; exact I.ok.blt, by show s.heap.objs.size ≤ cenv.locals; rw [hL]; exact Nat.le_refl _,
      fun y z c e1 e2 => ?_, fun y hy => ?_, fun y c z e => ?_, I.ok.hd, I.ok.frames, .inl rfl, fun b hb => ⟨?_, fun y c e z => ?_⟩, I.bs, Nat.le_trans I.ok.bsz I.sz, fun b o e hb => ?_, fun b hb z => ?_, I.stack, I.stkFree⟩
    · have e1 : cenv.cells.lookup y = some c := e1
      have e2 : cenv.cells.lookup z = some c := e2
      rw [hcl] at e1 e2
      refine cells_inj (fun p hp => ?_) (fun y z c a b => I.ok.inj y z c (cm a).1 (cm b).1) (PySem.mem_of_lookup e1) (PySem.mem_of_lookup e2)
      rw [Heap.size_push]
      exact Nat.lt_succ_of_lt (cm (y := p.1) (c := p.2) hp).2
    · show ∃ c, cenv.cells.lookup y = some c
      have key : ∀ k, cenv.kindOf y = some k → (k = .cell ∨ k = .free) → ∃ c, cenv.cells.lookup y = some c := fun k hk hk' => by
        unfold Env.kindOf at hk
        rw [hsc] at hk
        obtain ⟨k', e, r⟩ := lookup_relS hk
        have : k' = .cell ∨ k' = .free := by
          rcases r with rfl | ⟨rfl, _⟩
          · exact hk'
          · exact .inr rfl
        rcases this with rfl | rfl
        · obtain ⟨c, hm⟩ := cells_has (n := (s.heap.push { cls := .type "dict", data := .dict #[] }).objs.size) (acc := cloFrom X.env.cells scope.names []) (PySem.mem_of_lookup e)
          obtain ⟨c', e'⟩ := mem_lookup hm
          exact ⟨c', by rw [hcl]; exact e'⟩
        · obtain ⟨c, h1, _⟩ := look e
          exact ⟨c, h1⟩
      rcases hy with hy | hy
      · exact key _ hy (.inl rfl)
      · exact key _ hy (.inr rfl)
    · have z : (scope.names.lookup y == some NameKind.cell) = true := z
      have z : scope.names.lookup y = some .cell := by simpa using z
      have e : cenv.cells.lookup y = some c := e
      rw [hcl] at e
      rcases cells_mem (PySem.mem_of_lookup e) with hm | ⟨_, h2, _⟩
      · rcases cloFrom_mem hm with hm | ⟨h1, _⟩
        · cases hm
        · have q := ok.uniq _ h1
          rw [z] at q; cases q
      · rw [Heap.size_push] at h2
        exact Nat.le_of_succ_le h2
    · show b ≠ cenv.locals
      rw [hL]; exact Nat.ne_of_lt (hfp b hb).2
    · have e : cenv.cells.lookup y = some c := e
      rcases mem e with ⟨h1, _⟩ | ⟨h1, _⟩
      · exact (hfp b hb).1.2.2.2.2.1 y c h1 z
      · have h2 : s.heap.objs.size + 1 ≤ b := by rw [← z]; exact h1
        exact absurd (Nat.lt_of_lt_of_le (hfp b hb).2 (Nat.le_of_succ_le h2)) (Nat.lt_irrefl _)
    · rcases (hfp b hb).1.2.2.2.1 with z | z
      · exact I.ok.noex b o e z
      · exact absurd (Nat.lt_of_lt_of_le (Heap.lt_size e) (Nat.le_trans I.ok.bsz z)) (Nat.lt_irrefl _)
    · rcases List.mem_cons.mp (I.stkSub b z) with z | z
      · exact (hfp b hb).1.2.1 z
      · exact (hfp b hb).1.2.2.1 z
  refine ⟨okB, rfl, I.bare, Un.kept kp, ⟨fun _ => none, ?_, fun i y av e1 e2 e3 => ?_⟩, fun y c e => ?_, ?_, fun y c e => ?_, fun p hp => ?_, I.hok.kept kp, by rw [wipe_length]; exact I.len⟩
  · show Heap.Ns _ cenv.locals _
    rw [hL]
    exact Heap.Ns.keeps (Heap.Ns.new ..) fun b o e => pushCells_keeps _ _ _ _ e
  · obtain ⟨e2, hne⟩ := wipe_some e2
    have hfr : scope.names.lookup y = some .free ∧ (cenv.kindOf y = some .cell ∨ cenv.kindOf y = some .free) := by
      have key : ∀ k, cenv.scope.names.lookup y = some k → k = .local ∨ k = .cell ∨ k = .free → scope.names.lookup y = some .free ∧ (cenv.kindOf y = some .cell ∨ cenv.kindOf y = some .free) := fun k hk hk' => by
        have hk0 := hk
        rw [hsc] at hk
        obtain ⟨k', e, r⟩ := lookup_relS hk
        have no : ¬ (k' = .local ∨ k' = .cell) := fun hh => by
          rcases ok.own _ (PySem.mem_of_lookup e) hh with e' | e'
          · obtain ⟨p, hp, hpy⟩ := List.mem_map.mp e'
            have e3 := ok.ix p hp
            have : p.1 = y := hpy
            rw [this] at e3
            exact hne (List.mem_map.mpr ⟨p, hp, nodup_ix hN e3 e1⟩)
          · exact e' (List.mem_of_getElem? e1)
        rcases r with rfl | ⟨rfl, rfl⟩
        · rcases hk' with rfl | rfl | rfl
          · exact absurd (.inl rfl) no
          · exact absurd (.inr rfl) no
          · exact ⟨e, .inr hk0⟩
        · exact ⟨e, .inl hk0⟩
      have e3 : Vis cenv.scope y := e3
      rcases e3 with e3 | e3 | e3
      · exact key _ e3 (.inl rfl)
      · exact key _ e3 (.inr (.inl rfl))
      · exact key _ e3 (.inr (.inr rfl))
    obtain ⟨m, hn, hl⟩ := I.loc
    have hvis : Vis X.env.scope y := (ok.free _ (PySem.mem_of_lookup hfr.1) rfl).elim (fun k => .inr (.inl k)) (fun k => .inr (.inr k))
    obtain ⟨w, r, q⟩ := hl i y av e1 e2 hvis
    refine ⟨w, r, .inr ⟨hfr.2, ?_⟩⟩
    obtain ⟨c, h1, h2⟩ := look hfr.1
    rcases q with ⟨k, _⟩ | ⟨_, c', e', z⟩
    · have k : X.env.scope.names.lookup y = some .local := k
      rcases ok.free _ (PySem.mem_of_lookup hfr.1) rfl with k' | k' <;> rw [show X.env.scope.names.lookup y = _ from k'] at k <;> cases k
    · rw [h2] at e'; cases e'
      exact ⟨c, h1, z.keeps kp⟩
  · have e : cenv.cells.lookup y = some c := e
    rcases mem e with ⟨h1, _⟩ | ⟨_, z⟩
    · obtain ⟨w, z⟩ := I.cell y c h1
      exact ⟨w, z.keeps kp⟩
    · exact ⟨_, z⟩
  · show H cenv.locals = none
    rw [hL]; exact I.hok.fresh (Nat.le_refl _)
  · have e : cenv.cells.lookup y = some c := e
    rcases mem e with ⟨h1, _⟩ | ⟨h1, _⟩
    · exact I.freeC y c h1
    · exact I.hok.fresh (Nat.le_of_succ_le h1)
  · exact absurd (show p ∈ ([] : List (Addr × Obj)) ++ [] from hp) (by simp)
theorem app_ok {E : Value → Shared → Prop} {D : Addr} {xs : List V} {y : V} {v : Value} {Q : Value → Shared → Prop} (I : Inv X pins σ H s) (hD : H D = some (.lst xs)) (hz : xs.length < sizeLine) (r : RelV y v)
    (h : ∀ s', Inv X pins σ (upd H D (.lst (xs ++ [y]))) s' → Q .none s') : wpAny (model X.prog X.w) X.A (call (.builtin "list.append") [.ref D, v]) Q E s := by
  obtain ⟨hz', its, n, ri, e⟩ := I.hok D _ hD
  have hl := ri.length
  refine append_at (hsz := by rw [List.size_toArray]; omega) e fun h' sb ho' => ?_
  refine h { s with heap := h' } (I.write (t' := s.toks) (by rw [hD]; trivial) (.inl rfl) (fun b u hb q => (sb.2 b hb).trans q) ⟨_, ho'⟩ ⟨by rw [List.length_append]; exact hz, its ++ [v], n + 1, ri.append (.cons r .nil), ?_⟩)
  rw [ho']
  simp
def PTs (X : Cx) (ifs : List Expr) (t : TT) : Prop :=
  ∀ (pins : List (Addr × Obj)) (s : Shared) (σ : St) (H : Hp) (Q : Bool → Hp → Prop), Inv X pins σ H s → t σ H Q →
    wpAny (model X.prog X.w) X.A (forIn ifs true fun c r => if r = true then do let ok ← isTrue c X.env (eval c X.env); pure (ForInStep.yield ok) else pure (ForInStep.yield r)) (TP X pins σ Q) X.xe s
def tYes : TT := fun _ H Q => Q true H
theorem pts_nil : PTs X [] tYes := fun _ _ _ H _ I h => wpAny_tests_nil ⟨H, I, h⟩
theorem pts_one {c : Expr} {t : TT} (h : PT X c t) : PTs X [c] t := fun pins s σ H Q I hw => wpAny_tests_one (h pins s σ H Q I hw)
end
theorem thnF {α : Type} {t : Sem α} {Q Q' : α → Shared → Prop} {M : Model} {A : Around} {E : Value → Shared → Prop} {s : Shared} (h : wpAny M A t Q (fun _ _ => False) s) (hQ : ∀ a s, Q a s → Q' a s) : wpAny M A t Q' E s := wpAny_mono h hQ fun _ _ z => False.elim z
theorem compLoop_any {prog : Program} {w : World} {A : Around} {R : Result → Shared → Prop} {s : Shared} {elt target iter : Expr} {ifs : List Expr} {scope : Scope} {pos : Pos} {it acc : Value} {env : Env} (I : Nat → Shared → Prop)
    (turn : ∀ n s, I n s → wpAny (model prog w) A (pyNext it) (fun r s₁ => match r with
      | none => R (.ok .next) s₁
      | some v => wpAny (model prog w) A (letOwnedTupleGo target it v) (fun _ s₁' => wpAny (model prog w) A (assign target env v) (fun _ s₂ =>
          wpAny (model prog w) A (forIn ifs true fun c r => if r = true then do let ok ← isTrue c env (eval c env); pure (ForInStep.yield ok) else pure (ForInStep.yield r)) (fun ok s₃ =>
            if ok = true then wpAny (model prog w) A (eval elt env) (fun x s₄ =>
              wpAny (model prog w) A (call (.builtin "list.append") [acc, x]) (fun _ s₅ => ∃ m, m < n ∧ I m s₅) (notedBy (model prog w) A env fun e s' => R (.error e) s') s₄) (notedBy (model prog w) A env fun e s' => R (.error e) s') s₃
            else ∃ m, m < n ∧ I m s₃) (notedBy (model prog w) A env fun e s' => R (.error e) s') s₂) (notedBy (model prog w) A env fun e s' => R (.error e) s') s₁') (notedBy (model prog w) A env fun e s' => R (.error e) s') s₁) (notedBy (model prog w) A env fun e s' => R (.error e) s') s)
    (n : Nat) (h : I n s) :
    codeAny (model prog w) A (.compLoop (.ListComp elt [⟨target, iter, ifs, 0⟩] scope pos) 0 it acc env) R s := by
  refine codeAny_loop rfl I (fun n s hI => ?_) n h
  show wpAny _ A ((compTurn (.ListComp elt [⟨target, iter, ifs, 0⟩] scope pos) 0 it acc env).onRaise (fun x => do noteFrame x env; theTreesLotGoes x)) _ _ s
  refine wpAny_noted ?_
  rw [compTurn_list]
  refine wpAny_bind (wpAny_standAt (wpAny_bind (wpAny_mono (turn n s hI) (fun r s₁ h₁ => ?_) fun _ _ h' => h')))
  cases r with
  | none => exact wpAny_pure h₁
  | some v =>
    refine wpAny_bind (wpAny_mono h₁ (fun _ s₁' h₁' => ?_) fun _ _ h' => h')
    refine wpAny_bind (wpAny_mono h₁' (fun _ s₂ h₂ => wpAny_bind (wpAny_mono h₂ (fun ok s₃ h₃ => ?_) fun _ _ h' => h')) fun _ _ h' => h')
    cases ok with
    | false => exact wpAny_pure ⟨rfl, h₃⟩
    | true =>
      exact wpAny_bind (wpAny_bind (wpAny_mono h₃ (fun x s₄ h₄ => wpAny_bind (wpAny_mono h₄ (fun _ s₅ h₅ => wpAny_pure (wpAny_pure ⟨rfl, h₅⟩)) fun _ _ h' => h')) fun _ _ h' => h'))
section
variable {X : Cx}
def tLc (wi : TI) (g : TG) (tt : TT) (te : TE) (vs : List Nat) : TE := fun σ H Q => wi σ H fun J H1 => ∀ D, H1 D = none → ∃ W : Nat → Nat → Hp → Prop, (∃ m, W 0 m (upd H1 D (.lst []))) ∧ ∀ i m H, W i m H →
  (J.stop i H ∧ Q (.ref D) H) ∨ (J.go i H ∧ ∃ Nx : Hp → Prop, (∀ H', Nx H' → ∃ m', m' < m ∧ W (i + 1) m' H') ∧ ∀ x H', J.yld i H x H' → g x (wipe σ vs) H' fun σ2 H2 => wipe σ2 vs = wipe σ vs ∧ tt σ2 H2 fun b H3 =>
    if b = true then te σ2 H3 fun y H4 => ∃ acc, H4 D = some (.lst acc) ∧ acc.length < sizeLine ∧ Nx (upd H4 D (.lst (acc ++ [y]))) else Nx H3)
theorem lc_core {pins : List (Addr × Obj)} {s : Shared} {σ : St} {H : Hp} {Q : VK} {elt tg iter : Expr} {ifs : List Expr} {scope : Scope} {own : List (Str × Nat)} {pos pos' : Pos} {wi : TI} {g : TG} {tt : TT} {te : TE} {use : Option (Value → Sem Unit)} {Qf : Value → Shared → Prop}
    (hc : X.calm = true) (hN : X.N.Nodup) (I : Inv X pins σ H s) (hi : PI X tg iter wi) (ok : BlkOk X.N X.env.scope scope own)
    (hg : ∀ (s : Shared) (H : Hp) (C : Addr) (cl : List (Str × Addr)) (fp : List Addr), PG (X.blk s H scope (compEnvC scope cl C X.env) fp) tg g) (ht : ∀ (s : Shared) (H : Hp) (C : Addr) (cl : List (Str × Addr)) (fp : List Addr), PTs (X.blk s H scope (compEnvC scope cl C X.env) fp) ifs tt)
    (he : ∀ (s : Shared) (H : Hp) (C : Addr) (cl : List (Str × Addr)) (fp : List Addr), PE (X.blk s H scope (compEnvC scope cl C X.env) fp) elt te) (hs : ∀ x, foldedSetIterable iter X.env x = pure x)
    (h : tLc wi g tt te (own.map (·.2)) σ H Q)
    (hRR : ∀ D C s' m H', Inv X pins σ H' s' → Q (.ref D) H' → s'.heap.Ns C m → FpOk X pins H' C → compPost (model X.prog X.w) X.A X.xe use Qf (.ref D) C (.ok .next) s') :
    wpAny (model X.prog X.w) X.A (comprehension (.ListComp elt [⟨tg, iter, ifs, 0⟩] scope pos) scope X.env pos' (newList []) false (eval iter X.env) use) Qf X.xe s := by
  have hfree : ∀ y ∈ scope.names, y.2 = .free → ∃ c, X.env.cells.lookup y.1 = some c := fun y hy e => by
    rcases ok.free y hy e with k | k
    · exact I.ok.has _ (.inl k)
    · exact I.ok.has _ (.inr k)
  refine wpAny_comprehension_free (use := use) rfl hs (closure_ok hfree) ok.kind (fun y hy e => by rw [ok.uniq y hy, e])
    (thn (hi pins s σ H _ I h) fun xv s1 hx => thn hx fun itv s2 h2 => ?_)
  obtain ⟨it, fp, tn, J, H2, e, I2, T, st2, f2, q⟩ := h2
  subst e
  refine wpAny_newObj_type (newEnv_comp ?_) (by show 0 ≤ sizeLine; decide)
  generalize hD : s2.heap.objs.size = D
  have hDn : H2 D = none := I2.hok.fresh (Nat.le_of_eq hD)
  obtain ⟨W, ⟨m0, w0⟩, turn⟩ := q D hDn
  generalize hs3 : ({ s2 with heap := s2.heap.push { cls := .type "list", data := .seq ([] : List Value).toArray } } : Shared) = s3
  have I3 : Inv X pins σ (upd H2 D (.lst [])) s3 := by
    rw [← hs3]
    refine I2.laid (t' := s2.toks) (fun b o e => Heap.get?_push_of_some _ e) (Nat.le_of_eq hD) ⟨Nat.zero_le _, [], 0, .nil, ?_⟩
    rw [← hD]
    exact Heap.get?_push_size _ rfl
  have h3 : s3.heap = s2.heap.push { cls := .type "list", data := .seq ([] : List Value).toArray } := by rw [← hs3]
  have sz : ∀ b ∈ fp, b < s2.heap.objs.size := fun b hb => by
    obtain ⟨o, e, _⟩ := T.obj _ _ st2 b hb
    exact Heap.lt_size e
  have f3 : ∀ b ∈ fp, FpOk X pins (upd H2 D (.lst [])) b ∧ b < s3.heap.objs.size := fun b hb => by
    have hlt := sz b hb
    refine ⟨⟨?_, (f2 b hb).2⟩, by rw [h3, Heap.size_push]; exact Nat.lt_succ_of_lt hlt⟩
    rw [upd_ne (by rw [← hD]; exact Nat.ne_of_lt hlt)]
    exact (f2 b hb).1
  have st3 : tn 0 s3.heap := T.keep _ _ _ st2 fun b _ o e => by rw [h3]; exact Heap.get?_push_of_some _ e
  have I4 := block_start I3 ok hN f3
  have pg := hg s3 (upd H2 D (.lst [])) s3.heap.objs.size (cellsFrom (s3.heap.objs.size + 1) scope.names (cloFrom X.env.cells scope.names [])) fp
  have pt := ht s3 (upd H2 D (.lst [])) s3.heap.objs.size (cellsFrom (s3.heap.objs.size + 1) scope.names (cloFrom X.env.cells scope.names [])) fp
  have pe := he s3 (upd H2 D (.lst [])) s3.heap.objs.size (cellsFrom (s3.heap.objs.size + 1) scope.names (cloFrom X.env.cells scope.names [])) fp
  show codeAny _ _ (.compStart (.ListComp elt [⟨tg, iter, ifs, 0⟩] scope pos) 0 (.ref it) (.ref D) (compEnvC scope (cellsFrom (s3.heap.objs.size + 1) scope.names (cloFrom X.env.cells scope.names [])) s3.heap.objs.size X.env)) (compPost (model X.prog X.w) X.A X.xe use Qf (.ref D) s3.heap.objs.size) { s3 with heap := pushCells (s3.heap.push { cls := .type "dict", data := .dict #[] }) scope.names }
  have nfp : ∀ b ∈ fp, (upd H2 D (.lst [])) b = none := fun b hb => (f3 b hb).1.1
  generalize hce : compEnvC scope (cellsFrom (s3.heap.objs.size + 1) scope.names (cloFrom X.env.cells scope.names [])) s3.heap.objs.size X.env = ce at I4 pg pt pe ⊢
  have cL : ce.locals = s3.heap.objs.size := by subst hce; rfl
  generalize hH3 : upd H2 D (.lst []) = H3 at I3 I4 pg pt pe w0 nfp f3
  generalize hs4 : ({ s3 with heap := pushCells (s3.heap.push { cls := .type "dict", data := .dict #[] }) scope.names } : Shared) = s4 at I4 ⊢
  have st4 : tn 0 s4.heap := T.keep _ _ _ st3 fun b _ o e => by rw [← hs4]; exact pushCells_keeps _ _ _ _ (Heap.get?_push_of_some _ e)
  have stat : ∀ {σ' : St} {H' : Hp} {s' : Shared}, Inv (X.blk s3 H3 scope ce fp) [] σ' H' s' → (∀ b ∈ fp, H' b = none) → ∀ b ∈ fp, FpOk (X.blk s3 H3 scope ce fp) [] H' b := fun {σ' H' s'} I' hn b hb =>
    ⟨hn b hb, (I'.ok.exf b hb).1, I'.ok.exfs b hb, .inl hb, fun x c e => (I'.ok.exf b hb).2 x c e, fun p hp => absurd (show p ∈ ([] : List (Addr × Obj)) ++ [] from hp) (by simp)⟩
  have loop : codeAny (model X.prog X.w) X.A (.compLoop (.ListComp elt [⟨tg, iter, ifs, 0⟩] scope pos) 0 (.ref it) (.ref D) ce) (compPost (model X.prog X.w) X.A X.xe use Qf (.ref D) s3.heap.objs.size) s4 := by
    refine compLoop_any (fun n s' => ∃ i H', Inv (X.blk s3 H3 scope ce fp) [] (wipe σ (own.map (·.2))) H' s' ∧ tn i s'.heap ∧ (∀ b ∈ fp, H' b = none) ∧ W i n H') ?_ m0 ⟨0, H3, I4, st4, nfp, w0⟩
    rintro n s5 ⟨i, H5, I5, st5, n5, w5⟩
    rcases turn i n H5 w5 with ⟨stop, qq⟩ | ⟨go, Nx, hNx, step⟩
    · have td := T.done (X.blk s3 H3 scope ce fp) rfl rfl rfl hc i [] s5 _ H5 (fun _ _ => False) I5 (stat I5 n5) st5 stop
      refine thnF td fun r s6 ⟨hr, I6⟩ => ?_
      subst hr
      have I7 : Inv X pins σ H5 s6 := I3.call' (ch := fp) I6.os I6.base I6.hok I6.bare fun b hb => ⟨(f3 b hb).1.2.2.2.1, (f3 b hb).1.2.1, (f3 b hb).1.2.2.2.2.1, (f3 b hb).1.2.2.2.2.2⟩
      have nC : H5 s3.heap.objs.size = none := by
        have z : H5 ce.locals = none := I6.free
        rw [cL] at z
        exact z
      obtain ⟨m, hn, _⟩ := I6.loc
      have hn : s6.heap.Ns ce.locals m := hn
      rw [cL] at hn
      exact hRR D s3.heap.objs.size s6 m H5 I7 qq hn (I3.fpOk (Nat.le_refl _) nC)
    · have ti := T.item (X.blk s3 H3 scope ce fp) rfl rfl rfl hc i [] s5 _ H5 (fun _ _ => False) I5 (stat I5 n5) st5 go
      refine thnF ti fun r s6 ⟨u, hr, h6⟩ => ?_
      subst hr
      refine thnF h6 fun _ s7 ⟨x, H7, I7, r7, y7, st7, n7⟩ => ?_
      have I7' := I7.pinned (stat I7 n7) (T.obj _ _ st7)
      refine thnF (pg _ s7 _ H7 x u _ I7' r7 (step x H7 y7)) fun _ s8 ⟨σ8, H8, I8, hw8, q8⟩ => ?_
      refine thnF (pt _ s8 σ8 H8 _ I8 q8) fun b s9 ⟨H9, I9, q9⟩ => ?_
      have fin : ∀ {s' : Shared} {H' : Hp}, Inv (X.blk s3 H3 scope ce fp) ([] ++ pinsAt fp s7.heap) σ8 H' s' → Nx H' → ∃ m, m < n ∧ ∃ i H', Inv (X.blk s3 H3 scope ce fp) [] (wipe σ (own.map (·.2))) H' s' ∧ tn i s'.heap ∧ (∀ b ∈ fp, H' b = none) ∧ W i m H' := fun {s' H'} I' nx => by
        obtain ⟨m', hm, w'⟩ := hNx H' nx
        have pin' : ∀ b ∈ fp, ∀ o, s7.heap.get? b = some o → s'.heap.get? b = some o ∧ H' b = none := fun b hb o e =>
          let z := I'.pin (b, o) (List.mem_append_right _ (List.mem_append_right _ (mem_pinsAt hb e)))
          ⟨z.1, z.2.1⟩
        have hl : (wipe σ (own.map (·.2))).length = σ8.length := by rw [← hw8, wipe_length]
        refine ⟨m', hm, i + 1, H', (I'.unpinned (pins := [])).weak hl (fun j v e => ?_), T.keep _ _ _ st7 fun b hb o e => (pin' b hb o e).1, fun b hb => ?_, w'⟩
        · rw [← hw8] at e
          exact (wipe_some e).1
        · obtain ⟨o, e, _⟩ := T.obj _ _ st7 b hb
          exact (pin' b hb o e).2
      cases b with
      | false =>
        simp only [Bool.false_eq_true, if_false] at q9 ⊢
        exact fin I9 q9
      | true =>
        simp only [if_true] at q9 ⊢
        refine thnF (pe _ s9 σ8 H9 _ I9 q9) fun z s10 ⟨yv, H10, I10, r10, acc, hD10, hz10, nx⟩ => ?_
        exact app_ok (X := X.blk s3 H3 scope ce fp) I10 hD10 hz10 r10 fun s11 I11 => fin I11 nx
  exact codeAny_compStart_list loop (T.self X.A 0 _ _ _ st4 loop)
theorem pe_lc {elt tg iter : Expr} {ifs : List Expr} {scope : Scope} {own : List (Str × Nat)} {pos : Pos} {wi : TI} {g : TG} {tt : TT} {te : TE} (hc : X.calm = true) (hN : X.N.Nodup) (hi : PI X tg iter wi) (ok : BlkOk X.N X.env.scope scope own)
    (hg : ∀ (s : Shared) (H : Hp) (C : Addr) (cl : List (Str × Addr)) (fp : List Addr), PG (X.blk s H scope (compEnvC scope cl C X.env) fp) tg g) (ht : ∀ (s : Shared) (H : Hp) (C : Addr) (cl : List (Str × Addr)) (fp : List Addr), PTs (X.blk s H scope (compEnvC scope cl C X.env) fp) ifs tt)
    (he : ∀ (s : Shared) (H : Hp) (C : Addr) (cl : List (Str × Addr)) (fp : List Addr), PE (X.blk s H scope (compEnvC scope cl C X.env) fp) elt te) (hs : ∀ x, foldedSetIterable iter X.env x = pure x := by intro _; rfl) :
    PE X (.ListComp elt [⟨tg, iter, ifs, 0⟩] scope pos) (tLc wi g tt te (own.map (·.2))) := by
  intro pins s σ H Q I h
  rw [eval_ListComp]
  refine lc_core hc hN I hi ok hg ht he hs h fun D C s' m H' I' q hn f => ⟨m, hn, fun h'' sb => ?_⟩
  obtain ⟨f0, f1, f2, f3, f4, f5⟩ := f
  exact ⟨.ref D, H', I'.turned (t' := s'.toks) (fun b o hb e => (sb.2 b hb).trans e) f0 f1 f3 f4 f5, rfl, q⟩
theorem ps_setLc {i : Nat} {y : Str} {py : Pos} {elt tg iter : Expr} {ifs : List Expr} {scope : Scope} {own : List (Str × Nat)} {pos spos : Pos} {wi : TI} {g : TG} {tt : TT} {te : TE} (hc : X.calm = true) (hN : X.N.Nodup) (hy : X.N[i]? = some y) (hyl : X.env.scope.names.lookup y = some .local)
    (hsw : swapsWith (.ListComp elt [⟨tg, iter, ifs, 0⟩] scope pos) (some (.Name y py)) spos.line X.env = pure true) (hi : PI X tg iter wi) (ok : BlkOk X.N X.env.scope scope own)
    (hg : ∀ (s : Shared) (H : Hp) (C : Addr) (cl : List (Str × Addr)) (fp : List Addr), PG (X.blk s H scope (compEnvC scope cl C X.env) fp) tg g) (ht : ∀ (s : Shared) (H : Hp) (C : Addr) (cl : List (Str × Addr)) (fp : List Addr), PTs (X.blk s H scope (compEnvC scope cl C X.env) fp) ifs tt)
    (he : ∀ (s : Shared) (H : Hp) (C : Addr) (cl : List (Str × Addr)) (fp : List Addr), PE (X.blk s H scope (compEnvC scope cl C X.env) fp) elt te) (hs : ∀ x, foldedSetIterable iter X.env x = pure x := by intro _; rfl) :
    PS X (.Assign [.Name y py] (.ListComp elt [⟨tg, iter, ifs, 0⟩] scope pos) spos) (tAsg (tLc wi g tt te (own.map (·.2))) (gName i)) := by
  intro pins s σ H D I h
  rw [exec_Assign_Name_used _ _ _ _ hsw]
  refine wpAny_bind (wpAny_standAt (wpAny_bind ?_))
  show wpAny _ X.A (do let _ ← comprehension (.ListComp elt [⟨tg, iter, ifs, 0⟩] scope pos) scope X.env (firstIterPos [⟨tg, iter, ifs, 0⟩] pos) (newList []) false (eval iter X.env) (some (assign (.Name y py) X.env))) _ _ s
  have h : tLc wi g tt te (own.map (·.2)) σ H (fun x H1 => gName i x σ H1 D.nx) := h
  refine wpAny_bind (thn (lc_core (Qf := fun _ s' => SP X pins D .next s') hc hN I hi ok hg ht he hs h fun L C s' m H' I' q hn f => ?_) fun _ s' hq => wpAny_pure (wpAny_pure hq))
  show wpAny _ _ (assign (.Name y py) X.env (.ref L)) _ _ _
  refine wpAny_assign_Name (store_ok2 (v := V.ref L) I' hN hy (.inl hyl) rfl (fun s2 I2 ⟨a, sb, ha⟩ => ?_) (.inr hyl))
  obtain ⟨f0, f1, f2, f3, f4, f5⟩ := f
  have haC : C ≠ a := by
    rcases ha with z | z
    · rw [z]; exact f1
    · exact fun e => f4 y a z e.symm
  refine ⟨m, hn.sameBut sb haC, fun h3 sb3 => ?_⟩
  exact ⟨_, H', I2.turned (t' := s2.toks) (fun b o hb e => (sb3.2 b hb).trans e) f0 f1 f3 f4 f5, q⟩
theorem sw_true {elt : Expr} {gs : List Comprehension} {scope : Scope} {pos py : Pos} {y : Str} {l : Nat} {env : Env} (hk : env.scope.kind = .function) (hy : env.scope.names.lookup y = some .local) (hl : (py.line == pos.line) = true)
    (ha : (scope.names.any fun (n, k) => n == y && (k == .local || k == .cell)) = false) : swapsWith (.ListComp elt gs scope pos) (some (.Name y py)) l env = pure true := by
  have ky : env.kindOf y = some .local := hy
  have hb : env.blockKind = .function := by unfold Env.blockKind; rw [hk]; rfl
  unfold swapsWith
  simp only [hb, ky, ha, Expr.pos, hl]
  rfl
end
theorem lc_list {K : PySem.W.Frag} {a : Addr} {xs : List V} {g : TG} {tt : TT} {te : TE} {vs : List Nat} {σ : St} {H1 : Hp} {D : Addr} {Qd : Hp → Prop} (Pv : Nat → Hp → Prop) (h0 : Pv 0 (upd H1 D (.lst []))) (hl : ∀ i H, i ≤ xs.length → Pv i H → SqL K H a xs)
    (hs : ∀ i x H, xs[i]? = some x → Pv i H → g x (wipe σ vs) H fun σ2 H2 => wipe σ2 vs = wipe σ vs ∧ tt σ2 H2 fun b H3 =>
      if b = true then te σ2 H3 fun y H4 => ∃ acc, H4 D = some (.lst acc) ∧ acc.length < sizeLine ∧ Pv (i + 1) (upd H4 D (.lst (acc ++ [y]))) else Pv (i + 1) H3) (hd : ∀ H, Pv xs.length H → Qd H) :
    ∃ W : Nat → Nat → Hp → Prop, (∃ m, W 0 m (upd H1 D (.lst []))) ∧ ∀ i m H, W i m H →
      ((Itl K a).stop i H ∧ Qd H) ∨ ((Itl K a).go i H ∧ ∃ Nx : Hp → Prop, (∀ H', Nx H' → ∃ m', m' < m ∧ W (i + 1) m' H') ∧ ∀ x H', (Itl K a).yld i H x H' → g x (wipe σ vs) H' fun σ2 H2 => wipe σ2 vs = wipe σ vs ∧ tt σ2 H2 fun b H3 =>
        if b = true then te σ2 H3 fun y H4 => ∃ acc, H4 D = some (.lst acc) ∧ acc.length < sizeLine ∧ Nx (upd H4 D (.lst (acc ++ [y]))) else Nx H3) := by
  refine ⟨fun i m H => m = xs.length - i ∧ i ≤ xs.length ∧ Pv i H, ⟨xs.length, by simp, Nat.zero_le _, h0⟩, ?_⟩
  rintro i m H ⟨rfl, hi, p⟩
  have q := hl i H hi p
  by_cases hlt : i < xs.length
  · refine .inr ⟨⟨xs, xs[i], q, by simp [hlt]⟩, Pv (i + 1), fun H' p' => ⟨xs.length - (i + 1), by omega, rfl, hlt, p'⟩, fun x H' y => ?_⟩
    obtain ⟨e, y⟩ := y
    subst e
    exact hs i x _ (y xs q) p
  · have e : i = xs.length := by omega
    subst e
    exact .inl ⟨⟨xs, q, Nat.le_refl _⟩, hd H p⟩
def blkC (N : List Str) (sc scope : Scope) (own : List (Str × Nat)) : Bool :=
  (match scope.kind with | .function => true | _ => false) && (scope.names.all fun y => decide (scope.names.lookup y.1 = some y.2)) && (own.all fun p => decide (N[p.2]? = some p.1)) &&
    (scope.names.all fun y => match y.2 with
      | .free => (match sc.names.lookup y.1 with | some .cell => true | some .free => true | _ => false)
      | .local => decide (y.1 ∈ own.map (·.1)) || decide (y.1 ∉ N)
      | .cell => decide (y.1 ∈ own.map (·.1)) || decide (y.1 ∉ N)
      | _ => true)
theorem blkOk_by {N : List Str} {sc scope : Scope} {own : List (Str × Nat)} (h : blkC N sc scope own = true) : BlkOk N sc scope own := by
  unfold blkC at h
  simp only [Bool.and_eq_true, List.all_eq_true, decide_eq_true_eq] at h
  obtain ⟨⟨⟨h1, h2⟩, h3⟩, h4⟩ := h
  refine ⟨?_, h2, h3, fun y hy e => ?_, fun y hy e => ?_⟩
  · split at h1
    · assumption
    · cases h1
  · have q := h4 y hy
    simp only [e] at q
    split at q <;> first | exact .inl (by assumption) | exact .inr (by assumption) | cases q
  · have q := h4 y hy
    rcases e with e | e <;> (simp only [e, Bool.or_eq_true, decide_eq_true_eq] at q; exact q)
end L2
namespace L2
open PySem PySem.Spec PyProof.Rows
section
variable {κ : Type} [DecidableEq κ]
def valV (kvs : List (κ × V)) (k : κ) : Option V := (kvs.find? fun kv => decide (kv.1 = k)).map (·.2)
def putK (kvs : List (κ × V)) (k : κ) (v : V) : List (κ × V) :=
  if (kvs.any fun kv => decide (kv.1 = k)) = true then kvs.map (fun kv => if kv.1 = k then (kv.1, v) else kv) else kvs ++ [(k, v)]
theorem valV_pos {p : κ × V} {r : List (κ × V)} {k : κ} (e : p.1 = k) : valV (p :: r) k = some p.2 := by simp [valV, List.find?_cons, e]
theorem valV_neg {p : κ × V} {r : List (κ × V)} {k : κ} (e : ¬ p.1 = k) : valV (p :: r) k = valV r k := by simp [valV, List.find?_cons, e]
theorem valV_any (k : κ) : ∀ kvs : List (κ × V), (kvs.any fun kv => decide (kv.1 = k)) = (valV kvs k).isSome
  | [] => rfl
  | p :: r => by
    rw [List.any_cons]
    by_cases e : p.1 = k
    · simp only [valV_pos e, decide_eq_true e, Bool.true_or, Option.isSome_some]
    · rw [valV_neg e, decide_eq_false e, Bool.false_or]; exact valV_any k r
theorem valV_map (k j : κ) (y : V) : ∀ kvs : List (κ × V), valV (kvs.map fun kv => if kv.1 = k then (kv.1, y) else kv) j = (valV kvs j).map fun x => if j = k then y else x
  | [] => rfl
  | p :: r => by
    have ih := valV_map k j y r
    rw [List.map_cons]
    by_cases h : p.1 = k
    · rw [if_pos h]
      by_cases e : p.1 = j
      · rw [valV_pos (p := (p.1, y)) e, valV_pos e, Option.map_some, if_pos (e.symm.trans h)]
      · rw [valV_neg (p := (p.1, y)) e, valV_neg e, ih]
    · rw [if_neg h]
      by_cases e : p.1 = j
      · rw [valV_pos (p := p) e, valV_pos e, Option.map_some, if_neg (fun z => h (e.trans z))]
      · rw [valV_neg (p := p) e, valV_neg e, ih]
theorem valV_snoc (k j : κ) (y : V) : ∀ kvs : List (κ × V), valV kvs k = none → valV (kvs ++ [(k, y)]) j = if j = k then some y else valV kvs j
  | [], _ => by
    by_cases e : k = j
    · rw [if_pos e.symm]; exact valV_pos (p := (k, y)) e
    · rw [if_neg (fun z => e z.symm)]; exact valV_neg (p := (k, y)) e
  | p :: r, hn => by
    rw [List.cons_append]
    have hk : ¬ p.1 = k := fun z => by rw [valV_pos z] at hn; cases hn
    rw [valV_neg hk] at hn
    have ih := valV_snoc k j y r hn
    by_cases e : p.1 = j
    · rw [valV_pos e, valV_pos e, if_neg (fun z => hk (e.trans z))]
    · rw [valV_neg e, valV_neg e, ih]
theorem valV_put (kvs : List (κ × V)) (k j : κ) (y : V) : valV (putK kvs k y) j = if j = k then some y else valV kvs j := by
  unfold putK
  by_cases a : (kvs.any fun kv => decide (kv.1 = k)) = true
  · rw [if_pos a, valV_map]
    rw [valV_any] at a
    by_cases e : j = k
    · obtain ⟨x, hx⟩ := Option.isSome_iff_exists.mp a
      rw [if_pos e, e, hx, Option.map_some, if_pos rfl]
    · rw [if_neg e]
      cases valV kvs j with
      | none => rfl
      | some x => rw [Option.map_some, if_neg e]
  · rw [if_neg a]
    refine valV_snoc k j y kvs ?_
    rw [valV_any] at a
    cases q : valV kvs k with
    | none => rfl
    | some x => rw [q] at a; exact (a rfl).elim
theorem length_putK (kvs : List (κ × V)) (k : κ) (v : V) : (putK kvs k v).length ≤ kvs.length + 1 := by
  unfold putK
  split
  · rw [List.length_map]; omega
  · rw [List.length_append, List.length_cons, List.length_nil]; omega
theorem putK_new {kvs : List (κ × V)} {k : κ} (v : V) (h : valV kvs k = none) : putK kvs k v = kvs ++ [(k, v)] := by
  unfold putK
  rw [valV_any, h]
  exact if_neg (by decide)
theorem RelO.isSome_eq {o : Option V} {u : Option Value} (r : RelO o u) : o.isSome = u.isSome := by
  cases o with
  | none => cases u with
    | none => rfl
    | some _ => exact (show False from r).elim
  | some _ => cases u with
    | none => exact (show False from r).elim
    | some _ => rfl
theorem RelO.getD {o : Option V} {u : Option Value} {d : V} {d' : Value} (r : RelO o u) (rd : RelV d d') : RelV (o.getD d) (u.getD d') := by
  cases o with
  | none => cases u with
    | none => exact rd
    | some _ => exact (show False from r).elim
  | some _ => cases u with
    | none => exact (show False from r).elim
    | some _ => exact r
theorem KV.val {kvs : List (κ × V)} {vs : List (κ × Value)} (r : KV kvs vs) (k : κ) : RelO (valV kvs k) (valueAt vs k) := by
  unfold KV at r
  induction r with
  | nil => exact True.intro
  | @cons p q ps qs h t ih =>
    obtain ⟨h1, h2⟩ := h
    by_cases e : p.1 = k
    · have e' : q.1 = k := h1.symm.trans e
      have b : valueAt (q :: qs) k = some q.2 := by simp [valueAt, List.find?_cons, e']
      rw [valV_pos e, b]; exact h2
    · have e' : ¬ q.1 = k := fun z => e (h1.trans z)
      have b : valueAt (q :: qs) k = valueAt qs k := by simp [valueAt, List.find?_cons, e']
      rw [valV_neg e, b]; exact ih
theorem KV.any {kvs : List (κ × V)} {vs : List (κ × Value)} (r : KV kvs vs) (k : κ) : (kvs.any fun kv => decide (kv.1 = k)) = vs.any fun kv => decide (kv.1 = k) := by
  unfold KV at r
  induction r with
  | nil => rfl
  | cons h t ih => rw [List.any_cons, List.any_cons, ih, h.1]
theorem KV.repl {kvs : List (κ × V)} {vs : List (κ × Value)} (r : KV kvs vs) (k : κ) {y : V} {u : Value} (ry : RelV y u) :
    KV (kvs.map fun kv => if kv.1 = k then (kv.1, y) else kv) (vs.map fun kv => if kv.1 = k then (kv.1, u) else kv) := by
  unfold KV at r ⊢
  induction r with
  | nil => exact .nil
  | @cons p q ps qs h t ih =>
    rw [List.map_cons, List.map_cons]
    refine .cons ?_ ih
    obtain ⟨h1, h2⟩ := h
    by_cases e : p.1 = k
    · rw [if_pos e, if_pos (h1.symm.trans e)]; exact ⟨h1, ry⟩
    · rw [if_neg e, if_neg (fun z => e (h1.trans z))]; exact ⟨h1, h2⟩
theorem KV.put {kvs : List (κ × V)} {vs : List (κ × Value)} (r : KV kvs vs) (k : κ) {y : V} {u : Value} (ry : RelV y u) : KV (putK kvs k y) (stored vs k u) := by
  unfold putK stored
  rw [r.any k]
  by_cases e : (vs.any fun kv => decide (kv.1 = k)) = true
  · rw [if_pos e, if_pos e]; exact r.repl k ry
  · rw [if_neg e, if_neg e]; exact Paired.snoc r ⟨rfl, ry⟩
theorem KV.length {kvs : List (κ × V)} {vs : List (κ × Value)} (r : KV kvs vs) : kvs.length = vs.length := Paired.length r
end
theorem kV_is {P : Program} {w : World} {k : Key} {u : Value} (r : RelV (kV k) u) : (mixKind P w).is k u = true := by
  cases k with
  | inl i => obtain ⟨t, e⟩ := (show ∃ t, u = Value.int i t from r); subst e; exact mixKind_int P w i t
  | inr x => obtain ⟨t, e⟩ := (show ∃ t, u = Value.str x t from r); subst e; exact mixKind_str P w x t
theorem items_are {P : Program} {w : World} : ∀ {ks : List Key} {us : List Value}, Vals (ks.map kV) us → ItemsAre (mixKind P w) ks us
  | [], _, r => by rw [List.map_nil] at r; cases r; exact .nil
  | k :: ks, _, r => by
    rw [List.map_cons] at r
    cases r with
    | cons h t => exact .cons (kV_is h) (items_are t)
abbrev KT (H : Hp) : List (List Key × V) → List (List Key × Addr × Value) → Prop := Paired fun p q => p.1 = q.1 ∧ H q.2.1 = some (.tup (p.1.map kV)) ∧ RelV p.2 q.2.2
theorem KT.val {H : Hp} {kvs : List (List Key × V)} {xs : List (List Key × Addr × Value)} (r : KT H kvs xs) (k : List Key) : RelO (valV kvs k) ((atKey xs k).map (·.2)) := by
  induction r with
  | nil => exact True.intro
  | @cons p q ps qs h t ih =>
    obtain ⟨h1, _, h2⟩ := h
    by_cases e : p.1 = k
    · have e' : q.1 = k := h1.symm.trans e
      have b : atKey (q :: qs) k = some q.2 := by simp [atKey, List.find?_cons, e']
      rw [valV_pos e, b]; exact h2
    · have e' : ¬ q.1 = k := fun z => e (h1.trans z)
      have b : atKey (q :: qs) k = atKey qs k := by simp [atKey, List.find?_cons, e']
      rw [valV_neg e, b]; exact ih
theorem KT.repl {H : Hp} {kvs : List (List Key × V)} {xs : List (List Key × Addr × Value)} (r : KT H kvs xs) (k : List Key) {y : V} {u : Value} (ry : RelV y u) :
    KT H (kvs.map fun kv => if kv.1 = k then (kv.1, y) else kv) (xs.map (putAt k u)) := by
  induction r with
  | nil => exact .nil
  | @cons p q ps qs h t ih =>
    rw [List.map_cons, List.map_cons]
    refine .cons ?_ ih
    obtain ⟨h1, h2, h3⟩ := h
    unfold putAt
    by_cases e : p.1 = k
    · rw [if_pos e, if_pos (h1.symm.trans e)]; exact ⟨h1, h2, ry⟩
    · rw [if_neg e, if_neg (fun z => e (h1.trans z))]; exact ⟨h1, h2, h3⟩
theorem KT.put {H : Hp} {kvs : List (List Key × V)} {xs : List (List Key × Addr × Value)} (r : KT H kvs xs) (k : List Key) {b : Addr} {y : V} {u : Value} (hb : H b = some (.tup (k.map kV))) (ry : RelV y u) :
    KT H (putK kvs k y) (storedH xs k b u) := by
  have e : (kvs.any fun kv => decide (kv.1 = k)) = (atKey xs k).isSome := by
    rw [valV_any, (r.val k).isSome_eq, Option.isSome_map]
  unfold putK storedH
  rw [e]
  by_cases q : (atKey xs k).isSome = true
  · rw [if_pos q, if_pos q]; exact r.repl k ry
  · rw [if_neg q, if_neg q]; exact Paired.snoc r ⟨rfl, hb, ry⟩
theorem KT.keeps {H H' : Hp} {kvs : List (List Key × V)} {xs : List (List Key × Addr × Value)} (r : KT H kvs xs) (ht : ∀ b ys, H b = some (.tup ys) → H' b = some (.tup ys)) : KT H' kvs xs :=
  Paired.mapP r fun _ _ z => ⟨z.1, ht _ _ z.2.1, z.2.2⟩
section
variable {P : Program} {w : World} {H : Hp} {h : Heap} {a : Addr}
theorem rd_of {u : HO} (ok : HOk P w H h) (e : Rd H a u) : ObjOk P w H h a u := e.ok ok
theorem dk_rd {kvs : List (Key × V)} (ok : HOk P w H h) (e : Rd H a (.dK kvs)) : kvs.length ≤ sizeLine ∧ (a == sysModules) = false ∧ ∃ vs, KV kvs vs ∧ h.DictOf (mixKind P w) a vs :=
  show ObjOk P w H h a (.dK kvs) from rd_of ok e
theorem dk_of {kvs : List (Key × V)} (ok : HOk P w H h) (e : H a = some (.dK kvs)) : kvs.length ≤ sizeLine ∧ (a == sysModules) = false ∧ ∃ vs, KV kvs vs ∧ h.DictOf (mixKind P w) a vs := dk_rd ok (.inl e)
theorem key_of {ks : List Key} (ok : HOk P w H h) (e : H a = some (.tup (ks.map kV))) : (tupleKind (mixKind P w)).is h ks a := by
  obtain ⟨_, its, r, o, h1, h2, n, h3⟩ := (show ObjOk P w H h a (.tup (ks.map kV)) from ok a _ e)
  exact ⟨o, its.toArray, n, h1, h2, h3, by simpa using items_are r⟩
theorem dt_rd {kvs : List (List Key × V)} (ok : HOk P w H h) (e : Rd H a (.dT kvs)) : kvs.length ≤ sizeLine ∧ (a == sysModules) = false ∧
    ∃ xs, KT H kvs xs ∧ h.DictOfH (tupleKind (mixKind P w)) a xs := by
  obtain ⟨z, y, xs, r, o, es, ep, h1, h2, h3, h4, h5⟩ := (show ObjOk P w H h a (.dT kvs) from rd_of ok e)
  refine ⟨z, y, xs, r, o, es, ep, h1, h2, h3, h4, fun x hx => ?_, h5⟩
  have all : ∀ {l : List (List Key × V)} {m : List (List Key × Addr × Value)}, KT H l m → ∀ x ∈ m, (tupleKind (mixKind P w)).is h x.1 x.2.1 := by
    intro l m q
    induction q with
    | nil => intro x hx; exact nomatch hx
    | @cons p q ps qs hq t ih =>
      intro x hx
      rcases List.mem_cons.mp hx with e | hx
      · subst e
        exact key_of ok (by rw [← hq.1]; exact hq.2.1)
      · exact ih x hx
  exact all r x hx
theorem dt_of {kvs : List (List Key × V)} (ok : HOk P w H h) (e : H a = some (.dT kvs)) : kvs.length ≤ sizeLine ∧ (a == sysModules) = false ∧
    ∃ xs, KT H kvs xs ∧ h.DictOfH (tupleKind (mixKind P w)) a xs := dt_rd ok (.inl e)
end
def DGet (H : Hp) (a : Addr) (y : V) (r : Option V) : Prop :=
  (∃ kvs k, Rd H a (.dK kvs) ∧ y = kV k ∧ r = valV kvs k) ∨ ∃ kvs k b, Rd H a (.dT kvs) ∧ y = .ref b ∧ H b = some (.tup (k.map kV)) ∧ r = valV kvs k
def DPut (H : Hp) (a : Addr) (y v : V) (H' : Hp) : Prop :=
  (∃ kvs k, H a = some (.dK kvs) ∧ y = kV k ∧ kvs.length < sizeLine ∧ H' = upd H a (.dK (putK kvs k v))) ∨
  ∃ kvs k b, H a = some (.dT kvs) ∧ y = .ref b ∧ H b = some (.tup (k.map kV)) ∧ kvs.length < sizeLine ∧ H' = upd H a (.dT (putK kvs k v))
theorem DGet.k {H : Hp} {a : Addr} {kvs : List (Key × V)} {k : Key} (e : H a = some (.dK kvs)) : DGet H a (kV k) (valV kvs k) := .inl ⟨kvs, k, .inl e, rfl, rfl⟩
theorem DPut.k {H : Hp} {a : Addr} {kvs : List (Key × V)} {k : Key} {v : V} (e : H a = some (.dK kvs)) (hl : kvs.length < sizeLine) : DPut H a (kV k) v (upd H a (.dK (putK kvs k v))) := .inl ⟨kvs, k, e, rfl, hl, rfl⟩
section
variable {X : Cx} {pins : List (Addr × Obj)} {σ : St} {H : Hp} {s : Shared} {a : Addr} {y v : V} {u r : Value} {o : Option V} {A : Around} {E : Value → Shared → Prop}
theorem Inv.big (I : Inv X pins σ H s) : sysModules < s.heap.objs.size := by
  have h : mainGlobals < s.heap.objs.size := (I.mod.glob.keeps I.bk).lt
  exact Nat.lt_trans (by decide) h
theorem d_getItem {Q : Value → Shared → Prop} (hu : A.units + 1 < cLine) (I : Inv X pins σ H s) (g : DGet H a y (some v)) (ry : RelV y u) (h : ∀ w' s', Inv X pins σ H s' → RelV v w' → Q w' s') :
    wpAny (model X.prog X.w) A (getItem (.ref a) u) Q E s := by
  rcases g with ⟨kvs, k, e, ey, l⟩ | ⟨kvs, k, b, e, ey, eb, l⟩
  · subst ey
    obtain ⟨z, hd, vs, rel, dd⟩ := dk_rd I.hok e
    obtain ⟨w', hw, rw'⟩ := RelO.some_of (v := v) (o := valueAt vs k) (by rw [l]; exact rel.val k)
    exact wpAny_getItem_of (kV_is ry) dd.mapOf hw (h w' _ (I.tok _) rw')
  · subst ey
    cases (show u = Value.ref b from ry)
    obtain ⟨z, hd, xs, rel, dd⟩ := dt_rd I.hok e
    obtain ⟨w', hw, rw'⟩ := RelO.some_of (v := v) (o := (atKey xs k).map (·.2)) (by rw [l]; exact rel.val k)
    obtain ⟨p, hp, hp2⟩ := Option.map_eq_some_iff.mp hw
    refine wpAny_getItem_heap (tupleKind_room_in1 hu) (key_of I.hok eb) dd hp ?_
    rw [hp2]
    exact h w' _ (I.tok _) rw'
theorem d_write {h' : Heap} {t' : Nat} {ob : HO} (I : Inv X pins σ H s) (mu : Mut (H a)) (hs : Heap.SameBut a s.heap h') (he : ∃ q, h'.get? a = some q) (new : ObjOk X.prog X.w (upd H a ob) h' a ob) :
    Inv X pins σ (upd H a ob) { s with heap := h', toks := t' } :=
  I.write (x := a) (e := a) mu (.inl rfl) (fun b q hb z => (hs.2 b hb).trans z) he new
theorem dk_new {P : Program} {w : World} {H' : Hp} {h' : Heap} {kvs : List (Key × V)} {vs : List (Key × Value)} (z : kvs.length ≤ sizeLine) (hd : (a == sysModules) = false) (rel : KV kvs vs) (dd : h'.DictOf (mixKind P w) a vs) :
    ObjOk P w H' h' a (.dK kvs) := ⟨z, hd, vs, rel, dd⟩
theorem d_setItem {H' : Hp} {Q : Unit → Shared → Prop} (hu : A.units + 1 < cLine) (I : Inv X pins σ H s) (g : DPut H a y v H') (ry : RelV y u) (rv : RelV v r) (h : ∀ s', Inv X pins σ H' s' → Q () s') :
    wpAny (model X.prog X.w) A (setItem (.ref a) u r) Q E s := by
  rcases g with ⟨kvs, k, e, ey, l, eH⟩ | ⟨kvs, k, b, e, ey, eb, l, eH⟩
  · subst ey eH
    obtain ⟨z, hd, vs, rel, dd⟩ := dk_of I.hok e
    have hz : vs.length ≤ sizeLine := by rw [← rel.length]; exact z
    have hl : (putK kvs k v).length ≤ sizeLine := by have := length_putK kvs k v; omega
    refine wpAny_setItem_pairs (hsz := hz) (kV_is ry) dd fun h' dd' hs => h _ ?_
    have he : ∃ q, h'.get? a = some q := let ⟨q, _, _, hq, _⟩ := dd'; ⟨q, hq⟩
    exact d_write I (by rw [e]; exact True.intro) hs he (dk_new hl hd (rel.put k rv) dd')
  · subst ey eH
    cases (show u = Value.ref b from ry)
    obtain ⟨z, hd, xs, rel, dd⟩ := dt_of I.hok e
    have hz : xs.length ≤ sizeLine := by rw [← Paired.length rel]; exact z
    have hl : (putK kvs k v).length ≤ sizeLine := by have := length_putK kvs k v; omega
    refine wpAny_setItem_heap (hsz := hz) (tupleKind_room_in1 hu) (key_of I.hok eb) dd fun h' dd' hs => h _ ?_
    obtain ⟨q, es, ep, hq, h2, h3, h4, _, h5⟩ := dd'
    refine d_write I (by rw [e]; exact True.intro) hs ⟨q, hq⟩ ⟨hl, hd, _, (rel.put k eb rv).keeps fun c ys ec => ?_, q, es, ep, hq, h2, h3, h4, h5⟩
    rw [upd_ne (ne_of ec e (fun z => nomatch z))]
    exact ec
end
def NoSl (i : Expr) : Prop := ∀ ov iv, subscripted i false ov iv = operate [ov, iv] (getItem ov iv)
theorem subD_of {prog : Program} {w : World} {A : Around} {E : Value → Shared → Prop} {s : Shared} {env : Env} {value slice : Expr} {pos : Pos} {T id : String} {Q : Value → Shared → Prop}
    (hl : typeLookup (.type T) "__getitem__" = pure (some (.builtin id))) (hs : NoSl slice)
    (h : wpAny (model prog w) A (eval value env) (fun o s₁ => wpAny (model prog w) A (eval slice env) (fun i s₂ => s₂.TypeIs o T ∧ wpAny (model prog w) A (getItem o i) Q E s₂) E s₁) E s) :
    wpAny (model prog w) A (eval (.Subscript value slice pos) env) Q E s := by
  refine Subscript_ (wpAny_mono h (fun o s₁ h₁ => wpAny_mono h₁ (fun i s₂ h₂ => ?_) fun _ _ x => x) fun _ _ x => x)
  obtain ⟨hT, h₂⟩ := h₂
  unfold subscriptTail
  refine wpAny_bind ?_
  rw [getitemInPython_of_ne hT.not_modules]
  refine wpAny_bind (wpAny_specialOf hT hl ?_)
  have fin : wpAny (model prog w) A (subscripted slice false o i) (fun r s₃ => wpAny (model prog w) A (letTemporaryGo value o r >>= fun _ => pure r) Q E s₃) E s₂ := by
    rw [hs o i]
    exact wpAny_operating (wpAny_mono h₂ (fun r s₃ h₃ => wpAny_bind (wpAny_letTemporaryGo (wpAny_pure h₃))) fun _ _ x => x)
  first
    | exact wpAny_pure (wpAny_bind fin)
    | exact wpAny_bind (wpAny_pure (wpAny_bind fin))
    | exact wpAny_bind fin
theorem dict_typeIs {X : Cx} {pins : List (Addr × Obj)} {σ : St} {H : Hp} {s : Shared} {a : Addr} {y : V} {o : Option V} (I : Inv X pins σ H s) (g : DGet H a y o) : s.TypeIs (.ref a) "dict" := by
  rcases g with ⟨kvs, k, e, _, _⟩ | ⟨kvs, k, b, e, _, _, _⟩
  · obtain ⟨_, _, vs, _, dd⟩ := dk_rd I.hok e
    exact dd.typeIs
  · obtain ⟨_, _, xs, _, dd⟩ := dt_rd I.hok e
    exact dd.typeIs
def tDGet (td ty : TE) : TE := fun σ H Q => td σ H fun x H1 => ty σ H1 fun y H2 => ∃ a v, x = .ref a ∧ DGet H2 a y (some v) ∧ Q v H2
def sDPut (td ty tv : TE) : TS := fun D σ H => tv σ H fun v H1 => td σ H1 fun x H2 => ty σ H2 fun y H3 => ∃ a H4, x = .ref a ∧ DPut H3 a y v H4 ∧ D.nx σ H4
section
variable {X : Cx} {o i e value : Expr} {pos pos' tpos : Pos} {td ty tv : TE}
theorem pe_dget (hu : X.A.units + 1 < cLine) (ho : PE X o td) (hi : PE X i ty) (hs : NoSl i) : PE X (.Subscript o i pos) (tDGet td ty) := by
  intro pins s σ H Q I h
  refine subD_of PySem.F.slot_dict_getitem.lookup hs (thn (ho pins s σ H _ I h) fun u s1 ⟨x, H1, I1, rx, q1⟩ => thn (hi pins s1 σ H1 _ I1 q1) fun iv s2 ⟨y, H2, I2, ry, a, v, ex, g, q2⟩ => ?_)
  subst ex
  obtain rfl : u = Value.ref a := rx
  exact ⟨dict_typeIs I2 g, d_getItem hu I2 g ry fun w' s3 I3 rw' => ⟨v, H2, I3, rw', q2⟩⟩
theorem ps_dput (hu : X.A.units + 1 < cLine) (ho : PE X o td) (hi : PE X i ty) (hv : PE X value tv) (hs : swapsWith value (some (.Subscript o i pos')) pos.line X.env = pure false) :
    PS X (.Assign [.Subscript o i pos'] value pos) (sDPut td ty tv) := by
  intro pins s σ H D I h
  refine wpAny_Assign_Subscript (thn (hv pins s σ H _ I h) fun r s1 ⟨v, H1, I1, rv, q1⟩ => thn (ho pins s1 σ H1 _ I1 q1) fun u s2 ⟨x, H2, I2, rx, q2⟩ => thn (hi pins s2 σ H2 _ I2 q2) fun iv s3 ⟨y, H3, I3, ry, a, H4, ex, g, q3⟩ => ?_) hs
  subst ex
  obtain rfl : u = Value.ref a := rx
  exact d_setItem hu I3 g ry rv fun s4 I4 => ⟨σ, H4, I4, q3⟩
end
theorem dk_empty {P : Program} {w : World} {H : Hp} (h : Heap) (hb : sysModules < h.objs.size) : ObjOk P w H (h.push { cls := .type "dict", data := .dict #[] }) h.objs.size (.dK []) :=
  ⟨Nat.zero_le _, beq_eq_false_iff_ne.mpr (Ne.symm (Nat.ne_of_lt hb)), [], .nil, Heap.DictOf.new h⟩
def tDNewK : TE := fun _ H Q => ∀ p, H p = none → Q (.ref p) (upd H p (.dK []))
section
variable {X : Cx} {pos : Pos}
theorem pe_dnewK : PE X (.Dict [] [] pos) tDNewK := fun pins s σ H Q I h =>
  wpAny_Dict_empty ⟨.ref s.heap.objs.size, _, I.laid (a := s.heap.objs.size) (o := .dK []) (t' := s.toks) (fun _ _ q => Heap.get?_push_of_some _ q) (Nat.le_refl _) (dk_empty s.heap I.big), rfl, h _ (I.hok.fresh (Nat.le_refl _))⟩
end
def mergeK (kvs more : List (Key × V)) : List (Key × V) := more.foldl (fun acc kv => putK acc kv.1 kv.2) kvs
theorem KV.merge : ∀ {more : List (Key × V)} {rs : List (Key × Value)} {kvs : List (Key × V)} {vs : List (Key × Value)}, KV more rs → KV kvs vs → KV (mergeK kvs more) (merged vs rs) := by
  intro more rs kvs vs r
  unfold KV at r
  induction r generalizing kvs vs with
  | nil => intro q; exact q
  | @cons p q ps qs h t ih =>
    intro r0
    have e : KV (putK kvs p.1 p.2) (stored vs q.1 q.2) := by
      have := r0.put p.1 h.2
      rw [← h.1]; exact this
    exact ih e
theorem length_mergeK : ∀ (more kvs : List (Key × V)), (mergeK kvs more).length ≤ kvs.length + more.length
  | [], kvs => by show kvs.length ≤ kvs.length + 0; omega
  | p :: r, kvs => by
    have h1 := length_mergeK r (putK kvs p.1 p.2)
    have h2 := length_putK kvs p.1 p.2
    show (mergeK (putK kvs p.1 p.2) r).length ≤ _
    rw [List.length_cons]; omega
structure M2 (X : Cx) (o : Expr) (m : Str) (apos : Pos) (e f : Expr) (cpos : Pos) : Prop where
  base : attributeBase o m X.env (eval o X.env) = eval o X.env
  few : ((backTo cpos (starEach [e, f] X.env)).all (fun x => !x.1) && (backToKw cpos (keywordEach [] X.env)).all (fun x => x.1.isSome)
    && decide (([e, f] : List Expr).length + ([] : List Keyword).length + (if ([] : List Keyword).isEmpty then 0 else 1) < 30)) = true
  line : (apos.endLine == cpos.line) = true
  trees : backTo cpos (starEach [e, f] X.env) = [(false, eval e X.env), (false, eval f X.env)]
def IsD (H : Hp) (a : Addr) : Prop := (∃ kvs, Rd H a (.dK kvs)) ∨ ∃ kvs, Rd H a (.dT kvs)
theorem isD_at {X : Cx} {pins : List (Addr × Obj)} {σ : St} {H : Hp} {s : Shared} {a : Addr} (I : Inv X pins σ H s) (d : IsD H a) :
    s.TypeIs (.ref a) "dict" ∧ (∀ b, Value.ref a = .ref b → ∃ ob, s.heap.get? b = some ob ∧ ob.dict = none) ∧ (a == sysModules) = false := by
  rcases d with ⟨kvs, e⟩ | ⟨kvs, e⟩
  · obtain ⟨_, hd, vs, _, dd⟩ := dk_rd I.hok e
    refine ⟨dd.typeIs, fun b q => ?_, hd⟩
    cases q
    obtain ⟨ob, _, _, h1, h2, _⟩ := dd
    exact ⟨ob, h1, h2.2.1⟩
  · obtain ⟨_, hd, xs, _, dd⟩ := dt_rd I.hok e
    refine ⟨dd.typeIs, fun b q => ?_, hd⟩
    cases q
    obtain ⟨ob, _, _, h1, h2, _⟩ := dd
    exact ⟨ob, h1, h2.2.1⟩
section
variable {X : Cx} {pins : List (Addr × Obj)} {σ : St} {H : Hp} {s : Shared} {a : Addr} {y d : V} {u r : Value} {o : Option V} {A : Around} {E : Value → Shared → Prop}
theorem d_get2 {Q : Value → Shared → Prop} (hu : A.units + 1 < cLine) (I : Inv X pins σ H s) (g : DGet H a y o) (ry : RelV y u) (rd : RelV d r) (h : ∀ w' s', Inv X pins σ H s' → RelV (o.getD d) w' → Q w' s') :
    wpAny (model X.prog X.w) A (call (.builtin "dict.get") [.ref a, u, r]) Q E s := by
  rcases g with ⟨kvs, k, e, ey, l⟩ | ⟨kvs, k, b, e, ey, eb, l⟩
  · subst ey
    obtain ⟨z, hd, vs, rel, dd⟩ := dk_rd I.hok e
    refine call_meetsIn PySem.F.slot_dict_get dd.typeIs PySem.F.entry_dict_get (PySem.F.args_dict_get_3 _ _ _) (meets_dict_get_default (mixKind X.prog X.w) a (kV_is ry) hd r) ⟨_, dd.mapOf, h _ _ (I.tok _) ?_⟩
    rw [l]
    exact (rel.val k).getD rd
  · subst ey
    cases (show u = Value.ref b from ry)
    obtain ⟨z, hd, xs, rel, dd⟩ := dt_rd I.hok e
    refine call_meetsIn PySem.F.slot_dict_get dd.typeIs PySem.F.entry_dict_get (PySem.F.args_dict_get_3 _ _ _) (meetsH_dict_get_default (tupleKind (mixKind X.prog X.w)) a b hd r) ⟨tupleKind_room_in1 hu, k, xs, key_of I.hok eb, dd, h _ _ (I.tok _) ?_⟩
    rw [l]
    exact (rel.val k).getD rd
end
def tDGet2 (td ty tx : TE) : TE := fun σ H Q => td σ H fun x H1 => ∃ a, x = .ref a ∧ IsD H1 a ∧ ty σ H1 fun y H2 => tx σ H2 fun z H3 => ∃ o, DGet H3 a y o ∧ Q (o.getD z) H3
section
variable {X : Cx} {o e f : Expr} {apos cpos : Pos} {td ty tx : TE}
theorem pe_dget2 (hu : X.A.units + 1 < cLine) (ho : PE X o td) (he : PE X e ty) (hf : PE X f tx) (m : M2 X o "get" apos e f cpos) : PE X (.Call (.Attribute o "get" apos) [e, f] [] cpos) (tDGet2 td ty tx) := by
  intro pins s σ H Q I h
  refine wpAny_Call_method m.base m.few m.line PySem.F.plainAttrs_dict PySem.F.slot_dict_get PySem.F.type_dict_get (thn (ho pins s σ H _ I h) fun u s1 ⟨x, H1, I1, rx, a, ex, d, q1⟩ => ?_)
  subst ex
  obtain rfl : u = Value.ref a := rx
  obtain ⟨t1, t2, _⟩ := isD_at I1 d
  refine ⟨t1, t2, ?_⟩
  rw [m.trees]
  refine Calls.callWith_builtin rfl (Calls.evalArgs_plain (Calls.spliced_cons (thn (he pins s1 σ H1 _ I1 q1) fun iv s2 ⟨y, H2, I2, ry, q2⟩ =>
    Calls.spliced_cons (thn (hf pins s2 σ H2 _ I2 q2) fun fv s3 ⟨z, H3, I3, rz, ov, g, q3⟩ => Calls.spliced_nil ?_))))
  exact d_get2 hu I3 g ry rz fun w' s4 I4 rw' => ⟨_, H3, I4, rw', q3⟩
end
section
variable {X : Cx} {pins : List (Addr × Obj)} {σ : St} {H : Hp} {s : Shared} {a : Addr} {kvs : List (Key × V)} {A : Around} {E : Value → Shared → Prop}
theorem d_copyOf {Q : Value → Shared → Prop} (I : Inv X pins σ H s) (e : Rd H a (.dK kvs)) (h : ∀ p s', H p = none → Inv X pins σ (upd H p (.dK kvs)) s' → Q (.ref p) s') : wpAny (model X.prog X.w) A (call (.type "dict") [.ref a]) Q E s := by
  obtain ⟨z, hd, vs, rel, dd⟩ := dk_rd I.hok e
  refine kt_call_dict hd dd (by rw [← rel.length]; exact z) fun h' dd' hs => ?_
  refine h _ _ (I.hok.fresh (Nat.le_refl _)) (I.laid (a := s.heap.objs.size) (o := .dK kvs) (t' := s.toks) (fun b q hq => ?_) (Nat.le_refl _) (dk_new z (beq_eq_false_iff_ne.mpr (Ne.symm (Nat.ne_of_lt I.big))) rel dd'))
  exact (hs.2 b (Nat.ne_of_lt (Heap.lt_size hq))).trans (Heap.get?_push_of_some _ hq)
end
end L2
namespace L2
open PySem PySem.Spec PyProof.Rows
theorem ud_entry : entryFor table "dict.update.loop" = some Builtin.«dict.update.loop» := entryFor_of_tree (by kernel_rfl)
theorem ud_plain : plainId "dict.update.loop" = true := by decide +kernel
end L2
namespace L2
open PySem PySem.Spec PyProof.Rows
section
variable {X : Cx} {pins : List (Addr × Obj)} {σ : St} {H : Hp} {s : Shared} {h' : Heap}
theorem Inv.turnedNew {t' : Nat} {ch : List Addr} {T : Addr} {ob : HO} (I : Inv X pins σ H s) (k : ∀ b o, b ∉ ch → s.heap.get? b = some o → h'.get? b = some o) (hf : ∀ b ∈ ch, FpOk X pins H b) (hT : s.heap.objs.size ≤ T)
    (new : ObjOk X.prog X.w (upd H T ob) h' T ob) : Inv X pins σ (upd H T ob) { s with heap := h', toks := t' } := by
  have hn : H T = none := I.hok.fresh hT
  have nit : ∀ b u, H b = some u → b ∉ ch := fun b u e z => by
    have q := (hf b z).1
    rw [q] at e; cases e
  refine I.step (g' := s.gens) (d' := s.drawn) (ch := ch) (fun b hb => ⟨(hf b hb).2.2.2.1, (hf b hb).2.1, (hf b hb).2.2.2.2.1, (hf b hb).2.2.2.2.2⟩) (fun b o _ _ hc e _ => k b o hc e) (fun b o _ _ hc e _ => ⟨o.slots, k b o hc e⟩)
    (fun b o _ e n => ?_) (fun b o hc e => ⟨o, k b o hc e⟩) (fun b xs e => ?_) (fun b o u e => ?_) (fun b ps e => ⟨#[], ?_⟩) (fun m hm => ?_) (fun b u e => ?_) I.bare
  · rw [upd_ne (Nat.ne_of_lt (Nat.lt_of_lt_of_le (Heap.lt_size e) hT))]; exact n
  · rw [upd_ne (ne_of_none e hn)]; exact e
  · rw [upd_ne (ne_of_none e hn)]; exact e
  · rw [upd_ne (ne_of_none e hn), e]; simp
  · obtain ⟨o, es, ep, ho, r⟩ := hm
    exact ⟨o, es, ep, k _ o (fun z => (hf _ z).2.1 rfl) ho, r⟩
  · by_cases hb : b = T
    · subst hb
      rw [upd_same] at e
      cases e
      exact new
    · rw [upd_ne hb] at e
      refine (I.hok b u e).stay (fun c v hc q => k c v ?_ q) (fun c q => by rw [upd_ne (ne_of_none q hn)]; exact q) fun c xs q => by rw [upd_ne (ne_of_none q hn)]; exact q
      rcases hc with z | z
      · rw [z]; exact nit b u e
      · exact nit c _ z
theorem Inv.lock {d : Addr} {u : HO} (I : Inv X pins σ H s) (h : H d = some u) (mu : Mut (some u)) : ∃ od, Inv X pins σ (upd H d (.frz od u)) s := by
  have x := I.hok d u h
  have ex : ∃ od, s.heap.get? d = some od := by
    cases u with
    | lst xs => obtain ⟨_, _, _, _, e⟩ := x; exact ⟨_, e⟩
    | dK kvs => obtain ⟨_, _, _, _, o, _, _, e, _⟩ := x; exact ⟨o, e⟩
    | dT kvs => obtain ⟨_, _, _, _, o, _, _, e, _⟩ := x; exact ⟨o, e⟩
    | set S n => obtain ⟨o, _, _, _, e, _⟩ := x; exact ⟨o, e⟩
    | ins C dx fs => obtain ⟨_, _, _, e, _⟩ := x; exact ⟨_, e⟩
    | ext φ => obtain ⟨_, ⟨_, e⟩, _⟩ := x; exact ⟨_, e⟩
    | _ => exact False.elim mu
  obtain ⟨od, e⟩ := ex
  have new : ObjOk X.prog X.w (upd H d (.frz od u)) s.heap d (.frz od u) := by
    refine ⟨e, x.stay (fun b v _ q => q) (fun b q => ?_) fun b xs q => ?_⟩
    · rw [upd_ne (fun z => by rw [z, h] at q; cases q; exact mu)]; exact q
    · rw [upd_ne (fun z => by rw [z, h] at q; cases q; exact mu)]; exact q
  exact ⟨od, I.write (x := d) (e := d) (t' := s.toks) (h' := s.heap) (by rw [h]; exact mu) (.inl rfl) (fun b v _ q => q) ⟨od, e⟩ new⟩
theorem Inv.nofrz {d : Addr} {u : HO} (I : Inv X pins σ H s) (h : H d = some u) (mu : Mut (some u)) : ∀ o' u', X.H_0 d ≠ some (.frz o' u') := fun o' u' e => by
  have q := I.base.frzs d o' u' e
  rw [h] at q
  cases q
  exact mu
theorem Inv.unlock {d : Addr} {od : Obj} {u : HO} (I : Inv X pins σ H s) (h : H d = some (.frz od u)) (hn : ∀ o' u', X.H_0 d ≠ some (.frz o' u')) : Inv X pins σ (upd H d u) s := by
  have neH : ∀ b o, H b = some o → (∀ o' u', o ≠ .frz o' u') → b ≠ d := fun b o e hne z => by
    rw [z, h] at e
    cases e
    exact hne _ _ rfl
  have neN : ∀ b, H b = none → b ≠ d := fun b e z => by rw [z, h] at e; cases e
  refine ⟨I.ok, I.os, I.bare, ⟨I.base.keep, I.base.slot, fun b o e n hx => ?_, I.base.there, fun b xs e => ?_, fun b o x e => ?_, fun b ps e => ?_⟩, I.loc, I.cell, ?_, fun x c e => ?_, fun p hp => ?_, fun b o e => ?_, I.len⟩
  · rw [upd_ne (neN b (I.base.free b o e n hx))]; exact I.base.free b o e n hx
  · have q := I.base.tups b xs e
    rw [upd_ne (neH b _ q (fun _ _ z => nomatch z))]; exact q
  · have q := I.base.frzs b o x e
    rw [upd_ne (fun z => by rw [z] at e; exact hn _ _ e)]; exact q
  · obtain ⟨m, q⟩ := I.base.tbls b ps e
    exact ⟨m, by rw [upd_ne (neH b _ q (fun _ _ z => nomatch z))]; exact q⟩
  · rw [upd_ne (neN _ I.free)]; exact I.free
  · rw [upd_ne (neN c (I.freeC x c e))]; exact I.freeC x c e
  · obtain ⟨e, n, r⟩ := I.pin p hp
    exact ⟨e, by rw [upd_ne (neN _ n)]; exact n, r⟩
  · by_cases hb : b = d
    · rw [hb, upd_same] at e
      cases e
      rw [hb]
      obtain ⟨_, x⟩ := I.hok d _ h
      exact x.stay (fun c v _ q => q) (fun c q => by rw [upd_ne (neH c _ q (fun _ _ z => nomatch z))]; exact q) fun c xs q => by rw [upd_ne (neH c _ q (fun _ _ z => nomatch z))]; exact q
    · rw [upd_ne hb] at e
      exact (I.hok b o e).stay (fun c v _ q => q) (fun c q => by rw [upd_ne (neH c _ q (fun _ _ z => nomatch z))]; exact q) fun c xs q => by rw [upd_ne (neH c _ q (fun _ _ z => nomatch z))]; exact q
end
def tLockE (t : TE) : TE := fun σ H Q => ∃ d u, H d = some u ∧ Mut (some u) ∧ ∀ od, t σ (upd H d (.frz od u)) fun v H' => H' d = some (.frz od u) ∧ Q v (upd H' d u)
section
variable {X : Cx}
theorem pe_lock {e : Expr} {t : TE} (h : PE X e t) : PE X e (tLockE t) := by
  intro pins s σ H Q I hw
  obtain ⟨d, u, hd, mu, hw⟩ := hw
  obtain ⟨od, I1⟩ := I.lock hd mu
  refine thn (h pins s σ _ _ I1 (hw od)) fun v s1 ⟨x, H1, I2, r, e2, q⟩ => ?_
  exact ⟨x, _, I2.unlock e2 (I.nofrz hd mu), r, q⟩
theorem pi_one {tg : Expr} {pins : List (Addr × Obj)} {σ : St} {H : Hp} {s : Shared} {R : It → Hp → Prop} {J : It} {tn : Nat → Heap → Prop} {tk : Nat} (I : Inv X pins σ H s) (o : Obj)
    (T : Turn X.prog X.w X.K tg J [s.heap.objs.size] s.heap.objs.size tn) (st : tn 0 (s.heap.push o)) (q : R J H) : PIE X pins σ tg R (.ref s.heap.objs.size) { s with heap := s.heap.push o, toks := tk } := by
  refine ⟨s.heap.objs.size, [s.heap.objs.size], tn, J, H, rfl, I.kept fun b ob e => Heap.get?_push_of_some _ e, T, st, fun b hb => ?_, q⟩
  have e : b = s.heap.objs.size := by simpa using hb
  subst e
  exact I.fpOk (Nat.le_refl _) (I.hok.fresh (Nat.le_refl _))
end
theorem kv_get {κ : Type} {kvs : List (κ × V)} {vs : List (κ × Value)} (h : KV kvs vs) : ∀ {i : Nat} {k : κ} {v : V}, kvs[i]? = some (k, v) → ∃ u, vs[i]? = some (k, u) ∧ RelV v u := by
  unfold KV at h
  induction h with
  | nil => intro i k v e; simp at e
  | @cons a b l₁ l₂ r t ih =>
    intro i k v e
    cases i with
    | zero =>
      simp only [List.getElem?_cons_zero, Option.some.injEq] at e
      subst e
      refine ⟨b.2, ?_, r.2⟩
      simp only [List.getElem?_cons_zero]
      exact congrArg some (Prod.ext r.1.symm rfl)
    | succ j =>
      simp only [List.getElem?_cons_succ] at e ⊢
      exact ih e
theorem paired_get {α β : Type} {G : α → β → Prop} {l₁ : List α} {l₂ : List β} (h : Paired G l₁ l₂) : ∀ {i : Nat} {a : α}, l₁[i]? = some a → ∃ b, l₂[i]? = some b ∧ G a b := by
  induction h with
  | nil => intro i a e; simp at e
  | @cons a b l₁ l₂ r t ih =>
    intro i a' e
    cases i with
    | zero =>
      simp only [List.getElem?_cons_zero, Option.some.injEq] at e
      subst e
      exact ⟨b, rfl, r⟩
    | succ j =>
      simp only [List.getElem?_cons_succ] at e ⊢
      exact ih e
theorem relV_key {k : Key} {u : Value} (h : keyIs k u = true) : RelV (kV k) u := by
  rcases keyIs_shape h with ⟨i, t, rfl, rfl⟩ | ⟨x, t, rfl, rfl⟩
  · exact ⟨t, rfl⟩
  · exact ⟨t, rfl⟩
section
variable {X : Cx} {pins : List (Addr × Obj)} {σ : St} {H : Hp} {s : Shared} {d : Addr} {o : Obj}
theorem Inv.frzK {kvs : List (Key × V)} (I : Inv X pins σ H s) (h : H d = some (.frz o (.dK kvs))) :
    (d == sysModules) = false ∧ s.heap.get? d = some o ∧ o.ExactDict ∧ ∃ (es : Array DictEntry) (ep : Nat) (vs : List (Key × Value)), o.data = .dict es ep ∧ es.size = kvs.length ∧ KV kvs vs ∧ s.heap.DictAt (mixKind X.prog X.w) d vs ep := by
  obtain ⟨hd, z, hs, vs, kv, o', es, ep, ho, hx, hdt, r⟩ := I.hok d _ h
  rw [hd] at ho
  cases ho
  refine ⟨hs, hd, hx, es, ep, vs, hdt, ?_, kv, o, es, hd, hx, hdt, r⟩
  have l1 := r.2.1.length
  have l2 : kvs.length = vs.length := Paired.length kv
  rw [Array.length_toList] at l1
  omega
end
def Iti (d : Addr) (o : Obj) (kvs : List (Key × V)) : It :=
  ⟨fun i H => H d = some (.frz o (.dK kvs)) ∧ i < kvs.length, fun i H x H' => ∃ T k v, kvs[i]? = some (k, v) ∧ x = .ref T ∧ H T = none ∧ H' = upd H T (.tup [kV k, v]), fun i H => H d = some (.frz o (.dK kvs)) ∧ kvs.length ≤ i⟩
theorem dict_ep {o : Obj} {es es' : Array DictEntry} {ep ep' : Nat} (h : o.data = .dict es ep) (h' : o.data = .dict es' ep') : es' = es ∧ ep' = ep := by
  rw [h] at h'
  cases h'
  exact ⟨rfl, rfl⟩
section
variable {P : Program} {w : World} {K : PySem.W.Frag} {tg : Expr} {d : Addr} {o : Obj} {es : Array DictEntry} {ep : Nat}
theorem turn_items {kvs : List (Key × V)} {elts : List Expr} {kk : Nat} {tpos : Pos} (it : Addr) (hod : o.data = .dict es ep) :
    Turn P w K (.Tuple elts kk tpos) (Iti d o kvs) [it] it (fun i h => ∃ ok ov, IsItemIter h it d i kvs.length ep ok ov) where
  mem := by simp
  obj := fun i h st b hb => by
    have e : b = it := by simpa using hb
    subst e
    obtain ⟨ok, ov, e⟩ := st
    exact ⟨_, e, fun v z => nomatch z⟩
  keep := fun i h h' st k => let ⟨ok, ov, e⟩ := st; ⟨ok, ov, k it (by simp) _ e⟩
  item := by
    intro X hP hw hK hc i pins s σ H E I hf st hg
    subst hP hw hK
    obtain ⟨hd, hi⟩ := hg
    obtain ⟨hs, hgd, hx, es', ep', vs, hdt, hsz, kv, hm⟩ := I.frzK hd
    obtain ⟨rfl, rfl⟩ := dict_ep hod hdt
    obtain ⟨⟨k, v⟩, hkv⟩ : ∃ p, kvs[i]? = some p := ⟨kvs[i], List.getElem?_eq_getElem hi⟩
    obtain ⟨u, hu, ru⟩ := kv_get kv hkv
    have hl : kvs.length = vs.length := Paired.length kv
    obtain ⟨ok, ov, he⟩ := st
    rw [hl] at he
    have hlt : it < s.heap.objs.size := Heap.lt_size he
    refine wpAny_pyNext_items_item he hm hu fun key h' hkey ho hT hz hk => ?_
    refine ⟨_, rfl, wpAny_letOwnedTupleGo_items (s := { s with heap := h' }) ho fun h'' he' sb => ?_⟩
    have hT2 : h''.get? s.heap.objs.size = some { cls := .type "tuple", data := .seq #[key, u] } := (sb.2 _ (Nat.ne_of_gt hlt)).trans hT
    have new : ObjOk X.prog X.w (upd H s.heap.objs.size (.tup [kV k, v])) h'' s.heap.objs.size (.tup [kV k, v]) :=
      ⟨by show 2 ≤ sizeLine; decide, [key, u], .cons (relV_key (show keyIs k key = true from hkey)) (.cons ru .nil), ⟨_, hT2, rfl, _, rfl⟩⟩
    have I1 : Inv X pins σ (upd H s.heap.objs.size (.tup [kV k, v])) { s with heap := h'' } :=
      I.turnedNew (t' := s.toks) (ch := [it]) (fun b ob hb e => (sb.2 b (by simpa using hb)).trans (hk b ob (by simpa using hb) e)) hf (Nat.le_refl _) new
    refine ⟨.ref s.heap.objs.size, _, I1, rfl, ⟨_, k, v, hkv, rfl, I.hok.fresh (Nat.le_refl _), rfl⟩, ⟨key, u, ?_⟩, fun b hb => ?_⟩
    · rw [hl]; exact he'
    · have e : b = it := by simpa using hb
      rw [e, upd_ne (Nat.ne_of_lt hlt)]
      exact (hf it (by simp)).1
  done := by
    intro X hP hw hK hc i pins s σ H E I hf st hg
    subst hP hw hK
    obtain ⟨hd, hi⟩ := hg
    obtain ⟨f0, f1, f2, f3, f4, f5⟩ := hf it (by simp)
    obtain ⟨hs, hgd, hx, es', ep', vs, hdt, hsz, kv, hm⟩ := I.frzK hd
    obtain ⟨rfl, rfl⟩ := dict_ep hod hdt
    have hl : kvs.length = vs.length := Paired.length kv
    obtain ⟨ok, ov, he⟩ := st
    rw [hl] at he
    exact wpAny_pyNext_items_end (I.ok.hd hc) he hm (List.getElem?_eq_none (by omega)) fun h' eb => ⟨rfl, I.turned (t' := s.toks) (fun b ob hb e => eb b ob hb e) f0 f1 f3 f4 f5⟩
  self := fun A i s Q E st h => let ⟨_, _, e⟩ := st; PySem.W.kcp_self e h
end
def iItems (td : TE) : TI := fun σ H R => td σ H fun x H1 => ∃ d o kvs, x = .ref d ∧ H1 d = some (.frz o (.dK kvs)) ∧ R (Iti d o kvs) H1
section
variable {X : Cx} {tg e : Expr} {td : TE} {apos cpos : Pos}
theorem pi_items {elts : List Expr} {kk : Nat} {tpos : Pos} (he : PE X e td) (hbase : attributeBase e "items" X.env (eval e X.env) = eval e X.env := by rfl) (hline : (apos.endLine == cpos.line) = true := by rfl) :
    PI X (.Tuple elts kk tpos) (.Call (.Attribute e "items" apos) [] [] cpos) (iItems td) := by
  intro pins s σ H R I h
  refine wpAny_Call_method (T := "dict") (id := "dict.items") hbase rfl hline F.plainAttrs_dict F.slot_dict_items F.type_dict_items (thn (he pins s σ H _ I h) fun u s1 ⟨x, H1, I1, rx, d, o, kvs, ex, hd, q⟩ => ?_)
  subst ex
  obtain rfl : u = Value.ref d := rx
  obtain ⟨hs, hgd, hx, es, ep, vs, hdt, hsz, kv, hm⟩ := I1.frzK hd
  have hl : kvs.length = vs.length := Paired.length kv
  refine ⟨hm.dictOf.typeIs, hm.dictOf.mapOf.noDict, ?_⟩
  have I2 : Inv X pins σ H1 { s1 with heap := s1.heap.push { cls := .type "dict_items", data := .fields #[.ref d] } } := I1.kept (t' := s1.toks) fun b ob q => Heap.get?_push_of_some _ q
  have fin : wpAny (model X.prog X.w) X.A (pyIter (.ref s1.heap.objs.size)) (PIE X pins σ (.Tuple elts kk tpos) R) X.xe { s1 with heap := s1.heap.push { cls := .type "dict_items", data := .fields #[.ref d] } } := by
    refine wpAny_pyIter_items (d := d) (knd := mixKind X.prog X.w) ⟨_, Heap.get?_push_size _ rfl, rfl, rfl⟩ (hm.push _) (pi_one (tk := s1.toks) I2 _ (turn_items _ hdt) ⟨.none, .none, ?_⟩ q)
    rw [hl]
    exact Heap.get?_push_size _ rfl
  show wpAny _ _ (callWith cpos (.builtin "dict.items") [.ref d] [] []) _ X.xe s1
  exact method_meetsIn F.slot_dict_items F.entry_dict_items rfl (PySem.evalArgs_none ⟨rfl, hm.dictOf.typeIs, F.args_dict_items_1 _, _, meets_dict_items (mixKind X.prog X.w) d hs, ⟨vs, hm.dictOf⟩, fin⟩)
end
theorem boot_zip5 : bootBuiltins "zip" = some (.type "zip") := by decide +kernel
end L2
namespace L2
open PySem PySem.Spec PyProof.Rows
def inClass (s : Stmt) (j : Nat) : Stmt := match s with
  | .ClassDef _ _ _ body _ _ _ _ _ _ _ => body.getD j (.Pass ⟨0, 0, 0, 0⟩)
  | _ => .Pass ⟨0, 0, 0, 0⟩
def defArgs (s : Stmt) : Arguments := match s with
  | .FunctionDef _ a _ _ _ _ _ _ _ _ => a
  | _ => { posonlyargs := [], args := [], vararg := none, kwonlyargs := [], kw_defaults := [], kwarg := none, defaults := [] }
def defBody (s : Stmt) : List Stmt := match s with
  | .FunctionDef _ _ b _ _ _ _ _ _ _ => b
  | _ => []
def defScope (s : Stmt) : Scope := match s with
  | .FunctionDef _ _ _ _ _ _ sc _ _ _ => sc
  | _ => { kind := .function, names := [], isGenerator := false, isCoroutine := false }
abbrev CX0 : CXT := fun _ _ _ _ _ _ => False
abbrev E0 : XK := fun _ _ _ => False
theorem pass0 {X : Cx} : Passes CX0 X E0 := fun _ _ _ _ _ _ _ h => h.elim
structure Fun (K : PySem.W.Frag) (x qual : Str) (st : Stmt) (f : Addr) (fd : FuncData) : Prop where
  ex : ∃ (oc : Value) (od : Option Addr) (kV doc pm : Value) (an : Option Addr) (cdv ct : Value) (osl : Array (Option Value)),
    fd = PySem.W.fnOf x qual (defArgs st) (defBody st) (defScope st) .none kV doc pm an cdv ct ∧ K.lookup f = some ⟨oc, od, .func fd, osl⟩ ∧ PySem.W.codeIn K cdv qual = true
  kp : PySem.W.keepIn K (.ref f) = true
section
variable {P : Program} {w : World} {K : PySem.W.Frag} {mg : Str → Option Value} {base : Heap}
theorem Fun.ok {x qual : Str} {st : Stmt} {f : Addr} {fd : FuncData} {N ps : List Str} {k : Nat} {sp : Sp} (F : Fun K x qual st f fd) (S : FnScope N ps (defScope st)) (len : ∀ vs H Q E, sp vs H Q E → vs.length = ps.length)
    (hbody : ∀ (cdv : Value) (A : Around) (outer : List Env) (s : Shared) (H : Hp) (vs : List V) (Q : VK) (E : XK), Room k (A.deeper (envOfC qual (defScope st) s.heap.objs.size f cdv)) → sp vs H Q E →
      ∃ t, PSs (cxOf CX0 P w K mg base N qual (defScope st) f cdv A outer s H E).nox (defBody st) t ∧ t { nx := fun _ H' => Q .non H', rt := Q } (start N vs) H) : FnOk P w K mg base CX0 (k + 1) f fd ps sp := by
  obtain ⟨oc, od, kV, doc, pm, an, cdv, ct, osl, rfl, lk, hcd⟩ := F.ex
  refine fn_of lk hcd S len fun A outer s H vs Q E hr hsp => ?_
  obtain ⟨t, h, q⟩ := hbody cdv A outer s H vs Q E hr hsp
  exact ⟨t, h.nox, q⟩
theorem Fun.binds {x qual : Str} {st : Stmt} {f : Addr} {fd : FuncData} {ps : List Str} (F : Fun K x qual st f fd)
    (h : ∀ (kV doc pm : Value) (an : Option Addr) (cdv ct : Value) (us : List Value), us.length = ps.length → bindArgs (PySem.W.fnOf x qual (defArgs st) (defBody st) (defScope st) .none kV doc pm an cdv ct) ⟨us, []⟩ = pure (ps.zip us)) : Binds K fd ps [] := by
  obtain ⟨oc, od, kV, doc, pm, an, cdv, ct, osl, rfl, lk, hcd⟩ := F.ex
  exact .all (h kV doc pm an cdv ct)
theorem fun_mk {x qual : Str} {st : Stmt} {f : Addr} {oc : Value} {od an : Option Addr} {osl : Array (Option Value)} {kV doc pm cdv ct : Value} (l : K.lookup f = some ⟨oc, od, .func (PySem.W.fnOf x qual (defArgs st) (defBody st) (defScope st) .none kV doc pm an cdv ct), osl⟩)
    (c : PySem.W.codeIn K cdv qual = true) (k : PySem.W.keepIn K (.ref f) = true) : Fun K x qual st f (PySem.W.fnOf x qual (defArgs st) (defBody st) (defScope st) .none kV doc pm an cdv ct) := ⟨⟨oc, od, kV, doc, pm, an, cdv, ct, osl, rfl, l, c⟩, k⟩
end
theorem hu_of {A : Around} {k : Nat} (hr : Room k A) : A.units + 1 < cLine := Nat.lt_of_le_of_lt (Nat.add_le_add_left (by decide : 1 ≤ 64) _) hr.units
section
variable {X : Cx}
theorem pv (i : Nat) {x : Str} {pos : Pos} (hN : X.N[i]? = some x := by rfl) (hv : Vis X.env.scope x := by first | exact Or.inl rfl | exact Or.inr (Or.inl rfl) | exact Or.inr (Or.inr rfl)) (hd : (x == ("__debug__" : Str)) = false := by decide)
    (hcd : (x == ("__classdict__" : Str)) = false := by decide) : PE X (.Name x pos) (tVar i) := pe_var hN hv hd hcd
end
theorem iteF {A B : Prop} (h : B) : if false = true then A else B := by
  rw [if_neg Bool.false_ne_true]
  exact h
theorem iteT {A B : Prop} (h : A) : if true = true then A else B := by
  rw [if_pos rfl]
  exact h
theorem ite2 {c A B : Prop} [Decidable c] (h1 : c → A) (h2 : ¬ c → B) : if c then A else B := by
  by_cases h : c
  · rw [if_pos h]
    exact h1 h
  · rw [if_neg h]
    exact h2 h
def Same (H H' : Hp) : Prop := ∀ b o, H b = some o → H' b = some o
theorem Same.refl (H : Hp) : Same H H := fun _ _ h => h
theorem Same.trans {H H1 H2 : Hp} (a : Same H H1) (b : Same H1 H2) : Same H H2 := fun c o h => b c o (a c o h)
theorem Same.free {H H' : Hp} (e : Same H H') {l : Addr} (h : H' l = Option.none) : H l = Option.none := by
  cases q : H l with
  | none => rfl
  | some o =>
    rw [e l o q] at h
    cases h
theorem Same.seq {K : PySem.W.Frag} {H H' : Hp} {a : Addr} {xs : List V} (e : Same H H') (h : SqL K H a xs) : SqL K H' a xs := by
  rcases h with (h | ⟨o, h⟩) | h
  · exact .inl (.inl (e _ _ h))
  · exact .inl (.inr ⟨o, e _ _ h⟩)
  · exact .inr h
section
variable {κ : Type} [DecidableEq κ]
theorem valV_in {kvs : List (κ × V)} {k : κ} {v : V} (h : valV kvs k = some v) : k ∈ kvs.map (·.1) := by
  have q : (kvs.any fun kv => decide (kv.1 = k)) = true := by
    rw [valV_any, h]
    all_goals rfl
  obtain ⟨p, hp, e⟩ := List.any_eq_true.mp q
  exact List.mem_map.mpr ⟨p, hp, of_decide_eq_true e⟩
end
end L2
section
set_option maxHeartbeats 2000000
namespace L2
open PySem PySem.Spec PyProof.Rows
open PySem.W (WData Codec OpenSpec Well WellAll ReadsW ReadsAllW)
mutual
inductive Dw (K : PySem.W.Frag) (H : Hp) : V → WData → Prop
  | non : Dw K H .non .none
  | bl (b : Bool) : Dw K H (.bl b) (.bool b)
  | int (i : Int) : Dw K H (.int i) (.int i)
  | str (x : Str) : Dw K H (.str x) (.str x)
  | byt (b : Array UInt8) : Dw K H (.byt b) (.bytes b.toList)
  | lst {a : Addr} {xs : List V} {ds : List WData} : SqL K H a xs → DwAll K H xs ds → Dw K H (.ref a) (.list ds)
  | tup {a : Addr} {xs : List V} {ds : List WData} : SqT K H a xs → DwAll K H xs ds → Dw K H (.ref a) (.tuple ds)
inductive DwAll (K : PySem.W.Frag) (H : Hp) : List V → List WData → Prop
  | nil : DwAll K H [] []
  | cons {v : V} {vs : List V} {d : WData} {ds : List WData} : Dw K H v d → DwAll K H vs ds → DwAll K H (v :: vs) (d :: ds)
end
theorem dw_ints {K : PySem.W.Frag} {H : Hp} : ∀ ns : List Int, DwAll K H (ns.map V.int) (ns.map WData.int)
  | [] => .nil
  | n :: r => .cons (.int n) (dw_ints r)
theorem ints_dw {K : PySem.W.Frag} {H : Hp} : ∀ (ns : List Int) (xs : List V), DwAll K H xs (ns.map WData.int) → xs = ns.map V.int
  | [], xs, h => by
    cases h
    rfl
  | n :: r, xs, h => by
    cases h with
    | cons h1 h2 =>
      cases h1
      rw [ints_dw r _ h2] <;> rfl
section
variable {P : Program} {w : World} {K : PySem.W.Frag} {H : Hp} {h : Heap} {R : PySem.W.WRecords} {cl : Str → Option Addr}
theorem sqL_at {a : Addr} {xs : List V} (hok : HOk P w H h) (KX : K.In h) (q : SqL K H a xs) : ∃ (its : List Value) (o : Obj) (n : Nat), Vals xs its ∧ h.get? a = some o ∧ o.cls = .type "list" ∧ o.data = .seq its.toArray n := by
  rcases q with q | ⟨o, its, n, e, hc, _, hd, _, hv⟩
  · obtain ⟨_, its, n, hv, e⟩ := (show ObjOk P w H h a (.lst xs) from q.ok hok)
    exact ⟨its, _, n, hv, e, rfl, rfl⟩
  · exact ⟨its.toList, o, n, hv, KX _ _ e, hc, by simp [hd]⟩
theorem sqT_at {a : Addr} {xs : List V} (hok : HOk P w H h) (KX : K.In h) (q : SqT K H a xs) : ∃ (its : List Value) (o : Obj) (n : Nat), Vals xs its ∧ h.get? a = some o ∧ o.cls = .type "tuple" ∧ o.data = .seq its.toArray n := by
  rcases q with q | ⟨o, its, n, e, hc, hd, _, hv⟩
  · obtain ⟨_, its, hv, o, e, hc, n, hd⟩ := (show ObjOk P w H h a (.tup xs) from q.ok hok)
    exact ⟨its, o, n, hv, e, hc, hd⟩
  · exact ⟨its.toList, o, n, hv, KX _ _ e, hc, by simp [hd]⟩
mutual
theorem Dw.reads (hok : HOk P w H h) (KX : K.In h) : ∀ (d : WData) (v : V) (u : Value), Dw K H v d → RelV v u → ∃ as, ReadsW R cl h u d as
  | .none, _, _, x, r => by
    cases x
    cases r
    exact ⟨_, ReadsW.none⟩
  | .bool b, _, _, x, r => by
    cases x
    cases r
    exact ⟨_, ReadsW.bool b⟩
  | .int i, _, _, x, r => by
    cases x
    obtain ⟨t, rfl⟩ := r
    exact ⟨_, ReadsW.int i t⟩
  | .str s, _, _, x, r => by
    cases x
    obtain ⟨t, rfl⟩ := r
    exact ⟨_, ReadsW.str s t⟩
  | .bytes b, _, _, x, r => by
    cases x
    obtain ⟨t, rfl⟩ := r
    exact ⟨_, ReadsW.bytes _ t⟩
  | .list ds, _, _, x, r => by
    cases x with
    | lst hs ha =>
      cases r
      obtain ⟨its, o, n, rv, ho, hc, hd⟩ := sqL_at hok KX hs
      obtain ⟨as, hr⟩ := Dw.readsAll hok KX ds _ its ha rv
      exact ⟨_, ReadsW.list ho hc hd hr⟩
  | .tuple ds, _, _, x, r => by
    cases x with
    | tup hs ha =>
      cases r
      obtain ⟨its, o, n, rv, ho, hc, hd⟩ := sqT_at hok KX hs
      obtain ⟨as, hr⟩ := Dw.readsAll hok KX ds _ its ha rv
      exact ⟨_, ReadsW.tuple ho hc hd hr⟩
  | .float _, _, _, x, _ => by cases x
  | .dict _, _, _, x, _ => by cases x
  | .bytearray _, _, _, x, _ => by cases x
  | .set _, _, _, x, _ => by cases x
  | .frozenset _, _, _, x, _ => by cases x
  | .obj _ _, _, _, x, _ => by cases x
theorem Dw.readsAll (hok : HOk P w H h) (KX : K.In h) : ∀ (ds : List WData) (vs : List V) (us : List Value), DwAll K H vs ds → Vals vs us → ∃ as, ReadsAllW R cl h us ds as
  | [], _, _, x, r => by
    cases x
    cases r
    exact ⟨_, ReadsAllW.nil⟩
  | d :: ds, _, _, x, r => by
    cases x with
    | cons h1 h2 =>
      cases r with
      | cons r1 r2 =>
        obtain ⟨as, q1⟩ := Dw.reads hok KX d _ _ h1 r1
        obtain ⟨bs, q2⟩ := Dw.readsAll hok KX ds _ _ h2 r2
        exact ⟨_, ReadsAllW.cons q1 q2⟩
end
end
mutual
def plW : WData → Bool
  | .none => true
  | .bool _ => true
  | .int _ => true
  | .str _ => true
  | .bytes _ => true
  | .list xs => plWs xs
  | .tuple xs => plWs xs
  | _ => false
def plWs : List WData → Bool
  | [] => true
  | x :: r => plW x && plWs r
end
theorem plWs_map {α : Type} {f : α → WData} (h : ∀ a, plW (f a) = true) : ∀ l : List α, plWs (l.map f) = true
  | [] => rfl
  | x :: r => by
    show (plW (f x) && plWs (r.map f)) = true
    rw [h x, plWs_map h r] <;> rfl
theorem pl_enc : ∀ (c : Codec) (a : c.denote), plW (c.enc a) = true
  | .unit, _ => rfl
  | .bool, _ => rfl
  | .int _ _, _ => rfl
  | .nat _ _, _ => rfl
  | .u8, _ => rfl
  | .bytes _ _, _ => rfl
  | .text _ _ _ _, _ => rfl
  | .list _ _ c, a => plWs_map (fun x => pl_enc c x) a
  | .pair c d, a => by
    show (plW (c.enc a.1) && (plW (d.enc a.2) && true)) = true
    rw [pl_enc c a.1, pl_enc d a.2] <;> rfl
  | .triple c d e, a => by
    show (plW (c.enc a.1) && (plW (d.enc a.2.1) && (plW (e.enc a.2.2) && true))) = true
    rw [pl_enc c a.1, pl_enc d a.2.1, pl_enc e a.2.2] <;> rfl
  | .option c, none => rfl
  | .option c, some x => pl_enc c x
theorem pl_encAll : ∀ (cs : List Codec) (a : Codec.denoteAll cs), plWs (Codec.encAll cs a) = true
  | [], _ => rfl
  | c :: cs, a => by
    show (plW (c.enc a.1) && plWs (Codec.encAll cs a.2)) = true
    rw [pl_enc c a.1, pl_encAll cs a.2] <;> rfl
theorem weight_mem : ∀ {xs : List WData} {d : WData}, d ∈ xs → d.weight ≤ WData.weightAll xs
  | [], d, h => absurd h (by simp)
  | x :: r, d, h => by
    show d.weight ≤ x.weight + 1 + WData.weightAll r
    rcases List.mem_cons.mp h with e | m
    · rw [e]
      omega
    · have z := weight_mem m
      omega
def toV : Value → V
  | .none => .non
  | .bool b => .bl b
  | .int i _ => .int i
  | .str x _ => .str x
  | .bytes b _ => .byt b
  | .ref a => .ref a
  | _ => .non
def OkU (A : List Addr) : Value → Prop
  | .none => True
  | .bool _ => True
  | .int _ _ => True
  | .str _ _ => True
  | .bytes _ _ => True
  | .ref a => a ∈ A
  | _ => False
theorem OkU.mono {A B : List Addr} (h : ∀ a ∈ A, a ∈ B) : ∀ {u : Value}, OkU A u → OkU B u := fun {u} x => by
  cases u with
  | ref a => exact h a x
  | none => trivial
  | bool b => trivial
  | int i t => trivial
  | str s t => trivial
  | bytes b t => trivial
  | _ => exact False.elim x
theorem relV_toV {A : List Addr} {u : Value} (x : OkU A u) : RelV (toV u) u := by
  cases u with
  | ref a => rfl
  | none => rfl
  | bool b => rfl
  | int i t => exact ⟨t, rfl⟩
  | str s t => exact ⟨t, rfl⟩
  | bytes b t => exact ⟨t, rfl⟩
  | _ => exact False.elim x
theorem vals_toV {A : List Addr} : ∀ {vs : List Value}, (∀ u ∈ vs, OkU A u) → Vals (vs.map toV) vs
  | [], _ => .nil
  | u :: r, h => .cons (relV_toV (h u (List.mem_cons_self ..))) (vals_toV fun x hx => h x (List.mem_cons_of_mem _ hx))
def ArgOb (h : Heap) (A : List Addr) (a : Addr) : Prop := ∃ vs : List Value, vs.length ≤ sizeLine ∧ (∀ u ∈ vs, OkU A u) ∧
  (h.get? a = some { cls := .type "list", data := .seq vs.toArray } ∨ h.get? a = some { cls := .type "tuple", data := .seq vs.toArray })
theorem ArgOb.mono {h : Heap} {A B : List Addr} {a : Addr} (k : ∀ a ∈ A, a ∈ B) (x : ArgOb h A a) : ArgOb h B a := by
  obtain ⟨vs, h1, h2, h3⟩ := x
  exact ⟨vs, h1, fun u hu => (h2 u hu).mono k, h3⟩
theorem wellAll_len {P : Params} {h : Heap} : ∀ {vs : List Value} {ds : List WData}, WellAll P h vs ds → vs.length = ds.length
  | _, _, .nil => rfl
  | _, _, .cons _ b => by
    show _ + 1 = _ + 1
    rw [wellAll_len b]
theorem well_list {P : Params} {h : Heap} {v : Value} {ds : List WData} (x : Well P h v (.list ds)) : ∃ (a : Addr) (vs : List Value), v = .ref a ∧ h.get? a = some { cls := .type "list", data := .seq vs.toArray } ∧ WellAll P h vs ds := by
  cases x with
  | list ho hall => exact ⟨_, _, rfl, ho, hall⟩
theorem well_tuple {P : Params} {h : Heap} {v : Value} {ds : List WData} (x : Well P h v (.tuple ds)) : ∃ (a : Addr) (vs : List Value), v = .ref a ∧ h.get? a = some { cls := .type "tuple", data := .seq vs.toArray } ∧ WellAll P h vs ds := by
  cases x with
  | tuple ho hall => exact ⟨_, _, rfl, ho, hall⟩
theorem well_cons {P : Params} {h : Heap} {us : List Value} {d : WData} {ds : List WData} (x : WellAll P h us (d :: ds)) : ∃ (v : Value) (vs : List Value), us = v :: vs ∧ Well P h v d ∧ WellAll P h vs ds := by
  cases x with
  | cons a b => exact ⟨_, _, rfl, a, b⟩
theorem line_of {n : Nat} (h : n ≤ 1048576) : n ≤ sizeLine := Nat.le_trans h (by decide)
section
variable {P : Params} {h : Heap}
mutual
theorem area_one : ∀ (d : WData) (v : Value), Well P h v d → plW d = true → d.weight ≤ 1048576 → ∃ A : List Addr, OkU A v ∧ ∀ a ∈ A, ArgOb h A a
  | .none, _, x, _, _ => by
    cases x
    exact ⟨[], trivial, fun a m => absurd m (by simp)⟩
  | .bool b, _, x, _, _ => by
    cases x
    exact ⟨[], trivial, fun a m => absurd m (by simp)⟩
  | .int i, _, x, _, _ => by
    cases x
    exact ⟨[], trivial, fun a m => absurd m (by simp)⟩
  | .str s, _, x, _, _ => by
    cases x
    exact ⟨[], trivial, fun a m => absurd m (by simp)⟩
  | .bytes b, _, x, _, _ => by
    cases x
    exact ⟨[], trivial, fun a m => absurd m (by simp)⟩
  | .list ds, _, x, p, z => by
    obtain ⟨a, vs, rfl, ho, hall⟩ := well_list x
    have z2 : WData.weightAll ds ≤ 1048576 := z
    obtain ⟨A, h1, h2⟩ := area_all ds _ hall p fun d hd => Nat.le_trans (weight_mem hd) z2
    have k : ∀ b ∈ A, b ∈ a :: A := fun b hb => List.mem_cons_of_mem _ hb
    refine ⟨a :: A, List.mem_cons_self .., fun b hb => ?_⟩
    rcases List.mem_cons.mp hb with e | m
    · rw [e]
      exact ⟨vs, line_of (by rw [wellAll_len hall]; exact Nat.le_trans (PySem.W.length_le_weightAllW ds) z2), fun u hu => (h1 u hu).mono k, .inl ho⟩
    · exact (h2 b m).mono k
  | .tuple ds, _, x, p, z => by
    obtain ⟨a, vs, rfl, ho, hall⟩ := well_tuple x
    have z2 : WData.weightAll ds ≤ 1048576 := z
    obtain ⟨A, h1, h2⟩ := area_all ds _ hall p fun d hd => Nat.le_trans (weight_mem hd) z2
    have k : ∀ b ∈ A, b ∈ a :: A := fun b hb => List.mem_cons_of_mem _ hb
    refine ⟨a :: A, List.mem_cons_self .., fun b hb => ?_⟩
    rcases List.mem_cons.mp hb with e | m
    · rw [e]
      exact ⟨vs, line_of (by rw [wellAll_len hall]; exact Nat.le_trans (PySem.W.length_le_weightAllW ds) z2), fun u hu => (h1 u hu).mono k, .inr ho⟩
    · exact (h2 b m).mono k
  | .float _, _, _, p, _ => Bool.noConfusion (show false = true from p)
  | .dict _, _, _, p, _ => Bool.noConfusion (show false = true from p)
  | .bytearray _, _, _, p, _ => Bool.noConfusion (show false = true from p)
  | .set _, _, _, p, _ => Bool.noConfusion (show false = true from p)
  | .frozenset _, _, _, p, _ => Bool.noConfusion (show false = true from p)
  | .obj _ _, _, _, p, _ => Bool.noConfusion (show false = true from p)
theorem area_all : ∀ (ds : List WData) (vs : List Value), WellAll P h vs ds → plWs ds = true → (∀ d ∈ ds, d.weight ≤ 1048576) → ∃ A : List Addr, (∀ u ∈ vs, OkU A u) ∧ ∀ a ∈ A, ArgOb h A a
  | [], _, x, _, _ => by
    cases x
    exact ⟨[], fun u m => absurd m (by simp), fun a m => absurd m (by simp)⟩
  | d :: ds, _, x, p, z => by
    obtain ⟨v, vs, rfl, x1, x2⟩ := well_cons x
    have q : plW d = true ∧ plWs ds = true := Bool.and_eq_true_iff.mp p
    obtain ⟨A, a1, a2⟩ := area_one d v x1 q.1 (z d (List.mem_cons_self ..))
    obtain ⟨B, b1, b2⟩ := area_all ds vs x2 q.2 fun e he => z e (List.mem_cons_of_mem _ he)
    have kA : ∀ b ∈ A, b ∈ A ++ B := fun b hb => List.mem_append.mpr (.inl hb)
    have kB : ∀ b ∈ B, b ∈ A ++ B := fun b hb => List.mem_append.mpr (.inr hb)
    refine ⟨A ++ B, fun u hu => ?_, fun b hb => ?_⟩
    · rcases List.mem_cons.mp hu with e | m
      · rw [e]
        exact a1.mono kA
      · exact (b1 u m).mono kB
    · rcases List.mem_append.mp hb with m | m
      · exact (a2 b m).mono kA
      · exact (b2 b m).mono kB
end
end
def hoOf (o : Obj) : Option HO := match o.data with
  | .seq vs _ => if (o.cls == Value.type "list") = true then some (.frz o (.lst (vs.toList.map toV))) else some (.frz o (.tup (vs.toList.map toV)))
  | _ => none
def argH (K : PySem.W.Frag) (h : Heap) (A : List Addr) : Hp := fun b => if b ∈ A then (if (K.lookup b).isNone = true then (h.get? b).bind hoOf else none) else none
def OnlyF (H : Hp) : Prop := ∀ b, H b = none ∨ ∃ o u, H b = some (.frz o u)
theorem hoOf_lst (vs : List Value) : hoOf { cls := .type "list", data := .seq vs.toArray } = some (.frz { cls := .type "list", data := .seq vs.toArray } (.lst (vs.map toV))) := by
  show (if (Value.type "list" == Value.type "list") = true then some (HO.frz { cls := .type "list", data := .seq vs.toArray } (.lst (vs.toArray.toList.map toV))) else some (HO.frz { cls := .type "list", data := .seq vs.toArray } (.tup (vs.toArray.toList.map toV)))) = _
  rw [if_pos (beq_self_eq_true _)]
theorem hoOf_tup (vs : List Value) : hoOf { cls := .type "tuple", data := .seq vs.toArray } = some (.frz { cls := .type "tuple", data := .seq vs.toArray } (.tup (vs.map toV))) := by
  show (if (Value.type "tuple" == Value.type "list") = true then some (HO.frz { cls := .type "tuple", data := .seq vs.toArray } (.lst (vs.toArray.toList.map toV))) else some (HO.frz { cls := .type "tuple", data := .seq vs.toArray } (.tup (vs.toArray.toList.map toV)))) = _
  rw [if_neg (by decide)]
section
variable {P : Program} {w : World} {K : PySem.W.Frag} {h : Heap} {A : List Addr}
theorem argH_at {b : Addr} {o : Obj} (hb : b ∈ A) (hk : K.lookup b = none) (e : h.get? b = some o) : argH K h A b = hoOf o := by
  unfold argH
  rw [if_pos hb, hk, if_pos (show (none : Option Obj).isNone = true from rfl), e] <;> rfl
theorem of_argH {b : Addr} {u : HO} (q : argH K h A b = some u) : b ∈ A ∧ K.lookup b = none := by
  unfold argH at q
  by_cases hb : b ∈ A
  · rw [if_pos hb] at q
    cases hk : K.lookup b with
    | none => exact ⟨hb, rfl⟩
    | some o =>
      rw [hk, if_neg (by simp)] at q
      cases q
  · rw [if_neg hb] at q
    cases q
theorem argH_is (ar : ∀ a ∈ A, ArgOb h A a) {b : Addr} {u : HO} (q : argH K h A b = some u) : K.lookup b = none ∧ ∃ vs : List Value, vs.length ≤ sizeLine ∧ (∀ u ∈ vs, OkU A u) ∧
    ((h.get? b = some { cls := .type "list", data := .seq vs.toArray } ∧ u = .frz { cls := .type "list", data := .seq vs.toArray } (.lst (vs.map toV))) ∨
     (h.get? b = some { cls := .type "tuple", data := .seq vs.toArray } ∧ u = .frz { cls := .type "tuple", data := .seq vs.toArray } (.tup (vs.map toV)))) := by
  obtain ⟨hb, hk⟩ := of_argH q
  obtain ⟨vs, h1, h2, h3⟩ := ar b hb
  refine ⟨hk, vs, h1, h2, ?_⟩
  rcases h3 with e | e
  · rw [argH_at hb hk e, hoOf_lst] at q
    exact .inl ⟨e, (Option.some.inj q).symm⟩
  · rw [argH_at hb hk e, hoOf_tup] at q
    exact .inr ⟨e, (Option.some.inj q).symm⟩
theorem argH_only (ar : ∀ a ∈ A, ArgOb h A a) : OnlyF (argH K h A) := fun b => by
  cases q : argH K h A b with
  | none => exact .inl rfl
  | some u =>
    obtain ⟨_, vs, _, _, ⟨_, e⟩ | ⟨_, e⟩⟩ := argH_is ar q
    · exact .inr ⟨_, _, by rw [e]⟩
    · exact .inr ⟨_, _, by rw [e]⟩
theorem argH_ok (ar : ∀ a ∈ A, ArgOb h A a) : HOk P w (argH K h A) h := fun b u q => by
  obtain ⟨_, vs, h1, h2, ⟨e, rfl⟩ | ⟨e, rfl⟩⟩ := argH_is ar q
  · exact ⟨e, by rw [List.length_map]; exact h1, vs, _, vals_toV h2, e⟩
  · exact ⟨e, by rw [List.length_map]; exact h1, vs, vals_toV h2, _, e, rfl, _, rfl⟩
theorem seq_inj {c c' : Value} {vs us : List Value} (e : (some { cls := c, data := .seq vs.toArray } : Option Obj) = some { cls := c', data := .seq us.toArray }) : c = c' ∧ vs = us := by
  have e1 := Option.some.inj e
  have e2 : c = c' := congrArg Obj.cls e1
  have e3 : Data.seq vs.toArray = Data.seq us.toArray := congrArg Obj.data e1
  injection e3 with e4
  refine ⟨e2, ?_⟩
  have e5 := congrArg Array.toList e4
  simpa using e5
theorem argL (KX : K.In h) (ar : ∀ a ∈ A, ArgOb h A a) {a : Addr} {vs : List Value} (ha : a ∈ A) (e : h.get? a = some { cls := .type "list", data := .seq vs.toArray }) : (∀ u ∈ vs, OkU A u) ∧ SqL K (argH K h A) a (vs.map toV) := by
  obtain ⟨us, h1, h2, h3⟩ := ar a ha
  have hu : us = vs := by
    rcases h3 with q | q
    · rw [e] at q
      exact (seq_inj q).2.symm
    · rw [e] at q
      exact absurd (Value.type.inj (seq_inj q).1) (by decide)
  subst hu
  refine ⟨h2, ?_⟩
  cases hk : K.lookup a with
  | none => exact .inl (.inr ⟨_, by rw [argH_at ha hk e, hoOf_lst]⟩)
  | some o =>
    have e2 := KX a o hk
    rw [e] at e2
    obtain rfl := Option.some.inj e2
    exact .inr ⟨_, us.toArray, _, hk, rfl, rfl, rfl, by rw [List.size_toArray]; exact h1, by simpa using vals_toV h2⟩
theorem argT (KX : K.In h) (ar : ∀ a ∈ A, ArgOb h A a) {a : Addr} {vs : List Value} (ha : a ∈ A) (e : h.get? a = some { cls := .type "tuple", data := .seq vs.toArray }) : (∀ u ∈ vs, OkU A u) ∧ SqT K (argH K h A) a (vs.map toV) := by
  obtain ⟨us, h1, h2, h3⟩ := ar a ha
  have hu : us = vs := by
    rcases h3 with q | q
    · rw [e] at q
      exact absurd (Value.type.inj (seq_inj q).1) (by decide)
    · rw [e] at q
      exact (seq_inj q).2.symm
  subst hu
  refine ⟨h2, ?_⟩
  cases hk : K.lookup a with
  | none => exact .inl (.inr ⟨_, by rw [argH_at ha hk e, hoOf_tup]⟩)
  | some o =>
    have e2 := KX a o hk
    rw [e] at e2
    obtain rfl := Option.some.inj e2
    exact .inr ⟨_, us.toArray, _, hk, rfl, rfl, by rw [List.size_toArray]; exact h1, by simpa using vals_toV h2⟩
mutual
theorem dw_one {Pm : Params} (KX : K.In h) (ar : ∀ a ∈ A, ArgOb h A a) : ∀ (d : WData) (v : Value), Well Pm h v d → plW d = true → OkU A v → Dw K (argH K h A) (toV v) d
  | .none, _, x, _, _ => by
    cases x
    exact .non
  | .bool b, _, x, _, _ => by
    cases x
    exact .bl b
  | .int i, _, x, _, _ => by
    cases x
    exact .int i
  | .str s, _, x, _, _ => by
    cases x
    exact .str s
  | .bytes b, _, x, _, _ => by
    cases x
    have z := Dw.byt (K := K) (H := argH K h A) b.toArray
    exact z
  | .list ds, _, x, p, hu => by
    obtain ⟨a, vs, rfl, ho, hall⟩ := well_list x
    obtain ⟨h2, hs⟩ := argL KX ar hu ho
    exact .lst hs (dw_all KX ar ds _ hall p h2)
  | .tuple ds, _, x, p, hu => by
    obtain ⟨a, vs, rfl, ho, hall⟩ := well_tuple x
    obtain ⟨h2, hs⟩ := argT KX ar hu ho
    exact .tup hs (dw_all KX ar ds _ hall p h2)
  | .float _, _, _, p, _ => Bool.noConfusion (show false = true from p)
  | .dict _, _, _, p, _ => Bool.noConfusion (show false = true from p)
  | .bytearray _, _, _, p, _ => Bool.noConfusion (show false = true from p)
  | .set _, _, _, p, _ => Bool.noConfusion (show false = true from p)
  | .frozenset _, _, _, p, _ => Bool.noConfusion (show false = true from p)
  | .obj _ _, _, _, p, _ => Bool.noConfusion (show false = true from p)
theorem dw_all {Pm : Params} (KX : K.In h) (ar : ∀ a ∈ A, ArgOb h A a) : ∀ (ds : List WData) (vs : List Value), WellAll Pm h vs ds → plWs ds = true → (∀ u ∈ vs, OkU A u) → DwAll K (argH K h A) (vs.map toV) ds
  | [], _, x, _, _ => by
    cases x
    exact .nil
  | d :: ds, _, x, p, hu => by
    obtain ⟨v, vs, rfl, x1, x2⟩ := well_cons x
    have q : plW d = true ∧ plWs ds = true := Bool.and_eq_true_iff.mp p
    exact .cons (dw_one KX ar d v x1 q.1 (hu _ (List.mem_cons_self ..))) (dw_all KX ar ds vs x2 q.2 fun u m => hu u (List.mem_cons_of_mem _ m))
end
end
theorem spec_call {P : Program} {w : World} {K : PySem.W.Frag} {mg mb : Str → Option Value} {CX : CXT} {k : Nat} {fa : Addr} {fd : FuncData} {ps : List Str} {sp : Sp} {s₁ : Shared} {vals : List Value} {ds : List WData} {R : PySem.W.WRecords} {cl : Str → Option Addr} {d0 : WData}
    (KX : K.In s₁.heap) (hns : s₁.heap.Ns mainGlobals mg) (hb : s₁.heap.Ns builtinsNs mb) (hbb : ∀ x : Str, x ≠ "__name__" → mb x = bootBuiltins x) (hlim : s₁.heap.NoLimit) (hg : s₁.gens = #[])
    (hwl : WellAll w.params s₁.heap vals ds) (hpl : plWs ds = true) (hwt : ∀ d ∈ ds, d.weight ≤ 1048576) (hr : Room k callerA)
    (F : ∀ base : Heap, K.In base → base.Ns mainGlobals mg → FnOk P w K mg base CX k fa fd ps sp) (hbind : ∀ (s : Shared) (us : List Value), us.length = ps.length → BindsTo s fd ⟨us, []⟩ (ps.zip us)) (hlen : ds.length = ps.length)
    (hsp : ∀ (H : Hp) (xs : List V), OnlyF H → DwAll K H xs ds → sp xs H (fun v H' => Dw K H' v d0) fun _ _ _ => False)
    (hCX : ∀ H e s', CX [] H s₁ (fun _ _ _ => False) e s' → False) :
    codeAny (model P w) callerA (.call (.ref fa) ⟨vals, []⟩) (fun r s' => ∃ u as, r = .ok (.ret u) ∧ ReadsW R cl s'.heap u d0 as ∧ OldK s₁.heap s'.heap ∧ s'.os = s₁.os ∧ AllBare s'.gens) s₁ := by
  obtain ⟨A, ho, ar⟩ := area_all ds vals hwl hpl hwt
  have hO : OnlyF (argH K s₁.heap A) := argH_only ar
  have hok : HOk P w (argH K s₁.heap A) s₁.heap := argH_ok ar
  have hS := dw_all KX ar ds vals hwl hpl ho
  have hV := vals_toV ho
  have hK : ∀ b u, argH K s₁.heap A b = some u → K.lookup b = none := fun b u q => (argH_is ar q).1
  have noA : ∀ {b : Addr} {o : Obj} {es : Array DictEntry} {ep : Nat}, s₁.heap.get? b = some o → o.data = .dict es ep → argH K s₁.heap A b = none := fun {b o es ep} e d => by
    cases q : argH K s₁.heap A b with
    | none => rfl
    | some u =>
      obtain ⟨_, vs, _, _, ⟨e2, _⟩ | ⟨e2, _⟩⟩ := argH_is ar q
      · rw [e2] at e
        cases e
        have d' : Data.seq vs.toArray _ = Data.dict es ep := d
        cases d'
      · rw [e2] at e
        cases e
        have d' : Data.seq vs.toArray _ = Data.dict es ep := d
        cases d'
  generalize argH K s₁.heap A = H at hO hok hS hK noA
  have base_of : ∀ {b : Addr} {o : Obj}, s₁.heap.get? b = some o → H b = none → (hidT s₁.heap H).get? b = some o := fun e n => hidT_get e n
  have nsK : ∀ {b : Addr} {m : Str → Option Value}, s₁.heap.Ns b m → (hidT s₁.heap H).Ns b m := fun {b m} ⟨o, es, ep, e, d, r⟩ => ⟨o, es, ep, base_of e (noA e d), d, r⟩
  have nK : ∀ b o, K.lookup b = some o → H b = none := fun b o e => by
    cases q : H b with
    | none => rfl
    | some u =>
      rw [hK b u q] at e
      cases e
  have hKb : K.In (hidT s₁.heap H) := fun b o e => base_of (KX b o e) (nK b o e)
  have hM : Mod K mg (hidT s₁.heap H) := ⟨hKb, nsK hns, ⟨mb, nsK hb, hbb⟩, let ⟨mc, h1, h2⟩ := hlim; ⟨mc, nsK h1, h2⟩⟩
  have e0 : Env0 P w K mg (hidT s₁.heap H) callerA [] s₁ H := ⟨rfl, hM, fun b o e => of_hidT e, Nat.le_of_eq (hidT_size _ _), trivial, fun b hb => absurd (show b ∈ ([] : List Addr) from hb) (by simp), hok, .of_eq hg⟩
  have hl : vals.length = ps.length := by rw [wellAll_len hwl]; exact hlen
  refine codeAny_mono ((F _ hKb (nsK hns)).run callerA [] s₁ H ⟨vals, []⟩ vals (vals.map toV) _ _ hr e0 (hbind s₁ vals hl) hV (hsp H _ hO hS)) fun r s' x => ?_
  cases r with
  | error e => exact (hCX H e s' x).elim
  | ok fl =>
    cases fl with
    | next => exact False.elim x
    | brk => exact False.elim x
    | cont => exact False.elim x
    | ret u =>
      obtain ⟨v, H', os, bare, un, hok', r', q⟩ := x
      have kept : ∀ b o, s₁.heap.get? b = some o → s'.heap.get? b = some o := fun b o e => by
        cases q2 : H b with
        | none => exact un.keep b o e q2 (by intro z; exact absurd (show b ∈ ([] : List Addr) from z) (by simp)) (by simp)
        | some u2 =>
          rcases hO b with z | ⟨ob, u3, z⟩
          · rw [q2] at z
            cases z
          · have z2 := un.frzs b ob _ z
            obtain ⟨e1, _⟩ := hok b _ z
            obtain ⟨e2, _⟩ := hok' b _ z2
            rw [e] at e1
            cases e1
            exact e2
      have KX' : K.In s'.heap := fun b o e => kept b o (KX b o e)
      obtain ⟨as, hrd⟩ := Dw.reads (R := R) (cl := cl) hok' KX' d0 v u q r'
      exact ⟨u, as, rfl, hrd, OldK.of_keep kept, os, bare⟩
theorem layable_weight {ds : List WData} (h : WData.layableAll ds = true) : ∀ d ∈ ds, d.weight ≤ 1048576 := fun d hd =>
  (PySem.W.layableW_iff.mp (List.all_eq_true.mp h d hd)).2.2
theorem encAll_len : ∀ (cs : List Codec) (a : Codec.denoteAll cs), (Codec.encAll cs a).length = cs.length
  | [], _ => rfl
  | c :: cs, a => by
    show (Codec.encAll cs a.2).length + 1 = cs.length + 1
    rw [encAll_len cs a.2]
theorem walk_spec {r : OpenSpec} {k : Nat} {q : Program} {loose : List Str} {XP : (Str → Option Value) → Heap → Prop} {YP : World → Heap → Prop} {d : DefRec} {K : Params → PySem.W.Frag} {CX : World → CXT} {ps : List Str} {sp : World → Sp}
    (hwell : r.wellSaid = true) (hdf : d.params.defaults = []) (hlen : r.args.length = ps.length) (hr : Room k callerA)
    (hY : ∀ (w : World) (h : Heap), YP w h → (K w.params).In h)
    (F : ∀ (w : World) (mg : Str → Option Value) (fa : Addr) (h : Heap), YP w h → (K w.params).In h → h.Ns mainGlobals mg → mg d.name = some (.ref fa) →
      ∃ fd : FuncData, (∀ (s : Shared) (us : List Value), us.length = ps.length → BindsTo s fd ⟨us, []⟩ (ps.zip us)) ∧
        ∀ base : Heap, (K w.params).In base → base.Ns mainGlobals mg → FnOk r.prog w (K w.params) mg base (CX w) k fa fd ps (sp w))
    (hsp : ∀ (w : World) (H : Hp) (xs : List V) (a : Codec.denoteAll r.args), OnlyF H → Codec.withinAll r.args a = true → Codec.app r.args r.asked a = true → DwAll (K w.params) H xs (Codec.encAll r.args a) →
      sp w xs H (fun v H' => Dw (K w.params) H' v (r.ret.enc (Codec.app r.args r.f a))) fun _ _ _ => False)
    (hCX : ∀ (w : World) (H : Hp) (s : Shared) (e : Value) (s' : Shared), CX w [] H s (fun _ _ _ => False) e s' → False) :
    PySem.W.WalkOS q loose XP YP r d [] (fun f vs => PySem.call f vs) := by
  intro w s_0 s₁ mg mb G Y fa o pm cd doc dV kV ho hd hcd hD hmg hg args vals as hpre hlay hrd hwl hlo
  obtain ⟨a, e1, e2⟩ := PySem.W.os_pre_some hpre
  obtain ⟨e3, hwi⟩ := Codec.encAll_of_decAll r.args args a e1
  subst e3
  have KX := hY w _ Y
  obtain ⟨fd, hb, hF⟩ := F w mg fa _ Y KX G.T.g hmg
  refine PySem.W.enter_call (codeAny_mono (spec_call (R := []) (cl := classAt s_0.heap) (d0 := r.ret.enc (Codec.app r.args r.f a)) KX G.T.g G.T.b G.T.builtins G.T.nolimit hg hwl (pl_encAll _ _) (layable_weight hlay) hr hF hb (by rw [encAll_len]; exact hlen)
    (fun H xs hO hS => hsp w H xs a hO hwi e2 hS) fun H e s' => hCX w H s₁ e s') fun r' s' hq => ?_)
  obtain ⟨u, as', rfl, h1, h2, h3, h4⟩ := hq
  exact ⟨.inl ⟨u, _, as', rfl, fun _ => rfl, h1, (OpenSpec.post_iff hwell hwi _ _).mpr rfl, fun z => Bool.noConfusion (show false = true from z)⟩, h2, h3, h4⟩
theorem walk_specK {r : OpenSpec} {k : Nat} {q : Program} {loose : List Str} {XP : (Str → Option Value) → Heap → Prop} {YP : World → Heap → Prop} {d : DefRec} {K : Params → PySem.W.Frag} {CX : CXT} {ps : List Str} {sp : PySem.W.Frag → Sp}
    (hwell : r.wellSaid = true) (hdf : d.params.defaults = []) (hlen : r.args.length = ps.length) (hr : Room k callerA)
    (hY : ∀ (w : World) (h : Heap), YP w h → (K w.params).In h)
    (F : ∀ (w : World) (mg : Str → Option Value) (fa : Addr) (h : Heap), YP w h → (K w.params).In h → h.Ns mainGlobals mg → mg d.name = some (.ref fa) →
      ∃ fd : FuncData, (∀ (s : Shared) (us : List Value), us.length = ps.length → BindsTo s fd ⟨us, []⟩ (ps.zip us)) ∧
        ∀ base : Heap, (K w.params).In base → base.Ns mainGlobals mg → FnOk r.prog w (K w.params) mg base CX k fa fd ps (sp (K w.params)))
    (hsp : ∀ (K : PySem.W.Frag) (H : Hp) (xs : List V) (a : Codec.denoteAll r.args), OnlyF H → Codec.withinAll r.args a = true → Codec.app r.args r.asked a = true → DwAll K H xs (Codec.encAll r.args a) →
      sp K xs H (fun v H' => Dw K H' v (r.ret.enc (Codec.app r.args r.f a))) fun _ _ _ => False)
    (hCX : ∀ (H : Hp) (s : Shared) (e : Value) (s' : Shared), CX [] H s (fun _ _ _ => False) e s' → False) :
    PySem.W.WalkOS q loose XP YP r d [] (fun f vs => PySem.call f vs) :=
  walk_spec (K := K) (CX := fun _ => CX) (sp := fun w => sp (K w.params)) hwell hdf hlen hr hY F (fun w H xs a h1 h2 h3 h4 => hsp (K w.params) H xs a h1 h2 h3 h4) fun _ H s e s' => hCX H s e s'
end L2
end
namespace SetW
open PySem
def Rising (xs : Array Nat) : Prop := ∀ (i j a b : Nat), i < j → xs[i]? = some a → xs[j]? = some b → a < b
theorem go_spec (xs : Array Nat) (hr : Rising xs) (j : Nat) : ∀ (fuel lo hi : Nat), hi - lo ≤ fuel → lo ≤ hi → hi ≤ xs.size →
    (∀ i a, i < lo → xs[i]? = some a → a < j) → (∀ i a, hi ≤ i → xs[i]? = some a → j ≤ a) →
    SetTable.below.go xs j fuel lo hi ≤ xs.size ∧ (∀ i a, i < SetTable.below.go xs j fuel lo hi → xs[i]? = some a → a < j) ∧ (∀ i a, SetTable.below.go xs j fuel lo hi ≤ i → xs[i]? = some a → j ≤ a)
  | 0, lo, hi, hf, hl, hh, h1, h2 => by
    have e : lo = hi := by omega
    subst e
    unfold SetTable.below.go
    exact ⟨hh, h1, h2⟩
  | fuel + 1, lo, hi, hf, hl, hh, h1, h2 => by
    unfold SetTable.below.go
    by_cases c : lo < hi
    · rw [if_pos c]
      have hm : (lo + hi) / 2 < xs.size := by omega
      have hg : xs.getD ((lo + hi) / 2) j = xs[(lo + hi) / 2] := by simp [Array.getD, hm]
      have hs : xs[(lo + hi) / 2]? = some xs[(lo + hi) / 2] := Array.getElem?_eq_getElem hm
      dsimp only
      rw [hg]
      by_cases d : xs[(lo + hi) / 2] < j
      · rw [if_pos d]
        refine go_spec xs hr j fuel ((lo + hi) / 2 + 1) hi (by omega) (by omega) hh (fun i a hi' ha => ?_) h2
        by_cases e : i = (lo + hi) / 2
        · subst e
          rw [hs] at ha
          have := Option.some.inj ha
          omega
        · have := hr i ((lo + hi) / 2) a _ (by omega) ha hs
          omega
      · rw [if_neg d]
        refine go_spec xs hr j fuel lo ((lo + hi) / 2) (by omega) (by omega) (by omega) h1 (fun i a hi' ha => ?_)
        by_cases e : i = (lo + hi) / 2
        · subst e
          rw [hs] at ha
          have := Option.some.inj ha
          omega
        · have := hr ((lo + hi) / 2) i _ a (by omega) hs ha
          omega
    · rw [if_neg c]
      have e : lo = hi := by omega
      subst e
      exact ⟨hh, h1, h2⟩
theorem below_spec (xs : Array Nat) (hr : Rising xs) (j : Nat) :
    SetTable.below xs j ≤ xs.size ∧ (∀ i a, i < SetTable.below xs j → xs[i]? = some a → a < j) ∧ (∀ i a, SetTable.below xs j ≤ i → xs[i]? = some a → j ≤ a) := by
  unfold SetTable.below
  refine go_spec xs hr j xs.size 0 xs.size (by omega) (by omega) (by omega) (fun i a h => by omega) (fun i a h ha => ?_)
  rw [Array.getElem?_eq_none h] at ha
  cases ha
theorem below_zero (xs : Array Nat) (hr : Rising xs) : SetTable.below xs 0 = 0 := by
  obtain ⟨h0, h1, _⟩ := below_spec xs hr 0
  by_cases e : SetTable.below xs 0 = 0
  · exact e
  · have := h1 0 xs[0] (by omega) (Array.getElem?_eq_getElem (by omega))
    omega
theorem below_next (xs : Array Nat) (hr : Rising xs) {i a : Nat} (h : xs[i]? = some a) : SetTable.below xs (a + 1) = i + 1 := by
  obtain ⟨h0, h1, h2⟩ := below_spec xs hr (a + 1)
  have hi : i < xs.size := (Array.getElem?_eq_some_iff.mp h).1
  have g1 : i < SetTable.below xs (a + 1) := by
    by_cases c : SetTable.below xs (a + 1) ≤ i
    · have := h2 i a c h; omega
    · omega
  by_cases c : i + 1 < SetTable.below xs (a + 1)
  · have hs : xs[i + 1]? = some xs[i + 1] := Array.getElem?_eq_getElem (by omega)
    have := h1 (i + 1) _ c hs
    have := hr i (i + 1) a _ (by omega) h hs
    omega
  · omega
theorem get_insert {xs : Array Nat} {p j : Nat} (hp : p ≤ xs.size) (i : Nat) : (SetTable.insertAt xs p j)[i]? = if i < p then xs[i]? else if i = p then some j else xs[i - 1]? := by
  rw [← Array.getElem?_toList, SetTable.toList_insertAt]
  have hl : (xs.toList.take p).length = p := by simp; omega
  by_cases c : i < p
  · rw [if_pos c, List.getElem?_append_left (by omega), List.getElem?_take_of_lt c]; simp
  · rw [if_neg c, List.getElem?_append_right (by omega), hl]
    by_cases d : i = p
    · subst d; simp
    · rw [if_neg d]
      obtain ⟨k, hk⟩ : ∃ k, i - p = k + 1 := ⟨i - p - 1, by omega⟩
      rw [hk, List.getElem?_cons_succ, List.getElem?_drop]
      have : p + k = i - 1 := by omega
      rw [this]; simp
theorem rising_insert {xs : Array Nat} (hr : Rising xs) {j : Nat} (h : xs[SetTable.below xs j]? ≠ some j) : Rising (SetTable.insertAt xs (SetTable.below xs j) j) := by
  obtain ⟨h0, h1, h2⟩ := below_spec xs hr j
  have h3 : ∀ i a, SetTable.below xs j ≤ i → xs[i]? = some a → j < a := fun i a hi ha => by
    have q := h2 i a hi ha
    by_cases e : i = SetTable.below xs j
    · rw [← e] at h
      have : a ≠ j := fun z => h (by rw [ha, z])
      omega
    · have hlt : SetTable.below xs j < xs.size := by
        have := (Array.getElem?_eq_some_iff.mp ha).1; omega
      have q2 := h2 (SetTable.below xs j) _ (Nat.le_refl _) (Array.getElem?_eq_getElem hlt)
      have := hr (SetTable.below xs j) i _ a (by omega) (Array.getElem?_eq_getElem hlt) ha
      omega
  intro i k a b hik ha hb
  rw [get_insert h0] at ha hb
  by_cases c1 : i < SetTable.below xs j
  · rw [if_pos c1] at ha
    by_cases c2 : k < SetTable.below xs j
    · rw [if_pos c2] at hb; exact hr i k a b hik ha hb
    · rw [if_neg c2] at hb
      by_cases c3 : k = SetTable.below xs j
      · rw [if_pos c3] at hb
        have := Option.some.inj hb
        have := h1 i a c1 ha
        omega
      · rw [if_neg c3] at hb
        exact hr i (k - 1) a b (by omega) ha hb
  · rw [if_neg c1] at ha
    have c2 : ¬ k < SetTable.below xs j := by omega
    have c3 : ¬ k = SetTable.below xs j := by omega
    rw [if_neg c2, if_neg c3] at hb
    by_cases c4 : i = SetTable.below xs j
    · rw [if_pos c4] at ha
      have := Option.some.inj ha
      have := h3 (k - 1) b (by omega) hb
      omega
    · rw [if_neg c4] at ha
      exact hr (i - 1) (k - 1) a b (by omega) ha hb
theorem rising_range (n : Nat) : Rising (Array.range n) := by
  intro i j a b h ha hb
  simp [Array.getElem?_range] at ha hb
  obtain ⟨_, rfl⟩ := ha
  obtain ⟨_, rfl⟩ := hb
  exact h
theorem not_live {t : SetTable} {j : Nat} (h : t.slot j = .empty ∨ t.slot j = .dummy) : t.place[SetTable.below t.place j]? ≠ some j := by
  intro e
  unfold SetTable.slot at h
  simp [e] at h
theorem probe_go {t : SetTable} {f : Nat → Int} {h : Int} : ∀ (fuel : Nat) (p : SetTable.Probe) (j : Nat) (d : Option Nat), (∀ x, p.dummy = some x → t.slot x = .dummy) →
    SetTable.probe.go t f h fuel p = some (.empty j d) → t.slot j = .empty ∧ ∀ x, d = some x → t.slot x = .dummy
  | 0, p, j, d, hd, e => by simp [SetTable.probe.go] at e
  | fuel + 1, p, j, d, hd, e => by
    unfold SetTable.probe.go at e
    have adv : ∀ q : SetTable.Probe, (t.advance q).dummy = q.dummy := fun q => by unfold SetTable.advance; split <;> rfl
    cases q : t.slot p.j with
    | empty =>
      rw [q] at e
      simp at e
      obtain ⟨rfl, rfl⟩ := e
      exact ⟨q, hd⟩
    | dummy =>
      rw [q] at e
      refine probe_go fuel _ j d (fun x hx => ?_) e
      rw [adv] at hx
      simp at hx
      subst hx
      exact q
    | live i =>
      rw [q] at e
      dsimp only at e
      split at e
      · simp at e
      · refine probe_go fuel _ j d (fun x hx => ?_) e
        rw [adv] at hx
        exact hd x hx
theorem free_not_live {t : SetTable} {h : Int} {j : Nat} {b : Bool} (e : t.freeSlot h = some (j, b)) : t.place[SetTable.below t.place j]? ≠ some j := by
  unfold SetTable.freeSlot at e
  split at e
  · rename_i j' d hp
    unfold SetTable.probe at hp
    obtain ⟨h1, h2⟩ := probe_go _ _ _ _ (fun x hx => by unfold SetTable.probeStart at hx; cases hx) hp
    cases d with
    | none => simp at e; obtain ⟨rfl, _⟩ := e; exact not_live (.inl h1)
    | some x => simp at e; obtain ⟨rfl, _⟩ := e; exact not_live (.inr (h2 x rfl))
  · cases e
structure Good (t : SetTable) (led : Bool) : Prop where
  rise : Rising t.place
  led : t.led = led
theorem good_fresh (a b : Nat) (led : Bool) : Good (.fresh a b led) led := ⟨fun i j a b _ h => by simp [SetTable.fresh] at h, rfl⟩
theorem good_standIn {t : SetTable} {led : Bool} (g : Good t led) (n : Nat) : Good (t.standIn n) led := ⟨rising_range n, g.led⟩
theorem good_off {t : SetTable} {led : Bool} (g : Good t led) (b : Bool) : Good { t with plain := b } led := ⟨g.rise, g.led⟩
theorem good_layNew {t : SetTable} {led : Bool} (g : Good t led) (es : Array (Int × Value)) (h : Int) (x : Value) : Good (layNew t es h x).2.1 led := by
  unfold layNew
  split
  · rename_i slot d e
    have hp : Good (t.put slot).1 led := ⟨rising_insert g.rise (free_not_live e), g.led⟩
    show Good (SetTable.orStandIn (t.put slot).1 _) led
    unfold SetTable.orStandIn
    split
    · exact hp
    · exact good_standIn hp _
  · exact good_standIn g _
theorem rising_live {α : Type} (f : Nat → Option α) (n : Nat) : Rising (((List.range n).filterMap fun j => (f j).map (j, ·)).map (·.1)).toArray := by
  have hp : (((List.range n).filterMap fun j => (f j).map (j, ·)).map (·.1)).Pairwise (· < ·) := by
    rw [List.pairwise_map]
    refine List.Pairwise.filterMap _ ?_ (List.pairwise_lt_range)
    intro a a' h b hb b' hb'
    cases q : f a with
    | none => rw [q] at hb; cases hb
    | some z =>
      cases q' : f a' with
      | none => rw [q'] at hb'; cases hb'
      | some z' =>
        rw [q] at hb; rw [q'] at hb'
        have e1 : (a, z) = b := by simpa using hb
        have e2 : (a', z') = b' := by simpa using hb'
        rw [← e1, ← e2]; exact h
  intro i j a b hij ha hb
  simp only [List.getElem?_toArray] at ha hb
  obtain ⟨hi, rfl⟩ := List.getElem?_eq_some_iff.mp ha
  obtain ⟨hj, rfl⟩ := List.getElem?_eq_some_iff.mp hb
  exact List.pairwise_iff_getElem.mp hp i j hi hj hij
theorem good_laid {mask finger moves : Nat} {led plain : Bool} {hs : Array Int} {t : SetTable} {o : Array Nat} (e : SetTable.laid mask finger moves led plain hs = some (t, o)) : Good t led := by
  unfold SetTable.laid at e
  cases q : SetTable.layClean mask hs with
  | none => rw [q] at e; cases e
  | some owner =>
    rw [q] at e
    have e1 := Option.some.inj e
    obtain ⟨rfl, _⟩ := Prod.mk.inj e1
    exact ⟨rising_live _ _, rfl⟩
theorem good_relayAll {t : SetTable} {led : Bool} (g : Good t led) (es : Array (Int × Value)) (n : Nat) : Good (relayAll t es n).2.1 led := by
  unfold relayAll
  split
  · rename_i t' o e
    dsimp only
    split
    · unfold SetTable.relaid at e
      have := good_laid e
      exact ⟨this.rise, by rw [this.led]; exact g.led⟩
    · exact good_standIn g _
  · exact good_standIn g _
theorem erase_perm {α : Type} {l : List α} {i : Nat} (hi : i < l.length) : ([l[i]] ++ l.eraseIdx i).Perm l := by
  rw [List.eraseIdx_eq_take_drop_succ]
  have e : l = l.take i ++ l[i] :: l.drop (i + 1) := by rw [← List.drop_eq_getElem_cons hi, List.take_append_drop]
  have p : ([l[i]] ++ (l.take i ++ l.drop (i + 1))).Perm (l.take i ++ l[i] :: l.drop (i + 1)) := by
    rw [List.singleton_append]
    exact List.perm_middle.symm
  rw [← e] at p
  exact p
theorem pick_go {α : Type} (next : Nat → Nat) : ∀ (fuel k : Nat) (left : List α) (out : Array α), left.length ≤ fuel → (pickOrder.go next fuel k left out).toList.Perm (out.toList ++ left)
  | 0, k, left, out, h => by
    have e : left = [] := List.eq_nil_of_length_eq_zero (by omega)
    subst e
    unfold pickOrder.go
    simp
  | fuel + 1, k, left, out, h => by
    unfold pickOrder.go
    cases q : left[next k % left.length]? with
    | none =>
      cases left with
      | nil => simp
      | cons a l =>
        have : next k % (a :: l).length < (a :: l).length := Nat.mod_lt _ (by simp)
        rw [List.getElem?_eq_getElem this] at q
        cases q
    | some x =>
      dsimp only
      obtain ⟨hi, hx⟩ := List.getElem?_eq_some_iff.mp q
      refine (pick_go next fuel (k + 1) _ _ (by rw [List.length_eraseIdx]; split <;> omega)).trans ?_
      rw [Array.toList_push, List.append_assoc]
      refine List.Perm.append_left _ ?_
      rw [← hx]
      exact erase_perm hi
theorem pick_perm {α : Type} (next : Nat → Nat) (xs : Array α) : (pickOrder next xs).toList.Perm xs.toList := by
  unfold pickOrder
  simpa using pick_go next xs.size 0 xs.toList #[] (by simp)
end SetW
namespace SetW
open PySem
def keyOf (e : Int × Value) : Int := match e.2 with | .int k _ => k | _ => 0
def byTxt (w : World) : Bool := w.params.followText "set-order"
def SetI (prog : Program) (w : World) (h : Heap) (a : Addr) (L : List Int) (led : Bool) : Prop :=
  ∃ o es ep t, h.get? a = some o ∧ o.ExactSet ∧ o.data = .set es ep t ∧ ElemsOf (intKind prog w) es.toList ∧ (es.toList.map keyOf).Perm L ∧ L.length < scanBound ∧ t.fits es.size = true ∧ Good t led
section
variable {prog : Program} {w : World} {A : Around} {E : Value → Shared → Prop} {s : Shared}
theorem is_shape {k : Int} {v : Value} (h : (intKind prog w).is k v = true) : ∃ t, v = .int k t := Value.isInt_shape h
theorem keyOf_is {k : Int} {e : Int × Value} (h : (intKind prog w).is k e.2 = true) : keyOf e = k := by
  obtain ⟨t, q⟩ := is_shape h
  unfold keyOf
  rw [q]
theorem is_iff {es : List (Int × Value)} (h : ElemsOf (intKind prog w) es) {e : Int × Value} (he : e ∈ es) (k : Int) : (intKind prog w).is k e.2 = true ↔ keyOf e = k := by
  obtain ⟨⟨k', h1, _⟩, _⟩ := h e he
  constructor
  · exact keyOf_is
  · intro q
    rw [keyOf_is h1] at q
    rw [← q]; exact h1
theorem SetI.keep {h h' : Heap} {a : Addr} {L : List Int} {led : Bool} (x : SetI prog w h a L led) (k : ∀ o, h.get? a = some o → h'.get? a = some o) : SetI prog w h' a L led := by
  obtain ⟨o, es, ep, t, ho, r⟩ := x
  exact ⟨o, es, ep, t, k o ho, r⟩
theorem SetI.put {h : Heap} {a : Addr} {o : Obj} {es es' : Array (Int × Value)} {ep : Nat} {t t' : SetTable} {L : List Int} {led : Bool} (ho : h.get? a = some o) (hx : o.ExactSet) (hd : o.data = .set es ep t)
    (hel : ElemsOf (intKind prog w) es'.toList) (hp : (es'.toList.map keyOf).Perm L) (hb : L.length < scanBound) (hf : t'.fits es'.size = true) (g : Good t' led) :
    ∃ o', (h.update a (Obj.putSet es' t')).get? a = some o' ∧ o'.ExactSet ∧ o'.data = .set es' (ep + 1) t' ∧ SetI prog w (h.update a (Obj.putSet es' t')) a L led := by
  have hg := Heap.get?_update_self (Obj.putSet es' t') ho (by rw [putSet_of es' t' hd]; rfl)
  rw [putSet_of es' t' hd] at hg
  exact ⟨_, hg, hx, rfl, _, es', ep + 1, t', hg, hx, rfl, hel, hp, hb, hf, g⟩
theorem small {es : Array (Int × Value)} {L : List Int} (hp : (es.toList.map keyOf).Perm L) : es.size = L.length := by
  have := hp.length_eq
  rw [List.length_map, Array.length_toList] at this
  exact this
theorem tail_ok {g : Bool → Sem Unit} (hg : ∀ (b : Bool) (s₁ : Shared) (Q' : Unit → Shared → Prop), Q' () s₁ → wpAny (model prog w) A (g b) Q' E s₁)
    {a : Addr} {o : Obj} {es es1 : Array (Int × Value)} {ep : Nat} {t t2 : SetTable} {L : List Int} {led wasDummy : Bool} {R : Option Bool → Shared → Prop} (ho : s.heap.get? a = some o) (hx : o.ExactSet) (hd : o.data = .set es ep t)
    (hel : ElemsOf (intKind prog w) es1.toList) (hp : (es1.toList.map keyOf).Perm L) (hb : L.length < scanBound) (hf : t2.fits es1.size = true) (gd : Good t2 led)
    (h : ∀ h', Heap.SameBut a s.heap h' → SetI prog w h' a L led → R (some true) { s with heap := h' }) :
    wpAny (model prog w) A (do
        storeSet a es1 t2
        if (!wasDummy && t2.tooFull) = true then do
            g (relayAll t2 es1 (SetTable.grown es1.size)).2.2
            storeSet a (relayAll t2 es1 (SetTable.grown es1.size)).1 (relayAll t2 es1 (SetTable.grown es1.size)).2.1
            pure (some true)
          else pure (some true)) R E s := by
  have z1 : es1.size < scanBound := by rw [small hp]; exact hb
  refine wpAny_bind (wpAny_storeSet_of ho hd ?_ (fits_of_scanBound z1))
  obtain ⟨o1, ho1, hx1, hd1, S1⟩ := SetI.put (prog := prog) (w := w) ho hx hd hel hp hb hf gd
  have b1 := Heap.SameBut.update s.heap a (Obj.putSet es1 t2)
  split
  · have p2 := relayAll_perm t2 es1 (SetTable.grown es1.size)
    have f2 := relayAll_fits t2 es1 (SetTable.grown es1.size)
    have g2 := good_relayAll gd es1 (SetTable.grown es1.size)
    revert p2 f2 g2
    generalize relayAll t2 es1 (SetTable.grown es1.size) = Z
    intro p2 f2 g2
    obtain ⟨es2, t3, gv⟩ := Z
    dsimp only at p2 f2 g2 ⊢
    have hp2 : (es2.toList.map keyOf).Perm L := (p2.map keyOf).trans hp
    have z2 : es2.size < scanBound := by rw [small hp2]; exact hb
    refine wpAny_bind (hg _ _ _ (wpAny_bind (wpAny_storeSet_of ho1 hd1 ?_ (fits_of_scanBound z2))))
    obtain ⟨o2, _, _, _, S2⟩ := SetI.put (prog := prog) (w := w) ho1 hx1 hd1 (hel.perm p2) hp2 hb f2 g2
    exact wpAny_pure (h _ (b1.trans (Heap.SameBut.update _ a _)) S2)
  · exact wpAny_pure (h _ b1 S1)
def addI (L : List Int) (k : Int) : List Int := if k ∈ L then L else L ++ [k]
theorem add_ok {a : Addr} {L : List Int} {led : Bool} {k : Int} {t0 : Tok} {Q : Bool → Shared → Prop} (hS : SetI prog w s.heap a L led) (hroom : L.length + 1 < scanBound)
    (h : ∀ b h', Heap.SameBut a s.heap h' → SetI prog w h' a (addI L k) led → Q b { s with heap := h' }) :
    wpAny (model prog w) A (setAddHashed a (.int k t0) ((intKind prog w).hash k)) Q E s := by
  obtain ⟨o, es, ep, t, ho, hx, hd, hel, hp, hb, hf, gd⟩ := hS
  have hk : (intKind prog w).is k (.int k t0) = true := intKind_is _ _ _ _
  have hsc : (Value.int k t0).scannable = true := rfl
  have z : es.size < scanBound := by rw [small hp]; exact hb
  have inL : (∃ e ∈ es.toList, (intKind prog w).is k e.2 = true) ↔ k ∈ L := by
    rw [← hp.mem_iff, List.mem_map]
    constructor
    · rintro ⟨e, he, q⟩; exact ⟨e, he, (is_iff hel he k).mp q⟩
    · rintro ⟨e, he, q⟩; exact ⟨e, he, (is_iff hel he k).mpr q⟩
  unfold setAddHashed setAddHashedIn
  refine wpAny_holding (wpAny_bind (wpAny_setState_of ho hd hf ?_))
  dsimp only
  rw [byScan_of hsc z hel, if_pos rfl]
  unfold setAddByScan
  refine wpAny_bind (wpAny_bind (wpAny_rule (wpAny_bind (wpAny_setScan_of hk ho hd hf hel ?_))))
  cases hr : List.findIdx? (fun e => (intKind prog w).is k e.2) es.toList with
  | some j =>
    dsimp only
    obtain ⟨hj, hq, _⟩ := List.findIdx?_eq_some_iff_getElem.mp hr
    have hin : k ∈ L := inL.mp ⟨es.toList[j], List.getElem_mem hj, hq⟩
    refine wpAny_pure (wpAny_pure ?_)
    have := h false s.heap (Heap.SameBut.refl a s.heap) (by unfold addI; rw [if_pos hin]; exact ⟨o, es, ep, t, ho, hx, hd, hel, hp, hb, hf, gd⟩)
    exact this
  | none =>
    dsimp only
    have hout : ¬ k ∈ L := fun q => by
      obtain ⟨e, he, q⟩ := inL.mpr q
      have := List.findIdx?_eq_none_iff.mp hr e he
      rw [q] at this
      cases this
    have p1 := layNew_perm t es ((intKind prog w).hash k) (.int k t0)
    have f1 := layNew_fits t es ((intKind prog w).hash k) (.int k t0)
    have g1 := good_layNew gd es ((intKind prog w).hash k) (.int k t0)
    revert p1 f1 g1
    generalize layNew t es ((intKind prog w).hash k) (.int k t0) = Z
    intro p1 f1 g1
    obtain ⟨es1, t1, wd, gv⟩ := Z
    dsimp only at p1 f1 g1 ⊢
    rw [Array.toList_push] at p1
    have hel1 : ElemsOf (intKind prog w) es1.toList := (hel.push hk hsc).perm p1
    have hp1 : (es1.toList.map keyOf).Perm (addI L k) := by
      unfold addI
      rw [if_neg hout]
      refine (p1.map keyOf).trans ?_
      rw [List.map_append]
      exact hp.append (List.Perm.refl _)
    have hb1 : (addI L k).length < scanBound := by unfold addI; rw [if_neg hout, List.length_append]; exact hroom
    have ru : ∀ (b : Bool) (s₁ : Shared) (Q' : Unit → Shared → Prop), Q' () s₁ → wpAny (model prog w) A (match b with | true => rule "set.scan.the-table-gave-way" | false => pure ()) Q' E s₁ :=
      fun b s₁ Q' q => by cases b; exact wpAny_pure q; exact wpAny_rule q
    refine wpAny_bind (ru _ _ _ ?_)
    have fin : ∀ h', Heap.SameBut a s.heap h' → SetI prog w h' a (addI L k) led → wpAny (model prog w) A (pure true) Q E { s with heap := h' } := fun h' b S => wpAny_pure (h true h' b S)
    split
    · refine wpAny_bind ?_
      rw [hashByValue_scannable 8 hsc]
      refine wpAny_pure (tail_ok (g := fun b => match b with | true => rule "set.scan.the-table-gave-way" | false => pure ()) (fun b s₁ Q' q => ru b s₁ Q' q) ho hx hd hel1 hp1 hb1 ?_ ?_ fin)
      · split
        · exact f1
        · exact SetTable.fits_plain_off f1
      · split
        · exact g1
        · exact good_off g1 _
    · refine wpAny_bind (wpAny_pure ?_)
      simp only [if_true]
      exact tail_ok (g := fun b => match b with | true => rule "set.scan.the-table-gave-way" | false => pure ()) (fun b s₁ Q' q => ru b s₁ Q' q) ho hx hd hel1 hp1 hb1 f1 g1 fin
end
end SetW
namespace SetW
open PySem
theorem si_next : Slot "set_iterator" "__next__" "set_iterator.__next__" :=
  .of (owner := "set_iterator") (n := "__next__") (by rw [typeLookup_type, builtinLookup_eq_fast]; kernel_rfl)
    (by decide +kernel) (by decide +kernel) (by decide +kernel)
    (by first | exact .inl (by decide +kernel) | exact .inr (by decide +kernel))
    (by rw [isSubtype_type]; kernel_rfl)
theorem si_entry : entryFor table "set_iterator.__next__" = some Builtin.«set_iterator.__next__» :=
  entryFor_of_tree (by kernel_rfl)
theorem si_owner : Manifest.owners.lookup (String.ofList ['r', 'o', 't', 'a', 'r', 'e', 't', 'i', '_', 't', 'e', 's'].reverse) = some Manifest.sig_set_iterator := by kernel_rfl
theorem si_args (a : Value) : argsOk "set_iterator.__next__" ⟨[a], []⟩ := by
  unfold argsOk
  rw [signature?_of (id := "set_iterator.__next__") (n := ['_', '_', 't', 'x', 'e', 'n', '_', '_']) (o := ['r', 'o', 't', 'a', 'r', 'e', 't', 'i', '_', 't', 'e', 's']) (by kernel_rfl) si_owner]
  kernel_rfl
theorem s_iter_entry : entryFor table "set.__iter__" = some Builtin.«frozenset.__iter__» :=
  entryFor_alias (id' := "frozenset.__iter__") (by kernel_rfl) (by first | rfl | decide +kernel) (by decide +kernel) (by kernel_rfl)
abbrev itObj (first : Value) (i S n ep : Nat) : Obj := { cls := .type "set_iterator", dict := none, data := .fields #[first, rawInt i, .ref S, rawInt n, rawInt ep], slots := #[] }
section
variable {prog : Program} {w : World} {A : Around} {E : Value → Shared → Prop} {s : Shared} {I S : Addr} {o : Obj} {es : Array (Int × Value)} {ep : Nat} {t : SetTable}
theorem stop_ok {X : Type} {Q : X → Shared → Prop} (hh : A.handled = none) (h : ∀ h' e, (∀ b u, s.heap.get? b = some u → h'.get? b = some u) → (∃ u, h'.get? e = some u ∧ u.cls = .type "StopIteration") → E (.ref e) { s with heap := h' }) :
    wpAny (model prog w) A (do raiseNew (← newExc (.type "StopIteration") [])) Q E s := by
  refine wpAny_bind ?_
  simp only [newExc, newTuple]
  refine wpAny_bind (wpAny_newObj_type ?_ (by size_fits))
  refine wpAny_bind (m := firstArgMember _ _) (wpAny_of_eq (a := Value.none) (by first | rfl | (simp only [firstArgMember]; rfl)) ?_)
  refine wpAny_newObj_type ?_ (by size_fits)
  simp only [raiseNew]
  refine wpAny_bind (wpAny_handled ?_)
  rw [hh]
  refine wpAny_bind (wpAny_pure (wpAny_throw ?_))
  exact h _ _ (fun b u q => Heap.get?_push_of_some _ (Heap.get?_push_of_some _ q)) ⟨_, Heap.get?_push_size _ rfl, rfl⟩
theorem next_head {first : Value} {i : Nat} {Q : Option Value → Shared → Prop} (hI : s.heap.get? I = some (itObj first i S es.size ep))
    (hS : s.heap.get? S = some o) (hd : o.data = .set es ep t) (hf : t.fits es.size = true)
    (h : wpAny (model prog w) A.in1 (do
      if let .int slot _ := first then
        match ← setNext S slot.toNat i ep with
        | some (x, next) =>
          setField (.ref I) 0 (rawInt next)
          setField (.ref I) 1 (rawInt ((i : Int) + 1))
          ret x
        | none => setField (.ref I) 2 .none; raiseNew (← newExc (.type "StopIteration") [])
      else
        let some places ← seqItems? first | unsupported "internal:set_iterator"
        match places[i]? with
        | some (.int place _) =>
          let x ← setNextDrawn S place.toNat ep
          setField (.ref I) 1 (rawInt ((i : Int) + 1))
          ret x
        | some _ => unsupported "internal:set_iterator"
        | none => setField (.ref I) 0 (rawInt 0); setField (.ref I) 2 .none; raiseNew (← newExc (.type "StopIteration") []))
      (fun fin s' => ∃ v, fin = .done (.ret v) ∧ Q (some v) s') (fun e s' => (∃ u, s'.heap.get? I = some u) ∧ ∃ a u, e = .ref a ∧ s'.heap.get? a = some u ∧ u.cls = .type "StopIteration" ∧ Q none s') s) :
    wpAny (model prog w) A (pyNext (.ref I)) Q E s := by
  have hT : s.TypeIs (.ref I) "set_iterator" := ⟨_, hI, rfl⟩
  unfold pyNext
  refine wpAny_bind (wpAny_attempt (wpAny_callSpecial?_slot (name := Str.ofString "__next__") hT si_next (wpAny_call_entry si_next hT si_entry ?_ (si_args _))))
  unfold Builtin.«set_iterator.__next__»
  refine wpAny_bind (wpAny_pure ?_)
  refine wpAny_bind (wpAny_fieldsOf hI rfl ?_)
  show wpAny _ _ (setEntries S >>= _) _ _ _
  refine wpAny_bind (wpAny_setEntries_of hS hd hf ?_)
  rw [if_neg (by simp)]
  refine wpAny_mono h ?_ ?_
  · rintro fin s' ⟨v, rfl, q⟩
    exact ⟨v, rfl, wpAny_pure q⟩
  · rintro e s' ⟨_, a, u, rfl, hu, hc, q⟩
    exact wpAny_bind (wpAny_isInstance (T := "StopIteration") (b := true) ⟨u, hu, hc⟩ isSubtype_stop (wpAny_pure q))
end
end SetW
namespace SetW
open PySem
section
variable {prog : Program} {w : World} {A : Around} {E : Value → Shared → Prop} {s : Shared} {I S : Addr} {o : Obj} {es : Array (Int × Value)} {ep : Nat} {t : SetTable}
theorem choose_ok {src : Source} {n : Nat} {Q : Nat → Shared → Prop} (hn : n ≠ 0) (h : ∀ i, i < n → Q i { s with drawn := s.drawn.bump src }) : wpAny (model prog w) A (choose src n) Q E s :=
  fun _ _ _ => ⟨hn, h _ (Nat.mod_lt _ (Nat.pos_of_ne_zero hn))⟩
theorem draw_ok {α : Type} : ∀ (n : Nat) (xs : List α) (s : Shared) (Q : List α → Shared → Prop), xs.length = n → (∀ ys d, ys.Perm xs → Q ys { s with drawn := d }) → wpAny (model prog w) A (drawOrder n xs) Q E s
  | 0, xs, s, Q, hl, h => by
    have e : xs = [] := List.eq_nil_of_length_eq_zero hl
    subst e
    unfold drawOrder
    exact wpAny_pure (h [] s.drawn (List.Perm.refl _))
  | n + 1, [], s, Q, hl, h => by cases hl
  | n + 1, x :: l, s, Q, hl, h => by
    unfold drawOrder
    refine wpAny_bind (choose_ok (by simp) fun i hi => ?_)
    rw [List.getElem?_eq_getElem hi]
    dsimp only
    refine wpAny_bind (draw_ok n ((x :: l).eraseIdx i) _ _ (by rw [List.length_eraseIdx]; rw [if_pos hi]; omega) fun ys d hp => wpAny_pure ?_)
    exact h _ d ((hp.cons _).trans (by have := erase_perm hi; rwa [List.singleton_append] at this))
theorem text_ok {Q : Bool → Shared → Prop} (h : Q (byTxt w) s) : wpAny (model prog w) A setsByText Q E s := by
  unfold setsByText
  exact wpAny_bind (wpAny_askSetting (wpAny_pure h))
theorem drawn_ok {Q : Bool → Shared → Prop} (hS : s.heap.get? S = some o) (hd : o.data = .set es ep t) (hf : t.fits es.size = true) (h : Q (!byTxt w && (!t.plain && decide (es.size > 1))) s) : wpAny (model prog w) A (setDrawn S) Q E s := by
  unfold setDrawn
  exact wpAny_bind (wpAny_setState_of hS hd hf (wpAny_bind (text_ok (wpAny_pure h))))
theorem nextT {Q : Option (Value × Nat) → Shared → Prop} {slot i : Nat} (hb : byTxt w = true) (hS : s.heap.get? S = some o) (hd : o.data = .set es ep t) (hf : t.fits es.size = true)
    (h : Q (((pickOrder (w.params.setOrder S ep) es)[i]?).map fun e => (e.2, slot)) s) : wpAny (model prog w) A (setNext S slot i ep) Q E s := by
  unfold setNext
  refine wpAny_bind (wpAny_setState_of hS hd hf ?_)
  dsimp only
  refine wpAny_bind (text_ok ?_)
  rw [hb, if_pos rfl, if_neg (by simp)]
  refine wpAny_bind ?_
  unfold setWalk
  refine wpAny_bind (wpAny_setState_of hS hd hf ?_)
  dsimp only
  refine wpAny_bind (text_ok ?_)
  rw [hb, if_pos rfl]
  exact wpAny_bind (wpAny_askSetting (wpAny_pure (wpAny_pure h)))
theorem nextP {Q : Option (Value × Nat) → Shared → Prop} {slot i : Nat} (hb : byTxt w = false) (hp : (!t.plain && decide (es.size > 1)) = false) (hl : t.led = true) (hS : s.heap.get? S = some o) (hd : o.data = .set es ep t) (hf : t.fits es.size = true)
    (h : Q (match es[SetTable.below t.place slot]?, t.place[SetTable.below t.place slot]? with | some (_, x), some j => some (x, j + 1) | _, _ => none) s) : wpAny (model prog w) A (setNext S slot i ep) Q E s := by
  unfold setNext
  refine wpAny_bind (wpAny_setState_of hS hd hf ?_)
  dsimp only
  refine wpAny_bind (text_ok ?_)
  rw [hb, if_neg Bool.false_ne_true]
  show wpAny _ _ (if (!t.plain && decide (es.size > 1)) = true then _ else _) _ _ _
  rw [hp, if_neg Bool.false_ne_true]
  show wpAny _ _ ((if (!t.led && !es.isEmpty) = true then unsupported "set:maker-not-led" else pure ()) >>= _) _ _ _
  rw [hl]
  exact wpAny_bind (wpAny_pure (wpAny_pure h))
theorem nextD {Q : Value → Shared → Prop} {p : Nat} {e : Int × Value} (he : es[p]? = some e) (hS : s.heap.get? S = some o) (hd : o.data = .set es ep t) (hf : t.fits es.size = true) (h : Q e.2 s) : wpAny (model prog w) A (setNextDrawn S p ep) Q E s := by
  unfold setNextDrawn
  refine wpAny_bind (wpAny_setState_of hS hd hf ?_)
  dsimp only
  rw [if_neg (by simp), he]
  exact wpAny_pure h
theorem self_ok {first : Value} {i : Nat} {Q : Value → Shared → Prop} (hI : s.heap.get? I = some (itObj first i S es.size ep)) (h : Q (.ref I) s) : wpAny (model prog w) A (pyIter (.ref I)) Q E s := by
  have hT : s.TypeIs (.ref I) "set_iterator" := ⟨_, hI, rfl⟩
  have sl : Slot "set_iterator" "__iter__" "set_iterator.__iter__" :=
    .of (owner := "set_iterator") (n := "__iter__") (by rw [typeLookup_type, builtinLookup_eq_fast]; kernel_rfl)
      (by decide +kernel) (by decide +kernel) (by decide +kernel)
      (by first | exact .inl (by decide +kernel) | exact .inr (by decide +kernel))
      (by rw [isSubtype_type]; kernel_rfl)
  have en : entryFor table "set_iterator.__iter__" = some Builtin.«dict_keyiterator.__iter__» :=
    entryFor_alias (id' := "dict_keyiterator.__iter__") (by kernel_rfl) (by first | rfl | decide +kernel) (by decide +kernel) (by kernel_rfl)
  have ar : argsOk "set_iterator.__iter__" ⟨[.ref I], []⟩ := by
    unfold argsOk
    rw [signature?_of (id := "set_iterator.__iter__") (n := ['_', '_', 'r', 'e', 't', 'i', '_', '_']) (o := ['r', 'o', 't', 'a', 'r', 'e', 't', 'i', '_', 't', 'e', 's']) (by kernel_rfl) si_owner]
    kernel_rfl
  refine wpAny_pyIter_slot hT sl (wpAny_call_entry sl hT en ?_ ar)
  show wpAny _ _ (ret (.ref I)) _ _ s
  exact wpAny_pure ⟨_, rfl, "set_iterator", _, hT, si_next.lookup, h⟩
theorem walk_slot (hh : A.handled = none) (hne : S ≠ I) (hd : o.data = .set es ep t) (hf : t.fits es.size = true) (l : List (Int × Value)) (hl : l.length = es.size) (first : Nat → Nat)
    (hs : ∀ (i : Nat) (e : Int × Value) (A : Around) (E : Value → Shared → Prop) (s : Shared) (Q : Option (Value × Nat) → Shared → Prop), l[i]? = some e → s.heap.get? S = some o → Q (some (e.2, first (i + 1))) s → wpAny (model prog w) A (setNext S (first i) i ep) Q E s)
    (he : ∀ (A : Around) (E : Value → Shared → Prop) (s : Shared) (Q : Option (Value × Nat) → Shared → Prop), s.heap.get? S = some o → Q none s → wpAny (model prog w) A (setNext S (first es.size) es.size ep) Q E s) :
    Walks prog w A I [I, S] [I] es.size (fun i v => (l.map (·.2))[i]? = some v) (fun i h => h.get? I = some (itObj (rawInt (first i)) i S es.size ep) ∧ h.get? S = some o) where
  sub := fun b hb => by simp at hb; simp [hb]
  frame := fun i h h' st k => ⟨k I (by simp) _ st.1, k S (by simp) _ st.2⟩
  item := fun i s Q E hi st hQ => by
    obtain ⟨e, hle⟩ : ∃ e, l[i]? = some e := ⟨_, List.getElem?_eq_getElem (by omega)⟩
    refine next_head st.1 st.2 hd hf ?_
    show wpAny _ _ (setNext S (((first i : Nat) : Int)).toNat i ep >>= _) _ _ _
    rw [Int.toNat_natCast]
    refine wpAny_bind (hs i e _ _ _ _ hle st.2 ?_)
    dsimp only
    refine wpAny_bind (wpAny_setField_rec st.1 (by simp) fun h1 e1 b1 => ?_)
    refine wpAny_bind (wpAny_setField_rec e1 (by simp) fun h2 e2 b2 => wpAny_pure ⟨_, rfl, ?_⟩)
    refine hQ e.2 h2 s.toks (by rw [List.getElem?_map, hle]; rfl) ⟨by simpa [itObj] using e2, ?_⟩ fun b u hb q => ?_
    · exact (b2.2 S hne).trans ((b1.2 S hne).trans st.2)
    · have hb' : b ≠ I := fun z => hb (by simp [z])
      exact (b2.2 b hb').trans ((b1.2 b hb').trans q)
  done := fun s Q E st hQ => by
    refine next_head st.1 st.2 hd hf ?_
    show wpAny _ _ (setNext S (((first es.size : Nat) : Int)).toNat es.size ep >>= _) _ _ _
    rw [Int.toNat_natCast]
    refine wpAny_bind (he _ _ _ _ st.2 ?_)
    dsimp only
    refine wpAny_bind (wpAny_setField_rec st.1 (by simp) fun h1 e1 b1 => ?_)
    refine stop_ok hh fun h' ex k ⟨u, hu, hc⟩ => ⟨⟨_, k _ _ e1⟩, ex, u, rfl, hu, hc, ?_⟩
    exact hQ h' s.toks fun b u hb q => k b u ((b1.2 b (fun z => hb (by simp [z]))).trans q)
  self := fun i s Q E st hQ => self_ok st.1 hQ
theorem walk_drawn {T : Addr} {oT : Obj} {nT : Nat} (hh : A.handled = none) (hne : S ≠ I) (hTI : T ≠ I) (hd : o.data = .set es ep t) (hf : t.fits es.size = true) (ps : List Nat) (hps : ps.Perm (List.range es.size)) (hdT : oT.data = .seq (ps.map fun p : Nat => rawInt p).toArray nT) :
    Walks prog w A I [I, S, T] [I] es.size (fun i v => ((ps.filterMap (es[·]?)).map (·.2))[i]? = some v) (fun i h => h.get? I = some (itObj (.ref T) i S es.size ep) ∧ h.get? S = some o ∧ h.get? T = some oT) where
  sub := fun b hb => by simp at hb; simp [hb]
  frame := fun i h h' st k => ⟨k I (by simp) _ st.1, k S (by simp) _ st.2.1, k T (by simp) _ st.2.2⟩
  item := fun i s Q E hi st hQ => by
    have hlen : ps.length = es.size := by rw [hps.length_eq, List.length_range]
    have hip : i < ps.length := by omega
    have hlt : ∀ p ∈ ps, p < es.size := fun p hp => List.mem_range.mp (hps.mem_iff.mp hp)
    have hpi : ps[i] < es.size := hlt _ (List.getElem_mem hip)
    have hfm : ∀ (qs : List Nat), (∀ p ∈ qs, p < es.size) → ∀ (j : Nat), (qs.filterMap (es[·]?))[j]? = qs[j]?.bind (es[·]?) := by
      intro qs
      induction qs with
      | nil => intro _ j; simp
      | cons a r ih =>
        intro hq j
        have ha : a < es.size := hq a (by simp)
        rw [List.filterMap_cons_some (b := es[a]) (Array.getElem?_eq_getElem ha)]
        cases j with
        | zero => simp [ha]
        | succ j => simpa using ih (fun p hp => hq p (by simp [hp])) j
    refine next_head st.1 st.2.1 hd hf ?_
    show wpAny _ _ (seqItems? (.ref T) >>= _) _ _ _
    refine wpAny_bind (wpAny_seqItems st.2.2 hdT ?_)
    have hat : ((ps.map fun p : Nat => rawInt p).toArray)[i]? = some (rawInt ps[i]) := by simp [hip]
    simp only [hat]
    show wpAny _ _ (setNextDrawn S (((ps[i] : Nat) : Int)).toNat ep >>= _) _ _ _
    rw [Int.toNat_natCast]
    refine wpAny_bind (nextD (Array.getElem?_eq_getElem hpi) st.2.1 hd hf ?_)
    refine wpAny_bind (wpAny_setField_rec st.1 (by simp) fun h1 e1 b1 => wpAny_pure ⟨_, rfl, ?_⟩)
    refine hQ _ h1 s.toks (by rw [List.getElem?_map, hfm ps hlt, List.getElem?_eq_getElem hip]; simp [hpi]) ⟨by simpa [itObj] using e1, (b1.2 S hne).trans st.2.1, (b1.2 T hTI).trans st.2.2⟩ fun b u hb q => ?_
    exact (b1.2 b (fun z => hb (by simp [z]))).trans q
  done := fun s Q E st hQ => by
    have hlen : ps.length = es.size := by rw [hps.length_eq, List.length_range]
    refine next_head st.1 st.2.1 hd hf ?_
    show wpAny _ _ (seqItems? (.ref T) >>= _) _ _ _
    refine wpAny_bind (wpAny_seqItems st.2.2 hdT ?_)
    have hat : ((ps.map fun p : Nat => rawInt p).toArray)[es.size]? = none := by simp [hlen]
    simp only [hat]
    refine wpAny_bind (wpAny_setField_rec st.1 (by simp) fun h1 e1 b1 => ?_)
    refine wpAny_bind (wpAny_setField_rec e1 (by simp) fun h2 e2 b2 => ?_)
    refine stop_ok hh fun h' ex k ⟨u, hu, hc⟩ => ⟨⟨_, k _ _ e2⟩, ex, u, rfl, hu, hc, ?_⟩
    refine hQ h' s.toks fun b u hb q => k b u ?_
    have hb' : b ≠ I := fun z => hb (by simp [z])
    exact (b2.2 b hb').trans ((b1.2 b hb').trans q)
  self := fun i s Q E st hQ => self_ok st.1 hQ
end
end SetW
namespace SetW
open PySem
section
variable {prog : Program} {w : World} {A : Around} {E : Value → Shared → Prop} {s : Shared}
abbrev newSetObj (w : World) : Obj := { cls := .type "set", dict := none, data := .set #[] 0 (.fresh 0 0 (!byTxt w)) }
theorem new_ok (a : Value) {Q₁ : Value → Shared → Prop} (h : Q₁ (.ref s.heap.objs.size) { s with heap := s.heap.push (newSetObj w) }) :
    codeAny (model prog w) A (.call (.builtin "set.__new__") ⟨[.type "set", a], []⟩) (wants Q₁ E) s := by
  refine codeAny_of_tree ?_
  show wpAny _ A.in1 (checkBuiltinCall "set.__new__" ⟨[.type "set", a], []⟩ >>= fun _ => again (.builtin "set.__new__" ⟨[.type "set", a], []⟩)) _ _ s
  have hq := plainId_quiet F.plain_set_new (⟨[.type "set", a], []⟩ : Args)
  refine wpAny_bind (wpAny_of_eq (F.newCall_set_1 a) (wpAny_pure ⟨hq, codeAny_builtin F.entry_set_new ?_⟩))
  rw [Around.under_plainId F.plain_set_new _]
  unfold Builtin.«set.__new__» Builtin.Frozenset.newClass
  have hsub := sub_set_self
  cases s with
  | mk hp g d tk os =>
    dsimp only
    wp_walk
    refine wpAny_askSetting (wpAny_pure ?_)
    dsimp only
    simp only [newObj]
    exact wpAny_bind (wpAny_alloc (wpAny_pure (wpAny_pure h)))
theorem fill_ok {R : Result → Shared → Prop} {I l S : Addr} {items : Array Value} {led : Bool} (hh : A.handled = none) (hlI : l ≠ I) (hSI : S ≠ I) (hSl : S ≠ l) :
    ∀ (rest : List Int) (i : Nat) (acc : List Int) (s : Shared), items.size = i + rest.length → acc.length + rest.length < scanBound →
      (∀ (j : Nat) (k : Int), rest[j]? = some k → ∃ t, items[i + j]? = some (.int k t)) →
      s.heap.IsListIter I l i → s.heap.IsList l items → SetI prog w s.heap S acc led →
      (∀ h' tk, SetI prog w h' S (rest.foldl addI acc) led → (∀ b o, b ≠ S → b ≠ I → s.heap.get? b = some o → h'.get? b = some o) → R (.ok (.ret .none)) { s with heap := h', toks := tk }) →
      codeAny (model prog w) A (.builtin "set.update.loop" ⟨[.ref S, .ref I], []⟩) R s
  | [], i, acc, s, hsz, hln, ht, hit, hl, hm, hR => by
    refine codeAny_builtin PyProof.Rows.F.entry_set_update_loop ?_
    rw [Around.under_plainId PyProof.Rows.F.plain_set_update_loop _]
    show wpAny _ A.in1 (pyNext (.ref I) >>= _) _ _ s
    refine wpAny_bind (wpAny_pyNext_list_end (A := A.in1) hh hit hl (Array.getElem?_eq_none (by simp at hsz; omega)) fun h' he => ?_)
    exact wpAny_pure (hR h' s.toks (hm.keep fun o q => he S o hSI q) fun b o _ hb q => he b o hb q)
  | k :: rest, i, acc, s, hsz, hln, ht, hit, hl, hm, hR => by
    obtain ⟨t, hx⟩ := ht 0 k rfl
    rw [List.length_cons] at hsz hln
    refine codeAny_builtin PyProof.Rows.F.entry_set_update_loop ?_
    rw [Around.under_plainId PyProof.Rows.F.plain_set_update_loop _]
    show wpAny _ A.in1 (pyNext (.ref I) >>= _) _ _ s
    refine wpAny_bind (wpAny_pyNext_list_item (x := .int k t) hit hl (by simpa using hx) fun h1 hit1 b1 => ?_)
    have hm1 : SetI prog w h1 S acc led := hm.keep fun o q => b1.extBut S o hSI q
    show wpAny _ A.in1 (holding [Value.int k t] (setAdd S (.int k t)) >>= _) _ _ _
    refine wpAny_bind (wpAny_holding ?_)
    unfold setAdd
    refine wpAny_holding (wpAny_bind ((intKind prog w).pyHash (k := k) (intKind_is _ _ _ _) ?_))
    refine add_ok (s := { s with heap := h1, toks := s.toks + 1 }) hm1 (by omega) fun bb h2 b2 hm2 => ?_
    have hlen : (addI acc k).length ≤ acc.length + 1 := by unfold addI; split <;> simp
    refine wpAny_pure ⟨plainId_quiet PyProof.Rows.F.plain_set_update_loop _, fill_ok (items := items) hh hlI hSI hSl rest (i + 1) (addI acc k) _ (by omega) (by omega) (fun j q e => ?_) ?_ ?_ hm2 fun h' tk hd' kk => ?_⟩
    · obtain ⟨t', e'⟩ := ht (j + 1) q (by simpa using e)
      exact ⟨t', by rw [show i + 1 + j = i + (j + 1) by omega]; exact e'⟩
    · exact hit1.at fun o q => (b2.2 I (Ne.symm hSI)).trans q
    · exact (hl.extBut b1.extBut hlI).at fun o q => (b2.2 l (Ne.symm hSl)).trans q
    · exact hR h' tk hd' fun b o h3 h4 q => kk b o h3 h4 ((b2.2 b h3).trans (b1.extBut b o h4 q))
set_option maxHeartbeats 3200000 in
theorem set_ok {l : Addr} {items : Array Value} {ns : List Int} {Q : Value → Shared → Prop} (hh : A.handled = none) (hl : s.heap.IsList l items) (hi : PyProof.Rows.IntsAre items.toList ns) (hb : ns.length < scanBound)
    (h : ∀ (h' : Heap) (tk : Nat), SetI prog w h' s.heap.objs.size (ns.foldl addI []) (!byTxt w) → (∀ b o, s.heap.get? b = some o → h'.get? b = some o) → Q (.ref s.heap.objs.size) { s with heap := h', toks := tk }) :
    wpAny (model prog w) A (call (.type "set") [.ref l]) Q E s := by
  obtain ⟨c, tl, hmro⟩ := F.called_set.mro
  have hmade := F.called_set.made
  have hsub := F.called_set.sub
  refine wpAny_call (codeAny_of_tree ?_)
  show wpAny _ _ (callAny (.type "set") _) _ _ _
  refine wpAny_pure ⟨Code.quiet_builtin _ (by decide +kernel), codeAny_builtin F.entry_type_call ?_⟩
  rw [Around.under_plain (weight_type_call_type "set" [.ref l] []) rfl]
  have hn1 := F.called_set.notType
  have hn2 := F.called_set.canCreate
  have hct := F.typeCall_set_1 (.ref l)
  repeat (any_goals (first | assumption | wp_step))
  refine codeAny_mono (new_ok (.ref l) (E := E) (Q₁ := fun obj s₁ => obj = .ref s.heap.objs.size ∧ s₁ = { s with heap := s.heap.push (newSetObj w) }) ⟨rfl, rfl⟩) fun r s₁ hr => ?_
  cases r with
  | error e => exact hr
  | ok fl =>
    cases fl with
    | ret obj =>
      obtain ⟨rfl, rfl⟩ := hr
      have hS : (s.heap.push (newSetObj w)).get? s.heap.objs.size = some (newSetObj w) := Heap.get?_push_size _ rfl
      have hT : Shared.TypeIs { s with heap := s.heap.push (newSetObj w) } (.ref s.heap.objs.size) "set" := ⟨_, hS, rfl⟩
      have hli := F.called_set.init.lookup
      have hbi := F.called_set.init.bind (.ref s.heap.objs.size)
      repeat (any_goals (first | assumption | wp_step))
      refine codeAny_mono (codeAny_call_builtin (R := wants (fun r s₂ => r = .none ∧ ∃ h' tk, s₂ = { s with heap := h', toks := tk } ∧ SetI prog w h' s.heap.objs.size (ns.foldl addI []) (!byTxt w) ∧
          (∀ b o, s.heap.get? b = some o → h'.get? b = some o)) E) F.called_set.init.plain F.entry_set_init (check_set_init_1 hT ?_)) fun r₂ s₂ hr₂ => ?_
      · obtain ⟨ol, hol, hcl, nl, hdl⟩ := hl
        obtain ⟨ocls, odict, odata, oslots⟩ := ol
        simp only at hcl hdl
        subst hcl
        subst hdl
        have hlS : l < s.heap.objs.size := Heap.lt_size hol
        have hol' : (s.heap.push (newSetObj w)).get? l = some { cls := .type "list", dict := odict, data := .seq items nl, slots := oslots } := Heap.get?_push_of_some _ hol
        have hsls := F.sub_list_set
        have hslf := F.sub_list_frozenset
        have hne : (Value.type "list" == Value.type "dict") = false := by decide
        have hl1 : (s.heap.push (newSetObj w)).IsList l items := ⟨_, hol', rfl, nl, rfl⟩
        unfold Builtin.«set.__init__» noKeywords Builtin.Frozenset.updateFrom
        generalize hPI : pyIter = PI
        wp_walk
        subst hPI
        refine wpAny_pyIter_list hl1 (wpAny_bind (wpAny_runValue ?_))
        have hz : (s.heap.push (newSetObj w)).objs.size = s.heap.objs.size + 1 := Heap.size_push ..
        have hlen : items.size = ns.length := by rw [← Array.length_toList]; exact hi.length
        refine fill_ok (I := (s.heap.push (newSetObj w)).objs.size) (l := l) (items := items) (led := !byTxt w) (by simp [hh]) (by rw [hz]; exact Nat.ne_of_lt (Nat.lt_succ_of_lt hlS)) (by rw [hz]; exact Nat.ne_of_lt (Nat.lt_succ_self _)) (Nat.ne_of_gt hlS) ns 0 [] _ (by omega) (by simpa using hb) (fun j k e => ?_) ⟨_, Heap.get?_push_size _ rfl, rfl, rfl⟩ (hl1.push _) ?_ fun h' tk hs' k => ?_
        · have hj : j < items.size := by rw [hlen]; exact (List.getElem?_eq_some_iff.mp e).1
          obtain ⟨t', q⟩ := PyProof.Rows.IntsAre.int_at hi j items[j] (by simp [hj])
          refine ⟨t', ?_⟩
          rw [Nat.zero_add, Array.getElem?_eq_getElem hj, q]
          have : ns.getD j 0 = k := by rw [List.getD_eq_getElem?_getD, e]; rfl
          rw [this]
        · refine ⟨newSetObj w, #[], 0, _, Heap.get?_push_of_some _ hS, ⟨rfl, rfl, rfl⟩, rfl, fun e he => by simp at he, List.Perm.refl _, by decide, by rfl, good_fresh 0 0 _⟩
        · show wpAny _ _ _ _ _ _
          refine wpAny_pure ?_
          show wpAny _ _ (ret Value.none) _ _ _
          refine wpAny_pure ⟨rfl, h', tk, rfl, hs', fun b o q => ?_⟩
          have hb' := Heap.lt_size q
          exact k b o (Nat.ne_of_lt hb') (by rw [hz]; exact Nat.ne_of_lt (Nat.lt_succ_of_lt hb')) (Heap.get?_push_of_some _ (Heap.get?_push_of_some _ q))
      · cases r₂ with
        | error e => exact hr₂
        | ok fl₂ =>
          cases fl₂ with
          | ret r =>
            obtain ⟨rfl, h', tk, rfl, hS', hk'⟩ := hr₂
            repeat (any_goals (first | assumption | wp_step))
            exact h _ _ hS' hk'
          | _ => exact hr₂.elim
    | _ => exact hr.elim
end
end SetW
namespace SetW
open PySem
section
variable {prog : Program} {w : World} {A : Around} {E : Value → Shared → Prop} {s : Shared} {S : Addr}
def slotAt (t : SetTable) : Nat → Nat
  | 0 => 0
  | j + 1 => t.place.getD j 0 + 1
theorem ints_of : ∀ {l : List (Int × Value)}, ElemsOf (intKind prog w) l → PyProof.Rows.IntsAre (l.map (·.2)) (l.map keyOf)
  | [], _ => .nil
  | e :: l, h => by
    obtain ⟨⟨k, hk, _⟩, _⟩ := h e (by simp)
    obtain ⟨t, q⟩ := is_shape hk
    have e1 : keyOf e = k := keyOf_is hk
    rw [List.map_cons, List.map_cons, e1, q]
    exact .cons k t (ints_of fun x hx => h x (by simp [hx]))
theorem iter_ok {L : List Int} {Q : Value → Shared → Prop} (hh : A.handled = none) (hS : SetI prog w s.heap S L (!byTxt w))
    (h : ∀ (h' : Heap) (d : Drawn) (I : Addr) (fp : List Addr) (n : Nat) (l : List (Int × Value)) (St : Nat → Heap → Prop), (∀ b o, s.heap.get? b = some o → h'.get? b = some o) → s.heap.objs.size ≤ I → (∀ b ∈ fp, b = S ∨ s.heap.objs.size ≤ b) →
      (∀ b ∈ fp, b < h'.objs.size) → n = L.length → l.length = n → ElemsOf (intKind prog w) l → (l.map keyOf).Perm L →
      (∀ A : Around, A.handled = none → Walks prog w A I fp [I] n (fun i v => (l.map (·.2))[i]? = some v) St) → St 0 h' → Q (.ref I) { s with heap := h', drawn := d }) :
    wpAny (model prog w) A (pyIter (.ref S)) Q E s := by
  obtain ⟨o, es, ep, t, ho, hx, hd, hel, hp, hb, hf, gd⟩ := hS
  have hT : s.TypeIs (.ref S) "set" := ⟨o, ho, hx.1⟩
  have hn : es.size = L.length := small hp
  have hSlt : S < s.heap.objs.size := Heap.lt_size ho
  refine wpAny_pyIter_slot hT F.slot_set_iter (wpAny_call_entry F.slot_set_iter hT s_iter_entry ?_ (F.args_set_iter_1 _))
  unfold Builtin.«frozenset.__iter__»
  show wpAny _ _ (Builtin.Frozenset.sizeOf S >>= _) _ _ _
  unfold Builtin.Frozenset.sizeOf
  refine wpAny_bind (wpAny_bind (wpAny_setEntries_of ho hd hf (wpAny_pure ?_)))
  refine wpAny_bind (drawn_ok ho hd hf ?_)
  have last : ∀ (h1 : Heap) (d : Drawn) (first : Value), (∀ b u, s.heap.get? b = some u → h1.get? b = some u) → 
      (Q (.ref h1.objs.size) { s with heap := h1.push (itObj first 0 S es.size ep), drawn := d }) →
      wpAny (model prog w) A.in1 (do ret (← newFields "set_iterator" [first, rawInt 0, .ref S, rawInt (es.size : Nat), rawInt (← setEpoch S)])) (fun fin s' => ∃ v, fin = .done (.ret v) ∧ ∃ T' r, s'.TypeIs v T' ∧ typeLookup (.type T') "__next__" = pure (some r) ∧ Q v s') E { s with heap := h1, drawn := d } := by
    intro h1 d first k1 q
    refine wpAny_bind (wpAny_setEpoch_of (k1 _ _ ho) hd hf ?_)
    unfold newFields
    refine wpAny_bind (wpAny_newObj_type ?_ (by size_fits))
    exact wpAny_pure ⟨_, rfl, "set_iterator", _, ⟨_, Heap.get?_push_size _ rfl, rfl⟩, si_next.lookup, q⟩
  have kS : ∀ (h1 : Heap) (x : Obj), (∀ b u, s.heap.get? b = some u → h1.get? b = some u) → ∀ b u, s.heap.get? b = some u → (h1.push x).get? b = some u := fun h1 x k b u q => Heap.get?_push_of_some _ (k b u q)
  by_cases c : (!byTxt w && (!t.plain && decide (es.size > 1))) = true
  · rw [c, if_pos rfl]
    refine wpAny_bind (draw_ok es.size (List.range es.size) s _ (List.length_range) fun ps d hps => ?_)
    have hpl : ps.length ≤ sizeLine := by
      rw [hps.length_eq, List.length_range]
      exact fits_of_scanBound (by rw [hn]; exact hb)
    refine wpAny_bind (wpAny_newTuple ?_ (by rw [List.length_map]; exact hpl))
    refine last _ d _ (fun b u q => Heap.get?_push_of_some _ q) ?_
    have hz := Heap.size_push s.heap { cls := .type "tuple", data := .seq (ps.map fun p : Nat => rawInt p).toArray }
    have hperm : (ps.filterMap (es[·]?)).Perm es.toList := (hps.filterMap _).trans (by rw [filterMap_getElem?_range])
    refine h _ d _ [_, S, s.heap.objs.size] es.size (ps.filterMap (es[·]?)) _ (kS _ _ fun b u q => Heap.get?_push_of_some _ q) (by rw [hz]; exact Nat.le_succ _) (fun b hb' => ?_) (fun b hb' => ?_) hn ?_ (hel.perm hperm) ((hperm.map keyOf).trans hp)
      (fun A' hA' => walk_drawn (T := s.heap.objs.size) (oT := { cls := .type "tuple", data := .seq (ps.map fun p : Nat => rawInt p).toArray }) (nT := 0) hA' (by rw [hz]; exact Nat.ne_of_lt (Nat.lt_succ_of_lt hSlt)) (by rw [hz]; exact Nat.ne_of_lt (Nat.lt_succ_self _)) hd hf ps hps rfl)
      ⟨Heap.get?_push_size _ rfl, Heap.get?_push_of_some _ (Heap.get?_push_of_some _ ho), Heap.get?_push_of_some _ (Heap.get?_push_size _ rfl)⟩
    · rcases List.mem_cons.mp hb' with q | hb'
      · exact .inr (by rw [q, hz]; exact Nat.le_succ _)
      · rcases List.mem_cons.mp hb' with q | hb'
        · exact .inl q
        · exact .inr (by rw [List.mem_singleton.mp hb']; exact Nat.le_refl _)
    · rw [Heap.size_push, hz]
      rcases List.mem_cons.mp hb' with q | hb'
      · rw [q]; exact Nat.lt_succ_of_le (Nat.le_of_eq hz)
      · rcases List.mem_cons.mp hb' with q | hb'
        · rw [q]; exact Nat.lt_succ_of_lt (Nat.lt_succ_of_lt hSlt)
        · rw [List.mem_singleton.mp hb']; exact Nat.lt_succ_of_lt (Nat.lt_succ_self _)
    · rw [hperm.length_eq, Array.length_toList]
  · rw [if_neg c]
    refine wpAny_bind (wpAny_pure ?_)
    refine last s.heap s.drawn _ (fun b u q => q) ?_
    have hfp : ∀ b ∈ [s.heap.objs.size, S], b < (s.heap.push (itObj (rawInt 0) 0 S es.size ep)).objs.size := fun b hb' => by
      rw [Heap.size_push]
      rcases List.mem_cons.mp hb' with q | hb'
      · rw [q]; exact Nat.lt_succ_self _
      · rw [List.mem_singleton.mp hb']; exact Nat.lt_succ_of_lt hSlt
    have hfp2 : ∀ b ∈ [s.heap.objs.size, S], b = S ∨ s.heap.objs.size ≤ b := fun b hb' => by
      rcases List.mem_cons.mp hb' with q | hb'
      · exact .inr (Nat.le_of_eq q.symm)
      · exact .inl (List.mem_singleton.mp hb')
    cases hbt : byTxt w with
    | true =>
      have hperm := pick_perm (w.params.setOrder S ep) es
      have hlen : (pickOrder (w.params.setOrder S ep) es).toList.length = es.size := by rw [hperm.length_eq, Array.length_toList]
      refine h _ s.drawn s.heap.objs.size [s.heap.objs.size, S] es.size (pickOrder (w.params.setOrder S ep) es).toList _ (kS _ _ fun b u q => q) (Nat.le_refl _) hfp2 hfp hn hlen (hel.perm hperm) ((hperm.map keyOf).trans hp)
        (fun A' hA' => walk_slot (t := t) hA' (Nat.ne_of_lt hSlt) hd hf _ hlen (fun _ => 0) (fun i e A2 E2 s2 Q2 he hS2 q => nextT hbt hS2 hd hf ?_) (fun A2 E2 s2 Q2 hS2 q => nextT hbt hS2 hd hf ?_))
        ⟨Heap.get?_push_size _ rfl, Heap.get?_push_of_some _ ho⟩
      · rw [← Array.getElem?_toList, he]; exact q
      · rw [← Array.getElem?_toList, List.getElem?_eq_none (by omega)]; exact q
    | false =>
      have hpl : (!t.plain && decide (es.size > 1)) = false := by
        rw [hbt] at c
        cases q : (!t.plain && decide (es.size > 1)) with
        | false => rfl
        | true => rw [q] at c; exact absurd rfl c
      have hled : t.led = true := by rw [gd.led, hbt]; rfl
      have hpz : t.place.size = es.size := by
        have := hf
        unfold SetTable.fits at this
        simp at this
        exact this.1
      refine h _ s.drawn s.heap.objs.size [s.heap.objs.size, S] es.size es.toList _ (kS _ _ fun b u q => q) (Nat.le_refl _) hfp2 hfp hn (Array.length_toList) hel hp
        (fun A' hA' => walk_slot (t := t) hA' (Nat.ne_of_lt hSlt) hd hf _ (Array.length_toList) (slotAt t) (fun i e A2 E2 s2 Q2 he hS2 q => nextP hbt hpl hled hS2 hd hf ?_) (fun A2 E2 s2 Q2 hS2 q => nextP hbt hpl hled hS2 hd hf ?_))
        ⟨Heap.get?_push_size _ rfl, Heap.get?_push_of_some _ ho⟩
      · have hi : i < es.size := by have := (List.getElem?_eq_some_iff.mp he).1; rwa [Array.length_toList] at this
        have hbl : SetTable.below t.place (slotAt t i) = i := by
          cases i with
          | zero => exact below_zero _ gd.rise
          | succ j =>
            have hj : j < t.place.size := by omega
            have : t.place.getD j 0 = t.place[j] := by simp [Array.getD, hj]
            show SetTable.below t.place (t.place.getD j 0 + 1) = j + 1
            rw [this]
            exact below_next _ gd.rise (Array.getElem?_eq_getElem hj)
        have hpi : t.place[i]? = some (t.place.getD i 0) := by simp [Array.getD, hpz, hi]
        rw [hbl, hpi]
        rw [Array.getElem?_toList] at he
        rw [he]
        exact q
      · have hbl : SetTable.below t.place (slotAt t es.size) = es.size := by
          cases hz : es.size with
          | zero => exact below_zero _ gd.rise
          | succ j =>
            have hj : j < t.place.size := by omega
            have : t.place.getD j 0 = t.place[j] := by simp [Array.getD, hj]
            show SetTable.below t.place (t.place.getD j 0 + 1) = j + 1
            rw [this]
            exact below_next _ gd.rise (Array.getElem?_eq_getElem hj)
        have e1 : es[es.size]? = none := Array.getElem?_eq_none (Nat.le_refl _)
        rw [hbl, e1]
        exact q
theorem len_hint {L : List Int} {led : Bool} {Q : Bool → Shared → Prop} (hS : SetI prog w s.heap S L led) (h : Q false s) : wpAny (model prog w) A (Builtin.List.listLengthHint (.ref S)) Q E s := by
  obtain ⟨o, es, ep, t, ho, hx, _⟩ := hS
  have hT : s.TypeIs (.ref S) "set" := ⟨o, ho, hx.1⟩
  unfold Builtin.List.listLengthHint
  refine wpAny_bind (wpAny_specialOf hT F.slot_set_len.lookup ?_)
  have hsp : splitId "set.__len__" = some ("set", "__len__") := by decide +kernel
  dsimp only
  rw [hsp]
  dsimp only
  refine wpAny_bind (wpAny_isInstance hT sub_set_self ?_)
  rw [if_neg (by simp)]
  rw [if_pos (by decide +kernel)]
  exact wpAny_bind (wpAny_typeOf hT (wpAny_pure h))
theorem collect_ok {L : List Int} {Q : List Value → Shared → Prop} (hh : A.handled = none) (hS : SetI prog w s.heap S L (!byTxt w))
    (h : ∀ (h' : Heap) (tk : Nat) (d : Drawn) (vs : List Value) (ns : List Int), (∀ b o, s.heap.get? b = some o → h'.get? b = some o) → s.heap.objs.size < h'.objs.size → PyProof.Rows.IntsAre vs ns → ns.Perm L → Q vs { s with heap := h', toks := tk, drawn := d }) :
    wpAny (model prog w) A (collect (.ref S)) Q E s := by
  have hLb : L.length ≤ sizeLine := by obtain ⟨_, _, _, _, _, _, _, _, _, hb, _⟩ := hS; exact fits_of_scanBound hb
  have hSlt : S < s.heap.objs.size := by obtain ⟨_, _, _, _, ho, _⟩ := hS; exact Heap.lt_size ho
  unfold collect
  refine wpAny_bind (wpAny_runValue (codeAny_builtin F.entry_proto_collect ?_))
  rw [Around.under_plainId F.plain_proto_collect _]
  show wpAny _ A.in1 (newList [] >>= fun l => again (.builtin "list.__iadd__" ⟨[l, .ref S], []⟩)) _ _ s
  refine wpAny_bind (wpAny_newObj_type ?_ (by size_fits))
  refine wpAny_pure ⟨plainId_quiet F.plain_list_iadd _, codeAny_builtin F.entry_list_iadd ?_⟩
  rw [Around.under_plainId F.plain_list_iadd _]
  have k1 : ∀ b u, s.heap.get? b = some u → (s.heap.push { cls := .type "list", data := .seq ([] : List Value).toArray }).get? b = some u := fun b u q => Heap.get?_push_of_some _ q
  have hS1 := hS.keep (h' := s.heap.push { cls := .type "list", data := .seq ([] : List Value).toArray }) fun u q => k1 S u q
  have hD1 : (s.heap.push { cls := .type "list", data := .seq ([] : List Value).toArray }).get? s.heap.objs.size = some { cls := .type "list", data := .seq ([] : List Value).toArray } := Heap.get?_push_size _ rfl
  have hT1 : Shared.TypeIs { s with heap := s.heap.push { cls := .type "list", data := .seq ([] : List Value).toArray } } (.ref S) "set" := by
    obtain ⟨o, _, _, _, ho, hx, _⟩ := hS1
    exact ⟨o, ho, hx.1⟩
  have hne : s.heap.objs.size ≠ S := Nat.ne_of_gt hSlt
  show wpAny _ A.in1 (Builtin.List.listExtendWith (.ref s.heap.objs.size) (.ref S) (.ref s.heap.objs.size)) _ _ _
  unfold Builtin.List.listExtendWith
  refine wpAny_bind (wpAny_typeOf hT1 ?_)
  have q1 : Builtin.List.listSameRef (.ref s.heap.objs.size) (.ref S) = false := by simp [Builtin.List.listSameRef, hne]
  have q2 : (Value.type "set" == Value.type "list") = false := by decide
  have q3 : (Value.type "set" == Value.type "tuple") = false := by decide
  simp only [q1, q2, q3, Bool.or_false, Bool.false_eq_true, if_false]
  refine wpAny_bind (iter_ok (A := A.in1) hh hS1 fun h2 d I fp n l St k2 hI hfp hlt hn hl hel hp W st => ?_)
  have hz : (s.heap.push { cls := .type "list", data := .seq ([] : List Value).toArray }).objs.size = s.heap.objs.size + 1 := Heap.size_push ..
  have hDf : s.heap.objs.size ∉ fp := fun z => by
    rcases hfp _ z with e | e
    · exact hne e
    · rw [hz] at e; exact absurd e (Nat.not_succ_le_self _)
  have hD2 := k2 _ _ hD1
  have key : ∀ (h3 : Heap) (c₁ : Nat) (R : Result → Shared → Prop), St 0 h3 → (∀ b u, b ≠ s.heap.objs.size → h2.get? b = some u → h3.get? b = some u) → h3.get? s.heap.objs.size = some { cls := .type "list", data := .seq #[] c₁ } →
      (∀ (h' : Heap) (tk : Nat) (vs : Array Value) (c' : Nat) (ns : List Int), (∀ b u, s.heap.get? b = some u → h'.get? b = some u) → h'.get? s.heap.objs.size = some { cls := .type "list", dict := none, data := .seq vs c', slots := #[] } →
        PyProof.Rows.IntsAre vs.toList ns → ns.Perm L → R (.ok (.ret (.ref s.heap.objs.size))) { s with heap := h', toks := tk, drawn := d }) →
      codeAny (model prog w) A (.builtin "list.extend.loop" ⟨[.ref s.heap.objs.size, .ref I, .ref s.heap.objs.size], []⟩) R { s with heap := h3, drawn := d } := by
    intro h3 c₁ R st3 k3 hD3 hR
    refine codeAny_extend_loopS (W A.in1 hh).toS (by rw [hn]; exact hLb) s.heap.objs.size hDf (.ref s.heap.objs.size) n 0 _ #[] c₁ rfl (Nat.zero_le _) st3 hD3 (ItemsOf.nil _) fun s' acc' c' hm hS' hacc => ?_
    rw [PySem.Moved.eq_with hm]
    have hv : acc'.toList = l.map (·.2) := by
      refine List.ext_getElem? fun j => ?_
      cases hj : acc'.toList[j]? with
      | none =>
        have := List.getElem?_eq_none_iff.mp hj
        rw [Array.length_toList, hacc.1] at this
        rw [List.getElem?_eq_none (by rw [List.length_map]; omega)]
      | some v =>
        rw [Array.getElem?_toList] at hj
        exact (hacc.2 j v hj).symm
    refine hR s'.heap s'.toks acc' c' (l.map keyOf) (fun b u q => ?_) hS' (by rw [hv]; exact ints_of hel) hp
    have hb : b < s.heap.objs.size := Heap.lt_size q
    refine hm.heap b u (fun z => ?_) (k3 b u (Nat.ne_of_lt hb) (k2 b u (k1 b u q)))
    rcases List.mem_cons.mp z with e | z
    · exact absurd e (Nat.ne_of_lt hb)
    · rw [List.mem_singleton.mp z] at hb
      rw [hz] at hI
      exact absurd (Nat.lt_of_lt_of_le hb (Nat.le_of_succ_le hI)) (Nat.lt_irrefl _)
  have last : ∀ (h' : Heap) (tk : Nat) (vs : Array Value) (c' : Nat) (ns : List Int), (∀ b u, s.heap.get? b = some u → h'.get? b = some u) → h'.get? s.heap.objs.size = some { cls := .type "list", dict := none, data := .seq vs c', slots := #[] } →
        PyProof.Rows.IntsAre vs.toList ns → ns.Perm L → wpAny (model prog w) A (do match (← load s.heap.objs.size).data with | .seq xs _ => pure xs.toList | _ => unsupported "internal:collect") Q E { s with heap := h', toks := tk, drawn := d } := fun h' tk vs c' ns k hD hi hpp =>
    wpAny_bind (wpAny_load hD (wpAny_pure (h h' tk d vs.toList ns k (Heap.lt_size hD) hi hpp)))
  refine wpAny_bind (wpAny_holding (len_hint (hS1.keep fun u q => k2 S u q) ?_))
  rw [if_pos (by decide +kernel)]
  refine wpAny_bind (wpAny_rule (wpAny_bind ?_))
  show wpAny _ _ (updateSeq s.heap.objs.size (·.push .none) >>= fun _ => updateSeq s.heap.objs.size (·.pop)) _ _ _
  refine wpAny_bind (wpAny_updateSeq hD2 rfl ?_ (by size_fits) (by size_fits))
  have hD3 := Heap.get?_update_self (Obj.mapSeq (·.push Value.none)) hD2 rfl
  refine wpAny_updateSeq hD3 rfl ?_ (by size_fits) (by size_fits)
  have hD4 := Heap.get?_update_self (Obj.mapSeq (·.pop)) hD3 rfl
  have oth : ∀ b u, b ≠ s.heap.objs.size → h2.get? b = some u → ((h2.update s.heap.objs.size (Obj.mapSeq (·.push Value.none))).update s.heap.objs.size (Obj.mapSeq (·.pop))).get? b = some u :=
    fun b u hb q => (Heap.get?_update_other _ _ (Ne.symm hb)).trans ((Heap.get?_update_other _ _ (Ne.symm hb)).trans q)
  exact wpAny_pure ⟨plainId_quiet F.plain_extend_loop _, key _ _ _ ((W A.in1 hh).frame 0 _ _ st fun b hb u q => oth b u (fun z => hDf (z ▸ hb)) q) oth hD4 last⟩
end
end SetW
namespace SetW
open PySem
section
variable {prog : Program} {w : World} {A : Around} {E : Value → Shared → Prop} {s : Shared} {S : Addr}
theorem sorted_ok {L : List Int} {Q : Value → Shared → Prop} (hh : A.handled = none) (hS : SetI prog w s.heap S L (!byTxt w))
    (h : ∀ (h' : Heap) (tk : Nat) (d : Drawn) (D : Addr) (out : Array Value) (e : Nat) (ns : List Int), (∀ b o, s.heap.get? b = some o → h'.get? b = some o) → s.heap.objs.size ≤ D → h'.get? D = some { cls := .type "list", data := .seq out e } →
      PyProof.Rows.IntsAre out.toList ns → ns.Perm L → ns.Pairwise (· ≤ ·) → Q (.ref D) { s with heap := h', toks := tk, drawn := d }) :
    wpAny (model prog w) A (call (.builtin "sorted") [.ref S]) Q E s := by
  have hLb : L.length ≤ sizeLine := by obtain ⟨_, _, _, _, _, _, _, _, _, hb, _⟩ := hS; exact fits_of_scanBound hb
  refine Calls.call_function_entry PyProof.Rows.kind_sorted PyProof.Rows.plain_sorted PyProof.Rows.entry_sorted (PyProof.Rows.args_sorted1 _) ?_
  unfold Builtin.«sorted»
  refine wpAny_bind (m := checkCount "sorted" 1 1 _) (wpAny_pure ?_)
  refine wpAny_bind (collect_ok (A := A.in1) hh hS fun h1 tk d vs ns k1 hs1 hi hp => ?_)
  have hvl : vs.length ≤ sizeLine := by rw [hi.length, hp.length_eq]; exact hLb
  refine wpAny_bind (wpAny_newList ?_ hvl)
  have hD : (h1.push (PyProof.Rows.seqObj "list" vs.toArray 0)).get? h1.objs.size = some (PyProof.Rows.seqObj "list" vs.toArray 0) := Heap.get?_push_size _ rfl
  refine wpAny_bind (wpAny_holding (wpAny_call_entry PyProof.Rows.slot_list_sort ⟨_, hD, rfl⟩ PyProof.Rows.entry_list_sort (PyProof.Rows.list_sort_treeAny hD hi hvl fun out ns' a1 a2 a3 => ⟨_, rfl, ?_⟩) (PyProof.Rows.args_list_sort _)))
  obtain ⟨e, he⟩ := PyProof.Rows.sortedHeap_at (out := out) hD
  refine wpAny_pure ⟨_, rfl, h _ tk d h1.objs.size out e ns' (fun b o q => ?_) (Nat.le_of_lt hs1) he a1 (a2.trans hp) a3⟩
  have hb := Heap.lt_size (k1 b o q)
  rw [PyProof.Rows.sortedHeap_old (Nat.ne_of_lt hb) (by rw [Heap.size_push]; exact Nat.lt_succ_of_lt hb)]
  exact Heap.get?_push_of_some _ (k1 b o q)
end
end SetW
namespace ZipW
open PySem PyProof.Rows
theorem zip_keys_none : typeLookup (.type "zip") "keys" = pure none := am_miss_of_fast (by first | decide +kernel | rfl)
theorem zip_getattr_none : typeLookup (.type "zip") "__getattr__" = pure none := am_miss_of_fast (by first | decide +kernel | rfl)
theorem zip_entry_getattribute : entryFor table "zip.__getattribute__" = some Builtin.«object.__getattribute__» :=
  entryFor_alias (id' := "object.__getattribute__") (by kernel_rfl)
    (by decide +kernel) (by decide +kernel) (by kernel_rfl)
theorem zip_meets_miss (a : Addr) (xs : Array Value) (name : Str) (u : Tok) (hmiss : typeLookup (.type "zip") name = pure none)
    (hname : (["__module__", "__name__", "__qualname__", "__doc__", "__annotations__"] : List Str).contains name = false) (hsz : name.length + 100 ≤ sizeLine) :
    Meets (Builtin.«object.__getattribute__» ⟨[.ref a, .str name u], []⟩) (fun A R s => s.heap.get? a = some { cls := .type "zip", dict := none, data := .fields xs, slots := #[] } ∧ raisesAttr (.ref a) name A R s) :=
  Meets.of_wp fun prog w A R s hs => by
    cases s with
    | mk hp g d tk os =>
    obtain ⟨hx, hs⟩ := hs
    have hT : (⟨hp, g, d, tk, os⟩ : Shared).TypeIs (.ref a) "zip" := ⟨_, hx, rfl⟩
    unfold Builtin.«object.__getattribute__»
    repeat (any_goals (first | assumption | wp_step))
    simp only [hname, Bool.false_eq_true, if_false]
    repeat (any_goals (first | assumption | wp_step))
    exact wpAny_raiseAttrError hs.1 hs.2 (attrMsg_fits (by decide +kernel) hsz)
section
variable {prog : Program} {w : World} {A : Around} {E : Value → Shared → Prop}
theorem miss_zip {s : Shared} {a : Addr} {xs : Array Value} {Q : Option Value → Shared → Prop} (hx : s.heap.get? a = some { cls := .type "zip", dict := none, data := .fields xs, slots := #[] }) (hA : A.handled = none)
    (h : ∀ h' tk, (∀ b ob, s.heap.get? b = some ob → h'.get? b = some ob) → Q none { s with heap := h', toks := tk }) : wpAny (model prog w) A (getAttr? (.ref a) "keys") Q E s := by
  cases s with
  | mk hp g d tk os =>
  have hT : ∀ tk', (⟨hp, g, d, tk', os⟩ : Shared).TypeIs (.ref a) "zip" := fun _ => ⟨_, hx, rfl⟩
  have hmiss := zip_keys_none
  have hname : (["__module__", "__name__", "__qualname__", "__doc__", "__annotations__"] : List Str).contains "keys" = false := by decide +kernel
  have hsz : ("keys" : Str).length + 100 ≤ sizeLine := by first | size_fits | decide +kernel
  have f1 := sub_AttributeError
  have f3 := PySem.F.slot_zip_getattribute.lookup
  have f4 := PySem.F.slot_zip_getattribute.bind (.ref a)
  have f5 := zip_getattr_none
  unfold getAttr? getAttrBy? getAttrBy
  repeat (any_goals (first | assumption | exact hT _ | ((with_reducible show wpAny _ _ (call (Value.builtin "zip.__getattribute__") _ _) _ _ _); refine call_meets PySem.F.slot_zip_getattribute (hT _) zip_entry_getattribute (PySem.F.args_zip_getattribute_2 _ _) (zip_meets_miss a xs "keys" _ hmiss hname hsz) ⟨hx, hA, fun h' tk' e hx' => ?_⟩) | wp_step))
  obtain ⟨t', u', he⟩ := hx'.there
  show wpAny _ _ (getattributeRaised _ _ _ _ _ _ _) _ _ _
  unfold getattributeRaised
  repeat (any_goals (first | assumption | wp_step))
  all_goals first | exact h _ _ hx'.keeps | (dsimp only; repeat (any_goals (first | assumption | exact h _ _ hx'.keeps | wp_step)))
end
section
variable {prog : Program} {w : World} {A : Around} {E : Value → Shared → Prop} {s : Shared}
theorem nt_item {it t : Addr} {i : Nat} {items : Array Value} {x : Value} {Q : Value → Shared → Prop} (hit : IsTupIter s.heap it t i) (ht : IsTup s.heap t items) (hx : items[i]? = some x)
    (hQ : ∀ h', IsTupIter h' it t (i + 1) → Heap.SameBut it s.heap h' → Q x { s with heap := h' }) : wpAny (model prog w) A (Builtin.SmallTypes.nextOf (.ref it)) Q E s := by
  obtain ⟨o, ho, hc, hd⟩ := id hit
  obtain ⟨ol, hol, _, nl, hdl⟩ := ht
  unfold Builtin.SmallTypes.nextOf
  refine wpAny_bind (wpAny_callSpecial?_slot (name := Str.ofString "__next__") hit.typeIs slot_tupleiter_next (wpAny_call_entry slot_tupleiter_next hit.typeIs entry_tupleiter_next ?_ (args_tupleiter_next _)))
  show wpAny _ _ (field (.ref it) 0 >>= _) _ _ s
  refine wpAny_bind (wpAny_field ho hd (x := .ref t) rfl ?_)
  rw [if_neg (by exact Bool.false_ne_true)]
  refine wpAny_bind (wpAny_field ho hd (x := .int i 0) rfl ?_)
  refine wpAny_bind (wpAny_seqItems hol hdl ?_)
  simp only [Int.toNat_natCast, hx]
  refine wpAny_bind (wpAny_setField ho hd (by simp) (wpAny_pure ⟨x, rfl, wpAny_pure (hQ _ ?_ (Heap.SameBut.update ..))⟩))
  refine ⟨_, Heap.get?_update_self _ ho (Obj.isFreed_of_fields (Obj.data_mapFields hd _)), (Obj.cls_mapFields ..).trans hc, ?_⟩
  rw [Obj.data_mapFields hd]
  simp [rawInt]
theorem nt_end {it t : Addr} {i : Nat} {items : Array Value} {Q : Value → Shared → Prop} (hh : A.handled = none) (hit : IsTupIter s.heap it t i) (ht : IsTup s.heap t items) (hx : items[i]? = none)
    (hE : ∀ h' e, Heap.ExtBut it s.heap h' → (∃ o, h'.get? e = some o ∧ o.cls = .type "StopIteration") → E (.ref e) { s with heap := h' }) : wpAny (model prog w) A (Builtin.SmallTypes.nextOf (.ref it)) Q E s := by
  obtain ⟨o, ho, hc, hd⟩ := id hit
  obtain ⟨ol, hol, _, nl, hdl⟩ := ht
  unfold Builtin.SmallTypes.nextOf
  refine wpAny_bind (wpAny_callSpecial?_slot (name := Str.ofString "__next__") hit.typeIs slot_tupleiter_next (wpAny_call_entry slot_tupleiter_next hit.typeIs entry_tupleiter_next ?_ (args_tupleiter_next _)))
  show wpAny _ _ (field (.ref it) 0 >>= _) _ _ s
  refine wpAny_bind (wpAny_field ho hd (x := .ref t) rfl ?_)
  rw [if_neg (by exact Bool.false_ne_true)]
  refine wpAny_bind (wpAny_field ho hd (x := .int i 0) rfl ?_)
  refine wpAny_bind (wpAny_seqItems hol hdl ?_)
  simp only [Int.toNat_natCast, hx]
  refine wpAny_bind (wpAny_rule (wpAny_bind (wpAny_setField ho hd (by simp) ?_)))
  show wpAny _ _ (newExc (.type "StopIteration") [] >>= _) _ _ _
  refine wpAny_bind ?_
  simp only [newExc, newTuple]
  refine wpAny_bind (wpAny_newObj_type ?_ (by size_fits))
  refine wpAny_bind (m := firstArgMember _ _) (wpAny_of_eq (a := Value.none) (by first | rfl | (simp only [firstArgMember]; rfl)) ?_)
  refine wpAny_newObj_type ?_ (by size_fits)
  simp only [raiseNew]
  refine wpAny_bind (wpAny_handled ?_)
  first | rw [show A.in1.handled = none from hh] | rw [hh]
  refine wpAny_bind (wpAny_pure (wpAny_throw ?_))
  exact hE _ _ (((Heap.SameBut.update ..).extBut.push _).push _) ⟨_, Heap.get?_push_size _ rfl, rfl⟩
end
end ZipW
namespace ZipW
open PySem PyProof.Rows
abbrev ZipO (h : Heap) (z TI TO : Addr) (f0 : Value) (f1 : Bool) : Prop :=
  h.get? z = some { cls := .type "zip", dict := none, data := .fields #[f0, .bool f1, .bool false, .ref TI, .ref TO], slots := #[] }
section
variable {prog : Program} {w : World} {A : Around} {E : Value → Shared → Prop} {s : Shared} {z TI TO i1 i2 l1 l2 : Addr} {k1 k2 : Nat} {xs ys : Array Value}
theorem alive_ok {a : Addr} {o : Obj} {Q : Option Obj → Shared → Prop} (h : s.heap.get? a = some o) (q : Q (some o) s) : wpAny (model prog w) A (loadIfAlive a) Q E s := by
  intro Γ p hΓ
  show Sem.wp _ _ (Sem.loadIfAlive a Sem.pure) _ _ p s
  rw [Sem.wp_loadIfAlive, h]
  exact q
theorem zi_free {x y a b : Value} {f1 : Bool} {Q : Value → Shared → Prop} (D : ZipApart z TI TO i1 i2 l1 l2) (hz : ZipO s.heap z TI TO .none f1) (hTI : IsPair s.heap TI (.ref i1) (.ref i2)) (hTO : IsPair s.heap TO a b)
    (h1 : IsTupIter s.heap i1 l1 k1) (h2 : s.heap.IsListIter i2 l2 k2) (hl1 : IsTup s.heap l1 xs) (hl2 : s.heap.IsList l2 ys) (hx : xs[k1]? = some x) (hy : ys[k2]? = some y)
    (hQ : ∀ h', ZipO h' z TI TO (rawInt s.heap.objs.size) false → IsPair h' TO x y → IsTupIter h' i1 l1 (k1 + 1) → h'.IsListIter i2 l2 (k2 + 1) → IsPair h' s.heap.objs.size x y →
      (∀ c o, c ≠ z → c ≠ TO → c ≠ i1 → c ≠ i2 → s.heap.get? c = some o → h'.get? c = some o) → Q (.ref s.heap.objs.size) { s with heap := h' }) :
    wpAny (model prog w) A (Builtin.«zip.__next__» ⟨[.ref z], []⟩) (fun fin s' => ∃ v, fin = .done (.ret v) ∧ Q v s') E s := by
  show wpAny _ _ (field (.ref z) 2 >>= _) _ _ _
  refine wpAny_bind (wpAny_field hz rfl (x := .bool false) rfl ?_)
  show wpAny _ _ (field (.ref z) 3 >>= _) _ _ _
  refine wpAny_bind (wpAny_field hz rfl (x := .ref TI) rfl ?_)
  refine wpAny_bind (wpAny_seqItems hTI rfl ?_)
  show wpAny _ _ (Builtin.SmallTypes.ownedTupleIsFree (.ref z) >>= _) _ _ _
  refine wpAny_bind ?_
  unfold Builtin.SmallTypes.ownedTupleIsFree
  refine wpAny_bind (wpAny_field hz rfl (x := .none) rfl (wpAny_pure ?_))
  simp only [if_true]
  refine wpAny_bind (wpAny_rule ?_)
  refine wpAny_bind (wpAny_field hz rfl (x := .ref TO) rfl ?_)
  refine wpAny_bind (wpAny_setField_rec hz (by simp) fun g1 z1 b1 => ?_)
  replace z1 : ZipO g1 z TI TO .ellipsis f1 := z1
  refine wpAny_bind ?_
  simp only [List.zipIdx_cons, List.zipIdx_nil, List.forIn_cons, List.forIn_nil]
  refine wpAny_bind (wpAny_bind (wpAny_onRaise ?_))
  show wpAny _ _ (Builtin.SmallTypes.nextOf (.ref i1) >>= _) _ _ _
  refine wpAny_bind (nt_item (h1.extBut b1.extBut D.i1z) (hl1.extBut b1.extBut D.l1z) hx fun g2 p2 b2 => wpAny_pure ?_)
  have t2 : IsPair g2 TO a b := b2.extBut _ _ D.TOi1 (b1.extBut _ _ D.TOz hTO)
  refine wpAny_bind (wpAny_seqItems t2 rfl ?_)
  refine wpAny_bind (wpAny_updateSeq_pair t2 fun g3 t3 b3 => ?_)
  replace t3 : IsPair g3 TO x b := t3
  refine wpAny_bind (wpAny_letGo (wpAny_pure ?_))
  refine wpAny_bind (wpAny_bind (wpAny_onRaise ?_))
  show wpAny _ _ (Builtin.SmallTypes.nextOf (.ref i2) >>= _) _ _ _
  have e3 : ∀ c o, c ≠ z → c ≠ i1 → c ≠ TO → s.heap.get? c = some o → g3.get? c = some o := fun c o c1 c2 c3 q => b3.extBut _ _ c3 (b2.extBut _ _ c2 (b1.extBut _ _ c1 q))
  refine wpAny_bind (wpAny_nextOf_list_item (h2.at fun o q => e3 _ o D.i2z D.i12.symm D.TOi2.symm q) (hl2.at fun o q => e3 _ o D.l2z D.l2i1 D.l2TO q) hy fun g4 p4 b4 => wpAny_pure ?_)
  have t4 : IsPair g4 TO x b := b4.extBut _ _ D.TOi2 t3
  refine wpAny_bind (wpAny_seqItems t4 rfl ?_)
  refine wpAny_bind (wpAny_updateSeq_pair t4 fun g5 t5 b5 => ?_)
  replace t5 : IsPair g5 TO x y := t5
  refine wpAny_bind (wpAny_letGo (wpAny_pure (wpAny_pure ?_)))
  refine wpAny_bind (wpAny_seqItems t5 rfl ?_)
  refine wpAny_bind (wpAny_newTuple ?_)
  have hsz : g5.objs.size = s.heap.objs.size := by rw [b5.1, b4.1, b3.1, b2.1, b1.1]
  have z5 : ZipO g5 z TI TO .ellipsis f1 := b5.extBut _ _ D.TOz.symm (b4.extBut _ _ D.i2z.symm (b3.extBut _ _ D.TOz.symm (b2.extBut _ _ D.i1z.symm z1)))
  have k5 : ∀ c o, c ≠ z → c ≠ TO → c ≠ i1 → c ≠ i2 → s.heap.get? c = some o → g5.get? c = some o := fun c o c1 c2 c3 c4 q => b5.extBut _ _ c2 (b4.extBut _ _ c4 (e3 c o c1 c3 c2 q))
  have p5 : IsTupIter g5 i1 l1 (k1 + 1) := ((p2.extBut b3.extBut D.TOi1.symm).extBut b4.extBut D.i12).extBut b5.extBut D.TOi1.symm
  have r5 : g5.IsListIter i2 l2 (k2 + 1) := p4.extBut b5.extBut D.TOi2.symm
  have zlt : z < g5.objs.size := Heap.lt_size z5
  show wpAny _ _ (Builtin.SmallTypes.ownedTupleHandOut (.ref z) (.ref g5.objs.size) >>= _) _ _ _
  refine wpAny_bind ?_
  unfold Builtin.SmallTypes.ownedTupleHandOut
  have z6 : ZipO (g5.push { cls := .type "tuple", data := .seq #[x, y] }) z TI TO .ellipsis f1 := Heap.get?_push_of_some _ z5
  refine wpAny_bind (wpAny_setField_rec z6 (by simp) fun g7 z7 b7 => ?_)
  replace z7 : ZipO g7 z TI TO (rawInt g5.objs.size) f1 := z7
  refine wpAny_setField_rec z7 (by simp) fun g8 z8 b8 => ?_
  replace z8 : ZipO g8 z TI TO (rawInt g5.objs.size) false := z8
  have up : ∀ c o, c ≠ z → g5.get? c = some o → g8.get? c = some o := fun c o c1 q => b8.extBut _ _ c1 (b7.extBut _ _ c1 (Heap.get?_push_of_some _ q))
  have t8 : IsPair g8 g5.objs.size x y := b8.extBut _ _ (Nat.ne_of_gt zlt) (b7.extBut _ _ (Nat.ne_of_gt zlt) (Heap.get?_push_size _ rfl))
  rw [hsz] at z8 t8
  refine wpAny_pure ⟨_, rfl, ?_⟩
  show Q (.ref g5.objs.size) _
  rw [hsz]
  exact hQ g8 z8 (up _ _ D.TOz t5) (by obtain ⟨o, q, r⟩ := p5; exact ⟨o, up _ o D.i1z q, r⟩) (r5.at fun o q => up _ o D.i2z q) t8 fun c o c1 c2 c3 c4 q => up c o c1 (k5 c o c1 c2 c3 c4 q)
theorem zi_used {x y : Value} {f1 : Bool} {T : Addr} {oT : Obj} {Q : Value → Shared → Prop} (D : ZipApart z TI TO i1 i2 l1 l2) (hz : ZipO s.heap z TI TO (rawInt T) f1) (hT : s.heap.get? T = some oT) (hTI : IsPair s.heap TI (.ref i1) (.ref i2))
    (h1 : IsTupIter s.heap i1 l1 k1) (h2 : s.heap.IsListIter i2 l2 k2) (hl1 : IsTup s.heap l1 xs) (hl2 : s.heap.IsList l2 ys) (hx : xs[k1]? = some x) (hy : ys[k2]? = some y)
    (hQ : ∀ h', ZipO h' z TI TO (rawInt T) true → IsTupIter h' i1 l1 (k1 + 1) → h'.IsListIter i2 l2 (k2 + 1) → IsPair h' s.heap.objs.size x y →
      (∀ c o, c ≠ z → c ≠ i1 → c ≠ i2 → s.heap.get? c = some o → h'.get? c = some o) → Q (.ref s.heap.objs.size) { s with heap := h' }) :
    wpAny (model prog w) A (Builtin.«zip.__next__» ⟨[.ref z], []⟩) (fun fin s' => ∃ v, fin = .done (.ret v) ∧ Q v s') E s := by
  show wpAny _ _ (field (.ref z) 2 >>= _) _ _ _
  refine wpAny_bind (wpAny_field hz rfl (x := .bool false) rfl ?_)
  show wpAny _ _ (field (.ref z) 3 >>= _) _ _ _
  refine wpAny_bind (wpAny_field hz rfl (x := .ref TI) rfl ?_)
  refine wpAny_bind (wpAny_seqItems hTI rfl ?_)
  show wpAny _ _ (Builtin.SmallTypes.ownedTupleIsFree (.ref z) >>= _) _ _ _
  have free : ∀ (R : Bool → Shared → Prop), (∀ g, ZipO g z TI TO (rawInt T) true → Heap.SameBut z s.heap g → R false { s with heap := g }) → wpAny (model prog w) A (Builtin.SmallTypes.ownedTupleIsFree (.ref z)) R E s := by
    intro R hR
    unfold Builtin.SmallTypes.ownedTupleIsFree
    refine wpAny_bind (wpAny_field hz rfl (x := rawInt T) rfl ?_)
    show wpAny _ _ (loadIfAlive ((T : Nat) : Int).toNat >>= _) _ _ _
    rw [Int.toNat_natCast]
    refine wpAny_bind (alive_ok hT ?_)
    rw [if_neg (by simp)]
    refine wpAny_bind (wpAny_field hz rfl (x := .bool f1) rfl ?_)
    cases f1 with
    | true =>
      rw [if_neg (by decide)]
      exact wpAny_pure (hR s.heap hz (Heap.SameBut.refl _ _))
    | false =>
      rw [if_pos (by decide)]
      exact wpAny_bind (wpAny_setField_rec hz (by simp) fun g zg bg => wpAny_pure (hR g zg bg))
  refine wpAny_bind (free _ fun g zg bg => ?_)
  rw [if_neg Bool.false_ne_true]
  refine wpAny_bind ?_
  rw [← Array.forIn_toList]
  simp only [List.forIn_cons, List.forIn_nil]
  refine wpAny_bind (wpAny_bind (wpAny_holding ?_))
  show wpAny _ _ (Builtin.SmallTypes.nextOf (.ref i1) >>= _) _ _ _
  refine wpAny_bind (nt_item (h1.extBut bg.extBut D.i1z) (hl1.extBut bg.extBut D.l1z) hx fun g2 p2 b2 => wpAny_pure (wpAny_pure ?_))
  dsimp only
  refine wpAny_bind (wpAny_bind (wpAny_holding ?_))
  show wpAny _ _ (Builtin.SmallTypes.nextOf (.ref i2) >>= _) _ _ _
  refine wpAny_bind (wpAny_nextOf_list_item ((h2.extBut bg.extBut D.i2z).extBut b2.extBut D.i12.symm) ((hl2.extBut bg.extBut D.l2z).extBut b2.extBut D.l2i1) hy fun g4 p4 b4 => wpAny_pure (wpAny_pure ?_))
  refine wpAny_pure (wpAny_bind (wpAny_newTuple (wpAny_pure ⟨_, rfl, ?_⟩) (by show 2 ≤ sizeLine; decide)))
  have hsz : g4.objs.size = s.heap.objs.size := by rw [b4.1, b2.1, bg.1]
  have k4 : ∀ c o, c ≠ z → c ≠ i1 → c ≠ i2 → s.heap.get? c = some o → g4.get? c = some o := fun c o c1 c2 c3 q => b4.extBut _ _ c3 (b2.extBut _ _ c2 (bg.extBut _ _ c1 q))
  show Q (.ref g4.objs.size) _
  have hp : IsPair (g4.push { cls := .type "tuple", data := .seq ([x, y] : List Value).toArray }) g4.objs.size x y := Heap.get?_push_size _ rfl
  rw [hsz] at hp ⊢
  refine hQ _ (Heap.get?_push_of_some _ (b4.extBut _ _ D.i2z.symm (b2.extBut _ _ D.i1z.symm zg))) ?_ ?_ hp fun c o c1 c2 c3 q => Heap.get?_push_of_some _ (k4 c o c1 c2 c3 q)
  · obtain ⟨o, q, r⟩ := p2.extBut b4.extBut D.i12
    exact ⟨o, Heap.get?_push_of_some _ q, r⟩
  · exact p4.at fun o q => Heap.get?_push_of_some _ q
theorem zi_end {f0 a b : Value} {f1 : Bool} {Q : Fin → Shared → Prop} (hh : A.handled = none) (D : ZipApart z TI TO i1 i2 l1 l2) (hz : ZipO s.heap z TI TO f0 f1) (hf : f0 = .none ∨ ∃ T oT, f0 = rawInt ((T : Nat) : Int) ∧ s.heap.get? T = some oT) (hTI : IsPair s.heap TI (.ref i1) (.ref i2)) 
    (h1 : IsTupIter s.heap i1 l1 k1) (hl1 : IsTup s.heap l1 xs) (hx : xs[k1]? = none)
    (hE : ∀ h' e, (∀ c o, c ≠ z → c ≠ i1 → s.heap.get? c = some o → h'.get? c = some o) → (∃ o, h'.get? e = some o ∧ o.cls = .type "StopIteration") → E (.ref e) { s with heap := h' }) :
    wpAny (model prog w) A (Builtin.«zip.__next__» ⟨[.ref z], []⟩) Q E s := by
  show wpAny _ _ (field (.ref z) 2 >>= _) _ _ _
  refine wpAny_bind (wpAny_field hz rfl (x := .bool false) rfl ?_)
  show wpAny _ _ (field (.ref z) 3 >>= _) _ _ _
  refine wpAny_bind (wpAny_field hz rfl (x := .ref TI) rfl ?_)
  refine wpAny_bind (wpAny_seqItems hTI rfl ?_)
  show wpAny _ _ (Builtin.SmallTypes.ownedTupleIsFree (.ref z) >>= _) _ _ _
  rcases hf with rfl | ⟨T, oT, rfl, hT⟩
  · refine wpAny_bind ?_
    unfold Builtin.SmallTypes.ownedTupleIsFree
    refine wpAny_bind (wpAny_field hz rfl (x := .none) rfl (wpAny_pure ?_))
    simp only [if_true]
    refine wpAny_bind (wpAny_rule ?_)
    refine wpAny_bind (wpAny_field hz rfl (x := .ref TO) rfl ?_)
    refine wpAny_bind (wpAny_setField_rec hz (by simp) fun g1 z1 b1 => ?_)
    refine wpAny_bind ?_
    simp only [List.zipIdx_cons, List.zipIdx_nil, List.forIn_cons, List.forIn_nil]
    refine wpAny_bind (wpAny_bind (wpAny_onRaise ?_))
    show wpAny _ _ (Builtin.SmallTypes.nextOf (.ref i1) >>= _) _ _ _
    refine wpAny_bind (nt_end hh (h1.extBut b1.extBut D.i1z) (hl1.extBut b1.extBut D.l1z) hx fun g2 e b2 he => ?_)
    obtain ⟨oe, hoe, hce⟩ := he
    have z2 := b2 _ _ D.i1z.symm z1
    have hez : e ≠ z := fun q => by
      rw [q, z2] at hoe
      cases hoe
      simp at hce
    exact wpAny_setField_rec z2 (by simp) fun g3 _ b3 => hE g3 e (fun c o c1 c3 q => b3.extBut _ _ c1 (b2 _ _ c3 (b1.extBut _ _ c1 q))) ⟨oe, b3.extBut _ _ hez hoe, hce⟩
  · have free : ∀ (R : Bool → Shared → Prop), (∀ g, Heap.SameBut z s.heap g → R false { s with heap := g }) → wpAny (model prog w) A (Builtin.SmallTypes.ownedTupleIsFree (.ref z)) R E s := by
      intro R hR
      unfold Builtin.SmallTypes.ownedTupleIsFree
      refine wpAny_bind (wpAny_field hz rfl (x := rawInt T) rfl ?_)
      show wpAny _ _ (loadIfAlive ((T : Nat) : Int).toNat >>= _) _ _ _
      rw [Int.toNat_natCast]
      refine wpAny_bind (alive_ok hT ?_)
      rw [if_neg (by simp)]
      refine wpAny_bind (wpAny_field hz rfl (x := .bool f1) rfl ?_)
      cases f1 with
      | true =>
        rw [if_neg (by decide)]
        exact wpAny_pure (hR s.heap (Heap.SameBut.refl _ _))
      | false =>
        rw [if_pos (by decide)]
        exact wpAny_bind (wpAny_setField_rec hz (by simp) fun g zg bg => wpAny_pure (hR g bg))
    refine wpAny_bind (free _ fun g bg => ?_)
    rw [if_neg Bool.false_ne_true]
    refine wpAny_bind ?_
    rw [← Array.forIn_toList]
    simp only [List.forIn_cons, List.forIn_nil]
    refine wpAny_bind (wpAny_bind (wpAny_holding ?_))
    show wpAny _ _ (Builtin.SmallTypes.nextOf (.ref i1) >>= _) _ _ _
    refine wpAny_bind (nt_end hh (h1.extBut bg.extBut D.i1z) (hl1.extBut bg.extBut D.l1z) hx fun g2 e b2 he => ?_)
    exact hE g2 e (fun c o c1 c3 q => b2 _ _ c3 (bg.extBut _ _ c1 q)) he
structure ZipSt (h : Heap) (z TI TO i1 i2 l1 l2 : Addr) (xs ys : Array Value) (i : Nat) : Prop where
  obj : ∃ f0 f1, ZipO h z TI TO f0 f1 ∧ (f0 = .none ∨ ∃ T oT, f0 = rawInt ((T : Nat) : Int) ∧ h.get? T = some oT)
  ti : IsPair h TI (.ref i1) (.ref i2)
  to : ∃ a b, IsPair h TO a b
  it1 : IsTupIter h i1 l1 i
  it2 : h.IsListIter i2 l2 i
  tup : IsTup h l1 xs
  lst : h.IsList l2 ys
theorem ZipSt.keep {h h' : Heap} {i : Nat} (Z : ZipSt h z TI TO i1 i2 l1 l2 xs ys i) (al : ∀ b o, h.get? b = some o → ∃ o', h'.get? b = some o') (k : ∀ b o, b = z ∨ b = TI ∨ b = TO ∨ b = i1 ∨ b = i2 ∨ b = l1 ∨ b = l2 → h.get? b = some o → h'.get? b = some o) : ZipSt h' z TI TO i1 i2 l1 l2 xs ys i := by
  obtain ⟨⟨f0, f1, hz, hf⟩, h2, ⟨a, b, h3⟩, ⟨o, q, r⟩, h5, ⟨u, q2, r2⟩, h7⟩ := Z
  refine ⟨⟨f0, f1, k _ _ (by simp) hz, hf.imp id ?_⟩, k _ _ (by simp) h2, ⟨a, b, k _ _ (by simp) h3⟩, ⟨o, k _ _ (by simp) q, r⟩, h5.at fun o q => k _ o (by simp) q, ⟨u, k _ _ (by simp) q2, r2⟩, h7.at fun o q => k _ o (by simp) q⟩
  rintro ⟨T, oT, e, hT⟩
  obtain ⟨o', ho'⟩ := al T oT hT
  exact ⟨T, o', e, ho'⟩
theorem zip_item {i : Nat} {x y : Value} {Q : Option Value → Shared → Prop} (D : ZipApart z TI TO i1 i2 l1 l2) (Z : ZipSt s.heap z TI TO i1 i2 l1 l2 xs ys i) (hx : xs[i]? = some x) (hy : ys[i]? = some y)
    (hQ : ∀ h', ZipSt h' z TI TO i1 i2 l1 l2 xs ys (i + 1) → IsPair h' s.heap.objs.size x y → (∀ c o, c ≠ z → c ≠ TO → c ≠ i1 → c ≠ i2 → s.heap.get? c = some o → h'.get? c = some o) → Q (some (.ref s.heap.objs.size)) { s with heap := h' }) :
    wpAny (model prog w) A (pyNext (.ref z)) Q E s := by
  obtain ⟨⟨f0, f1, hz, hf⟩, hTI, ⟨a, b, hTO⟩, h1, h2, hl1, hl2⟩ := Z
  have hT : s.TypeIs (.ref z) "zip" := ⟨_, hz, rfl⟩
  have lt : ∀ {c o}, s.heap.get? c = some o → c < s.heap.objs.size := fun e => Heap.lt_size e
  have tupK : ∀ h' : Heap, (∀ c o, c ≠ z → c ≠ TO → c ≠ i1 → c ≠ i2 → s.heap.get? c = some o → h'.get? c = some o) → IsPair h' TI (.ref i1) (.ref i2) ∧ IsTup h' l1 xs ∧ h'.IsList l2 ys := fun h' k =>
    ⟨k _ _ D.TIz D.TITO D.TIi1 D.TIi2 hTI, (by obtain ⟨u, q, r⟩ := hl1; exact ⟨u, k _ _ D.l1z D.l1TO D.l1i1 D.l1i2 q, r⟩), hl2.at fun o q => k _ o D.l2z D.l2TO D.l2i1 D.l2i2 q⟩
  unfold pyNext
  refine wpAny_bind (wpAny_attempt (wpAny_callSpecial?_slot (name := Str.ofString "__next__") hT PySem.F.slot_zip_next (wpAny_call_entry PySem.F.slot_zip_next hT PySem.F.entry_zip_next ?_ (PySem.F.args_zip_next_1 _))))
  rcases hf with rfl | ⟨T, oT, rfl, hT'⟩
  · refine zi_free D hz hTI hTO h1 h2 hl1 hl2 hx hy fun h' a1 a2 a3 a4 a5 k => wpAny_pure (hQ h' ?_ a5 k)
    obtain ⟨q1, q2, q3⟩ := tupK h' k
    exact ⟨⟨_, _, a1, .inr ⟨s.heap.objs.size, _, rfl, a5⟩⟩, q1, ⟨_, _, a2⟩, a3, a4, q2, q3⟩
  · refine zi_used D hz hT' hTI h1 h2 hl1 hl2 hx hy fun h' a1 a3 a4 a5 k => ?_
    have k' : ∀ c o, c ≠ z → c ≠ TO → c ≠ i1 → c ≠ i2 → s.heap.get? c = some o → h'.get? c = some o := fun c o c1 _ c3 c4 q => k c o c1 c3 c4 q
    obtain ⟨q1, q2, q3⟩ := tupK h' k'
    refine wpAny_pure (hQ h' ⟨⟨_, _, a1, .inr ?_⟩, q1, ⟨a, b, k _ _ D.TOz D.TOi1 D.TOi2 hTO⟩, a3, a4, q2, q3⟩ a5 k')
    by_cases e1 : T = z
    · exact ⟨T, _, rfl, by rw [e1]; exact a1⟩
    · by_cases e2 : T = i1
      · obtain ⟨o, q, _⟩ := a3
        exact ⟨T, o, rfl, by rw [e2]; exact q⟩
      · by_cases e3 : T = i2
        · obtain ⟨o, q, _⟩ := a4
          exact ⟨T, o, rfl, by rw [e3]; exact q⟩
        · exact ⟨T, oT, rfl, k _ _ e1 e2 e3 hT'⟩
theorem zip_end {i : Nat} {Q : Option Value → Shared → Prop} (hh : A.handled = none) (D : ZipApart z TI TO i1 i2 l1 l2) (Z : ZipSt s.heap z TI TO i1 i2 l1 l2 xs ys i) (hx : xs[i]? = none)
    (hQ : ∀ h', (∀ c o, c ≠ z → c ≠ TO → c ≠ i1 → c ≠ i2 → s.heap.get? c = some o → h'.get? c = some o) → Q none { s with heap := h' }) : wpAny (model prog w) A (pyNext (.ref z)) Q E s := by
  obtain ⟨⟨f0, f1, hz, hf⟩, hTI, ⟨a, b, hTO⟩, h1, h2, hl1, hl2⟩ := Z
  have hT : s.TypeIs (.ref z) "zip" := ⟨_, hz, rfl⟩
  unfold pyNext
  refine wpAny_bind (wpAny_attempt (wpAny_callSpecial?_slot (name := Str.ofString "__next__") hT PySem.F.slot_zip_next (wpAny_call_entry PySem.F.slot_zip_next hT PySem.F.entry_zip_next (zi_end (a := a) (b := b) hh D hz hf hTI h1 hl1 hx fun h' e k he => ?_) (PySem.F.args_zip_next_1 _))))
  obtain ⟨o, ho, hc⟩ := he
  refine wpAny_bind (wpAny_isInstance (T := "StopIteration") (b := true) ⟨o, ho, hc⟩ isSubtype_stop ?_)
  exact wpAny_pure (hQ h' fun c o c1 _ c3 _ q => k c o c1 c3 q)
theorem zip_iter {i : Nat} {Q : Value → Shared → Prop} (Z : ZipSt s.heap z TI TO i1 i2 l1 l2 xs ys i) (h : Q (.ref z) s) : wpAny (model prog w) A (pyIter (.ref z)) Q E s := by
  obtain ⟨f0, f1, hz, _⟩ := Z.obj
  have hT : s.TypeIs (.ref z) "zip" := ⟨_, hz, rfl⟩
  refine wpAny_pyIter_slot hT PySem.F.slot_zip_iter (wpAny_call_entry PySem.F.slot_zip_iter hT PySem.F.entry_zip_iter ?_ (PySem.F.args_zip_iter_1 _))
  show wpAny _ _ (ret (.ref z)) _ _ s
  exact wpAny_pure ⟨_, rfl, "zip", _, hT, PySem.F.slot_zip_next.lookup, h⟩
end
abbrev zh1 (h : Heap) (l1 : Addr) : Heap := h.push { cls := .type "tuple_iterator", data := .fields #[.ref l1, .int 0 0] }
abbrev zh2 (h : Heap) (l1 l2 : Addr) : Heap := (zh1 h l1).push { cls := .type "list_iterator", data := .fields #[.ref l2, .int 0 0] }
abbrev zh3 (h : Heap) (l1 l2 : Addr) : Heap := (zh2 h l1 l2).push { cls := .type "tuple", data := .seq #[.ref h.objs.size, .ref (zh1 h l1).objs.size] }
abbrev zh4 (h : Heap) (l1 l2 : Addr) : Heap := (zh3 h l1 l2).push { cls := .type "tuple", data := .seq #[.none, .none] }
abbrev zh5 (h : Heap) (l1 l2 : Addr) : Heap := (zh4 h l1 l2).push { cls := .type "zip", data := .fields #[.none, .bool false, .bool false, .ref (zh2 h l1 l2).objs.size, .ref (zh3 h l1 l2).objs.size] }
theorem zip_new_meets (l1 l2 : Addr) (xs ys : Array Value) :
    Meets (Builtin.«zip.__new__» ⟨[.type "zip", .ref l1, .ref l2], []⟩) (fun _ R s => IsTup s.heap l1 xs ∧ s.heap.IsList l2 ys ∧ R (.ok (.ret (.ref (zh4 s.heap l1 l2).objs.size))) { s with heap := zh5 s.heap l1 l2 }) :=
  .of_wp fun prog w A R s h => by
    cases s with
    | mk hp g d tk os =>
    obtain ⟨hl1, hl2, h⟩ := h
    have hsub := sub_zip
    have hL1 : IsTup (Shared.heap ⟨hp, g, d, tk, os⟩) l1 xs := hl1
    have hL2 : Heap.IsList (Shared.heap ⟨hp.push { cls := .type "tuple_iterator", data := .fields #[.ref l1, .int 0 0] }, g, d, tk, os⟩) l2 ys := Heap.IsList.push hl2 _
    wp_walk using iter_tuple hL1, wpAny_pyIter_list hL2
    exact ⟨_, rfl, h⟩
end ZipW
namespace Hd
open Vbfuah
theorem mem_insertDay {d x : Nat} : ∀ {l : List Nat}, x ∈ insertDay d l ↔ x = d ∨ x ∈ l
  | [] => by simp [insertDay]
  | y :: l => by
    unfold insertDay
    by_cases h1 : d = y
    · rw [if_pos h1]
      subst h1
      simp
    · rw [if_neg h1]
      by_cases h2 : d < y
      · rw [if_pos h2]; simp
      · rw [if_neg h2, List.mem_cons, mem_insertDay (l := l), List.mem_cons]
        constructor
        · rintro (h | h | h)
          · exact .inr (.inl h)
          · exact .inl h
          · exact .inr (.inr h)
        · rintro (h | h | h)
          · exact .inr (.inl h)
          · exact .inl h
          · exact .inr (.inr h)
theorem rise_insertDay {d : Nat} : ∀ {l : List Nat}, l.Pairwise (· < ·) → (insertDay d l).Pairwise (· < ·)
  | [], _ => by simp [insertDay]
  | y :: l, h => by
    obtain ⟨h1, h2⟩ := List.pairwise_cons.mp h
    unfold insertDay
    by_cases c1 : d = y
    · rw [if_pos c1]; exact h
    · rw [if_neg c1]
      by_cases c2 : d < y
      · rw [if_pos c2]
        refine List.pairwise_cons.mpr ⟨fun z hz => ?_, h⟩
        rcases List.mem_cons.mp hz with e | hz
        · rw [e]; exact c2
        · exact Nat.lt_trans c2 (h1 z hz)
      · rw [if_neg c2]
        refine List.pairwise_cons.mpr ⟨fun z hz => ?_, rise_insertDay h2⟩
        rcases mem_insertDay.mp hz with e | hz
        · omega
        · exact h1 z hz
theorem rise_fold : ∀ {l acc : List Nat}, acc.Pairwise (· < ·) → (l.foldl (fun l d => insertDay d l) acc).Pairwise (· < ·)
  | [], _, h => h
  | d :: l, acc, h => rise_fold (l := l) (rise_insertDay h)
theorem mem_fold {x : Nat} : ∀ {l acc : List Nat}, x ∈ l.foldl (fun l d => insertDay d l) acc ↔ x ∈ l ∨ x ∈ acc
  | [], acc => by simp
  | d :: l, acc => by
    rw [List.foldl_cons, mem_fold (l := l), mem_insertDay, List.mem_cons]
    constructor
    · rintro (h | h | h)
      · exact .inl (.inr h)
      · exact .inl (.inl h)
      · exact .inr h
    · rintro ((h | h) | h)
      · exact .inr (.inl h)
      · exact .inl h
      · exact .inr (.inr h)
def told (ts : List Trade) (xs : List Action) : List Nat := ts.map (fun t => t.day) ++ (xs.map (fun a => a.ex) ++ xs.map fun a => a.pay)
theorem days_rise (s : State) : (days s).Pairwise (· < ·) := rise_fold List.Pairwise.nil
theorem mem_days {s : State} {x : Nat} : x ∈ days s ↔ x ∈ told s.trades s.actions := by
  unfold days told
  rw [mem_fold]
  simp
theorem rise_eq : ∀ {l m : List Int}, l.Pairwise (· < ·) → m.Pairwise (· < ·) → (∀ x, x ∈ l ↔ x ∈ m) → l = m
  | [], [], _, _, _ => rfl
  | [], y :: m, _, _, h => absurd ((h y).mpr (by simp)) (by simp)
  | x :: l, [], _, _, h => absurd ((h x).mp (by simp)) (by simp)
  | x :: l, y :: m, h1, h2, h => by
    obtain ⟨a1, a2⟩ := List.pairwise_cons.mp h1
    obtain ⟨b1, b2⟩ := List.pairwise_cons.mp h2
    have e : x = y := by
      rcases List.mem_cons.mp ((h x).mp (by simp)) with q | q
      · exact q
      · rcases List.mem_cons.mp ((h y).mpr (by simp)) with q' | q'
        · exact q'.symm
        · have := b1 x q
          have := a1 y q'
          omega
    subst e
    have hh : ∀ z, z ∈ l ↔ z ∈ m := fun z => by
      constructor
      · intro hz
        rcases List.mem_cons.mp ((h z).mp (by simp [hz])) with q | q
        · have := a1 z hz; omega
        · exact q
      · intro hz
        rcases List.mem_cons.mp ((h z).mpr (by simp [hz])) with q | q
        · have := b1 z hz; omega
        · exact q
    rw [rise_eq a2 b2 hh]
theorem rise_of_le : ∀ {l : List Int}, l.Pairwise (· ≤ ·) → l.Nodup → l.Pairwise (· < ·)
  | [], _, _ => List.Pairwise.nil
  | x :: l, h, hn => by
    obtain ⟨a1, a2⟩ := List.pairwise_cons.mp h
    obtain ⟨b1, b2⟩ := List.nodup_cons.mp hn
    refine List.pairwise_cons.mpr ⟨fun y hy => ?_, rise_of_le a2 b2⟩
    have := a1 y hy
    have : x ≠ y := fun e => b1 (e ▸ hy)
    omega
theorem days_of {s : State} {ns : List Int} (h1 : ns.Pairwise (· ≤ ·)) (h2 : ns.Nodup) (h3 : ∀ x : Int, x ∈ ns ↔ x ∈ (told s.trades s.actions).map fun (n : Nat) => (n : Int)) : ns = (days s).map fun (n : Nat) => (n : Int) := by
  refine rise_eq (rise_of_le h1 h2) ?_ fun x => ?_
  · rw [List.pairwise_map]
    exact (days_rise s).imp fun h => by omega
  · rw [h3 x, List.mem_map, List.mem_map]
    constructor
    · rintro ⟨n, hn, e⟩; exact ⟨n, mem_days.mpr hn, e⟩
    · rintro ⟨n, hn, e⟩; exact ⟨n, mem_days.mp hn, e⟩
theorem at_full (p : List Int) (i : Nat) : at_ p i = (0 :: p).getD i 0 := by
  unfold at_
  cases i with
  | zero => simp
  | succ i => simp
theorem addAt_len (p : List Int) (i : Nat) (n : Int) : (addAt p i n).length = p.length := by
  unfold addAt
  split
  · rfl
  · rw [List.length_set]
theorem addAt_full {p : List Int} {i : Nat} (n : Int) (h : 1 ≤ i) : 0 :: addAt p i n = (0 :: p).set i ((0 :: p).getD i 0 + n) := by
  unfold addAt
  rw [if_neg (by omega), ← at_full]
  obtain ⟨j, rfl⟩ : ∃ j, i = j + 1 := ⟨i - 1, by omega⟩
  simp
theorem addAt_zero (p : List Int) (i : Nat) (h : i ≤ p.length) : 0 :: p = (0 :: p).set i ((0 :: p).getD i 0 + 0) := by
  rw [Int.add_zero]
  apply List.ext_getElem?
  intro j
  rw [List.getElem?_set]
  split
  · rename_i e
    subst e
    rw [if_pos (by simp; omega)]
    rw [List.getD_eq_getElem?_getD]
    have : i < (0 :: p).length := by simp; omega
    rw [List.getElem?_eq_getElem this]
    rfl
  · rfl
end Hd
namespace Hd
open Vbfuah
structure WfA (x : Action) : Prop where
  kd : 1 ≤ x.kind ∧ x.kind ≤ 5
  sec : 1 ≤ x.sec ∧ x.sec ≤ 12
  dest : x.dest ≤ 12
  exd : x.ex ≤ 100000
  payd : x.pay ≤ 100000
  lastd : x.last ≤ 100000
  ha : 1 ≤ x.a ∧ x.a ≤ 1000
  hb : 1 ≤ x.b ∧ x.b ≤ 1000
  hp : x.price ≤ 1000000000000
  hs : x.sub ≤ 1000000000000
  hc : x.choice ≤ 1000000000000
  z1 : x.kind = 1 → x.dest = 0 ∧ x.last = 0 ∧ x.a = 1 ∧ x.b = 1 ∧ x.sub = 0 ∧ x.choice = 0
  z2 : x.kind = 2 → x.dest = 0 ∧ x.last = 0 ∧ x.sub = 0 ∧ x.choice = 0
  z3 : x.kind = 3 → 1 ≤ x.dest ∧ x.last = 0 ∧ x.sub = 0 ∧ x.choice = 0
  z4 : x.kind = 4 → x.dest = 0
  z5 : x.kind = 5 → 1 ≤ x.dest
theorem WfA.cases {x : Action} (w : WfA x) : x.kind = 1 ∨ x.kind = 2 ∨ x.kind = 3 ∨ x.kind = 4 ∨ x.kind = 5 := by
  have := w.kd
  omega
theorem WfA.chosen {x : Action} (w : WfA x) {c : Nat} (h : c ≤ 1000000000000) (hk : 4 ≤ x.kind) : WfA { x with choice := c } where
  kd := w.kd
  sec := w.sec
  dest := w.dest
  exd := w.exd
  payd := w.payd
  lastd := w.lastd
  ha := w.ha
  hb := w.hb
  hp := w.hp
  hs := w.hs
  hc := h
  z1 := fun e => by have : x.kind = 1 := e; omega
  z2 := fun e => by have : x.kind = 2 := e; omega
  z3 := fun e => by have : x.kind = 3 := e; omega
  z4 := w.z4
  z5 := w.z5
structure WfT (t : Trade) : Prop where
  day : t.day ≤ 100000
  sec : 1 ≤ t.sec ∧ t.sec ≤ 12
  lo : -1000000000 ≤ t.qty
  hi : t.qty ≤ 1000000000
  money : t.money ≤ 1000000000000
structure WfP (p : Price) : Prop where
  day : p.day ≤ 100000
  sec : 1 ≤ p.sec ∧ p.sec ≤ 12
  price : p.price ≤ 1000000000000
def rateOf (x : Action) : Nat := if x.kind = 1 then x.price else 0
def priceOf (x : Action) : Nat := if x.kind = 1 then 0 else if x.kind = 5 then x.sub else x.price
def eachOf (x : Action) : Nat := if x.kind = 4 then x.sub else if x.kind = 5 then x.price else 0
theorem first_of {x : Action} (w : WfA x) : (if x.kind = 1 then rateOf x else if x.kind = 5 then eachOf x else priceOf x) = x.price := by
  unfold rateOf eachOf priceOf
  rcases w.cases with h | h | h | h | h <;> simp [h]
theorem second_of {x : Action} (w : WfA x) : (if x.kind = 4 then eachOf x else if x.kind = 5 then priceOf x else 0) = x.sub := by
  unfold eachOf priceOf
  rcases w.cases with h | h | h | h | h
  · simp [h, (w.z1 h).2.2.2.2.1]
  · simp [h, (w.z2 h).2.2.1]
  · simp [h, (w.z3 h).2.2.1]
  · simp [h]
  · simp [h]
def iWhole (n : Int) (x : Action) : Int := n * (x.a : Int) / (x.b : Int)
def iParts (n : Int) (x : Action) : Int := n * (x.a : Int) % (x.b : Int) * (priceOf x : Int) / ((x.b : Int) * 1000000)
theorem iWhole_of (q : Nat) (x : Action) : iWhole (q : Int) x = ((q * x.a / x.b : Nat) : Int) := by
  unfold iWhole
  rw [Int.natCast_ediv, Int.natCast_mul]
theorem iParts_of (q : Nat) (x : Action) {p : Nat} (h : priceOf x = p) : iParts (q : Int) x = ((forParts q x.a x.b p : Nat) : Int) := by
  unfold iParts forParts MILLION
  rw [h, Int.natCast_ediv, Int.natCast_mul, Int.natCast_mul, Int.natCast_emod, Int.natCast_mul]
  rfl
theorem iUp (n : Nat) : -(-(n : Int) / 1000000) = ((upTo n MILLION : Nat) : Int) := by
  unfold upTo MILLION
  rw [if_neg (by decide)]
  omega
theorem iMin (c n : Nat) : (if (n : Int) < (c : Int) then (n : Int) else (c : Int)) = ((min c n : Nat) : Int) := by
  rw [Nat.min_def]
  split <;> split <;> omega
theorem iMulDiv (n p : Nat) : (n : Int) * (p : Int) / 1000000 = ((n * p / MILLION : Nat) : Int) := by
  unfold MILLION
  rw [Int.natCast_ediv, Int.natCast_mul]
  rfl
theorem eff1 {x : Action} (h : x.kind = 1) (q : Nat) : effect x q = { own := 0, other := 0, due := nothingDue x (q * x.price / MILLION : Nat) } := by
  unfold effect; rw [h]; all_goals rfl
theorem eff2 {x : Action} (h : x.kind = 2) (q : Nat) : effect x q = { own := ((q * x.a / x.b : Nat) : Int) - (q : Int), other := 0, due := nothingDue x (forParts q x.a x.b x.price) } := by
  unfold effect; rw [h]; all_goals rfl
theorem eff3 {x : Action} (h : x.kind = 3) (q : Nat) : effect x q = { own := 0, other := q * x.a / x.b, due := nothingDue x (forParts q x.a x.b x.price) } := by
  unfold effect; rw [h]; all_goals rfl
theorem eff4 {x : Action} (h : x.kind = 4) (q : Nat) : effect x q = { own := 0, other := 0, due := { day := x.pay, cash := (((q * x.a / x.b - min x.choice (q * x.a / x.b)) * x.price / MILLION : Nat) : Int) - (upTo (min x.choice (q * x.a / x.b) * x.sub) MILLION : Int), sec := x.sec, qty := min x.choice (q * x.a / x.b) } } := by
  unfold effect; rw [h]; all_goals rfl
theorem eff5 {x : Action} (h : x.kind = 5) (q : Nat) : effect x q = { own := -(q : Int), other := 0, due := { day := x.pay, cash := (((q - min x.choice q) * x.price / MILLION + forParts (min x.choice q) x.a x.b x.sub : Nat) : Int), sec := x.dest, qty := min x.choice q * x.a / x.b } } := by
  unfold effect; rw [h]; all_goals rfl
theorem acted_full {before k : Book} {x : Action} (w : WfA x) (hk : k.pos.length = 12) :
    0 :: (acted before k x).pos = (let e := effect x (at_ before.pos x.sec).toNat; ((0 :: k.pos).set x.sec ((0 :: k.pos).getD x.sec 0 + e.own)).set x.dest ((((0 :: k.pos).set x.sec ((0 :: k.pos).getD x.sec 0 + e.own)).getD x.dest 0) + (e.other : Int))) := by
  unfold acted
  dsimp only
  rw [← addAt_full _ w.sec.1]
  rcases w.cases with h | h | h | h | h
  · rw [if_neg (by omega), eff1 h]
    show 0 :: addAt k.pos x.sec 0 = _
    have e := addAt_zero (addAt k.pos x.sec 0) x.dest (by rw [addAt_len]; have := w.dest; omega)
    exact e
  · rw [if_neg (by omega), eff2 h]
    have e := addAt_zero (addAt k.pos x.sec (((((at_ before.pos x.sec).toNat) * x.a / x.b : Nat) : Int) - (((at_ before.pos x.sec).toNat : Nat) : Int))) x.dest (by rw [addAt_len]; have := w.dest; omega)
    exact e
  · rw [if_pos h, addAt_full _ (w.z3 h).1]
  · rw [if_neg (by omega), eff4 h]
    have e := addAt_zero (addAt k.pos x.sec 0) x.dest (by rw [addAt_len]; have := w.dest; omega)
    exact e
  · rw [if_neg (by omega), eff5 h]
    have e := addAt_zero (addAt k.pos x.sec (-(((at_ before.pos x.sec).toNat : Nat) : Int))) x.dest (by rw [addAt_len]; have := w.dest; omega)
    exact e
theorem acted_due (before k : Book) (x : Action) : (acted before k x).due = k.due ++ [(effect x (at_ before.pos x.sec).toNat).due] := rfl
theorem acted_cash (before k : Book) (x : Action) : (acted before k x).cash = k.cash := rfl
theorem acted_len (before k : Book) (x : Action) : (acted before k x).pos.length = k.pos.length := by
  unfold acted
  dsimp only
  rw [addAt_len, addAt_len]
theorem addAt_any (p : List Int) (i : Nat) (n : Int) (h : i = 0 → n = 0) (hi : i ≤ p.length) : 0 :: addAt p i n = (0 :: p).set i ((0 :: p).getD i 0 + n) := by
  by_cases c : i = 0
  · rw [h c, ← addAt_zero p i hi]
    unfold addAt
    rw [if_pos c]
  · exact addAt_full n (by omega)
def DueOk (d : Due) : Prop := d.sec ≤ 12 ∧ (d.sec = 0 → d.qty = 0)
theorem effect_due {x : Action} (w : WfA x) (q : Nat) : DueOk (effect x q).due := by
  have hs := w.sec
  have hd := w.dest
  rcases w.cases with h | h | h | h | h
  · rw [eff1 h]; exact ⟨Nat.zero_le _, fun _ => rfl⟩
  · rw [eff2 h]; exact ⟨Nat.zero_le _, fun _ => rfl⟩
  · rw [eff3 h]; exact ⟨Nat.zero_le _, fun _ => rfl⟩
  · rw [eff4 h]; exact ⟨hs.2, fun e => by have : x.sec = 0 := e; omega⟩
  · rw [eff5 h]; exact ⟨hd, fun e => by have : x.dest = 0 := e; have := w.z5 h; omega⟩
structure BookOk (k : Book) : Prop where
  len : k.pos.length = 12
  dues : ∀ d ∈ k.due, DueOk d
theorem BookOk.empty : BookOk emptyBook := ⟨rfl, fun _ h => by cases h⟩
theorem BookOk.acted {before k : Book} {x : Action} (w : WfA x) (o : BookOk k) : BookOk (acted before k x) :=
  ⟨by rw [acted_len]; exact o.len, fun d h => by
    rw [acted_due] at h
    rcases List.mem_append.mp h with h | h
    · exact o.dues d h
    · rw [List.mem_singleton.mp h]; exact effect_due w _⟩
def payOne (d : Nat) (u : Book) (x : Due) : Book := if x.day ≤ d then { u with pos := addAt u.pos x.sec (x.qty : Int), cash := u.cash + x.cash } else { u with due := u.due ++ [x] }
theorem paid_eq (d : Nat) (k : Book) : paid d k = k.due.foldl (payOne d) { k with due := [] } := rfl
theorem BookOk.payOne {d : Nat} {u : Book} {x : Due} (o : BookOk u) (hx : DueOk x) : BookOk (payOne d u x) := by
  unfold Hd.payOne
  split
  · exact ⟨by show (addAt _ _ _).length = 12; rw [addAt_len]; exact o.len, o.dues⟩
  · refine ⟨o.len, fun z hz => ?_⟩
    rcases List.mem_append.mp hz with hz | hz
    · exact o.dues z hz
    · rw [List.mem_singleton.mp hz]; exact hx
theorem BookOk.traded {u : Book} {t : Trade} (o : BookOk u) : BookOk (traded u t) :=
  ⟨by show (addAt _ _ _).length = 12; rw [addAt_len]; exact o.len, o.dues⟩
theorem fold_ok {α β : Type} {f : β → α → β} {P : β → Prop} : ∀ {l : List α} {b : β}, P b → (∀ b a, a ∈ l → P b → P (f b a)) → P (l.foldl f b)
  | [], _, h, _ => h
  | a :: l, b, h, s => fold_ok (l := l) (s b a (by simp) h) fun b' a' ha => s b' a' (by simp [ha])
theorem BookOk.dayDone {s : State} {k : Book} (d : Nat) (hA : ∀ x ∈ s.actions, WfA x) (o : BookOk k) : BookOk (dayDone s k d) := by
  unfold Vbfuah.dayDone
  dsimp only
  have o1 : BookOk ((s.actions.filter fun a => a.ex == d).foldl (Vbfuah.acted k) k) := fold_ok o fun b a ha ob => BookOk.acted (hA a (List.mem_filter.mp ha).1) ob
  have o2 : BookOk (paid d ((s.actions.filter fun a => a.ex == d).foldl (Vbfuah.acted k) k)) := by
    rw [paid_eq]
    exact fold_ok (P := BookOk) ⟨o1.len, fun _ h => by cases h⟩ fun b a ha ob => BookOk.payOne ob (o1.dues a ha)
  exact fold_ok o2 fun b a _ ob => BookOk.traded ob
theorem fold_acted_due {before : Book} : ∀ (l : List Action) (k : Book), (l.foldl (acted before) k).due.length = k.due.length + l.length
  | [], _ => rfl
  | a :: l, k => by
    rw [List.foldl_cons, fold_acted_due l, acted_due, List.length_append, List.length_cons, List.length_cons, List.length_nil]
    omega
theorem fold_pay_due (d : Nat) : ∀ (l : List Due) (k : Book), (l.foldl (payOne d) k).due.length ≤ k.due.length + l.length
  | [], _ => Nat.le_refl _
  | a :: l, k => by
    rw [List.foldl_cons]
    refine Nat.le_trans (fold_pay_due d l _) ?_
    have : (payOne d k a).due.length ≤ k.due.length + 1 := by
      unfold payOne
      split
      · exact Nat.le_succ _
      · simp
    rw [List.length_cons]
    omega
theorem fold_traded_due : ∀ (l : List Trade) (k : Book), (l.foldl traded k).due = k.due
  | [], _ => rfl
  | a :: l, k => by rw [List.foldl_cons, fold_traded_due l]; rfl
theorem dayDone_due (s : State) (k : Book) (d : Nat) : (dayDone s k d).due.length ≤ k.due.length + s.actions.length := by
  unfold dayDone
  dsimp only
  rw [fold_traded_due, paid_eq]
  refine Nat.le_trans (fold_pay_due d _ _) ?_
  show 0 + _ ≤ _
  rw [fold_acted_due, Nat.zero_add]
  exact Nat.add_le_add_left (List.length_filter_le _ _) _
theorem fold_day_due (s : State) : ∀ (l : List Nat) (k : Book), (l.foldl (dayDone s) k).due.length ≤ k.due.length + s.actions.length * l.length
  | [], _ => by simp
  | d :: l, k => by
    rw [List.foldl_cons]
    refine Nat.le_trans (fold_day_due s l _) ?_
    have := dayDone_due s k d
    rw [List.length_cons, Nat.mul_succ]
    omega
theorem insertDay_len (d : Nat) : ∀ l : List Nat, (insertDay d l).length ≤ l.length + 1
  | [] => by simp [insertDay]
  | x :: l => by
    unfold insertDay
    split
    · simp
    · split
      · simp
      · have := insertDay_len d l
        simp; omega
theorem fold_ins_len : ∀ (l acc : List Nat), (l.foldl (fun l d => insertDay d l) acc).length ≤ acc.length + l.length
  | [], _ => Nat.le_refl _
  | d :: l, acc => by
    rw [List.foldl_cons]
    refine Nat.le_trans (fold_ins_len l _) ?_
    have := insertDay_len d acc
    rw [List.length_cons]
    omega
theorem days_len (s : State) : (days s).length ≤ s.trades.length + (s.actions.length + s.actions.length) := by
  unfold days
  refine Nat.le_trans (fold_ins_len _ _) ?_
  simp
def fine (k : Book) : Bool := k.pos.all fun n => decide (0 ≤ n) && decide (n ≤ GREAT)
theorem fine_at {k : Book} (h : fine k = true) (i : Nat) : 0 ≤ at_ k.pos i ∧ at_ k.pos i ≤ GREAT := by
  unfold at_
  split
  · exact ⟨Int.le_refl _, by decide⟩
  · rw [List.getD_eq_getElem?_getD]
    cases e : k.pos[i - 1]? with
    | none => exact ⟨Int.le_refl _, by decide⟩
    | some n =>
      have := List.all_eq_true.mp h n (List.mem_of_getElem? e)
      simpa using this
theorem fine_empty : fine emptyBook = true := by decide
theorem sound_cons {s : State} {k : Book} {d : Nat} {l : List Nat} : soundFrom s k (d :: l) = (fine (dayDone s k d) && soundFrom s (dayDone s k d) l) := rfl
theorem sound_fold {s : State} : ∀ {l m : List Nat} {k : Book}, fine k = true → soundFrom s k (l ++ m) = true → fine (l.foldl (dayDone s) k) = true
  | [], _, _, h, _ => h
  | d :: l, m, k, _, h => by
    rw [List.cons_append, sound_cons, Bool.and_eq_true] at h
    rw [List.foldl_cons]
    exact sound_fold (m := m) h.1 h.2
theorem filter_prefix {p : Nat → Bool} : ∀ {l : List Nat}, l.Pairwise (· < ·) → (∀ a b, a < b → p b = true → p a = true) → ∃ m, l = l.filter p ++ m
  | [], _, _ => ⟨[], rfl⟩
  | x :: l, h, hp => by
    obtain ⟨h1, h2⟩ := List.pairwise_cons.mp h
    by_cases c : p x = true
    · obtain ⟨m, e⟩ := filter_prefix h2 hp
      refine ⟨m, ?_⟩
      rw [List.filter_cons, if_pos c, List.cons_append, ← e]
    · refine ⟨x :: l, ?_⟩
      rw [List.filter_cons, if_neg c]
      have : l.filter p = [] := by
        rw [List.filter_eq_nil_iff]
        intro y hy q
        exact c (hp x y (h1 y hy) q)
      rw [this]
      rfl
def bookTo (s : State) (z : Int) : Book := ((days s).filter fun (x : Nat) => decide ((x : Int) ≤ z)).foldl (dayDone s) emptyBook
theorem bookTo_at (s : State) (d : Nat) : bookTo s (d : Int) = bookAt s d := by
  unfold bookTo bookAt
  congr 1
  apply List.filter_congr
  intro x _
  rw [decide_eq_decide]
  omega
theorem bookTo_before (s : State) (d : Nat) : bookTo s ((d : Int) - 1) = bookBefore s d := by
  unfold bookTo bookBefore
  congr 1
  apply List.filter_congr
  intro x _
  rw [decide_eq_decide]
  omega
theorem bookTo_fine {s : State} (h : sound s = true) (z : Int) : fine (bookTo s z) = true := by
  obtain ⟨m, e⟩ := filter_prefix (p := fun (x : Nat) => decide ((x : Int) ≤ z)) (days_rise s) (fun a b hab hb => by
    have := of_decide_eq_true hb
    exact decide_eq_true (by omega))
  have h2 : soundFrom s emptyBook (days s) = true := h
  rw [e] at h2
  exact sound_fold fine_empty h2
theorem bookTo_ok {s : State} (hA : ∀ x ∈ s.actions, WfA x) (z : Int) : BookOk (bookTo s z) :=
  fold_ok BookOk.empty fun _ _ _ o => BookOk.dayDone _ hA o
theorem bookTo_due (s : State) (z : Int) : (bookTo s z).due.length ≤ s.actions.length * (s.trades.length + (s.actions.length + s.actions.length)) := by
  unfold bookTo
  refine Nat.le_trans (fold_day_due s _ _) ?_
  show 0 + _ ≤ _
  rw [Nat.zero_add]
  exact Nat.mul_le_mul_left _ (Nat.le_trans (List.length_filter_le _ _) (days_len s))
theorem fine_full {k : Book} : fine k = true ↔ (∀ n ∈ (0 :: k.pos), 0 ≤ n) ∧ ∀ n ∈ (0 :: k.pos), n ≤ GREAT := by
  unfold fine
  rw [List.all_eq_true]
  constructor
  · intro h
    constructor
    · intro n hn
      rcases List.mem_cons.mp hn with e | hn
      · rw [e]; exact Int.le_refl _
      · have := h n hn
        simp at this
        exact this.1
    · intro n hn
      rcases List.mem_cons.mp hn with e | hn
      · rw [e]; decide
      · have := h n hn
        simp at this
        exact this.2
  · rintro ⟨h1, h2⟩ n hn
    simp
    exact ⟨h1 n (by simp [hn]), h2 n (by simp [hn])⟩
end Hd
namespace Hd
open Vbfuah
def Apart (p q : Price) : Prop := ¬ (p.day = q.day ∧ p.sec = q.sec)
theorem latest_cons (d sec : Nat) (p : Price) (l : List Price) : latest d sec (p :: l) = match latest d sec l with
    | some q => if p.sec = sec ∧ p.day ≤ d ∧ q.day < p.day then some p else some q
    | none => if p.sec = sec ∧ p.day ≤ d then some p else none := rfl
theorem latest_mem {d sec : Nat} : ∀ {l : List Price} {q : Price}, latest d sec l = some q → q ∈ l ∧ q.sec = sec ∧ q.day ≤ d
  | [], q, h => by cases h
  | p :: l, q, h => by
    rw [latest_cons] at h
    cases e : latest d sec l with
    | none =>
      rw [e] at h
      dsimp only at h
      split at h
      · rename_i c
        cases h
        exact ⟨by simp, c.1, c.2⟩
      · cases h
    | some q' =>
      rw [e] at h
      dsimp only at h
      obtain ⟨a, b, c⟩ := latest_mem e
      split at h
      · rename_i c'
        cases h
        exact ⟨by simp, c'.1, c'.2.1⟩
      · cases h
        exact ⟨by simp [a], b, c⟩
def look (d sec : Int) (a : Int × Int) (p : Price) : Int × Int := if (p.sec : Int) = sec ∧ a.1 < (p.day : Int) ∧ (p.day : Int) ≤ d then ((p.day : Int), (p.price : Int)) else a
theorem look_all {d sec : Nat} : ∀ {l : List Price} (a : Int × Int), l.Pairwise Apart → l.foldl (look (d : Int) (sec : Int)) a = match latest d sec l with
    | some q => if a.1 < (q.day : Int) then ((q.day : Int), (q.price : Int)) else a
    | none => a
  | [], a, _ => rfl
  | p :: l, a, h => by
    obtain ⟨h1, h2⟩ := List.pairwise_cons.mp h
    rw [List.foldl_cons, look_all _ h2, latest_cons]
    cases e : latest d sec l with
    | none =>
      dsimp only
      unfold look
      by_cases c : p.sec = sec ∧ p.day ≤ d
      · rw [if_pos c]
        dsimp only
        by_cases c2 : a.1 < (p.day : Int)
        · rw [if_pos ⟨by omega, c2, by omega⟩, if_pos c2]
        · rw [if_neg (fun z => c2 z.2.1), if_neg c2]
      · rw [if_neg c, if_neg (fun z => c ⟨by omega, by omega⟩)]
    | some q =>
      dsimp only
      obtain ⟨m1, m2, m3⟩ := latest_mem e
      have hap := h1 q m1
      by_cases c : p.sec = sec ∧ p.day ≤ d ∧ q.day < p.day
      · rw [if_pos c]
        dsimp only
        by_cases c2 : a.1 < (p.day : Int)
        · have el : look (d : Int) (sec : Int) a p = ((p.day : Int), (p.price : Int)) := if_pos ⟨by omega, c2, by omega⟩
          rw [el, if_pos c2]
          exact if_neg (show ¬ (p.day : Int) < (q.day : Int) by omega)
        · have el : look (d : Int) (sec : Int) a p = a := if_neg fun z => c2 z.2.1
          rw [el, if_neg c2]
          exact if_neg (by omega)
      · rw [if_neg c]
        dsimp only
        unfold look
        by_cases c2 : (p.sec : Int) = sec ∧ a.1 < (p.day : Int) ∧ (p.day : Int) ≤ d
        · rw [if_pos c2]
          have hlt : p.day < q.day := by
            have hn : ¬ p.day = q.day := fun z => hap ⟨z, by omega⟩
            have : ¬ (p.sec = sec ∧ p.day ≤ d ∧ q.day < p.day) := c
            have : p.sec = sec := by omega
            have : p.day ≤ d := by omega
            by_cases q2 : q.day < p.day
            · exact absurd ⟨by assumption, by assumption, q2⟩ c
            · omega
          rw [if_pos (show (p.day : Int) < (q.day : Int) by omega), if_pos (by omega)]
        · rw [if_neg c2]
theorem look_price {s : State} {d sec : Nat} (h : s.prices.Pairwise Apart) : (s.prices.foldl (look (d : Int) (sec : Int)) (-1, 0)).2 = ((priceAt s d sec : Nat) : Int) := by
  rw [look_all _ h]
  unfold priceAt
  cases e : latest d sec s.prices with
  | none => rfl
  | some q =>
    dsimp only
    rw [if_pos (show (-1 : Int) < (q.day : Int) by omega)]
def addDue (a : Int × List Int) (d : Due) : Int × List Int := (a.1 + d.cash, a.2.set d.sec (a.2.getD d.sec 0 + (d.qty : Int)))
theorem addDue_all : ∀ {l : List Due} (a : Int × List Int), (∀ d ∈ l, d.sec ≤ 12) → a.2.length = 13 → (l.foldl addDue a).1 = a.1 + isum (l.map fun x => x.cash) ∧ (l.foldl addDue a).2.length = 13 ∧
    ∀ i : Nat, i ≤ 12 → (l.foldl addDue a).2.getD i 0 = a.2.getD i 0 + isum ((l.filter fun x => x.sec == i).map fun x => (x.qty : Int))
  | [], a, _, h => ⟨by show a.1 = a.1 + 0; omega, h, fun i _ => by show a.2.getD i 0 = a.2.getD i 0 + 0; omega⟩
  | d :: l, a, hd, h => by
    have hs := hd d (by simp)
    obtain ⟨e1, e2, e3⟩ := addDue_all (l := l) (addDue a d) (fun x hx => hd x (by simp [hx])) (by show (a.2.set _ _).length = 13; rw [List.length_set]; exact h)
    rw [List.foldl_cons]
    refine ⟨?_, e2, fun i hi => ?_⟩
    · rw [e1, List.map_cons]
      show a.1 + d.cash + _ = a.1 + (d.cash + isum _)
      omega
    · rw [e3 i hi]
      show (a.2.set d.sec _).getD i 0 + _ = _
      rw [List.filter_cons]
      by_cases c : d.sec = i
      · subst c
        rw [if_pos (by simp)]
        rw [List.getD_eq_getElem?_getD, List.getElem?_set_self (by omega), List.map_cons]
        show (a.2.getD d.sec 0 + (d.qty : Int)) + _ = a.2.getD d.sec 0 + ((d.qty : Int) + isum _)
        omega
      · rw [if_neg (by simpa using c), List.getD_eq_getElem?_getD, List.getElem?_set_ne c, ← List.getD_eq_getElem?_getD]
def sumTo (g : Nat → Int) : Nat → Int
  | 0 => 0
  | n + 1 => sumTo g n + g (n + 1)
theorem secs_sum (g : Nat → Int) : isum (secs.map g) = sumTo g 12 := by
  show isum [g 1, g 2, g 3, g 4, g 5, g 6, g 7, g 8, g 9, g 10, g 11, g 12] = _
  show g 1 + (g 2 + (g 3 + (g 4 + (g 5 + (g 6 + (g 7 + (g 8 + (g 9 + (g 10 + (g 11 + (g 12 + 0))))))))))) = 0 + g 1 + g 2 + g 3 + g 4 + g 5 + g 6 + g 7 + g 8 + g 9 + g 10 + g 11 + g 12
  omega
theorem sumTo_congr {f g : Nat → Int} : ∀ {n : Nat}, (∀ i, 1 ≤ i → i ≤ n → f i = g i) → sumTo f n = sumTo g n
  | 0, _ => rfl
  | n + 1, h => by
    show sumTo f n + f (n + 1) = sumTo g n + g (n + 1)
    rw [sumTo_congr (n := n) fun i a b => h i a (by omega), h (n + 1) (by omega) (Nat.le_refl _)]
theorem worth_is {s : State} {k : Book} (o : BookOk k) (d : Nat) :
    worth (priceAt s d) k = (k.due.foldl addDue (k.cash, 0 :: k.pos)).1 * 1000000 + sumTo (fun i => (k.due.foldl addDue (k.cash, 0 :: k.pos)).2.getD i 0 * ((priceAt s d i : Nat) : Int)) 12 := by
  obtain ⟨e1, _, e3⟩ := addDue_all (l := k.due) (k.cash, 0 :: k.pos) (fun x hx => (o.dues x hx).1) (by show k.pos.length + 1 = 13; rw [o.len])
  unfold worth
  rw [secs_sum, e1]
  congr 1
  apply sumTo_congr
  intro i h1 h2
  rw [e3 i h2, at_full]
def Nums (l : List Action) : Prop := ∀ (i : Nat) (x : Action), l[i]? = some x → x.num = i + 1
theorem find_num : ∀ {l : List Action} {k : Nat} (n : Int), (∀ (i : Nat) (x : Action), l[i]? = some x → x.num = k + i + 1) → (k : Int) + 1 ≤ n → (l.find? fun x => (x.num : Int) == n) = l[(n - 1 - (k : Int)).toNat]?
  | [], _, _, _, _ => by simp
  | x :: l, k, n, h, hn => by
    have e : x.num = k + 1 := h 0 x rfl
    rw [List.find?_cons]
    by_cases c : (x.num : Int) = n
    · rw [show ((x.num : Int) == n) = true by simpa using c]
      dsimp only
      have : (n - 1 - (k : Int)).toNat = 0 := by omega
      rw [this]
      rfl
    · rw [show ((x.num : Int) == n) = false by simpa using c]
      dsimp only
      rw [find_num (k := k + 1) n (fun i y hy => by have := h (i + 1) y hy; omega) (by omega)]
      obtain ⟨j, ej⟩ : ∃ j, (n - 1 - (k : Int)).toNat = j + 1 := ⟨(n - 1 - (k : Int)).toNat - 1, by omega⟩
      rw [ej, List.getElem?_cons_succ]
      congr 1
      omega
theorem ins_iff {n lo hi : Int} : inside n lo hi = false ↔ ¬ (lo ≤ n ∧ n ≤ hi) := by
  unfold inside
  rw [Bool.and_eq_false_iff, decide_eq_false_iff_not, decide_eq_false_iff_not]
  omega
theorem onAct {s : State} (hN : Nums s.actions) {n : Int} (h1 : 1 ≤ n) (h2 : n ≤ 1000000) (f : Action → State × Ans) : onAction s n f = match s.actions[(n - 1).toNat]? with
    | none => no s 4
    | some x => f x := by
  unfold onAction
  rw [if_neg (by rw [ins_iff]; omega), find_num (k := 0) n (fun i x hx => by have := hN i x hx; omega) (by omega)]
  have : (n - 1 - ((0 : Nat) : Int)).toNat = (n - 1).toNat := by omega
  rw [this]
  all_goals rfl
theorem onAct_out {s : State} {n : Int} (h : ¬ (1 ≤ n ∧ n ≤ 1000000)) (f : Action → State × Ans) : onAction s n f = no s 1 := by
  unfold onAction
  rw [if_pos]
  unfold inside
  rw [Bool.and_eq_false_iff]
  by_cases c : 1 ≤ n
  · exact .inr (decide_eq_false fun z => h ⟨c, z⟩)
  · exact .inl (decide_eq_false c)
theorem choose_set {l : List Action} (hN : Nums l) {i : Nat} {x : Action} (hx : l[i]? = some x) (c : Nat) : (l.map fun y => if y.num = x.num then { y with choice := c } else y) = l.set i { x with choice := c } := by
  apply List.ext_getElem?
  intro j
  rw [List.getElem?_map, List.getElem?_set]
  have ex := hN i x hx
  have hi := (List.getElem?_eq_some_iff.mp hx).1
  by_cases e : i = j
  · subst e
    rw [if_pos rfl, if_pos hi, hx]
    simp
  · rw [if_neg e]
    cases q : l[j]? with
    | none => rfl
    | some y =>
      have ey := hN j y q
      show some (if y.num = x.num then _ else _) = some y
      rw [if_neg (by omega)]
structure SInv (s : State) : Prop where
  tw : ∀ t ∈ s.trades, WfT t
  aw : ∀ x ∈ s.actions, WfA x
  pw : ∀ p ∈ s.prices, WfP p
  tl : s.trades.length ≤ 100
  al : s.actions.length ≤ 30
  pl : s.prices.length ≤ 200
  nx : s.next = s.actions.length + 1
  nm : Nums s.actions
  pu : s.prices.Pairwise Apart
  so : sound s = true
  td : s.today ≤ 100000
theorem SInv.start : SInv Vbfuah.start where
  tw := fun _ h => by cases h
  aw := fun _ h => by cases h
  pw := fun _ h => by cases h
  tl := by decide
  al := by decide
  pl := by decide
  nx := rfl
  nm := fun i x h => by cases i <;> cases h
  pu := List.Pairwise.nil
  so := rfl
  td := Nat.zero_le _
theorem dayDone_congr {s t : State} (h1 : s.trades = t.trades) (h2 : s.actions = t.actions) (k : Book) (d : Nat) : dayDone s k d = dayDone t k d := by
  unfold dayDone
  rw [h1, h2]
theorem days_congr {s t : State} (h1 : s.trades = t.trades) (h2 : s.actions = t.actions) : days s = days t := by
  unfold days
  rw [h1, h2]
theorem soundFrom_congr {s t : State} (h1 : s.trades = t.trades) (h2 : s.actions = t.actions) : ∀ (l : List Nat) (k : Book), soundFrom s k l = soundFrom t k l
  | [], _ => rfl
  | d :: l, k => by rw [sound_cons, sound_cons, dayDone_congr h1 h2, soundFrom_congr h1 h2 l]
theorem sound_congr {s t : State} (h1 : s.trades = t.trades) (h2 : s.actions = t.actions) : sound s = sound t := by
  unfold sound
  rw [soundFrom_congr h1 h2, days_congr h1 h2]
theorem bookTo_congr {s t : State} (h1 : s.trades = t.trades) (h2 : s.actions = t.actions) (z : Int) : bookTo s z = bookTo t z := by
  unfold bookTo
  rw [days_congr h1 h2, show dayDone s = dayDone t from funext fun k => funext fun d => dayDone_congr h1 h2 k d]
theorem nums_snoc {l : List Action} {x : Action} (h : Nums l) (e : x.num = l.length + 1) : Nums (l ++ [x]) := fun i y hy => by
  rw [List.getElem?_append] at hy
  split at hy
  · exact h i y hy
  · rename_i c
    have : i - l.length = 0 := by
      cases q : i - l.length with
      | zero => rfl
      | succ n => rw [q] at hy; cases hy
    rw [this] at hy
    cases hy
    omega
theorem SInv.doAction {s : State} (I : SInv s) {x : Action} (w : WfA x) (e : x.num = s.next) : SInv (doAction s x).1 := by
  unfold Vbfuah.doAction
  split
  · exact I
  · split
    · exact I
    · split
      · exact I
      · rename_i c
        dsimp only
        split
        · rename_i h
          refine ⟨I.tw, fun y hy => ?_, I.pw, I.tl, ?_, I.pl, ?_, nums_snoc I.nm (by rw [e, I.nx]), I.pu, h, I.td⟩
          · rcases List.mem_append.mp hy with hy | hy
            · exact I.aw y hy
            · rw [List.mem_singleton.mp hy]; exact w
          · show (s.actions ++ [x]).length ≤ 30
            have : ¬ 30 ≤ s.actions.length := c
            simp; omega
          · show s.next + 1 = (s.actions ++ [x]).length + 1
            rw [I.nx]; simp
        · exact I
theorem wf_div {s : State} {i ex pay r : Int} (hi : 1 ≤ i ∧ i ≤ 12) (hex : 0 ≤ ex ∧ ex ≤ 100000) (hpay : 0 ≤ pay ∧ pay ≤ 100000) (hr : 0 ≤ r ∧ r ≤ 1000000000000) : WfA (newAction s 1 i 0 ex pay 0 1 1 r 0 0) :=
  ⟨show 1 ≤ 1 ∧ 1 ≤ 5 by omega, show 1 ≤ i.toNat ∧ i.toNat ≤ 12 by omega, show (0 : Int).toNat ≤ 12 by omega, show ex.toNat ≤ 100000 by omega, show pay.toNat ≤ 100000 by omega, show (0 : Int).toNat ≤ 100000 by omega, show 1 ≤ (1 : Int).toNat ∧ (1 : Int).toNat ≤ 1000 by omega, show 1 ≤ (1 : Int).toNat ∧ (1 : Int).toNat ≤ 1000 by omega, show r.toNat ≤ 1000000000000 by omega, show (0 : Int).toNat ≤ 1000000000000 by omega, show (0 : Int).toNat ≤ 1000000000000 by omega, fun _ => ⟨rfl, rfl, rfl, rfl, rfl, rfl⟩, fun e => absurd (show (1 : Nat) = 2 from e) (by decide), fun e => absurd (show (1 : Nat) = 3 from e) (by decide), fun e => absurd (show (1 : Nat) = 4 from e) (by decide), fun e => absurd (show (1 : Nat) = 5 from e) (by decide)⟩
theorem wf_split {s : State} {i ex pay a b p : Int} (hi : 1 ≤ i ∧ i ≤ 12) (hex : 0 ≤ ex ∧ ex ≤ 100000) (hpay : 0 ≤ pay ∧ pay ≤ 100000) (ha : 1 ≤ a ∧ a ≤ 1000) (hb : 1 ≤ b ∧ b ≤ 1000) (hp : 0 ≤ p ∧ p ≤ 1000000000000) : WfA (newAction s 2 i 0 ex pay 0 a b p 0 0) :=
  ⟨show 1 ≤ 2 ∧ 2 ≤ 5 by omega, show 1 ≤ i.toNat ∧ i.toNat ≤ 12 by omega, show (0 : Int).toNat ≤ 12 by omega, show ex.toNat ≤ 100000 by omega, show pay.toNat ≤ 100000 by omega, show (0 : Int).toNat ≤ 100000 by omega, show 1 ≤ a.toNat ∧ a.toNat ≤ 1000 by omega, show 1 ≤ b.toNat ∧ b.toNat ≤ 1000 by omega, show p.toNat ≤ 1000000000000 by omega, show (0 : Int).toNat ≤ 1000000000000 by omega, show (0 : Int).toNat ≤ 1000000000000 by omega, fun e => absurd (show (2 : Nat) = 1 from e) (by decide), fun _ => ⟨rfl, rfl, rfl, rfl⟩, fun e => absurd (show (2 : Nat) = 3 from e) (by decide), fun e => absurd (show (2 : Nat) = 4 from e) (by decide), fun e => absurd (show (2 : Nat) = 5 from e) (by decide)⟩
theorem wf_spin {s : State} {i j ex pay a b p : Int} (hi : 1 ≤ i ∧ i ≤ 12) (hj : 1 ≤ j ∧ j ≤ 12) (hex : 0 ≤ ex ∧ ex ≤ 100000) (hpay : 0 ≤ pay ∧ pay ≤ 100000) (ha : 1 ≤ a ∧ a ≤ 1000) (hb : 1 ≤ b ∧ b ≤ 1000) (hp : 0 ≤ p ∧ p ≤ 1000000000000) : WfA (newAction s 3 i j ex pay 0 a b p 0 0) :=
  ⟨show 1 ≤ 3 ∧ 3 ≤ 5 by omega, show 1 ≤ i.toNat ∧ i.toNat ≤ 12 by omega, show j.toNat ≤ 12 by omega, show ex.toNat ≤ 100000 by omega, show pay.toNat ≤ 100000 by omega, show (0 : Int).toNat ≤ 100000 by omega, show 1 ≤ a.toNat ∧ a.toNat ≤ 1000 by omega, show 1 ≤ b.toNat ∧ b.toNat ≤ 1000 by omega, show p.toNat ≤ 1000000000000 by omega, show (0 : Int).toNat ≤ 1000000000000 by omega, show (0 : Int).toNat ≤ 1000000000000 by omega, fun e => absurd (show (3 : Nat) = 1 from e) (by decide), fun e => absurd (show (3 : Nat) = 2 from e) (by decide), fun _ => ⟨show 1 ≤ j.toNat by omega, rfl, rfl, rfl⟩, fun e => absurd (show (3 : Nat) = 4 from e) (by decide), fun e => absurd (show (3 : Nat) = 5 from e) (by decide)⟩
theorem wf_rights {s : State} {i ex pay last a b p sub k : Int} (hi : 1 ≤ i ∧ i ≤ 12) (hex : 0 ≤ ex ∧ ex ≤ 100000) (hpay : 0 ≤ pay ∧ pay ≤ 100000) (hlast : 0 ≤ last ∧ last ≤ 100000) (ha : 1 ≤ a ∧ a ≤ 1000) (hb : 1 ≤ b ∧ b ≤ 1000) (hp : 0 ≤ p ∧ p ≤ 1000000000000) (hsub : 0 ≤ sub ∧ sub ≤ 1000000000000) (hk : 0 ≤ k ∧ k ≤ 1000000000000) : WfA (newAction s 4 i 0 ex pay last a b p sub k) :=
  ⟨show 1 ≤ 4 ∧ 4 ≤ 5 by omega, show 1 ≤ i.toNat ∧ i.toNat ≤ 12 by omega, show (0 : Int).toNat ≤ 12 by omega, show ex.toNat ≤ 100000 by omega, show pay.toNat ≤ 100000 by omega, show last.toNat ≤ 100000 by omega, show 1 ≤ a.toNat ∧ a.toNat ≤ 1000 by omega, show 1 ≤ b.toNat ∧ b.toNat ≤ 1000 by omega, show p.toNat ≤ 1000000000000 by omega, show sub.toNat ≤ 1000000000000 by omega, show k.toNat ≤ 1000000000000 by omega, fun e => absurd (show (4 : Nat) = 1 from e) (by decide), fun e => absurd (show (4 : Nat) = 2 from e) (by decide), fun e => absurd (show (4 : Nat) = 3 from e) (by decide), fun _ => rfl, fun e => absurd (show (4 : Nat) = 5 from e) (by decide)⟩
theorem wf_take {s : State} {i j ex pay last a b p sub k : Int} (hi : 1 ≤ i ∧ i ≤ 12) (hj : 1 ≤ j ∧ j ≤ 12) (hex : 0 ≤ ex ∧ ex ≤ 100000) (hpay : 0 ≤ pay ∧ pay ≤ 100000) (hlast : 0 ≤ last ∧ last ≤ 100000) (ha : 1 ≤ a ∧ a ≤ 1000) (hb : 1 ≤ b ∧ b ≤ 1000) (hp : 0 ≤ p ∧ p ≤ 1000000000000) (hsub : 0 ≤ sub ∧ sub ≤ 1000000000000) (hk : 0 ≤ k ∧ k ≤ 1000000000000) : WfA (newAction s 5 i j ex pay last a b p sub k) :=
  ⟨show 1 ≤ 5 ∧ 5 ≤ 5 by omega, show 1 ≤ i.toNat ∧ i.toNat ≤ 12 by omega, show j.toNat ≤ 12 by omega, show ex.toNat ≤ 100000 by omega, show pay.toNat ≤ 100000 by omega, show last.toNat ≤ 100000 by omega, show 1 ≤ a.toNat ∧ a.toNat ≤ 1000 by omega, show 1 ≤ b.toNat ∧ b.toNat ≤ 1000 by omega, show p.toNat ≤ 1000000000000 by omega, show sub.toNat ≤ 1000000000000 by omega, show k.toNat ≤ 1000000000000 by omega, fun e => absurd (show (5 : Nat) = 1 from e) (by decide), fun e => absurd (show (5 : Nat) = 2 from e) (by decide), fun e => absurd (show (5 : Nat) = 3 from e) (by decide), fun e => absurd (show (5 : Nat) = 4 from e) (by decide), fun _ => show 1 ≤ j.toNat by omega⟩
theorem SInv.step {s : State} (I : SInv s) (c : Call) : SInv (step s c).1 := by
  cases c with
  | begin => exact SInv.start
  | today d =>
    show SInv (if inside d (s.today : Int) 100000 = false then no s 1 else yes { s with today := d.toNat } [0]).1
    split
    · exact I
    · rename_i h
      rw [ins_iff] at h
      exact ⟨I.tw, I.aw, I.pw, I.tl, I.al, I.pl, I.nx, I.nm, I.pu, Eq.trans (sound_congr (t := s) rfl rfl) I.so, show d.toNat ≤ 100000 by omega⟩
  | trade d i q m =>
    show SInv (doTrade s d i q m).1
    unfold doTrade
    split
    · exact I
    · rename_i h
      unfold isDay isSec at h
      simp only [ins_iff] at h
      split
      · exact I
      · split
        · exact I
        · rename_i c
          dsimp only
          split
          · rename_i hs
            refine ⟨fun t ht => ?_, I.aw, I.pw, ?_, I.al, I.pl, I.nx, I.nm, I.pu, hs, I.td⟩
            · rcases List.mem_append.mp ht with ht | ht
              · exact I.tw t ht
              · rw [List.mem_singleton.mp ht]
                exact ⟨show d.toNat ≤ 100000 by omega, show 1 ≤ i.toNat ∧ i.toNat ≤ 12 by omega, show -1000000000 ≤ q by omega, show q ≤ 1000000000 by omega, show m.toNat ≤ 1000000000000 by omega⟩
            · show (s.trades ++ [_]).length ≤ 100
              have : ¬ 100 ≤ s.trades.length := c
              simp; omega
          · exact I
  | dividend i ex pay r =>
    show SInv (@ite (State × Ans) _ _ _ _).1
    split
    · exact I
    · rename_i h
      unfold isDay isSec isRate at h
      simp only [ins_iff] at h
      exact I.doAction (wf_div (by omega) (by omega) (by omega) (by omega)) rfl
  | split i ex pay a b p =>
    show SInv (@ite (State × Ans) _ _ _ _).1
    split
    · exact I
    · rename_i h
      unfold isDay isSec isRate isPart at h
      simp only [ins_iff] at h
      exact I.doAction (wf_split (by omega) (by omega) (by omega) (by omega) (by omega) (by omega)) rfl
  | spinoff i j ex pay a b p =>
    show SInv (@ite (State × Ans) _ _ _ _).1
    split
    · exact I
    · rename_i h
      unfold isDay isSec isRate isPart at h
      simp only [ins_iff] at h
      split
      · exact I
      · exact I.doAction (wf_spin (by omega) (by omega) (by omega) (by omega) (by omega) (by omega) (by omega)) rfl
  | rights i ex pay last a b p sub k =>
    show SInv (@ite (State × Ans) _ _ _ _).1
    split
    · exact I
    · rename_i h
      unfold isDay isSec isRate isPart at h
      simp only [ins_iff] at h
      split
      · exact I
      · exact I.doAction (wf_rights (by omega) (by omega) (by omega) (by omega) (by omega) (by omega) (by omega) (by omega) (by omega)) rfl
  | takeover i j ex pay last a b p sub k =>
    show SInv (@ite (State × Ans) _ _ _ _).1
    split
    · exact I
    · rename_i h
      unfold isDay isSec isRate isPart at h
      simp only [ins_iff] at h
      split
      · exact I
      · split
        · exact I
        · exact I.doAction (wf_take (by omega) (by omega) (by omega) (by omega) (by omega) (by omega) (by omega) (by omega) (by omega) (by omega)) rfl
  | choose n k =>
    show SInv (@ite (State × Ans) _ _ _ _).1
    split
    · exact I
    · rename_i h
      rw [ins_iff] at h
      by_cases hn : 1 ≤ n ∧ n ≤ 1000000
      · rw [onAct I.nm hn.1 hn.2]
        cases e : s.actions[(n - 1).toNat]? with
        | none => exact I
        | some x =>
          dsimp only
          split
          · exact I
          · rename_i hk
            split
            · exact I
            · split
              · rename_i hs
                rw [choose_set I.nm e] at hs ⊢
                refine ⟨I.tw, fun y hy => ?_, I.pw, I.tl, ?_, I.pl, ?_, fun i y hy => ?_, I.pu, hs, I.td⟩
                · rcases List.mem_or_eq_of_mem_set hy with hy | hy
                  · exact I.aw y hy
                  · rw [hy]
                    exact (I.aw x (List.mem_of_getElem? e)).chosen (by omega) (by omega)
                · show (s.actions.set _ _).length ≤ 30
                  rw [List.length_set]; exact I.al
                · show s.next = (s.actions.set _ _).length + 1
                  rw [List.length_set]; exact I.nx
                · have hy' : (s.actions.set (n - 1).toNat { x with choice := k.toNat })[i]? = some y := hy
                  rw [List.getElem?_set] at hy'
                  split at hy'
                  · rename_i ei
                    split at hy'
                    · cases hy'
                      have := I.nm _ x e
                      show x.num = i + 1
                      omega
                    · cases hy'
                  · exact I.nm i y hy'
              · exact I
      · rw [onAct_out hn]; exact I
  | price d i p =>
    show SInv (@ite (State × Ans) _ _ _ _).1
    split
    · exact I
    · rename_i h
      unfold isDay isSec isRate at h
      simp only [ins_iff] at h
      split
      · exact I
      · rename_i hany
        split
        · exact I
        · rename_i c
          refine ⟨I.tw, I.aw, fun q hq => ?_, I.tl, I.al, ?_, I.nx, I.nm, ?_, Eq.trans (sound_congr (t := s) rfl rfl) I.so, I.td⟩
          · rcases List.mem_append.mp hq with hq | hq
            · exact I.pw q hq
            · rw [List.mem_singleton.mp hq]
              exact ⟨show d.toNat ≤ 100000 by omega, show 1 ≤ i.toNat ∧ i.toNat ≤ 12 by omega, show p.toNat ≤ 1000000000000 by omega⟩
          · show (s.prices ++ [_]).length ≤ 200
            have : ¬ 200 ≤ s.prices.length := c
            simp; omega
          · show (s.prices ++ [_]).Pairwise Apart
            rw [List.pairwise_append]
            refine ⟨I.pu, List.pairwise_singleton _ _, fun q hq z hz => ?_⟩
            rw [List.mem_singleton.mp hz]
            rintro ⟨e1, e2⟩
            apply hany
            rw [List.any_eq_true]
            refine ⟨q, hq, ?_⟩
            have e1' : q.day = d.toNat := e1
            have e2' : q.sec = i.toNat := e2
            simp
            omega
  | position d i => show SInv (@ite (State × Ans) _ _ _ _).1; split <;> exact I
  | positions d => show SInv (@ite (State × Ans) _ _ _ _).1; split <;> exact I
  | cash d => show SInv (@ite (State × Ans) _ _ _ _).1; split <;> exact I
  | due d => show SInv (@ite (State × Ans) _ _ _ _).1; split <;> exact I
  | value d => show SInv (@ite (State × Ans) _ _ _ _).1; split <;> exact I
  | entitled n =>
    show SInv (onAction _ _ _).1
    unfold onAction
    split
    · exact I
    · split <;> exact I
  | action n =>
    show SInv (onAction _ _ _).1
    unfold onAction
    split
    · exact I
    · split <;> exact I
  | counts => exact I
end Hd
namespace Hd
open Vbfuah
theorem whole_id (c : List (List Int)) : PyVbfuah.whole c = c := by
  rcases c with _ | ⟨_ | ⟨a, r⟩, t⟩
  · rfl
  · rfl
  by_cases h0 : a = 0
  · subst h0; rcases r with _ | ⟨_, _⟩ <;> first | rfl | (rcases t with _ | ⟨_, _⟩ <;> rfl)
  by_cases h1 : a = 1
  · subst h1; rcases r with _ | ⟨_, _ | ⟨_, _⟩⟩ <;> first | rfl | (rcases t with _ | ⟨_, _⟩ <;> rfl)
  by_cases h2 : a = 2
  · subst h2; rcases r with _ | ⟨_, _ | ⟨_, _ | ⟨_, _ | ⟨_, _ | ⟨_, _⟩⟩⟩⟩⟩ <;> first | rfl | (rcases t with _ | ⟨_, _⟩ <;> rfl)
  by_cases h3 : a = 3
  · subst h3; rcases r with _ | ⟨_, _ | ⟨_, _ | ⟨_, _ | ⟨_, _ | ⟨_, _⟩⟩⟩⟩⟩ <;> first | rfl | (rcases t with _ | ⟨_, _⟩ <;> rfl)
  by_cases h4 : a = 4
  · subst h4; rcases r with _ | ⟨_, _ | ⟨_, _ | ⟨_, _ | ⟨_, _ | ⟨_, _ | ⟨_, _ | ⟨_, _⟩⟩⟩⟩⟩⟩⟩ <;> first | rfl | (rcases t with _ | ⟨_, _⟩ <;> rfl)
  by_cases h5 : a = 5
  · subst h5; rcases r with _ | ⟨_, _ | ⟨_, _ | ⟨_, _ | ⟨_, _ | ⟨_, _ | ⟨_, _ | ⟨_, _ | ⟨_, _⟩⟩⟩⟩⟩⟩⟩⟩ <;> first | rfl | (rcases t with _ | ⟨_, _⟩ <;> rfl)
  by_cases h6 : a = 6
  · subst h6; rcases r with _ | ⟨_, _ | ⟨_, _ | ⟨_, _ | ⟨_, _ | ⟨_, _ | ⟨_, _ | ⟨_, _ | ⟨_, _ | ⟨_, _ | ⟨_, _⟩⟩⟩⟩⟩⟩⟩⟩⟩⟩ <;> first | rfl | (rcases t with _ | ⟨_, _⟩ <;> rfl)
  by_cases h7 : a = 7
  · subst h7; rcases r with _ | ⟨_, _ | ⟨_, _ | ⟨_, _ | ⟨_, _ | ⟨_, _ | ⟨_, _ | ⟨_, _ | ⟨_, _ | ⟨_, _ | ⟨_, _ | ⟨_, _⟩⟩⟩⟩⟩⟩⟩⟩⟩⟩⟩ <;> first | rfl | (rcases t with _ | ⟨_, _⟩ <;> rfl)
  by_cases h8 : a = 8
  · subst h8; rcases r with _ | ⟨_, _ | ⟨_, _ | ⟨_, _⟩⟩⟩ <;> first | rfl | (rcases t with _ | ⟨_, _⟩ <;> rfl)
  by_cases h9 : a = 9
  · subst h9; rcases r with _ | ⟨_, _ | ⟨_, _ | ⟨_, _ | ⟨_, _⟩⟩⟩⟩ <;> first | rfl | (rcases t with _ | ⟨_, _⟩ <;> rfl)
  by_cases h10 : a = 10
  · subst h10; rcases r with _ | ⟨_, _ | ⟨_, _ | ⟨_, _⟩⟩⟩ <;> first | rfl | (rcases t with _ | ⟨_, _⟩ <;> rfl)
  by_cases h11 : a = 11
  · subst h11; rcases r with _ | ⟨_, _ | ⟨_, _⟩⟩ <;> first | rfl | (rcases t with _ | ⟨_, _⟩ <;> rfl)
  by_cases h12 : a = 12
  · subst h12; rcases r with _ | ⟨_, _ | ⟨_, _⟩⟩ <;> first | rfl | (rcases t with _ | ⟨_, _⟩ <;> rfl)
  by_cases h13 : a = 13
  · subst h13; rcases r with _ | ⟨_, _ | ⟨_, _⟩⟩ <;> first | rfl | (rcases t with _ | ⟨_, _⟩ <;> rfl)
  by_cases h14 : a = 14
  · subst h14; rcases r with _ | ⟨_, _ | ⟨_, _⟩⟩ <;> first | rfl | (rcases t with _ | ⟨_, _⟩ <;> rfl)
  by_cases h15 : a = 15
  · subst h15; rcases r with _ | ⟨_, _ | ⟨_, _⟩⟩ <;> first | rfl | (rcases t with _ | ⟨_, _⟩ <;> rfl)
  by_cases h16 : a = 16
  · subst h16; rcases r with _ | ⟨_, _ | ⟨_, _⟩⟩ <;> first | rfl | (rcases t with _ | ⟨_, _⟩ <;> rfl)
  by_cases h17 : a = 17
  · subst h17; rcases r with _ | ⟨_, _⟩ <;> first | rfl | (rcases t with _ | ⟨_, _⟩ <;> rfl)
  delta PyVbfuah.whole PyVbfuah.whole.match_1
  refine (dif_neg h0).trans ?_
  refine (dif_neg h1).trans ?_
  refine (dif_neg h2).trans ?_
  refine (dif_neg h3).trans ?_
  refine (dif_neg h4).trans ?_
  refine (dif_neg h5).trans ?_
  refine (dif_neg h6).trans ?_
  refine (dif_neg h7).trans ?_
  refine (dif_neg h8).trans ?_
  refine (dif_neg h9).trans ?_
  refine (dif_neg h10).trans ?_
  refine (dif_neg h11).trans ?_
  refine (dif_neg h12).trans ?_
  refine (dif_neg h13).trans ?_
  refine (dif_neg h14).trans ?_
  refine (dif_neg h15).trans ?_
  refine (dif_neg h16).trans ?_
  refine (dif_neg h17).trans ?_
  rfl
def argc : List Nat := [0, 1, 4, 4, 6, 7, 9, 10, 2, 3, 2, 1, 1, 1, 1, 1, 1, 0]
theorem shape_in {p : Int} {n k : Nat} (h : PyVbfuah.shape p = some (n, k)) : k = 0 ∧ ∃ c : Nat, p = (c : Int) ∧ argc[c]? = some n := by
  unfold PyVbfuah.shape at h
  by_cases c : p = 0; (rw [if_pos c] at h; cases h; exact ⟨rfl, 0, c, rfl⟩); rw [if_neg c] at h; clear c
  by_cases c : p = 1; (rw [if_pos c] at h; cases h; exact ⟨rfl, 1, c, rfl⟩); rw [if_neg c] at h; clear c
  by_cases c : p = 2; (rw [if_pos c] at h; cases h; exact ⟨rfl, 2, c, rfl⟩); rw [if_neg c] at h; clear c
  by_cases c : p = 3; (rw [if_pos c] at h; cases h; exact ⟨rfl, 3, c, rfl⟩); rw [if_neg c] at h; clear c
  by_cases c : p = 4; (rw [if_pos c] at h; cases h; exact ⟨rfl, 4, c, rfl⟩); rw [if_neg c] at h; clear c
  by_cases c : p = 5; (rw [if_pos c] at h; cases h; exact ⟨rfl, 5, c, rfl⟩); rw [if_neg c] at h; clear c
  by_cases c : p = 6; (rw [if_pos c] at h; cases h; exact ⟨rfl, 6, c, rfl⟩); rw [if_neg c] at h; clear c
  by_cases c : p = 7; (rw [if_pos c] at h; cases h; exact ⟨rfl, 7, c, rfl⟩); rw [if_neg c] at h; clear c
  by_cases c : p = 8; (rw [if_pos c] at h; cases h; exact ⟨rfl, 8, c, rfl⟩); rw [if_neg c] at h; clear c
  by_cases c : p = 9; (rw [if_pos c] at h; cases h; exact ⟨rfl, 9, c, rfl⟩); rw [if_neg c] at h; clear c
  by_cases c : p = 10; (rw [if_pos c] at h; cases h; exact ⟨rfl, 10, c, rfl⟩); rw [if_neg c] at h; clear c
  by_cases c : p = 11; (rw [if_pos c] at h; cases h; exact ⟨rfl, 11, c, rfl⟩); rw [if_neg c] at h; clear c
  by_cases c : p = 12; (rw [if_pos c] at h; cases h; exact ⟨rfl, 12, c, rfl⟩); rw [if_neg c] at h; clear c
  by_cases c : p = 13; (rw [if_pos c] at h; cases h; exact ⟨rfl, 13, c, rfl⟩); rw [if_neg c] at h; clear c
  by_cases c : p = 14; (rw [if_pos c] at h; cases h; exact ⟨rfl, 14, c, rfl⟩); rw [if_neg c] at h; clear c
  by_cases c : p = 15; (rw [if_pos c] at h; cases h; exact ⟨rfl, 15, c, rfl⟩); rw [if_neg c] at h; clear c
  by_cases c : p = 16; (rw [if_pos c] at h; cases h; exact ⟨rfl, 16, c, rfl⟩); rw [if_neg c] at h; clear c
  by_cases c : p = 17; (rw [if_pos c] at h; cases h; exact ⟨rfl, 17, c, rfl⟩); rw [if_neg c] at h; clear c
  cases h
theorem shape_rows {p : Int} {n k : Nat} (h : PyVbfuah.shape p = some (n, k)) : k = 0 := (shape_in h).1
theorem calls_step {f : Nat} {p : Int} {r : List Int} {cs : List (List (List Int))} (h : PyFlat.calls PyVbfuah.shape f (p :: r) = some cs) :
    ∃ (f' n : Nat) (cs' : List (List (List Int))), PyVbfuah.shape p = some (n, 0) ∧ n ≤ r.length ∧ PyFlat.calls PyVbfuah.shape f' (r.drop n) = some cs' ∧ cs = [p :: r.take n] :: cs' := by
  cases f with
  | zero => cases h
  | succ f =>
    have h' : (match PyFlat.call PyVbfuah.shape (p :: r) with
      | none => none
      | some (c, t) => match PyFlat.calls PyVbfuah.shape f t with
        | none => none
        | some cs => some (c :: cs)) = some cs := h
    cases e : PyVbfuah.shape p with
    | none =>
      have q : PyFlat.call PyVbfuah.shape (p :: r) = none := by
        show (match PyVbfuah.shape p with
          | none => none
          | some (n, k) => _) = none
        rw [e]
      rw [q] at h'
      cases h'
    | some nk =>
      obtain ⟨n, k⟩ := nk
      have hk := shape_rows e
      subst hk
      have q : PyFlat.call PyVbfuah.shape (p :: r) = if r.length < n then none else some ([p :: r.take n], r.drop n) := by
        show (match PyVbfuah.shape p with
          | none => none
          | some (n, k) => if r.length < n then none else match PyFlat.rows k (r.drop n) with
            | none => none
            | some (xs, t) => some ((p :: r.take n) :: xs, t)) = _
        rw [e]
        rfl
      rw [q] at h'
      by_cases c : r.length < n
      · rw [if_pos c] at h'
        cases h'
      · rw [if_neg c] at h'
        dsimp only at h'
        cases e2 : PyFlat.calls PyVbfuah.shape f (r.drop n) with
        | none => rw [e2] at h'; cases h'
        | some cs' =>
          rw [e2] at h'
          dsimp only at h'
          exact ⟨f, n, cs', rfl, by omega, e2, (Option.some.inj h').symm⟩
theorem calls_nil {f : Nat} {cs : List (List (List Int))} (h : PyFlat.calls PyVbfuah.shape f [] = some cs) : cs = [] := by
  cases f <;> (cases h; rfl)
abbrev St1 := Vbfuah.State
def stp (s : St1) (c : List (List Int)) : St1 × List Int := VbfuahNeutral.step s c
def play : St1 → List (List (List Int)) → List Int
  | _, [] => []
  | s, c :: r => (((stp s c).2.length : Nat) : Int) :: (stp s c).2 ++ play (stp s c).1 r
theorem play_is : ∀ (s : St1) (cs : List (List (List Int))), PyFlat.told (PyFlat.played VbfuahNeutral.step s cs) = play s cs
  | _, [] => rfl
  | s, c :: r => by
    show PyFlat.told ((VbfuahNeutral.step s c).2 :: PyFlat.played VbfuahNeutral.step (VbfuahNeutral.step s c).1 r) = _
    unfold PyFlat.told
    rw [List.flatMap_cons]
    have ih := play_is (VbfuahNeutral.step s c).1 r
    unfold PyFlat.told at ih
    rw [ih]
    rfl
theorem SInv.stp {s : St1} (I : SInv s) (c : List (List Int)) : SInv (stp s c).1 := by
  unfold Hd.stp VbfuahNeutral.step
  split
  · exact I
  · exact I.step _
theorem answers_is {l : List Int} {cs : List (List (List Int))} (h : PyFlat.calls PyVbfuah.shape l.length l = some cs) : PyVbfuah.answers l = play Vbfuah.start cs := by
  unfold PyVbfuah.answers PyVbfuah.calls
  rw [h]
  dsimp only
  rw [show cs.map PyVbfuah.whole = cs from (List.map_congr_left fun c _ => whole_id c).trans (List.map_id _)]
  exact play_is _ _
theorem asked_is {l : List Int} (h : PyVbfuah.answers_asked l = true) : ∃ cs, PyFlat.calls PyVbfuah.shape l.length l = some cs ∧ cs.length ≤ 400 := by
  unfold PyVbfuah.answers_asked PyVbfuah.calls at h
  cases e : PyFlat.calls PyVbfuah.shape l.length l with
  | none => rw [e] at h; cases h
  | some cs =>
    rw [e] at h
    dsimp only at h
    rw [Bool.and_eq_true] at h
    have := h.1
    unfold PyFlat.atMost at this
    rw [List.length_map] at this
    exact ⟨cs, rfl, of_decide_eq_true this⟩
theorem ans_len {s : St1} (I : SInv s) (c : List (List Int)) : (stp s c).2.length ≤ 20000 := by
  unfold stp VbfuahNeutral.step
  split
  · exact Nat.zero_le _
  · rename_i c' _
    have small : ∀ {t : State} {l : List Int}, l.length ≤ 12 → (yes t l).2.length ≤ 20000 := fun h => Nat.le_trans h (by decide)
    have nos : ∀ {t : State} {n : Nat}, (no t n).2.length ≤ 20000 := fun {t n} => by show 1 ≤ 20000; decide
    have act : ∀ {x : Action}, (doAction s x).2.length ≤ 20000 := fun {x} => by
      unfold doAction
      split
      · exact nos
      · split
        · exact nos
        · split
          · exact nos
          · dsimp only
            split
            · exact small (by show 1 ≤ 12; decide)
            · exact nos
    cases c' with
    | begin => exact small (by show 1 ≤ 12; decide)
    | today d => show (@ite (State × Ans) _ _ _ _).2.length ≤ _; split; exact nos; exact small (by show 1 ≤ 12; decide)
    | trade d i q m =>
      show (doTrade s d i q m).2.length ≤ _
      unfold doTrade
      split
      · exact nos
      · split
        · exact nos
        · split
          · exact nos
          · dsimp only
            split
            · exact small (by show 1 ≤ 12; decide)
            · exact nos
    | dividend i ex pay r => show (@ite (State × Ans) _ _ _ _).2.length ≤ _; split; exact nos; exact act
    | split i ex pay a b p => show (@ite (State × Ans) _ _ _ _).2.length ≤ _; split; exact nos; exact act
    | spinoff i j ex pay a b p => show (@ite (State × Ans) _ _ _ _).2.length ≤ _; split; exact nos; split; exact nos; exact act
    | rights i ex pay last a b p sub k => show (@ite (State × Ans) _ _ _ _).2.length ≤ _; split; exact nos; split; exact nos; exact act
    | takeover i j ex pay last a b p sub k => show (@ite (State × Ans) _ _ _ _).2.length ≤ _; split; exact nos; split; exact nos; split; exact nos; exact act
    | choose n k =>
      show (@ite (State × Ans) _ _ _ _).2.length ≤ _
      split
      · exact nos
      · unfold onAction
        split
        · exact nos
        · split
          · exact nos
          · dsimp only
            split
            · exact nos
            · split
              · exact nos
              · split
                · exact small (by show 1 ≤ 12; decide)
                · exact nos
    | price d i p => show (@ite (State × Ans) _ _ _ _).2.length ≤ _; split; exact nos; split; exact nos; split; exact nos; exact small (by show 1 ≤ 12; decide)
    | position d i => show (@ite (State × Ans) _ _ _ _).2.length ≤ _; split; exact nos; exact small (by show 1 ≤ 12; decide)
    | positions d =>
      show (@ite (State × Ans) _ _ _ _).2.length ≤ _
      split
      · exact nos
      · refine small ?_
        rw [← bookTo_at, (bookTo_ok I.aw _).len]
        decide
    | cash d => show (@ite (State × Ans) _ _ _ _).2.length ≤ _; split; exact nos; exact small (by show 2 ≤ 12; decide)
    | due d =>
      show (@ite (State × Ans) _ _ _ _).2.length ≤ _
      split
      · exact nos
      · show ((_ :: (bookAt s d.toNat).due.flatMap dueRow : List Int)).length ≤ _
        rw [← bookTo_at, List.length_cons]
        have h1 := bookTo_due s (d.toNat : Int)
        have h2 : ∀ l : List Due, (l.flatMap dueRow).length = 4 * l.length := fun l => by
          induction l with
          | nil => rfl
          | cons x l ih =>
            rw [List.flatMap_cons, List.length_append, ih, List.length_cons]
            show 4 + _ = _
            omega
        rw [h2]
        have h3 : s.actions.length * (s.trades.length + (s.actions.length + s.actions.length)) ≤ 30 * 160 := Nat.mul_le_mul I.al (by have := I.tl; have := I.al; omega)
        omega
    | value d => show (@ite (State × Ans) _ _ _ _).2.length ≤ _; split; exact nos; exact small (by show 2 ≤ 12; decide)
    | entitled n =>
      show (onAction _ _ _).2.length ≤ _
      unfold onAction
      split
      · exact nos
      · split
        · exact nos
        · exact small (by show 7 ≤ 12; decide)
    | action n =>
      show (onAction _ _ _).2.length ≤ _
      unfold onAction
      split
      · exact nos
      · split
        · exact nos
        · exact small (by show 11 ≤ 12; decide)
    | counts => exact small (by show 4 ≤ 12; decide)
end Hd
namespace Hd
open Vbfuah
def rg : List (List (Int × Int)) := [[], [(0, 100000)], [(0, 100000), (1, 12), (-1000000000, 1000000000), (0, 1000000000000)], [(1, 12), (0, 100000), (0, 100000), (0, 1000000000000)], [(1, 12), (0, 100000), (0, 100000), (1, 1000), (1, 1000), (0, 1000000000000)], [(1, 12), (1, 12), (0, 100000), (0, 100000), (1, 1000), (1, 1000), (0, 1000000000000)], [(1, 12), (0, 100000), (0, 100000), (0, 100000), (1, 1000), (1, 1000), (0, 1000000000000), (0, 1000000000000), (0, 1000000000000)], [(1, 12), (1, 12), (0, 100000), (0, 100000), (0, 100000), (1, 1000), (1, 1000), (0, 1000000000000), (0, 1000000000000), (0, 1000000000000)], [(1, 1000000), (0, 1000000000000)], [(0, 100000), (1, 12), (0, 1000000000000)], [(0, 100000), (1, 12)], [(0, 100000)], [(0, 100000)], [(0, 100000)], [(0, 100000)], [(1, 1000000)], [(1, 1000000)], []]
def inAll (R : List (Int × Int)) (xs : List Int) : Bool := (R.zip xs).all fun (r : (Int × Int) × Int) => decide (r.1.1 ≤ r.2) && decide (r.2 ≤ r.1.2)
theorem in_today {d : Int} : inAll [(0, 100000)] [d] = true ↔ (0 ≤ d ∧ d ≤ 100000) := by
  show ((decide ((0 : Int) ≤ d) && decide (d ≤ 100000)) && true) = true ↔ _
  simp only [Bool.and_eq_true, decide_eq_true_eq, and_true]
theorem in_trade {d i q m : Int} : inAll [(0, 100000), (1, 12), (-1000000000, 1000000000), (0, 1000000000000)] [d, i, q, m] = true ↔ (0 ≤ d ∧ d ≤ 100000) ∧ (1 ≤ i ∧ i ≤ 12) ∧ (-1000000000 ≤ q ∧ q ≤ 1000000000) ∧ (0 ≤ m ∧ m ≤ 1000000000000) := by
  show ((decide ((0 : Int) ≤ d) && decide (d ≤ 100000)) && ((decide ((1 : Int) ≤ i) && decide (i ≤ 12)) && ((decide ((-1000000000 : Int) ≤ q) && decide (q ≤ 1000000000)) && ((decide ((0 : Int) ≤ m) && decide (m ≤ 1000000000000)) && true)))) = true ↔ _
  simp only [Bool.and_eq_true, decide_eq_true_eq, and_true]
theorem in_dividend {i e p r : Int} : inAll [(1, 12), (0, 100000), (0, 100000), (0, 1000000000000)] [i, e, p, r] = true ↔ (1 ≤ i ∧ i ≤ 12) ∧ (0 ≤ e ∧ e ≤ 100000) ∧ (0 ≤ p ∧ p ≤ 100000) ∧ (0 ≤ r ∧ r ≤ 1000000000000) := by
  show ((decide ((1 : Int) ≤ i) && decide (i ≤ 12)) && ((decide ((0 : Int) ≤ e) && decide (e ≤ 100000)) && ((decide ((0 : Int) ≤ p) && decide (p ≤ 100000)) && ((decide ((0 : Int) ≤ r) && decide (r ≤ 1000000000000)) && true)))) = true ↔ _
  simp only [Bool.and_eq_true, decide_eq_true_eq, and_true]
theorem in_split {i e p a b c : Int} : inAll [(1, 12), (0, 100000), (0, 100000), (1, 1000), (1, 1000), (0, 1000000000000)] [i, e, p, a, b, c] = true ↔ (1 ≤ i ∧ i ≤ 12) ∧ (0 ≤ e ∧ e ≤ 100000) ∧ (0 ≤ p ∧ p ≤ 100000) ∧ (1 ≤ a ∧ a ≤ 1000) ∧ (1 ≤ b ∧ b ≤ 1000) ∧ (0 ≤ c ∧ c ≤ 1000000000000) := by
  show ((decide ((1 : Int) ≤ i) && decide (i ≤ 12)) && ((decide ((0 : Int) ≤ e) && decide (e ≤ 100000)) && ((decide ((0 : Int) ≤ p) && decide (p ≤ 100000)) && ((decide ((1 : Int) ≤ a) && decide (a ≤ 1000)) && ((decide ((1 : Int) ≤ b) && decide (b ≤ 1000)) && ((decide ((0 : Int) ≤ c) && decide (c ≤ 1000000000000)) && true)))))) = true ↔ _
  simp only [Bool.and_eq_true, decide_eq_true_eq, and_true]
theorem in_spinoff {i j e p a b c : Int} : inAll [(1, 12), (1, 12), (0, 100000), (0, 100000), (1, 1000), (1, 1000), (0, 1000000000000)] [i, j, e, p, a, b, c] = true ↔ (1 ≤ i ∧ i ≤ 12) ∧ (1 ≤ j ∧ j ≤ 12) ∧ (0 ≤ e ∧ e ≤ 100000) ∧ (0 ≤ p ∧ p ≤ 100000) ∧ (1 ≤ a ∧ a ≤ 1000) ∧ (1 ≤ b ∧ b ≤ 1000) ∧ (0 ≤ c ∧ c ≤ 1000000000000) := by
  show ((decide ((1 : Int) ≤ i) && decide (i ≤ 12)) && ((decide ((1 : Int) ≤ j) && decide (j ≤ 12)) && ((decide ((0 : Int) ≤ e) && decide (e ≤ 100000)) && ((decide ((0 : Int) ≤ p) && decide (p ≤ 100000)) && ((decide ((1 : Int) ≤ a) && decide (a ≤ 1000)) && ((decide ((1 : Int) ≤ b) && decide (b ≤ 1000)) && ((decide ((0 : Int) ≤ c) && decide (c ≤ 1000000000000)) && true))))))) = true ↔ _
  simp only [Bool.and_eq_true, decide_eq_true_eq, and_true]
theorem in_rights {i e p l a b c u k : Int} : inAll [(1, 12), (0, 100000), (0, 100000), (0, 100000), (1, 1000), (1, 1000), (0, 1000000000000), (0, 1000000000000), (0, 1000000000000)] [i, e, p, l, a, b, c, u, k] = true ↔ (1 ≤ i ∧ i ≤ 12) ∧ (0 ≤ e ∧ e ≤ 100000) ∧ (0 ≤ p ∧ p ≤ 100000) ∧ (0 ≤ l ∧ l ≤ 100000) ∧ (1 ≤ a ∧ a ≤ 1000) ∧ (1 ≤ b ∧ b ≤ 1000) ∧ (0 ≤ c ∧ c ≤ 1000000000000) ∧ (0 ≤ u ∧ u ≤ 1000000000000) ∧ (0 ≤ k ∧ k ≤ 1000000000000) := by
  show ((decide ((1 : Int) ≤ i) && decide (i ≤ 12)) && ((decide ((0 : Int) ≤ e) && decide (e ≤ 100000)) && ((decide ((0 : Int) ≤ p) && decide (p ≤ 100000)) && ((decide ((0 : Int) ≤ l) && decide (l ≤ 100000)) && ((decide ((1 : Int) ≤ a) && decide (a ≤ 1000)) && ((decide ((1 : Int) ≤ b) && decide (b ≤ 1000)) && ((decide ((0 : Int) ≤ c) && decide (c ≤ 1000000000000)) && ((decide ((0 : Int) ≤ u) && decide (u ≤ 1000000000000)) && ((decide ((0 : Int) ≤ k) && decide (k ≤ 1000000000000)) && true))))))))) = true ↔ _
  simp only [Bool.and_eq_true, decide_eq_true_eq, and_true]
theorem in_takeover {i j e p l a b c u k : Int} : inAll [(1, 12), (1, 12), (0, 100000), (0, 100000), (0, 100000), (1, 1000), (1, 1000), (0, 1000000000000), (0, 1000000000000), (0, 1000000000000)] [i, j, e, p, l, a, b, c, u, k] = true ↔ (1 ≤ i ∧ i ≤ 12) ∧ (1 ≤ j ∧ j ≤ 12) ∧ (0 ≤ e ∧ e ≤ 100000) ∧ (0 ≤ p ∧ p ≤ 100000) ∧ (0 ≤ l ∧ l ≤ 100000) ∧ (1 ≤ a ∧ a ≤ 1000) ∧ (1 ≤ b ∧ b ≤ 1000) ∧ (0 ≤ c ∧ c ≤ 1000000000000) ∧ (0 ≤ u ∧ u ≤ 1000000000000) ∧ (0 ≤ k ∧ k ≤ 1000000000000) := by
  show ((decide ((1 : Int) ≤ i) && decide (i ≤ 12)) && ((decide ((1 : Int) ≤ j) && decide (j ≤ 12)) && ((decide ((0 : Int) ≤ e) && decide (e ≤ 100000)) && ((decide ((0 : Int) ≤ p) && decide (p ≤ 100000)) && ((decide ((0 : Int) ≤ l) && decide (l ≤ 100000)) && ((decide ((1 : Int) ≤ a) && decide (a ≤ 1000)) && ((decide ((1 : Int) ≤ b) && decide (b ≤ 1000)) && ((decide ((0 : Int) ≤ c) && decide (c ≤ 1000000000000)) && ((decide ((0 : Int) ≤ u) && decide (u ≤ 1000000000000)) && ((decide ((0 : Int) ≤ k) && decide (k ≤ 1000000000000)) && true)))))))))) = true ↔ _
  simp only [Bool.and_eq_true, decide_eq_true_eq, and_true]
theorem in_choose {n k : Int} : inAll [(1, 1000000), (0, 1000000000000)] [n, k] = true ↔ (1 ≤ n ∧ n ≤ 1000000) ∧ (0 ≤ k ∧ k ≤ 1000000000000) := by
  show ((decide ((1 : Int) ≤ n) && decide (n ≤ 1000000)) && ((decide ((0 : Int) ≤ k) && decide (k ≤ 1000000000000)) && true)) = true ↔ _
  simp only [Bool.and_eq_true, decide_eq_true_eq, and_true]
theorem in_price {d i p : Int} : inAll [(0, 100000), (1, 12), (0, 1000000000000)] [d, i, p] = true ↔ (0 ≤ d ∧ d ≤ 100000) ∧ (1 ≤ i ∧ i ≤ 12) ∧ (0 ≤ p ∧ p ≤ 1000000000000) := by
  show ((decide ((0 : Int) ≤ d) && decide (d ≤ 100000)) && ((decide ((1 : Int) ≤ i) && decide (i ≤ 12)) && ((decide ((0 : Int) ≤ p) && decide (p ≤ 1000000000000)) && true))) = true ↔ _
  simp only [Bool.and_eq_true, decide_eq_true_eq, and_true]
theorem in_position {d i : Int} : inAll [(0, 100000), (1, 12)] [d, i] = true ↔ (0 ≤ d ∧ d ≤ 100000) ∧ (1 ≤ i ∧ i ≤ 12) := by
  show ((decide ((0 : Int) ≤ d) && decide (d ≤ 100000)) && ((decide ((1 : Int) ≤ i) && decide (i ≤ 12)) && true)) = true ↔ _
  simp only [Bool.and_eq_true, decide_eq_true_eq, and_true]
theorem in_positions {d : Int} : inAll [(0, 100000)] [d] = true ↔ (0 ≤ d ∧ d ≤ 100000) := by
  show ((decide ((0 : Int) ≤ d) && decide (d ≤ 100000)) && true) = true ↔ _
  simp only [Bool.and_eq_true, decide_eq_true_eq, and_true]
theorem in_cash {d : Int} : inAll [(0, 100000)] [d] = true ↔ (0 ≤ d ∧ d ≤ 100000) := by
  show ((decide ((0 : Int) ≤ d) && decide (d ≤ 100000)) && true) = true ↔ _
  simp only [Bool.and_eq_true, decide_eq_true_eq, and_true]
theorem in_due {d : Int} : inAll [(0, 100000)] [d] = true ↔ (0 ≤ d ∧ d ≤ 100000) := by
  show ((decide ((0 : Int) ≤ d) && decide (d ≤ 100000)) && true) = true ↔ _
  simp only [Bool.and_eq_true, decide_eq_true_eq, and_true]
theorem in_value {d : Int} : inAll [(0, 100000)] [d] = true ↔ (0 ≤ d ∧ d ≤ 100000) := by
  show ((decide ((0 : Int) ≤ d) && decide (d ≤ 100000)) && true) = true ↔ _
  simp only [Bool.and_eq_true, decide_eq_true_eq, and_true]
theorem in_entitled {n : Int} : inAll [(1, 1000000)] [n] = true ↔ (1 ≤ n ∧ n ≤ 1000000) := by
  show ((decide ((1 : Int) ≤ n) && decide (n ≤ 1000000)) && true) = true ↔ _
  simp only [Bool.and_eq_true, decide_eq_true_eq, and_true]
theorem in_action {n : Int} : inAll [(1, 1000000)] [n] = true ↔ (1 ≤ n ∧ n ≤ 1000000) := by
  show ((decide ((1 : Int) ≤ n) && decide (n ≤ 1000000)) && true) = true ↔ _
  simp only [Bool.and_eq_true, decide_eq_true_eq, and_true]
theorem refuse {s : St1} : ∀ {c : Nat} {xs : List Int} {R : List (Int × Int)}, rg[c]? = some R → xs.length = R.length → inAll R xs = false → stp s [(c : Int) :: xs] = (s, [-1])
  | 0, xs, R, e, hl, h => by
    cases e
    have : inAll [] xs = true := rfl
    rw [this] at h
    cases h
  | 1, xs, R, e, hl, h => by
    cases e
    match xs, hl with
    | [d], _ =>
      have h' : ¬ _ := fun z => Bool.false_ne_true (h.symm.trans (in_today.mpr z))
      show (@ite (State × Ans) _ _ _ _) = _
      rw [if_pos]
      · rfl
      · rw [ins_iff]
        omega
  | 2, xs, R, e, hl, h => by
    cases e
    match xs, hl with
    | [d, i, q, m], _ =>
      have h' : ¬ _ := fun z => Bool.false_ne_true (h.symm.trans (in_trade.mpr z))
      show doTrade s d i q m = _
      unfold doTrade
      rw [if_pos]
      · rfl
      · unfold isDay isSec
        simp only [ins_iff]
        omega
  | 3, xs, R, e, hl, h => by
    cases e
    match xs, hl with
    | [i, e, p, r], _ =>
      have h' : ¬ _ := fun z => Bool.false_ne_true (h.symm.trans (in_dividend.mpr z))
      show (@ite (State × Ans) _ _ _ _) = _
      rw [if_pos]
      · rfl
      · unfold isSec isDay isRate
        simp only [ins_iff]
        omega
  | 4, xs, R, e, hl, h => by
    cases e
    match xs, hl with
    | [i, e, p, a, b, c], _ =>
      have h' : ¬ _ := fun z => Bool.false_ne_true (h.symm.trans (in_split.mpr z))
      show (@ite (State × Ans) _ _ _ _) = _
      rw [if_pos]
      · rfl
      · unfold isSec isDay isPart isRate
        simp only [ins_iff]
        omega
  | 5, xs, R, e, hl, h => by
    cases e
    match xs, hl with
    | [i, j, e, p, a, b, c], _ =>
      have h' : ¬ _ := fun z => Bool.false_ne_true (h.symm.trans (in_spinoff.mpr z))
      show (@ite (State × Ans) _ _ _ _) = _
      rw [if_pos]
      · rfl
      · unfold isSec isDay isPart isRate
        simp only [ins_iff]
        omega
  | 6, xs, R, e, hl, h => by
    cases e
    match xs, hl with
    | [i, e, p, l, a, b, c, u, k], _ =>
      have h' : ¬ _ := fun z => Bool.false_ne_true (h.symm.trans (in_rights.mpr z))
      show (@ite (State × Ans) _ _ _ _) = _
      rw [if_pos]
      · rfl
      · unfold isSec isDay isPart isRate
        simp only [ins_iff]
        omega
  | 7, xs, R, e, hl, h => by
    cases e
    match xs, hl with
    | [i, j, e, p, l, a, b, c, u, k], _ =>
      have h' : ¬ _ := fun z => Bool.false_ne_true (h.symm.trans (in_takeover.mpr z))
      show (@ite (State × Ans) _ _ _ _) = _
      rw [if_pos]
      · rfl
      · unfold isSec isDay isPart isRate
        simp only [ins_iff]
        omega
  | 8, xs, R, e, hl, h => by
    cases e
    match xs, hl with
    | [n, k], _ =>
      have h' : ¬ _ := fun z => Bool.false_ne_true (h.symm.trans (in_choose.mpr z))
      show (@ite (State × Ans) _ _ _ _) = _
      split
      · rfl
      · rename_i g
        rw [ins_iff] at g
        exact onAct_out (fun z => h' ⟨z, by omega⟩) _
  | 9, xs, R, e, hl, h => by
    cases e
    match xs, hl with
    | [d, i, p], _ =>
      have h' : ¬ _ := fun z => Bool.false_ne_true (h.symm.trans (in_price.mpr z))
      show (@ite (State × Ans) _ _ _ _) = _
      rw [if_pos]
      · rfl
      · unfold isDay isSec isRate
        simp only [ins_iff]
        omega
  | 10, xs, R, e, hl, h => by
    cases e
    match xs, hl with
    | [d, i], _ =>
      have h' : ¬ _ := fun z => Bool.false_ne_true (h.symm.trans (in_position.mpr z))
      show (@ite (State × Ans) _ _ _ _) = _
      rw [if_pos]
      · rfl
      · unfold isDay isSec
        simp only [ins_iff]
        omega
  | 11, xs, R, e, hl, h => by
    cases e
    match xs, hl with
    | [d], _ =>
      have h' : ¬ _ := fun z => Bool.false_ne_true (h.symm.trans (in_positions.mpr z))
      show (@ite (State × Ans) _ _ _ _) = _
      rw [if_pos]
      · rfl
      · unfold isDay
        simp only [ins_iff]
        omega
  | 12, xs, R, e, hl, h => by
    cases e
    match xs, hl with
    | [d], _ =>
      have h' : ¬ _ := fun z => Bool.false_ne_true (h.symm.trans (in_cash.mpr z))
      show (@ite (State × Ans) _ _ _ _) = _
      rw [if_pos]
      · rfl
      · unfold isDay
        simp only [ins_iff]
        omega
  | 13, xs, R, e, hl, h => by
    cases e
    match xs, hl with
    | [d], _ =>
      have h' : ¬ _ := fun z => Bool.false_ne_true (h.symm.trans (in_due.mpr z))
      show (@ite (State × Ans) _ _ _ _) = _
      rw [if_pos]
      · rfl
      · unfold isDay
        simp only [ins_iff]
        omega
  | 14, xs, R, e, hl, h => by
    cases e
    match xs, hl with
    | [d], _ =>
      have h' : ¬ _ := fun z => Bool.false_ne_true (h.symm.trans (in_value.mpr z))
      show (@ite (State × Ans) _ _ _ _) = _
      rw [if_pos]
      · rfl
      · unfold isDay
        simp only [ins_iff]
        omega
  | 15, xs, R, e, hl, h => by
    cases e
    match xs, hl with
    | [n], _ =>
      have h' : ¬ _ := fun z => Bool.false_ne_true (h.symm.trans (in_entitled.mpr z))
      exact onAct_out h' _
  | 16, xs, R, e, hl, h => by
    cases e
    match xs, hl with
    | [n], _ =>
      have h' : ¬ _ := fun z => Bool.false_ne_true (h.symm.trans (in_action.mpr z))
      exact onAct_out h' _
  | 17, xs, R, e, hl, h => by
    cases e
    have : inAll [] xs = true := rfl
    rw [this] at h
    cases h
  | _ + 18, xs, R, e, _, _ => by cases e
theorem st_today {s : St1} {d : Int} (h : inAll [(0, 100000)] [d] = true) : stp s [[1, d]] = if d < (s.today : Int) then no s 1 else yes { s with today := d.toNat } [0] := by
  rw [in_today] at h
  show (@ite (State × Ans) _ _ _ _) = _
  unfold inside
  by_cases c : d < (s.today : Int)
  · rw [if_pos c, if_pos]
    simp; omega
  · rw [if_neg c, if_neg]
    simp; omega
theorem st_trade {s : St1} {d i q m : Int} (h : inAll [(0, 100000), (1, 12), (-1000000000, 1000000000), (0, 1000000000000)] [d, i, q, m] = true) : stp s [[2, d, i, q, m]] = if q = 0 then no s 6 else if MOSTTRADES ≤ s.trades.length then no s 8 else if sound { s with trades := s.trades ++ [{ day := d.toNat, sec := i.toNat, qty := q, money := m.toNat }] } = true then yes { s with trades := s.trades ++ [{ day := d.toNat, sec := i.toNat, qty := q, money := m.toNat }] } [((s.trades ++ [{ day := d.toNat, sec := i.toNat, qty := q, money := m.toNat : Trade }]).length : Int)] else no s 7 := by
  rw [in_trade] at h
  show doTrade s d i q m = _
  unfold doTrade
  rw [if_neg]
  all_goals first | rfl | (unfold isDay isSec; simp only [ins_iff]; omega)
theorem st_dividend {s : St1} {i e p r : Int} (h : inAll [(1, 12), (0, 100000), (0, 100000), (0, 1000000000000)] [i, e, p, r] = true) : stp s [[3, i, e, p, r]] = doAction s (newAction s 1 i 0 e p 0 1 1 r 0 0) := by
  rw [in_dividend] at h
  show (@ite (State × Ans) _ _ _ _) = _
  rw [if_neg]
  all_goals first | rfl | (unfold isSec isDay isRate; simp only [ins_iff]; omega)
theorem st_split {s : St1} {i e p a b c : Int} (h : inAll [(1, 12), (0, 100000), (0, 100000), (1, 1000), (1, 1000), (0, 1000000000000)] [i, e, p, a, b, c] = true) : stp s [[4, i, e, p, a, b, c]] = doAction s (newAction s 2 i 0 e p 0 a b c 0 0) := by
  rw [in_split] at h
  show (@ite (State × Ans) _ _ _ _) = _
  rw [if_neg]
  all_goals first | rfl | (unfold isSec isDay isPart isRate; simp only [ins_iff]; omega)
theorem st_spinoff {s : St1} {i j e p a b c : Int} (h : inAll [(1, 12), (1, 12), (0, 100000), (0, 100000), (1, 1000), (1, 1000), (0, 1000000000000)] [i, j, e, p, a, b, c] = true) : stp s [[5, i, j, e, p, a, b, c]] = if i = j then no s 6 else doAction s (newAction s 3 i j e p 0 a b c 0 0) := by
  rw [in_spinoff] at h
  show (@ite (State × Ans) _ _ _ _) = _
  rw [if_neg]
  all_goals first | rfl | (unfold isSec isDay isPart isRate; simp only [ins_iff]; omega)
theorem st_rights {s : St1} {i e p l a b c u k : Int} (h : inAll [(1, 12), (0, 100000), (0, 100000), (0, 100000), (1, 1000), (1, 1000), (0, 1000000000000), (0, 1000000000000), (0, 1000000000000)] [i, e, p, l, a, b, c, u, k] = true) : stp s [[6, i, e, p, l, a, b, c, u, k]] = if p < l then no s 3 else doAction s (newAction s 4 i 0 e p l a b c u k) := by
  rw [in_rights] at h
  show (@ite (State × Ans) _ _ _ _) = _
  rw [if_neg]
  all_goals first | rfl | (unfold isSec isDay isPart isRate; simp only [ins_iff]; omega)
theorem st_takeover {s : St1} {i j e p l a b c u k : Int} (h : inAll [(1, 12), (1, 12), (0, 100000), (0, 100000), (0, 100000), (1, 1000), (1, 1000), (0, 1000000000000), (0, 1000000000000), (0, 1000000000000)] [i, j, e, p, l, a, b, c, u, k] = true) : stp s [[7, i, j, e, p, l, a, b, c, u, k]] = if i = j then no s 6 else if p < l then no s 3 else doAction s (newAction s 5 i j e p l a b c u k) := by
  rw [in_takeover] at h
  show (@ite (State × Ans) _ _ _ _) = _
  rw [if_neg]
  all_goals first | rfl | (unfold isSec isDay isPart isRate; simp only [ins_iff]; omega)
theorem st_price {s : St1} {d i p : Int} (h : inAll [(0, 100000), (1, 12), (0, 1000000000000)] [d, i, p] = true) : stp s [[9, d, i, p]] = if (s.prices.any fun x => (x.day : Int) == d && (x.sec : Int) == i) = true then no s 5 else if MOSTPRICES ≤ s.prices.length then no s 8 else yes { s with prices := s.prices ++ [{ day := d.toNat, sec := i.toNat, price := p.toNat }] } [0] := by
  rw [in_price] at h
  show (@ite (State × Ans) _ _ _ _) = _
  rw [if_neg]
  all_goals first | rfl | (unfold isDay isSec isRate; simp only [ins_iff]; omega)
theorem st_position {s : St1} {d i : Int} (h : inAll [(0, 100000), (1, 12)] [d, i] = true) : stp s [[10, d, i]] = yes s [at_ (bookAt s d.toNat).pos i.toNat] := by
  rw [in_position] at h
  show (@ite (State × Ans) _ _ _ _) = _
  rw [if_neg]
  all_goals first | rfl | (unfold isDay isSec; simp only [ins_iff]; omega)
theorem st_positions {s : St1} {d : Int} (h : inAll [(0, 100000)] [d] = true) : stp s [[11, d]] = yes s (bookAt s d.toNat).pos := by
  rw [in_positions] at h
  show (@ite (State × Ans) _ _ _ _) = _
  rw [if_neg]
  all_goals first | rfl | (unfold isDay; simp only [ins_iff]; omega)
theorem st_cash {s : St1} {d : Int} (h : inAll [(0, 100000)] [d] = true) : stp s [[12, d]] = yes s [0, (bookAt s d.toNat).cash] := by
  rw [in_cash] at h
  show (@ite (State × Ans) _ _ _ _) = _
  rw [if_neg]
  all_goals first | rfl | (unfold isDay; simp only [ins_iff]; omega)
theorem st_due {s : St1} {d : Int} (h : inAll [(0, 100000)] [d] = true) : stp s [[13, d]] = yes s (((bookAt s d.toNat).due.length : Int) :: (bookAt s d.toNat).due.flatMap dueRow) := by
  rw [in_due] at h
  show (@ite (State × Ans) _ _ _ _) = _
  rw [if_neg]
  all_goals first | rfl | (unfold isDay; simp only [ins_iff]; omega)
theorem st_value {s : St1} {d : Int} (h : inAll [(0, 100000)] [d] = true) : stp s [[14, d]] = yes s [0, valueAt s d.toNat] := by
  rw [in_value] at h
  show (@ite (State × Ans) _ _ _ _) = _
  rw [if_neg]
  all_goals first | rfl | (unfold isDay; simp only [ins_iff]; omega)
theorem st_choose {s : St1} (I : SInv s) {n k : Int} (h : inAll [(1, 1000000), (0, 1000000000000)] [n, k] = true) : stp s [[8, n, k]] = match s.actions[(n - 1).toNat]? with
    | none => no s 4
    | some x => if x.kind < 4 then no s 6 else if x.last < s.today then no s 9 else
      if sound { s with actions := s.actions.set (n - 1).toNat { x with choice := k.toNat } } = true then yes { s with actions := s.actions.set (n - 1).toNat { x with choice := k.toNat } } [(x.choice : Int)] else no s 7 := by
  rw [in_choose] at h
  show (@ite (State × Ans) _ _ _ _) = _
  rw [if_neg (by rw [ins_iff]; omega), onAct I.nm h.1.1 h.1.2]
  cases e : s.actions[(n - 1).toNat]? with
  | none => rfl
  | some x =>
    dsimp only
    rw [choose_set I.nm e]
theorem st_entitled {s : St1} (I : SInv s) {n : Int} (h : inAll [(1, 1000000)] [n] = true) : stp s [[15, n]] = match s.actions[(n - 1).toNat]? with
    | none => no s 4
    | some x => yes s ([(((at_ (bookBefore s x.ex).pos x.sec).toNat : Nat) : Int), (effect x (at_ (bookBefore s x.ex).pos x.sec).toNat).own, ((effect x (at_ (bookBefore s x.ex).pos x.sec).toNat).other : Int)] ++ dueRow (effect x (at_ (bookBefore s x.ex).pos x.sec).toNat).due) := by
  rw [in_entitled] at h
  show onAction _ _ _ = _
  rw [onAct I.nm h.1 h.2]
  all_goals rfl
theorem st_action {s : St1} (I : SInv s) {n : Int} (h : inAll [(1, 1000000)] [n] = true) : stp s [[16, n]] = match s.actions[(n - 1).toNat]? with
    | none => no s 4
    | some x => yes s [(x.kind : Int), (x.sec : Int), (x.dest : Int), (x.ex : Int), (x.pay : Int), (x.last : Int), (x.a : Int), (x.b : Int), (x.price : Int), (x.sub : Int), (x.choice : Int)] := by
  rw [in_action] at h
  show onAction _ _ _ = _
  rw [onAct I.nm h.1 h.2]
  all_goals rfl
end Hd
namespace L2
open PySem PySem.Spec PyProof.Rows
def Rv (t : TE) (σ : St) (H : Hp) (v : V) : Prop := ∀ Q : VK, Q v H → t σ H Q
def Rt (t : TT) (σ : St) (H : Hp) (b : Bool) : Prop := ∀ Q : Bool → Hp → Prop, Q b H → t σ H Q
def Ra (t : TA) (σ : St) (H : Hp) (vs : List V) : Prop := ∀ Q : List V → Hp → Prop, Q vs H → t σ H Q
section
variable {K : PySem.W.Frag} {σ : St} {H : Hp} {ta tb tc : TE} {t : TA} {x y v : V} {i j : Int}
theorem rv {n : Nat} (h : σ[n]? = some (some v) := by rfl) : Rv (tVar n) σ H v := fun _ q => ⟨v, h, q⟩
theorem rc : Rv (tC v) σ H v := fun _ q => q
theorem rf {f : Str} {a C dx : Addr} {fs : List (Str × V)} (r : Rv ta σ H (.ref a)) (h : H a = some (.ins C dx fs)) (c : Cls K C) (n : NoAttr K C f) (l : fs.lookup f = some v) : Rv (tFld K ta f) σ H v :=
  fun Q q => r _ ⟨a, C, dx, fs, v, rfl, h, c, n, l, q⟩
theorem r0 {g : Int → Int → V} (a : Rv ta σ H (.int i)) (b : Rv tb σ H (.int j)) : Rv (tOp (rI0 g) ta tb) σ H (g i j) := fun Q q => a _ (b _ ⟨i, j, rfl, rfl, q⟩)
theorem r1 {C : Int → Int → Prop} {g : Int → Int → V} (a : Rv ta σ H (.int i)) (b : Rv tb σ H (.int j)) (c : C i j) : Rv (tOp (rI C g) ta tb) σ H (g i j) := fun Q q => a _ (b _ ⟨i, j, rfl, rfl, c, q⟩)
theorem rn (a : Rv ta σ H (.int i)) : Rv (tUn (rU fun i => .int (-i)) ta) σ H (.int (-i)) := fun Q q => a _ ⟨i, rfl, q⟩
theorem req (a : Rv ta σ H (.int i)) (b : Rv tb σ H (.int j)) : Rv (tOp rEq ta tb) σ H (.bl (decide (i = j))) := fun Q q => a _ (b _ ⟨rfl, by
  rw [show decide (V.int i = V.int j) = decide (i = j) from decide_eq_decide.mpr ⟨fun e => V.int.inj e, fun e => congrArg _ e⟩]
  exact q⟩)
theorem rch {g g' : Int → Int → Bool} {k : Int} (a : Rv ta σ H (.int i)) (b : Rv tb σ H (.int j)) (c : Rv tc σ H (.int k)) : Rv (tChain (rI0 fun i j => .bl (g i j)) (rI0 fun i j => .bl (g' i j)) ta tb tc) σ H (.bl (g i j && g' j k)) := fun Q q => a _ (b _ ⟨i, j, rfl, rfl, _, rfl, by
  cases e : g i j with
  | true =>
    rw [if_pos rfl]
    rw [e, Bool.true_and] at q
    exact c _ ⟨j, k, rfl, rfl, q⟩
  | false =>
    rw [if_neg (by decide)]
    rw [e, Bool.false_and] at q
    exact q⟩)
theorem ror {b c : Bool} (p : Rv ta σ H (.bl b)) (q : Rv tb σ H (.bl c)) : Rv (tOrV ta tb) σ H (.bl (b || c)) := fun Q h => p _ ⟨b, rfl, by
  cases b with
  | true => exact iteT h
  | false => exact iteF (q _ h)⟩
theorem rand {b c : Bool} (p : Rv ta σ H (.bl b)) (q : Rv tb σ H (.bl c)) : Rv (tAndV ta tb) σ H (.bl (b && c)) := fun Q h => p _ ⟨b, rfl, by
  cases b with
  | false => exact iteF h
  | true => exact iteT (q _ h)⟩
theorem rix {p : Addr} {xs : List V} (a : Rv ta σ H (.ref p)) (b : Rv tb σ H (.int i)) (s : SqL K H p xs) (e : atI xs i = some v) : Rv (tOp (rIxL K) ta tb) σ H v := fun Q q => a _ (b _ ⟨p, xs, i, v, rfl, rfl, s, e, q⟩)
theorem rixT {p : Addr} {xs : List V} (a : Rv ta σ H (.ref p)) (b : Rv tb σ H (.int i)) (s : SqT K H p xs) (e : atI xs i = some v) : Rv (tOp (rIxT K) ta tb) σ H v := fun Q q => a _ (b _ ⟨p, xs, i, v, rfl, rfl, s, e, q⟩)
theorem rdg {a : Addr} (p : Rv ta σ H (.ref a)) (q : Rv tb σ H y) (g : DGet H a y (some v)) : Rv (tDGet ta tb) σ H v := fun Q h => p _ (q _ ⟨a, v, rfl, g, h⟩)
theorem rdg2 {a : Addr} {o : Option V} (p : Rv ta σ H (.ref a)) (d : IsD H a) (q : Rv tb σ H y) (z : Rv tc σ H v) (g : DGet H a y o) : Rv (tDGet2 ta tb tc) σ H (o.getD v) := fun Q h => p _ ⟨a, rfl, d, q _ (z _ ⟨o, g, h⟩)⟩
theorem ra0 : Ra tNil σ H [] := fun _ q => q
theorem ra1 {vs : List V} (a : Rv ta σ H v) (b : Ra t σ H vs) : Ra (tCons ta t) σ H (v :: vs) := fun Q q => a _ (b _ q)
theorem rcb {r : List V → Hp → VK → Prop} {vs : List V} (a : Ra t σ H vs) (h : ∀ Q : VK, Q v H → r vs H Q) : Rv (tCB r t) σ H v := fun Q q => a _ (h Q q)
theorem rcall {sp : Sp} {vs : List V} {E : XK} (a : Ra t σ H vs) (h : ∀ Q : VK, Q v H → sp vs H Q E) : Rv (tCall sp [] E t) σ H v := fun Q q => a _ (by rw [List.append_nil]; exact h Q q)
theorem rmeth {C : Addr} {m : Str} {sp : Sp} {vs : List V} {E : XK} {a dx : Addr} {fs : List (Str × V)} (p : Rv ta σ H (.ref a)) (h : H a = some (.ins C dx fs)) (l : fs.lookup m = none) (z : Ra t σ H vs) (g : ∀ Q : VK, Q v H → sp (V.ref a :: vs) H Q E) : Rv (tMeth C m sp [] E ta t) σ H v :=
  fun Q q => p _ ⟨a, dx, fs, rfl, h, l, z _ (by rw [List.append_nil]; exact g Q q)⟩
theorem tt {b : Bool} (a : Rv ta σ H (.bl b)) : Rt (tTest ta) σ H b := fun Q q => a _ ⟨b, rfl, q⟩
theorem tb1 {b : Bool} (a : Rv ta σ H (.bl b)) : Rt (tB ta) σ H b := fun Q q => a _ ⟨b, rfl, q⟩
theorem tnot {tq : TT} {b : Bool} (a : Rt tq σ H b) : Rt (tNot tq) σ H (!b) := fun Q q => a _ q
theorem tand {t1 t2 : TT} {b c : Bool} (p : Rt t1 σ H b) (q : b = true → Rt t2 σ H c) : Rt (tAnd t1 t2) σ H (b && c) := fun Q h => p _ (by
  cases b with
  | false => exact iteF h
  | true => exact iteT (q rfl _ h))
theorem s_set {n : Nat} {D : Ends} (a : Rv ta σ H v) (k : D.nx (σ.set n (some v)) H) : tAsg ta (gName n) D σ H := a _ k
theorem s_ret {D : Ends} (a : Rv ta σ H v) (k : D.rt v H) : tRet ta D σ H := a _ k
theorem s_if {tq : TT} {b : Bool} {u1 u2 : TS} {D : Ends} (a : Rt tq σ H b) (h1 : b = true → u1 D σ H) (h2 : b = false → u2 D σ H) : tIfS tq u1 u2 D σ H := a _ (by
  cases b with
  | true => exact iteT (h1 rfl)
  | false => exact iteF (h2 rfl))
theorem s_fld {f : Str} {a C dx : Addr} {fs : List (Str × V)} {D : Ends} (p : Rv tb σ H v) (r : Rv ta σ H (.ref a)) (h : H a = some (.ins C dx fs)) (c : Cls K C) (n : NoAttr K C f) (l : fs.length < 1000) (k : D.nx σ (upd H a (.ins C dx (putF f v fs)))) : sFld K ta tb f D σ H :=
  p _ (r _ ⟨a, C, dx, fs, rfl, h, c, n, l, k⟩)
end
section
variable {X : Cx}
theorem pgI {x : Str} {i : Int} {pos : Pos} (hm : ∃ t, X.mg x = some (.int i t)) (hg : Gl X x := by rfl) (hd : (x == ("__debug__" : Str)) = false := by decide) : PE X (.Name x pos) (tC (.int i)) := by
  obtain ⟨t, h⟩ := hm
  exact pe_glob hg h ⟨t, rfl⟩ hd
theorem pgR {x : Str} {a : Addr} {pos : Pos} (hm : X.mg x = some (.ref a)) (hg : Gl X x := by rfl) (hd : (x == ("__debug__" : Str)) = false := by decide) : PE X (.Name x pos) (tC (.ref a)) := pe_glob hg hm rfl hd
theorem get_list : PGet X (rIxL X.K) := by
  intro pins s σ H o i ov iv Q I ro ri h
  obtain ⟨p, xs, k, z, rfl, rfl, hq, he, q⟩ := h
  cases ro
  obtain ⟨t, rfl⟩ := ri
  obtain ⟨its, r, pl, hz⟩ := I.list hq
  obtain ⟨j, h1, h2, h3, h4, h5⟩ := atI_get he
  obtain ⟨w, ew, rw'⟩ := r.get h2
  have hl := r.length
  have hn := line63
  have fin : EP X pins σ Q w s := ⟨z, H, I, rw', q⟩
  by_cases h0 : 0 ≤ k
  · have hj : k.toNat = j := by
      rw [seqIndex_of h0 h5] at h1
      exact Option.some.inj h1
    exact wpAny_getItem_list pl.isList h0 (by omega) (by rw [hj]; simpa using ew) fin
  · have hj : (k + (its.toArray.size : Int)).toNat = j := by
      rw [seqIndex_neg (by omega) h4] at h1
      rw [List.size_toArray, ← hl]
      exact Option.some.inj h1
    exact wpAny_getItem_list_neg pl.isList (by omega) (by rw [List.size_toArray] <;> omega) (by omega) (by rw [hj]; simpa using ew) fin
end
section
variable {P : Program} {w : World} {K : PySem.W.Frag} {mg : Str → Option Value} {base : Heap}
def Use (P : Program) (w : World) (K : PySem.W.Frag) (mg : Str → Option Value) (base : Heap) (k : Nat) (x : Str) (ps : List Str) (sp : Sp) : Prop :=
  ∃ f fd, FnOk P w K mg base CX0 k f fd ps sp ∧ mg x = some (.ref f) ∧ PySem.W.keepIn K (.ref f) = true ∧ Binds K fd ps []
def UseC (P : Program) (w : World) (K : PySem.W.Frag) (mg : Str → Option Value) (base : Heap) (k : Nat) (x : Str) (C : Addr) (ps : List Str) (sp : Sp) : Prop :=
  ∃ f fd, Mk K C f ∧ FnOk P w K mg base CX0 k f fd ps sp ∧ mg x = some (.ref C) ∧ Binds K fd ps []
def UseM (P : Program) (w : World) (K : PySem.W.Frag) (mg : Str → Option Value) (base : Heap) (k : Nat) (C : Addr) (m : Str) (ps : List Str) (sp : Sp) : Prop :=
  ∃ f fd, Meth K C m f ∧ FnOk P w K mg base CX0 k f fd ps sp ∧ Binds K fd ps []
end
section
variable {X : Cx} {x m : Str} {ps : List Str} {sp : Sp} {k : Nat} {e : Expr} {es : List Expr} {t : TA} {p pos : Pos} {C : Addr}
theorem pu (U : Use X.prog X.w X.K X.mg X.base k x ps sp) (hr : Room k X.A) (ha : PA X (e :: es) t) (hg : Gl X x := by rfl) (hd : (x == ("__debug__" : Str)) = false := by decide) (he : starEach (e :: es) X.env = (false, eval e X.env) :: starEach es X.env := by rfl) (hpl : (backTo pos (starEach es X.env)).any (·.1) = false := by rfl) : PE X (.Call (.Name x p) (e :: es) [] pos) (tCall sp [] E0 t) := by
  obtain ⟨f, fd, F, hm, hk, hb⟩ := U
  exact pe_call F hr hg hm hk hb .nil pass0 ha hd he hpl
theorem puc (U : UseC X.prog X.w X.K X.mg X.base k x C ps sp) (hr : Room (k + 1) X.A) (ha : PA X (e :: es) t) (hg : Gl X x := by rfl) (hd : (x == ("__debug__" : Str)) = false := by decide) (he : starEach (e :: es) X.env = (false, eval e X.env) :: starEach es X.env := by rfl) (hpl : (backTo pos (starEach es X.env)).any (·.1) = false := by rfl) : PE X (.Call (.Name x p) (e :: es) [] pos) (tMake C sp [] E0 t) := by
  obtain ⟨f, fd, M, F, hm, hb⟩ := U
  exact pe_make M F hr hg hm hb .nil pass0 ha hd he hpl
theorem puc0 (U : UseC X.prog X.w X.K X.mg X.base k x C ps sp) (hr : Room (k + 1) X.A) (hg : Gl X x := by rfl) (hd : (x == ("__debug__" : Str)) = false := by decide) : PE X (.Call (.Name x p) [] [] pos) (tMake C sp [] E0 tNil) := by
  obtain ⟨f, fd, M, F, hm, hb⟩ := U
  exact pe_make0 M F hr hg hm hb .nil pass0 hd
end
end L2
namespace L2
open PySem PySem.Spec PyProof.Rows
def MGet (P : Program) (w : World) (K : PySem.W.Frag) (d : Addr) (y v : V) : Prop :=
  ∀ (A : Around) (E : Value → Shared → Prop) (s : Shared) (Q : Value → Shared → Prop) (u : Value), K.In s.heap → RelV y u → (∀ v', RelV v v' → Q v' { s with toks := s.toks + 1 }) →
    s.TypeIs (.ref d) "dict" ∧ wpAny (model P w) A (getItem (.ref d) u) Q E s
def tMGet (P : Program) (w : World) (K : PySem.W.Frag) (td ty : TE) : TE := fun σ H Q => td σ H fun x H1 => ty σ H1 fun y H2 => ∃ d v, x = .ref d ∧ MGet P w K d y v ∧ Q v H2
section
variable {X : Cx} {o i : Expr} {pos : Pos} {td ty : TE}
theorem pe_mget (ho : PE X o td) (hi : PE X i ty) (hs : NoSl i) : PE X (.Subscript o i pos) (tMGet X.prog X.w X.K td ty) := by
  intro pins s σ H Q I h
  refine subD_of PySem.F.slot_dict_getitem.lookup hs (thn (ho pins s σ H _ I h) fun z s1 ⟨x, H1, I1, rx, q1⟩ => ?_)
  refine thn (hi pins s1 σ H1 _ I1 q1) fun iv s2 ⟨y, H2, I2, ry, a, v, ex, g, q2⟩ => ?_
  subst ex
  obtain rfl : z = Value.ref a := rx
  exact g X.A X.xe s2 _ iv I2.kIn ry fun v' rv => ⟨v, H2, I2.tok _, rv, q2⟩
end
section
variable {P : Program} {w : World} {K : PySem.W.Frag} {σ : St} {H : Hp} {ta tb : TE} {y v : V}
theorem rmg {a : Addr} (p : Rv ta σ H (.ref a)) (q : Rv tb σ H y) (g : MGet P w K a y v) : Rv (tMGet P w K ta tb) σ H v := fun Q h => p _ (q _ ⟨a, v, rfl, g, h⟩)
def isRef (a : Addr) : Value → Bool
  | .ref b => b == a
  | _ => false
theorem isRef_is {a : Addr} {v : Value} (h : isRef a v = true) : v = .ref a := by
  unfold isRef at h
  split at h
  · rw [beq_iff_eq.mp h]
  · cases h
theorem mget_text {d a : Addr} {D : List (Str × Addr)} {x : Str} (h : KTD.tabLook isRef (fun b => K.lookup b) d D = true) (e : KTD.datumAt x D = some a) : MGet P w K d (.str x) (.ref a) := by
  intro A E s Q u X r k
  obtain ⟨t, rfl⟩ := r
  have T : KTD.TabOf (fun (c : Addr) (z : Value) => z = .ref c) s.heap d D := KTD.tab_of_look (fun _ _ z => isRef_is z) (fun b o q => X b o q) h
  obtain ⟨_, o, es, ep, ho, hc, hd, hr⟩ := T
  have ty : s.TypeIs (.ref d) "dict" := ⟨o, ho, hc.1⟩
  refine ⟨ty, ?_⟩
  obtain ⟨z, hz, ez⟩ := hr.find_some e
  have fb : findBy (fun (k : Str) (z : Value) => z.isStr k) es x = some z := by
    rw [← hz]
    obtain ⟨l⟩ := es
    simp [findBy]
  rw [findBy_of_findIdx?] at fb
  unfold getItem
  try with_reducible refine wpAny_holding ?_
  refine wpAny_bind (wpAny_sequenceKey ty (by decide) ?_)
  refine wpAny_bind (wpAny_callSpecial?_slot (name := Str.ofString "__getitem__") ty slot_dict_getitem (wpAny_call_entry slot_dict_getitem ty entry_dict_getitem ?_ (args_dict_getitem _ _)))
  show wpAny _ _ (dictGet d (.str x t) >>= _) _ _ s
  unfold dictGet
  refine wpAny_bind ?_
  try with_reducible refine wpAny_holding ?_
  have all : (es.all fun e => isExactStrKey e.key) = true := by
    have q := hr.exact
    obtain ⟨l⟩ := es
    simpa using q
  refine wpAny_bind (wpAny_pyHash_str (wpAny_bind (KTD.kt_dictFind_strs (s := { s with toks := s.toks + 1 }) ho hd all ?_)))
  cases ix : es.findIdx? fun e => e.key.isStr x with
  | none =>
    rw [ix] at fb
    cases fb
  | some j =>
    rw [ix] at fb
    refine wpAny_bind (wpAny_dictEntries (s := { s with toks := s.toks + 1 }) ho hd (wpAny_pure ?_))
    have e2 : (es[j]?).map (·.val) = some z := fb
    rw [e2]
    exact wpAny_pure ⟨z, rfl, wpAny_pure (k z ez)⟩
def entI : List DictEntry → List (Int × Addr) → Bool
  | [], [] => true
  | e :: es, p :: D => (match e.key with
    | .int i _ => i == p.1
    | _ => false) && (e.hash == hashInt p.1 && (isRef p.2 e.val && entI es D))
  | _, _ => false
def intLook (K : PySem.W.Frag) (d : Addr) (D : List (Int × Addr)) : Bool := decide ((D.map (·.1)).Nodup) && match K.lookup d with
  | some o => o.cls == .type "dict" && (o.dict.isNone && (o.slots.isEmpty && match o.data with
    | .dict es _ => entI es.toList D
    | _ => false))
  | none => false
theorem entI_is (P : Program) (w : World) : ∀ {es : List DictEntry} {D : List (Int × Addr)}, entI es D = true → (∀ e ∈ es, ∃ k, (mixKind P w).is k e.key = true ∧ e.hash = (mixKind P w).hash k) ∧ Pairs (mixKind P w) es (D.map fun p => ((Sum.inl p.1 : Key), Value.ref p.2))
  | [], [], _ => ⟨fun _ h => (by cases h), .nil⟩
  | [], _ :: _, h => by cases h
  | _ :: _, [], h => by cases h
  | e :: es, p :: D, h => by
    unfold entI at h
    simp only [Bool.and_eq_true] at h
    obtain ⟨h1, h2, h3, h4⟩ := h
    obtain ⟨i1, i2⟩ := entI_is P w h4
    split at h1
    · rename_i i t hk
      have e1 := beq_iff_eq.mp h1
      have ky : (mixKind P w).is (Sum.inl p.1 : Key) e.key = true := by
        rw [hk, e1]
        exact mixKind_int P w _ _
      refine ⟨fun z hz => ?_, .cons ky (isRef_is h3) i2⟩
      rcases List.mem_cons.mp hz with q | q
      · rw [q]
        exact ⟨Sum.inl p.1, ky, beq_iff_eq.mp h2⟩
      · exact i1 z q
    · cases h1
theorem mget_int {d a : Addr} {D : List (Int × Addr)} {i : Int} (h : intLook K d D = true) (e : KTD.datumAt i D = some a) : MGet P w K d (.int i) (.ref a) := by
  intro A E s Q u X r k
  obtain ⟨t, rfl⟩ := r
  unfold intLook at h
  rw [Bool.and_eq_true] at h
  obtain ⟨hn, h⟩ := h
  cases ho : K.lookup d with
  | none => rw [ho] at h; cases h
  | some o =>
    rw [ho] at h
    simp only [Bool.and_eq_true] at h
    obtain ⟨h1, h2, h3, h4⟩ := h
    split at h4
    · rename_i es ep hd
      obtain ⟨i1, i2⟩ := entI_is P w h4
      have dd : s.heap.DictOf (mixKind P w) d (D.map fun p => ((Sum.inl p.1 : Key), Value.ref p.2)) :=
        ⟨o, es, ep, X d o ho, ⟨beq_iff_eq.mp h1, by simpa using h2, by simpa using h3⟩, hd, fun z hz => i1 z (by simpa using hz), i2, by
          rw [List.map_map]
          have q := of_decide_eq_true hn
          rw [show (D.map ((fun (x : Key × Value) => x.1) ∘ fun p => ((Sum.inl p.1 : Key), Value.ref p.2))) = (D.map (·.1)).map Sum.inl by rw [List.map_map]; rfl]
          exact (List.pairwise_map.mpr (q.imp fun hne z => hne (Sum.inl.inj z)))⟩
      refine ⟨dd.typeIs, wpAny_getItem_of (k := (Sum.inl i : Key)) (kV_is (k := Sum.inl i) ⟨t, rfl⟩) dd.mapOf (v := Value.ref a) ?_ (k _ rfl)⟩
      clear dd i1 i2 h4 hd hn
      induction D with
      | nil => cases e
      | cons p D ih =>
        have e' : (if decide (i = p.1) = true then some p.2 else KTD.datumAt i D) = some a := e
        unfold valueAt
        rw [List.map_cons, List.find?_cons]
        by_cases c : i = p.1
        · rw [if_pos (decide_eq_true c)] at e'
          cases e'
          rw [show decide ((Sum.inl p.1 : Key) = Sum.inl i) = true from decide_eq_true (by rw [c])]
          rfl
        · rw [if_neg (by simpa using c)] at e'
          rw [show decide ((Sum.inl p.1 : Key) = Sum.inl i) = false from decide_eq_false fun z => c (Sum.inl.inj z).symm]
          exact ih e'
    · cases h4
def vLook : V → Value → Bool
  | .int i, .int j _ => i == j
  | .str x, .str y _ => x == y
  | _, _ => false
def vsLook : List V → List Value → Bool
  | [], [] => true
  | x :: xs, u :: us => vLook x u && vsLook xs us
  | _, _ => false
theorem vLook_is {x : V} {u : Value} (h : vLook x u = true) : RelV x u := by
  unfold vLook at h
  split at h
  · rw [beq_iff_eq.mp h]; exact ⟨_, rfl⟩
  · rw [beq_iff_eq.mp h]; exact ⟨_, rfl⟩
  · cases h
theorem vsLook_is : ∀ {xs : List V} {us : List Value}, vsLook xs us = true → Vals xs us
  | [], [], _ => .nil
  | [], _ :: _, h => by cases h
  | _ :: _, [], h => by cases h
  | x :: xs, u :: us, h => by
    unfold vsLook at h
    rw [Bool.and_eq_true] at h
    exact .cons (vLook_is h.1) (vsLook_is h.2)
def tupLook (K : PySem.W.Frag) (a : Addr) (xs : List V) : Bool := match K.lookup a with
  | some o => o.cls == .type "tuple" && match o.data with
    | .seq its _ => decide (its.size ≤ 100) && vsLook xs its.toList
    | _ => false
  | none => false
theorem tupLook_is {a : Addr} {xs : List V} (h : tupLook K a xs = true) : SqT K H a xs := by
  unfold tupLook at h
  cases ho : K.lookup a with
  | none => rw [ho] at h; cases h
  | some o =>
    rw [ho] at h
    simp only [Bool.and_eq_true] at h
    obtain ⟨h1, h2⟩ := h
    split at h2
    · rename_i its n hd
      rw [Bool.and_eq_true] at h2
      exact .inr ⟨o, its, n, ho, beq_iff_eq.mp h1, hd, Nat.le_trans (of_decide_eq_true h2.1) (by rw [sizeLine_eq]; omega), vsLook_is h2.2⟩
    · cases h2
end
def Fv (P : Program) (w : World) (K : PySem.W.Frag) (mg : Str → Option Value) (base : Heap) (k : Nat) (x : V) (ps : List Str) (sp : Sp) : Prop :=
  ∃ f fd, x = .ref f ∧ FnOk P w K mg base CX0 k f fd ps sp ∧ PySem.W.keepIn K (.ref f) = true ∧ Binds K fd ps []
def tFv (X : Cx) (k : Nat) (ps : List Str) (tf : TE) (t : TA) : TE := fun σ H Q => tf σ H fun x H1 => ∃ sp : Sp, Fv X.prog X.w X.K X.mg X.base k x ps sp ∧ t σ H1 fun vs H2 => sp vs H2 Q E0
section
variable {X : Cx} {fe e : Expr} {es : List Expr} {pos : Pos} {tf : TE} {t : TA} {k : Nat} {ps : List Str}
theorem pe_fv (hf : PE X fe tf) (hr : Room k X.A) (ha : PA X (e :: es) t) (hc : eval (.Call fe (e :: es) [] pos) X.env = (do callWith pos (← eval fe X.env) [] (backTo pos (starEach (e :: es) X.env)) (backToKw pos (keywordEach [] X.env))) := by rfl)
    (he : starEach (e :: es) X.env = (false, eval e X.env) :: starEach es X.env := by rfl) (hpl : (backTo pos (starEach es X.env)).any (·.1) = false := by rfl) : PE X (.Call fe (e :: es) [] pos) (tFv X k ps tf t) := by
  intro pins s σ H Q I h
  refine Call_ (thn (hf pins s σ H _ I h) fun z s1 ⟨x, H1, I1, rx, sp, ⟨f, fd, ex, F, hk, hb⟩, q1⟩ => ?_) hc
  subst ex
  obtain rfl : z = Value.ref f := rx
  refine PySem.W.callWith_K (h₀ := X.base) I.ok.mod.kin hk (thn (ha pos pins s1 σ H1 _ I1 q1) fun us s2 ⟨vs, H2, I2, r, q2⟩ => ⟨I2.kIn, ?_⟩) he hpl
  exact run_fn F hr hb .nil (pass0 (X := X)) I2 r (by rw [List.append_nil]; exact q2)
end
end L2
namespace L2
open PySem PySem.Spec PyProof.Rows ZipW
section
variable {prog : Program} {w : World} {A : Around} {E : Value → Shared → Prop}
theorem pair_tup {h : Heap} {a : Addr} {x y : Value} (p : IsPair h a x y) : IsTup h a #[x, y] := ⟨_, p, rfl, _, rfl⟩
theorem zd_loop {R : Result → Shared → Prop} {S z TI TO i1 i2 l1 l2 : Addr} {xs ys : Array Value} {res : Value} (hh : A.handled = none) (D : ZipApart z TI TO i1 i2 l1 l2) (n1 : S ≠ z) (n2 : S ≠ TI) (n3 : S ≠ TO) (n4 : S ≠ i1) (n5 : S ≠ i2) (n6 : S ≠ l1) (n7 : S ≠ l2) :
    ∀ (rest : List (Key × Value)) (i : Nat) (acc : List (Key × Value)) (ix : Int) (t : Tok) (s : Shared), xs.size = i + rest.length → acc.length + rest.length ≤ sizeLine →
      (∀ (j : Nat) (q : Key × Value), rest[j]? = some q → ∃ u : Value, xs[i + j]? = some u ∧ ys[i + j]? = some q.2 ∧ keyIs q.1 u = true) →
      ZipSt s.heap z TI TO i1 i2 l1 l2 xs ys i → s.heap.DictOf (mixKind prog w) S acc →
      (∀ h' tk, h'.DictOf (mixKind prog w) S (merged acc rest) → (∀ b o, b ≠ S → b ≠ z → b ≠ TO → b ≠ i1 → b ≠ i2 → s.heap.get? b = some o → h'.get? b = some o) → R (.ok (.ret res)) { s with heap := h', toks := tk }) →
      codeAny (model prog w) A (.builtin "dict.update.loop" ⟨[.ref S, .ref z, .int ix t, res], []⟩) R s
  | [], i, acc, ix, t, s, hsz, hln, ht, hz, hm, hR => by
    refine codeAny_builtin ud_entry ?_
    rw [Around.under_plainId ud_plain _]
    show wpAny _ A.in1 (pyNext (.ref z) >>= _) _ _ s
    refine wpAny_bind (zip_end (A := A.in1) hh D hz (Array.getElem?_eq_none (by rw [hsz]; simp)) fun h' k => ?_)
    show wpAny _ A.in1 (Builtin.Dict.addKeywords S [] >>= _) _ _ _
    refine wpAny_bind (wpAny_pure (wpAny_pure ?_))
    exact hR h' s.toks (hm.at fun o q => k S o n1 n3 n4 n5 q) fun b o _ c1 c2 c3 c4 e => k b o c1 c2 c3 c4 e
  | q :: rest, i, acc, ix, t, s, hsz, hln, ht, hz, hm, hR => by
    obtain ⟨u, hx, hy, hk⟩ := ht 0 q rfl
    rw [List.length_cons] at hsz hln
    have hS : S < s.heap.objs.size := by
      obtain ⟨o, _, _, ho, _⟩ := id hm
      exact Heap.lt_size ho
    refine codeAny_builtin ud_entry ?_
    rw [Around.under_plainId ud_plain _]
    show wpAny _ A.in1 (pyNext (.ref z) >>= _) _ _ s
    refine wpAny_bind (zip_item (x := u) (y := q.2) D hz (by simpa using hx) (by simpa using hy) fun h1 hz1 hp k1 => ?_)
    have ht1 : IsTup h1 s.heap.objs.size #[u, q.2] := pair_tup hp
    have hm1 : h1.DictOf (mixKind prog w) S acc := hm.at fun o e => k1 S o n1 n3 n4 n5 e
    obtain ⟨o, ho, hc, n, hd⟩ := id ht1
    show wpAny _ A.in1 (holding [Value.ref s.heap.objs.size] _ >>= _) _ _ _
    refine wpAny_bind (wpAny_holding ?_)
    refine wpAny_bind (wpAny_tryCatch ?_)
    unfold Builtin.Dict.pairItems
    refine wpAny_bind (wpAny_typeOf (T := "tuple") ⟨o, ho, hc⟩ ?_)
    rw [if_pos (by first | decide | rfl | simp)]
    refine wpAny_bind (wpAny_seqItems ho hd (wpAny_pure ?_))
    show wpAny _ A.in1 (holding [u, q.2] (dictSet S u q.2)) _ _ _
    refine wpAny_holding (wpAny_dictSet_pairs (knd := mixKind prog w) (k := q.1) hk hm1 (fun h2 hm2 hs2 => ?_) (by omega))
    have al : ∀ b o, h1.get? b = some o → ∃ o', h2.get? b = some o' := fun b o e => by
      by_cases c : b = S
      · obtain ⟨o', _, _, q', _⟩ := id hm2
        exact ⟨o', by rw [c]; exact q'⟩
      · exact ⟨o, hs2.extBut b o c e⟩
    refine wpAny_pure ⟨plainId_quiet ud_plain _, zd_loop (xs := xs) (ys := ys) hh D n1 n2 n3 n4 n5 n6 n7 rest (i + 1) (stored acc q.1 q.2) (ix + 1) 0 _ (show xs.size = i + 1 + rest.length by omega) ?_ (fun j q' e => ?_) ?_ hm2 fun h' tk hd' k => ?_⟩
    · have z := stored_length_le acc q.1 q.2
      omega
    · obtain ⟨u', e1, e2, e3⟩ := ht (j + 1) q' (by simpa using e)
      exact ⟨u', by rw [show i + 1 + j = i + (j + 1) by omega]; exact e1, by rw [show i + 1 + j = i + (j + 1) by omega]; exact e2, e3⟩
    · refine hz1.keep al fun b o hb e => hs2.extBut b o ?_ e
      rcases hb with rfl | rfl | rfl | rfl | rfl | rfl | rfl
      · exact Ne.symm n1
      · exact Ne.symm n2
      · exact Ne.symm n3
      · exact Ne.symm n4
      · exact Ne.symm n5
      · exact Ne.symm n6
      · exact Ne.symm n7
    · exact hR h' tk hd' fun c oc h3 c1 c2 c3 c4 e => k c oc h3 c1 c2 c3 c4 (hs2.extBut c oc h3 (k1 c oc c1 c2 c3 c4 e))
theorem call_zipT {s : Shared} {l1 l2 : Addr} {xs ys : Array Value} {Q : Value → Shared → Prop} (hl1 : IsTup s.heap l1 xs) (hl2 : s.heap.IsList l2 ys)
    (h : ∀ h', ZipSt h' (s.heap.objs.size + 4) (s.heap.objs.size + 2) (s.heap.objs.size + 3) s.heap.objs.size (s.heap.objs.size + 1) l1 l2 xs ys 0 → h'.objs.size = s.heap.objs.size + 5 →
      (∀ c o, s.heap.get? c = some o → h'.get? c = some o) → Q (.ref (s.heap.objs.size + 4)) { s with heap := h' }) :
    wpAny (model prog w) A (call (.type "zip") [.ref l1, .ref l2]) Q E s := by
  refine callType_new PySem.F.called_zip (by decide) (PySem.F.typeCall_zip_2 _ _) (PySem.F.newCall_zip_2 _ _) (fun obj => PySem.F.args_object_init_3 obj _ _) PySem.F.entry_zip_new (zip_new_meets l1 l2 xs ys) ⟨hl1, hl2, ?_⟩
  have e1 : (zh1 s.heap l1).objs.size = s.heap.objs.size + 1 := Heap.size_push ..
  have e2 : (zh2 s.heap l1 l2).objs.size = s.heap.objs.size + 2 := by rw [Heap.size_push, e1]
  have e3 : (zh3 s.heap l1 l2).objs.size = s.heap.objs.size + 3 := by rw [Heap.size_push, e2]
  have e4 : (zh4 s.heap l1 l2).objs.size = s.heap.objs.size + 4 := by rw [Heap.size_push, e3]
  have e5 : (zh5 s.heap l1 l2).objs.size = s.heap.objs.size + 5 := by rw [Heap.size_push, e4]
  have keep : ∀ c o, s.heap.get? c = some o → (zh5 s.heap l1 l2).get? c = some o := fun c o q => Heap.get?_push_of_some _ (Heap.get?_push_of_some _ (Heap.get?_push_of_some _ (Heap.get?_push_of_some _ (Heap.get?_push_of_some _ q))))
  have f5 : (zh5 s.heap l1 l2).get? (zh4 s.heap l1 l2).objs.size = some _ := Heap.get?_push_size _ rfl
  have f4 : (zh5 s.heap l1 l2).get? (zh3 s.heap l1 l2).objs.size = some _ := Heap.get?_push_of_some _ (Heap.get?_push_size _ rfl)
  have f3 : (zh5 s.heap l1 l2).get? (zh2 s.heap l1 l2).objs.size = some _ := Heap.get?_push_of_some _ (Heap.get?_push_of_some _ (Heap.get?_push_size _ rfl))
  have f2 : (zh5 s.heap l1 l2).get? (zh1 s.heap l1).objs.size = some _ := Heap.get?_push_of_some _ (Heap.get?_push_of_some _ (Heap.get?_push_of_some _ (Heap.get?_push_size _ rfl)))
  have f1 : (zh5 s.heap l1 l2).get? s.heap.objs.size = some _ := Heap.get?_push_of_some _ (Heap.get?_push_of_some _ (Heap.get?_push_of_some _ (Heap.get?_push_of_some _ (Heap.get?_push_size _ rfl))))
  rw [e4] at f5
  rw [e3] at f4
  rw [e2] at f3
  rw [e1] at f2
  have q := h (zh5 s.heap l1 l2) ⟨⟨_, _, by rw [← e2, ← e3]; exact (by rw [e3]; rw [e3] at f5; exact f5), .inl rfl⟩, by rw [← e1]; exact (by rw [e1]; rw [e1] at f3; exact f3), ⟨_, _, f4⟩, ⟨_, f1, rfl, rfl⟩, ⟨_, f2, rfl, rfl⟩, by obtain ⟨o, ho, r⟩ := hl1; exact ⟨o, keep _ _ ho, r⟩, by obtain ⟨o, ho, r⟩ := hl2; exact ⟨o, keep _ _ ho, r⟩⟩ e5 keep
  rw [e4]
  exact ⟨⟨_, f5, rfl⟩, q⟩
theorem call_dict_zip {s : Shared} {z TI TO i1 i2 l1 l2 : Addr} {xs ys : Array Value} {prs : List (Key × Value)} {Q : Value → Shared → Prop} (hh : A.handled = none) (D : ZipApart z TI TO i1 i2 l1 l2) (hz : ZipSt s.heap z TI TO i1 i2 l1 l2 xs ys 0)
    (hsz : xs.size = prs.length) (hln : prs.length ≤ sizeLine)
    (ht : ∀ (j : Nat) (q : Key × Value), prs[j]? = some q → ∃ u : Value, xs[j]? = some u ∧ ys[j]? = some q.2 ∧ keyIs q.1 u = true)
    (h : ∀ h' tk, h'.DictOf (mixKind prog w) s.heap.objs.size (merged [] prs) → (∀ b o, b ≠ z → b ≠ TO → b ≠ i1 → b ≠ i2 → s.heap.get? b = some o → h'.get? b = some o) → Q (.ref s.heap.objs.size) { s with heap := h', toks := tk }) :
    wpAny (model prog w) A (call (.type "dict") [.ref z]) Q E s := by
  refine callType_codes (Q₁ := fun obj s₁ => obj = .ref s.heap.objs.size ∧ s₁ = { s with heap := s.heap.push { cls := .type "dict", data := .dict #[] } }) PySem.F.kt_called_dict (PySem.F.kt_typeCall_dict_1 _) PySem.F.entry_dict_init (kt_code_dict_new _ ⟨rfl, rfl⟩) ?_
  rintro obj s₁ ⟨rfl, rfl⟩
  have hnew : (s.heap.push { cls := .type "dict", data := .dict #[] }).DictOf (mixKind prog w) s.heap.objs.size [] := Heap.DictOf.new s.heap
  have k0 : ∀ b o, s.heap.get? b = some o → (s.heap.push { cls := .type "dict", data := .dict #[] }).get? b = some o := fun b o e => Heap.get?_push_of_some _ e
  refine ⟨hnew.typeIs, PySem.F.args_dict_init_2 _ _, ?_⟩
  unfold Builtin.«dict.__init__»
  refine wpAny_bind ?_
  unfold Builtin.Dict.selfAndRest
  refine wpAny_bind (wpAny_notOrdered_dict hnew.typeIs ?_)
  show wpAny _ _ (pure (s.heap.objs.size, [Value.ref z])) _ _ _
  refine wpAny_pure ?_
  show wpAny _ _ (Builtin.Dict.updateFrom "dict.__init__" s.heap.objs.size (.ref z) [] .none) _ _ _
  unfold Builtin.Dict.updateFrom
  obtain ⟨f0, f1, hzo, hf0⟩ := hz.obj
  refine wpAny_bind (wpAny_typeOf (T := "zip") ⟨_, k0 _ _ hzo, rfl⟩ ?_)
  rw [if_pos (by first | decide | rfl | simp)]
  refine wpAny_bind (miss_zip (k0 _ _ hzo) hh fun h1 tk1 hk1 => ?_)
  rw [if_pos (show (none : Option Value).isNone = true from rfl)]
  refine wpAny_bind (wpAny_rule ?_)
  have kk : ∀ b o, s.heap.get? b = some o → h1.get? b = some o := fun b o e => hk1 _ _ (k0 _ _ e)
  have hz1 : ZipSt h1 z TI TO i1 i2 l1 l2 xs ys 0 := hz.keep (fun b o e => ⟨o, kk _ _ e⟩) fun b o _ e => kk _ _ e
  refine wpAny_bind (zip_iter hz1 ?_)
  have lt : ∀ {b : Addr} {o : Obj}, s.heap.get? b = some o → s.heap.objs.size ≠ b := fun e => Nat.ne_of_gt (Heap.lt_size e)
  obtain ⟨o1, q1, _⟩ := id hz.it1
  obtain ⟨o2, q2, _⟩ := id hz.it2
  obtain ⟨o3, q3, _⟩ := id hz.tup
  obtain ⟨o4, q4, _⟩ := id hz.lst
  obtain ⟨a5, b5, q5⟩ := id hz.to
  have key := zd_loop (prog := prog) (w := w) (A := A.in1) (R := wants (fun r s₂ => r = .none ∧ Q (.ref s.heap.objs.size) s₂) E) (S := s.heap.objs.size) (xs := xs) (ys := ys) (res := Value.none) hh D
    (lt hzo) (lt hz.ti) (lt q5) (lt q1) (lt q2) (lt q3) (lt q4) prs 0 [] 0 0 { s with heap := h1, toks := tk1 } (by rw [hsz, Nat.zero_add]) (by rw [List.length_nil, Nat.zero_add]; exact hln)
    (fun j q e => by
      obtain ⟨u, e1, e2, e3⟩ := ht j q e
      exact ⟨u, by rw [Nat.zero_add]; exact e1, by rw [Nat.zero_add]; exact e2, e3⟩)
    hz1 (hnew.at fun o e => hk1 _ _ e)
    (fun h' tk hd' k => ⟨rfl, h h' tk hd' fun b o c1 c2 c3 c4 e => k b o (Nat.ne_of_lt (Heap.lt_size e)) c1 c2 c3 c4 (kk _ _ e)⟩)
  first
    | exact wpAny_pure ⟨plainId_quiet ud_plain _, key⟩
    | exact wpAny_bind (wpAny_pure (wpAny_pure ⟨plainId_quiet ud_plain _, key⟩))
end
def zipKV (ns : List Str) (ys : List V) : List (Key × V) := (ns.zip ys).map fun p => ((Sum.inr p.1 : Key), p.2)
def tDZ (K : PySem.W.Frag) (ta : TA) : TE := fun σ H Q => ta σ H fun vs H1 => ∃ (a b : Addr) (ns : List Str) (ys : List V), vs = [.ref a, .ref b] ∧ SqT K H1 a (ns.map V.str) ∧ SqL K H1 b ys ∧ ns.length = ys.length ∧ ns.length ≤ 100 ∧
  ∀ p, H1 p = none → Q (.ref p) (upd H1 p (.dK (mergeK [] (zipKV ns ys))))
theorem zip_prs : ∀ {ns : List Str} {ys : List V} {us ws : List Value}, Vals (ns.map V.str) us → Vals ys ws → ns.length = ys.length → ∃ prs : List (Key × Value), KV (zipKV ns ys) prs ∧ prs.length = us.length ∧
    ∀ (j : Nat) (q : Key × Value), prs[j]? = some q → ∃ u : Value, us[j]? = some u ∧ ws[j]? = some q.2 ∧ keyIs q.1 u = true
  | [], [], us, ws, r1, r2, _ => by
    cases r1
    exact ⟨[], .nil, rfl, fun j q e => by simp at e⟩
  | [], _ :: _, _, _, _, _, e => by cases e
  | _ :: _, [], _, _, _, _, e => by cases e
  | n :: ns, y :: ys, us, ws, r1, r2, e => by
    cases r1 with
    | cons a1 b1 =>
      rename_i u us
      cases r2 with
      | cons a2 b2 =>
        rename_i v ws
        obtain ⟨prs, k1, k2, k3⟩ := zip_prs b1 b2 (by simpa using e)
        refine ⟨(Sum.inr n, v) :: prs, .cons ⟨rfl, a2⟩ k1, by simp [k2], fun j q ej => ?_⟩
        cases j with
        | zero =>
          have e' : ((Sum.inr n : Key), v) = q := Option.some.inj ej
          subst e'
          obtain ⟨t, rfl⟩ := a1
          exact ⟨_, rfl, rfl, keyIs_str n t⟩
        | succ j => exact k3 j q (by simpa using ej)
section
variable {X : Cx}
theorem pe_dictzip {e1 e2 : Expr} {ta : TA} {p1 p2 pos1 pos2 : Pos} (hc : X.calm = true) (hg1 : Gl X "dict") (hm1 : X.mg "dict" = none) (hg2 : Gl X "zip") (hm2 : X.mg "zip" = none) (ha : PA X [e1, e2] ta)
    (hs : starEach [e1, e2] X.env = (false, eval e1 X.env) :: starEach [e2] X.env := by rfl) (hpl : (backTo pos2 (starEach [e2] X.env)).any (·.1) = false := by rfl)
    (hs1 : starEach [.Call (.Name "zip" p2) [e1, e2] [] pos2] X.env = [(false, eval (.Call (.Name "zip" p2) [e1, e2] [] pos2) X.env)] := by rfl)
    (hd : eval (.Call (.Name "dict" p1) [.Call (.Name "zip" p2) [e1, e2] [] pos2] [] pos1) X.env = (do callWith pos1 (← eval (.Name "dict" p1) X.env) [] (backTo pos1 (starEach [.Call (.Name "zip" p2) [e1, e2] [] pos2] X.env)) (backToKw pos1 (keywordEach [] X.env))) := by rfl) :
    PE X (.Call (.Name "dict" p1) [.Call (.Name "zip" p2) [e1, e2] [] pos2] [] pos1) (tDZ X.K ta) := by
  intro pins s σ H Q I h
  refine Call_ (ld_blt I hg1 hm1 (u := .type "dict") (by decide +kernel) (PyProof.Rows.callWith_type1 ?_ (by rw [hs1]; rfl) rfl)) hd
  rw [hs1]
  refine Calls.spliced_cons ?_
  refine Call_ (ld_blt I hg2 hm2 boot_zip5 (PyProof.Rows.callWith_type1 (thn (ha pos2 pins s σ H _ I h) fun us s1 ⟨vs, H1, I1, r1, q1⟩ => ?_) hs hpl))
  obtain ⟨a, b, ns, ys, ex, hqx, hqy, hlen, hsm, q⟩ := q1
  subst ex
  cases r1 with
  | cons r rr =>
    cases rr with
    | cons r' rr =>
      cases rr
      cases r
      cases r'
      obtain ⟨its, rv, p1, _⟩ := I1.tuple hqx
      obtain ⟨its2, rv2, p2, _⟩ := I1.list hqy
      have la : a < s1.heap.objs.size := p1.lt
      have lb : b < s1.heap.objs.size := p2.lt
      refine call_zipT p1 p2.isList fun h' hz hsz hk => Calls.spliced_nil ?_
      have I2 : Inv X pins σ H1 { s1 with heap := h' } := I1.kept (t' := s1.toks) hk
      obtain ⟨prs, k1, k2, k3⟩ := zip_prs rv rv2 hlen
      have hl := rv.length
      rw [List.length_map] at hl
      refine call_dict_zip (s := { s1 with heap := h' }) (prs := prs) (I.ok.hd hc) (PySem.W.ktu_apart s1.heap.objs.size a b la lb) hz (by simp [k2]) (by rw [k2, ← hl, sizeLine_eq]; omega) (fun j q' e => by
        obtain ⟨u, e1, e2, e3⟩ := k3 j q' e
        exact ⟨u, by simpa using e1, by simpa using e2, e3⟩) fun h2 tk hd' k => ?_
      have hm : (h'.objs.size == sysModules) = false := beq_eq_false_iff_ne.mpr (Nat.ne_of_gt I2.big)
      have hlen2 : (mergeK [] (zipKV ns ys)).length ≤ sizeLine := by
        refine Nat.le_trans (length_mergeK _ []) ?_
        rw [List.length_nil, Nat.zero_add, k1.length, k2, ← hl, sizeLine_eq]
        omega
      have fr : ∀ c, s1.heap.objs.size ≤ c → c < h'.objs.size → c ∉ X.fs ∧ H1 c = none := fun c hc1 _ => ⟨I1.nofs hc1, I1.hok.fresh hc1⟩
      have I3 : Inv X pins σ (upd H1 h'.objs.size (.dK (mergeK [] (zipKV ns ys)))) { s1 with heap := h2, toks := tk } := by
        refine I2.turnedNew (s := { s1 with heap := h' }) (ch := [s1.heap.objs.size + 4, s1.heap.objs.size + 3, s1.heap.objs.size, s1.heap.objs.size + 1]) (T := h'.objs.size) (fun c o hcn e => ?_) (fun c hcm => ?_) (Nat.le_refl _) ?_
        · exact k c o (fun z => hcn (by simp [z])) (fun z => hcn (by simp [z])) (fun z => hcn (by simp [z])) (fun z => hcn (by simp [z])) e
        · have hle : s1.heap.objs.size ≤ c := by
            have : c = s1.heap.objs.size + 4 ∨ c = s1.heap.objs.size + 3 ∨ c = s1.heap.objs.size ∨ c = s1.heap.objs.size + 1 := by simpa using hcm
            rcases this with z | z | z | z <;> rw [z] <;> first | exact Nat.le_add_right _ _ | exact Nat.le_refl _
          exact I1.fpOk hle (I1.hok.fresh hle)
        · exact ⟨hlen2, hm, merged [] prs, KV.merge k1 .nil, hd'⟩
      exact ⟨.ref h'.objs.size, _, I3, rfl, q _ (I1.hok.fresh (by rw [hsz]; exact Nat.le_add_right _ _))⟩
end
end L2
namespace L2
open PySem PySem.Spec PyProof.Rows
section
variable {X : Cx} {pins : List (Addr × Obj)} {σ : St} {H : Hp} {s : Shared}
theorem Inv.drawn (I : Inv X pins σ H s) (d : Drawn) : Inv X pins σ H { s with drawn := d } := ⟨I.ok, I.os, I.bare, I.base, I.loc, I.cell, I.free, I.freeC, I.pin, I.hok, I.len⟩
theorem vals_by : ∀ {xs : List V} {us : List Value}, xs.length = us.length → (∀ (j : Nat) (x : V) (u : Value), xs[j]? = some x → us[j]? = some u → RelV x u) → Vals xs us
  | [], [], _, _ => .nil
  | [], _ :: _, h, _ => by cases h
  | _ :: _, [], h, _ => by cases h
  | x :: xs, u :: us, h, r => .cons (r 0 x u rfl rfl) (vals_by (by simpa using h) fun j a b ha hb => r (j + 1) a b (by simpa using ha) (by simpa using hb))
end
def SetO (P : Program) (w : World) (p : Addr) (L : List Int) : HO := .ext fun h => SetW.SetI P w h p L (!SetW.byTxt w)
section
variable {X : Cx}
theorem setO_ok {P : Program} {w : World} {H : Hp} {h : Heap} {p : Addr} {L : List Int} (x : SetW.SetI P w h p L (!SetW.byTxt w)) : ObjOk P w H h p (SetO P w p L) := by
  refine ⟨x, ?_, fun h1 h2 a k => ?_⟩
  · obtain ⟨o, _, _, _, q, _⟩ := id x
    exact ⟨_, q⟩
  · obtain ⟨o, b1, b2, b3, q, r⟩ := id a
    exact ⟨o, b1, b2, b3, k _ q, r⟩
theorem call_set (hc : X.calm = true) : CallR X (.type "set") (fun xs H Q => ∃ (a : Addr) (ns : List Int), xs = [.ref a] ∧ SqL X.K H a (ns.map V.int) ∧ ns.length < scanBound ∧ ∀ p, H p = none → Q (.ref p) (upd H p (SetO X.prog X.w p (ns.foldl SetW.addI [])))) := by
  intro pins s σ H xs us Q I r q
  obtain ⟨a, ns, ex, hq, hb, q⟩ := q
  subst ex
  obtain ⟨u, eu, rx⟩ := vals1 r
  subst eu
  cases rx
  obtain ⟨its, rv, pl, hz⟩ := I.list hq
  refine SetW.set_ok (I.ok.hd hc) pl.isList (Vals.ints rv) hb fun h' tk hS k => ?_
  exact ⟨.ref s.heap.objs.size, _, I.laid (t' := tk) k (Nat.le_refl _) (setO_ok hS), rfl, q _ (I.hok.fresh (Nat.le_refl _))⟩
theorem call_sortedSet (hc : X.calm = true) : CallR X (.builtin "sorted") (fun xs H Q => ∃ (p : Addr) (L : List Int), xs = [.ref p] ∧ H p = some (SetO X.prog X.w p L) ∧ L.length ≤ 1000 ∧ ∀ (ns : List Int) (D : Addr), ns.Perm L → ns.Pairwise (· ≤ ·) → H D = none → Q (.ref D) (upd H D (.lst (ns.map V.int)))) := by
  intro pins s σ H xs us Q I r q
  obtain ⟨p, L, ex, hp, hL, q⟩ := q
  subst ex
  obtain ⟨u, eu, rx⟩ := vals1 r
  subst eu
  cases rx
  have hS : SetW.SetI X.prog X.w s.heap p L (!SetW.byTxt X.w) := (I.hok p _ hp).1
  refine SetW.sorted_ok (I.ok.hd hc) hS fun h' tk d D out e ns k hD hg hi hpm hpw => ?_
  refine ⟨.ref D, _, (I.laid (a := D) (o := .lst (ns.map V.int)) (t' := tk) k hD ⟨?_, out.toList, e, vals_of_ints hi, ?_⟩).drawn d, rfl, q ns D hpm hpw (I.hok.fresh hD)⟩
  · rw [List.length_map, hpm.length_eq, sizeLine_eq]
    omega
  · simpa using hg
theorem call_listD (hc : X.calm = true) : CallR X (.type "list") (fun xs H Q => ∃ (p : Addr) (kvs : List (Key × V)), xs = [.ref p] ∧ Rd H p (.dK kvs) ∧ ∀ l, H l = none → Q (.ref l) (upd H l (.lst (kvs.map fun kv => kV kv.1)))) := by
  intro pins s σ H xs us Q I r q
  obtain ⟨p, kvs, ex, hp, q⟩ := q
  subst ex
  obtain ⟨u, eu, rx⟩ := vals1 r
  subst eu
  cases rx
  obtain ⟨z, hd, vs, rel, dd⟩ := dk_rd I.hok hp
  have hl := rel.length
  obtain ⟨o, es, ep, h1, h2, h3, h4⟩ := id dd
  refine PySem.W.kdl_call (PySem.W.kdl_dict (knd := mixKind X.prog X.w) (kvs := vs) (ep := ep) hd) (I.ok.hd hc) ⟨o, es, h1, h2, h3, h4⟩ (by rw [← hl]; exact z) fun h' tk acc c k hD hacc => ?_
  refine ⟨.ref s.heap.objs.size, _, I.laid (a := s.heap.objs.size) (o := .lst (kvs.map fun kv => kV kv.1)) (t' := tk) k (Nat.le_refl _) ⟨by rw [List.length_map]; exact z, acc.toList, c, vals_by ?_ fun j x y hx hy => ?_, by simpa using hD⟩, rfl, q _ (I.hok.fresh (Nat.le_refl _))⟩
  · rw [List.length_map, hl, Array.length_toList]
    exact hacc.1.symm
  · obtain ⟨k', y', e1, e2⟩ := hacc.2 j y (by rw [← Array.getElem?_toList]; exact hy)
    rw [List.getElem?_map] at hx
    cases ek : kvs[j]? with
    | none => rw [ek] at hx; cases hx
    | some kv =>
      rw [ek] at hx
      obtain ⟨u, e3, _⟩ := kv_get rel (k := kv.1) (v := kv.2) ek
      rw [e1] at e3
      cases e3
      cases hx
      exact relV_key e2
def tSetD (td ty tx : TE) : TE := fun σ H Q => td σ H fun x H1 => ∃ a, x = .ref a ∧ IsD H1 a ∧ ty σ H1 fun y H2 => tx σ H2 fun z H3 => ∃ kvs k, H3 a = some (.dK kvs) ∧ y = kV k ∧ kvs.length < sizeLine ∧
  (∀ v, valV kvs k = some v → Q v H3) ∧ (valV kvs k = none → Q z (upd H3 a (.dK (putK kvs k z))))
theorem pe_setdefault {o e f : Expr} {apos cpos : Pos} {td ty tx : TE} (ho : PE X o td) (he : PE X e ty) (hf : PE X f tx) (m : M2 X o "setdefault" apos e f cpos) : PE X (.Call (.Attribute o "setdefault" apos) [e, f] [] cpos) (tSetD td ty tx) := by
  intro pins s σ H Q I h
  refine wpAny_Call_method m.base m.few m.line PySem.F.plainAttrs_dict PySem.F.slot_dict_setdefault PySem.F.type_dict_setdefault (thn (ho pins s σ H _ I h) fun u s1 ⟨x, H1, I1, rx, a, ex, d, q1⟩ => ?_)
  subst ex
  obtain rfl : u = Value.ref a := rx
  obtain ⟨t1, t2, _⟩ := isD_at I1 d
  refine ⟨t1, t2, ?_⟩
  rw [m.trees]
  refine Calls.callWith_builtin rfl (Calls.evalArgs_plain (Calls.spliced_cons (thn (he pins s1 σ H1 _ I1 q1) fun iv s2 ⟨y, H2, I2, ry, q2⟩ =>
    Calls.spliced_cons (thn (hf pins s2 σ H2 _ I2 q2) fun fv s3 ⟨z, H3, I3, rz, kvs, k, ea, ey, hl, q3, q4⟩ => Calls.spliced_nil ?_))))
  subst ey
  obtain ⟨hz, hd, vs, rel, dd⟩ := dk_of I3.hok ea
  have hzz : vs.length ≤ sizeLine := by rw [← rel.length]; exact hz
  refine call_meetsIn PySem.F.slot_dict_setdefault dd.typeIs PySem.F.entry_dict_setdefault (PySem.F.args_dict_setdefault_3 _ _ _) (kt_meets_setdefault (mixKind X.prog X.w) a (kV_is ry) hd fv) ⟨vs, dd, hzz, fun v hv => ?_, fun hn h' dd' hs => ?_⟩
  · have rel' := rel.val k
    cases l : valV kvs k with
    | none =>
      rw [l, hv] at rel'
      exact rel'.elim
    | some x =>
      rw [l, hv] at rel'
      exact ⟨x, H3, I3.tok _, rel', q3 x l⟩
  · have rel' := rel.val k
    cases l : valV kvs k with
    | some x =>
      rw [l, hn] at rel'
      exact rel'.elim
    | none =>
      have he' : ∃ q, h'.get? a = some q := let ⟨q, _, _, hq, _⟩ := dd'; ⟨q, hq⟩
      have hl2 : (putK kvs k z).length ≤ sizeLine := by have := length_putK kvs k z; omega
      exact ⟨z, _, d_write I3 (by rw [ea]; exact True.intro) hs he' (dk_new hl2 hd (rel.put k rz) dd'), rz, q4 l⟩
end
section
variable {X : Cx}
theorem call_dcopy : CallR X (.type "dict") (fun xs H Q => ∃ (p : Addr) (kvs : List (Key × V)), xs = [.ref p] ∧ Rd H p (.dK kvs) ∧ ∀ l, H l = none → Q (.ref l) (upd H l (.dK kvs))) := by
  intro pins s σ H xs us Q I r q
  obtain ⟨p, kvs, ex, hp, q⟩ := q
  subst ex
  obtain ⟨u, eu, rx⟩ := vals1 r
  subst eu
  cases rx
  exact d_copyOf I hp fun l s' hl I' => ⟨.ref l, _, I', rfl, q l hl⟩
theorem pum {pl : Sem Bool} {C : Addr} {m : Str} {ps : List Str} {sp : Sp} {k : Nat} {o e : Expr} {es : List Expr} {ta : TE} {t : TA} {apos pos : Pos} (U : UseM X.prog X.w X.K X.mg X.base k C m ps sp) (c : Cls X.K C) (hr : Room k X.A) (he : PE X o ta) (ha : PA X (e :: es) t)
    (hst : starEach (e :: es) X.env = (false, eval e X.env) :: starEach es X.env := by rfl) (hpl : (backTo pos (starEach es X.env)).any (·.1) = false := by rfl)
    (ht : eval (.Call (.Attribute o m apos) (e :: es) [] pos) X.env = (do
      let ov ← eval o X.env
      standAt apos.atName
      let (f, first) ← holding [ov] (getMethod ov m pl)
      callWith pos f first (backTo pos (starEach (e :: es) X.env)) (backToKw pos (keywordEach [] X.env))) := by rfl) :
    PE X (.Call (.Attribute o m apos) (e :: es) [] pos) (tMeth C m sp [] E0 ta t) := by
  obtain ⟨f, fd, M, F, hb⟩ := U
  exact pe_meth he c M F hr hb .nil pass0 ha hst hpl ht
theorem pum0 {pl : Sem Bool} {C : Addr} {m : Str} {ps : List Str} {sp : Sp} {k : Nat} {o : Expr} {ta : TE} {apos pos : Pos} (U : UseM X.prog X.w X.K X.mg X.base k C m ps sp) (c : Cls X.K C) (hr : Room k X.A) (he : PE X o ta)
    (ht : eval (.Call (.Attribute o m apos) [] [] pos) X.env = (do
      let ov ← eval o X.env
      standAt apos.atName
      let (f, first) ← holding [ov] (getMethod ov m pl)
      callWith pos f first (backTo pos (starEach [] X.env)) (backToKw pos (keywordEach [] X.env))) := by rfl) :
    PE X (.Call (.Attribute o m apos) [] [] pos) (tMeth C m sp [] E0 ta tNil) := by
  obtain ⟨f, fd, M, F, hb⟩ := U
  exact pe_meth0 he c M F hr hb .nil pass0 ht
end
end L2
namespace Hd
open PySem PySem.Spec PyProof.Rows L2
def top (i : Nat) : Stmt := PySem.Challenge.pw_heldthingsdesk_s01_answers.main.body.getD i (.Pass ⟨0, 0, 0, 0⟩)
abbrev s_Action_init : Stmt := inClass (top 7) 0
abbrev s_Action_with_choice : Stmt := inClass (top 7) 1
abbrev s_Action_has_choice : Stmt := inClass (top 7) 2
abbrev s_Action_replaces_holding : Stmt := inClass (top 7) 3
abbrev s_Due_init : Stmt := inClass (top 8) 0
abbrev s_Entitlement_init : Stmt := inClass (top 9) 0
abbrev s_first_price : Stmt := top 10
abbrev s_second_price : Stmt := top 11
abbrev s_over_million_up : Stmt := top 12
abbrev s_whole : Stmt := top 13
abbrev s_parts : Stmt := top 14
abbrev s_of_dividend : Stmt := top 15
abbrev s_of_split : Stmt := top 16
abbrev s_of_spinoff : Stmt := top 17
abbrev s_of_rights : Stmt := top 18
abbrev s_of_takeover : Stmt := top 19
abbrev s_entitlement : Stmt := top 20
abbrev s_is_within : Stmt := top 36
abbrev s_are_within : Stmt := top 37
abbrev s_Trade_init : Stmt := inClass (top 39) 0
abbrev s_Book_init : Stmt := inClass (top 40) 0
abbrev s_Diary_init : Stmt := inClass (top 41) 0
abbrev s_go_ex : Stmt := top 42
abbrev s_take_in : Stmt := top 43
abbrev s_settle : Stmt := top 44
abbrev s_pass_day : Stmt := top 45
abbrev s_book_of_evening : Stmt := top 46
abbrev s_is_possible : Stmt := top 47
abbrev s_are_possible : Stmt := top 48
abbrev s_Price_init : Stmt := inClass (top 50) 0
abbrev s_is_priced : Stmt := top 51
abbrev s_price_of_evening : Stmt := top 52
abbrev s_value_of_book : Stmt := top 53
abbrev s_Desk_init : Stmt := inClass (top 55) 0
abbrev s_tell_begin : Stmt := top 56
abbrev s_tell_today : Stmt := top 57
abbrev s_tell_trade : Stmt := top 58
abbrev s_is_replaced_already : Stmt := top 59
abbrev s_tell_action : Stmt := top 60
abbrev s_tell_dividend : Stmt := top 61
abbrev s_tell_split : Stmt := top 62
abbrev s_tell_spinoff : Stmt := top 63
abbrev s_tell_rights : Stmt := top 64
abbrev s_tell_takeover : Stmt := top 65
abbrev s_tell_choose : Stmt := top 66
abbrev s_tell_price : Stmt := top 67
abbrev s_tell : Stmt := top 69
abbrev s_book_on : Stmt := top 71
abbrev s_due_numbers : Stmt := top 72
abbrev s_ask_position : Stmt := top 73
abbrev s_ask_positions : Stmt := top 74
abbrev s_ask_cash : Stmt := top 75
abbrev s_ask_due : Stmt := top 76
abbrev s_ask_value : Stmt := top 77
abbrev s_ask_entitled : Stmt := top 78
abbrev s_ask_action : Stmt := top 79
abbrev s_ask_counts : Stmt := top 80
abbrev s_ask : Stmt := top 82
abbrev s_answer : Stmt := top 86
abbrev s_answers : Stmt := top 87
theorem sc_Action_init : FnScope ["self", "kind", "told"] ["self", "kind", "told"] (defScope s_Action_init) := ⟨rfl, rfl, rfl, by decide +kernel, rfl, by decide +kernel, by decide +kernel⟩
theorem sc_Action_with_choice : FnScope ["self", "choice", "told"] ["self", "choice"] (defScope s_Action_with_choice) := ⟨rfl, rfl, rfl, by decide +kernel, rfl, by decide +kernel, by decide +kernel⟩
theorem sc_Action_has_choice : FnScope ["self"] ["self"] (defScope s_Action_has_choice) := ⟨rfl, rfl, rfl, by decide +kernel, rfl, by decide +kernel, by decide +kernel⟩
theorem sc_Action_replaces_holding : FnScope ["self"] ["self"] (defScope s_Action_replaces_holding) := ⟨rfl, rfl, rfl, by decide +kernel, rfl, by decide +kernel, by decide +kernel⟩
theorem sc_Due_init : FnScope ["self", "pay", "cash", "thing", "quantity"] ["self", "pay", "cash", "thing", "quantity"] (defScope s_Due_init) := ⟨rfl, rfl, rfl, by decide +kernel, rfl, by decide +kernel, by decide +kernel⟩
theorem sc_Entitlement_init : FnScope ["self", "held", "change", "spun", "due"] ["self", "held", "change", "spun", "due"] (defScope s_Entitlement_init) := ⟨rfl, rfl, rfl, by decide +kernel, rfl, by decide +kernel, by decide +kernel⟩
theorem sc_first_price : FnScope ["action"] ["action"] (defScope s_first_price) := ⟨rfl, rfl, rfl, by decide +kernel, rfl, by decide +kernel, by decide +kernel⟩
theorem sc_second_price : FnScope ["action"] ["action"] (defScope s_second_price) := ⟨rfl, rfl, rfl, by decide +kernel, rfl, by decide +kernel, by decide +kernel⟩
theorem sc_over_million_up : FnScope ["amount"] ["amount"] (defScope s_over_million_up) := ⟨rfl, rfl, rfl, by decide +kernel, rfl, by decide +kernel, by decide +kernel⟩
theorem sc_whole : FnScope ["number", "action"] ["number", "action"] (defScope s_whole) := ⟨rfl, rfl, rfl, by decide +kernel, rfl, by decide +kernel, by decide +kernel⟩
theorem sc_parts : FnScope ["number", "action"] ["number", "action"] (defScope s_parts) := ⟨rfl, rfl, rfl, by decide +kernel, rfl, by decide +kernel, by decide +kernel⟩
theorem sc_of_dividend : FnScope ["action", "held", "cash"] ["action", "held"] (defScope s_of_dividend) := ⟨rfl, rfl, rfl, by decide +kernel, rfl, by decide +kernel, by decide +kernel⟩
theorem sc_of_split : FnScope ["action", "held", "change"] ["action", "held"] (defScope s_of_split) := ⟨rfl, rfl, rfl, by decide +kernel, rfl, by decide +kernel, by decide +kernel⟩
theorem sc_of_spinoff : FnScope ["action", "held"] ["action", "held"] (defScope s_of_spinoff) := ⟨rfl, rfl, rfl, by decide +kernel, rfl, by decide +kernel, by decide +kernel⟩
theorem sc_of_rights : FnScope ["action", "held", "rights", "used", "sold_for", "cash"] ["action", "held"] (defScope s_of_rights) := ⟨rfl, rfl, rfl, by decide +kernel, rfl, by decide +kernel, by decide +kernel⟩
theorem sc_of_takeover : FnScope ["action", "held", "exchanged", "paid", "cash"] ["action", "held"] (defScope s_of_takeover) := ⟨rfl, rfl, rfl, by decide +kernel, rfl, by decide +kernel, by decide +kernel⟩
theorem sc_entitlement : FnScope ["action", "held"] ["action", "held"] (defScope s_entitlement) := ⟨rfl, rfl, rfl, by decide +kernel, rfl, by decide +kernel, by decide +kernel⟩
theorem sc_is_within : FnScope ["name", "number"] ["name", "number"] (defScope s_is_within) := ⟨rfl, rfl, rfl, by decide +kernel, rfl, by decide +kernel, by decide +kernel⟩
theorem sc_are_within : FnScope ["told", "name", "number"] ["told"] (defScope s_are_within) := ⟨rfl, rfl, rfl, by decide +kernel, rfl, by decide +kernel, by decide +kernel⟩
theorem sc_Trade_init : FnScope ["self", "told"] ["self", "told"] (defScope s_Trade_init) := ⟨rfl, rfl, rfl, by decide +kernel, rfl, by decide +kernel, by decide +kernel⟩
theorem sc_Book_init : FnScope ["self"] ["self"] (defScope s_Book_init) := ⟨rfl, rfl, rfl, by decide +kernel, rfl, by decide +kernel, by decide +kernel⟩
theorem sc_Diary_init : FnScope ["self", "trades", "actions", "trade", "action", "busy"] ["self", "trades", "actions"] (defScope s_Diary_init) := ⟨rfl, rfl, rfl, by decide +kernel, rfl, by decide +kernel, by decide +kernel⟩
theorem sc_go_ex : FnScope ["book", "actions", "before", "action", "brought"] ["book", "actions"] (defScope s_go_ex) := ⟨rfl, rfl, rfl, by decide +kernel, rfl, by decide +kernel, by decide +kernel⟩
theorem sc_take_in : FnScope ["book", "day", "still_due", "due"] ["book", "day"] (defScope s_take_in) := ⟨rfl, rfl, rfl, by decide +kernel, rfl, by decide +kernel, by decide +kernel⟩
theorem sc_settle : FnScope ["book", "trades", "trade"] ["book", "trades"] (defScope s_settle) := ⟨rfl, rfl, rfl, by decide +kernel, rfl, by decide +kernel, by decide +kernel⟩
theorem sc_pass_day : FnScope ["book", "diary", "day"] ["book", "diary", "day"] (defScope s_pass_day) := ⟨rfl, rfl, rfl, by decide +kernel, rfl, by decide +kernel, by decide +kernel⟩
theorem sc_book_of_evening : FnScope ["trades", "actions", "evening", "book", "diary", "day"] ["trades", "actions", "evening"] (defScope s_book_of_evening) := ⟨rfl, rfl, rfl, by decide +kernel, rfl, by decide +kernel, by decide +kernel⟩
theorem sc_is_possible : FnScope ["book"] ["book"] (defScope s_is_possible) := ⟨rfl, rfl, rfl, by decide +kernel, rfl, by decide +kernel, by decide +kernel⟩
theorem sc_are_possible : FnScope ["trades", "actions", "book", "diary", "day"] ["trades", "actions"] (defScope s_are_possible) := ⟨rfl, rfl, rfl, by decide +kernel, rfl, by decide +kernel, by decide +kernel⟩
theorem sc_Price_init : FnScope ["self", "told"] ["self", "told"] (defScope s_Price_init) := ⟨rfl, rfl, rfl, by decide +kernel, rfl, by decide +kernel, by decide +kernel⟩
theorem sc_is_priced : FnScope ["prices", "day", "thing", "one"] ["prices", "day", "thing"] (defScope s_is_priced) := ⟨rfl, rfl, rfl, by decide +kernel, rfl, by decide +kernel, by decide +kernel⟩
theorem sc_price_of_evening : FnScope ["prices", "thing", "evening", "latest", "found", "one"] ["prices", "thing", "evening"] (defScope s_price_of_evening) := ⟨rfl, rfl, rfl, by decide +kernel, rfl, by decide +kernel, by decide +kernel⟩
theorem sc_value_of_book : FnScope ["book", "prices", "evening", "coins", "quantities", "due", "value", "thing"] ["book", "prices", "evening"] (defScope s_value_of_book) := ⟨rfl, rfl, rfl, by decide +kernel, rfl, by decide +kernel, by decide +kernel⟩
theorem sc_Desk_init : FnScope ["self"] ["self"] (defScope s_Desk_init) := ⟨rfl, rfl, rfl, by decide +kernel, rfl, by decide +kernel, by decide +kernel⟩
theorem sc_tell_begin : FnScope ["desk", "told", "new"] ["desk", "told"] (defScope s_tell_begin) := ⟨rfl, rfl, rfl, by decide +kernel, rfl, by decide +kernel, by decide +kernel⟩
theorem sc_tell_today : FnScope ["desk", "told"] ["desk", "told"] (defScope s_tell_today) := ⟨rfl, rfl, rfl, by decide +kernel, rfl, by decide +kernel, by decide +kernel⟩
theorem sc_tell_trade : FnScope ["desk", "told", "trades"] ["desk", "told"] (defScope s_tell_trade) := ⟨rfl, rfl, rfl, by decide +kernel, rfl, by decide +kernel, by decide +kernel⟩
theorem sc_is_replaced_already : FnScope ["desk", "action", "rivals", "one"] ["desk", "action"] (defScope s_is_replaced_already) := ⟨rfl, rfl, rfl, by decide +kernel, rfl, by decide +kernel, by decide +kernel⟩
theorem sc_tell_action : FnScope ["desk", "action", "actions"] ["desk", "action"] (defScope s_tell_action) := ⟨rfl, rfl, rfl, by decide +kernel, rfl, by decide +kernel, by decide +kernel⟩
theorem sc_tell_dividend : FnScope ["desk", "told"] ["desk", "told"] (defScope s_tell_dividend) := ⟨rfl, rfl, rfl, by decide +kernel, rfl, by decide +kernel, by decide +kernel⟩
theorem sc_tell_split : FnScope ["desk", "told"] ["desk", "told"] (defScope s_tell_split) := ⟨rfl, rfl, rfl, by decide +kernel, rfl, by decide +kernel, by decide +kernel⟩
theorem sc_tell_spinoff : FnScope ["desk", "told"] ["desk", "told"] (defScope s_tell_spinoff) := ⟨rfl, rfl, rfl, by decide +kernel, rfl, by decide +kernel, by decide +kernel⟩
theorem sc_tell_rights : FnScope ["desk", "told"] ["desk", "told"] (defScope s_tell_rights) := ⟨rfl, rfl, rfl, by decide +kernel, rfl, by decide +kernel, by decide +kernel⟩
theorem sc_tell_takeover : FnScope ["desk", "told"] ["desk", "told"] (defScope s_tell_takeover) := ⟨rfl, rfl, rfl, by decide +kernel, rfl, by decide +kernel, by decide +kernel⟩
theorem sc_tell_choose : FnScope ["desk", "told", "number", "action", "actions"] ["desk", "told"] (defScope s_tell_choose) := ⟨rfl, rfl, rfl, by decide +kernel, rfl, by decide +kernel, by decide +kernel⟩
theorem sc_tell_price : FnScope ["desk", "told"] ["desk", "told"] (defScope s_tell_price) := ⟨rfl, rfl, rfl, by decide +kernel, rfl, by decide +kernel, by decide +kernel⟩
theorem sc_tell : FnScope ["desk", "call", "told"] ["desk", "call", "told"] (defScope s_tell) := ⟨rfl, rfl, rfl, by decide +kernel, rfl, by decide +kernel, by decide +kernel⟩
theorem sc_book_on : FnScope ["desk", "day"] ["desk", "day"] (defScope s_book_on) := ⟨rfl, rfl, rfl, by decide +kernel, rfl, by decide +kernel, by decide +kernel⟩
theorem sc_due_numbers : FnScope ["due"] ["due"] (defScope s_due_numbers) := ⟨rfl, rfl, rfl, by decide +kernel, rfl, by decide +kernel, by decide +kernel⟩
theorem sc_ask_position : FnScope ["desk", "told"] ["desk", "told"] (defScope s_ask_position) := ⟨rfl, rfl, rfl, by decide +kernel, rfl, by decide +kernel, by decide +kernel⟩
theorem sc_ask_positions : FnScope ["desk", "told"] ["desk", "told"] (defScope s_ask_positions) := ⟨rfl, rfl, rfl, by decide +kernel, rfl, by decide +kernel, by decide +kernel⟩
theorem sc_ask_cash : FnScope ["desk", "told"] ["desk", "told"] (defScope s_ask_cash) := ⟨rfl, rfl, rfl, by decide +kernel, rfl, by decide +kernel, by decide +kernel⟩
theorem sc_ask_due : FnScope ["desk", "told", "dues", "answered", "due"] ["desk", "told"] (defScope s_ask_due) := ⟨rfl, rfl, rfl, by decide +kernel, rfl, by decide +kernel, by decide +kernel⟩
theorem sc_ask_value : FnScope ["desk", "told", "day"] ["desk", "told"] (defScope s_ask_value) := ⟨rfl, rfl, rfl, by decide +kernel, rfl, by decide +kernel, by decide +kernel⟩
theorem sc_ask_entitled : FnScope ["desk", "told", "number", "action", "held", "brought"] ["desk", "told"] (defScope s_ask_entitled) := ⟨rfl, rfl, rfl, by decide +kernel, rfl, by decide +kernel, by decide +kernel⟩
theorem sc_ask_action : FnScope ["desk", "told", "number", "action", "days", "terms"] ["desk", "told"] (defScope s_ask_action) := ⟨rfl, rfl, rfl, by decide +kernel, rfl, by decide +kernel, by decide +kernel⟩
theorem sc_ask_counts : FnScope ["desk", "told"] ["desk", "told"] (defScope s_ask_counts) := ⟨rfl, rfl, rfl, by decide +kernel, rfl, by decide +kernel, by decide +kernel⟩
theorem sc_ask : FnScope ["desk", "call", "told"] ["desk", "call", "told"] (defScope s_ask) := ⟨rfl, rfl, rfl, by decide +kernel, rfl, by decide +kernel, by decide +kernel⟩
theorem sc_answer : FnScope ["desk", "call", "told"] ["desk", "call", "told"] (defScope s_answer) := ⟨rfl, rfl, rfl, by decide +kernel, rfl, by decide +kernel, by decide +kernel⟩
theorem sc_answers : FnScope ["calls", "desk", "answered", "at", "names", "behind", "told", "said"] ["calls"] (defScope s_answers) := ⟨rfl, rfl, rfl, by decide +kernel, rfl, by decide +kernel, by decide +kernel⟩
def fAction (v0 v1 v2 v3 v4 v5 v6 v7 v8 v9 v10 v11 v12 : V) : List (Str × V) := [("kind", v0), ("told", v1), ("thing", v2), ("other", v3), ("ex", v4), ("pay", v5), ("last", v6), ("a", v7), ("b", v8), ("rate", v9), ("price", v10), ("for_each", v11), ("choice", v12)]
theorem lAction_kind (v0 v1 v2 v3 v4 v5 v6 v7 v8 v9 v10 v11 v12 : V) : (fAction v0 v1 v2 v3 v4 v5 v6 v7 v8 v9 v10 v11 v12).lookup ("kind" : Str) = some v0 := rfl
theorem lAction_told (v0 v1 v2 v3 v4 v5 v6 v7 v8 v9 v10 v11 v12 : V) : (fAction v0 v1 v2 v3 v4 v5 v6 v7 v8 v9 v10 v11 v12).lookup ("told" : Str) = some v1 := rfl
theorem lAction_thing (v0 v1 v2 v3 v4 v5 v6 v7 v8 v9 v10 v11 v12 : V) : (fAction v0 v1 v2 v3 v4 v5 v6 v7 v8 v9 v10 v11 v12).lookup ("thing" : Str) = some v2 := rfl
theorem lAction_other (v0 v1 v2 v3 v4 v5 v6 v7 v8 v9 v10 v11 v12 : V) : (fAction v0 v1 v2 v3 v4 v5 v6 v7 v8 v9 v10 v11 v12).lookup ("other" : Str) = some v3 := rfl
theorem lAction_ex (v0 v1 v2 v3 v4 v5 v6 v7 v8 v9 v10 v11 v12 : V) : (fAction v0 v1 v2 v3 v4 v5 v6 v7 v8 v9 v10 v11 v12).lookup ("ex" : Str) = some v4 := rfl
theorem lAction_pay (v0 v1 v2 v3 v4 v5 v6 v7 v8 v9 v10 v11 v12 : V) : (fAction v0 v1 v2 v3 v4 v5 v6 v7 v8 v9 v10 v11 v12).lookup ("pay" : Str) = some v5 := rfl
theorem lAction_last (v0 v1 v2 v3 v4 v5 v6 v7 v8 v9 v10 v11 v12 : V) : (fAction v0 v1 v2 v3 v4 v5 v6 v7 v8 v9 v10 v11 v12).lookup ("last" : Str) = some v6 := rfl
theorem lAction_a (v0 v1 v2 v3 v4 v5 v6 v7 v8 v9 v10 v11 v12 : V) : (fAction v0 v1 v2 v3 v4 v5 v6 v7 v8 v9 v10 v11 v12).lookup ("a" : Str) = some v7 := rfl
theorem lAction_b (v0 v1 v2 v3 v4 v5 v6 v7 v8 v9 v10 v11 v12 : V) : (fAction v0 v1 v2 v3 v4 v5 v6 v7 v8 v9 v10 v11 v12).lookup ("b" : Str) = some v8 := rfl
theorem lAction_rate (v0 v1 v2 v3 v4 v5 v6 v7 v8 v9 v10 v11 v12 : V) : (fAction v0 v1 v2 v3 v4 v5 v6 v7 v8 v9 v10 v11 v12).lookup ("rate" : Str) = some v9 := rfl
theorem lAction_price (v0 v1 v2 v3 v4 v5 v6 v7 v8 v9 v10 v11 v12 : V) : (fAction v0 v1 v2 v3 v4 v5 v6 v7 v8 v9 v10 v11 v12).lookup ("price" : Str) = some v10 := rfl
theorem lAction_for_each (v0 v1 v2 v3 v4 v5 v6 v7 v8 v9 v10 v11 v12 : V) : (fAction v0 v1 v2 v3 v4 v5 v6 v7 v8 v9 v10 v11 v12).lookup ("for_each" : Str) = some v11 := rfl
theorem lAction_choice (v0 v1 v2 v3 v4 v5 v6 v7 v8 v9 v10 v11 v12 : V) : (fAction v0 v1 v2 v3 v4 v5 v6 v7 v8 v9 v10 v11 v12).lookup ("choice" : Str) = some v12 := rfl
def fDue (v0 v1 v2 v3 : V) : List (Str × V) := [("pay", v0), ("cash", v1), ("thing", v2), ("quantity", v3)]
theorem lDue_pay (v0 v1 v2 v3 : V) : (fDue v0 v1 v2 v3).lookup ("pay" : Str) = some v0 := rfl
theorem lDue_cash (v0 v1 v2 v3 : V) : (fDue v0 v1 v2 v3).lookup ("cash" : Str) = some v1 := rfl
theorem lDue_thing (v0 v1 v2 v3 : V) : (fDue v0 v1 v2 v3).lookup ("thing" : Str) = some v2 := rfl
theorem lDue_quantity (v0 v1 v2 v3 : V) : (fDue v0 v1 v2 v3).lookup ("quantity" : Str) = some v3 := rfl
def fEntitlement (v0 v1 v2 v3 : V) : List (Str × V) := [("held", v0), ("change", v1), ("spun", v2), ("due", v3)]
theorem lEntitlement_held (v0 v1 v2 v3 : V) : (fEntitlement v0 v1 v2 v3).lookup ("held" : Str) = some v0 := rfl
theorem lEntitlement_change (v0 v1 v2 v3 : V) : (fEntitlement v0 v1 v2 v3).lookup ("change" : Str) = some v1 := rfl
theorem lEntitlement_spun (v0 v1 v2 v3 : V) : (fEntitlement v0 v1 v2 v3).lookup ("spun" : Str) = some v2 := rfl
theorem lEntitlement_due (v0 v1 v2 v3 : V) : (fEntitlement v0 v1 v2 v3).lookup ("due" : Str) = some v3 := rfl
def fTrade (v0 v1 v2 v3 : V) : List (Str × V) := [("day", v0), ("thing", v1), ("quantity", v2), ("money", v3)]
theorem lTrade_day (v0 v1 v2 v3 : V) : (fTrade v0 v1 v2 v3).lookup ("day" : Str) = some v0 := rfl
theorem lTrade_thing (v0 v1 v2 v3 : V) : (fTrade v0 v1 v2 v3).lookup ("thing" : Str) = some v1 := rfl
theorem lTrade_quantity (v0 v1 v2 v3 : V) : (fTrade v0 v1 v2 v3).lookup ("quantity" : Str) = some v2 := rfl
theorem lTrade_money (v0 v1 v2 v3 : V) : (fTrade v0 v1 v2 v3).lookup ("money" : Str) = some v3 := rfl
def fBook (v0 v1 v2 : V) : List (Str × V) := [("quantities", v0), ("cash", v1), ("dues", v2)]
theorem lBook_quantities (v0 v1 v2 : V) : (fBook v0 v1 v2).lookup ("quantities" : Str) = some v0 := rfl
theorem lBook_cash (v0 v1 v2 : V) : (fBook v0 v1 v2).lookup ("cash" : Str) = some v1 := rfl
theorem lBook_dues (v0 v1 v2 : V) : (fBook v0 v1 v2).lookup ("dues" : Str) = some v2 := rfl
theorem pBook_cash (v0 v1 v2 v : V) : putF "cash" v (fBook v0 v1 v2) = fBook v0 v v2 := rfl
theorem pBook_dues (v0 v1 v2 v : V) : putF "dues" v (fBook v0 v1 v2) = fBook v0 v1 v := rfl
def fDiary (v0 v1 v2 : V) : List (Str × V) := [("trades_on", v0), ("actions_on", v1), ("days", v2)]
theorem lDiary_trades_on (v0 v1 v2 : V) : (fDiary v0 v1 v2).lookup ("trades_on" : Str) = some v0 := rfl
theorem lDiary_actions_on (v0 v1 v2 : V) : (fDiary v0 v1 v2).lookup ("actions_on" : Str) = some v1 := rfl
theorem lDiary_days (v0 v1 v2 : V) : (fDiary v0 v1 v2).lookup ("days" : Str) = some v2 := rfl
def fPrice (v0 v1 v2 : V) : List (Str × V) := [("day", v0), ("thing", v1), ("price", v2)]
theorem lPrice_day (v0 v1 v2 : V) : (fPrice v0 v1 v2).lookup ("day" : Str) = some v0 := rfl
theorem lPrice_thing (v0 v1 v2 : V) : (fPrice v0 v1 v2).lookup ("thing" : Str) = some v1 := rfl
theorem lPrice_price (v0 v1 v2 : V) : (fPrice v0 v1 v2).lookup ("price" : Str) = some v2 := rfl
def fDesk (v0 v1 v2 v3 : V) : List (Str × V) := [("today", v0), ("trades", v1), ("actions", v2), ("prices", v3)]
theorem lDesk_today (v0 v1 v2 v3 : V) : (fDesk v0 v1 v2 v3).lookup ("today" : Str) = some v0 := rfl
theorem lDesk_trades (v0 v1 v2 v3 : V) : (fDesk v0 v1 v2 v3).lookup ("trades" : Str) = some v1 := rfl
theorem lDesk_actions (v0 v1 v2 v3 : V) : (fDesk v0 v1 v2 v3).lookup ("actions" : Str) = some v2 := rfl
theorem lDesk_prices (v0 v1 v2 v3 : V) : (fDesk v0 v1 v2 v3).lookup ("prices" : Str) = some v3 := rfl
theorem pDesk_today (v0 v1 v2 v3 v : V) : putF "today" v (fDesk v0 v1 v2 v3) = fDesk v v1 v2 v3 := rfl
theorem pDesk_trades (v0 v1 v2 v3 v : V) : putF "trades" v (fDesk v0 v1 v2 v3) = fDesk v0 v v2 v3 := rfl
theorem pDesk_actions (v0 v1 v2 v3 v : V) : putF "actions" v (fDesk v0 v1 v2 v3) = fDesk v0 v1 v v3 := rfl
theorem pDesk_prices (v0 v1 v2 v3 v : V) : putF "prices" v (fDesk v0 v1 v2 v3) = fDesk v0 v1 v2 v := rfl
structure Ad where
  Action : Addr
  Due : Addr
  Entitlement : Addr
  Trade : Addr
  Book : Addr
  Diary : Addr
  Price : Addr
  Desk : Addr
  RANGES : Addr
  TELLINGS : Addr
  QUESTIONS : Addr
  ARGUMENTS : Addr
structure Txt (K : PySem.W.Frag) (mg : Str → Option Value) (a : Ad) : Prop where
  g_DIVIDEND : ∃ t, mg "DIVIDEND" = some (.int (1) t)
  g_SPLIT : ∃ t, mg "SPLIT" = some (.int (2) t)
  g_SPINOFF : ∃ t, mg "SPINOFF" = some (.int (3) t)
  g_RIGHTS : ∃ t, mg "RIGHTS" = some (.int (4) t)
  g_TAKEOVER : ∃ t, mg "TAKEOVER" = some (.int (5) t)
  g_MILLION : ∃ t, mg "MILLION" = some (.int (1000000) t)
  g_THINGS : ∃ t, mg "THINGS" = some (.int (12) t)
  g_MOST_TRADES : ∃ t, mg "MOST_TRADES" = some (.int (100) t)
  g_MOST_ACTIONS : ∃ t, mg "MOST_ACTIONS" = some (.int (30) t)
  g_MOST_PRICES : ∃ t, mg "MOST_PRICES" = some (.int (200) t)
  g_GREATEST_QUANTITY : ∃ t, mg "GREATEST_QUANTITY" = some (.int (1000000000000000) t)
  g_OUT_OF_RANGE : ∃ t, mg "OUT_OF_RANGE" = some (.int (-1) t)
  g_PAY_TOO_EARLY : ∃ t, mg "PAY_TOO_EARLY" = some (.int (-3) t)
  g_NOT_THERE : ∃ t, mg "NOT_THERE" = some (.int (-4) t)
  g_TOLD_ALREADY : ∃ t, mg "TOLD_ALREADY" = some (.int (-5) t)
  g_NOT_FITTING : ∃ t, mg "NOT_FITTING" = some (.int (-6) t)
  g_QUANTITY_IMPOSSIBLE : ∃ t, mg "QUANTITY_IMPOSSIBLE" = some (.int (-7) t)
  g_FULL : ∃ t, mg "FULL" = some (.int (-8) t)
  g_TOO_LATE : ∃ t, mg "TOO_LATE" = some (.int (-9) t)
  g_FIRST_QUESTION : ∃ t, mg "FIRST_QUESTION" = some (.int (10) t)
  d_RANGES : mg "RANGES" = some (.ref a.RANGES)
  d_TELLINGS : mg "TELLINGS" = some (.ref a.TELLINGS)
  d_QUESTIONS : mg "QUESTIONS" = some (.ref a.QUESTIONS)
  d_ARGUMENTS : mg "ARGUMENTS" = some (.ref a.ARGUMENTS)
  b_len : mg "len" = none
  b_min : mg "min" = none
  b_max : mg "max" = none
  b_any : mg "any" = none
  b_all : mg "all" = none
  b_sorted : mg "sorted" = none
  b_set : mg "set" = none
  b_list : mg "list" = none
  b_dict : mg "dict" = none
  b_zip : mg "zip" = none
  b_range : mg "range" = none
  c_Action : Cls K a.Action
  nAction_kind : NoAttr K a.Action "kind"
  nAction_told : NoAttr K a.Action "told"
  nAction_thing : NoAttr K a.Action "thing"
  nAction_other : NoAttr K a.Action "other"
  nAction_ex : NoAttr K a.Action "ex"
  nAction_pay : NoAttr K a.Action "pay"
  nAction_last : NoAttr K a.Action "last"
  nAction_a : NoAttr K a.Action "a"
  nAction_b : NoAttr K a.Action "b"
  nAction_rate : NoAttr K a.Action "rate"
  nAction_price : NoAttr K a.Action "price"
  nAction_for_each : NoAttr K a.Action "for_each"
  nAction_choice : NoAttr K a.Action "choice"
  c_Due : Cls K a.Due
  nDue_pay : NoAttr K a.Due "pay"
  nDue_cash : NoAttr K a.Due "cash"
  nDue_thing : NoAttr K a.Due "thing"
  nDue_quantity : NoAttr K a.Due "quantity"
  c_Entitlement : Cls K a.Entitlement
  nEntitlement_held : NoAttr K a.Entitlement "held"
  nEntitlement_change : NoAttr K a.Entitlement "change"
  nEntitlement_spun : NoAttr K a.Entitlement "spun"
  nEntitlement_due : NoAttr K a.Entitlement "due"
  c_Trade : Cls K a.Trade
  nTrade_day : NoAttr K a.Trade "day"
  nTrade_thing : NoAttr K a.Trade "thing"
  nTrade_quantity : NoAttr K a.Trade "quantity"
  nTrade_money : NoAttr K a.Trade "money"
  c_Book : Cls K a.Book
  nBook_quantities : NoAttr K a.Book "quantities"
  nBook_cash : NoAttr K a.Book "cash"
  nBook_dues : NoAttr K a.Book "dues"
  c_Diary : Cls K a.Diary
  nDiary_trades_on : NoAttr K a.Diary "trades_on"
  nDiary_actions_on : NoAttr K a.Diary "actions_on"
  nDiary_days : NoAttr K a.Diary "days"
  c_Price : Cls K a.Price
  nPrice_day : NoAttr K a.Price "day"
  nPrice_thing : NoAttr K a.Price "thing"
  nPrice_price : NoAttr K a.Price "price"
  c_Desk : Cls K a.Desk
  nDesk_today : NoAttr K a.Desk "today"
  nDesk_trades : NoAttr K a.Desk "trades"
  nDesk_actions : NoAttr K a.Desk "actions"
  nDesk_prices : NoAttr K a.Desk "prices"
end Hd
namespace Hd
open PySem PySem.Spec PyProof.Rows L2
open Vbfuah (Action Trade Price Book State effect acted paid traded dayDone days emptyBook at_ addAt)
abbrev nV (n : Nat) : V := .int (n : Int)
def kvsOf (x : Action) : List (Key × V) :=
  if x.kind = 1 then [(.inr "thing", nV x.sec), (.inr "ex", nV x.ex), (.inr "pay", nV x.pay), (.inr "rate", nV x.price)]
  else if x.kind = 2 then [(.inr "thing", nV x.sec), (.inr "ex", nV x.ex), (.inr "pay", nV x.pay), (.inr "a", nV x.a), (.inr "b", nV x.b), (.inr "price", nV x.price)]
  else if x.kind = 3 then [(.inr "thing", nV x.sec), (.inr "other", nV x.dest), (.inr "ex", nV x.ex), (.inr "pay", nV x.pay), (.inr "a", nV x.a), (.inr "b", nV x.b), (.inr "price", nV x.price)]
  else if x.kind = 4 then [(.inr "thing", nV x.sec), (.inr "ex", nV x.ex), (.inr "pay", nV x.pay), (.inr "last", nV x.last), (.inr "a", nV x.a), (.inr "b", nV x.b), (.inr "price", nV x.price), (.inr "for_each", nV x.sub), (.inr "choice", nV x.choice)]
  else [(.inr "thing", nV x.sec), (.inr "other", nV x.dest), (.inr "ex", nV x.ex), (.inr "pay", nV x.pay), (.inr "last", nV x.last), (.inr "a", nV x.a), (.inr "b", nV x.b), (.inr "for_each", nV x.price), (.inr "price", nV x.sub), (.inr "choice", nV x.choice)]
def fAct (x : Action) (t : Addr) : List (Str × V) := fAction (nV x.kind) (.ref t) (nV x.sec) (nV x.dest) (nV x.ex) (nV x.pay) (nV x.last) (nV x.a) (nV x.b) (nV (rateOf x)) (nV (priceOf x)) (nV (eachOf x)) (nV x.choice)
def gd (kvs : List (Key × V)) (n : Str) (d : Int) : V := (valV kvs (.inr n)).getD (.int d)
theorem act_fields {x : Action} (w : WfA x) (t : Addr) : valV (kvsOf x) (.inr "thing") = some (nV x.sec) ∧ valV (kvsOf x) (.inr "ex") = some (nV x.ex) ∧ valV (kvsOf x) (.inr "pay") = some (nV x.pay) ∧
    fAction (nV x.kind) (.ref t) (nV x.sec) (gd (kvsOf x) "other" 0) (nV x.ex) (nV x.pay) (gd (kvsOf x) "last" 0) (gd (kvsOf x) "a" 1) (gd (kvsOf x) "b" 1) (gd (kvsOf x) "rate" 0) (gd (kvsOf x) "price" 0) (gd (kvsOf x) "for_each" 0) (gd (kvsOf x) "choice" 0) = fAct x t := by
  unfold fAct kvsOf rateOf priceOf eachOf
  rcases w.cases with h | h | h | h | h
  · obtain ⟨a1, a2, a3, a4, a5, a6⟩ := w.z1 h
    simp only [h, a1, a2, a3, a4, a5, a6, if_pos, if_true]
    exact ⟨rfl, rfl, rfl, rfl⟩
  · obtain ⟨a1, a2, a3, a4⟩ := w.z2 h
    simp only [h, a1, a2, a3, a4]
    exact ⟨rfl, rfl, rfl, rfl⟩
  · obtain ⟨a1, a2, a3, a4⟩ := w.z3 h
    simp only [h, a2, a3, a4]
    exact ⟨rfl, rfl, rfl, rfl⟩
  · have a1 := w.z4 h
    simp only [h, a1]
    exact ⟨rfl, rfl, rfl, rfl⟩
  · simp only [h]
    exact ⟨rfl, rfl, rfl, rfl⟩
theorem kvs_choice {x : Action} (h : 4 ≤ x.kind) (w : WfA x) (c : Nat) : putK (kvsOf x) (.inr "choice") (nV c) = kvsOf { x with choice := c } := by
  unfold kvsOf
  rcases w.cases with e | e | e | e | e
  · omega
  · omega
  · omega
  · simp only [e]
    rfl
  · simp only [e]
    rfl
section
variable (a : Ad) (H : Hp)
def IsDue (p : Addr) (d : Vbfuah.Due) : Prop := ∃ dx, H p = some (.ins a.Due dx (fDue (nV d.day) (.int d.cash) (nV d.sec) (nV d.qty)))
def IsAct (p : Addr) (x : Action) : Prop := ∃ dx t, H p = some (.ins a.Action dx (fAct x t)) ∧ H t = some (.dK (kvsOf x))
def IsTrade (p : Addr) (t : Trade) : Prop := ∃ dx, H p = some (.ins a.Trade dx (fTrade (nV t.day) (nV t.sec) (.int t.qty) (nV t.money)))
def IsPrice (p : Addr) (t : Price) : Prop := ∃ dx, H p = some (.ins a.Price dx (fPrice (nV t.day) (nV t.sec) (nV t.price)))
def IsEnt (p : Addr) (q : Int) (e : Vbfuah.Effect) : Prop := ∃ dx d, H p = some (.ins a.Entitlement dx (fEntitlement (.int q) (.int e.own) (nV e.other) (.ref d))) ∧ IsDue a H d e.due
def LOf {α : Type} (l : Addr) (P : Addr → α → Prop) (xs : List α) : Prop := ∃ ps : List Addr, H l = some (.lst (ps.map V.ref)) ∧ Paired P ps xs
end
section
variable {a : Ad} {H H' : Hp}
theorem IsDue.same {p : Addr} {d : Vbfuah.Due} (h : IsDue a H p d) (s : Same H H') : IsDue a H' p d := let ⟨dx, e⟩ := h; ⟨dx, s _ _ e⟩
theorem IsAct.same {p : Addr} {d : Action} (h : IsAct a H p d) (s : Same H H') : IsAct a H' p d := let ⟨dx, t, e, e2⟩ := h; ⟨dx, t, s _ _ e, s _ _ e2⟩
theorem IsTrade.same {p : Addr} {d : Trade} (h : IsTrade a H p d) (s : Same H H') : IsTrade a H' p d := let ⟨dx, e⟩ := h; ⟨dx, s _ _ e⟩
theorem IsPrice.same {p : Addr} {d : Price} (h : IsPrice a H p d) (s : Same H H') : IsPrice a H' p d := let ⟨dx, e⟩ := h; ⟨dx, s _ _ e⟩
theorem LOf.same {α : Type} {l : Addr} {P P' : Addr → α → Prop} {xs : List α} (h : LOf H l P xs) (s : Same H H') (k : ∀ p x, P p x → P' p x) : LOf H' l P' xs := let ⟨ps, e, r⟩ := h; ⟨ps, s _ _ e, L2.Paired.mapP r k⟩
theorem Same.new {p : Addr} {o : HO} (h : H p = none) : Same H (upd H p o) := fun b u e => by
  rw [upd_ne (ne_of_none e h)]
  exact e
theorem Same.put {H0 : Hp} {p : Addr} {o : HO} (s : Same H0 H) (h : H0 p = none) : Same H0 (upd H p o) := fun b u e => by
  rw [upd_ne (ne_of_none e h)]
  exact s _ _ e
theorem Same.made' {x dx C : Addr} {o : HO} (nx : H x = none) (nd : H dx = none) : Same H (upd (upd (upd H dx (.own x)) x (.ins C dx [])) x o) := fun b u e => by
  rw [upd_ne (ne_of_none e nx), upd_ne (ne_of_none e nx), upd_ne (ne_of_none e nd)]
  exact e
end
end Hd
namespace L2
open PySem PySem.Spec PyProof.Rows
section
variable {K : PySem.W.Frag} {σ : St} {H : Hp} {ta tb te : TE} {v : V} {u : TS} {D : Ends}
theorem s_fldE {f : Str} {a C dx : Addr} {fs fs' : List (Str × V)} (p : Rv tb σ H v) (r : Rv ta σ H (.ref a)) (h : H a = some (.ins C dx fs)) (c : Cls K C) (n : NoAttr K C f) (l : fs.length < 1000) (e : putF f v fs = fs') (k : D.nx σ (upd H a (.ins C dx fs'))) : sFld K ta tb f D σ H :=
  s_fld p r h c n l (by rw [e]; exact k)
theorem q_fld {f : Str} {a C dx : Addr} {fs fs' : List (Str × V)} (p : Rv tb σ H v) (r : Rv ta σ H (.ref a)) (h : H a = some (.ins C dx fs)) (c : Cls K C) (n : NoAttr K C f) (l : fs.length < 1000) (e : putF f v fs = fs') (k : u D σ (upd H a (.ins C dx fs'))) : tSeq (sFld K ta tb f) u D σ H :=
  s_fldE (D := { D with nx := u D }) p r h c n l e k
theorem q_set {n : Nat} {σ' : St} (p : Rv ta σ H v) (e : σ.set n (some v) = σ') (k : u D σ' H) : tSeq (tAsg ta (gName n)) u D σ H := p _ (by rw [← e] at k; exact k)
theorem q_ifr {tq : TT} {b : Bool} (c : Rt tq σ H b) (h1 : b = true → te σ H D.rt) (h2 : b = false → u D σ H) : tSeq (tIfS tq (tRet te) tNext) u D σ H := s_if (D := { D with nx := u D }) c h1 h2
theorem q_let {n : Nat} (k : te σ H fun x H1 => u D (σ.set n (some x)) H1) : tSeq (tAsg te (gName n)) u D σ H := k
theorem q_do (k : te σ H fun _ H1 => u D σ H1) : tSeq (tDrop te) u D σ H := k
end
end L2
namespace Hd
open PySem PySem.Spec PyProof.Rows L2
open Vbfuah (Action Trade Price Book State effect acted paid traded dayDone days emptyBook at_ addAt)
def sp_Due_init (K : PySem.W.Frag) (a : Ad) : Sp := fun vs H Q _ => ∃ p dx v1 v2 v3 v4, vs = [.ref p, v1, v2, v3, v4] ∧ H p = some (.ins a.Due dx []) ∧ Q .non (upd H p (.ins a.Due dx (fDue v1 v2 v3 v4)))
def sp_Entitlement_init (K : PySem.W.Frag) (a : Ad) : Sp := fun vs H Q _ => ∃ p dx v1 v2 v3 v4, vs = [.ref p, v1, v2, v3, v4] ∧ H p = some (.ins a.Entitlement dx []) ∧ Q .non (upd H p (.ins a.Entitlement dx (fEntitlement v1 v2 v3 v4)))
def sp_Trade_init (K : PySem.W.Frag) (a : Ad) : Sp := fun vs H Q _ => ∃ p dx t kvs v1 v2 v3 v4, vs = [.ref p, .ref t] ∧ H p = some (.ins a.Trade dx []) ∧ H t = some (.dK kvs) ∧ valV kvs (.inr "day") = some v1 ∧ valV kvs (.inr "thing") = some v2 ∧ valV kvs (.inr "quantity") = some v3 ∧ valV kvs (.inr "money") = some v4 ∧
  Q .non (upd H p (.ins a.Trade dx (fTrade v1 v2 v3 v4)))
def sp_Price_init (K : PySem.W.Frag) (a : Ad) : Sp := fun vs H Q _ => ∃ p dx t kvs v1 v2 v3, vs = [.ref p, .ref t] ∧ H p = some (.ins a.Price dx []) ∧ H t = some (.dK kvs) ∧ valV kvs (.inr "day") = some v1 ∧ valV kvs (.inr "thing") = some v2 ∧ valV kvs (.inr "price") = some v3 ∧
  Q .non (upd H p (.ins a.Price dx (fPrice v1 v2 v3)))
def sp_Action_init (K : PySem.W.Frag) (a : Ad) : Sp := fun vs H Q _ => ∃ p dx t kvs vk v1 v2 v3, vs = [.ref p, vk, .ref t] ∧ H p = some (.ins a.Action dx []) ∧ H t = some (.dK kvs) ∧ valV kvs (.inr "thing") = some v1 ∧ valV kvs (.inr "ex") = some v2 ∧ valV kvs (.inr "pay") = some v3 ∧
  Q .non (upd H p (.ins a.Action dx (fAction vk (.ref t) v1 (gd kvs "other" 0) v2 v3 (gd kvs "last" 0) (gd kvs "a" 1) (gd kvs "b" 1) (gd kvs "rate" 0) (gd kvs "price" 0) (gd kvs "for_each" 0) (gd kvs "choice" 0))))
section
variable {P : Program} {w : World} {K : PySem.W.Frag} {mg : Str → Option Value} {base : Heap} {a : Ad}
theorem ok_Due_init {f : Addr} {fd : FuncData} (F : Fun K "__init__" "Due.__init__" s_Due_init f fd) (T : Txt K mg a) : FnOk P w K mg base CX0 1 f fd ["self", "pay", "cash", "thing", "quantity"] (sp_Due_init K a) := by
  refine F.ok sc_Due_init (fun vs H Q E h => ?_) (fun cdv A outer s H vs Q E hr h => ?_)
  · obtain ⟨p, dx, v1, v2, v3, v4, rfl, _⟩ := h
    rfl
  · obtain ⟨p, dx, v1, v2, v3, v4, rfl, hp, k⟩ := h
    refine ⟨_, (pss_cons (ps_fld (pv 0) (pv 1) rfl)
      (pss_cons (ps_fld (pv 0) (pv 2) rfl)
      (pss_cons (ps_fld (pv 0) (pv 3) rfl)
      (pss_one (ps_fld (pv 0) (pv 4) rfl))))), ?_⟩
    refine q_fld (fs' := [("pay", v1)]) rv rv hp T.c_Due T.nDue_pay (show 0 < 1000 by decide) rfl ?_
    refine q_fld (fs' := [("pay", v1), ("cash", v2)]) rv rv upd_same T.c_Due T.nDue_cash (show 1 < 1000 by decide) rfl ?_
    refine q_fld (fs' := [("pay", v1), ("cash", v2), ("thing", v3)]) rv rv upd_same T.c_Due T.nDue_thing (show 2 < 1000 by decide) rfl ?_
    refine s_fldE (fs' := fDue v1 v2 v3 v4) rv rv upd_same T.c_Due T.nDue_quantity (show 3 < 1000 by decide) rfl ?_
    rw [upd_upd, upd_upd, upd_upd]
    exact k
theorem ok_Entitlement_init {f : Addr} {fd : FuncData} (F : Fun K "__init__" "Entitlement.__init__" s_Entitlement_init f fd) (T : Txt K mg a) : FnOk P w K mg base CX0 1 f fd ["self", "held", "change", "spun", "due"] (sp_Entitlement_init K a) := by
  refine F.ok sc_Entitlement_init (fun vs H Q E h => ?_) (fun cdv A outer s H vs Q E hr h => ?_)
  · obtain ⟨p, dx, v1, v2, v3, v4, rfl, _⟩ := h
    rfl
  · obtain ⟨p, dx, v1, v2, v3, v4, rfl, hp, k⟩ := h
    refine ⟨_, (pss_cons (ps_fld (pv 0) (pv 1) rfl)
      (pss_cons (ps_fld (pv 0) (pv 2) rfl)
      (pss_cons (ps_fld (pv 0) (pv 3) rfl)
      (pss_one (ps_fld (pv 0) (pv 4) rfl))))), ?_⟩
    refine q_fld (fs' := [("held", v1)]) rv rv hp T.c_Entitlement T.nEntitlement_held (show 0 < 1000 by decide) rfl ?_
    refine q_fld (fs' := [("held", v1), ("change", v2)]) rv rv upd_same T.c_Entitlement T.nEntitlement_change (show 1 < 1000 by decide) rfl ?_
    refine q_fld (fs' := [("held", v1), ("change", v2), ("spun", v3)]) rv rv upd_same T.c_Entitlement T.nEntitlement_spun (show 2 < 1000 by decide) rfl ?_
    refine s_fldE (fs' := fEntitlement v1 v2 v3 v4) rv rv upd_same T.c_Entitlement T.nEntitlement_due (show 3 < 1000 by decide) rfl ?_
    rw [upd_upd, upd_upd, upd_upd]
    exact k
theorem ok_Trade_init {f : Addr} {fd : FuncData} (F : Fun K "__init__" "Trade.__init__" s_Trade_init f fd) (T : Txt K mg a) : FnOk P w K mg base CX0 1 f fd ["self", "told"] (sp_Trade_init K a) := by
  refine F.ok sc_Trade_init (fun vs H Q E h => ?_) (fun cdv A outer s H vs Q E hr h => ?_)
  · obtain ⟨p, dx, t, kvs, v1, v2, v3, v4, rfl, _⟩ := h
    rfl
  · obtain ⟨p, dx, t, kvs, v1, v2, v3, v4, rfl, hp, ht, l1, l2, l3, l4, k⟩ := h
    have ne : t ≠ p := ne_of ht hp (by intro z; cases z)
    have g : ∀ (o : HO), (upd H p o) t = some (.dK kvs) := fun o => by rw [upd_ne ne]; exact ht
    refine ⟨_, (pss_cons (ps_fld (pv 0) (pe_dget (hu_of hr) (pv 1) pe_str (fun _ _ => rfl)) rfl)
      (pss_cons (ps_fld (pv 0) (pe_dget (hu_of hr) (pv 1) pe_str (fun _ _ => rfl)) rfl)
      (pss_cons (ps_fld (pv 0) (pe_dget (hu_of hr) (pv 1) pe_str (fun _ _ => rfl)) rfl)
      (pss_one (ps_fld (pv 0) (pe_dget (hu_of hr) (pv 1) pe_str (fun _ _ => rfl)) rfl))))), ?_⟩
    refine q_fld (fs' := [("day", v1)]) (rdg rv rc (by rw [← l1]; exact DGet.k (k := Sum.inr "day") ht)) rv hp T.c_Trade T.nTrade_day (show 0 < 1000 by decide) rfl ?_
    refine q_fld (fs' := [("day", v1), ("thing", v2)]) (rdg rv rc (by rw [← l2]; exact DGet.k (k := Sum.inr "thing") (g _))) rv upd_same T.c_Trade T.nTrade_thing (show 1 < 1000 by decide) rfl ?_
    rw [upd_upd]
    refine q_fld (fs' := [("day", v1), ("thing", v2), ("quantity", v3)]) (rdg rv rc (by rw [← l3]; exact DGet.k (k := Sum.inr "quantity") (g _))) rv upd_same T.c_Trade T.nTrade_quantity (show 2 < 1000 by decide) rfl ?_
    rw [upd_upd]
    refine s_fldE (fs' := fTrade v1 v2 v3 v4) (rdg rv rc (by rw [← l4]; exact DGet.k (k := Sum.inr "money") (g _))) rv upd_same T.c_Trade T.nTrade_money (show 3 < 1000 by decide) rfl ?_
    rw [upd_upd]
    exact k
theorem ok_Price_init {f : Addr} {fd : FuncData} (F : Fun K "__init__" "Price.__init__" s_Price_init f fd) (T : Txt K mg a) : FnOk P w K mg base CX0 1 f fd ["self", "told"] (sp_Price_init K a) := by
  refine F.ok sc_Price_init (fun vs H Q E h => ?_) (fun cdv A outer s H vs Q E hr h => ?_)
  · obtain ⟨p, dx, t, kvs, v1, v2, v3, rfl, _⟩ := h
    rfl
  · obtain ⟨p, dx, t, kvs, v1, v2, v3, rfl, hp, ht, l1, l2, l3, k⟩ := h
    have ne : t ≠ p := ne_of ht hp (by intro z; cases z)
    have g : ∀ (o : HO), (upd H p o) t = some (.dK kvs) := fun o => by rw [upd_ne ne]; exact ht
    refine ⟨_, (pss_cons (ps_fld (pv 0) (pe_dget (hu_of hr) (pv 1) pe_str (fun _ _ => rfl)) rfl)
      (pss_cons (ps_fld (pv 0) (pe_dget (hu_of hr) (pv 1) pe_str (fun _ _ => rfl)) rfl)
      (pss_one (ps_fld (pv 0) (pe_dget (hu_of hr) (pv 1) pe_str (fun _ _ => rfl)) rfl)))), ?_⟩
    refine q_fld (fs' := [("day", v1)]) (rdg rv rc (by rw [← l1]; exact DGet.k (k := Sum.inr "day") ht)) rv hp T.c_Price T.nPrice_day (show 0 < 1000 by decide) rfl ?_
    refine q_fld (fs' := [("day", v1), ("thing", v2)]) (rdg rv rc (by rw [← l2]; exact DGet.k (k := Sum.inr "thing") (g _))) rv upd_same T.c_Price T.nPrice_thing (show 1 < 1000 by decide) rfl ?_
    rw [upd_upd]
    refine s_fldE (fs' := fPrice v1 v2 v3) (rdg rv rc (by rw [← l3]; exact DGet.k (k := Sum.inr "price") (g _))) rv upd_same T.c_Price T.nPrice_price (show 2 < 1000 by decide) rfl ?_
    rw [upd_upd]
    exact k
theorem ok_Action_init {f : Addr} {fd : FuncData} (F : Fun K "__init__" "Action.__init__" s_Action_init f fd) (T : Txt K mg a) : FnOk P w K mg base CX0 1 f fd ["self", "kind", "told"] (sp_Action_init K a) := by
  refine F.ok sc_Action_init (fun vs H Q E h => ?_) (fun cdv A outer s H vs Q E hr h => ?_)
  · obtain ⟨p, dx, t, kvs, vk, v1, v2, v3, rfl, _⟩ := h
    rfl
  · obtain ⟨p, dx, t, kvs, vk, v1, v2, v3, rfl, hp, ht, l1, l2, l3, k⟩ := h
    have ne : t ≠ p := ne_of ht hp (by intro z; cases z)
    have g : ∀ (o : HO), (upd H p o) t = some (.dK kvs) := fun o => by rw [upd_ne ne]; exact ht
    have gi : ∀ (o : HO), IsD (upd H p o) t := fun o => .inl ⟨kvs, .inl (g o)⟩
    refine ⟨_, (pss_cons (ps_fld (pv 0) (pv 1) rfl)
      (pss_cons (ps_fld (pv 0) (pv 2) rfl)
      (pss_cons (ps_fld (pv 0) (pe_dget (hu_of hr) (pv 2) pe_str (fun _ _ => rfl)) rfl)
      (pss_cons (ps_fld (pv 0) (pe_dget2 (hu_of hr) (pv 2) pe_str pe_int ⟨rfl, rfl, rfl, rfl⟩) rfl)
      (pss_cons (ps_fld (pv 0) (pe_dget (hu_of hr) (pv 2) pe_str (fun _ _ => rfl)) rfl)
      (pss_cons (ps_fld (pv 0) (pe_dget (hu_of hr) (pv 2) pe_str (fun _ _ => rfl)) rfl)
      (pss_cons (ps_fld (pv 0) (pe_dget2 (hu_of hr) (pv 2) pe_str pe_int ⟨rfl, rfl, rfl, rfl⟩) rfl)
      (pss_cons (ps_fld (pv 0) (pe_dget2 (hu_of hr) (pv 2) pe_str pe_int ⟨rfl, rfl, rfl, rfl⟩) rfl)
      (pss_cons (ps_fld (pv 0) (pe_dget2 (hu_of hr) (pv 2) pe_str pe_int ⟨rfl, rfl, rfl, rfl⟩) rfl)
      (pss_cons (ps_fld (pv 0) (pe_dget2 (hu_of hr) (pv 2) pe_str pe_int ⟨rfl, rfl, rfl, rfl⟩) rfl)
      (pss_cons (ps_fld (pv 0) (pe_dget2 (hu_of hr) (pv 2) pe_str pe_int ⟨rfl, rfl, rfl, rfl⟩) rfl)
      (pss_cons (ps_fld (pv 0) (pe_dget2 (hu_of hr) (pv 2) pe_str pe_int ⟨rfl, rfl, rfl, rfl⟩) rfl)
      (pss_one (ps_fld (pv 0) (pe_dget2 (hu_of hr) (pv 2) pe_str pe_int ⟨rfl, rfl, rfl, rfl⟩) rfl)))))))))))))), ?_⟩
    refine q_fld (fs' := [("kind", vk)]) rv rv hp T.c_Action T.nAction_kind (show 0 < 1000 by decide) rfl ?_
    refine q_fld (fs' := [("kind", vk), ("told", V.ref t)]) rv rv upd_same T.c_Action T.nAction_told (show 1 < 1000 by decide) rfl ?_
    rw [upd_upd]
    refine q_fld (fs' := [("kind", vk), ("told", V.ref t), ("thing", v1)]) (rdg rv rc (by rw [← l1]; exact DGet.k (k := Sum.inr "thing") (g _))) rv upd_same T.c_Action T.nAction_thing (show 2 < 1000 by decide) rfl ?_
    rw [upd_upd]
    refine q_fld (fs' := [("kind", vk), ("told", V.ref t), ("thing", v1), ("other", gd kvs "other" 0)]) (rdg2 rv (gi _) rc rc (DGet.k (k := Sum.inr "other") (g _))) rv upd_same T.c_Action T.nAction_other (show 3 < 1000 by decide) rfl ?_
    rw [upd_upd]
    refine q_fld (fs' := [("kind", vk), ("told", V.ref t), ("thing", v1), ("other", gd kvs "other" 0), ("ex", v2)]) (rdg rv rc (by rw [← l2]; exact DGet.k (k := Sum.inr "ex") (g _))) rv upd_same T.c_Action T.nAction_ex (show 4 < 1000 by decide) rfl ?_
    rw [upd_upd]
    refine q_fld (fs' := [("kind", vk), ("told", V.ref t), ("thing", v1), ("other", gd kvs "other" 0), ("ex", v2), ("pay", v3)]) (rdg rv rc (by rw [← l3]; exact DGet.k (k := Sum.inr "pay") (g _))) rv upd_same T.c_Action T.nAction_pay (show 5 < 1000 by decide) rfl ?_
    rw [upd_upd]
    refine q_fld (fs' := [("kind", vk), ("told", V.ref t), ("thing", v1), ("other", gd kvs "other" 0), ("ex", v2), ("pay", v3), ("last", gd kvs "last" 0)]) (rdg2 rv (gi _) rc rc (DGet.k (k := Sum.inr "last") (g _))) rv upd_same T.c_Action T.nAction_last (show 6 < 1000 by decide) rfl ?_
    rw [upd_upd]
    refine q_fld (fs' := [("kind", vk), ("told", V.ref t), ("thing", v1), ("other", gd kvs "other" 0), ("ex", v2), ("pay", v3), ("last", gd kvs "last" 0), ("a", gd kvs "a" 1)]) (rdg2 rv (gi _) rc rc (DGet.k (k := Sum.inr "a") (g _))) rv upd_same T.c_Action T.nAction_a (show 7 < 1000 by decide) rfl ?_
    rw [upd_upd]
    refine q_fld (fs' := [("kind", vk), ("told", V.ref t), ("thing", v1), ("other", gd kvs "other" 0), ("ex", v2), ("pay", v3), ("last", gd kvs "last" 0), ("a", gd kvs "a" 1), ("b", gd kvs "b" 1)]) (rdg2 rv (gi _) rc rc (DGet.k (k := Sum.inr "b") (g _))) rv upd_same T.c_Action T.nAction_b (show 8 < 1000 by decide) rfl ?_
    rw [upd_upd]
    refine q_fld (fs' := [("kind", vk), ("told", V.ref t), ("thing", v1), ("other", gd kvs "other" 0), ("ex", v2), ("pay", v3), ("last", gd kvs "last" 0), ("a", gd kvs "a" 1), ("b", gd kvs "b" 1), ("rate", gd kvs "rate" 0)]) (rdg2 rv (gi _) rc rc (DGet.k (k := Sum.inr "rate") (g _))) rv upd_same T.c_Action T.nAction_rate (show 9 < 1000 by decide) rfl ?_
    rw [upd_upd]
    refine q_fld (fs' := [("kind", vk), ("told", V.ref t), ("thing", v1), ("other", gd kvs "other" 0), ("ex", v2), ("pay", v3), ("last", gd kvs "last" 0), ("a", gd kvs "a" 1), ("b", gd kvs "b" 1), ("rate", gd kvs "rate" 0), ("price", gd kvs "price" 0)]) (rdg2 rv (gi _) rc rc (DGet.k (k := Sum.inr "price") (g _))) rv upd_same T.c_Action T.nAction_price (show 10 < 1000 by decide) rfl ?_
    rw [upd_upd]
    refine q_fld (fs' := [("kind", vk), ("told", V.ref t), ("thing", v1), ("other", gd kvs "other" 0), ("ex", v2), ("pay", v3), ("last", gd kvs "last" 0), ("a", gd kvs "a" 1), ("b", gd kvs "b" 1), ("rate", gd kvs "rate" 0), ("price", gd kvs "price" 0), ("for_each", gd kvs "for_each" 0)]) (rdg2 rv (gi _) rc rc (DGet.k (k := Sum.inr "for_each") (g _))) rv upd_same T.c_Action T.nAction_for_each (show 11 < 1000 by decide) rfl ?_
    rw [upd_upd]
    refine s_fldE (fs' := [("kind", vk), ("told", V.ref t), ("thing", v1), ("other", gd kvs "other" 0), ("ex", v2), ("pay", v3), ("last", gd kvs "last" 0), ("a", gd kvs "a" 1), ("b", gd kvs "b" 1), ("rate", gd kvs "rate" 0), ("price", gd kvs "price" 0), ("for_each", gd kvs "for_each" 0), ("choice", gd kvs "choice" 0)]) (rdg2 rv (gi _) rc rc (DGet.k (k := Sum.inr "choice") (g _))) rv upd_same T.c_Action T.nAction_choice (show 12 < 1000 by decide) rfl ?_
    rw [upd_upd]
    exact k
end
end Hd
namespace Hd
open PySem PySem.Spec PyProof.Rows L2
open Vbfuah (Action Trade Price Book State effect acted paid traded dayDone days emptyBook at_ addAt)
theorem cm_r {i : Int} {n : Nat} (h : n ≤ 1000000000000) : CMul i (n : Int) := .inr ⟨by omega, by omega⟩
theorem cm_m {i : Int} : CMul i 1000000 := .inr ⟨by decide, by decide⟩
theorem cd_m {i : Int} : CDiv i 1000000 := ⟨by decide, by decide⟩
theorem cd_b {i : Int} {b : Nat} (h : 1 ≤ b ∧ b ≤ 1000) : CDiv i (b : Int) := ⟨by omega, by omega⟩
theorem cd_bm {i : Int} {b : Nat} (h : 1 ≤ b ∧ b ≤ 1000) : CDiv i ((b : Int) * 1000000) := ⟨by omega, by omega⟩
theorem rate_le {x : Action} (w : WfA x) : rateOf x ≤ 1000000000000 := by
  unfold rateOf
  have := w.hp
  split <;> omega
theorem price_le {x : Action} (w : WfA x) : priceOf x ≤ 1000000000000 := by
  unfold priceOf
  have := w.hp
  have := w.hs
  split
  · omega
  · split <;> omega
theorem each_le {x : Action} (w : WfA x) : eachOf x ≤ 1000000000000 := by
  unfold eachOf
  have := w.hp
  have := w.hs
  split
  · omega
  · split <;> omega
theorem le_a {n : Nat} (h : 1 ≤ n ∧ n ≤ 1000) : n ≤ 1000000000000 := by omega
def sp_first_price (K : PySem.W.Frag) (a : Ad) : Sp := fun vs H Q _ => ∃ p x, vs = [.ref p] ∧ IsAct a H p x ∧ WfA x ∧ Q (nV x.price) H
def sp_second_price (K : PySem.W.Frag) (a : Ad) : Sp := fun vs H Q _ => ∃ p x, vs = [.ref p] ∧ IsAct a H p x ∧ WfA x ∧ Q (nV x.sub) H
def sp_over_million_up (K : PySem.W.Frag) (a : Ad) : Sp := fun vs H Q _ => ∃ n : Int, vs = [.int n] ∧ Q (.int (-(-n / 1000000))) H
def sp_whole (K : PySem.W.Frag) (a : Ad) : Sp := fun vs H Q _ => ∃ (n : Int) (p : Addr) (x : Action), vs = [.int n, .ref p] ∧ IsAct a H p x ∧ WfA x ∧ Q (.int (iWhole n x)) H
def sp_parts (K : PySem.W.Frag) (a : Ad) : Sp := fun vs H Q _ => ∃ (n : Int) (p : Addr) (x : Action), vs = [.int n, .ref p] ∧ IsAct a H p x ∧ WfA x ∧ Q (.int (iParts n x)) H
def spOf (k : Nat) (a : Ad) : Sp := fun vs H Q _ => ∃ (p : Addr) (x : Action) (q : Nat), vs = [.ref p, nV q] ∧ IsAct a H p x ∧ WfA x ∧ x.kind = k ∧ ∀ (H' : Hp) (r : Addr), Same H H' → IsEnt a H' r (q : Int) (effect x q) → Q (.ref r) H'
abbrev sp_of_dividend (K : PySem.W.Frag) (a : Ad) : Sp := spOf 1 a
abbrev sp_of_split (K : PySem.W.Frag) (a : Ad) : Sp := spOf 2 a
abbrev sp_of_spinoff (K : PySem.W.Frag) (a : Ad) : Sp := spOf 3 a
abbrev sp_of_rights (K : PySem.W.Frag) (a : Ad) : Sp := spOf 4 a
abbrev sp_of_takeover (K : PySem.W.Frag) (a : Ad) : Sp := spOf 5 a
def sp_entitlement (K : PySem.W.Frag) (a : Ad) : Sp := fun vs H Q _ => ∃ (p : Addr) (x : Action) (q : Nat), vs = [.ref p, nV q] ∧ IsAct a H p x ∧ WfA x ∧ ∀ (H' : Hp) (r : Addr), Same H H' → IsEnt a H' r (q : Int) (effect x q) → Q (.ref r) H'
def sp_Action_has_choice (K : PySem.W.Frag) (a : Ad) : Sp := fun vs H Q _ => ∃ p x, vs = [.ref p] ∧ IsAct a H p x ∧ Q (.bl (decide ((x.kind : Int) = 4) || decide ((x.kind : Int) = 5))) H
def sp_Action_replaces_holding (K : PySem.W.Frag) (a : Ad) : Sp := fun vs H Q _ => ∃ p x, vs = [.ref p] ∧ IsAct a H p x ∧ Q (.bl (decide ((x.kind : Int) = 2) || decide ((x.kind : Int) = 5))) H
def sp_Action_with_choice (K : PySem.W.Frag) (a : Ad) : Sp := fun vs H Q _ => ∃ (p : Addr) (x : Action) (c : Nat), vs = [.ref p, nV c] ∧ IsAct a H p x ∧ WfA x ∧ 4 ≤ x.kind ∧ c ≤ 1000000000000 ∧ ∀ (H' : Hp) (r : Addr), Same H H' → IsAct a H' r { x with choice := c } → Q (.ref r) H'
section
variable {P : Program} {w : World} {K : PySem.W.Frag} {mg : Str → Option Value} {base : Heap} {a : Ad} {σ : L2.St} {H : Hp} {Q : VK} {t : TA}
theorem s_re {te : TE} {D : Ends} (h : te σ H D.rt) : tRet te D σ H := h
theorem m_Due {v1 v2 v3 v4 : V} (ha : Ra t σ H [v1, v2, v3, v4]) (k : ∀ x dx H', Same H H' → H x = none → H' x = some (.ins a.Due dx (fDue v1 v2 v3 v4)) → Q (.ref x) H') : tMake a.Due (sp_Due_init K a) [] E0 t σ H Q :=
  ha _ fun x dx nx nd ne => ⟨x, dx, v1, v2, v3, v4, rfl, upd_same, rfl, k x dx _ (Same.made' nx nd) nx upd_same⟩
theorem m_EntDue {t1 t2 t3 : TE} {v1 v2 v3 w1 w2 w3 w4 : V} (h1 : Rv t1 σ H v1) (h2 : Rv t2 σ H v2) (h3 : Rv t3 σ H v3) (h4 : Ra t σ H [w1, w2, w3, w4])
    (k : ∀ (r : Addr) (H' : Hp), Same H H' → (∃ dx d dy, H' r = some (.ins a.Entitlement dx (fEntitlement v1 v2 v3 (.ref d))) ∧ H' d = some (.ins a.Due dy (fDue w1 w2 w3 w4))) → Q (.ref r) H') :
    tMake a.Entitlement (sp_Entitlement_init K a) [] E0 (tCons t1 (tCons t2 (tCons t3 (tCons (tMake a.Due (sp_Due_init K a) [] E0 t) tNil)))) σ H Q :=
  h1 _ (h2 _ (h3 _ (m_Due h4 fun d dy H1 s1 _ hd x dx nx nd ne =>
    ⟨x, dx, v1, v2, v3, .ref d, rfl, upd_same, rfl, k x _ (s1.trans (Same.made' nx nd)) ⟨dx, d, dy, upd_same, Same.made' nx nd _ _ hd⟩⟩)))
theorem r_whole {p : Addr} {x : Action} {n : Int} (hA : IsAct a H p x) (wf : WfA x) (h : Ra t σ H [.int n, .ref p]) : Rv (tCall (sp_whole K a) [] E0 t) σ H (.int (iWhole n x)) := rcall h fun Q q => ⟨n, p, x, rfl, hA, wf, q⟩
theorem r_parts {p : Addr} {x : Action} {n : Int} (hA : IsAct a H p x) (wf : WfA x) (h : Ra t σ H [.int n, .ref p]) : Rv (tCall (sp_parts K a) [] E0 t) σ H (.int (iParts n x)) := rcall h fun Q q => ⟨n, p, x, rfl, hA, wf, q⟩
theorem r_up {n : Int} (h : Ra t σ H [.int n]) : Rv (tCall (sp_over_million_up K a) [] E0 t) σ H (.int (-(-n / 1000000))) := rcall h fun Q q => ⟨n, rfl, q⟩
theorem r_min2 {i j : Int} (h : Ra t σ H [.int i, .int j]) : Rv (tCB (fun xs H Q => ∃ i j, xs = [.int i, .int j] ∧ Q (.int (if j < i then j else i)) H) t) σ H (.int (if j < i then j else i)) := rcb h fun Q q => ⟨i, j, rfl, q⟩
theorem ok_first_price {f : Addr} {fd : FuncData} (F : Fun K "first_price" "first_price" s_first_price f fd) (T : Txt K mg a) : FnOk P w K mg base CX0 1 f fd ["action"] (sp_first_price K a) := by
  refine F.ok sc_first_price (fun vs H Q E h => ?_) (fun cdv A outer s H vs Q E hr h => ?_)
  · obtain ⟨p, x, rfl, _⟩ := h
    rfl
  · obtain ⟨p, x, rfl, ⟨dx, t, hp, ht⟩, wf, k⟩ := h
    rw [← first_of wf] at k
    refine ⟨_, (pss_cons (ps_if (pt_cmpR op_eq (pe_fld (pv 0) rfl) (pgI T.g_DIVIDEND) (nomark _)) (pss_one (ps_ret (pe_fld (pv 0) rfl))) pss_nil)
      (pss_cons (ps_if (pt_cmpR op_eq (pe_fld (pv 0) rfl) (pgI T.g_TAKEOVER) (nomark _)) (pss_one (ps_ret (pe_fld (pv 0) rfl))) pss_nil)
      (pss_one (ps_ret (pe_fld (pv 0) rfl))))), ?_⟩
    refine q_ifr (tt (req (rf rv hp T.c_Action T.nAction_kind (lAction_kind ..)) rc)) (fun e => rf rv hp T.c_Action T.nAction_rate (lAction_rate ..) _ ?_) fun e => ?_
    · rw [if_pos (by have := of_decide_eq_true e; omega)] at k
      exact k
    · have e1 := of_decide_eq_false e
      refine q_ifr (tt (req (rf rv hp T.c_Action T.nAction_kind (lAction_kind ..)) rc)) (fun e => rf rv hp T.c_Action T.nAction_for_each (lAction_for_each ..) _ ?_) fun e => ?_
      · have e2 := of_decide_eq_true e
        rw [if_neg (by omega), if_pos (by omega)] at k
        exact k
      · have e2 := of_decide_eq_false e
        rw [if_neg (by omega), if_neg (by omega)] at k
        exact s_ret (rf rv hp T.c_Action T.nAction_price (lAction_price ..)) k
theorem ok_second_price {f : Addr} {fd : FuncData} (F : Fun K "second_price" "second_price" s_second_price f fd) (T : Txt K mg a) : FnOk P w K mg base CX0 1 f fd ["action"] (sp_second_price K a) := by
  refine F.ok sc_second_price (fun vs H Q E h => ?_) (fun cdv A outer s H vs Q E hr h => ?_)
  · obtain ⟨p, x, rfl, _⟩ := h
    rfl
  · obtain ⟨p, x, rfl, ⟨dx, t, hp, ht⟩, wf, k⟩ := h
    rw [← second_of wf] at k
    refine ⟨_, (pss_cons (ps_if (pt_cmpR op_eq (pe_fld (pv 0) rfl) (pgI T.g_RIGHTS) (nomark _)) (pss_one (ps_ret (pe_fld (pv 0) rfl))) pss_nil)
      (pss_cons (ps_if (pt_cmpR op_eq (pe_fld (pv 0) rfl) (pgI T.g_TAKEOVER) (nomark _)) (pss_one (ps_ret (pe_fld (pv 0) rfl))) pss_nil)
      (pss_one (ps_ret pe_int)))), ?_⟩
    refine q_ifr (tt (req (rf rv hp T.c_Action T.nAction_kind (lAction_kind ..)) rc)) (fun e => rf rv hp T.c_Action T.nAction_for_each (lAction_for_each ..) _ ?_) fun e => ?_
    · rw [if_pos (by have := of_decide_eq_true e; omega)] at k
      exact k
    · have e1 := of_decide_eq_false e
      refine q_ifr (tt (req (rf rv hp T.c_Action T.nAction_kind (lAction_kind ..)) rc)) (fun e => rf rv hp T.c_Action T.nAction_price (lAction_price ..) _ ?_) fun e => ?_
      · have e2 := of_decide_eq_true e
        rw [if_neg (by omega), if_pos (by omega)] at k
        exact k
      · have e2 := of_decide_eq_false e
        rw [if_neg (by omega), if_neg (by omega)] at k
        exact s_ret rc k
theorem ok_over_million_up {f : Addr} {fd : FuncData} (F : Fun K "over_million_up" "over_million_up" s_over_million_up f fd) (T : Txt K mg a) : FnOk P w K mg base CX0 1 f fd ["amount"] (sp_over_million_up K a) := by
  refine F.ok sc_over_million_up (fun vs H Q E h => ?_) (fun cdv A outer s H vs Q E hr h => ?_)
  · obtain ⟨n, rfl, _⟩ := h
    rfl
  · obtain ⟨n, rfl, k⟩ := h
    refine ⟨_, (pss_one (ps_ret (pe_un un_neg (pe_op op_fdiv (pe_un un_neg (pv 0)) (pgI T.g_MILLION))))), ?_⟩
    exact s_ret (rn (r1 (rn rv) rc cd_m)) k
theorem ok_whole {f : Addr} {fd : FuncData} (F : Fun K "whole" "whole" s_whole f fd) (T : Txt K mg a) : FnOk P w K mg base CX0 1 f fd ["number", "action"] (sp_whole K a) := by
  refine F.ok sc_whole (fun vs H Q E h => ?_) (fun cdv A outer s H vs Q E hr h => ?_)
  · obtain ⟨n, p, x, rfl, _⟩ := h
    rfl
  · obtain ⟨n, p, x, rfl, ⟨dx, t, hp, ht⟩, wf, k⟩ := h
    refine ⟨_, (pss_one (ps_ret (pe_op op_fdiv (pe_op op_mul (pv 0) (pe_fld (pv 1) rfl)) (pe_fld (pv 1) rfl)))), ?_⟩
    exact s_ret (r1 (r1 rv (rf rv hp T.c_Action T.nAction_a (lAction_a ..)) (cm_r (le_a wf.ha))) (rf rv hp T.c_Action T.nAction_b (lAction_b ..)) (cd_b wf.hb)) k
theorem ok_parts {f : Addr} {fd : FuncData} (F : Fun K "parts" "parts" s_parts f fd) (T : Txt K mg a) : FnOk P w K mg base CX0 1 f fd ["number", "action"] (sp_parts K a) := by
  refine F.ok sc_parts (fun vs H Q E h => ?_) (fun cdv A outer s H vs Q E hr h => ?_)
  · obtain ⟨n, p, x, rfl, _⟩ := h
    rfl
  · obtain ⟨n, p, x, rfl, ⟨dx, t, hp, ht⟩, wf, k⟩ := h
    have hb := wf.hb
    refine ⟨_, (pss_one (ps_ret (pe_op op_fdiv (pe_op op_mul (pe_op op_mod (pe_op op_mul (pv 0) (pe_fld (pv 1) rfl)) (pe_fld (pv 1) rfl)) (pe_fld (pv 1) rfl)) (pe_op op_mul (pe_fld (pv 1) rfl) (pgI T.g_MILLION))))), ?_⟩
    exact s_ret (r1 (r1 (r1 (r1 rv (rf rv hp T.c_Action T.nAction_a (lAction_a ..)) (cm_r (le_a wf.ha))) (rf rv hp T.c_Action T.nAction_b (lAction_b ..)) (show (0 : Int) < (x.b : Int) by omega)) (rf rv hp T.c_Action T.nAction_price (lAction_price ..)) (cm_r (price_le wf)))
      (r1 (rf rv hp T.c_Action T.nAction_b (lAction_b ..)) rc cm_m) (cd_bm wf.hb)) k
theorem ok_of_dividend {f : Addr} {fd : FuncData} (F : Fun K "of_dividend" "of_dividend" s_of_dividend f fd) (T : Txt K mg a) (U_Entitlement : UseC P w K mg base 1 "Entitlement" a.Entitlement ["self", "held", "change", "spun", "due"] (sp_Entitlement_init K a)) (U_Due : UseC P w K mg base 1 "Due" a.Due ["self", "pay", "cash", "thing", "quantity"] (sp_Due_init K a)) : FnOk P w K mg base CX0 3 f fd ["action", "held"] (sp_of_dividend K a) := by
  refine F.ok sc_of_dividend (fun vs H Q E h => ?_) (fun cdv A outer s H vs Q E hr h => ?_)
  · obtain ⟨p, x, q, rfl, _⟩ := h
    rfl
  · obtain ⟨p, x, q, rfl, ⟨dx, t, hp, ht⟩, wf, hk, k⟩ := h
    refine ⟨_, (pss_cons (ps_set (i := 2) sc_of_dividend.nd rfl (Or.inl rfl) (pe_op op_fdiv (pe_op op_mul (pv 1) (pe_fld (pv 0) rfl)) (pgI T.g_MILLION)))
      (pss_one (ps_ret (puc U_Entitlement (hr.mono (by decide)) (pa_cons (pv 1) (pa_cons pe_int (pa_cons pe_int (pa_cons (puc U_Due (hr.mono (by decide)) (pa_cons (pe_fld (pv 0) rfl) (pa_cons (pv 2) (pa_cons pe_int (pa_cons pe_int pa_nil))))) pa_nil)))))))), ?_⟩
    refine q_set (r1 (r1 rv (rf rv hp T.c_Action T.nAction_rate (lAction_rate ..)) (cm_r (rate_le wf))) rc cd_m) rfl ?_
    refine s_re (m_EntDue rv rc rc (ra1 (rf rv hp T.c_Action T.nAction_pay (lAction_pay ..)) (ra1 rv (ra1 rc (ra1 rc ra0)))) fun r H' sm eE => k H' r sm ?_)
    obtain ⟨d1, d, d2, e1, e2⟩ := eE
    rw [eff1 hk]
    have er : rateOf x = x.price := if_pos hk
    rw [er, iMulDiv] at e2
    exact ⟨d1, d, e1, d2, e2⟩
theorem ok_of_split {f : Addr} {fd : FuncData} (F : Fun K "of_split" "of_split" s_of_split f fd) (T : Txt K mg a) (U_Entitlement : UseC P w K mg base 1 "Entitlement" a.Entitlement ["self", "held", "change", "spun", "due"] (sp_Entitlement_init K a)) (U_whole : Use P w K mg base 1 "whole" ["number", "action"] (sp_whole K a)) (U_Due : UseC P w K mg base 1 "Due" a.Due ["self", "pay", "cash", "thing", "quantity"] (sp_Due_init K a)) (U_parts : Use P w K mg base 1 "parts" ["number", "action"] (sp_parts K a)) : FnOk P w K mg base CX0 3 f fd ["action", "held"] (sp_of_split K a) := by
  refine F.ok sc_of_split (fun vs H Q E h => ?_) (fun cdv A outer s H vs Q E hr h => ?_)
  · obtain ⟨p, x, q, rfl, _⟩ := h
    rfl
  · obtain ⟨p, x, q, rfl, hA, wf, hk, k⟩ := h
    obtain ⟨dx, t, hp, ht⟩ := id hA
    refine ⟨_, (pss_cons (ps_set (i := 2) sc_of_split.nd rfl (Or.inl rfl) (pe_op op_sub (pu U_whole (hr.mono (by decide)) (pa_cons (pv 1) (pa_cons (pv 0) pa_nil))) (pv 1)))
      (pss_one (ps_ret (puc U_Entitlement (hr.mono (by decide)) (pa_cons (pv 1) (pa_cons (pv 2) (pa_cons pe_int (pa_cons (puc U_Due (hr.mono (by decide)) (pa_cons (pe_fld (pv 0) rfl) (pa_cons (pu U_parts (hr.mono (by decide)) (pa_cons (pv 1) (pa_cons (pv 0) pa_nil))) (pa_cons pe_int (pa_cons pe_int pa_nil))))) pa_nil)))))))), ?_⟩
    refine q_set (r0 (r_whole hA wf (ra1 rv (ra1 rv ra0))) rv) rfl ?_
    refine s_re (m_EntDue rv rv rc (ra1 (rf rv hp T.c_Action T.nAction_pay (lAction_pay ..)) (ra1 (r_parts hA wf (ra1 rv (ra1 rv ra0))) (ra1 rc (ra1 rc ra0)))) fun r H' sm eE => k H' r sm ?_)
    obtain ⟨d1, d, d2, e1, e2⟩ := eE
    rw [eff2 hk]
    have er : priceOf x = x.price := by unfold priceOf; rw [if_neg (by omega), if_neg (by omega)]
    rw [iParts_of q x er] at e2
    rw [iWhole_of] at e1
    exact ⟨d1, d, e1, d2, e2⟩
theorem ok_of_spinoff {f : Addr} {fd : FuncData} (F : Fun K "of_spinoff" "of_spinoff" s_of_spinoff f fd) (T : Txt K mg a) (U_Entitlement : UseC P w K mg base 1 "Entitlement" a.Entitlement ["self", "held", "change", "spun", "due"] (sp_Entitlement_init K a)) (U_whole : Use P w K mg base 1 "whole" ["number", "action"] (sp_whole K a)) (U_Due : UseC P w K mg base 1 "Due" a.Due ["self", "pay", "cash", "thing", "quantity"] (sp_Due_init K a)) (U_parts : Use P w K mg base 1 "parts" ["number", "action"] (sp_parts K a)) : FnOk P w K mg base CX0 3 f fd ["action", "held"] (sp_of_spinoff K a) := by
  refine F.ok sc_of_spinoff (fun vs H Q E h => ?_) (fun cdv A outer s H vs Q E hr h => ?_)
  · obtain ⟨p, x, q, rfl, _⟩ := h
    rfl
  · obtain ⟨p, x, q, rfl, hA, wf, hk, k⟩ := h
    obtain ⟨dx, t, hp, ht⟩ := id hA
    refine ⟨_, (pss_one (ps_ret (puc U_Entitlement (hr.mono (by decide)) (pa_cons (pv 1) (pa_cons pe_int (pa_cons (pu U_whole (hr.mono (by decide)) (pa_cons (pv 1) (pa_cons (pv 0) pa_nil))) (pa_cons (puc U_Due (hr.mono (by decide)) (pa_cons (pe_fld (pv 0) rfl) (pa_cons (pu U_parts (hr.mono (by decide)) (pa_cons (pv 1) (pa_cons (pv 0) pa_nil))) (pa_cons pe_int (pa_cons pe_int pa_nil))))) pa_nil))))))), ?_⟩
    refine s_re (m_EntDue rv rc (r_whole hA wf (ra1 rv (ra1 rv ra0))) (ra1 (rf rv hp T.c_Action T.nAction_pay (lAction_pay ..)) (ra1 (r_parts hA wf (ra1 rv (ra1 rv ra0))) (ra1 rc (ra1 rc ra0)))) fun r H' sm eE => k H' r sm ?_)
    obtain ⟨d1, d, d2, e1, e2⟩ := eE
    rw [eff3 hk]
    have er : priceOf x = x.price := by unfold priceOf; rw [if_neg (by omega), if_neg (by omega)]
    rw [iParts_of q x er] at e2
    rw [iWhole_of] at e1
    exact ⟨d1, d, e1, d2, e2⟩
theorem ok_of_rights {f : Addr} {fd : FuncData} (F : Fun K "of_rights" "of_rights" s_of_rights f fd) (T : Txt K mg a) (U_whole : Use P w K mg base 1 "whole" ["number", "action"] (sp_whole K a)) (U_Entitlement : UseC P w K mg base 1 "Entitlement" a.Entitlement ["self", "held", "change", "spun", "due"] (sp_Entitlement_init K a)) (U_over_million_up : Use P w K mg base 1 "over_million_up" ["amount"] (sp_over_million_up K a)) (U_Due : UseC P w K mg base 1 "Due" a.Due ["self", "pay", "cash", "thing", "quantity"] (sp_Due_init K a)) : FnOk P w K mg base CX0 3 f fd ["action", "held"] (sp_of_rights K a) := by
  refine F.ok sc_of_rights (fun vs H Q E h => ?_) (fun cdv A outer s H vs Q E hr h => ?_)
  · obtain ⟨p, x, q, rfl, _⟩ := h
    rfl
  · obtain ⟨p, x, q, rfl, hA, wf, hk, k⟩ := h
    obtain ⟨dx, t, hp, ht⟩ := id hA
    refine ⟨_, (pss_cons (ps_set (i := 2) sc_of_rights.nd rfl (Or.inl rfl) (pu U_whole (hr.mono (by decide)) (pa_cons (pv 1) (pa_cons (pv 0) pa_nil))))
      (pss_cons (ps_set (i := 3) sc_of_rights.nd rfl (Or.inl rfl) (pe_callB (call_min2 rfl) rfl T.b_min boot_min (pa_cons (pe_fld (pv 0) rfl) (pa_cons (pv 2) pa_nil))))
      (pss_cons (ps_set (i := 4) sc_of_rights.nd rfl (Or.inl rfl) (pe_op op_fdiv (pe_op op_mul (pe_op op_sub (pv 2) (pv 3)) (pe_fld (pv 0) rfl)) (pgI T.g_MILLION)))
      (pss_cons (ps_set (i := 5) sc_of_rights.nd rfl (Or.inl rfl) (pe_op op_sub (pv 4) (pu U_over_million_up (hr.mono (by decide)) (pa_cons (pe_op op_mul (pv 3) (pe_fld (pv 0) rfl)) pa_nil))))
      (pss_one (ps_ret (puc U_Entitlement (hr.mono (by decide)) (pa_cons (pv 1) (pa_cons pe_int (pa_cons pe_int (pa_cons (puc U_Due (hr.mono (by decide)) (pa_cons (pe_fld (pv 0) rfl) (pa_cons (pv 5) (pa_cons (pe_fld (pv 0) rfl) (pa_cons (pv 3) pa_nil))))) pa_nil))))))))))), ?_⟩
    have er : priceOf x = x.price := by unfold priceOf; rw [if_neg (by omega), if_neg (by omega)]
    have es : eachOf x = x.sub := by unfold eachOf; rw [if_pos hk]
    have e0 := iWhole_of q x
    refine q_set (r_whole hA wf (ra1 rv (ra1 rv ra0))) rfl ?_
    rw [e0]
    refine q_set (r_min2 (ra1 (rf rv hp T.c_Action T.nAction_choice (lAction_choice ..)) (ra1 rv ra0))) rfl ?_
    rw [iMin]
    refine q_set (r1 (r1 (r0 rv rv) (rf rv hp T.c_Action T.nAction_price (lAction_price ..)) (cm_r (price_le wf))) rc cd_m) rfl ?_
    refine q_set (r0 rv (r_up (ra1 (r1 rv (rf rv hp T.c_Action T.nAction_for_each (lAction_for_each ..)) (cm_r (each_le wf))) ra0))) rfl ?_
    refine s_re (m_EntDue rv rc rc (ra1 (rf rv hp T.c_Action T.nAction_pay (lAction_pay ..)) (ra1 rv (ra1 (rf rv hp T.c_Action T.nAction_thing (lAction_thing ..)) (ra1 rv ra0)))) fun r H' sm eE => k H' r sm ?_)
    obtain ⟨d1, d, d2, e1, e2⟩ := eE
    rw [eff4 hk]
    refine ⟨d1, d, e1, d2, ?_⟩
    rw [er, es] at e2
    have ec : (((q * x.a / x.b : Nat) : Int) - ((min x.choice (q * x.a / x.b) : Nat) : Int)) * (x.price : Int) / 1000000 - -(-(((min x.choice (q * x.a / x.b) : Nat) : Int) * (x.sub : Int)) / 1000000)
        = (((q * x.a / x.b - min x.choice (q * x.a / x.b)) * x.price / Vbfuah.MILLION : Nat) : Int) - (Vbfuah.upTo (min x.choice (q * x.a / x.b) * x.sub) Vbfuah.MILLION : Int) := by
      rw [← iUp, ← iMulDiv, Int.natCast_mul, Int.natCast_sub (Nat.min_le_right _ _)]
    rw [ec] at e2
    exact e2
theorem ok_of_takeover {f : Addr} {fd : FuncData} (F : Fun K "of_takeover" "of_takeover" s_of_takeover f fd) (T : Txt K mg a) (U_Entitlement : UseC P w K mg base 1 "Entitlement" a.Entitlement ["self", "held", "change", "spun", "due"] (sp_Entitlement_init K a)) (U_parts : Use P w K mg base 1 "parts" ["number", "action"] (sp_parts K a)) (U_Due : UseC P w K mg base 1 "Due" a.Due ["self", "pay", "cash", "thing", "quantity"] (sp_Due_init K a)) (U_whole : Use P w K mg base 1 "whole" ["number", "action"] (sp_whole K a)) : FnOk P w K mg base CX0 3 f fd ["action", "held"] (sp_of_takeover K a) := by
  refine F.ok sc_of_takeover (fun vs H Q E h => ?_) (fun cdv A outer s H vs Q E hr h => ?_)
  · obtain ⟨p, x, q, rfl, _⟩ := h
    rfl
  · obtain ⟨p, x, q, rfl, hA, wf, hk, k⟩ := h
    obtain ⟨dx, t, hp, ht⟩ := id hA
    refine ⟨_, (pss_cons (ps_set (i := 2) sc_of_takeover.nd rfl (Or.inl rfl) (pe_callB (call_min2 rfl) rfl T.b_min boot_min (pa_cons (pe_fld (pv 0) rfl) (pa_cons (pv 1) pa_nil))))
      (pss_cons (ps_set (i := 3) sc_of_takeover.nd rfl (Or.inl rfl) (pe_op op_fdiv (pe_op op_mul (pe_op op_sub (pv 1) (pv 2)) (pe_fld (pv 0) rfl)) (pgI T.g_MILLION)))
      (pss_cons (ps_set (i := 4) sc_of_takeover.nd rfl (Or.inl rfl) (pe_op op_add (pv 3) (pu U_parts (hr.mono (by decide)) (pa_cons (pv 2) (pa_cons (pv 0) pa_nil)))))
      (pss_one (ps_ret (puc U_Entitlement (hr.mono (by decide)) (pa_cons (pv 1) (pa_cons (pe_un un_neg (pv 1)) (pa_cons pe_int (pa_cons (puc U_Due (hr.mono (by decide)) (pa_cons (pe_fld (pv 0) rfl) (pa_cons (pv 4) (pa_cons (pe_fld (pv 0) rfl) (pa_cons (pu U_whole (hr.mono (by decide)) (pa_cons (pv 2) (pa_cons (pv 0) pa_nil))) pa_nil))))) pa_nil)))))))))), ?_⟩
    have er : priceOf x = x.sub := by unfold priceOf; rw [if_neg (by omega), if_pos hk]
    have es : eachOf x = x.price := by unfold eachOf; rw [if_neg (by omega), if_pos hk]
    refine q_set (r_min2 (ra1 (rf rv hp T.c_Action T.nAction_choice (lAction_choice ..)) (ra1 rv ra0))) rfl ?_
    rw [iMin]
    refine q_set (r1 (r1 (r0 rv rv) (rf rv hp T.c_Action T.nAction_for_each (lAction_for_each ..)) (cm_r (each_le wf))) rc cd_m) rfl ?_
    refine q_set (r0 rv (r_parts hA wf (ra1 rv (ra1 rv ra0)))) rfl ?_
    refine s_re (m_EntDue rv (rn rv) rc (ra1 (rf rv hp T.c_Action T.nAction_pay (lAction_pay ..)) (ra1 rv (ra1 (rf rv hp T.c_Action T.nAction_other (lAction_other ..)) (ra1 (r_whole hA wf (ra1 rv (ra1 rv ra0))) ra0)))) fun r H' sm eE => k H' r sm ?_)
    obtain ⟨d1, d, d2, e1, e2⟩ := eE
    rw [eff5 hk]
    refine ⟨d1, d, e1, d2, ?_⟩
    rw [es, iParts_of _ x er, iWhole_of] at e2
    have ec : ((q : Int) - ((min x.choice q : Nat) : Int)) * (x.price : Int) / 1000000 + ((Vbfuah.forParts (min x.choice q) x.a x.b x.sub : Nat) : Int) = (((q - min x.choice q) * x.price / Vbfuah.MILLION + Vbfuah.forParts (min x.choice q) x.a x.b x.sub : Nat) : Int) := by
      rw [Int.natCast_add, ← iMulDiv, Int.natCast_sub (Nat.min_le_right _ _)]
    rw [ec] at e2
    exact e2
theorem ok_Action_has_choice {f : Addr} {fd : FuncData} (F : Fun K "has_choice" "Action.has_choice" s_Action_has_choice f fd) (T : Txt K mg a) : FnOk P w K mg base CX0 1 f fd ["self"] (sp_Action_has_choice K a) := by
  refine F.ok sc_Action_has_choice (fun vs H Q E h => ?_) (fun cdv A outer s H vs Q E hr h => ?_)
  · obtain ⟨p, x, rfl, _⟩ := h
    rfl
  · obtain ⟨p, x, rfl, ⟨dx, t, hp, ht⟩, k⟩ := h
    refine ⟨_, (pss_one (ps_ret (pe_or (pe_cmpR op_eq (pe_fld (pv 0) rfl) (pgI T.g_RIGHTS) (nomark _)) (pe_one (pe_cmpR op_eq (pe_fld (pv 0) rfl) (pgI T.g_TAKEOVER) (nomark _)))))), ?_⟩
    exact s_ret (ror (req (rf rv hp T.c_Action T.nAction_kind (lAction_kind ..)) rc) (req (rf rv hp T.c_Action T.nAction_kind (lAction_kind ..)) rc)) k
theorem ok_Action_replaces_holding {f : Addr} {fd : FuncData} (F : Fun K "replaces_holding" "Action.replaces_holding" s_Action_replaces_holding f fd) (T : Txt K mg a) : FnOk P w K mg base CX0 1 f fd ["self"] (sp_Action_replaces_holding K a) := by
  refine F.ok sc_Action_replaces_holding (fun vs H Q E h => ?_) (fun cdv A outer s H vs Q E hr h => ?_)
  · obtain ⟨p, x, rfl, _⟩ := h
    rfl
  · obtain ⟨p, x, rfl, ⟨dx, t, hp, ht⟩, k⟩ := h
    refine ⟨_, (pss_one (ps_ret (pe_or (pe_cmpR op_eq (pe_fld (pv 0) rfl) (pgI T.g_SPLIT) (nomark _)) (pe_one (pe_cmpR op_eq (pe_fld (pv 0) rfl) (pgI T.g_TAKEOVER) (nomark _)))))), ?_⟩
    exact s_ret (ror (req (rf rv hp T.c_Action T.nAction_kind (lAction_kind ..)) rc) (req (rf rv hp T.c_Action T.nAction_kind (lAction_kind ..)) rc)) k
end
end Hd
namespace L2
open PySem PySem.Spec PyProof.Rows
section
variable {K : PySem.W.Frag} {σ : St} {H : Hp} {ta tb tc te : TE} {t : TA} {v : V} {u : TS} {D : Ends} {Q : VK}
theorem c_call {sp : Sp} {vs : List V} {E : XK} (a : Ra t σ H vs) (h : sp vs H Q E) : tCall sp [] E t σ H Q := a _ (by rw [List.append_nil]; exact h)
theorem c_meth {C : Addr} {m : Str} {sp : Sp} {vs : List V} {E : XK} {a dx : Addr} {fs : List (Str × V)} (p : Rv ta σ H (.ref a)) (h : H a = some (.ins C dx fs)) (l : fs.lookup m = none) (z : Ra t σ H vs) (g : sp (V.ref a :: vs) H Q E) : tMeth C m sp [] E ta t σ H Q :=
  p _ ⟨a, dx, fs, rfl, h, l, z _ (by rw [List.append_nil]; exact g)⟩
theorem q_put {l : Addr} {kvs : List (Key × V)} {k : Key} (p : Rv tc σ H v) (q : Rv ta σ H (.ref l)) (r : Rv tb σ H (kV k)) (h : H l = some (.dK kvs)) (hl : kvs.length < sizeLine) (n : u D σ (upd H l (.dK (putK kvs k v)))) : tSeq (sDPut ta tb tc) u D σ H :=
  p _ (q _ (r _ ⟨l, _, rfl, DPut.k h hl, n⟩))
end
theorem pg_tupK {X : Cx} {es : List Expr} {k : Nat} {pos : Pos} {t : TGs} {n : Nat} {K : PySem.W.Frag} (hK : X.K = K) (hc : X.calm = true) (h : PGs X es t) (hn : (assignEach es X.env).length = n := by rfl) (hst : (assignEach es X.env).findIdx? (·.1) = none := by rfl) : PG X (.Tuple es k pos) (gTup K n t) := by
  subst hK
  exact pg_tup hc h hn hst
theorem pe_fldK {X : Cx} {e : Expr} {f : Str} {pos : Pos} {ta : TE} {K : PySem.W.Frag} (hK : X.K = K) (he : PE X e ta) (hb : attributeBase e f X.env (eval e X.env) = eval e X.env) : PE X (.Attribute e f pos) (tFld K ta f) := by
  subst hK
  exact pe_fld he hb
theorem yes_ok {σ : St} {H : Hp} {A B : Hp → Prop} (h : A H) : tYes σ H (fun b H3 => if b = true then A H3 else B H3) := by
  show if true = true then A H else B H
  rw [if_pos rfl]
  exact h
theorem lc_items {d : Addr} {o : Obj} {kvs : List (Key × V)} {g : TG} {tt : TT} {te : TE} {vs : List Nat} {σ : St} {H1 : Hp} {D : Addr} {Qd : Hp → Prop} (Pv : Nat → Hp → Prop) (h0 : Pv 0 (upd H1 D (.lst []))) (hl : ∀ i H, i ≤ kvs.length → Pv i H → H d = some (.frz o (.dK kvs)))
    (hs : ∀ i k v T H, kvs[i]? = some (k, v) → H T = none → Pv i H → g (.ref T) (wipe σ vs) (upd H T (.tup [kV k, v])) fun σ2 H2 => wipe σ2 vs = wipe σ vs ∧ tt σ2 H2 fun b H3 =>
      if b = true then te σ2 H3 fun y H4 => ∃ acc, H4 D = some (.lst acc) ∧ acc.length < sizeLine ∧ Pv (i + 1) (upd H4 D (.lst (acc ++ [y]))) else Pv (i + 1) H3) (hd : ∀ H, Pv kvs.length H → Qd H) :
    ∃ W : Nat → Nat → Hp → Prop, (∃ m, W 0 m (upd H1 D (.lst []))) ∧ ∀ i m H, W i m H →
      ((Iti d o kvs).stop i H ∧ Qd H) ∨ ((Iti d o kvs).go i H ∧ ∃ Nx : Hp → Prop, (∀ H', Nx H' → ∃ m', m' < m ∧ W (i + 1) m' H') ∧ ∀ x H', (Iti d o kvs).yld i H x H' → g x (wipe σ vs) H' fun σ2 H2 => wipe σ2 vs = wipe σ vs ∧ tt σ2 H2 fun b H3 =>
        if b = true then te σ2 H3 fun y H4 => ∃ acc, H4 D = some (.lst acc) ∧ acc.length < sizeLine ∧ Nx (upd H4 D (.lst (acc ++ [y]))) else Nx H3) := by
  refine ⟨fun i m H => m = kvs.length - i ∧ i ≤ kvs.length ∧ Pv i H, ⟨kvs.length, by simp, Nat.zero_le _, h0⟩, ?_⟩
  rintro i m H ⟨rfl, hi, p⟩
  have q := hl i H hi p
  by_cases hlt : i < kvs.length
  · refine .inr ⟨⟨q, hlt⟩, Pv (i + 1), fun H' p' => ⟨kvs.length - (i + 1), by omega, rfl, hlt, p'⟩, fun x H' y => ?_⟩
    obtain ⟨T, k, v, e1, e2, e3, e4⟩ := y
    subst e2 e4
    exact hs i k v T H e1 e3 p
  · have e : i = kvs.length := by omega
    subst e
    exact .inl ⟨⟨q, Nat.le_refl _⟩, hd H p⟩
end L2
namespace Hd
open PySem PySem.Spec PyProof.Rows L2
open Vbfuah (Action Trade Price Book State effect acted paid traded dayDone days emptyBook at_ addAt)
def rngs : List (Str × (Int × Int)) := [("thing", (1, 12)), ("other", (1, 12)), ("day", (0, 100000)), ("ex", (0, 100000)), ("pay", (0, 100000)), ("last", (0, 100000)), ("price", (0, 1000000000000)), ("rate", (0, 1000000000000)), ("for_each", (0, 1000000000000)), ("a", (1, 1000)), ("b", (1, 1000)), ("choice", (0, 1000000000000)), ("quantity", (-1000000000, 1000000000)), ("money", (0, 1000000000000)), ("number", (1, 1000000))]
def argn : List (List Str) := [[], ["day"], ["day", "thing", "quantity", "money"], ["thing", "ex", "pay", "rate"], ["thing", "ex", "pay", "a", "b", "price"], ["thing", "other", "ex", "pay", "a", "b", "price"], ["thing", "ex", "pay", "last", "a", "b", "price", "for_each", "choice"],
  ["thing", "other", "ex", "pay", "last", "a", "b", "for_each", "price", "choice"], ["number", "choice"], ["day", "thing", "price"], ["day", "thing"], ["day"], ["day"], ["day"], ["day"], ["number"], ["number"], []]
structure Tabs (P : Program) (w : World) (K : PySem.W.Frag) (a : Ad) : Prop where
  rg : ∀ (n : Str) (r : Int × Int), (n, r) ∈ rngs → ∃ t, MGet P w K a.RANGES (.str n) (.ref t) ∧ ∀ H, SqT K H t [.int r.1, .int r.2]
  ar : ∀ (c : Nat) (ns : List Str), argn[c]? = some ns → ∃ t, MGet P w K a.ARGUMENTS (.int (c : Int)) (.ref t) ∧ ∀ H, SqT K H t (ns.map V.str)
structure Nm where
  n : Str
  r : Int × Int
  z : Int
def Nm.kv (p : Nm) : Key × V := (.inr p.n, .int p.z)
def Nm.inR (p : Nm) : Bool := decide (p.r.1 ≤ p.z) && decide (p.z ≤ p.r.2)
def sp_is_within (K : PySem.W.Frag) (a : Ad) : Sp := fun vs H Q _ => ∃ p : Nm, vs = [.str p.n, .int p.z] ∧ (p.n, p.r) ∈ rngs ∧ Q (.bl p.inR) H
def sp_are_within (K : PySem.W.Frag) (a : Ad) : Sp := fun vs H Q _ => ∃ (t : Addr) (ps : List Nm), vs = [.ref t] ∧ H t = some (.dK (ps.map Nm.kv)) ∧ (∀ p ∈ ps, (p.n, p.r) ∈ rngs) ∧ ps.length ≤ 100 ∧ ∀ H', Same H H' → Q (.bl (ps.all Nm.inR)) H'
section
variable {P : Program} {w : World} {K : PySem.W.Frag} {mg : Str → Option Value} {base : Heap} {a : Ad} {σ : L2.St} {H : Hp} {Q : VK} {t : TA}
theorem m_Act {x : Action} {d : Addr} (wf : WfA x) (hd : H d = some (.dK (kvsOf x))) (ha : Ra t σ H [nV x.kind, .ref d]) (k : ∀ r H', Same H H' → H r = none → IsAct a H' r x → Q (.ref r) H') : tMake a.Action (sp_Action_init K a) [] E0 t σ H Q :=
  ha _ fun p dx np nd ne => by
    obtain ⟨l1, l2, l3, l4⟩ := act_fields wf d
    have hd2 : (upd (upd H dx (.own p)) p (.ins a.Action dx [])) d = some (.dK (kvsOf x)) := by
      rw [upd_ne (ne_of_none hd np), upd_ne (ne_of_none hd nd)]
      exact hd
    refine ⟨p, dx, d, kvsOf x, nV x.kind, nV x.sec, nV x.ex, nV x.pay, rfl, upd_same, hd2, l1, l2, l3, rfl, ?_⟩
    rw [l4]
    exact k p _ (Same.made' np nd) np ⟨dx, d, upd_same, Same.made' np nd _ _ hd⟩
theorem ok_entitlement {f : Addr} {fd : FuncData} (F : Fun K "entitlement" "entitlement" s_entitlement f fd) (T : Txt K mg a) (U_of_takeover : Use P w K mg base 3 "of_takeover" ["action", "held"] (sp_of_takeover K a)) (U_of_dividend : Use P w K mg base 3 "of_dividend" ["action", "held"] (sp_of_dividend K a)) (U_of_split : Use P w K mg base 3 "of_split" ["action", "held"] (sp_of_split K a)) (U_of_spinoff : Use P w K mg base 3 "of_spinoff" ["action", "held"] (sp_of_spinoff K a)) (U_of_rights : Use P w K mg base 3 "of_rights" ["action", "held"] (sp_of_rights K a)) : FnOk P w K mg base CX0 4 f fd ["action", "held"] (sp_entitlement K a) := by
  refine F.ok sc_entitlement (fun vs H Q E h => ?_) (fun cdv A outer s H vs Q E hr h => ?_)
  · obtain ⟨p, x, q, rfl, _⟩ := h
    rfl
  · obtain ⟨p, x, q, rfl, hA, wf, k⟩ := h
    obtain ⟨dx, t, hp, ht⟩ := id hA
    have hk := wf.kd
    refine ⟨_, (pss_cons (ps_if (pt_cmpR op_eq (pe_fld (pv 0) rfl) (pgI T.g_DIVIDEND) (nomark _)) (pss_one (ps_ret (pu U_of_dividend (hr.mono (by decide)) (pa_cons (pv 0) (pa_cons (pv 1) pa_nil))))) pss_nil)
      (pss_cons (ps_if (pt_cmpR op_eq (pe_fld (pv 0) rfl) (pgI T.g_SPLIT) (nomark _)) (pss_one (ps_ret (pu U_of_split (hr.mono (by decide)) (pa_cons (pv 0) (pa_cons (pv 1) pa_nil))))) pss_nil)
      (pss_cons (ps_if (pt_cmpR op_eq (pe_fld (pv 0) rfl) (pgI T.g_SPINOFF) (nomark _)) (pss_one (ps_ret (pu U_of_spinoff (hr.mono (by decide)) (pa_cons (pv 0) (pa_cons (pv 1) pa_nil))))) pss_nil)
      (pss_cons (ps_if (pt_cmpR op_eq (pe_fld (pv 0) rfl) (pgI T.g_RIGHTS) (nomark _)) (pss_one (ps_ret (pu U_of_rights (hr.mono (by decide)) (pa_cons (pv 0) (pa_cons (pv 1) pa_nil))))) pss_nil)
      (pss_one (ps_ret (pu U_of_takeover (hr.mono (by decide)) (pa_cons (pv 0) (pa_cons (pv 1) pa_nil))))))))), ?_⟩
    refine q_ifr (tt (req (rf rv hp T.c_Action T.nAction_kind (lAction_kind ..)) rc)) (fun e => c_call (ra1 rv (ra1 rv ra0)) ⟨p, x, q, rfl, hA, wf, by have := of_decide_eq_true e; omega, k⟩) fun e1 => ?_
    refine q_ifr (tt (req (rf rv hp T.c_Action T.nAction_kind (lAction_kind ..)) rc)) (fun e => c_call (ra1 rv (ra1 rv ra0)) ⟨p, x, q, rfl, hA, wf, by have := of_decide_eq_true e; omega, k⟩) fun e2 => ?_
    refine q_ifr (tt (req (rf rv hp T.c_Action T.nAction_kind (lAction_kind ..)) rc)) (fun e => c_call (ra1 rv (ra1 rv ra0)) ⟨p, x, q, rfl, hA, wf, by have := of_decide_eq_true e; omega, k⟩) fun e3 => ?_
    refine q_ifr (tt (req (rf rv hp T.c_Action T.nAction_kind (lAction_kind ..)) rc)) (fun e => c_call (ra1 rv (ra1 rv ra0)) ⟨p, x, q, rfl, hA, wf, by have := of_decide_eq_true e; omega, k⟩) fun e4 => ?_
    exact s_re (c_call (ra1 rv (ra1 rv ra0)) ⟨p, x, q, rfl, hA, wf, by have := of_decide_eq_false e1; have := of_decide_eq_false e2; have := of_decide_eq_false e3; have := of_decide_eq_false e4; omega, k⟩)
theorem ok_Action_with_choice {f : Addr} {fd : FuncData} (F : Fun K "with_choice" "Action.with_choice" s_Action_with_choice f fd) (T : Txt K mg a) (U_Action : UseC P w K mg base 1 "Action" a.Action ["self", "kind", "told"] (sp_Action_init K a)) : FnOk P w K mg base CX0 3 f fd ["self", "choice"] (sp_Action_with_choice K a) := by
  refine F.ok sc_Action_with_choice (fun vs H Q E h => ?_) (fun cdv A outer s H vs Q E hr h => ?_)
  · obtain ⟨p, x, c, rfl, _⟩ := h
    rfl
  · obtain ⟨p, x, c, rfl, hA, wf, h4, hc, k⟩ := h
    obtain ⟨dx, t, hp, ht⟩ := id hA
    have hlen : (kvsOf x).length < sizeLine := by
      unfold kvsOf
      split
      · exact (by decide : 4 < sizeLine)
      · split
        · exact (by decide : 6 < sizeLine)
        · split
          · exact (by decide : 7 < sizeLine)
          · split
            · exact (by decide : 9 < sizeLine)
            · exact (by decide : 10 < sizeLine)
    refine ⟨_, (pss_cons (ps_set (i := 2) sc_Action_with_choice.nd rfl (Or.inl rfl) (pe_callTy call_dcopy rfl T.b_dict boot_dict (pa_cons (pe_fld (pv 0) rfl) pa_nil)))
      (pss_cons (ps_dput (hu_of hr) (pv 2) pe_str (pv 1) rfl)
      (pss_one (ps_ret (puc U_Action (hr.mono (by decide)) (pa_cons (pe_fld (pv 0) rfl) (pa_cons (pv 2) pa_nil))))))), ?_⟩
    refine q_let ((ra1 (rf rv hp T.c_Action T.nAction_told (lAction_told ..)) ra0) _ ⟨t, kvsOf x, rfl, .inl ht, fun l hl => ?_⟩)
    have s1 : Same H (upd H l (.dK (kvsOf x))) := Same.new hl
    refine q_put (k := Sum.inr "choice") rv rv rc upd_same hlen ?_
    rw [upd_upd]
    have ek : putK (kvsOf x) (.inr "choice") (.int (c : Int)) = kvsOf { x with choice := c } := kvs_choice h4 wf c
    rw [ek]
    have s2 : Same H (upd H l (.dK (kvsOf { x with choice := c }))) := Same.new hl
    exact s_re (m_Act (x := { x with choice := c }) (wf.chosen hc h4) upd_same (ra1 (rf rv (s2 _ _ hp) T.c_Action T.nAction_kind (lAction_kind ..)) (ra1 rv ra0)) fun r H' sm _ hr' => k H' r (s2.trans sm) hr')
theorem ok_is_within {f : Addr} {fd : FuncData} (F : Fun K "is_within" "is_within" s_is_within f fd) (T : Txt K mg a) (B : Tabs P w K a) : FnOk P w K mg base CX0 1 f fd ["name", "number"] (sp_is_within K a) := by
  refine F.ok sc_is_within (fun vs H Q E h => ?_) (fun cdv A outer s H vs Q E hr h => ?_)
  · obtain ⟨p, rfl, _⟩ := h
    rfl
  · obtain ⟨p, rfl, hm, k⟩ := h
    obtain ⟨t, g, sq⟩ := B.rg p.n p.r hm
    refine ⟨_, (pss_one (ps_ret (pe_chain op_le op_le (pe_ix ix_tup (pe_mget (pgR T.d_RANGES) (pv 0) (fun _ _ => rfl)) pe_int (fun _ _ => rfl)) (pv 1) (pe_ix ix_tup (pe_mget (pgR T.d_RANGES) (pv 0) (fun _ _ => rfl)) pe_int (fun _ _ => rfl))))), ?_⟩
    exact s_ret (rch (rixT (rmg rc rv g) rc (sq _) rfl) rv (rixT (rmg rc rv g) rc (sq _) rfl)) k
theorem ok_are_within {f : Addr} {fd : FuncData} (F : Fun K "are_within" "are_within" s_are_within f fd) (T : Txt K mg a) (U_is_within : Use P w K mg base 1 "is_within" ["name", "number"] (sp_is_within K a)) : FnOk P w K mg base CX0 2 f fd ["told"] (sp_are_within K a) := by
  refine F.ok sc_are_within (fun vs H Q E h => ?_) (fun cdv A outer s H vs Q E hr h => ?_)
  · obtain ⟨t, ps, rfl, _⟩ := h
    rfl
  · obtain ⟨t, ps, rfl, ht, hm, hl, k⟩ := h
    refine ⟨_, (pss_one (ps_ret (pe_callB (cr_all rfl) rfl T.b_all boot_all (pa_cons (pe_lock (pe_lc rfl sc_are_within.nd (pi_items (pv 0)) (blkOk_by (own := [("name", 1), ("number", 2)]) (by show blkC ["told", "name", "number"] (defScope s_are_within) _ _ = true; decide +kernel)) (fun _ _ _ _ _ => (pg_tupK (K := K) (n := 2) rfl rfl (pgs_cons (pg_name (i := 1) sc_are_within.nd rfl (Or.inl rfl)) (pgs_cons (pg_name (i := 2) sc_are_within.nd rfl (Or.inl rfl)) pgs_nil)))) (fun _ _ _ _ _ => pts_nil) (fun _ _ _ _ _ => (pu U_is_within (hr.mono (by decide)) (pa_cons (pv 1) (pa_cons (pv 2) pa_nil)))))) pa_nil)))), ?_⟩
    refine s_re ?_
    refine ⟨t, _, ht, True.intro, fun od => ?_⟩
    refine ⟨_, rfl, t, od, _, rfl, upd_same, fun D hD => ?_⟩
    have nDt : D ≠ t := fun e => by rw [e, upd_same] at hD; cases hD
    refine lc_items (fun i H' => H' t = some (.frz od (.dK (ps.map Nm.kv))) ∧ H' D = some (.lst (((ps.take i).map Nm.inR).map V.bl)) ∧ ∀ b o, H b = some o → b ≠ t → H' b = some o) ?_ (fun i H' _ q => q.1) ?_ ?_
    · refine ⟨by rw [upd_ne (Ne.symm nDt)]; exact upd_same, upd_same, fun b o e nb => ?_⟩
      have q : (upd H t (.frz od (.dK (ps.map Nm.kv)))) b = some o := by rw [upd_ne nb]; exact e
      rw [upd_ne (ne_of_none q hD)]
      exact q
    · rintro i ky vv Tp H' hi hTp ⟨q1, q2, q3⟩
      rw [List.getElem?_map] at hi
      cases ei : ps[i]? with
      | none => rw [ei] at hi; cases hi
      | some p =>
        rw [ei] at hi
        cases hi
        have nDT : D ≠ Tp := fun e => by rw [← e, q2] at hTp; cases hTp
        refine ⟨Tp, _, rfl, SqT.of upd_same, rfl, _, _, rfl, _, _, rfl, rfl, ?_⟩
        refine ⟨rfl, yes_ok (c_call (ra1 rv (ra1 rv ra0)) ⟨p, rfl, hm p (List.mem_of_getElem? ei), ?_⟩)⟩
        refine ⟨_, by rw [upd_ne nDT]; exact q2, ?_, ?_, ?_, ?_⟩
        · rw [List.length_map, List.length_map, List.length_take, sizeLine_eq]
          omega
        · rw [upd_ne (Ne.symm nDt), upd_ne (ne_of_none q1 hTp)]
          exact q1
        · rw [upd_same, List.take_succ, ei]
          simp
        · intro b o e nb
          have q := q3 b o e nb
          have nbD : b ≠ D := fun z => by
            have q' : (upd H t (.frz od (.dK (ps.map Nm.kv)))) b = some o := by rw [upd_ne nb]; exact e
            rw [z, hD] at q'
            cases q'
          rw [upd_ne nbD, upd_ne (ne_of_none q hTp)]
          exact q
    · rintro H' ⟨q1, q2, q3⟩
      refine ⟨q1, ?_⟩
      rw [List.length_map, List.take_length] at q2
      refine ⟨D, ps.map Nm.inR, rfl, SqL.of (by rw [upd_ne nDt]; exact q2), ?_⟩
      have e : (ps.map Nm.inR).all id = ps.all Nm.inR := by rw [List.all_map]; rfl
      rw [e]
      refine k _ fun b o e => ?_
      by_cases c : b = t
      · rw [c, upd_same]
        rw [c, ht] at e
        exact e
      · rw [upd_ne c]
        exact q3 b o e c
end
end Hd
namespace L2
open PySem PySem.Spec PyProof.Rows
section
variable {K : PySem.W.Frag} {σ : St} {H : Hp} {ta tb tc te : TE} {t : TA} {v : V} {u tbd : TS} {D : Ends} {Q : VK}
theorem l_for {tl : TE} {l : Addr} {xs : List V} {n : Nat} (hv : Rv tl σ H (.ref l)) (hl : H l = some (.lst xs)) (Pv : Nat → St → Hp → Prop) (h0 : Pv 0 σ H) (hk : ∀ i σ' H', Pv i σ' H' → H' l = some (.lst xs))
    (hs : ∀ i x σ' H', xs[i]? = some x → Pv i σ' H' → tbd { D with nx := Pv (i + 1), ct := Pv (i + 1), bk := D.nx } (σ'.set n (some x)) H') (hd : ∀ σ' H', Pv xs.length σ' H' → D.nx σ' H') : tFor (iList K tl) (gName n) tbd D σ H :=
  hv _ ⟨l, rfl, ⟨xs, SqL.of hl⟩, for_list (K := K) (a := l) (xs := xs) Pv h0 (fun i σ' H' _ p => SqL.of (hk i σ' H' p)) (fun i x σ' H' hi p => hs i x σ' H' hi p) hd⟩
theorem q_for {tl : TE} {l : Addr} {xs : List V} {n : Nat} (hv : Rv tl σ H (.ref l)) (hl : H l = some (.lst xs)) (Pv : Nat → St → Hp → Prop) (h0 : Pv 0 σ H) (hk : ∀ i σ' H', Pv i σ' H' → H' l = some (.lst xs))
    (hs : ∀ i x σ' H' D', D'.nx = Pv (i + 1) → D'.rt = D.rt → xs[i]? = some x → Pv i σ' H' → tbd D' (σ'.set n (some x)) H') (hd : ∀ σ' H', Pv xs.length σ' H' → u D σ' H') : tSeq (tFor (iList K tl) (gName n) tbd) u D σ H :=
  l_for (D := { D with nx := u D }) hv hl Pv h0 hk (fun i x σ' H' hi p => hs i x σ' H' _ rfl rfl hi p) hd
theorem getD_of {qs : List Int} {n : Nat} (h : n < qs.length) : qs[n]? = some (qs.getD n 0) := by
  rw [List.getD_eq_getElem?_getD, List.getElem?_eq_getElem h]
  rfl
theorem at_int {qs : List Int} {n : Nat} (h : n < qs.length) : atI (qs.map V.int) (n : Int) = some (.int (qs.getD n 0)) := atI_nat (by rw [List.getElem?_map, getD_of h]; rfl)
theorem ixN_nat {m n : Nat} (h : n < m) : ixN m (n : Int) = some n := by
  unfold ixN
  rw [if_pos (by omega), if_pos (by omega)]
  rfl
theorem s_augL {q : Addr} {qs : List Int} {n : Nat} {z : Int} (ho : Rv ta σ H (.ref q)) (hi : Rv tb σ H (.int (n : Int))) (hq : H q = some (.lst (qs.map V.int))) (hn : n < qs.length) (he : Rv tc σ H (.int z)) (k : D.nx σ (upd H q (.lst ((qs.set n (qs.getD n 0 + z)).map V.int)))) :
    tAugS ta tb tc (rIxL K) (ipI fun i j => i + j) rSetL D σ H :=
  ho _ (hi _ ⟨q, _, _, _, rfl, rfl, SqL.of hq, at_int hn, he _ ⟨_, _, rfl, rfl, q, _, _, n, rfl, rfl, hq, ixN_nat (by rw [List.length_map]; exact hn), by rw [← List.map_set]; exact k⟩⟩)
theorem q_augL {q : Addr} {qs : List Int} {n : Nat} {z : Int} (ho : Rv ta σ H (.ref q)) (hi : Rv tb σ H (.int (n : Int))) (hq : H q = some (.lst (qs.map V.int))) (hn : n < qs.length) (he : Rv tc σ H (.int z)) (k : u D σ (upd H q (.lst ((qs.set n (qs.getD n 0 + z)).map V.int)))) :
    tSeq (tAugS ta tb tc (rIxL K) (ipI fun i j => i + j) rSetL) u D σ H := s_augL (D := { D with nx := u D }) ho hi hq hn he k
theorem e_app {l : Addr} {xs : List V} (ho : Rv ta σ H (.ref l)) (hl : H l = some (.lst xs)) (he : Rv te σ H v) (hz : xs.length < sizeLine) (k : Q .non (upd H l (.lst (xs ++ [v])))) : tBM K "list" rAppend ta (tCons te tNil) σ H Q :=
  ho _ ⟨.inl ⟨rfl, _, SqL.of hl⟩, he _ ⟨l, xs, v, rfl, rfl, hl, hz, k⟩⟩
theorem s_faug {f : Str} {a C dx : Addr} {fs fs' : List (Str × V)} {i j r : Int} {rd : V → V → Hp → VK → Prop} (o : Rv ta σ H (.ref a)) (h : H a = some (.ins C dx fs)) (c : Cls K C) (n : NoAttr K C f) (l : fs.lookup f = some (.int i)) (e : Rv te σ H (.int j)) (hr : ∀ Q : VK, Q (.int r) H → rd (.int i) (.int j) H Q)
    (hz : fs.length < 1000) (p : putF f (.int r) fs = fs') (k : D.nx σ (upd H a (.ins C dx fs'))) : sFldAug K ta te rd f D σ H :=
  o _ ⟨a, C, dx, fs, .int i, rfl, h, c, n, l, e _ (hr _ ⟨dx, fs, h, hz, by rw [p]; exact k⟩)⟩
theorem q_faug {f : Str} {a C dx : Addr} {fs fs' : List (Str × V)} {i j r : Int} {rd : V → V → Hp → VK → Prop} (o : Rv ta σ H (.ref a)) (h : H a = some (.ins C dx fs)) (c : Cls K C) (n : NoAttr K C f) (l : fs.lookup f = some (.int i)) (e : Rv te σ H (.int j)) (hr : ∀ Q : VK, Q (.int r) H → rd (.int i) (.int j) H Q)
    (hz : fs.length < 1000) (p : putF f (.int r) fs = fs') (k : u D σ (upd H a (.ins C dx fs'))) : tSeq (sFldAug K ta te rd f) u D σ H := s_faug (D := { D with nx := u D }) o h c n l e hr hz p k
theorem s_do (k : te σ H fun _ H1 => D.nx σ H1) : tDrop te D σ H := k
theorem ins_l {z q : Addr} {C dz : Addr} {fz : List (Str × V)} {ys : List V} {o : HO} (hz : H z = some (.ins C dz fz)) (hq : H q = some (.lst ys)) : (upd H q o) z = some (.ins C dz fz) := by
  rw [upd_ne (ne_of hz hq (by intro z; cases z))]
  exact hz
theorem lst_i {z q : Addr} {C dz : Addr} {fz : List (Str × V)} {ys : List V} {o : HO} (hz : H z = some (.lst ys)) (hq : H q = some (.ins C dz fz)) : (upd H q o) z = some (.lst ys) := by
  rw [upd_ne (ne_of hz hq (by intro z; cases z))]
  exact hz
theorem refs_inj {ps qs : List Addr} (h : ps.map V.ref = qs.map V.ref) : ps = qs := by
  have := congrArg (List.map fun v => match v with | V.ref a => a | _ => 0) h
  rw [List.map_map, List.map_map] at this
  exact (List.map_id ps).symm.trans (this.trans (List.map_id qs))
theorem rd_add {i j : Int} (Q : VK) (q : Q (.int (i + j)) H) : rAdd (.int i) (.int j) H Q := ⟨i, j, rfl, rfl, q⟩
theorem rd_sub {i j : Int} (Q : VK) (q : Q (.int (i - j)) H) : rSub (.int i) (.int j) H Q := ⟨i, j, rfl, rfl, q⟩
end
end L2
namespace Hd
open PySem PySem.Spec PyProof.Rows L2
open Vbfuah (Action Trade Price Book State effect acted paid traded dayDone days emptyBook at_ addAt)
structure Raw (a : Ad) (H0 H : Hp) (b q l : Addr) (qs : List Int) (c : Int) (ds : List Vbfuah.Due) : Prop where
  sm : Same H0 H
  nb : H0 b = none
  nq : H0 q = none
  nl : H0 l = none
  ql : q ≠ l
  ob : ∃ dx, H b = some (.ins a.Book dx (fBook (.ref q) (.int c) (.ref l)))
  qq : H q = some (.lst (qs.map V.int))
  ll : ∃ ps : List Addr, H l = some (.lst (ps.map V.ref)) ∧ Paired (IsDue a H) ps ds
section
variable {a : Ad} {H0 H H' : Hp} {b q l : Addr} {qs : List Int} {c : Int} {ds : List Vbfuah.Due}
theorem Raw.same (r : Raw a H0 H b q l qs c ds) (s : Same H H') : Raw a H0 H' b q l qs c ds :=
  ⟨r.sm.trans s, r.nb, r.nq, r.nl, r.ql, let ⟨dx, e⟩ := r.ob; ⟨dx, s _ _ e⟩, s _ _ r.qq, let ⟨ps, e, p⟩ := r.ll; ⟨ps, s _ _ e, L2.Paired.mapP p fun _ _ h => h.same s⟩⟩
theorem Raw.up {p : Addr} {o : HO} (r : Raw a H0 H b q l qs c ds) (h : H p = none) : Raw a (upd H0 p o) (upd H p o) b q l qs c ds := by
  obtain ⟨dx, e⟩ := r.ob
  obtain ⟨ps, e2, p2⟩ := r.ll
  have r' := r.same (Same.new (o := o) h)
  refine ⟨fun x u hx => ?_, ?_, ?_, ?_, r.ql, r'.ob, r'.qq, r'.ll⟩
  · by_cases z : x = p
    · rw [z, upd_same] at hx
      rw [z, upd_same]
      exact hx
    · rw [upd_ne z] at hx
      rw [upd_ne z]
      exact r.sm _ _ hx
  · rw [upd_ne (ne_of_none e h)]; exact r.nb
  · rw [upd_ne (ne_of_none r.qq h)]; exact r.nq
  · rw [upd_ne (ne_of_none e2 h)]; exact r.nl
theorem Raw.down {H1 : Hp} (r : Raw a H1 H b q l qs c ds) (s : Same H0 H1) : Raw a H0 H b q l qs c ds :=
  ⟨s.trans r.sm, s.free r.nb, s.free r.nq, s.free r.nl, r.ql, r.ob, r.qq, r.ll⟩
def fst1 : HO → Option Str
  | .ins _ _ ((f, _) :: _) => some f
  | _ => none
theorem ne_fst {o u : HO} (h : fst1 o ≠ fst1 u) : o ≠ u := fun e => h (by rw [e])
theorem book_due {C1 C2 d1 d2 : Addr} {v0 v1 v2 v : V} {fs : List (Str × V)} : HO.ins C1 d1 (fBook v0 v1 v2) ≠ HO.ins C2 d2 (("pay", v) :: fs) := ne_fst (show some ("quantities" : Str) ≠ some ("pay" : Str) by decide +kernel)
theorem due_keep {x p : Addr} {o o' : HO} {d : Vbfuah.Due} (h : IsDue a H p d) (hx : H x = some o') (ne : ∀ dx fs, o' ≠ .ins a.Due dx (("pay", nV d.day) :: fs)) : IsDue a (upd H x o) p d := by
  obtain ⟨dx, e⟩ := h
  refine ⟨dx, ?_⟩
  rw [upd_ne (ne_of e hx (Ne.symm (ne dx _)))]
  exact e
theorem Raw.setQ (r : Raw a H0 H b q l qs c ds) (qs' : List Int) : Raw a H0 (upd H q (.lst (qs'.map V.int))) b q l qs' c ds := by
  obtain ⟨dx, e⟩ := r.ob
  obtain ⟨ps, e2, p2⟩ := r.ll
  refine ⟨Same.put r.sm r.nq, r.nb, r.nq, r.nl, r.ql, ⟨dx, ?_⟩, upd_same, ps, ?_, L2.Paired.mapP p2 fun p d h => due_keep h r.qq (fun _ _ z => by cases z)⟩
  · rw [upd_ne (ne_of e r.qq (by intro z; cases z))]; exact e
  · rw [upd_ne (Ne.symm r.ql)]; exact e2
theorem Raw.setC (r : Raw a H0 H b q l qs c ds) {dx : Addr} (e : H b = some (.ins a.Book dx (fBook (.ref q) (.int c) (.ref l)))) (c' : Int) : Raw a H0 (upd H b (.ins a.Book dx (fBook (.ref q) (.int c') (.ref l)))) b q l qs c' ds := by
  obtain ⟨ps, e2, p2⟩ := r.ll
  refine ⟨Same.put r.sm r.nb, r.nb, r.nq, r.nl, r.ql, ⟨dx, upd_same⟩, ?_, ps, ?_, L2.Paired.mapP p2 fun p d h => due_keep h e (fun _ _ => book_due)⟩
  · rw [upd_ne (ne_of r.qq e (by intro z; cases z))]; exact r.qq
  · rw [upd_ne (ne_of e2 e (by intro z; cases z))]; exact e2
theorem paired_snoc {α β : Type} {F : α → β → Prop} : ∀ {xs : List α} {ys : List β} {x : α} {y : β}, Paired F xs ys → F x y → Paired F (xs ++ [x]) (ys ++ [y])
  | _, _, _, _, .nil, h => .cons h .nil
  | _, _, _, _, .cons p q, h => .cons p (paired_snoc q h)
theorem Raw.push (r : Raw a H0 H b q l qs c ds) {ps : List Addr} {p : Addr} {d : Vbfuah.Due} (e2 : H l = some (.lst (ps.map V.ref))) (p2 : Paired (IsDue a H) ps ds) (hd : IsDue a H p d) : Raw a H0 (upd H l (.lst (ps.map V.ref ++ [.ref p]))) b q l qs c (ds ++ [d]) := by
  obtain ⟨dx, e⟩ := r.ob
  refine ⟨Same.put r.sm r.nl, r.nb, r.nq, r.nl, r.ql, ⟨dx, ?_⟩, ?_, ps ++ [p], ?_, paired_snoc (L2.Paired.mapP p2 fun p d h => due_keep h e2 (fun _ _ z => by cases z)) (due_keep hd e2 (fun _ _ z => by cases z))⟩
  · rw [upd_ne (ne_of e e2 (by intro z; cases z))]; exact e
  · rw [upd_ne r.ql]; exact r.qq
  · rw [upd_same, List.map_append]; rfl
theorem Raw.setL (r : Raw a H0 H b q l qs c ds) {dx : Addr} (e : H b = some (.ins a.Book dx (fBook (.ref q) (.int c) (.ref l)))) {m : Addr} {ps : List Addr} {ds' : List Vbfuah.Due} (nm : H0 m = none) (qm : q ≠ m) (e2 : H m = some (.lst (ps.map V.ref))) (p2 : Paired (IsDue a H) ps ds') :
    Raw a H0 (upd H b (.ins a.Book dx (fBook (.ref q) (.int c) (.ref m)))) b q m qs c ds' := by
  refine ⟨Same.put r.sm r.nb, r.nb, r.nq, nm, qm, ⟨dx, upd_same⟩, ?_, ps, ?_, L2.Paired.mapP p2 fun p d h => due_keep h e (fun _ _ => book_due)⟩
  · rw [upd_ne (ne_of r.qq e (by intro z; cases z))]; exact r.qq
  · rw [upd_ne (ne_of e2 e (by intro z; cases z))]; exact e2
end
def BookOn (a : Ad) (H0 H : Hp) (b : Addr) (k : Book) : Prop := ∃ q l, Raw a H0 H b q l (0 :: k.pos) k.cash k.due
def sp_go_ex (K : PySem.W.Frag) (a : Ad) : Sp := fun vs H Q _ => ∃ (b l : Addr) (H0 : Hp) (k : Book) (xs : List Action), vs = [.ref b, .ref l] ∧ BookOn a H0 H b k ∧ LOf H0 l (IsAct a H0) xs ∧ (∀ x ∈ xs, WfA x) ∧ BookOk k ∧ fine k = true ∧ k.due.length + xs.length ≤ 10000 ∧
  ∀ H', BookOn a H0 H' b (xs.foldl (acted k) k) → Q .non H'
def sp_take_in (K : PySem.W.Frag) (a : Ad) : Sp := fun vs H Q _ => ∃ (b : Addr) (d : Nat) (H0 : Hp) (k : Book), vs = [.ref b, nV d] ∧ BookOn a H0 H b k ∧ BookOk k ∧ k.due.length ≤ 10000 ∧ ∀ H', BookOn a H0 H' b (paid d k) → Q .non H'
def sp_settle (K : PySem.W.Frag) (a : Ad) : Sp := fun vs H Q _ => ∃ (b l : Addr) (H0 : Hp) (k : Book) (ts : List Trade), vs = [.ref b, .ref l] ∧ BookOn a H0 H b k ∧ LOf H0 l (IsTrade a H0) ts ∧ (∀ t ∈ ts, WfT t) ∧ BookOk k ∧ ∀ H', BookOn a H0 H' b (ts.foldl traded k) → Q .non H'
theorem pair_at {α : Type} {F : Addr → α → Prop} {ps : List Addr} {xs : List α} (p : Paired F ps xs) {i : Nat} {v : V} (h : (ps.map V.ref)[i]? = some v) : ∃ c x, v = .ref c ∧ xs[i]? = some x ∧ F c x := by
  rw [List.getElem?_map] at h
  cases e : ps[i]? with
  | none => rw [e] at h; cases h
  | some c =>
    rw [e] at h
    obtain ⟨x, h1, h2⟩ := paired_get p e
    exact ⟨c, x, (Option.some.inj h).symm, h1, h2⟩
theorem take_snoc {α : Type} {l : List α} {i : Nat} {x : α} (h : l[i]? = some x) : l.take (i + 1) = l.take i ++ [x] := by
  rw [List.take_succ, h]
  rfl
theorem fold_snoc {α β : Type} {f : β → α → β} {b : β} {l : List α} {i : Nat} {x : α} (h : l[i]? = some x) : (l.take (i + 1)).foldl f b = f ((l.take i).foldl f b) x := by
  rw [take_snoc h, List.foldl_append]
  rfl
section
variable {P : Program} {w : World} {K : PySem.W.Frag} {mg : Str → Option Value} {base : Heap} {a : Ad}
theorem ok_go_ex {f : Addr} {fd : FuncData} (F : Fun K "go_ex" "go_ex" s_go_ex f fd) (T : Txt K mg a) (U_entitlement : Use P w K mg base 4 "entitlement" ["action", "held"] (sp_entitlement K a)) : FnOk P w K mg base CX0 5 f fd ["book", "actions"] (sp_go_ex K a) := by
  refine F.ok sc_go_ex (fun vs H Q E h => ?_) (fun cdv A outer s H vs Q E hr h => ?_)
  · obtain ⟨b, l, H0, k, xs, rfl, _⟩ := h
    rfl
  · obtain ⟨b, l, H0, k, xs, rfl, ⟨q, dl, R⟩, ⟨ps, hl, hps⟩, hw, ok, hf, hz, kk⟩ := h
    obtain ⟨dx, hb⟩ := R.ob
    refine ⟨_, (pss_cons (ps_set (i := 2) sc_go_ex.nd rfl (Or.inl rfl) (pe_callTy (call_list_of) rfl T.b_list boot_list (pa_cons (pe_fld (pv 0) rfl) pa_nil)))
      (pss_one (ps_for PassesOwn.never rfl (pi_list (pv 1)) (pg_name (i := 3) sc_go_ex.nd rfl (Or.inl rfl)) (pss_cons (ps_set (i := 4) sc_go_ex.nd rfl (Or.inl rfl) (pu U_entitlement (hr.mono (by decide)) (pa_cons (pv 3) (pa_cons (pe_ix ix_list (pv 2) (pe_fld (pv 3) rfl) (fun _ _ => rfl)) pa_nil))))
      (pss_cons (ps_augS (pe_fld (pv 0) rfl) (pe_fld (pv 3) rfl) get_list (pe_fld (pv 4) rfl) ip_add set_list)
      (pss_cons (ps_augS (pe_fld (pv 0) rfl) (pe_fld (pv 3) rfl) get_list (pe_fld (pv 4) rfl) ip_add set_list)
      (pss_one (ps_expr (pe_bm PySem.F.plainAttrs_list PySem.F.slot_list_append PySem.F.type_list_append mt_append (pe_fld (pv 0) rfl) (pa_cons (pe_fld (pv 4) rfl) pa_nil)))))))))), ?_⟩
    refine q_let ((ra1 (rf rv hb T.c_Book T.nBook_quantities (lBook_quantities ..)) ra0) _ ⟨q, _, rfl, .inl (SqL.of R.qq), fun bf hbf => ?_⟩)
    have R1 := R.up (o := .lst ((0 :: k.pos).map V.int)) hbf
    have s01 : Same H0 (upd H0 bf (.lst ((0 :: k.pos).map V.int))) := Same.new (R.sm.free hbf)
    have hlen : ∀ i, ((xs.take i).foldl (acted k) k).pos.length = 12 ∧ BookOk ((xs.take i).foldl (acted k) k) := fun i => by
      have o := fold_ok (P := BookOk) (f := acted k) (l := xs.take i) ok fun b' x hx ob => BookOk.acted (hw x (List.mem_of_mem_take hx)) ob
      exact ⟨o.len, o⟩
    refine l_for (xs := ps.map V.ref) rv (R1.sm _ _ (s01 _ _ hl)) (fun i σ' H' => ∃ v3 v4 : Option V, σ' = [some (.ref b), some (.ref l), some (.ref bf), v3, v4] ∧ BookOn a (upd H0 bf (.lst ((0 :: k.pos).map V.int))) H' b ((xs.take i).foldl (acted k) k)) ⟨none, none, rfl, q, dl, R1⟩ ?_ ?_ ?_
    · rintro i σ' H' ⟨_, _, _, q', l', r⟩
      exact r.sm _ _ (s01 _ _ hl)
    · rintro i v σ' H' hi ⟨v3, v4, rfl, q', l', r⟩
      obtain ⟨c, x, rfl, hx, hA0⟩ := pair_at hps hi
      have wf := hw x (List.mem_of_getElem? hx)
      have hA : IsAct a H' c x := (hA0.same s01).same r.sm
      obtain ⟨dc, tc, hc, _⟩ := id hA
      have hq0 := fine_at hf x.sec
      have hsec := wf.sec
      have hdest := wf.dest
      have l12 := (hlen i).1
      obtain ⟨n, hn⟩ : ∃ n : Nat, at_ k.pos x.sec = (n : Int) := ⟨(at_ k.pos x.sec).toNat, by omega⟩
      have hbf' : H' bf = some (.lst ((0 :: k.pos).map V.int)) := r.sm _ _ upd_same
      have hat : atI ((0 :: k.pos).map V.int) (x.sec : Int) = some (.int (n : Int)) := by
        rw [at_int (by rw [List.length_cons, ok.len]; omega), ← at_full, hn]
      refine q_let (c_call (ra1 rv (ra1 (rix rv (rf rv hc T.c_Action T.nAction_thing (lAction_thing ..)) (SqL.of hbf') hat) ra0)) ⟨c, x, n, rfl, hA, wf, fun H2 e s2 hE => ?_⟩)
      obtain ⟨de, du, he, hdu⟩ := hE
      have r2 := r.same s2
      have hc2 := s2 _ _ hc
      obtain ⟨dx2, hb2⟩ := r2.ob
      refine q_augL (rf rv hb2 T.c_Book T.nBook_quantities (lBook_quantities ..)) (rf rv hc2 T.c_Action T.nAction_thing (lAction_thing ..)) r2.qq (by rw [List.length_cons, l12]; omega) (rf rv he T.c_Entitlement T.nEntitlement_change (lEntitlement_change ..)) ?_
      have r3 := r2.setQ ((0 :: ((xs.take i).foldl (acted k) k).pos).set x.sec ((0 :: ((xs.take i).foldl (acted k) k).pos).getD x.sec 0 + (effect x n).own))
      have hc3 := ins_l (o := .lst (((0 :: ((xs.take i).foldl (acted k) k).pos).set x.sec ((0 :: ((xs.take i).foldl (acted k) k).pos).getD x.sec 0 + (effect x n).own)).map V.int)) hc2 r2.qq
      have he3 := ins_l (o := .lst (((0 :: ((xs.take i).foldl (acted k) k).pos).set x.sec ((0 :: ((xs.take i).foldl (acted k) k).pos).getD x.sec 0 + (effect x n).own)).map V.int)) he r2.qq
      obtain ⟨dx3, hb3⟩ := r3.ob
      refine q_augL (rf rv hb3 T.c_Book T.nBook_quantities (lBook_quantities ..)) (rf rv hc3 T.c_Action T.nAction_other (lAction_other ..)) r3.qq (by rw [List.length_set, List.length_cons, l12]; omega) (rf rv he3 T.c_Entitlement T.nEntitlement_spun (lEntitlement_spun ..)) ?_
      have hdu3 := due_keep (o := .lst (((0 :: ((xs.take i).foldl (acted k) k).pos).set x.sec ((0 :: ((xs.take i).foldl (acted k) k).pos).getD x.sec 0 + (effect x n).own)).map V.int)) hdu r2.qq (fun _ _ z => by cases z)
      have ef := acted_full (before := k) (k := (xs.take i).foldl (acted k) k) wf l12
      have hn' : (at_ k.pos x.sec).toNat = n := by omega
      dsimp only at ef
      rw [hn'] at ef
      rw [← ef]
      have r4 := r3.setQ (0 :: (acted k ((xs.take i).foldl (acted k) k) x).pos)
      have he4 := ins_l (o := .lst ((0 :: (acted k ((xs.take i).foldl (acted k) k) x).pos).map V.int)) he3 r3.qq
      have hdu4 := due_keep (o := .lst ((0 :: (acted k ((xs.take i).foldl (acted k) k) x).pos).map V.int)) hdu3 r3.qq (fun _ _ z => by cases z)
      obtain ⟨dx4, hb4⟩ := r4.ob
      obtain ⟨ps4, el4, pp4⟩ := r4.ll
      refine s_do (e_app (rf rv hb4 T.c_Book T.nBook_dues (lBook_dues ..)) el4 (rf rv he4 T.c_Entitlement T.nEntitlement_due (lEntitlement_due ..)) ?_ ?_)
      · rw [List.length_map, Paired.length pp4, fold_acted_due, List.length_take, sizeLine_eq]
        omega
      · have r5 := r4.push el4 pp4 hdu4
        refine ⟨_, _, rfl, q', l', ?_⟩
        rw [fold_snoc hx, acted_cash, acted_due, hn']
        exact r5
    · rintro σ' H' ⟨v3, v4, rfl, q', l', r⟩
      rw [List.length_map, Paired.length hps, List.take_length] at r
      exact kk H' ⟨q', l', r.down s01⟩
theorem ok_take_in {f : Addr} {fd : FuncData} (F : Fun K "take_in" "take_in" s_take_in f fd) (T : Txt K mg a) : FnOk P w K mg base CX0 1 f fd ["book", "day"] (sp_take_in K a) := by
  refine F.ok sc_take_in (fun vs H Q E h => ?_) (fun cdv A outer s H vs Q E hr h => ?_)
  · obtain ⟨b, d, H0, k, rfl, _⟩ := h
    rfl
  · obtain ⟨b, d, H0, k, rfl, ⟨q, dl, R⟩, ok, hz, kk⟩ := h
    refine ⟨_, (pss_cons (ps_set (i := 2) sc_take_in.nd rfl (Or.inl rfl) (pe_lst pa_nil))
      (pss_cons (ps_for PassesOwn.never rfl (pi_list (pe_fld (pv 0) rfl)) (pg_name (i := 3) sc_take_in.nd rfl (Or.inl rfl)) (pss_one (ps_if (pt_cmpR op_gt (pe_fld (pv 3) rfl) (pv 1) (nomark _)) (pss_one (ps_expr (pe_bm PySem.F.plainAttrs_list PySem.F.slot_list_append PySem.F.type_list_append mt_append (pv 2) (pa_cons (pv 3) pa_nil)))) (pss_cons (ps_fldaug (pv 0) (pe_fld (pv 3) rfl) in_add)
      (pss_one (ps_augS (pe_fld (pv 0) rfl) (pe_fld (pv 3) rfl) get_list (pe_fld (pv 3) rfl) ip_add set_list))))))
      (pss_one (ps_fld (pv 0) (pv 2) rfl)))), ?_⟩
    refine q_let ⟨Nat.zero_le _, fun m hm => ?_⟩
    have nm : H0 m = none := R.sm.free hm
    have R1 : Raw a H0 (upd H m (.lst [])) b q dl (0 :: k.pos) k.cash k.due := R.same (Same.new hm)
    have qm : q ≠ m := ne_of_none R.qq hm
    obtain ⟨dx, hb⟩ := id R.ob
    have bm : b ≠ m := ne_of_none hb hm
    obtain ⟨ps, hl, hps⟩ := R1.ll
    obtain ⟨_, hl0, _⟩ := R.ll
    have lm : dl ≠ m := ne_of_none hl0 hm
    have okI : ∀ i, BookOk ((k.due.take i).foldl (payOne d) { k with due := [] }) := fun i =>
      fold_ok (P := BookOk) ⟨ok.len, fun _ h => by cases h⟩ fun b' x hx ob => BookOk.payOne ob (ok.dues x (List.mem_of_mem_take hx))
    obtain ⟨dx1, hb1⟩ := R1.ob
    refine q_for (xs := ps.map V.ref) (rf rv hb1 T.c_Book T.nBook_dues (lBook_dues ..)) hl (fun i σ' H' => ∃ v3 : Option V, σ' = [some (.ref b), some (nV d), some (.ref m), v3] ∧ H' dl = some (.lst (ps.map V.ref)) ∧
      Raw a H0 H' b q dl (0 :: ((k.due.take i).foldl (payOne d) { k with due := [] }).pos) ((k.due.take i).foldl (payOne d) { k with due := [] }).cash k.due ∧
      ∃ kp : List Addr, H' m = some (.lst (kp.map V.ref)) ∧ Paired (IsDue a H') kp ((k.due.take i).foldl (payOne d) { k with due := [] }).due) ⟨none, rfl, hl, R1, [], upd_same, .nil⟩ (fun i σ' H' p => let ⟨_, _, e, _⟩ := p; e) ?_ ?_
    · rintro i v σ' H' D' eN eR hi ⟨v3, rfl, hD, r, kp, hkp, pkp⟩
      obtain ⟨c, x, rfl, hx, _⟩ := pair_at hps hi
      obtain ⟨ps', e', pp'⟩ := id r.ll
      rw [hD] at e'
      have eps : ps = ps' := refs_inj (by injection e' with e'; injection e')
      subst eps
      obtain ⟨c', x', ec, hx', hdue⟩ := pair_at pp' hi
      cases ec
      rw [hx] at hx'
      cases hx'
      obtain ⟨dc, hc⟩ := id hdue
      have ob := okI i
      have dk := ok.dues x (List.mem_of_getElem? hx)
      obtain ⟨dxb, hbb⟩ := id r.ob
      refine s_if (tt (r0 (rf rv hc T.c_Due T.nDue_pay (lDue_pay ..)) rv)) (fun e => ?_) (fun e => ?_)
      · have e1 := of_decide_eq_true e
        refine s_do (e_app rv hkp rv ?_ ?_)
        · rw [List.length_map, Paired.length pkp, sizeLine_eq]
          have := fold_pay_due d (k.due.take i) { k with due := [] }
          have h0 : ({ k with due := [] } : Book).due.length = 0 := rfl
          rw [List.length_take] at this
          omega
        · rw [eN]
          have ep : payOne d ((k.due.take i).foldl (payOne d) { k with due := [] }) x = { (k.due.take i).foldl (payOne d) { k with due := [] } with due := ((k.due.take i).foldl (payOne d) { k with due := [] }).due ++ [x] } := if_neg (by omega)
          refine ⟨_, rfl, ?_, ?_, kp ++ [c], ?_, ?_⟩
          · rw [upd_ne lm]; exact hD
          · rw [fold_snoc hx, ep]
            refine ⟨Same.put r.sm nm, r.nb, r.nq, r.nl, r.ql, ⟨dxb, ?_⟩, ?_, ps, ?_, L2.Paired.mapP pp' fun p d h => due_keep h hkp (fun _ _ z => by cases z)⟩
            · rw [upd_ne bm]; exact hbb
            · rw [upd_ne qm]; exact r.qq
            · rw [upd_ne lm]; exact hD
          · rw [upd_same, List.map_append]; rfl
          · rw [fold_snoc hx, ep]
            exact paired_snoc (L2.Paired.mapP pkp fun p d h => due_keep h hkp (fun _ _ z => by cases z)) (due_keep hdue hkp (fun _ _ z => by cases z))
      · have e1 := of_decide_eq_false e
        have ep : payOne d ((k.due.take i).foldl (payOne d) { k with due := [] }) x = { (k.due.take i).foldl (payOne d) { k with due := [] } with pos := addAt ((k.due.take i).foldl (payOne d) { k with due := [] }).pos x.sec (x.qty : Int), cash := ((k.due.take i).foldl (payOne d) { k with due := [] }).cash + x.cash } := if_pos (by omega)
        refine q_faug rv hbb T.c_Book T.nBook_cash (lBook_cash ..) (rf rv hc T.c_Due T.nDue_cash (lDue_cash ..)) rd_add (show 3 < 1000 by decide) (pBook_cash ..) ?_
        have r2 := r.setC hbb (((k.due.take i).foldl (payOne d) { k with due := [] }).cash + x.cash)
        have hc2 : (upd H' b (.ins a.Book dxb (fBook (.ref q) (.int (((k.due.take i).foldl (payOne d) { k with due := [] }).cash + x.cash)) (.ref dl)))) c = some (.ins a.Due dc (fDue (nV x.day) (.int x.cash) (nV x.sec) (nV x.qty))) := by
          rw [upd_ne (ne_of hc hbb (Ne.symm book_due))]
          exact hc
        have hdue2 := due_keep (o := .ins a.Book dxb (fBook (.ref q) (.int (((k.due.take i).foldl (payOne d) { k with due := [] }).cash + x.cash)) (.ref dl))) hdue hbb (fun _ _ => book_due)
        refine s_augL (n := x.sec) (rf rv upd_same T.c_Book T.nBook_quantities (lBook_quantities ..)) (rf rv hc2 T.c_Due T.nDue_thing (lDue_thing ..)) r2.qq (by rw [List.length_cons, ob.len]; have := dk.1; omega) (rf rv hc2 T.c_Due T.nDue_quantity (lDue_quantity ..)) ?_
        rw [eN]
        rw [← addAt_any _ x.sec (x.qty : Int) (fun z => by rw [dk.2 z]; rfl) (by rw [ob.len]; exact dk.1)]
        have r3 := r2.setQ (0 :: addAt ((k.due.take i).foldl (payOne d) { k with due := [] }).pos x.sec (x.qty : Int))
        refine ⟨_, rfl, ?_, ?_, kp, ?_, ?_⟩
        · rw [upd_ne (Ne.symm r.ql)]
          exact lst_i hD hbb
        · rw [fold_snoc hx, ep]
          exact r3
        · rw [upd_ne (Ne.symm qm)]
          exact lst_i hkp hbb
        · rw [fold_snoc hx, ep]
          exact L2.Paired.mapP pkp fun p d h => due_keep (due_keep h hbb (fun _ _ => book_due)) r2.qq (fun _ _ z => by cases z)
    · rintro σ' H' ⟨v3, rfl, hD, r, kp, hkp, pkp⟩
      rw [List.length_map, Paired.length hps, List.take_length] at r pkp
      obtain ⟨dxb, hbb⟩ := id r.ob
      refine s_fldE (fs' := fBook (.ref q) (.int (k.due.foldl (payOne d) { k with due := [] }).cash) (.ref m)) rv rv hbb T.c_Book T.nBook_dues (show 3 < 1000 by decide) (pBook_dues ..) ?_
      refine kk _ ⟨q, m, ?_⟩
      rw [paid_eq]
      exact r.setL hbb nm qm hkp pkp
theorem ok_settle {f : Addr} {fd : FuncData} (F : Fun K "settle" "settle" s_settle f fd) (T : Txt K mg a) : FnOk P w K mg base CX0 1 f fd ["book", "trades"] (sp_settle K a) := by
  refine F.ok sc_settle (fun vs H Q E h => ?_) (fun cdv A outer s H vs Q E hr h => ?_)
  · obtain ⟨b, l, H0, k, ts, rfl, _⟩ := h
    rfl
  · obtain ⟨b, l, H0, k, ts, rfl, ⟨q, dl, R⟩, ⟨ps, hl, hps⟩, hw, ok, kk⟩ := h
    refine ⟨_, (pss_one (ps_for PassesOwn.never rfl (pi_list (pv 1)) (pg_name (i := 2) sc_settle.nd rfl (Or.inl rfl)) (pss_cons (ps_augS (pe_fld (pv 0) rfl) (pe_fld (pv 2) rfl) get_list (pe_fld (pv 2) rfl) ip_add set_list)
      (pss_one (ps_if (pt_cmpR op_gt (pe_fld (pv 2) rfl) pe_int (nomark _)) (pss_one (ps_fldaug (pv 0) (pe_fld (pv 2) rfl) in_sub)) (pss_one (ps_fldaug (pv 0) (pe_fld (pv 2) rfl) in_add))))))), ?_⟩
    have okI : ∀ i, BookOk ((ts.take i).foldl traded k) := fun i => fold_ok (P := BookOk) ok fun b' x hx ob => BookOk.traded ob
    refine l_for (xs := ps.map V.ref) rv (R.sm _ _ hl) (fun i σ' H' => ∃ v2 : Option V, σ' = [some (.ref b), some (.ref l), v2] ∧ BookOn a H0 H' b ((ts.take i).foldl traded k)) ⟨none, rfl, q, dl, R⟩ ?_ ?_ ?_
    · rintro i σ' H' ⟨_, _, q', l', r⟩
      exact r.sm _ _ hl
    · rintro i v σ' H' hi ⟨v2, rfl, q', l', r⟩
      obtain ⟨c, x, rfl, hx, hT0⟩ := pair_at hps hi
      have wf := hw x (List.mem_of_getElem? hx)
      obtain ⟨dc, hc⟩ := hT0.same r.sm
      have ob := okI i
      have hsec := wf.sec
      obtain ⟨dxb, hbb⟩ := id r.ob
      refine q_augL (n := x.sec) (rf rv hbb T.c_Book T.nBook_quantities (lBook_quantities ..)) (rf rv hc T.c_Trade T.nTrade_thing (lTrade_thing ..)) r.qq (by rw [List.length_cons, ob.len]; omega) (rf rv hc T.c_Trade T.nTrade_quantity (lTrade_quantity ..)) ?_
      rw [← addAt_full _ hsec.1]
      have r2 := r.setQ (0 :: addAt ((ts.take i).foldl traded k).pos x.sec x.qty)
      have hc2 := ins_l (o := .lst ((0 :: addAt ((ts.take i).foldl traded k).pos x.sec x.qty).map V.int)) hc r.qq
      obtain ⟨dx2, hb2⟩ := id r2.ob
      refine s_if (tt (r0 (rf rv hc2 T.c_Trade T.nTrade_quantity (lTrade_quantity ..)) rc)) (fun e => ?_) (fun e => ?_)
      · have e1 := of_decide_eq_true e
        refine s_faug rv hb2 T.c_Book T.nBook_cash (lBook_cash ..) (rf rv hc2 T.c_Trade T.nTrade_money (lTrade_money ..)) rd_sub (show 3 < 1000 by decide) (pBook_cash ..) ?_
        refine ⟨_, rfl, q', l', ?_⟩
        rw [fold_snoc hx]
        have et : traded ((ts.take i).foldl traded k) x = { (ts.take i).foldl traded k with pos := addAt ((ts.take i).foldl traded k).pos x.sec x.qty, cash := ((ts.take i).foldl traded k).cash - (x.money : Int) } := by
          unfold traded
          rw [if_pos e1]
        rw [et]
        exact r2.setC hb2 _
      · have e1 := of_decide_eq_false e
        refine s_faug rv hb2 T.c_Book T.nBook_cash (lBook_cash ..) (rf rv hc2 T.c_Trade T.nTrade_money (lTrade_money ..)) rd_add (show 3 < 1000 by decide) (pBook_cash ..) ?_
        refine ⟨_, rfl, q', l', ?_⟩
        rw [fold_snoc hx]
        have et : traded ((ts.take i).foldl traded k) x = { (ts.take i).foldl traded k with pos := addAt ((ts.take i).foldl traded k).pos x.sec x.qty, cash := ((ts.take i).foldl traded k).cash + (x.money : Int) } := by
          unfold traded
          rw [if_neg e1]
        rw [et]
        exact r2.setC hb2 _
    · rintro σ' H' ⟨v2, rfl, q', l', r⟩
      rw [List.length_map, Paired.length hps, List.take_length] at r
      exact kk H' ⟨q', l', r⟩
end
end Hd
namespace L2
open PySem PySem.Spec PyProof.Rows
section
variable {K : PySem.W.Frag} {σ : St} {H : Hp} {ta tb tc te : TE} {t : TA} {v : V} {u tbd : TS} {D : Ends} {Q : VK}
def Fl (K : PySem.W.Frag) (ta : TE) (f : Str) (v : V) (N : St → Hp → Prop) : St → Hp → Prop := fun σ H => ta σ H fun x H2 => ∃ a C dx fs, x = .ref a ∧ H2 a = some (.ins C dx fs) ∧ Cls K C ∧ NoAttr K C f ∧ fs.length < 1000 ∧ N σ (upd H2 a (.ins C dx (putF f v fs)))
theorem q_fldM {f : Str} (h : tb σ H fun v H1 => Fl K ta f v (u D) σ H1) : tSeq (sFld K ta tb f) u D σ H := h
theorem s_fldM {f : Str} (h : tb σ H fun v H1 => Fl K ta f v D.nx σ H1) : sFld K ta tb f D σ H := h
theorem fl {f : Str} {a C dx : Addr} {fs fs' : List (Str × V)} {N : St → Hp → Prop} (r : Rv ta σ H (.ref a)) (h : H a = some (.ins C dx fs)) (c : Cls K C) (n : NoAttr K C f) (l : fs.length < 1000) (e : putF f v fs = fs') (k : N σ (upd H a (.ins C dx fs'))) : Fl K ta f v N σ H :=
  r _ ⟨a, C, dx, fs, rfl, h, c, n, l, by rw [e]; exact k⟩
end
end L2
namespace Hd
open PySem PySem.Spec PyProof.Rows L2
open Vbfuah (Action Trade Price Book State effect acted paid traded dayDone days emptyBook at_ addAt)
structure GF (B H : Hp) (d : Addr) {α : Type} (P : Addr → α → Prop) (key : α → Nat) (xs : List α) (kvs : List (Key × V)) : Prop where
  sm : ∀ z o, B z = some o → z ≠ d → H z = some o
  at_ : H d = some (.dK kvs)
  len : kvs.length ≤ xs.length
  keys : ∀ kv ∈ kvs, ∃ x ∈ xs, kv.1 = .inl (key x : Int)
  grp : ∀ n : Nat, (valV kvs (.inl (n : Int)) = none ∧ xs.filter (fun x => key x == n) = []) ∨ ∃ l ps, valV kvs (.inl (n : Int)) = some (.ref l) ∧ B l = none ∧ H l = some (.lst (ps.map V.ref)) ∧ Paired P ps (xs.filter fun x => key x == n)
  inj : ∀ (k k' : Key) (l : Addr), valV kvs k = some (.ref l) → valV kvs k' = some (.ref l) → k = k'
theorem GF.nil {B : Hp} {d : Addr} {α : Type} {P : Addr → α → Prop} {key : α → Nat} (h : B d = some (.dK [])) : GF B B d P key [] [] where
  sm := fun _ _ e _ => e
  at_ := h
  len := Nat.le_refl _
  keys := fun _ h => by cases h
  grp := fun n => .inl ⟨rfl, rfl⟩
  inj := fun _ _ _ h => by cases h
theorem filter_snoc {α : Type} {p : α → Bool} {xs : List α} {x : α} : (xs ++ [x]).filter p = if p x = true then xs.filter p ++ [x] else xs.filter p := by
  rw [List.filter_append]
  cases h : p x with
  | true => simp [h]
  | false => simp [h]
theorem grp_add {K : PySem.W.Frag} {B H : Hp} {d p : Addr} {α : Type} {P : Addr → α → Prop} {key : α → Nat} {xs : List α} {x : α} {kvs : List (Key × V)} {td ty te : TE} {σ : L2.St} {Q : VK} (G : GF B H d P key xs kvs) (hd : Rv td σ H (.ref d)) (hy : Rv ty σ H (nV (key x))) (hv : ∀ H2, Rv te σ H2 (.ref p)) (hP : P p x)
    (hz : xs.length ≤ 1000) (dB : ∃ o, B d = some o) (k : ∀ H' kvs', GF B H' d P key (xs ++ [x]) kvs' → Q .non H') : tBM K "list" rAppend (tSetD td ty (tLst tNil)) (tCons te tNil) σ H Q := by
  have hlen := G.len
  refine hd _ ⟨d, rfl, .inl ⟨kvs, .inl G.at_⟩, hy _ ⟨Nat.zero_le _, fun m hm => ⟨kvs, .inl (key x : Int), by rw [upd_ne (ne_of_none G.at_ hm)]; exact G.at_, rfl, by rw [sizeLine_eq]; omega, fun v hvv => ?_, fun hn => ?_⟩⟩⟩
  · -- there already
    rcases G.grp (key x) with ⟨e, _⟩ | ⟨l, ps, e, hB, hl, hp⟩
    · rw [e] at hvv
      cases hvv
    · rw [e] at hvv
      cases hvv
      have ld : l ≠ d := ne_of hl G.at_ (by intro z; cases z)
      have lm : l ≠ m := ne_of_none hl hm
      have hl3 : (upd H m (.lst [])) l = some (.lst (ps.map V.ref)) := by rw [upd_ne lm]; exact hl
      have hps : ps.length ≤ xs.length := by
        rw [Paired.length hp]
        exact List.length_filter_le _ _
      refine ⟨.inl ⟨rfl, _, SqL.of hl3⟩, hv _ _ ⟨l, _, _, rfl, rfl, hl3, by rw [List.length_map, sizeLine_eq]; omega, k _ kvs ⟨fun z o ez nz => ?_, ?_, ?_, fun kv hkv => ?_, fun n => ?_, G.inj⟩⟩⟩
      · have zl : z ≠ l := fun q => by rw [q, hB] at ez; cases ez
        have ez' := G.sm z o ez nz
        rw [upd_ne zl, upd_ne (ne_of_none ez' hm)]
        exact ez'
      · rw [upd_ne (Ne.symm ld), upd_ne (ne_of_none G.at_ hm)]
        exact G.at_
      · rw [List.length_append]
        omega
      · obtain ⟨y, hy1, hy2⟩ := G.keys kv hkv
        exact ⟨y, List.mem_append_left _ hy1, hy2⟩
      · rcases G.grp n with ⟨e1, e2⟩ | ⟨l1, ps1, e1, hB1, hl1, hp1⟩
        · refine .inl ⟨e1, ?_⟩
          rw [filter_snoc, if_neg, e2]
          intro q
          have q' : key x = n := by simpa using q
          rw [q', e1] at e
          cases e
        · by_cases c : key x = n
          · subst c
            rw [e] at e1
            cases e1
            rw [hl] at hl1
            have ep : ps = ps1 := refs_inj (by injection hl1 with hl1; injection hl1)
            subst ep
            refine .inr ⟨l, ps ++ [p], e, hB, by rw [upd_same, List.map_append]; rfl, ?_⟩
            rw [filter_snoc, if_pos (by simp)]
            exact paired_snoc hp hP
          · have ll : l1 ≠ l := fun q => by
              rw [q] at e1
              have := G.inj _ _ _ e1 e
              have := Sum.inl.inj this
              omega
            refine .inr ⟨l1, ps1, e1, hB1, by rw [upd_ne ll, upd_ne (ne_of_none hl1 hm)]; exact hl1, ?_⟩
            rw [filter_snoc, if_neg (by simpa using c)]
            exact hp1
  · -- a new day
    have dm : d ≠ m := ne_of_none G.at_ hm
    have hBm : B m = none := by
      cases q : B m with
      | none => rfl
      | some o =>
        rw [G.sm m o q (Ne.symm dm)] at hm
        cases hm
    have hm3 : (upd (upd H m (.lst [])) d (.dK (putK kvs (.inl (key x : Int)) (.ref m)))) m = some (.lst []) := by
      rw [upd_ne (Ne.symm dm)]
      exact upd_same
    have nov : ∀ k' , valV kvs k' ≠ some (.ref m) := fun k' q => by
      have hk := valV_in q
      obtain ⟨kv, hkv, ek⟩ := List.mem_map.mp hk
      obtain ⟨y, _, ey⟩ := G.keys kv hkv
      rw [← ek, ey] at q
      rcases G.grp (key y) with ⟨e, _⟩ | ⟨l, ps, e, hB, hl, hp⟩
      · rw [e] at q; cases q
      · rw [e] at q
        cases q
        rw [hl] at hm
        cases hm
    refine ⟨.inl ⟨rfl, _, SqL.of hm3⟩, hv _ _ ⟨m, _, _, rfl, rfl, hm3, by rw [sizeLine_eq]; decide, k _ (putK kvs (.inl (key x : Int)) (.ref m)) ⟨fun z o ez nz => ?_, ?_, ?_, fun kv hkv => ?_, fun n => ?_, fun k1 k2 l h1 h2 => ?_⟩⟩⟩
    · have ez' := G.sm z o ez nz
      have zm := ne_of_none ez' hm
      rw [upd_ne zm, upd_ne nz, upd_ne zm]
      exact ez'
    · rw [upd_ne dm]
      exact upd_same
    · have := length_putK kvs (.inl (key x : Int)) (.ref m)
      rw [List.length_append, List.length_cons, List.length_nil]
      omega
    · rw [putK_new _ hn] at hkv
      rcases List.mem_append.mp hkv with h | h
      · obtain ⟨y, hy1, hy2⟩ := G.keys kv h
        exact ⟨y, List.mem_append_left _ hy1, hy2⟩
      · rw [List.mem_singleton.mp h]
        exact ⟨x, by simp, rfl⟩
    · rw [valV_put]
      by_cases c : key x = n
      · subst c
        rw [if_pos rfl]
        rcases G.grp (key x) with ⟨e1, e2⟩ | ⟨l, ps, e, _⟩
        · refine .inr ⟨m, [p], rfl, hBm, by rw [upd_same]; rfl, ?_⟩
          rw [filter_snoc, if_pos (by simp), e2]
          exact .cons hP .nil
        · rw [e] at hn
          cases hn
      · rw [if_neg (fun q => c (by have := Sum.inl.inj q; omega)), filter_snoc, if_neg (by simpa using c)]
        rcases G.grp n with ⟨e1, e2⟩ | ⟨l, ps, e, hB, hl, hp⟩
        · exact .inl ⟨e1, e2⟩
        · have lm : l ≠ m := ne_of_none hl hm
          have ld : l ≠ d := ne_of hl G.at_ (by intro z; cases z)
          exact .inr ⟨l, ps, e, hB, by rw [upd_ne lm, upd_ne ld, upd_ne lm]; exact hl, hp⟩
    · rw [valV_put] at h1 h2
      split at h1
      · rename_i c1
        cases h1
        split at h2
        · rename_i c2
          rw [c1, c2]
        · exact absurd h2 (nov _)
      · split at h2
        · cases h2
          exact absurd h1 (nov _)
        · exact G.inj _ _ _ h1 h2
def Grp (H : Hp) {α : Type} (d : Addr) (P : Addr → α → Prop) (key : α → Nat) (xs : List α) : Prop := ∃ kvs, H d = some (.dK kvs) ∧ ∀ n : Nat, (valV kvs (.inl (n : Int)) = none ∧ xs.filter (fun x => key x == n) = []) ∨ ∃ l, valV kvs (.inl (n : Int)) = some (.ref l) ∧ LOf H l P (xs.filter fun x => key x == n)
def stt (ts : List Trade) (xs : List Action) : State := { today := 0, next := 1, trades := ts, actions := xs, prices := [] }
def IsDiary (a : Ad) (H : Hp) (y : Addr) (ts : List Trade) (xs : List Action) : Prop := ∃ dx dt da dl, H y = some (.ins a.Diary dx (fDiary (.ref dt) (.ref da) (.ref dl))) ∧ Grp H dt (IsTrade a H) (fun t => t.day) ts ∧ Grp H da (IsAct a H) (fun x => x.ex) xs ∧
  H dl = some (.lst ((days (stt ts xs)).map fun n => nV n))
theorem get_grp {H0 H : Hp} {d : Addr} {α : Type} {P : Addr → α → Prop} {key : α → Nat} {xs : List α} {n : Nat} {td ty : TE} {σ : L2.St} {Q : VK} (hd : Rv td σ H (.ref d)) (hy : Rv ty σ H (nV n)) (g : Grp H0 d P key xs) (sm : Same H0 H)
    (k : ∀ m l, H m = none → LOf (upd H0 m (.lst [])) l P (xs.filter fun x => key x == n) → Q (.ref l) (upd H m (.lst []))) : tDGet2 td ty (tLst tNil) σ H Q := by
  obtain ⟨kvs, e, g⟩ := g
  refine hd _ ⟨d, rfl, .inl ⟨kvs, .inl (sm _ _ e)⟩, hy _ ⟨Nat.zero_le _, fun m hm => ⟨valV kvs (.inl (n : Int)), DGet.k (k := Sum.inl (n : Int)) (by rw [upd_ne (ne_of_none (sm _ _ e) hm)]; exact sm _ _ e), ?_⟩⟩⟩
  rcases g n with ⟨e1, e2⟩ | ⟨l, e1, ps, hl, hp⟩
  · rw [e1]
    refine k m m hm ⟨[], upd_same, ?_⟩
    rw [e2]
    exact .nil
  · rw [e1]
    exact k m l hm ⟨ps, by rw [upd_ne (ne_of_none (sm _ _ hl) hm)]; exact hl, hp⟩
end Hd
namespace L2
open PySem PySem.Spec PyProof.Rows
section
variable {σ : St} {H : Hp} {ta tb : TE} {t : TA} {Q : VK}
theorem i_op {r : R2} (h : ta σ H fun x H1 => tb σ H1 fun y H2 => r x y H2 Q) : tOp r ta tb σ H Q := h
theorem i_and (h : ta σ H fun x H1 => ∃ c, x = .bl c ∧ if c = true then tb σ H1 Q else Q (.bl false) H1) : tAndV ta tb σ H Q := h
theorem i_cb {r : List V → Hp → VK → Prop} (h : t σ H fun vs H1 => r vs H1 Q) : tCB r t σ H Q := h
theorem i_cons {q : List V → Hp → Prop} (h : ta σ H fun x H1 => t σ H1 fun xs H2 => q (x :: xs) H2) : tCons ta t σ H q := h
theorem cb {r : List V → Hp → VK → Prop} {vs : List V} (a : Ra t σ H vs) (h : r vs H Q) : tCB r t σ H Q := a _ h
end
end L2
namespace Hd
open PySem PySem.Spec PyProof.Rows L2
open Vbfuah (Action Trade Price Book State effect acted paid traded dayDone days emptyBook at_ addAt)
def sp_Book_init (K : PySem.W.Frag) (a : Ad) : Sp := fun vs H Q _ => ∃ p dx, vs = [.ref p] ∧ H p = some (.ins a.Book dx []) ∧ ∀ H', (∀ H0, Same H0 H → H0 p = none → BookOn a H0 H' p emptyBook) → Q .non H'
def sp_is_possible (K : PySem.W.Frag) (a : Ad) : Sp := fun vs H Q _ => ∃ b H0 k, vs = [.ref b] ∧ BookOn a H0 H b k ∧ Q (.bl (fine k)) H
section
variable {P : Program} {w : World} {K : PySem.W.Frag} {mg : Str → Option Value} {base : Heap} {a : Ad} {σ : L2.St} {H : Hp} {Q : VK} {t : TA}
theorem m_Book (k : ∀ b H', BookOn a H H' b emptyBook → Q (.ref b) H') : tMake a.Book (sp_Book_init K a) [] E0 tNil σ H Q := fun x dx nx nd ne =>
  ⟨x, dx, rfl, upd_same, fun H' h => ⟨rfl, k x H' (h H (fun b u e => by rw [upd_ne (ne_of_none e nx), upd_ne (ne_of_none e nd)]; exact e) nx)⟩⟩
theorem ok_Book_init {f : Addr} {fd : FuncData} (F : Fun K "__init__" "Book.__init__" s_Book_init f fd) (T : Txt K mg a) : FnOk P w K mg base CX0 1 f fd ["self"] (sp_Book_init K a) := by
  refine F.ok sc_Book_init (fun vs H Q E h => ?_) (fun cdv A outer s H vs Q E hr h => ?_)
  · obtain ⟨p, dx, rfl, _⟩ := h
    rfl
  · obtain ⟨p, dx, rfl, hp, k⟩ := h
    refine ⟨_, (pss_cons (ps_fld (pv 0) (pe_op op_rep (pe_lst (pa_cons pe_int pa_nil)) (pe_op op_add (pgI T.g_THINGS) pe_int)) rfl)
      (pss_cons (ps_fld (pv 0) pe_int rfl)
      (pss_one (ps_fld (pv 0) (pe_lst pa_nil) rfl)))), ?_⟩
    refine q_fldM ⟨by rw [sizeLine_eq]; decide, fun l1 hl1 => r0 rc rc _ ⟨l1, _, _, rfl, rfl, upd_same, by decide, by decide, by rw [sizeLine_eq]; decide, fun q hq => ?_⟩⟩
    have e1 : p ≠ l1 := ne_of_none hp hl1
    have hp1 : (upd H l1 (.lst [V.int 0])) p = some (.ins a.Book dx []) := by rw [upd_ne e1]; exact hp
    have e2 : p ≠ q := ne_of_none hp1 hq
    refine fl (fs := []) (fs' := [("quantities", .ref q)]) rv (by rw [upd_ne e2]; exact hp1) T.c_Book T.nBook_quantities (show 0 < 1000 by decide) rfl ?_
    refine q_fld (fs' := [("quantities", .ref q), ("cash", .int 0)]) rc rv upd_same T.c_Book T.nBook_cash (show 1 < 1000 by decide) rfl ?_
    rw [upd_upd]
    refine s_fldM ⟨by rw [sizeLine_eq]; decide, fun l hl => ?_⟩
    have pl : p ≠ l := fun z => by rw [z, upd_same] at hl; cases hl
    have ql : q ≠ l := fun z => by
      rw [← z, upd_ne (Ne.symm e2), upd_same] at hl
      cases hl
    have hl0 : H l = none := by
      rw [upd_ne (Ne.symm pl), upd_ne (Ne.symm ql)] at hl
      by_cases c : l = l1
      · rw [c, upd_same] at hl; cases hl
      · rw [upd_ne c] at hl; exact hl
    have hq0 : H q = none := by
      by_cases c : q = l1
      · rw [c, upd_same] at hq; cases hq
      · rw [upd_ne c] at hq; exact hq
    refine fl (fs := [("quantities", .ref q), ("cash", .int 0)]) (fs' := fBook (.ref q) (.int 0) (.ref l)) rv (by rw [upd_ne pl]; exact upd_same) T.c_Book T.nBook_dues (show 2 < 1000 by decide) rfl ?_
    refine k _ fun H0 sm nb => ⟨q, l, ?_⟩
    refine ⟨fun z o ez => ?_, nb, sm.free hq0, sm.free hl0, ql, ⟨dx, upd_same⟩, ?_, [], ?_, .nil⟩
    · have zp : z ≠ p := ne_of_none ez nb
      have zl : z ≠ l := ne_of_none (sm _ _ ez) hl0
      have zq : z ≠ q := ne_of_none (sm _ _ ez) hq0
      have z1 : z ≠ l1 := ne_of_none (sm _ _ ez) hl1
      rw [upd_ne zp, upd_ne zl, upd_ne zp, upd_ne zq, upd_ne z1]
      exact sm _ _ ez
    · rw [upd_ne (Ne.symm e2), upd_ne ql, upd_ne (Ne.symm e2), upd_same]
      rfl
    · rw [upd_ne (Ne.symm pl), upd_same]
      rfl
theorem ok_is_possible {f : Addr} {fd : FuncData} (F : Fun K "is_possible" "is_possible" s_is_possible f fd) (T : Txt K mg a) : FnOk P w K mg base CX0 1 f fd ["book"] (sp_is_possible K a) := by
  refine F.ok sc_is_possible (fun vs H Q E h => ?_) (fun cdv A outer s H vs Q E hr h => ?_)
  · obtain ⟨b, H0, k, rfl, _⟩ := h
    rfl
  · obtain ⟨b, H0, k, rfl, ⟨q, l, R⟩, kk⟩ := h
    obtain ⟨dx, hb⟩ := R.ob
    refine ⟨_, (pss_one (ps_ret (pe_and (pe_cmpR op_ge (pe_callB (cr_min rfl) rfl T.b_min boot_min (pa_cons (pe_fld (pv 0) rfl) pa_nil)) pe_int (nomark _)) (pe_one (pe_cmpR op_le (pe_callB (cr_max rfl) rfl T.b_max boot_max (pa_cons (pe_fld (pv 0) rfl) pa_nil)) (pgI T.g_GREATEST_QUANTITY) (nomark _)))))), ?_⟩
    refine s_re ?_
    refine i_and (i_op (cb (ra1 (rf rv hb T.c_Book T.nBook_quantities (lBook_quantities ..)) ra0) ⟨q, 0 :: k.pos, rfl, SqL.of R.qq, Nat.zero_lt_succ _, fun m hm hle => ?_⟩))
    refine ⟨m, 0, rfl, rfl, _, rfl, ite2 (fun c => ?_) (fun c => ?_)⟩
    · have c1 := of_decide_eq_true c
      refine i_op (cb (ra1 (rf rv hb T.c_Book T.nBook_quantities (lBook_quantities ..)) ra0) ⟨q, 0 :: k.pos, rfl, SqL.of R.qq, Nat.zero_lt_succ _, fun g hg hge => ?_⟩)
      refine ⟨g, _, rfl, rfl, ?_⟩
      have e : decide (g ≤ 1000000000000000) = fine k := by
        by_cases c2 : g ≤ 1000000000000000
        · rw [decide_eq_true c2]
          exact (fine_full.mpr ⟨fun n hn => Int.le_trans c1 (hle n hn), fun n hn => Int.le_trans (hge n hn) c2⟩).symm
        · rw [decide_eq_false c2]
          cases e : fine k with
          | false => rfl
          | true => exact absurd ((fine_full.mp e).2 g hg) c2
      show Q (.bl (decide (g ≤ 1000000000000000))) H
      rw [e]
      exact kk
    · have c1 : ¬ (0 : Int) ≤ m := fun z => c (decide_eq_true z)
      have e : false = fine k := by
        cases e : fine k with
        | false => rfl
        | true => exact absurd ((fine_full.mp e).1 m hm) c1
      show Q (.bl false) H
      rw [e]
      exact kk
end
theorem addI_mem {z : Int} : ∀ {l acc : List Int}, z ∈ l.foldl SetW.addI acc ↔ z ∈ l ∨ z ∈ acc
  | [], acc => by simp
  | x :: l, acc => by
    rw [List.foldl_cons, addI_mem (l := l)]
    unfold SetW.addI
    split
    · rename_i h
      constructor
      · rintro (q | q)
        · exact .inl (List.mem_cons_of_mem _ q)
        · exact .inr q
      · rintro (q | q)
        · rcases List.mem_cons.mp q with e | q
          · rw [e]; exact .inr h
          · exact .inl q
        · exact .inr q
    · rw [List.mem_append, List.mem_singleton, List.mem_cons]
      constructor
      · rintro (q | q | q)
        · exact .inl (.inr q)
        · exact .inr q
        · exact .inl (.inl q)
      · rintro ((q | q) | q)
        · exact .inr (.inr q)
        · exact .inl q
        · exact .inr (.inl q)
theorem addI_nodup : ∀ {l acc : List Int}, acc.Nodup → (l.foldl SetW.addI acc).Nodup
  | [], _, h => h
  | x :: l, acc, h => by
    rw [List.foldl_cons]
    refine addI_nodup ?_
    unfold SetW.addI
    split
    · exact h
    · rename_i c
      rw [List.nodup_append]
      exact ⟨h, by simp, fun u hu v hv e => by rw [List.mem_singleton.mp hv] at e; exact c (e ▸ hu)⟩
theorem addI_len : ∀ {l acc : List Int}, (l.foldl SetW.addI acc).length ≤ acc.length + l.length
  | [], _ => Nat.le_refl _
  | x :: l, acc => by
    rw [List.foldl_cons]
    refine Nat.le_trans (addI_len (l := l)) ?_
    have : (SetW.addI acc x).length ≤ acc.length + 1 := by
      unfold SetW.addI
      split
      · omega
      · simp
    rw [List.length_cons]
    omega
theorem keys_ints : ∀ {kvs : List (Key × V)}, (∀ kv ∈ kvs, ∃ z : Int, kv.1 = .inl z) → ∃ zs : List Int, (kvs.map fun kv => kV kv.1) = zs.map V.int ∧ ∀ z : Int, z ∈ zs ↔ (.inl z : Key) ∈ kvs.map (·.1)
  | [], _ => ⟨[], rfl, fun z => by simp⟩
  | kv :: kvs, h => by
    obtain ⟨z0, e0⟩ := h kv (by simp)
    obtain ⟨zs, e, m⟩ := keys_ints (kvs := kvs) fun x hx => h x (by simp [hx])
    refine ⟨z0 :: zs, ?_, fun z => ?_⟩
    · rw [List.map_cons, e, List.map_cons, e0]
      rfl
    · rw [List.mem_cons, m z, List.map_cons, List.mem_cons, e0]
      constructor
      · rintro (q | q)
        · exact .inl (by rw [q])
        · exact .inr q
      · rintro (q | q)
        · exact .inl (Sum.inl.inj q)
        · exact .inr q
theorem GF.mem {B H : Hp} {d : Addr} {α : Type} {P : Addr → α → Prop} {key : α → Nat} {xs : List α} {kvs : List (Key × V)} (G : GF B H d P key xs kvs) (z : Int) : (.inl z : Key) ∈ kvs.map (·.1) ↔ ∃ x ∈ xs, (key x : Int) = z := by
  constructor
  · intro h
    obtain ⟨kv, h1, h2⟩ := List.mem_map.mp h
    obtain ⟨x, hx, e⟩ := G.keys kv h1
    exact ⟨x, hx, by rw [h2] at e; exact (Sum.inl.inj e).symm⟩
  · rintro ⟨x, hx, e⟩
    rcases G.grp (key x) with ⟨_, e2⟩ | ⟨l, ps, e1, _⟩
    · have : x ∈ xs.filter (fun y => key y == key x) := List.mem_filter.mpr ⟨hx, by simp⟩
      rw [e2] at this
      cases this
    · rw [← e]
      exact valV_in e1
def sp_Diary_init (K : PySem.W.Frag) (a : Ad) : Sp := fun vs H Q _ => ∃ (y dy lt la : Addr) (H0 : Hp) (ts : List Trade) (xs : List Action), vs = [.ref y, .ref lt, .ref la] ∧ H y = some (.ins a.Diary dy []) ∧ Same H0 H ∧ H0 y = none ∧ LOf H0 lt (IsTrade a H0) ts ∧ LOf H0 la (IsAct a H0) xs ∧ ts.length ≤ 200 ∧ xs.length ≤ 200 ∧
  ∀ H', (∀ z o, H z = some o → z ≠ y → H' z = some o) → (∃ H1, Same H0 H1 ∧ Same H1 H' ∧ IsDiary a H1 y ts xs ∧ ∀ z, H1 z ≠ none → H0 z ≠ none ∨ H z = none ∨ z = y) → Q .non H'
section
variable {P : Program} {w : World} {K : PySem.W.Frag} {mg : Str → Option Value} {base : Heap} {a : Ad} {σ : L2.St} {H : Hp} {Q : VK} {t : TA}
theorem m_Diary {lt la : Addr} {H0 : Hp} {ts : List Trade} {xs : List Action} (ha : Ra t σ H [.ref lt, .ref la]) (sm : Same H0 H) (h1 : LOf H0 lt (IsTrade a H0) ts) (h2 : LOf H0 la (IsAct a H0) xs) (z1 : ts.length ≤ 200) (z2 : xs.length ≤ 200)
    (k : ∀ y H' H1, Same H H' → Same H0 H1 → Same H1 H' → IsDiary a H1 y ts xs → (∀ z, H1 z ≠ none → H0 z ≠ none ∨ H z = none) → Q (.ref y) H') : tMake a.Diary (sp_Diary_init K a) [] E0 t σ H Q :=
  ha _ fun y dy ny nd ne => by
    have s1 : Same H (upd (upd H dy (.own y)) y (.ins a.Diary dy [])) := fun b u e => by rw [upd_ne (ne_of_none e ny), upd_ne (ne_of_none e nd)]; exact e
    refine ⟨y, dy, lt, la, H0, ts, xs, rfl, upd_same, sm.trans s1, sm.free ny, h1, h2, z1, z2, fun H' fr ⟨H1, a1, a2, a3, a4⟩ => ⟨rfl, k y H' H1 (fun z o e => fr z o (s1 z o e) (ne_of_none e ny)) a1 a2 a3 fun z hz => ?_⟩⟩
    rcases a4 z hz with q | q | q
    · exact .inl q
    · right
      by_cases c : z = y
      · rw [c, upd_same] at q; cases q
      · rw [upd_ne c] at q
        by_cases c2 : z = dy
        · rw [c2, upd_same] at q; cases q
        · rw [upd_ne c2] at q; exact q
    · exact .inr (by rw [q]; exact ny)
theorem ok_Diary_init {f : Addr} {fd : FuncData} (F : Fun K "__init__" "Diary.__init__" s_Diary_init f fd) (T : Txt K mg a) : FnOk P w K mg base CX0 1 f fd ["self", "trades", "actions"] (sp_Diary_init K a) := by
  refine F.ok sc_Diary_init (fun vs H Q E h => ?_) (fun cdv A outer s H vs Q E hr h => ?_)
  · obtain ⟨y, dy, lt, la, H0, ts, xs, rfl, _⟩ := h
    rfl
  · obtain ⟨y, dy, lt, la, H0, ts, xs, rfl, hy, sm, ny, ⟨pt, hlt, hpt⟩, ⟨pa, hla, hpa⟩, z1, z2, kk⟩ := h
    refine ⟨_, (pss_cons (ps_fld (pv 0) pe_dnewK rfl)
      (pss_cons (ps_fld (pv 0) pe_dnewK rfl)
      (pss_cons (ps_for PassesOwn.never rfl (pi_list (pv 1)) (pg_name (i := 3) sc_Diary_init.nd rfl (Or.inl rfl)) (pss_one (ps_expr (pe_bm PySem.F.plainAttrs_list PySem.F.slot_list_append PySem.F.type_list_append mt_append (pe_setdefault (pe_fld (pv 0) rfl) (pe_fld (pv 3) rfl) (pe_lst pa_nil) ⟨rfl, rfl, rfl, rfl⟩) (pa_cons (pv 3) pa_nil)))))
      (pss_cons (ps_for PassesOwn.never rfl (pi_list (pv 2)) (pg_name (i := 4) sc_Diary_init.nd rfl (Or.inl rfl)) (pss_one (ps_expr (pe_bm PySem.F.plainAttrs_list PySem.F.slot_list_append PySem.F.type_list_append mt_append (pe_setdefault (pe_fld (pv 0) rfl) (pe_fld (pv 4) rfl) (pe_lst pa_nil) ⟨rfl, rfl, rfl, rfl⟩) (pa_cons (pv 4) pa_nil)))))
      (pss_cons (ps_set (i := 5) sc_Diary_init.nd rfl (Or.inl rfl) (pe_op op_cat (pe_op op_cat (pe_callTy (call_listD rfl) rfl T.b_list boot_list (pa_cons (pe_fld (pv 0) rfl) pa_nil)) (pe_callTy (call_listD rfl) rfl T.b_list boot_list (pa_cons (pe_fld (pv 0) rfl) pa_nil))) (pe_lc rfl sc_Diary_init.nd (pi_list (pv 2)) (blkOk_by (own := [("action", 4)]) (by show blkC ["self", "trades", "actions", "trade", "action", "busy"] (defScope s_Diary_init) _ _ = true; decide +kernel)) (fun _ _ _ _ _ => (pg_name (i := 4) sc_Diary_init.nd rfl (Or.inl rfl))) (fun _ _ _ _ _ => pts_nil) (fun _ _ _ _ _ => (pe_fldK (K := K) rfl (pv 4) rfl)))))
      (pss_one (ps_fld (pv 0) (pe_callB (call_sortedSet rfl) rfl T.b_sorted boot_sorted (pa_cons (pe_callTy (call_set rfl) rfl T.b_set boot_set (pa_cons (pv 5) pa_nil)) pa_nil)) rfl))))))), ?_⟩
    refine q_fldM fun dt hdt => ?_
    have yt : y ≠ dt := ne_of_none hy hdt
    refine fl (fs := []) (fs' := [("trades_on", .ref dt)]) rv (by rw [upd_ne yt]; exact hy) T.c_Diary T.nDiary_trades_on (show 0 < 1000 by decide) rfl ?_
    refine q_fldM fun da hda => ?_
    have ya : y ≠ da := fun z => by rw [← z, upd_same] at hda; cases hda
    have ta : dt ≠ da := fun z => by rw [← z, upd_ne (Ne.symm yt), upd_same] at hda; cases hda
    refine fl (fs := [("trades_on", .ref dt)]) (fs' := [("trades_on", .ref dt), ("actions_on", .ref da)]) rv (by rw [upd_ne ya]; exact upd_same) T.c_Diary T.nDiary_actions_on (show 1 < 1000 by decide) rfl ?_
    have hda0 : H da = none := by
      rw [upd_ne (Ne.symm ya), upd_ne (Ne.symm ta)] at hda
      exact hda
    generalize hB0 : upd (upd (upd (upd H dt (.dK [])) y (.ins a.Diary dy [("trades_on", .ref dt)])) da (.dK [])) y (.ins a.Diary dy [("trades_on", .ref dt), ("actions_on", .ref da)]) = B0
    have By : B0 y = some (.ins a.Diary dy [("trades_on", .ref dt), ("actions_on", .ref da)]) := by rw [← hB0]; exact upd_same
    have Bt : B0 dt = some (.dK []) := by rw [← hB0, upd_ne (Ne.symm yt), upd_ne ta, upd_ne (Ne.symm yt)]; exact upd_same
    have Ba : B0 da = some (.dK []) := by rw [← hB0, upd_ne (Ne.symm ya)]; exact upd_same
    have BH : ∀ z o, H z = some o → z ≠ y → B0 z = some o := fun z o e nz => by
      rw [← hB0, upd_ne nz, upd_ne (ne_of_none e hda0), upd_ne nz, upd_ne (ne_of_none e hdt)]
      exact e
    have B00 : ∀ z o, H0 z = some o → B0 z = some o := fun z o e => BH z o (sm _ _ e) (ne_of_none e ny)
    clear hB0
    refine q_for (xs := pt.map V.ref) rv (B00 _ _ hlt) (fun i σ' H' => ∃ v3 : Option V, σ' = [some (.ref y), some (.ref lt), some (.ref la), v3, none, none] ∧ ∃ kvs, GF B0 H' dt (IsTrade a H0) (fun t => t.day) (ts.take i) kvs) ⟨none, rfl, [], GF.nil Bt⟩ ?_ ?_ ?_
    · rintro i σ' H' ⟨_, _, kvs, G⟩
      exact G.sm _ _ (B00 _ _ hlt) (ne_of (B00 _ _ hlt) Bt (by intro z; cases z))
    · rintro i v σ' H' D' eN eR hi ⟨v3, rfl, kvs, G⟩
      obtain ⟨c, x, rfl, hx, hT⟩ := pair_at hpt hi
      obtain ⟨dc, hc⟩ := id hT
      refine s_do (grp_add (x := x) G (rf rv (G.sm _ _ By yt) T.c_Diary T.nDiary_trades_on rfl) (rf rv (G.sm _ _ (B00 _ _ hc) (ne_of (B00 _ _ hc) Bt (by intro z; cases z))) T.c_Trade T.nTrade_day (lTrade_day ..)) (fun _ => rv) hT (by rw [List.length_take]; omega) ⟨_, Bt⟩ fun H'' kvs' G' => ?_)
      rw [eN]
      exact ⟨_, rfl, kvs', by rw [take_snoc hx]; exact G'⟩
    · rintro σ' B1 ⟨v3, rfl, kT, G1⟩
      rw [List.length_map, Paired.length hpt, List.take_length] at G1
      have B1y := G1.sm _ _ By yt
      have B1a := G1.sm _ _ Ba (Ne.symm ta)
      have B10 : ∀ z o, H0 z = some o → z ≠ dt → B1 z = some o := fun z o e nz => G1.sm _ _ (B00 _ _ e) nz
      have nla : la ≠ dt := ne_of (B00 _ _ hla) Bt (by intro z; cases z)
      refine q_for (xs := pa.map V.ref) rv (B10 _ _ hla nla) (fun i σ' H' => ∃ v4 : Option V, σ' = [some (.ref y), some (.ref lt), some (.ref la), v3, v4, none] ∧ ∃ kvs, GF B1 H' da (IsAct a H0) (fun t => t.ex) (xs.take i) kvs) ⟨none, rfl, [], GF.nil B1a⟩ ?_ ?_ ?_
      · rintro i σ' H' ⟨_, _, kvs, G⟩
        exact G.sm _ _ (B10 _ _ hla nla) (ne_of (B00 _ _ hla) Ba (by intro z; cases z))
      · rintro i v σ' H' D' eN eR hi ⟨v4, rfl, kvs, G⟩
        obtain ⟨c, x, rfl, hx, hT⟩ := pair_at hpa hi
        obtain ⟨dc, tc, hc, _⟩ := id hT
        have nc1 : c ≠ dt := ne_of (B00 _ _ hc) Bt (by intro z; cases z)
        have nc2 : c ≠ da := ne_of (B00 _ _ hc) Ba (by intro z; cases z)
        refine s_do (grp_add (x := x) G (rf rv (G.sm _ _ B1y ya) T.c_Diary T.nDiary_actions_on rfl) (rf rv (G.sm _ _ (B10 _ _ hc nc1) nc2) T.c_Action T.nAction_ex (lAction_ex ..)) (fun _ => rv) hT (by rw [List.length_take]; omega) ⟨_, B1a⟩ fun H'' kvs' G' => ?_)
        rw [eN]
        exact ⟨_, rfl, kvs', by rw [take_snoc hx]; exact G'⟩
      · rintro σ' H5 ⟨v4, rfl, kA, G2⟩
        rw [List.length_map, Paired.length hpa, List.take_length] at G2
        have H5y := G2.sm _ _ B1y ya
        have H5t : H5 dt = some (.dK kT) := G2.sm _ _ G1.at_ ta
        have H50 : ∀ z o, H0 z = some o → z ≠ dt → z ≠ da → H5 z = some o := fun z o e n1 n2 => G2.sm _ _ (B10 _ _ e n1) n2
        obtain ⟨zT, eT, mT⟩ := keys_ints (kvs := kT) fun kv h => let ⟨x, _, e⟩ := G1.keys kv h; ⟨_, e⟩
        obtain ⟨zA, eA, mA⟩ := keys_ints (kvs := kA) fun kv h => let ⟨x, _, e⟩ := G2.keys kv h; ⟨_, e⟩
        have lT : zT.length ≤ 200 := by
          have := congrArg List.length eT
          rw [List.length_map, List.length_map] at this
          have := G1.len
          omega
        have lA : zA.length ≤ 200 := by
          have := congrArg List.length eA
          rw [List.length_map, List.length_map] at this
          have := G2.len
          omega
        refine q_let ?_
        refine i_op (i_op (cb (ra1 (rf rv H5y T.c_Diary T.nDiary_trades_on rfl) ra0) ⟨dt, kT, rfl, .inl H5t, fun l1 hl1 => ?_⟩))
        rw [eT]
        have s6 : Same H5 (upd H5 l1 (.lst (zT.map V.int))) := Same.new hl1
        refine cb (ra1 (rf rv (s6 _ _ H5y) T.c_Diary T.nDiary_actions_on rfl) ra0) ⟨da, kA, rfl, .inl (s6 _ _ G2.at_), fun l2 hl2 => ?_⟩
        rw [eA]
        have s7 : Same (upd H5 l1 (.lst (zT.map V.int))) (upd (upd H5 l1 (.lst (zT.map V.int))) l2 (.lst (zA.map V.int))) := Same.new hl2
        refine ⟨l1, l2, _, _, rfl, rfl, s7 _ _ upd_same, upd_same, by rw [List.length_map, List.length_map, sizeLine_eq]; omega, fun l3 hl3 => ?_⟩
        rw [← List.map_append]
        generalize hH8 : upd (upd (upd H5 l1 (.lst (zT.map V.int))) l2 (.lst (zA.map V.int))) l3 (.lst ((zT ++ zA).map V.int)) = H8
        have s8 : Same H5 H8 := by rw [← hH8]; exact (s6.trans s7).trans (Same.new hl3)
        have h83 : H8 l3 = some (.lst ((zT ++ zA).map V.int)) := by rw [← hH8]; exact upd_same
        clear hH8
        have n3 : la ≠ da := ne_of (B00 _ _ hla) Ba (by intro z; cases z)
        refine ⟨_, rfl, la, rfl, ⟨_, SqL.of (s8 _ _ (H50 _ _ hla nla n3))⟩, fun D hD => ?_⟩
        refine lc_list (K := K) (a := la) (xs := pa.map V.ref) (fun i H' => Same H8 H' ∧ H' D = some (.lst (((xs.take i).map fun x => (x.pay : Int)).map V.int))) ⟨Same.new hD, upd_same⟩ (fun i H' _ q => SqL.of (q.1 _ _ (s8 _ _ (H50 _ _ hla nla n3)))) ?_ ?_
        · rintro i v H' hi ⟨q1, q2⟩
          obtain ⟨c, x, rfl, hx, hT⟩ := pair_at hpa hi
          obtain ⟨dc, tc, hc, _⟩ := id hT
          have nc1 : c ≠ dt := ne_of (B00 _ _ hc) Bt (by intro z; cases z)
          have nc2 : c ≠ da := ne_of (B00 _ _ hc) Ba (by intro z; cases z)
          refine ⟨rfl, yes_ok (rf rv (q1 _ _ (s8 _ _ (H50 _ _ hc nc1 nc2))) T.c_Action T.nAction_pay (lAction_pay ..) _ ⟨_, q2, by rw [List.length_map, List.length_map, List.length_take, sizeLine_eq]; omega, Same.put q1 hD, ?_⟩)⟩
          rw [upd_same, take_snoc hx, List.map_append, List.map_append]
          rfl
        · rintro H9 ⟨s9, hD9⟩
          rw [List.length_map, Paired.length hpa, List.take_length] at hD9
          refine ⟨l3, D, _, _, rfl, rfl, s9 _ _ h83, hD9, by rw [List.length_map, List.length_map, List.length_append, List.length_map, sizeLine_eq]; omega, fun l4 hl4 => ?_⟩
          rw [← List.map_append]
          generalize hns : zT ++ zA ++ (xs.map fun x => (x.pay : Int)) = ns
          have lns : ns.length ≤ 600 := by
            rw [← hns, List.length_append, List.length_append, List.length_map]
            omega
          have s10 : Same H5 (upd H9 l4 (.lst (ns.map V.int))) := (s8.trans s9).trans (Same.new hl4)
          generalize hH10 : upd H9 l4 (.lst (ns.map V.int)) = H10 at s10
          have h104 : H10 l4 = some (.lst (ns.map V.int)) := by rw [← hH10]; exact upd_same
          clear hH10
          refine s_fldM ?_
          refine i_cb (i_cons (cb (ra1 rv ra0) ⟨l4, ns, rfl, SqL.of h104, by show ns.length < 4096; omega, fun st hst => ?_⟩))
          have lL : (ns.foldl SetW.addI []).length ≤ 1000 := by
            have := addI_len (l := ns) (acc := [])
            rw [List.length_nil] at this
            omega
          refine ⟨st, _, rfl, upd_same, lL, fun nd dl hp hpw hdl => ?_⟩
          have hdl : (upd H10 st (SetO P w st (ns.foldl SetW.addI []))) dl = none := hdl
          change Fl K _ _ _ _ _ (upd (upd H10 st (SetO P w st (ns.foldl SetW.addI []))) dl (.lst (nd.map V.int)))
          have s11 : Same H5 (upd (upd H10 st (SetO P w st (ns.foldl SetW.addI []))) dl (.lst (nd.map V.int))) := (s10.trans (Same.new hst)).trans (Same.new hdl)
          generalize hH11 : upd (upd H10 st (SetO P w st (ns.foldl SetW.addI []))) dl (.lst (nd.map V.int)) = H11 at s11
          have hD11 : H11 dl = some (.lst (nd.map V.int)) := by rw [← hH11]; exact upd_same
          have edays : nd = (days (stt ts xs)).map fun (n : Nat) => (n : Int) := by
            refine days_of (s := stt ts xs) hpw (hp.nodup_iff.mpr (addI_nodup List.nodup_nil)) fun z => ?_
            rw [hp.mem_iff, addI_mem, ← hns]
            unfold told stt
            simp only [List.mem_append, List.mem_map, mT z, mA z, G1.mem z, G2.mem z, List.not_mem_nil, or_false]
            constructor
            · rintro ((⟨x, h1, h2⟩ | ⟨x, h1, h2⟩) | ⟨x, h1, h2⟩)
              · exact ⟨x.day, .inl ⟨x, h1, rfl⟩, h2⟩
              · exact ⟨x.ex, .inr (.inl ⟨x, h1, rfl⟩), h2⟩
              · exact ⟨x.pay, .inr (.inr ⟨x, h1, rfl⟩), h2⟩
            · rintro ⟨n, (⟨x, h1, h2⟩ | ⟨x, h1, h2⟩ | ⟨x, h1, h2⟩), h3⟩
              · exact .inl (.inl ⟨x, h1, by rw [h2]; exact h3⟩)
              · exact .inl (.inr ⟨x, h1, by rw [h2]; exact h3⟩)
              · exact .inr ⟨x, h1, by rw [h2]; exact h3⟩
          have fdl : H5 dl = none := by
            cases q : H5 dl with
            | none => rfl
            | some o =>
              have := (s10.trans (Same.new (o := SetO P w st (ns.foldl SetW.addI [])) hst)) dl o q
              rw [hdl] at this
              cases this
          clear hH11
          refine fl (fs' := fDiary (.ref dt) (.ref da) (.ref dl)) rv (s11 _ _ H5y) T.c_Diary T.nDiary_days (show 2 < 1000 by decide) rfl ?_
          have ydl : dl ≠ y := fun z => by rw [z, H5y] at fdl; cases fdl
          have FH5 : ∀ z o, H z = some o → z ≠ y → H5 z = some o := fun z o e nz => G2.sm _ _ (G1.sm _ _ (BH z o e nz) (ne_of_none e hdt)) (ne_of_none e hda0)
          have FH : ∀ z o, H z = some o → z ≠ y → (upd H11 y (.ins a.Diary dy (fDiary (.ref dt) (.ref da) (.ref dl)))) z = some o := fun z o e nz => by
            rw [upd_ne nz]
            exact s11 _ _ (FH5 z o e nz)
          generalize hHf : upd H11 y (.ins a.Diary dy (fDiary (.ref dt) (.ref da) (.ref dl))) = Hf at FH
          have fy : Hf y = some (.ins a.Diary dy (fDiary (.ref dt) (.ref da) (.ref dl))) := by rw [← hHf]; exact upd_same
          have f5 : ∀ z o, H5 z = some o → z ≠ y → Hf z = some o := fun z o e nz => by rw [← hHf, upd_ne nz]; exact s11 _ _ e
          have fd : Hf dl = some (.lst (nd.map V.int)) := by rw [← hHf, upd_ne ydl]; exact hD11
          clear hHf
          refine kk Hf FH ⟨fun z => match H z with | Option.none => Hf z | some _ => if z = y then Hf z else H0 z, ?_, ?_, ?_, ?_⟩
          · intro z o e
            have e' := sm _ _ e
            show (match H z with | Option.none => Hf z | some _ => if z = y then Hf z else H0 z) = some o
            rw [e']
            dsimp only
            rw [if_neg (ne_of_none e ny)]
            exact e
          · intro z o e
            have e : (match H z with | Option.none => Hf z | some _ => if z = y then Hf z else H0 z) = some o := e
            cases q : H z with
            | none => rw [q] at e; exact e
            | some u =>
              rw [q] at e
              dsimp only at e
              by_cases c : z = y
              · rw [if_pos c] at e; exact e
              · rw [if_neg c] at e
                have e' := sm _ _ e
                exact FH z o e' c
          · have S0 : Same H0 (fun z => match H z with | Option.none => Hf z | some _ => if z = y then Hf z else H0 z) := fun z o e => by
              have e' := sm _ _ e
              show (match H z with | Option.none => Hf z | some _ => if z = y then Hf z else H0 z) = some o
              rw [e']
              dsimp only
              rw [if_neg (ne_of_none e ny)]
              exact e
            have N : ∀ z o, (∀ u, H z = some u → z = y) → Hf z = some o → (fun z => match H z with | Option.none => Hf z | some _ => if z = y then Hf z else H0 z) z = some o := fun z o hz e => by
              show (match H z with | Option.none => Hf z | some _ => if z = y then Hf z else H0 z) = some o
              cases q : H z with
              | none => exact e
              | some u =>
                dsimp only
                rw [if_pos (hz u q)]
                exact e
            have fresh5 : ∀ z, H5 z = none → ∀ u, H z = some u → z = y := fun z e u q => by
              by_cases c : z = y
              · exact c
              · rw [FH5 z u q c] at e; cases e
            refine ⟨dy, dt, da, dl, N y _ (fun _ _ => rfl) fy, ⟨kT, N dt _ (fun u q => by rw [hdt] at q; cases q) (f5 _ _ H5t (Ne.symm yt)), fun n => ?_⟩, ⟨kA, N da _ (fun u q => by rw [hda0] at q; cases q) (f5 _ _ G2.at_ (Ne.symm ya)), fun n => ?_⟩, N dl _ (fresh5 dl fdl) ?_⟩
            · rcases G1.grp n with h | ⟨l, ps, e, hB, hl, hp⟩
              · exact .inl h
              · have ly : l ≠ y := fun q => by rw [q, By] at hB; cases hB
                have lda : l ≠ da := fun q => by rw [q, Ba] at hB; cases hB
                refine .inr ⟨l, e, ps, N l _ (fun u q => ?_) (f5 _ _ (G2.sm _ _ hl lda) ly), L2.Paired.mapP hp fun p x h => h.same S0⟩
                by_cases c : l = y
                · exact c
                · rw [BH l u q c] at hB; cases hB
            · rcases G2.grp n with h | ⟨l, ps, e, hB, hl, hp⟩
              · exact .inl h
              · have ly : l ≠ y := fun q => by rw [q, B1y] at hB; cases hB
                refine .inr ⟨l, e, ps, N l _ (fun u q => ?_) (f5 _ _ hl ly), L2.Paired.mapP hp fun p x h => h.same S0⟩
                by_cases c : l = y
                · exact c
                · rw [G1.sm l u (BH l u q c) (ne_of_none q hdt)] at hB; cases hB
            · rw [fd, edays, List.map_map]
              rfl
          · intro z hz
            have hz : (match H z with | Option.none => Hf z | some _ => if z = y then Hf z else H0 z) ≠ none := hz
            cases q : H z with
            | none => exact .inr (.inl rfl)
            | some u =>
              rw [q] at hz
              dsimp only at hz
              by_cases c : z = y
              · exact .inr (.inr c)
              · rw [if_neg c] at hz
                exact .inl hz
end
end Hd
namespace L2
open PySem PySem.Spec PyProof.Rows
section
variable {σ : St} {H : Hp} {ta tb : TE} {t : TA} {Q : VK}
theorem ap {v : V} (r : Rv ta σ H v) (h : Q v H) : ta σ H Q := r _ h
theorem i_call {sp : Sp} {E : XK} (h : t σ H fun vs H1 => sp (vs ++ []) H1 Q E) : tCall sp [] E t σ H Q := h
end
end L2
namespace Hd
open PySem PySem.Spec PyProof.Rows L2
open Vbfuah (Action Trade Price Book State effect acted paid traded dayDone days emptyBook at_ addAt sound soundFrom)
theorem Raw.lift {a : Ad} {H H1 H2 H01 : Hp} {b q l : Addr} {qs : List Int} {c : Int} {ds : List Vbfuah.Due} (r : Raw a H H1 b q l qs c ds) (s12 : Same H1 H2) (s1 : Same H01 H2) (fr : ∀ z, H01 z ≠ none → H z ≠ none ∨ H1 z = none) : Raw a H01 H2 b q l qs c ds := by
  have r2 := r.same s12
  have key : ∀ z o, H z = none → H1 z = some o → H01 z = none := fun z o e1 e2 => by
    cases e : H01 z with
    | none => rfl
    | some u =>
      rcases fr z (by rw [e]; simp) with q | q
      · exact absurd e1 q
      · rw [e2] at q; cases q
  obtain ⟨dx, e⟩ := r.ob
  obtain ⟨ps, e2, _⟩ := r.ll
  exact ⟨s1, key _ _ r.nb e, key _ _ r.nq r.qq, key _ _ r.nl e2, r.ql, r2.ob, r2.qq, r2.ll⟩
def sp_pass_day (K : PySem.W.Frag) (a : Ad) : Sp := fun vs H Q _ => ∃ (b y : Addr) (d : Nat) (H0 : Hp) (k : Book) (ts : List Trade) (xs : List Action), vs = [.ref b, .ref y, nV d] ∧ BookOn a H0 H b k ∧ IsDiary a H0 y ts xs ∧ (∀ t ∈ ts, WfT t) ∧ (∀ x ∈ xs, WfA x) ∧ BookOk k ∧ fine k = true ∧ k.due.length + xs.length ≤ 10000 ∧
  ∀ H', BookOn a H0 H' b (dayDone (stt ts xs) k d) → Q .non H'
structure Src (a : Ad) (H : Hp) (lt la : Addr) (ts : List Trade) (xs : List Action) : Prop where
  ht : LOf H lt (IsTrade a H) ts
  ha : LOf H la (IsAct a H) xs
  wt : ∀ t ∈ ts, WfT t
  wa : ∀ x ∈ xs, WfA x
  zt : ts.length ≤ 101
  za : xs.length ≤ 31
def sp_book_of_evening (K : PySem.W.Frag) (a : Ad) : Sp := fun vs H Q _ => ∃ (lt la : Addr) (z : Int) (ts : List Trade) (xs : List Action), vs = [.ref lt, .ref la, .int z] ∧ Src a H lt la ts xs ∧ sound (stt ts xs) = true ∧ ∀ H' b, BookOn a H H' b (bookTo (stt ts xs) z) → Q (.ref b) H'
def sp_are_possible (K : PySem.W.Frag) (a : Ad) : Sp := fun vs H Q _ => ∃ (lt la : Addr) (ts : List Trade) (xs : List Action), vs = [.ref lt, .ref la] ∧ Src a H lt la ts xs ∧ ∀ H', Same H H' → Q (.bl (sound (stt ts xs))) H'
theorem day_ok {ts : List Trade} {xs : List Action} (wa : ∀ x ∈ xs, WfA x) (l : List Nat) : BookOk (l.foldl (dayDone (stt ts xs)) emptyBook) := fold_ok BookOk.empty fun _ _ _ o => BookOk.dayDone _ wa o
theorem day_due {ts : List Trade} {xs : List Action} {l : List Nat} (zt : ts.length ≤ 101) (za : xs.length ≤ 31) (hl : l.length ≤ ts.length + (xs.length + xs.length)) : (l.foldl (dayDone (stt ts xs)) emptyBook).due.length + xs.length ≤ 10000 := by
  have h := fold_day_due (stt ts xs) l emptyBook
  have e : (emptyBook).due.length = 0 := rfl
  have e2 : (stt ts xs).actions = xs := rfl
  rw [e, e2] at h
  have : xs.length * l.length ≤ 31 * 163 := Nat.mul_le_mul za (by omega)
  omega
theorem days_le (ts : List Trade) (xs : List Action) : (days (stt ts xs)).length ≤ ts.length + (xs.length + xs.length) := days_len (stt ts xs)
section
variable {P : Program} {w : World} {K : PySem.W.Frag} {mg : Str → Option Value} {base : Heap} {a : Ad} {σ : L2.St} {H : Hp} {Q : VK} {t : TA}
theorem ok_pass_day {f : Addr} {fd : FuncData} (F : Fun K "pass_day" "pass_day" s_pass_day f fd) (T : Txt K mg a) (U_go_ex : Use P w K mg base 5 "go_ex" ["book", "actions"] (sp_go_ex K a)) (U_take_in : Use P w K mg base 1 "take_in" ["book", "day"] (sp_take_in K a)) (U_settle : Use P w K mg base 1 "settle" ["book", "trades"] (sp_settle K a)) : FnOk P w K mg base CX0 6 f fd ["book", "diary", "day"] (sp_pass_day K a) := by
  refine F.ok sc_pass_day (fun vs H Q E h => ?_) (fun cdv A outer s H vs Q E hr h => ?_)
  · obtain ⟨b, y, d, H0, k, ts, xs, rfl, _⟩ := h
    rfl
  · obtain ⟨b, y, d, H0, k, ts, xs, rfl, ⟨q, l, R⟩, ⟨dy, dt, da, dl, hy, gT, gA, hdl⟩, wt, wa, ok, hf, hz, kk⟩ := h
    refine ⟨_, (pss_cons (ps_expr (pu U_go_ex (hr.mono (by decide)) (pa_cons (pv 0) (pa_cons (pe_dget2 (hu_of hr) (pe_fld (pv 1) rfl) (pv 2) (pe_lst pa_nil) ⟨rfl, rfl, rfl, rfl⟩) pa_nil))))
      (pss_cons (ps_expr (pu U_take_in (hr.mono (by decide)) (pa_cons (pv 0) (pa_cons (pv 2) pa_nil))))
      (pss_one (ps_expr (pu U_settle (hr.mono (by decide)) (pa_cons (pv 0) (pa_cons (pe_dget2 (hu_of hr) (pe_fld (pv 1) rfl) (pv 2) (pe_lst pa_nil) ⟨rfl, rfl, rfl, rfl⟩) pa_nil))))))), ?_⟩
    have hfl : ∀ {α : Type} (l : List α) (p : α → Bool), (l.filter p).length ≤ l.length := fun l p => List.length_filter_le _ _
    refine q_do (i_call (i_cons (ap rv (i_cons (get_grp (rf rv (R.sm _ _ hy) T.c_Diary T.nDiary_actions_on (lDiary_actions_on ..)) rv gA R.sm fun m l1 hm hL => ?_)))))
    have nm := R.sm.free hm
    have sn : Same H0 (upd H0 m (.lst [])) := Same.new nm
    have wf1 : ∀ x ∈ xs.filter (fun x => x.ex == d), WfA x := fun x hx => wa x (List.mem_filter.mp hx).1
    refine ⟨b, l1, upd H0 m (.lst []), k, xs.filter (fun x => x.ex == d), rfl, ⟨q, l, R.up hm⟩, hL.same (Same.refl _) fun p x h => h.same sn, wf1, ok, hf, by have := hfl xs (fun x => x.ex == d); omega, fun H1 hB1 => ?_⟩
    obtain ⟨q1, l1', R1⟩ := hB1
    have R1 := R1.down sn
    have ok1 : BookOk ((xs.filter fun x => x.ex == d).foldl (acted k) k) := fold_ok ok fun _ x hx o => BookOk.acted (wf1 x hx) o
    have z1 : ((xs.filter fun x => x.ex == d).foldl (acted k) k).due.length ≤ 10000 := by
      rw [fold_acted_due]
      have := hfl xs (fun x => x.ex == d)
      omega
    refine q_do (c_call (ra1 rv (ra1 rv ra0)) ⟨b, d, H0, _, rfl, ⟨q1, l1', R1⟩, ok1, z1, fun H2 hB2 => ?_⟩)
    obtain ⟨q2, l2', R2⟩ := hB2
    have ok2 : BookOk (paid d ((xs.filter fun x => x.ex == d).foldl (acted k) k)) := by
      rw [paid_eq]
      exact fold_ok (P := BookOk) ⟨ok1.len, fun _ h => by cases h⟩ fun b a ha ob => BookOk.payOne ob (ok1.dues a ha)
    refine s_do (i_call (i_cons (ap rv (i_cons (get_grp (rf rv (R2.sm _ _ hy) T.c_Diary T.nDiary_trades_on (lDiary_trades_on ..)) rv gT R2.sm fun m2 l2 hm2 hL2 => ?_)))))
    have sn2 : Same H0 (upd H0 m2 (.lst [])) := Same.new (R2.sm.free hm2)
    refine ⟨b, l2, upd H0 m2 (.lst []), _, ts.filter (fun t => t.day == d), rfl, ⟨q2, l2', R2.up hm2⟩, hL2.same (Same.refl _) fun p x h => h.same sn2, fun x hx => wt x (List.mem_filter.mp hx).1, ok2, fun H3 hB3 => ?_⟩
    obtain ⟨q3, l3', R3⟩ := hB3
    exact kk H3 ⟨q3, l3', R3.down sn2⟩
theorem ok_book_of_evening {f : Addr} {fd : FuncData} (F : Fun K "book_of_evening" "book_of_evening" s_book_of_evening f fd) (T : Txt K mg a) (U_Book : UseC P w K mg base 1 "Book" a.Book ["self"] (sp_Book_init K a)) (U_Diary : UseC P w K mg base 1 "Diary" a.Diary ["self", "trades", "actions"] (sp_Diary_init K a)) (U_pass_day : Use P w K mg base 6 "pass_day" ["book", "diary", "day"] (sp_pass_day K a)) : FnOk P w K mg base CX0 7 f fd ["trades", "actions", "evening"] (sp_book_of_evening K a) := by
  refine F.ok sc_book_of_evening (fun vs H Q E h => ?_) (fun cdv A outer s H vs Q E hr h => ?_)
  · obtain ⟨lt, la, z, ts, xs, rfl, _⟩ := h
    rfl
  · obtain ⟨lt, la, z, ts, xs, rfl, S, so, kk⟩ := h
    have zt := S.zt
    have za := S.za
    refine ⟨_, (pss_cons (ps_set (i := 3) sc_book_of_evening.nd rfl (Or.inl rfl) (puc0 U_Book (hr.mono (by decide))))
      (pss_cons (ps_set (i := 4) sc_book_of_evening.nd rfl (Or.inl rfl) (puc U_Diary (hr.mono (by decide)) (pa_cons (pv 0) (pa_cons (pv 1) pa_nil))))
      (pss_cons (ps_for PassesOwn.never rfl (pi_list (pe_fld (pv 4) rfl)) (pg_name (i := 5) sc_book_of_evening.nd rfl (Or.inl rfl)) (pss_one (ps_if (pt_cmpR op_le (pv 5) (pv 2) (nomark _)) (pss_one (ps_expr (pu U_pass_day (hr.mono (by decide)) (pa_cons (pv 3) (pa_cons (pv 4) (pa_cons (pv 5) pa_nil)))))) pss_nil)))
      (pss_one (ps_ret (pv 3)))))), ?_⟩
    refine q_let (m_Book fun b H1 hB1 => ?_)
    obtain ⟨q, l, R⟩ := hB1
    refine q_let (m_Diary (H0 := H) (ra1 rv (ra1 rv ra0)) R.sm S.ht S.ha (by omega) (by omega) fun y H2 H01 s12 s0 s1 hD fr => ?_)
    have R2 := R.lift s12 s1 fr
    obtain ⟨dy, dt, da, dl, hy, gT, gA, hdl⟩ := id hD
    refine q_for (xs := (days (stt ts xs)).map fun n => nV n) (rf rv (s1 _ _ hy) T.c_Diary T.nDiary_days (lDiary_days ..)) (s1 _ _ hdl) (fun i σ' H' => ∃ v5 : Option V, σ' = [some (.ref lt), some (.ref la), some (.int z), some (.ref b), some (.ref y), v5] ∧ BookOn a H01 H' b ((((days (stt ts xs)).take i).filter fun (x : Nat) => decide ((x : Int) ≤ z)).foldl (dayDone (stt ts xs)) emptyBook)) ⟨none, rfl, q, l, R2⟩ ?_ ?_ ?_
    · rintro i σ' H' ⟨_, _, q', l', r⟩
      exact r.sm _ _ hdl
    · rintro i v σ' H' D' eN eR hi ⟨v5, rfl, q', l', r⟩
      rw [List.getElem?_map] at hi
      cases ed : (days (stt ts xs))[i]? with
      | none => rw [ed] at hi; cases hi
      | some n =>
        rw [ed] at hi
        cases hi
        refine s_if (tt (r0 rv rv)) (fun e => ?_) (fun e => ?_)
        · have e1 := of_decide_eq_true e
          have lle : (((days (stt ts xs)).take i).filter fun (x : Nat) => decide ((x : Int) ≤ z)).length ≤ ts.length + (xs.length + xs.length) := by
            have h1 := List.length_filter_le (fun (x : Nat) => decide ((x : Int) ≤ z)) ((days (stt ts xs)).take i)
            rw [List.length_take] at h1
            have h2 := days_le ts xs
            omega
          have hf : fine ((((days (stt ts xs)).take i).filter fun (x : Nat) => decide ((x : Int) ≤ z)).foldl (dayDone (stt ts xs)) emptyBook) = true := by
            obtain ⟨m, em⟩ := filter_prefix (p := fun (x : Nat) => decide ((x : Int) ≤ z)) (l := (days (stt ts xs)).take i) ((days_rise _).sublist (List.take_sublist _ _)) (fun a b hab hb => by
              have := of_decide_eq_true hb
              exact decide_eq_true (by omega))
            have so2 : soundFrom (stt ts xs) emptyBook (days (stt ts xs)) = true := so
            rw [← List.take_append_drop i (days (stt ts xs)), em, List.append_assoc] at so2
            exact sound_fold fine_empty so2
          refine s_do (c_call (ra1 rv (ra1 rv (ra1 rv ra0))) ⟨b, y, n, H01, _, ts, xs, rfl, ⟨q', l', r⟩, hD, S.wt, S.wa, day_ok S.wa _, hf, day_due zt za lle, fun H'' hB => ?_⟩)
          rw [eN]
          refine ⟨_, rfl, ?_⟩
          rw [take_snoc ed, filter_snoc, if_pos (decide_eq_true e1), List.foldl_append]
          exact hB
        · have e1 := of_decide_eq_false e
          show D'.nx _ _
          rw [eN]
          refine ⟨_, rfl, ?_⟩
          rw [take_snoc ed, filter_snoc, if_neg (fun c => e1 (of_decide_eq_true c))]
          exact ⟨q', l', r⟩
    · rintro σ' H' ⟨v5, rfl, q', l', r⟩
      rw [List.length_map, List.take_length] at r
      exact s_ret rv (kk H' b ⟨q', l', r.down s0⟩)
theorem ok_are_possible {f : Addr} {fd : FuncData} (F : Fun K "are_possible" "are_possible" s_are_possible f fd) (T : Txt K mg a) (U_Book : UseC P w K mg base 1 "Book" a.Book ["self"] (sp_Book_init K a)) (U_Diary : UseC P w K mg base 1 "Diary" a.Diary ["self", "trades", "actions"] (sp_Diary_init K a)) (U_pass_day : Use P w K mg base 6 "pass_day" ["book", "diary", "day"] (sp_pass_day K a)) (U_is_possible : Use P w K mg base 1 "is_possible" ["book"] (sp_is_possible K a)) : FnOk P w K mg base CX0 7 f fd ["trades", "actions"] (sp_are_possible K a) := by
  refine F.ok sc_are_possible (fun vs H Q E h => ?_) (fun cdv A outer s H vs Q E hr h => ?_)
  · obtain ⟨lt, la, ts, xs, rfl, _⟩ := h
    rfl
  · obtain ⟨lt, la, ts, xs, rfl, S, kk⟩ := h
    have zt := S.zt
    have za := S.za
    refine ⟨_, (pss_cons (ps_set (i := 2) sc_are_possible.nd rfl (Or.inl rfl) (puc0 U_Book (hr.mono (by decide))))
      (pss_cons (ps_set (i := 3) sc_are_possible.nd rfl (Or.inl rfl) (puc U_Diary (hr.mono (by decide)) (pa_cons (pv 0) (pa_cons (pv 1) pa_nil))))
      (pss_cons (ps_for PassesOwn.never rfl (pi_list (pe_fld (pv 3) rfl)) (pg_name (i := 4) sc_are_possible.nd rfl (Or.inl rfl)) (pss_cons (ps_expr (pu U_pass_day (hr.mono (by decide)) (pa_cons (pv 2) (pa_cons (pv 3) (pa_cons (pv 4) pa_nil)))))
      (pss_one (ps_if (pt_not (pt_val (pu U_is_possible (hr.mono (by decide)) (pa_cons (pv 2) pa_nil)))) (pss_one (ps_ret pe_bl)) pss_nil))))
      (pss_one (ps_ret pe_bl))))), ?_⟩
    refine q_let (m_Book fun b H1 hB1 => ?_)
    obtain ⟨q, l, R⟩ := hB1
    refine q_let (m_Diary (H0 := H) (ra1 rv (ra1 rv ra0)) R.sm S.ht S.ha (by omega) (by omega) fun y H2 H01 s12 s0 s1 hD fr => ?_)
    have R2 := R.lift s12 s1 fr
    obtain ⟨dy, dt, da, dl, hy, gT, gA, hdl⟩ := id hD
    refine q_for (xs := (days (stt ts xs)).map fun n => nV n) (rf rv (s1 _ _ hy) T.c_Diary T.nDiary_days (lDiary_days ..)) (s1 _ _ hdl) (fun i σ' H' => ∃ v5 : Option V, σ' = [some (.ref lt), some (.ref la), some (.ref b), some (.ref y), v5] ∧ BookOn a H01 H' b (((days (stt ts xs)).take i).foldl (dayDone (stt ts xs)) emptyBook) ∧
      fine (((days (stt ts xs)).take i).foldl (dayDone (stt ts xs)) emptyBook) = true ∧ sound (stt ts xs) = soundFrom (stt ts xs) (((days (stt ts xs)).take i).foldl (dayDone (stt ts xs)) emptyBook) ((days (stt ts xs)).drop i)) ⟨none, rfl, ⟨q, l, R2⟩, fine_empty, rfl⟩ ?_ ?_ ?_
    · rintro i σ' H' ⟨_, _, ⟨q', l', r⟩, _⟩
      exact r.sm _ _ hdl
    · rintro i v σ' H' D' eN eR hi ⟨v5, rfl, ⟨q', l', r⟩, hf, es⟩
      rw [List.getElem?_map] at hi
      cases ed : (days (stt ts xs))[i]? with
      | none => rw [ed] at hi; cases hi
      | some n =>
        rw [ed] at hi
        cases hi
        have lle : ((days (stt ts xs)).take i).length ≤ ts.length + (xs.length + xs.length) := by
          rw [List.length_take]
          have h2 := days_le ts xs
          omega
        have edr : (days (stt ts xs)).drop i = n :: (days (stt ts xs)).drop (i + 1) := by
          obtain ⟨h1, h2⟩ := List.getElem?_eq_some_iff.mp ed
          rw [List.drop_eq_getElem_cons h1, h2]
        rw [edr, sound_cons] at es
        refine q_do (c_call (ra1 rv (ra1 rv (ra1 rv ra0))) ⟨b, y, n, H01, _, ts, xs, rfl, ⟨q', l', r⟩, hD, S.wt, S.wa, day_ok S.wa _, hf, day_due zt za lle, fun H'' hB => ?_⟩)
        refine s_if (tnot (tb1 (rcall (ra1 rv ra0) fun Q q => ⟨b, H01, _, rfl, hB, q⟩))) (fun e => ?_) (fun e => ?_)
        · have e1 : fine (dayDone (stt ts xs) (((days (stt ts xs)).take i).foldl (dayDone (stt ts xs)) emptyBook) n) = false := by simpa using e
          rw [e1, Bool.false_and] at es
          obtain ⟨q2, l2, r2⟩ := hB
          refine s_ret rc ?_
          rw [eR]
          have kf := kk H'' (s0.trans r2.sm)
          rw [es] at kf
          exact kf
        · have e1 : fine (dayDone (stt ts xs) (((days (stt ts xs)).take i).foldl (dayDone (stt ts xs)) emptyBook) n) = true := by simpa using e
          rw [e1, Bool.true_and] at es
          show D'.nx _ _
          rw [eN]
          refine ⟨_, rfl, ?_, ?_, ?_⟩
          · rw [fold_snoc ed]; exact hB
          · rw [fold_snoc ed]; exact e1
          · rw [fold_snoc ed]; exact es
    · rintro σ' H' ⟨v5, rfl, ⟨q', l', r⟩, hf, es⟩
      rw [List.length_map, List.drop_length] at es
      refine s_ret rc ?_
      have kf := kk H' (s0.trans r.sm)
      rw [es] at kf
      exact kf
end
end Hd
namespace L2
open PySem PySem.Spec PyProof.Rows
section
variable {K : PySem.W.Frag} {σ : St} {H : Hp} {ta tb te : TE} {t : TA} {v : V} {u tbd : TS} {D : Ends} {Q : VK}
theorem q_rng {n : Nat} {lo hi : Int} (ha : Ra t σ H [.int lo, .int hi]) (hb : -(2 ^ 62) ≤ lo ∧ lo < 2 ^ 62 ∧ -(2 ^ 62) ≤ hi ∧ hi < 2 ^ 62) (Pv : Nat → St → Hp → Prop) (h0 : Pv 0 σ H)
    (hs : ∀ i σ' H' D', D'.nx = Pv (i + 1) → D'.rt = D.rt → i < (hi - lo).toNat → Pv i σ' H' → tbd D' (σ'.set n (some (.int (lo + (i : Nat))))) H') (hd : ∀ σ' H', Pv (hi - lo).toNat σ' H' → u D σ' H') : tSeq (tFor (iRng2 t) (gName n) tbd) u D σ H :=
  ha _ ⟨lo, hi, rfl, hb, for_range (D := { D with nx := u D }) Pv h0 (fun i σ' H' hi p => hs i σ' H' _ rfl rfl hi p) hd⟩
theorem s_aug {n : Nat} {σ' : St} {i j : Int} (hx : σ[n]? = some (some (.int i))) (he : Rv te σ H (.int j)) (e : σ.set n (some (.int (i + j))) = σ') (k : D.nx σ' H) : tAug n te (ipI fun i j => i + j) D σ H := ⟨_, hx, he _ ⟨i, j, rfl, rfl, by show D.nx (σ.set n (some (.int (i + j)))) H; rw [e]; exact k⟩⟩
theorem q_aug {n : Nat} {σ' : St} {i j : Int} (hx : σ[n]? = some (some (.int i))) (he : Rv te σ H (.int j)) (e : σ.set n (some (.int (i + j))) = σ') (k : u D σ' H) : tSeq (tAug n te (ipI fun i j => i + j)) u D σ H := s_aug (D := { D with nx := u D }) hx he e k
end
end L2
namespace Hd
open PySem PySem.Spec PyProof.Rows L2
open Vbfuah (Action Trade Price Book State effect acted paid traded dayDone days emptyBook at_ addAt sound soundFrom worth priceAt)
def sp_is_priced (K : PySem.W.Frag) (a : Ad) : Sp := fun vs H Q _ => ∃ (lp : Addr) (d i : Int) (ps : List Price), vs = [.ref lp, .int d, .int i] ∧ LOf H lp (IsPrice a H) ps ∧ ps.length ≤ 200 ∧ ∀ H', Same H H' → Q (.bl (ps.any fun x => (x.day : Int) == d && (x.sec : Int) == i)) H'
def sp_price_of_evening (K : PySem.W.Frag) (a : Ad) : Sp := fun vs H Q _ => ∃ (lp : Addr) (i z : Int) (ps : List Price), vs = [.ref lp, .int i, .int z] ∧ LOf H lp (IsPrice a H) ps ∧ Q (.int (ps.foldl (look z i) (-1, 0)).2) H
def sp_value_of_book (K : PySem.W.Frag) (a : Ad) : Sp := fun vs H Q _ => ∃ (b lp : Addr) (d : Nat) (H0 : Hp) (k : Book) (s : State), vs = [.ref b, .ref lp, nV d] ∧ BookOn a H0 H b k ∧ BookOk k ∧ LOf H lp (IsPrice a H) s.prices ∧ (∀ p ∈ s.prices, WfP p) ∧ s.prices.Pairwise Apart ∧ ∀ H', Same H H' → Q (.int (worth (priceAt s d) k)) H'
section
variable {P : Program} {w : World} {K : PySem.W.Frag} {mg : Str → Option Value} {base : Heap} {a : Ad} {σ : L2.St} {H : Hp} {Q : VK} {t : TA}
theorem ok_is_priced {f : Addr} {fd : FuncData} (F : Fun K "is_priced" "is_priced" s_is_priced f fd) (T : Txt K mg a) : FnOk P w K mg base CX0 1 f fd ["prices", "day", "thing"] (sp_is_priced K a) := by
  refine F.ok sc_is_priced (fun vs H Q E h => ?_) (fun cdv A outer s H vs Q E hr h => ?_)
  · obtain ⟨lp, d, i, ps, rfl, _⟩ := h
    rfl
  · obtain ⟨lp, d, i, ps, rfl, ⟨qs, hl, hq⟩, hz, kk⟩ := h
    refine ⟨_, (pss_one (ps_ret (pe_callB (cr_any rfl) rfl T.b_any boot_any (pa_cons (pe_lc rfl sc_is_priced.nd (pi_list (pv 0)) (blkOk_by (own := [("one", 3)]) (by show blkC ["prices", "day", "thing", "one"] (defScope s_is_priced) _ _ = true; decide +kernel)) (fun _ _ _ _ _ => (pg_name (i := 3) sc_is_priced.nd rfl (Or.inl rfl))) (fun _ _ _ _ _ => pts_nil) (fun _ _ _ _ _ => (pe_and (pe_cmpR op_eq (pe_fldK (K := K) rfl (pv 3) rfl) (pv 1) (nomark _)) (pe_one (pe_cmpR op_eq (pe_fldK (K := K) rfl (pv 3) rfl) (pv 2) (nomark _)))))) pa_nil)))), ?_⟩
    refine s_re (i_cb (i_cons ?_))
    refine ⟨_, rfl, lp, rfl, ⟨_, SqL.of hl⟩, fun D hD => ?_⟩
    refine lc_list (K := K) (a := lp) (xs := qs.map V.ref) (fun n H' => Same H H' ∧ H' D = some (.lst (((ps.take n).map fun x => (x.day : Int) == d && (x.sec : Int) == i).map V.bl))) ⟨Same.new hD, upd_same⟩ (fun n H' _ q => SqL.of (q.1 _ _ hl)) ?_ ?_
    · rintro n v H' hi ⟨q1, q2⟩
      obtain ⟨c, x, rfl, hx, hT⟩ := pair_at hq hi
      obtain ⟨dc, hc⟩ := hT.same q1
      refine ⟨rfl, yes_ok (ap (rand (req (rf rv hc T.c_Price T.nPrice_day (lPrice_day ..)) rv) (req (rf rv hc T.c_Price T.nPrice_thing (lPrice_thing ..)) rv)) ⟨_, q2, by rw [List.length_map, List.length_map, List.length_take, sizeLine_eq]; omega, Same.put q1 hD, ?_⟩)⟩
      rw [upd_same, take_snoc hx, List.map_append, List.map_append]
      rfl
    · rintro H' ⟨q1, q2⟩
      rw [List.length_map, Paired.length hq, List.take_length] at q2
      refine ⟨D, _, rfl, SqL.of q2, ?_⟩
      rw [List.any_map]
      exact kk H' q1
theorem ok_price_of_evening {f : Addr} {fd : FuncData} (F : Fun K "price_of_evening" "price_of_evening" s_price_of_evening f fd) (T : Txt K mg a) : FnOk P w K mg base CX0 1 f fd ["prices", "thing", "evening"] (sp_price_of_evening K a) := by
  refine F.ok sc_price_of_evening (fun vs H Q E h => ?_) (fun cdv A outer s H vs Q E hr h => ?_)
  · obtain ⟨lp, i, z, ps, rfl, _⟩ := h
    rfl
  · obtain ⟨lp, i, z, ps, rfl, ⟨qs, hl, hq⟩, kk⟩ := h
    refine ⟨_, (pss_cons (ps_set (i := 3) sc_price_of_evening.nd rfl (Or.inl rfl) (pe_un un_neg pe_int))
      (pss_cons (ps_set (i := 4) sc_price_of_evening.nd rfl (Or.inl rfl) pe_int)
      (pss_cons (ps_for PassesOwn.never rfl (pi_list (pv 0)) (pg_name (i := 5) sc_price_of_evening.nd rfl (Or.inl rfl)) (pss_one (ps_if (PW.pt (pw_and (pt_cmpR op_eq (pe_fld (pv 5) rfl) (pv 1) (nomark _)) (pw_and1 (pt_chain op_lt op_le (pv 3) (pe_fld (pv 5) rfl) (pv 2))))) (pss_cons (ps_set (i := 3) sc_price_of_evening.nd rfl (Or.inl rfl) (pe_fld (pv 5) rfl))
      (pss_one (ps_set (i := 4) sc_price_of_evening.nd rfl (Or.inl rfl) (pe_fld (pv 5) rfl)))) pss_nil)))
      (pss_one (ps_ret (pv 4)))))), ?_⟩
    refine q_set (rn rc) rfl ?_
    refine q_set rc rfl ?_
    refine q_for (xs := qs.map V.ref) rv hl (fun n σ' H' => ∃ v5 : Option V, σ' = [some (.ref lp), some (.int i), some (.int z), some (.int ((ps.take n).foldl (look z i) (-1, 0)).1), some (.int ((ps.take n).foldl (look z i) (-1, 0)).2), v5] ∧ H' = H) ⟨none, rfl, rfl⟩ (fun n σ' H' p => let ⟨_, _, e⟩ := p; by rw [e]; exact hl) ?_ ?_
    · rintro n v σ' H' D' eN eR hi ⟨v5, rfl, rfl⟩
      obtain ⟨c, x, rfl, hx, dc, hc⟩ := pair_at hq hi
      refine s_if (tand (tt (req (rf rv hc T.c_Price T.nPrice_thing (lPrice_thing ..)) rv)) fun _ => tt (rch rv (rf rv hc T.c_Price T.nPrice_day (lPrice_day ..)) rv)) (fun e => ?_) (fun e => ?_)
      · simp only [Bool.and_eq_true, decide_eq_true_eq] at e
        refine q_set (rf rv hc T.c_Price T.nPrice_day (lPrice_day ..)) rfl ?_
        refine s_set (rf rv hc T.c_Price T.nPrice_price (lPrice_price ..)) ?_
        rw [eN]
        refine ⟨some (.ref c), ?_, rfl⟩
        rw [fold_snoc hx]
        have el : look z i ((ps.take n).foldl (look z i) (-1, 0)) x = ((x.day : Int), (x.price : Int)) := if_pos e
        rw [el]
        rfl
      · show D'.nx _ _
        rw [eN]
        refine ⟨some (.ref c), ?_, rfl⟩
        rw [fold_snoc hx]
        have el : look z i ((ps.take n).foldl (look z i) (-1, 0)) x = (ps.take n).foldl (look z i) (-1, 0) := if_neg fun c => by
          have : (decide ((x.sec : Int) = i) && (decide (((ps.take n).foldl (look z i) (-1, 0)).1 < (x.day : Int)) && decide ((x.day : Int) ≤ z))) = true := by
            simp only [Bool.and_eq_true, decide_eq_true_eq]
            exact c
          rw [e] at this
          cases this
        rw [el]
        rfl
    · rintro σ' H' ⟨v5, rfl, rfl⟩
      rw [List.length_map, Paired.length hq, List.take_length]
      exact s_ret rv kk
theorem ok_value_of_book {f : Addr} {fd : FuncData} (F : Fun K "value_of_book" "value_of_book" s_value_of_book f fd) (T : Txt K mg a) (U_price_of_evening : Use P w K mg base 1 "price_of_evening" ["prices", "thing", "evening"] (sp_price_of_evening K a)) : FnOk P w K mg base CX0 2 f fd ["book", "prices", "evening"] (sp_value_of_book K a) := by
  refine F.ok sc_value_of_book (fun vs H Q E h => ?_) (fun cdv A outer s H vs Q E hr h => ?_)
  · obtain ⟨b, lp, d, H0, k, s, rfl, _⟩ := h
    rfl
  · obtain ⟨b, lp, d, H0, k, s, rfl, ⟨q, l, R⟩, ok, hP, hw, hA, kk⟩ := h
    obtain ⟨dx, hb⟩ := R.ob
    obtain ⟨ps, hl, hps⟩ := R.ll
    refine ⟨_, (pss_cons (ps_set (i := 3) sc_value_of_book.nd rfl (Or.inl rfl) (pe_fld (pv 0) rfl))
      (pss_cons (ps_set (i := 4) sc_value_of_book.nd rfl (Or.inl rfl) (pe_callTy (call_list_of) rfl T.b_list boot_list (pa_cons (pe_fld (pv 0) rfl) pa_nil)))
      (pss_cons (ps_for PassesOwn.never rfl (pi_list (pe_fld (pv 0) rfl)) (pg_name (i := 5) sc_value_of_book.nd rfl (Or.inl rfl)) (pss_cons (ps_aug (i := 3) sc_value_of_book.nd rfl (Or.inl rfl) (pe_fld (pv 5) rfl) ip_add)
      (pss_one (ps_augS (pv 4) (pe_fld (pv 5) rfl) get_list (pe_fld (pv 5) rfl) ip_add set_list))))
      (pss_cons (ps_set (i := 6) sc_value_of_book.nd rfl (Or.inl rfl) (pe_op op_mul (pv 3) (pgI T.g_MILLION)))
      (pss_cons (ps_for PassesOwn.never rfl (pi_range2 rfl T.b_range (pa_cons pe_int (pa_cons (pe_op op_add (pgI T.g_THINGS) pe_int) pa_nil))) (pg_name (i := 7) sc_value_of_book.nd rfl (Or.inl rfl)) (pss_one (ps_aug (i := 6) sc_value_of_book.nd rfl (Or.inl rfl) (pe_op op_mul (pe_ix ix_list (pv 4) (pv 7) (fun _ _ => rfl)) (pu U_price_of_evening (hr.mono (by decide)) (pa_cons (pv 1) (pa_cons (pv 7) (pa_cons (pv 2) pa_nil))))) ip_add)))
      (pss_one (ps_ret (pv 6)))))))), ?_⟩
    refine q_set (rf rv hb T.c_Book T.nBook_cash (lBook_cash ..)) rfl ?_
    refine q_let (cb (ra1 (rf rv hb T.c_Book T.nBook_quantities (lBook_quantities ..)) ra0) ⟨q, _, rfl, .inl (SqL.of R.qq), fun qc hqc => ?_⟩)
    have s1 : Same H (upd H qc (.lst ((0 :: k.pos).map V.int))) := Same.new hqc
    have hlen : ∀ n, ((k.due.take n).foldl addDue (k.cash, 0 :: k.pos)).2.length = 13 := fun n => (addDue_all (l := k.due.take n) (k.cash, 0 :: k.pos) (fun x hx => (ok.dues x (List.mem_of_mem_take hx)).1) (by show k.pos.length + 1 = 13; rw [ok.len])).2.1
    refine q_for (xs := ps.map V.ref) (rf rv (s1 _ _ hb) T.c_Book T.nBook_dues (lBook_dues ..)) (s1 _ _ hl) (fun n σ' H' => ∃ v5 : Option V, σ' = [some (.ref b), some (.ref lp), some (nV d), some (.int ((k.due.take n).foldl addDue (k.cash, 0 :: k.pos)).1), some (.ref qc), v5, none, none] ∧ Same H H' ∧ H' qc = some (.lst (((k.due.take n).foldl addDue (k.cash, 0 :: k.pos)).2.map V.int))) ⟨none, rfl, s1, upd_same⟩ (fun n σ' H' p => let ⟨_, _, e, _⟩ := p; e _ _ hl) ?_ ?_
    · rintro n v σ' H' D' eN eR hi ⟨v5, rfl, q1, q2⟩
      obtain ⟨c, x, rfl, hx, hT⟩ := pair_at hps hi
      obtain ⟨dc, hc⟩ := hT.same q1
      have dk := ok.dues x (List.mem_of_getElem? hx)
      refine q_aug rfl (rf rv hc T.c_Due T.nDue_cash (lDue_cash ..)) rfl ?_
      refine s_augL (n := x.sec) rv (rf rv hc T.c_Due T.nDue_thing (lDue_thing ..)) q2 (by rw [hlen]; have := dk.1; omega) (rf rv hc T.c_Due T.nDue_quantity (lDue_quantity ..)) ?_
      rw [eN]
      refine ⟨some (.ref c), ?_, Same.put q1 hqc, ?_⟩
      · rw [fold_snoc hx]
        rfl
      · rw [fold_snoc hx]
        exact upd_same
    · rintro σ' H' ⟨v5, rfl, q1, q2⟩
      have hl13 := hlen k.due.length
      rw [List.take_length] at hl13
      rw [List.length_map, Paired.length hps, List.take_length] at q2 ⊢
      refine q_set (r1 rv rc cm_m) rfl ?_
      refine q_rng (lo := 1) (hi := 13) (ra1 rc (ra1 (r0 rc rc) ra0)) ⟨by decide, by decide, by decide, by decide⟩ (fun n σ' H'' => ∃ v7 : Option V, σ' = [some (.ref b), some (.ref lp), some (nV d), some (.int (k.due.foldl addDue (k.cash, 0 :: k.pos)).1), some (.ref qc), v5, some (.int ((k.due.foldl addDue (k.cash, 0 :: k.pos)).1 * 1000000 + sumTo (fun i => (k.due.foldl addDue (k.cash, 0 :: k.pos)).2.getD i 0 * ((priceAt s d i : Nat) : Int)) n)), v7] ∧ H'' = H') ⟨none, ?_, rfl⟩ ?_ ?_
      · show _ = [_, _, _, _, _, _, some (V.int (_ + 0)), _]
        rw [Int.add_zero]
        rfl
      · rintro n σ' H'' D' eN eR hn ⟨v7, rfl, rfl⟩
        have hn : n < 12 := hn
        have en : (1 : Int) + ((n : Nat) : Int) = ((n + 1 : Nat) : Int) := by omega
        rw [en]
        have hpr : priceAt s d (n + 1) ≤ 1000000000000 := by
          unfold priceAt
          cases e : Vbfuah.latest d (n + 1) s.prices with
          | none => exact Nat.zero_le _
          | some p => exact (hw p (latest_mem e).1).price
        refine s_aug rfl (r1 (rix rv rv (SqL.of q2) (at_int (n := n + 1) (by rw [hl13]; omega))) (rcall (ra1 rv (ra1 rv (ra1 rv ra0))) fun Q qq => ⟨lp, ((n + 1 : Nat) : Int), (d : Int), s.prices, rfl, hP.same q1 fun p x h => h.same q1, ?_⟩) (cm_r hpr)) rfl ?_
        · rw [look_price hA]
          exact qq
        · rw [eN]
          refine ⟨some (.int ((n + 1 : Nat) : Int)), ?_, rfl⟩
          show _ = [_, _, _, _, _, _, some (V.int (_ + (sumTo _ n + _))), _]
          rw [← Int.add_assoc]
          rfl
      · rintro σ' H'' ⟨v7, rfl, rfl⟩
        refine s_ret rv ?_
        have kf := kk _ q1
        rw [worth_is ok] at kf
        exact kf
end
end Hd
namespace L2
open PySem PySem.Spec PyProof.Rows
section
variable {K : PySem.W.Frag} {σ : St} {H : Hp} {ta tb tr te : TE} {t : TA} {v : V} {u tbd : TS} {D : Ends} {Q : VK}
theorem e_lst {vs : List V} (a : Ra t σ H vs) (hz : vs.length ≤ sizeLine) (k : ∀ l, H l = none → Q (.ref l) (upd H l (.lst vs))) : tLst t σ H Q := a _ ⟨hz, k⟩
theorem i_lst (h : t σ H fun xs H1 => xs.length ≤ sizeLine ∧ ∀ p, H1 p = none → Q (.ref p) (upd H1 p (.lst xs))) : tLst t σ H Q := h
theorem r_len {l : Addr} {ys : List V} (a : Ra t σ H [.ref l]) (h : H l = some (.lst ys)) : Rv (tCB (fun xs H Q => ∃ p ys, xs = [.ref p] ∧ (SqL K H p ys ∨ SqT K H p ys) ∧ Q (.int ys.length) H) t) σ H (.int ys.length) := rcb a fun Q q => ⟨l, ys, rfl, .inl (SqL.of h), q⟩
theorem q_ifn (h : te σ H fun x H1 => ∃ c, x = .bl c ∧ if (!c) = true then tr σ H1 D.rt else u D σ H1) : tSeq (tIfS (tNot (tB te)) (tRet tr) tNext) u D σ H := h
theorem ite_n {c : Bool} {A B : Prop} (h1 : c = false → A) (h2 : c = true → B) : if (!c) = true then A else B := by
  cases c with
  | false => exact iteT (h1 rfl)
  | true => exact iteF (h2 rfl)
theorem ite_b {c : Bool} {A B : Prop} (h1 : c = true → A) (h2 : c = false → B) : if c = true then A else B := by
  cases c with
  | false => exact iteF (h2 rfl)
  | true => exact iteT (h1 rfl)
theorem i_lc {tl : TE} {l : Addr} {xs : List V} {g : TG} {tt : TT} {vs : List Nat} (hv : Rv tl σ H (.ref l)) (hl : H l = some (.lst xs)) (h : ∀ D, H D = none → ∃ W : Nat → Nat → Hp → Prop, (∃ m, W 0 m (upd H D (.lst []))) ∧ ∀ i m H', W i m H' →
    ((Itl K l).stop i H' ∧ Q (.ref D) H') ∨ ((Itl K l).go i H' ∧ ∃ Nx : Hp → Prop, (∀ H2, Nx H2 → ∃ m', m' < m ∧ W (i + 1) m' H2) ∧ ∀ x H2, (Itl K l).yld i H' x H2 → g x (wipe σ vs) H2 fun σ2 H3 => wipe σ2 vs = wipe σ vs ∧ tt σ2 H3 fun b H4 =>
      if b = true then te σ2 H4 fun y H5 => ∃ acc, H5 D = some (.lst acc) ∧ acc.length < sizeLine ∧ Nx (upd H5 D (.lst (acc ++ [y]))) else Nx H4)) : tLc (iList K tl) g tt te vs σ H Q := hv _ ⟨l, rfl, ⟨xs, SqL.of hl⟩, h⟩
theorem sz1 : 1 ≤ sizeLine := by decide
theorem q_ifa {b : Bool} (ha : Rv ta σ H (.bl b)) (h0 : b = false → u D σ H) (h1 : b = true → tb σ H fun x H1 => ∃ c, x = .bl c ∧ if c = true then tr σ H1 D.rt else u D σ H1) : tSeq (tIfS (tAnd (tB ta) (tB tb)) (tRet tr) tNext) u D σ H :=
  ha _ ⟨b, rfl, by
    cases b with
    | false =>
      refine iteF ?_
      exact iteF (h0 rfl)
    | true =>
      refine iteT ?_
      exact h1 rfl⟩
theorem q_ifa3 {R : Hp → Prop} {b : Bool} (ha : Rv ta σ H (.bl b)) (rest : ∀ H2, R H2 → u D σ H2) (h0 : b = false → (∀ H2, R H2 → u D σ H2) → u D σ H) (h1 : b = true → (∀ H2, R H2 → u D σ H2) → tb σ H fun x H1 => ∃ c, x = .bl c ∧ if c = true then tr σ H1 D.rt else u D σ H1) :
    tSeq (tIfS (tAnd (tB ta) (tB tb)) (tRet tr) tNext) u D σ H := q_ifa ha (fun e => h0 e rest) fun e => h1 e rest
end
end L2
namespace Hd
open PySem PySem.Spec PyProof.Rows L2
open Vbfuah (Action Trade Price Book State effect acted paid traded dayDone days emptyBook at_ addAt sound soundFrom worth priceAt)
def IsDesk (a : Ad) (H : Hp) (d : Addr) (s : State) : Prop := ∃ dx lt la lp, H d = some (.ins a.Desk dx (fDesk (nV s.today) (.ref lt) (.ref la) (.ref lp))) ∧ LOf H lt (IsTrade a H) s.trades ∧ LOf H la (IsAct a H) s.actions ∧ LOf H lp (IsPrice a H) s.prices
def Fr (d : Addr) (H H' : Hp) : Prop := ∀ z o, H z = some o → z ≠ d → H' z = some o
section
variable {a : Ad} {H H' : Hp} {d : Addr} {s : State}
theorem lof_t {l : Addr} {ts : List Trade} (h : LOf H l (IsTrade a H) ts) (m : Same H H') : LOf H' l (IsTrade a H') ts := h.same m fun _ _ q => q.same m
theorem lof_a {l : Addr} {ts : List Action} (h : LOf H l (IsAct a H) ts) (m : Same H H') : LOf H' l (IsAct a H') ts := h.same m fun _ _ q => q.same m
theorem lof_p {l : Addr} {ts : List Price} (h : LOf H l (IsPrice a H) ts) (m : Same H H') : LOf H' l (IsPrice a H') ts := h.same m fun _ _ q => q.same m
theorem IsDesk.same (h : IsDesk a H d s) (m : Same H H') : IsDesk a H' d s := let ⟨dx, lt, la, lp, e, h1, h2, h3⟩ := h; ⟨dx, lt, la, lp, m _ _ e, lof_t h1 m, lof_a h2 m, lof_p h3 m⟩
theorem Fr.of (m : Same H H') : Fr d H H' := fun z o e _ => m z o e
theorem Fr.trans {H2 : Hp} (a : Fr d H H') (b : Fr d H' H2) : Fr d H H2 := fun z o e n => b z o (a z o e n) n
theorem Fr.upd {o : HO} : Fr d H (upd H d o) := fun z u e n => by rw [upd_ne n]; exact e
variable {C dx : Addr} {v0 v1 v2 v3 : V} {o : HO}
theorem nd_l {l : Addr} {xs : List V} (hl : H l = some (.lst xs)) (hd : H d = some (.ins C dx (fDesk v0 v1 v2 v3))) : (L2.upd H d o) l = some (.lst xs) := lst_i hl hd
theorem nd_i {p : Addr} {u : HO} {f : Str} (hp : H p = some u) (hf : fst1 u = some f) (hd : H d = some (.ins C dx (fDesk v0 v1 v2 v3))) (ne : f ≠ "today") : (L2.upd H d o) p = some u := by
  rw [upd_ne (ne_of hp hd (ne_fst (by rw [hf]; intro z; exact ne (Option.some.inj z))))]
  exact hp
theorem up_t {l : Addr} {ts : List Trade} (h : LOf H l (IsTrade a H) ts) (hd : H d = some (.ins C dx (fDesk v0 v1 v2 v3))) : LOf (L2.upd H d o) l (IsTrade a (L2.upd H d o)) ts := let ⟨ps, e, r⟩ := h
  ⟨ps, nd_l e hd, L2.Paired.mapP r fun p x ⟨q, e⟩ => ⟨q, nd_i e rfl hd (by decide +kernel)⟩⟩
theorem up_p {l : Addr} {ts : List Price} (h : LOf H l (IsPrice a H) ts) (hd : H d = some (.ins C dx (fDesk v0 v1 v2 v3))) : LOf (L2.upd H d o) l (IsPrice a (L2.upd H d o)) ts := let ⟨ps, e, r⟩ := h
  ⟨ps, nd_l e hd, L2.Paired.mapP r fun p x ⟨q, e⟩ => ⟨q, nd_i e rfl hd (by decide +kernel)⟩⟩
theorem up_a {l : Addr} {ts : List Action} (h : LOf H l (IsAct a H) ts) (hd : H d = some (.ins C dx (fDesk v0 v1 v2 v3))) : LOf (L2.upd H d o) l (IsAct a (L2.upd H d o)) ts := let ⟨ps, e, r⟩ := h
  ⟨ps, nd_l e hd, L2.Paired.mapP r fun p x ⟨q, t, e, e2⟩ => ⟨q, t, nd_i e rfl hd (by decide +kernel), by rw [upd_ne (ne_of e2 hd (by intro z; cases z))]; exact e2⟩⟩
end
def Own (H : Hp) (d x : Addr) : Prop := ∃ C dx v0 v1 v2 v3, H d = some (.ins C dx (fDesk v0 v1 v2 v3)) ∧ (v1 = .ref x ∨ v2 = .ref x ∨ v3 = .ref x)
def AnK (d : Addr) (H H' : Hp) : Prop := ∀ x, Own H' d x → Own H d x ∨ H x = none
theorem AnK.of {a : Ad} {H H' : Hp} {d : Addr} {s : State} (hd : IsDesk a H d s) (m : Same H H') : AnK d H H' := fun x ⟨C, dx, v0, v1, v2, v3, e, h⟩ => by
  obtain ⟨dx', lt, la, lp, e', _⟩ := hd
  have e2 := m _ _ e'
  rw [e] at e2
  rw [← e2] at e'
  exact .inl ⟨C, dx, v0, v1, v2, v3, e', h⟩
theorem AnK.then {d : Addr} {H H1 H2 : Hp} (a1 : AnK d H H1) (a2 : AnK d H1 H2) (fr : ∀ {x}, H1 x = none → H x = none) : AnK d H H2 := fun x h => by
  rcases a2 x h with q | q
  · exact a1 x q
  · exact .inr (fr q)
theorem AnK.upd {d : Addr} {H H1 : Hp} {C dx p q r : Addr} {v0 : V} (hp : Own H d p ∨ H p = none) (hq : Own H d q ∨ H q = none) (hr : Own H d r ∨ H r = none) : AnK d H (L2.upd H1 d (.ins C dx (fDesk v0 (.ref p) (.ref q) (.ref r)))) := fun x ⟨C', dx', w0, w1, w2, w3, e, h⟩ => by
  rw [upd_same] at e
  have e1 : fDesk v0 (.ref p) (.ref q) (.ref r) = fDesk w0 w1 w2 w3 := by
    have := Option.some.inj e
    injection this
  have c1 : some (V.ref p) = some w1 := (lDesk_trades v0 (.ref p) (.ref q) (.ref r)).symm.trans (by rw [e1]; exact lDesk_trades ..)
  have c2 : some (V.ref q) = some w2 := (lDesk_actions v0 (.ref p) (.ref q) (.ref r)).symm.trans (by rw [e1]; exact lDesk_actions ..)
  have c3 : some (V.ref r) = some w3 := (lDesk_prices v0 (.ref p) (.ref q) (.ref r)).symm.trans (by rw [e1]; exact lDesk_prices ..)
  cases c1
  cases c2
  cases c3
  rcases h with h | h | h
  · cases h; exact hp
  · cases h; exact hq
  · cases h; exact hr
section
variable {H : Hp} {d C dx lt la lp : Addr} {v0 : V}
theorem own1 (e : H d = some (.ins C dx (fDesk v0 (.ref lt) (.ref la) (.ref lp)))) {K : Prop} : Own H d lt ∨ K := .inl ⟨_, _, _, _, _, _, e, .inl rfl⟩
theorem own2 (e : H d = some (.ins C dx (fDesk v0 (.ref lt) (.ref la) (.ref lp)))) {K : Prop} : Own H d la ∨ K := .inl ⟨_, _, _, _, _, _, e, .inr (.inl rfl)⟩
theorem own3 (e : H d = some (.ins C dx (fDesk v0 (.ref lt) (.ref la) (.ref lp)))) {K : Prop} : Own H d lp ∨ K := .inl ⟨_, _, _, _, _, _, e, .inr (.inr rfl)⟩
end
def kvsC (c : Nat) (xs : List Int) : List (Key × V) := zipKV (argn.getD c []) (xs.map V.int)
def spC (c : Nat) (a : Ad) : Sp := fun vs H Q _ => ∃ (d t : Addr) (s : State) (xs : List Int) (R : List (Int × Int)), vs = [.ref d, .ref t] ∧ IsDesk a H d s ∧ SInv s ∧ H t = some (.dK (kvsC c xs)) ∧ rg[c]? = some R ∧ xs.length = R.length ∧ inAll R xs = true ∧
  ∀ H' l, H l = none → Fr d H H' → AnK d H H' → IsDesk a H' d (stp s [(c : Int) :: xs]).1 → H' l = some (.lst ((stp s [(c : Int) :: xs]).2.map V.int)) → Q (.ref l) H'
abbrev sp_tell_begin (K : PySem.W.Frag) (a : Ad) : Sp := spC 0 a
abbrev sp_tell_today (K : PySem.W.Frag) (a : Ad) : Sp := spC 1 a
abbrev sp_tell_trade (K : PySem.W.Frag) (a : Ad) : Sp := spC 2 a
abbrev sp_tell_dividend (K : PySem.W.Frag) (a : Ad) : Sp := spC 3 a
abbrev sp_tell_split (K : PySem.W.Frag) (a : Ad) : Sp := spC 4 a
abbrev sp_tell_spinoff (K : PySem.W.Frag) (a : Ad) : Sp := spC 5 a
abbrev sp_tell_rights (K : PySem.W.Frag) (a : Ad) : Sp := spC 6 a
abbrev sp_tell_takeover (K : PySem.W.Frag) (a : Ad) : Sp := spC 7 a
abbrev sp_tell_choose (K : PySem.W.Frag) (a : Ad) : Sp := spC 8 a
abbrev sp_tell_price (K : PySem.W.Frag) (a : Ad) : Sp := spC 9 a
abbrev sp_ask_position (K : PySem.W.Frag) (a : Ad) : Sp := spC 10 a
abbrev sp_ask_positions (K : PySem.W.Frag) (a : Ad) : Sp := spC 11 a
abbrev sp_ask_cash (K : PySem.W.Frag) (a : Ad) : Sp := spC 12 a
abbrev sp_ask_due (K : PySem.W.Frag) (a : Ad) : Sp := spC 13 a
abbrev sp_ask_value (K : PySem.W.Frag) (a : Ad) : Sp := spC 14 a
abbrev sp_ask_entitled (K : PySem.W.Frag) (a : Ad) : Sp := spC 15 a
abbrev sp_ask_action (K : PySem.W.Frag) (a : Ad) : Sp := spC 16 a
abbrev sp_ask_counts (K : PySem.W.Frag) (a : Ad) : Sp := spC 17 a
theorem Fr.free {a : Ad} {H H' : Hp} {d l : Addr} {s : State} (m : Fr d H H') (hd : IsDesk a H' d s) (hl : H' l = none) : H l = none := by
  cases e : H l with
  | none => rfl
  | some o =>
    by_cases c : l = d
    · obtain ⟨_, _, _, _, q, _⟩ := hd
      rw [c, q] at hl
      cases hl
    · rw [m l o e c] at hl
      cases hl
theorem fin {a : Ad} {H : Hp} {d : Addr} {s : State} {Q : VK} {r : State × List Int} {ans : List Int} {vs : List V} (kk : ∀ H' l, H l = none → Fr d H H' → AnK d H H' → IsDesk a H' d r.1 → H' l = some (.lst (r.2.map V.int)) → Q (.ref l) H') (e : r = (s, ans)) (hd : IsDesk a H d s) (hv : vs = ans.map V.int) :
    ∀ l, H l = none → Q (.ref l) (upd H l (.lst vs)) := fun l hl => by
  subst hv
  rw [e] at kk
  exact kk _ l hl (Fr.of (Same.new hl)) (AnK.of hd (Same.new hl)) (hd.same (Same.new hl)) upd_same
theorem fin2 {a : Ad} {H H1 : Hp} {d : Addr} {s' : State} {Q : VK} {r : State × List Int} {ans : List Int} {vs : List V} (kk : ∀ H' l, H l = none → Fr d H H' → AnK d H H' → IsDesk a H' d r.1 → H' l = some (.lst (r.2.map V.int)) → Q (.ref l) H') (e : r = (s', ans)) (m : Fr d H H1) (an : AnK d H H1) (hd : IsDesk a H1 d s') (hv : vs = ans.map V.int) :
    ∀ l, H1 l = none → Q (.ref l) (upd H1 l (.lst vs)) := fun l hl => by
  subst hv
  rw [e] at kk
  exact kk _ l (m.free hd hl) (m.trans (Fr.of (Same.new hl))) (an.then (AnK.of hd (Same.new hl)) (m.free hd)) (hd.same (Same.new hl)) upd_same
theorem gt {H : Hp} {t : Addr} {kvs : List (Key × V)} {n : Str} {v : V} (h : H t = some (.dK kvs)) (e : valV kvs (.inr n) = some v) : DGet H t (.str n) (some v) := by
  rw [← e]
  exact DGet.k (k := Sum.inr n) h
def sp_Desk_init (K : PySem.W.Frag) (a : Ad) : Sp := fun vs H Q _ => ∃ p dx, vs = [.ref p] ∧ H p = some (.ins a.Desk dx []) ∧ ∀ H', (∀ z o, H z = some o → z ≠ p → H' z = some o) → IsDesk a H' p Vbfuah.start → (∀ x, Own H' p x → H x = none) → Q .non H'
def sp_is_replaced_already (K : PySem.W.Frag) (a : Ad) : Sp := fun vs H Q _ => ∃ (d p : Addr) (s : State) (x : Action), vs = [.ref d, .ref p] ∧ IsDesk a H d s ∧ IsAct a H p x ∧ s.actions.length ≤ 30 ∧ ∀ H', Same H H' → Q (.bl (s.actions.any fun y => Vbfuah.moves y && (y.sec == x.sec && y.ex == x.ex))) H'
def sp_tell_action (K : PySem.W.Frag) (a : Ad) : Sp := fun vs H Q _ => ∃ (d p : Addr) (s : State) (x : Action), vs = [.ref d, .ref p] ∧ IsDesk a H d s ∧ SInv s ∧ IsAct a H p x ∧ WfA x ∧
  ∀ H' l, H l = none → Fr d H H' → AnK d H H' → IsDesk a H' d (Vbfuah.doAction s x).1 → H' l = some (.lst ((Vbfuah.doAction s x).2.map V.int)) → Q (.ref l) H'
section
variable {P : Program} {w : World} {K : PySem.W.Frag} {mg : Str → Option Value} {base : Heap} {a : Ad} {σ : L2.St} {H : Hp} {Q : VK} {t : TA}
theorem m_Desk (k : ∀ p H', Same H H' → H p = none → IsDesk a H' p Vbfuah.start → (∀ x, Own H' p x → H x = none) → Q (.ref p) H') : tMake a.Desk (sp_Desk_init K a) [] E0 tNil σ H Q := fun x dx nx nd ne =>
  ⟨x, dx, rfl, upd_same, fun H' fr h o => ⟨rfl, k x H' (fun b u e => fr b u (by rw [upd_ne (ne_of_none e nx), upd_ne (ne_of_none e nd)]; exact e) (ne_of_none e nx)) nx h fun z hz => by
    have q := o z hz
    have zx : z ≠ x := fun c => by rw [c, upd_same] at q; cases q
    rw [upd_ne zx] at q
    have zd : z ≠ dx := fun c => by rw [c, upd_same] at q; cases q
    rw [upd_ne zd] at q
    exact q⟩⟩
theorem m_Trade {kvs : List (Key × V)} {d : Addr} {v1 v2 v3 v4 : V} (hd : H d = some (.dK kvs)) (l1 : valV kvs (.inr "day") = some v1) (l2 : valV kvs (.inr "thing") = some v2) (l3 : valV kvs (.inr "quantity") = some v3) (l4 : valV kvs (.inr "money") = some v4) (ha : Ra t σ H [.ref d])
    (k : ∀ x dx H', Same H H' → H x = none → H' x = some (.ins a.Trade dx (fTrade v1 v2 v3 v4)) → Q (.ref x) H') : tMake a.Trade (sp_Trade_init K a) [] E0 t σ H Q :=
  ha _ fun x dx nx nd ne => ⟨x, dx, d, kvs, v1, v2, v3, v4, rfl, upd_same, by rw [upd_ne (ne_of_none hd nx), upd_ne (ne_of_none hd nd)]; exact hd, l1, l2, l3, l4, rfl, k x dx _ (Same.made' nx nd) nx upd_same⟩
theorem m_Price {kvs : List (Key × V)} {d : Addr} {v1 v2 v3 : V} (hd : H d = some (.dK kvs)) (l1 : valV kvs (.inr "day") = some v1) (l2 : valV kvs (.inr "thing") = some v2) (l3 : valV kvs (.inr "price") = some v3) (ha : Ra t σ H [.ref d])
    (k : ∀ x dx H', Same H H' → H x = none → H' x = some (.ins a.Price dx (fPrice v1 v2 v3)) → Q (.ref x) H') : tMake a.Price (sp_Price_init K a) [] E0 t σ H Q :=
  ha _ fun x dx nx nd ne => ⟨x, dx, d, kvs, v1, v2, v3, rfl, upd_same, by rw [upd_ne (ne_of_none hd nx), upd_ne (ne_of_none hd nd)]; exact hd, l1, l2, l3, rfl, k x dx _ (Same.made' nx nd) nx upd_same⟩
theorem ok_Desk_init {f : Addr} {fd : FuncData} (F : Fun K "__init__" "Desk.__init__" s_Desk_init f fd) (T : Txt K mg a) : FnOk P w K mg base CX0 1 f fd ["self"] (sp_Desk_init K a) := by
  refine F.ok sc_Desk_init (fun vs H Q E h => ?_) (fun cdv A outer s H vs Q E hr h => ?_)
  · obtain ⟨p, dx, rfl, _⟩ := h
    rfl
  · obtain ⟨p, dx, rfl, hp, k⟩ := h
    refine ⟨_, (pss_cons (ps_fld (pv 0) pe_int rfl)
      (pss_cons (ps_fld (pv 0) (pe_lst pa_nil) rfl)
      (pss_cons (ps_fld (pv 0) (pe_lst pa_nil) rfl)
      (pss_one (ps_fld (pv 0) (pe_lst pa_nil) rfl))))), ?_⟩
    refine q_fld (fs' := [("today", .int 0)]) rc rv hp T.c_Desk T.nDesk_today (show 0 < 1000 by decide) rfl ?_
    have z : ∀ {H' : Hp} {q : Addr} {o : HO}, H' p = some o → H' q = none → (upd H' q (.lst [])) p = some o := fun h hq => by rw [upd_ne (ne_of_none h hq)]; exact h
    refine q_fldM ⟨by rw [sizeLine_eq]; decide, fun lt hlt => ?_⟩
    refine fl (fs := [("today", .int 0)]) (fs' := [("today", .int 0), ("trades", .ref lt)]) rv (z upd_same hlt) T.c_Desk T.nDesk_trades (show 1 < 1000 by decide) rfl ?_
    refine q_fldM ⟨by rw [sizeLine_eq]; decide, fun la hla => ?_⟩
    refine fl (fs := [("today", .int 0), ("trades", .ref lt)]) (fs' := [("today", .int 0), ("trades", .ref lt), ("actions", .ref la)]) rv (z upd_same hla) T.c_Desk T.nDesk_actions (show 2 < 1000 by decide) rfl ?_
    refine s_fldM ⟨by rw [sizeLine_eq]; decide, fun lp hlp => ?_⟩
    refine fl (fs := [("today", .int 0), ("trades", .ref lt), ("actions", .ref la)]) (fs' := fDesk (.int 0) (.ref lt) (.ref la) (.ref lp)) rv (z upd_same hlp) T.c_Desk T.nDesk_prices (show 3 < 1000 by decide) rfl ?_
    have pt : lt ≠ p := fun e => by rw [e, upd_same] at hlt; cases hlt
    have pa : la ≠ p := fun e => by rw [e, upd_same] at hla; cases hla
    have pp : lp ≠ p := fun e => by rw [e, upd_same] at hlp; cases hlp
    have ta : lt ≠ la := fun e => by rw [← e, upd_ne pt, upd_same] at hla; cases hla
    have tp : lt ≠ lp := fun e => by rw [← e, upd_ne pt, upd_ne ta, upd_ne pt, upd_same] at hlp; cases hlp
    have ap' : la ≠ lp := fun e => by rw [← e, upd_ne pa, upd_same] at hlp; cases hlp
    have e1 : H lt = none := by rw [upd_ne pt] at hlt; exact hlt
    have e2 : H la = none := by rw [upd_ne pa, upd_ne (Ne.symm ta), upd_ne pa] at hla; exact hla
    have e3 : H lp = none := by rw [upd_ne pp, upd_ne (Ne.symm ap'), upd_ne pp, upd_ne (Ne.symm tp), upd_ne pp] at hlp; exact hlp
    refine k _ (fun u o e nu => ?_) ⟨dx, lt, la, lp, upd_same, ⟨[], ?_, .nil⟩, ⟨[], ?_, .nil⟩, ⟨[], ?_, .nil⟩⟩ (fun x hx => ?_)
    · rw [upd_ne nu, upd_ne (ne_of_none e e3), upd_ne nu, upd_ne (ne_of_none e e2), upd_ne nu, upd_ne (ne_of_none e e1), upd_ne nu]
      exact e
    · rw [upd_ne pt, upd_ne tp, upd_ne pt, upd_ne ta, upd_ne pt]; exact upd_same
    · rw [upd_ne pa, upd_ne ap', upd_ne pa]; exact upd_same
    · rw [upd_ne pp]; exact upd_same
    · have nn : ∀ y, ¬ Own (fun _ => Option.none) p y := fun y ⟨_, _, _, _, _, _, q, _⟩ => by cases q
      rcases AnK.upd (d := p) (H := fun z => if z = lt ∨ z = la ∨ z = lp then Option.none else H z) (.inr (by simp)) (.inr (by simp)) (.inr (by simp)) x hx with q | q
      · obtain ⟨_, _, _, _, _, _, q, _⟩ := q
        have q : (if p = lt ∨ p = la ∨ p = lp then Option.none else H p) = _ := q
        split at q
        · cases q
        · rw [hp] at q
          cases q
      · have q : (if x = lt ∨ x = la ∨ x = lp then Option.none else H x) = Option.none := q
        by_cases c : x = lt ∨ x = la ∨ x = lp
        · rcases c with c | c | c
          · rw [c]; exact e1
          · rw [c]; exact e2
          · rw [c]; exact e3
        · rw [if_neg c] at q
          exact q
theorem ok_tell_begin {f : Addr} {fd : FuncData} (F : Fun K "tell_begin" "tell_begin" s_tell_begin f fd) (T : Txt K mg a) (U_Desk : UseC P w K mg base 1 "Desk" a.Desk ["self"] (sp_Desk_init K a)) : FnOk P w K mg base CX0 3 f fd ["desk", "told"] (sp_tell_begin K a) := by
  refine F.ok sc_tell_begin (fun vs H Q E h => ?_) (fun cdv A outer s H vs Q E hr h => ?_)
  · obtain ⟨d, t, s, xs, R, rfl, _⟩ := h
    rfl
  · obtain ⟨d, t, s, xs, R, rfl, hd, I, ht, hR, hx, hin, kk⟩ := h
    cases hR
    match xs, hx with
    | [], _ =>
      refine ⟨_, (pss_cons (ps_set (i := 2) sc_tell_begin.nd rfl (Or.inl rfl) (puc0 U_Desk (hr.mono (by decide))))
      (pss_cons (ps_fld (pv 0) (pe_fld (pv 2) rfl) rfl)
      (pss_cons (ps_fld (pv 0) (pe_fld (pv 2) rfl) rfl)
      (pss_cons (ps_fld (pv 0) (pe_fld (pv 2) rfl) rfl)
      (pss_cons (ps_fld (pv 0) (pe_fld (pv 2) rfl) rfl)
      (pss_one (ps_ret (pe_lst (pa_cons pe_int pa_nil))))))))), ?_⟩
      refine q_let (m_Desk fun n H1 s1 nn hn ho => ?_)
      obtain ⟨dn, lt, la, lp, en, h1, h2, h3⟩ := hn
      obtain ⟨dx, lt0, la0, lp0, ed, _⟩ := hd.same s1
      have nd : n ≠ d := fun e => by
        obtain ⟨_, _, _, _, e0, _⟩ := hd
        rw [← e, nn] at e0
        cases e0
      have hnn : ∀ o, (upd H1 d o) n = some (.ins a.Desk dn (fDesk (nV 0) (.ref lt) (.ref la) (.ref lp))) := fun o => by rw [upd_ne nd]; exact en
      refine q_fld (fs' := fDesk (nV 0) (.ref lt0) (.ref la0) (.ref lp0)) (rf rv en T.c_Desk T.nDesk_today (lDesk_today ..)) rv ed T.c_Desk T.nDesk_today (show 4 < 1000 by decide) (pDesk_today ..) ?_
      refine q_fld (fs' := fDesk (nV 0) (.ref lt) (.ref la0) (.ref lp0)) (rf rv (hnn _) T.c_Desk T.nDesk_trades (lDesk_trades ..)) rv upd_same T.c_Desk T.nDesk_trades (show 4 < 1000 by decide) (pDesk_trades ..) ?_
      rw [upd_upd]
      refine q_fld (fs' := fDesk (nV 0) (.ref lt) (.ref la) (.ref lp0)) (rf rv (hnn _) T.c_Desk T.nDesk_actions (lDesk_actions ..)) rv upd_same T.c_Desk T.nDesk_actions (show 4 < 1000 by decide) (pDesk_actions ..) ?_
      rw [upd_upd]
      refine q_fld (fs' := fDesk (nV 0) (.ref lt) (.ref la) (.ref lp)) (rf rv (hnn _) T.c_Desk T.nDesk_prices (lDesk_prices ..)) rv upd_same T.c_Desk T.nDesk_prices (show 4 < 1000 by decide) (pDesk_prices ..) ?_
      rw [upd_upd]
      refine s_re (e_lst (ra1 rc ra0) (by rw [sizeLine_eq]; decide) (fin2 kk (s' := Vbfuah.start) (ans := [0]) rfl ((Fr.of s1).trans Fr.upd) (AnK.upd (.inr (ho _ ⟨_, _, _, _, _, _, en, .inl rfl⟩)) (.inr (ho _ ⟨_, _, _, _, _, _, en, .inr (.inl rfl)⟩)) (.inr (ho _ ⟨_, _, _, _, _, _, en, .inr (.inr rfl)⟩))) ⟨dx, lt, la, lp, upd_same, up_t h1 ed, up_a h2 ed, up_p h3 ed⟩ rfl))
theorem ok_tell_today {f : Addr} {fd : FuncData} (F : Fun K "tell_today" "tell_today" s_tell_today f fd) (T : Txt K mg a) : FnOk P w K mg base CX0 1 f fd ["desk", "told"] (sp_tell_today K a) := by
  refine F.ok sc_tell_today (fun vs H Q E h => ?_) (fun cdv A outer s H vs Q E hr h => ?_)
  · obtain ⟨d, t, s, xs, R, rfl, _⟩ := h
    rfl
  · obtain ⟨d, t, s, xs, R, rfl, hd, I, ht, hR, hx, hin, kk⟩ := h
    cases hR
    match xs, hx with
    | [z], _ =>
      refine ⟨_, (pss_cons (ps_if (pt_cmpR op_lt (pe_dget (hu_of hr) (pv 1) pe_str (fun _ _ => rfl)) (pe_fld (pv 0) rfl) (nomark _)) (pss_one (ps_ret (pe_lst (pa_cons (pgI T.g_OUT_OF_RANGE) pa_nil)))) pss_nil)
      (pss_cons (ps_fld (pv 0) (pe_dget (hu_of hr) (pv 1) pe_str (fun _ _ => rfl)) rfl)
      (pss_one (ps_ret (pe_lst (pa_cons pe_int pa_nil)))))), ?_⟩
      have hz := in_today.mp hin
      have est : stp s [((1 : Nat) : Int) :: [z]] = _ := st_today hin
      obtain ⟨dx, lt, la, lp, ed, h1, h2, h3⟩ := id hd
      have gz : DGet H t (.str "day") (some (.int z)) := gt ht rfl
      refine q_ifr (tt (r0 (rdg rv rc gz) (rf rv ed T.c_Desk T.nDesk_today (lDesk_today ..)))) (fun e => ?_) fun e => ?_
      · refine e_lst (ra1 rc ra0) (by rw [sizeLine_eq]; decide) (fin kk (ans := [-1]) ?_ hd rfl)
        rw [est, if_pos (of_decide_eq_true e)]
        rfl
      · have e1 := of_decide_eq_false e
        refine q_fld (fs' := fDesk (.int z) (.ref lt) (.ref la) (.ref lp)) (rdg rv rc gz) rv ed T.c_Desk T.nDesk_today (show 4 < 1000 by decide) (pDesk_today ..) ?_
        refine s_re (e_lst (ra1 rc ra0) (by rw [sizeLine_eq]; decide) (fin2 kk (s' := { s with today := z.toNat }) (ans := [0]) ?_ Fr.upd (AnK.upd (own1 ed) (own2 ed) (own3 ed)) ⟨dx, lt, la, lp, ?_, up_t h1 ed, up_a h2 ed, up_p h3 ed⟩ rfl))
        · rw [est, if_neg e1]
          rfl
        · have ez : ((z.toNat : Nat) : Int) = z := by omega
          show (L2.upd H d _) d = some (.ins a.Desk dx (fDesk (.int ((z.toNat : Nat) : Int)) (.ref lt) (.ref la) (.ref lp)))
          rw [ez]
          exact upd_same
end
end Hd
namespace Hd
open PySem PySem.Spec PyProof.Rows L2
open Vbfuah (Action Trade Price Book State effect acted paid traded dayDone days emptyBook at_ addAt sound soundFrom worth priceAt)
theorem len_nV {α : Type} {ps : List Addr} {xs : List α} {F : Addr → α → Prop} (p : Paired F ps xs) : ((ps.map V.ref).length : Int) = (xs.length : Int) := by rw [List.length_map, Paired.length p]
theorem paired_set {α β : Type} {F : α → β → Prop} {x : α} {y : β} (h : F x y) : ∀ {xs : List α} {ys : List β} (i : Nat), Paired F xs ys → Paired F (xs.set i x) (ys.set i y)
  | _, _, _, .nil => .nil
  | _, _, 0, .cons _ t => .cons h t
  | _, _, i + 1, .cons q t => .cons q (paired_set h i t)
theorem moves_is (y : Action) : (decide ((y.kind : Int) = 2) || decide ((y.kind : Int) = 5)) = Vbfuah.moves y := by
  unfold Vbfuah.moves
  have e1 : decide ((y.kind : Int) = 2) = (y.kind == 2) := by
    rw [Bool.eq_iff_iff]
    simp
    omega
  have e2 : decide ((y.kind : Int) = 5) = (y.kind == 5) := by
    rw [Bool.eq_iff_iff]
    simp
    omega
  rw [e1, e2]
section
variable {P : Program} {w : World} {K : PySem.W.Frag} {mg : Str → Option Value} {base : Heap} {a : Ad} {σ : L2.St} {H : Hp} {Q : VK} {t : TA}
theorem ok_tell_trade {f : Addr} {fd : FuncData} (F : Fun K "tell_trade" "tell_trade" s_tell_trade f fd) (T : Txt K mg a) (U_are_possible : Use P w K mg base 7 "are_possible" ["trades", "actions"] (sp_are_possible K a)) (U_Trade : UseC P w K mg base 1 "Trade" a.Trade ["self", "told"] (sp_Trade_init K a)) : FnOk P w K mg base CX0 8 f fd ["desk", "told"] (sp_tell_trade K a) := by
  refine F.ok sc_tell_trade (fun vs H Q E h => ?_) (fun cdv A outer s H vs Q E hr h => ?_)
  · obtain ⟨d, t, s, xs, R, rfl, _⟩ := h
    rfl
  · obtain ⟨d, t, s, xs, R, rfl, hd, I, ht, hR, hx, hin, kk⟩ := h
    cases hR
    match xs, hx with
    | [zd, zi, zq, zm], _ =>
      refine ⟨_, (pss_cons (ps_if (pt_cmpR op_eq (pe_dget (hu_of hr) (pv 1) pe_str (fun _ _ => rfl)) pe_int (nomark _)) (pss_one (ps_ret (pe_lst (pa_cons (pgI T.g_NOT_FITTING) pa_nil)))) pss_nil)
      (pss_cons (ps_if (pt_cmpR op_ge (pe_callB call_len_seq rfl T.b_len PySem.boot_len (pa_cons (pe_fld (pv 0) rfl) pa_nil)) (pgI T.g_MOST_TRADES) (nomark _)) (pss_one (ps_ret (pe_lst (pa_cons (pgI T.g_FULL) pa_nil)))) pss_nil)
      (pss_cons (ps_set (i := 2) sc_tell_trade.nd rfl (Or.inl rfl) (pe_op op_cat (pe_fld (pv 0) rfl) (pe_lst (pa_cons (puc U_Trade (hr.mono (by decide)) (pa_cons (pv 1) pa_nil)) pa_nil))))
      (pss_cons (ps_if (pt_not (pt_val (pu U_are_possible (hr.mono (by decide)) (pa_cons (pv 2) (pa_cons (pe_fld (pv 0) rfl) pa_nil))))) (pss_one (ps_ret (pe_lst (pa_cons (pgI T.g_QUANTITY_IMPOSSIBLE) pa_nil)))) pss_nil)
      (pss_cons (ps_fld (pv 0) (pv 2) rfl)
      (pss_one (ps_ret (pe_lst (pa_cons (pe_callB call_len_seq rfl T.b_len PySem.boot_len (pa_cons (pv 2) pa_nil)) pa_nil))))))))), ?_⟩
      have hz := in_trade.mp hin
      have est : stp s [((2 : Nat) : Int) :: [zd, zi, zq, zm]] = _ := st_trade hin
      obtain ⟨dx, lt, la, lp, ed, ⟨ps, el, hp⟩, h2, h3⟩ := id hd
      refine q_ifr (tt (req (rdg rv rc (gt ht rfl)) rc)) (fun e => ?_) fun e1 => ?_
      · refine e_lst (ra1 rc ra0) sz1 (fin kk (ans := [-6]) ?_ hd rfl)
        rw [est, if_pos (of_decide_eq_true e)]
        rfl
      have e1 : ¬ zq = 0 := of_decide_eq_false e1
      refine q_ifr (tt (r0 (r_len (ra1 (rf rv ed T.c_Desk T.nDesk_trades (lDesk_trades ..)) ra0) el) rc)) (fun e => ?_) fun e2 => ?_
      · refine e_lst (ra1 rc ra0) sz1 (fin kk (ans := [-8]) ?_ hd rfl)
        have := of_decide_eq_true e
        rw [len_nV hp] at this
        have e3 : Vbfuah.MOSTTRADES ≤ s.trades.length := by
          show 100 ≤ s.trades.length
          omega
        rw [est, if_neg e1, if_pos e3]
        rfl
      have e2 : ¬ Vbfuah.MOSTTRADES ≤ s.trades.length := by
        show ¬ 100 ≤ s.trades.length
        have := of_decide_eq_false e2
        rw [len_nV hp] at this
        omega
      have e2' : s.trades.length < 100 := by
        have : ¬ 100 ≤ s.trades.length := e2
        omega
      have es : sound { s with trades := s.trades ++ [{ day := zd.toNat, sec := zi.toNat, qty := zq, money := zm.toNat }] } = sound (stt (s.trades ++ [{ day := zd.toNat, sec := zi.toNat, qty := zq, money := zm.toNat }]) s.actions) := sound_congr rfl rfl
      refine q_let (i_op (ap (rf rv ed T.c_Desk T.nDesk_trades (lDesk_trades ..)) (i_lst (i_cons (m_Trade ht rfl rfl rfl rfl (ra1 rv ra0) fun p dp H1 s1 np hp1 => ⟨sz1, fun l1 hl1 => ?_⟩)))))
      have s2 : Same H (upd H1 l1 (.lst [.ref p])) := s1.trans (Same.new hl1)
      refine ⟨lt, l1, _, _, rfl, rfl, s2 _ _ el, upd_same, by rw [List.length_map, Paired.length hp, sizeLine_eq, List.length_cons, List.length_nil]; omega, fun l2 hl2 => ?_⟩
      have s3 : Same H (upd (upd H1 l1 (.lst [.ref p])) l2 (.lst (ps.map V.ref ++ [.ref p]))) := s2.trans (Same.new hl2)
      have nl2 : H l2 = none := s2.free hl2
      have hp3 : IsTrade a (upd (upd H1 l1 (.lst [.ref p])) l2 (.lst (ps.map V.ref ++ [.ref p]))) p { day := zd.toNat, sec := zi.toNat, qty := zq, money := zm.toNat } := by
        have q : Same H1 (upd (upd H1 l1 (.lst [.ref p])) l2 (.lst (ps.map V.ref ++ [.ref p]))) := Same.trans (Same.new hl1) (Same.new hl2)
        refine ⟨dp, ?_⟩
        have ez1 : ((zd.toNat : Nat) : Int) = zd := by omega
        have ez2 : ((zi.toNat : Nat) : Int) = zi := by omega
        have ez3 : ((zm.toNat : Nat) : Int) = zm := by omega
        show _ = some (HO.ins a.Trade dp (fTrade (.int ((zd.toNat : Nat) : Int)) (.int ((zi.toNat : Nat) : Int)) (.int zq) (.int ((zm.toNat : Nat) : Int))))
        rw [ez1, ez2, ez3]
        exact q _ _ hp1
      have hl3 : LOf (upd (upd H1 l1 (.lst [.ref p])) l2 (.lst (ps.map V.ref ++ [.ref p]))) l2 (IsTrade a (upd (upd H1 l1 (.lst [.ref p])) l2 (.lst (ps.map V.ref ++ [.ref p])))) (s.trades ++ [{ day := zd.toNat, sec := zi.toNat, qty := zq, money := zm.toNat }]) :=
        ⟨ps ++ [p], by rw [upd_same, List.map_append]; rfl, paired_snoc (L2.Paired.mapP hp fun _ _ q => q.same s3) hp3⟩
      generalize upd (upd H1 l1 (.lst [.ref p])) l2 (.lst (ps.map V.ref ++ [.ref p])) = H3 at s3 hl3 hp3
      have ed3 := s3 _ _ ed
      have tl := I.tl
      have al := I.al
      refine q_ifn (c_call (ra1 rv (ra1 (rf rv ed3 T.c_Desk T.nDesk_actions (lDesk_actions ..)) ra0)) ⟨l2, la, _, s.actions, rfl, ⟨hl3, lof_a h2 s3, fun x hx => ?_, I.aw, by rw [List.length_append, List.length_cons, List.length_nil]; omega, by omega⟩, fun H4 s4 => ⟨_, rfl, ite_n (fun e => ?_) (fun e => ?_)⟩⟩)
      · rcases List.mem_append.mp hx with q | q
        · exact I.tw x q
        · rw [List.mem_singleton.mp q]
          exact ⟨show zd.toNat ≤ 100000 by omega, show 1 ≤ zi.toNat ∧ zi.toNat ≤ 12 by omega, show -1000000000 ≤ zq by omega, show zq ≤ 1000000000 by omega, show zm.toNat ≤ 1000000000000 by omega⟩
      · refine e_lst (ra1 rc ra0) sz1 (fin2 kk (s' := s) (ans := [-7]) ?_ (Fr.of (s3.trans s4)) (AnK.of hd (s3.trans s4)) (hd.same (s3.trans s4)) rfl)
        rw [est, if_neg e1, if_neg e2, if_neg]
        · rfl
        · rw [es, e]
          decide
      · have ed4 := s4 _ _ ed3
        refine q_fld (fs' := fDesk (nV s.today) (.ref l2) (.ref la) (.ref lp)) rv rv ed4 T.c_Desk T.nDesk_trades (show 4 < 1000 by decide) (pDesk_trades ..) ?_
        have hl4 := lof_t hl3 s4
        obtain ⟨ps5, el5, hp5⟩ := up_t (o := .ins a.Desk dx (fDesk (nV s.today) (.ref l2) (.ref la) (.ref lp))) hl4 ed4
        refine s_re (e_lst (ra1 (r_len (ra1 rv ra0) el5) ra0) sz1 (fin2 kk (s' := { s with trades := s.trades ++ [{ day := zd.toNat, sec := zi.toNat, qty := zq, money := zm.toNat }] }) (ans := [((s.trades ++ [{ day := zd.toNat, sec := zi.toNat, qty := zq, money := zm.toNat : Trade }]).length : Int)]) ?_ ((Fr.of (s3.trans s4)).trans Fr.upd) (AnK.upd (.inr nl2) (own2 ed) (own3 ed)) ⟨dx, l2, la, lp, upd_same, ⟨ps5, el5, hp5⟩, up_a (lof_a h2 (s3.trans s4)) ed4, up_p (lof_p h3 (s3.trans s4)) ed4⟩ ?_))
        · rw [est, if_neg e1, if_neg e2, if_pos]
          · rfl
          · rw [es, e]
        · rw [len_nV hp5]
          rfl
theorem ok_is_replaced_already {f : Addr} {fd : FuncData} (F : Fun K "is_replaced_already" "is_replaced_already" s_is_replaced_already f fd) (T : Txt K mg a) (U_replaces_holding : UseM P w K mg base 1 a.Action "replaces_holding" ["self"] (sp_Action_replaces_holding K a)) : FnOk P w K mg base CX0 2 f fd ["desk", "action"] (sp_is_replaced_already K a) := by
  refine F.ok sc_is_replaced_already (fun vs H Q E h => ?_) (fun cdv A outer s H vs Q E hr h => ?_)
  · obtain ⟨d, p, s, x, rfl, _⟩ := h
    rfl
  · obtain ⟨d, p, s, x, rfl, hd, hA, hz, kk⟩ := h
    obtain ⟨dx, lt, la, lp, ed, h1, ⟨ps, el, hp⟩, h3⟩ := id hd
    obtain ⟨dp, tp, ep, _⟩ := id hA
    refine ⟨_, (pss_cons (ps_setLc (i := 2) rfl sc_is_replaced_already.nd rfl rfl (sw_true rfl rfl rfl rfl) (pi_list (pe_fld (pv 0) rfl)) (blkOk_by (own := [("one", 3)]) (by show blkC ["desk", "action", "rivals", "one"] (defScope s_is_replaced_already) _ _ = true; decide +kernel)) (fun _ _ _ _ _ => (pg_name (i := 3) sc_is_replaced_already.nd rfl (Or.inl rfl))) (fun _ _ _ _ _ => (pts_one (pt_val (pum0 U_replaces_holding T.c_Action (hr.mono (by decide)) (pv 3))))) (fun _ _ _ _ _ => (pv 3)))
      (pss_one (ps_ret (pe_callB (cr_any rfl) rfl T.b_any boot_any (pa_cons (pe_lc rfl sc_is_replaced_already.nd (pi_list (pv 2)) (blkOk_by (own := [("one", 3)]) (by show blkC ["desk", "action", "rivals", "one"] (defScope s_is_replaced_already) _ _ = true; decide +kernel)) (fun _ _ _ _ _ => (pg_name (i := 3) sc_is_replaced_already.nd rfl (Or.inl rfl))) (fun _ _ _ _ _ => pts_nil) (fun _ _ _ _ _ => (pe_and (pe_cmpR op_eq (pe_fldK (K := K) rfl (pv 3) rfl) (pe_fldK (K := K) rfl (pv 1) rfl) (nomark _)) (pe_one (pe_cmpR op_eq (pe_fldK (K := K) rfl (pv 3) rfl) (pe_fldK (K := K) rfl (pv 1) rfl) (nomark _)))))) pa_nil))))), ?_⟩
    refine q_let ?_
    refine i_lc (rf rv ed T.c_Desk T.nDesk_actions (lDesk_actions ..)) el fun D hD => ?_
    refine lc_list (K := K) (a := la) (xs := ps.map V.ref) (fun n H' => Same H H' ∧ ∃ rs : List Addr, H' D = some (.lst (rs.map V.ref)) ∧ Paired (IsAct a H) rs ((s.actions.take n).filter Vbfuah.moves)) ⟨Same.new hD, [], upd_same, .nil⟩ (fun n H' _ q => SqL.of (q.1 _ _ el)) ?_ ?_
    · rintro n v H' hi ⟨q1, rs, q2, q3⟩
      obtain ⟨c, y, rfl, hy, hT⟩ := pair_at hp hi
      obtain ⟨dc, tc, hc, hc2⟩ := hT.same q1
      refine ⟨rfl, ap (rmeth rv hc rfl ra0 fun Q q => ⟨c, y, rfl, ⟨dc, tc, hc, hc2⟩, q⟩) ⟨_, rfl, ite_b (fun e => ?_) (fun e => ?_)⟩⟩
      · rw [moves_is] at e
        refine ap rv ⟨_, q2, ?_, Same.put q1 hD, rs ++ [c], ?_, ?_⟩
        · rw [List.length_map, Paired.length q3, sizeLine_eq]
          have := List.length_filter_le Vbfuah.moves (s.actions.take n)
          rw [List.length_take] at this
          omega
        · rw [upd_same, List.map_append]; rfl
        · rw [take_snoc hy, filter_snoc, if_pos e]
          exact paired_snoc q3 hT
      · rw [moves_is] at e
        refine ⟨q1, rs, q2, ?_⟩
        rw [take_snoc hy, filter_snoc, if_neg (by rw [e]; decide)]
        exact q3
    · rintro H1 ⟨q1, rs, q2, q3⟩
      rw [List.length_map, Paired.length hp, List.take_length] at q3
      refine s_re (i_cb (i_cons ?_))
      refine ⟨_, rfl, D, rfl, ⟨_, SqL.of q2⟩, fun D2 hD2 => ?_⟩
      have lf : (s.actions.filter Vbfuah.moves).length ≤ 30 := Nat.le_trans (List.length_filter_le _ _) hz
      refine lc_list (K := K) (a := D) (xs := rs.map V.ref) (fun n H' => Same H1 H' ∧ H' D2 = some (.lst ((((s.actions.filter Vbfuah.moves).take n).map fun y => decide ((y.sec : Int) = (x.sec : Int)) && decide ((y.ex : Int) = (x.ex : Int))).map V.bl))) ⟨Same.new hD2, upd_same⟩ (fun n H' _ q => SqL.of (q.1 _ _ q2)) ?_ ?_
      · rintro n v H' hi ⟨r1', r2'⟩
        obtain ⟨c, y, rfl, hy, hT⟩ := pair_at q3 hi
        obtain ⟨dc, tc, hc, _⟩ := (hT.same q1).same r1'
        have ep' := r1' _ _ (q1 _ _ ep)
        refine ⟨rfl, yes_ok (ap (rand (req (rf rv hc T.c_Action T.nAction_thing (lAction_thing ..)) (rf rv ep' T.c_Action T.nAction_thing (lAction_thing ..))) (req (rf rv hc T.c_Action T.nAction_ex (lAction_ex ..)) (rf rv ep' T.c_Action T.nAction_ex (lAction_ex ..)))) ⟨_, r2', by rw [List.length_map, List.length_map, List.length_take, sizeLine_eq]; omega, Same.put r1' hD2, ?_⟩)⟩
        rw [upd_same, take_snoc hy, List.map_append, List.map_append]
        rfl
      · rintro H' ⟨r1', r2'⟩
        rw [List.length_map, Paired.length q3, List.take_length] at r2'
        refine ⟨D2, _, rfl, SqL.of r2', ?_⟩
        rw [List.any_map, List.any_filter]
        have e : (s.actions.any fun y => Vbfuah.moves y && ((id : Bool → Bool) ∘ fun (y : Action) => decide ((y.sec : Int) = (x.sec : Int)) && decide ((y.ex : Int) = (x.ex : Int))) y) = s.actions.any fun y => Vbfuah.moves y && (y.sec == x.sec && y.ex == x.ex) := by
          congr 1
          funext y
          have e1 : decide ((y.sec : Int) = (x.sec : Int)) = (y.sec == x.sec) := by rw [Bool.eq_iff_iff]; simp; omega
          have e2 : decide ((y.ex : Int) = (x.ex : Int)) = (y.ex == x.ex) := by rw [Bool.eq_iff_iff]; simp; omega
          show (Vbfuah.moves y && (decide ((y.sec : Int) = (x.sec : Int)) && decide ((y.ex : Int) = (x.ex : Int)))) = _
          rw [e1, e2]
        rw [e]
        exact kk H' (q1.trans r1')
theorem ok_tell_action {f : Addr} {fd : FuncData} (F : Fun K "tell_action" "tell_action" s_tell_action f fd) (T : Txt K mg a) (U_replaces_holding : UseM P w K mg base 1 a.Action "replaces_holding" ["self"] (sp_Action_replaces_holding K a)) (U_is_replaced_already : Use P w K mg base 2 "is_replaced_already" ["desk", "action"] (sp_is_replaced_already K a)) (U_are_possible : Use P w K mg base 7 "are_possible" ["trades", "actions"] (sp_are_possible K a)) : FnOk P w K mg base CX0 8 f fd ["desk", "action"] (sp_tell_action K a) := by
  refine F.ok sc_tell_action (fun vs H Q E h => ?_) (fun cdv A outer s H vs Q E hr h => ?_)
  · obtain ⟨d, p, s, x, rfl, _⟩ := h
    rfl
  · obtain ⟨d, p, s, x, rfl, hd, I, hA, wf, kk⟩ := h
    refine ⟨_, (pss_cons (ps_if (pt_cmpR op_lt (pe_fld (pv 1) rfl) (pe_fld (pv 1) rfl) (nomark _)) (pss_one (ps_ret (pe_lst (pa_cons (pgI T.g_PAY_TOO_EARLY) pa_nil)))) pss_nil)
      (pss_cons (ps_if (PW.pt (pw_and (pt_val (pum0 U_replaces_holding T.c_Action (hr.mono (by decide)) (pv 1))) (pw_and1 (pt_val (pu U_is_replaced_already (hr.mono (by decide)) (pa_cons (pv 0) (pa_cons (pv 1) pa_nil))))))) (pss_one (ps_ret (pe_lst (pa_cons (pgI T.g_TOLD_ALREADY) pa_nil)))) pss_nil)
      (pss_cons (ps_if (pt_cmpR op_ge (pe_callB call_len_seq rfl T.b_len PySem.boot_len (pa_cons (pe_fld (pv 0) rfl) pa_nil)) (pgI T.g_MOST_ACTIONS) (nomark _)) (pss_one (ps_ret (pe_lst (pa_cons (pgI T.g_FULL) pa_nil)))) pss_nil)
      (pss_cons (ps_set (i := 2) sc_tell_action.nd rfl (Or.inl rfl) (pe_op op_cat (pe_fld (pv 0) rfl) (pe_lst (pa_cons (pv 1) pa_nil))))
      (pss_cons (ps_if (pt_not (pt_val (pu U_are_possible (hr.mono (by decide)) (pa_cons (pe_fld (pv 0) rfl) (pa_cons (pv 2) pa_nil))))) (pss_one (ps_ret (pe_lst (pa_cons (pgI T.g_QUANTITY_IMPOSSIBLE) pa_nil)))) pss_nil)
      (pss_cons (ps_fld (pv 0) (pv 2) rfl)
      (pss_one (ps_ret (pe_lst (pa_cons (pe_callB call_len_seq rfl T.b_len PySem.boot_len (pa_cons (pv 2) pa_nil)) pa_nil)))))))))), ?_⟩
    obtain ⟨dx, lt, la, lp, ed, h1, ⟨ps, el, hp⟩, h3⟩ := id hd
    obtain ⟨dp, tp, ep, etp⟩ := id hA
    have al := I.al
    have tl := I.tl
    refine q_ifr (tt (r0 (rf rv ep T.c_Action T.nAction_pay (lAction_pay ..)) (rf rv ep T.c_Action T.nAction_ex (lAction_ex ..)))) (fun e => ?_) fun e1 => ?_
    · refine e_lst (ra1 rc ra0) sz1 (fin kk (ans := [-3]) ?_ hd rfl)
      have := of_decide_eq_true e
      unfold Vbfuah.doAction
      rw [if_pos (by omega)]
      rfl
    have e1 : ¬ x.pay < x.ex := by have := of_decide_eq_false e1; omega
    have ecl : Vbfuah.clash s x = (Vbfuah.moves x && s.actions.any fun y => Vbfuah.moves y && (y.sec == x.sec && y.ex == x.ex)) := rfl
    refine q_ifa3 (R := fun H2 => Same H H2 ∧ Vbfuah.clash s x = false) (rmeth rv ep rfl ra0 fun Q q => ⟨p, x, rfl, hA, q⟩) ?_ (fun e rest => rest H ⟨Same.refl _, ?_⟩) (fun e rest => c_call (ra1 rv (ra1 rv ra0)) ⟨d, p, s, x, rfl, hd, hA, al, fun H1 s1 => ⟨_, rfl, ite_b (fun c => ?_) (fun c => rest H1 ⟨s1, ?_⟩)⟩⟩)
    · rintro H2 ⟨s2, hcl⟩
      have ed2 := s2 _ _ ed
      have hd2 := hd.same s2
      have es : sound { s with next := s.next + 1, actions := s.actions ++ [x] } = sound (stt s.trades (s.actions ++ [x])) := sound_congr rfl rfl
      refine q_ifr (tt (r0 (r_len (ra1 (rf rv ed2 T.c_Desk T.nDesk_actions (lDesk_actions ..)) ra0) (s2 _ _ el)) rc)) (fun e => ?_) fun e2 => ?_
      · refine e_lst (ra1 rc ra0) sz1 (fin2 kk (s' := s) (ans := [-8]) ?_ (Fr.of s2) (AnK.of hd s2) hd2 rfl)
        have := of_decide_eq_true e
        rw [len_nV hp] at this
        have e3 : Vbfuah.MOSTACTIONS ≤ s.actions.length := by
          show 30 ≤ s.actions.length
          omega
        unfold Vbfuah.doAction
        rw [if_neg e1, if_neg (by rw [hcl]; decide), if_pos e3]
        rfl
      have e2 : ¬ Vbfuah.MOSTACTIONS ≤ s.actions.length := by
        show ¬ 30 ≤ s.actions.length
        have := of_decide_eq_false e2
        rw [len_nV hp] at this
        omega
      have e2' : s.actions.length < 30 := by
        have : ¬ 30 ≤ s.actions.length := e2
        omega
      refine q_let (i_op (ap (rf rv ed2 T.c_Desk T.nDesk_actions (lDesk_actions ..)) (e_lst (ra1 rv ra0) sz1 fun l1 hl1 => ?_)))
      have s3 : Same H (upd H2 l1 (.lst [.ref p])) := s2.trans (Same.new hl1)
      refine ⟨la, l1, _, _, rfl, rfl, s3 _ _ el, upd_same, by rw [List.length_map, Paired.length hp, sizeLine_eq, List.length_cons, List.length_nil]; omega, fun l2 hl2 => ?_⟩
      have s4 : Same H (upd (upd H2 l1 (.lst [.ref p])) l2 (.lst (ps.map V.ref ++ [.ref p]))) := s3.trans (Same.new hl2)
      have nl2 : H l2 = none := s3.free hl2
      have hl4 : LOf (upd (upd H2 l1 (.lst [.ref p])) l2 (.lst (ps.map V.ref ++ [.ref p]))) l2 (IsAct a (upd (upd H2 l1 (.lst [.ref p])) l2 (.lst (ps.map V.ref ++ [.ref p])))) (s.actions ++ [x]) :=
        ⟨ps ++ [p], by rw [upd_same, List.map_append]; rfl, paired_snoc (L2.Paired.mapP hp fun _ _ q => q.same s4) (hA.same s4)⟩
      generalize upd (upd H2 l1 (.lst [.ref p])) l2 (.lst (ps.map V.ref ++ [.ref p])) = H4 at s4 hl4
      have ed4 := s4 _ _ ed
      refine q_ifn (c_call (ra1 (rf rv ed4 T.c_Desk T.nDesk_trades (lDesk_trades ..)) (ra1 rv ra0)) ⟨lt, l2, s.trades, _, rfl, ⟨lof_t h1 s4, hl4, I.tw, fun y hy => ?_, by omega, by rw [List.length_append, List.length_cons, List.length_nil]; omega⟩, fun H5 s5 => ⟨_, rfl, ite_n (fun e => ?_) (fun e => ?_)⟩⟩)
      · rcases List.mem_append.mp hy with q | q
        · exact I.aw y q
        · rw [List.mem_singleton.mp q]; exact wf
      · refine e_lst (ra1 rc ra0) sz1 (fin2 kk (s' := s) (ans := [-7]) ?_ (Fr.of (s4.trans s5)) (AnK.of hd (s4.trans s5)) (hd.same (s4.trans s5)) rfl)
        unfold Vbfuah.doAction
        rw [if_neg e1, if_neg (by rw [hcl]; decide), if_neg e2]
        dsimp only
        rw [if_neg]
        · rfl
        · rw [es, e]
          decide
      · have ed5 := s5 _ _ ed4
        refine q_fld (fs' := fDesk (nV s.today) (.ref lt) (.ref l2) (.ref lp)) rv rv ed5 T.c_Desk T.nDesk_actions (show 4 < 1000 by decide) (pDesk_actions ..) ?_
        obtain ⟨ps6, el6, hp6⟩ := up_a (o := .ins a.Desk dx (fDesk (nV s.today) (.ref lt) (.ref l2) (.ref lp))) (lof_a hl4 s5) ed5
        refine s_re (e_lst (ra1 (r_len (ra1 rv ra0) el6) ra0) sz1 (fin2 kk (s' := { s with next := s.next + 1, actions := s.actions ++ [x] }) (ans := [(s.next : Int)]) ?_ ((Fr.of (s4.trans s5)).trans Fr.upd) (AnK.upd (own1 ed) (.inr nl2) (own3 ed)) ⟨dx, lt, l2, lp, upd_same, up_t (lof_t h1 (s4.trans s5)) ed5, ⟨ps6, el6, hp6⟩, up_p (lof_p h3 (s4.trans s5)) ed5⟩ ?_))
        · unfold Vbfuah.doAction
          rw [if_neg e1, if_neg (by rw [hcl]; decide), if_neg e2]
          dsimp only
          rw [if_pos]
          · rfl
          · rw [es, e]
        · rw [len_nV hp6, I.nx]
          show [V.int ((s.actions ++ [x]).length : Int)] = [V.int ((s.actions.length + 1 : Nat) : Int)]
          rw [List.length_append]
          rfl
    · rw [moves_is] at e
      rw [ecl, e]
      rfl
    · rw [moves_is] at e
      refine e_lst (ra1 rc ra0) sz1 (fin2 kk (s' := s) (ans := [-5]) ?_ (Fr.of s1) (AnK.of hd s1) (hd.same s1) rfl)
      unfold Vbfuah.doAction
      rw [if_neg e1, if_pos (by rw [ecl, e, c]; rfl)]
      rfl
    · rw [moves_is] at e
      rw [ecl, e, c]
      rfl
end
end Hd
namespace L2
open PySem PySem.Spec PyProof.Rows
section
variable {K : PySem.W.Frag} {σ : St} {H : Hp} {ta tb tc te : TE} {t : TA} {v : V} {u : TS} {D : Ends} {Q : VK}
theorem q_setL (h : te σ H fun x H1 => ta σ H1 fun o H2 => tb σ H2 fun i H3 => rSetL o i x H3 fun H4 => u D σ H4) : tSeq (tAsg te (gSub ta tb rSetL)) u D σ H := h
theorem q_ifc {tr : TE} (h : te σ H fun x H1 => ∃ c, x = .bl c ∧ if c = true then tr σ H1 D.rt else u D σ H1) : tSeq (tIfS (tB te) (tRet tr) tNext) u D σ H := h
theorem i_fv {X : Cx} {k : Nat} {ps : List Str} {tf : TE} (h : tf σ H fun x H1 => ∃ sp : Sp, Fv X.prog X.w X.K X.mg X.base k x ps sp ∧ t σ H1 fun vs H2 => sp vs H2 Q E0) : tFv X k ps tf t σ H Q := h
theorem ap2 {vs : List V} {q : List V → Hp → Prop} (r : Ra t σ H vs) (h : q vs H) : t σ H q := r _ h
end
end L2
namespace Hd
open PySem PySem.Spec PyProof.Rows L2
open Vbfuah (Action Trade Price Book State effect acted paid traded dayDone days emptyBook at_ addAt sound soundFrom worth priceAt newAction doAction)
section
variable {P : Program} {w : World} {K : PySem.W.Frag} {mg : Str → Option Value} {base : Heap} {a : Ad} {σ : L2.St} {H : Hp} {Q : VK} {t : TA}
theorem ok_tell_dividend {f : Addr} {fd : FuncData} (F : Fun K "tell_dividend" "tell_dividend" s_tell_dividend f fd) (T : Txt K mg a) (U_tell_action : Use P w K mg base 8 "tell_action" ["desk", "action"] (sp_tell_action K a)) (U_Action : UseC P w K mg base 1 "Action" a.Action ["self", "kind", "told"] (sp_Action_init K a)) : FnOk P w K mg base CX0 9 f fd ["desk", "told"] (sp_tell_dividend K a) := by
  refine F.ok sc_tell_dividend (fun vs H Q E h => ?_) (fun cdv A outer s H vs Q E hr h => ?_)
  · obtain ⟨d, t, s, xs, R, rfl, _⟩ := h
    rfl
  · obtain ⟨d, t, s, xs, R, rfl, hd, I, ht, hR, hx, hin, kk⟩ := h
    cases hR
    match xs, hx with
    | [zi, ze, zp, zr], _ =>
      refine ⟨_, (pss_one (ps_ret (pu U_tell_action (hr.mono (by decide)) (pa_cons (pv 0) (pa_cons (puc U_Action (hr.mono (by decide)) (pa_cons (pgI T.g_DIVIDEND) (pa_cons (pv 1) pa_nil))) pa_nil))))), ?_⟩
      have hz := in_dividend.mp hin
      have est : stp s [((3 : Nat) : Int) :: [zi, ze, zp, zr]] = _ := st_dividend hin
      have ek : kvsC 3 [zi, ze, zp, zr] = kvsOf (newAction s 1 zi 0 ze zp 0 1 1 zr 0 0) := by
        show [((Sum.inr "thing" : Key), V.int zi), ((Sum.inr "ex" : Key), V.int ze), ((Sum.inr "pay" : Key), V.int zp), ((Sum.inr "rate" : Key), V.int zr)] = [((Sum.inr "thing" : Key), V.int ((zi.toNat : Nat) : Int)), ((Sum.inr "ex" : Key), V.int ((ze.toNat : Nat) : Int)), ((Sum.inr "pay" : Key), V.int ((zp.toNat : Nat) : Int)), ((Sum.inr "rate" : Key), V.int ((zr.toNat : Nat) : Int))]
        rw [Int.toNat_of_nonneg (show 0 ≤ zi by omega), Int.toNat_of_nonneg (show 0 ≤ ze by omega), Int.toNat_of_nonneg (show 0 ≤ zp by omega), Int.toNat_of_nonneg (show 0 ≤ zr by omega)]
      have wf : WfA (newAction s 1 zi 0 ze zp 0 1 1 zr 0 0) := wf_div (by omega) (by omega) (by omega) (by omega)
      rw [est] at kk
      rw [ek] at ht
      exact s_re (i_call (i_cons (ap rv (i_cons (m_Act wf ht (ra1 rc (ra1 rv ra0)) fun r H1 s1 nr hA => ⟨d, r, s, _, rfl, hd.same s1, I, hA, wf, fun H' l nl fr an hd' hl => kk H' l (s1.free nl) ((Fr.of s1).trans fr) ((AnK.of hd s1).then an s1.free) hd' hl⟩)))))
theorem ok_tell_split {f : Addr} {fd : FuncData} (F : Fun K "tell_split" "tell_split" s_tell_split f fd) (T : Txt K mg a) (U_tell_action : Use P w K mg base 8 "tell_action" ["desk", "action"] (sp_tell_action K a)) (U_Action : UseC P w K mg base 1 "Action" a.Action ["self", "kind", "told"] (sp_Action_init K a)) : FnOk P w K mg base CX0 9 f fd ["desk", "told"] (sp_tell_split K a) := by
  refine F.ok sc_tell_split (fun vs H Q E h => ?_) (fun cdv A outer s H vs Q E hr h => ?_)
  · obtain ⟨d, t, s, xs, R, rfl, _⟩ := h
    rfl
  · obtain ⟨d, t, s, xs, R, rfl, hd, I, ht, hR, hx, hin, kk⟩ := h
    cases hR
    match xs, hx with
    | [zi, ze, zp, za, zb, zc], _ =>
      refine ⟨_, (pss_one (ps_ret (pu U_tell_action (hr.mono (by decide)) (pa_cons (pv 0) (pa_cons (puc U_Action (hr.mono (by decide)) (pa_cons (pgI T.g_SPLIT) (pa_cons (pv 1) pa_nil))) pa_nil))))), ?_⟩
      have hz := in_split.mp hin
      have est : stp s [((4 : Nat) : Int) :: [zi, ze, zp, za, zb, zc]] = _ := st_split hin
      have ek : kvsC 4 [zi, ze, zp, za, zb, zc] = kvsOf (newAction s 2 zi 0 ze zp 0 za zb zc 0 0) := by
        show [((Sum.inr "thing" : Key), V.int zi), ((Sum.inr "ex" : Key), V.int ze), ((Sum.inr "pay" : Key), V.int zp), ((Sum.inr "a" : Key), V.int za), ((Sum.inr "b" : Key), V.int zb), ((Sum.inr "price" : Key), V.int zc)] = [((Sum.inr "thing" : Key), V.int ((zi.toNat : Nat) : Int)), ((Sum.inr "ex" : Key), V.int ((ze.toNat : Nat) : Int)), ((Sum.inr "pay" : Key), V.int ((zp.toNat : Nat) : Int)), ((Sum.inr "a" : Key), V.int ((za.toNat : Nat) : Int)), ((Sum.inr "b" : Key), V.int ((zb.toNat : Nat) : Int)), ((Sum.inr "price" : Key), V.int ((zc.toNat : Nat) : Int))]
        rw [Int.toNat_of_nonneg (show 0 ≤ zi by omega), Int.toNat_of_nonneg (show 0 ≤ ze by omega), Int.toNat_of_nonneg (show 0 ≤ zp by omega), Int.toNat_of_nonneg (show 0 ≤ za by omega), Int.toNat_of_nonneg (show 0 ≤ zb by omega), Int.toNat_of_nonneg (show 0 ≤ zc by omega)]
      have wf : WfA (newAction s 2 zi 0 ze zp 0 za zb zc 0 0) := wf_split (by omega) (by omega) (by omega) (by omega) (by omega) (by omega)
      rw [est] at kk
      rw [ek] at ht
      exact s_re (i_call (i_cons (ap rv (i_cons (m_Act wf ht (ra1 rc (ra1 rv ra0)) fun r H1 s1 nr hA => ⟨d, r, s, _, rfl, hd.same s1, I, hA, wf, fun H' l nl fr an hd' hl => kk H' l (s1.free nl) ((Fr.of s1).trans fr) ((AnK.of hd s1).then an s1.free) hd' hl⟩)))))
theorem ok_tell_spinoff {f : Addr} {fd : FuncData} (F : Fun K "tell_spinoff" "tell_spinoff" s_tell_spinoff f fd) (T : Txt K mg a) (U_tell_action : Use P w K mg base 8 "tell_action" ["desk", "action"] (sp_tell_action K a)) (U_Action : UseC P w K mg base 1 "Action" a.Action ["self", "kind", "told"] (sp_Action_init K a)) : FnOk P w K mg base CX0 9 f fd ["desk", "told"] (sp_tell_spinoff K a) := by
  refine F.ok sc_tell_spinoff (fun vs H Q E h => ?_) (fun cdv A outer s H vs Q E hr h => ?_)
  · obtain ⟨d, t, s, xs, R, rfl, _⟩ := h
    rfl
  · obtain ⟨d, t, s, xs, R, rfl, hd, I, ht, hR, hx, hin, kk⟩ := h
    cases hR
    match xs, hx with
    | [zi, zj, ze, zp, za, zb, zc], _ =>
      refine ⟨_, (pss_cons (ps_if (pt_cmpR op_eq (pe_dget (hu_of hr) (pv 1) pe_str (fun _ _ => rfl)) (pe_dget (hu_of hr) (pv 1) pe_str (fun _ _ => rfl)) (nomark _)) (pss_one (ps_ret (pe_lst (pa_cons (pgI T.g_NOT_FITTING) pa_nil)))) pss_nil)
      (pss_one (ps_ret (pu U_tell_action (hr.mono (by decide)) (pa_cons (pv 0) (pa_cons (puc U_Action (hr.mono (by decide)) (pa_cons (pgI T.g_SPINOFF) (pa_cons (pv 1) pa_nil))) pa_nil)))))), ?_⟩
      have hz := in_spinoff.mp hin
      have est : stp s [((5 : Nat) : Int) :: [zi, zj, ze, zp, za, zb, zc]] = _ := st_spinoff hin
      have ek : kvsC 5 [zi, zj, ze, zp, za, zb, zc] = kvsOf (newAction s 3 zi zj ze zp 0 za zb zc 0 0) := by
        show [((Sum.inr "thing" : Key), V.int zi), ((Sum.inr "other" : Key), V.int zj), ((Sum.inr "ex" : Key), V.int ze), ((Sum.inr "pay" : Key), V.int zp), ((Sum.inr "a" : Key), V.int za), ((Sum.inr "b" : Key), V.int zb), ((Sum.inr "price" : Key), V.int zc)] = [((Sum.inr "thing" : Key), V.int ((zi.toNat : Nat) : Int)), ((Sum.inr "other" : Key), V.int ((zj.toNat : Nat) : Int)), ((Sum.inr "ex" : Key), V.int ((ze.toNat : Nat) : Int)), ((Sum.inr "pay" : Key), V.int ((zp.toNat : Nat) : Int)), ((Sum.inr "a" : Key), V.int ((za.toNat : Nat) : Int)), ((Sum.inr "b" : Key), V.int ((zb.toNat : Nat) : Int)), ((Sum.inr "price" : Key), V.int ((zc.toNat : Nat) : Int))]
        rw [Int.toNat_of_nonneg (show 0 ≤ zi by omega), Int.toNat_of_nonneg (show 0 ≤ zj by omega), Int.toNat_of_nonneg (show 0 ≤ ze by omega), Int.toNat_of_nonneg (show 0 ≤ zp by omega), Int.toNat_of_nonneg (show 0 ≤ za by omega), Int.toNat_of_nonneg (show 0 ≤ zb by omega), Int.toNat_of_nonneg (show 0 ≤ zc by omega)]
      have wf : WfA (newAction s 3 zi zj ze zp 0 za zb zc 0 0) := wf_spin (by omega) (by omega) (by omega) (by omega) (by omega) (by omega) (by omega)
      refine q_ifr (tt (req (rdg rv rc (v := .int zj) (gt ht rfl)) (rdg rv rc (v := .int zi) (gt ht rfl)))) (fun e => ?_) fun e1 => ?_
      · refine e_lst (ra1 rc ra0) sz1 (fin kk (ans := [-6]) ?_ hd rfl)
        have e0 := of_decide_eq_true e
        rw [est, if_pos e0.symm]
        rfl
      have e1 : ¬ zi = zj := fun q => of_decide_eq_false e1 q.symm
      rw [est, if_neg e1] at kk
      rw [ek] at ht
      exact s_re (i_call (i_cons (ap rv (i_cons (m_Act wf ht (ra1 rc (ra1 rv ra0)) fun r H1 s1 nr hA => ⟨d, r, s, _, rfl, hd.same s1, I, hA, wf, fun H' l nl fr an hd' hl => kk H' l (s1.free nl) ((Fr.of s1).trans fr) ((AnK.of hd s1).then an s1.free) hd' hl⟩)))))
theorem ok_tell_rights {f : Addr} {fd : FuncData} (F : Fun K "tell_rights" "tell_rights" s_tell_rights f fd) (T : Txt K mg a) (U_tell_action : Use P w K mg base 8 "tell_action" ["desk", "action"] (sp_tell_action K a)) (U_Action : UseC P w K mg base 1 "Action" a.Action ["self", "kind", "told"] (sp_Action_init K a)) : FnOk P w K mg base CX0 9 f fd ["desk", "told"] (sp_tell_rights K a) := by
  refine F.ok sc_tell_rights (fun vs H Q E h => ?_) (fun cdv A outer s H vs Q E hr h => ?_)
  · obtain ⟨d, t, s, xs, R, rfl, _⟩ := h
    rfl
  · obtain ⟨d, t, s, xs, R, rfl, hd, I, ht, hR, hx, hin, kk⟩ := h
    cases hR
    match xs, hx with
    | [zi, ze, zp, zl, za, zb, zc, zu, zk], _ =>
      refine ⟨_, (pss_cons (ps_if (pt_cmpR op_lt (pe_dget (hu_of hr) (pv 1) pe_str (fun _ _ => rfl)) (pe_dget (hu_of hr) (pv 1) pe_str (fun _ _ => rfl)) (nomark _)) (pss_one (ps_ret (pe_lst (pa_cons (pgI T.g_PAY_TOO_EARLY) pa_nil)))) pss_nil)
      (pss_one (ps_ret (pu U_tell_action (hr.mono (by decide)) (pa_cons (pv 0) (pa_cons (puc U_Action (hr.mono (by decide)) (pa_cons (pgI T.g_RIGHTS) (pa_cons (pv 1) pa_nil))) pa_nil)))))), ?_⟩
      have hz := in_rights.mp hin
      have est : stp s [((6 : Nat) : Int) :: [zi, ze, zp, zl, za, zb, zc, zu, zk]] = _ := st_rights hin
      have ek : kvsC 6 [zi, ze, zp, zl, za, zb, zc, zu, zk] = kvsOf (newAction s 4 zi 0 ze zp zl za zb zc zu zk) := by
        show [((Sum.inr "thing" : Key), V.int zi), ((Sum.inr "ex" : Key), V.int ze), ((Sum.inr "pay" : Key), V.int zp), ((Sum.inr "last" : Key), V.int zl), ((Sum.inr "a" : Key), V.int za), ((Sum.inr "b" : Key), V.int zb), ((Sum.inr "price" : Key), V.int zc), ((Sum.inr "for_each" : Key), V.int zu), ((Sum.inr "choice" : Key), V.int zk)] = [((Sum.inr "thing" : Key), V.int ((zi.toNat : Nat) : Int)), ((Sum.inr "ex" : Key), V.int ((ze.toNat : Nat) : Int)), ((Sum.inr "pay" : Key), V.int ((zp.toNat : Nat) : Int)), ((Sum.inr "last" : Key), V.int ((zl.toNat : Nat) : Int)), ((Sum.inr "a" : Key), V.int ((za.toNat : Nat) : Int)), ((Sum.inr "b" : Key), V.int ((zb.toNat : Nat) : Int)), ((Sum.inr "price" : Key), V.int ((zc.toNat : Nat) : Int)), ((Sum.inr "for_each" : Key), V.int ((zu.toNat : Nat) : Int)), ((Sum.inr "choice" : Key), V.int ((zk.toNat : Nat) : Int))]
        rw [Int.toNat_of_nonneg (show 0 ≤ zi by omega), Int.toNat_of_nonneg (show 0 ≤ ze by omega), Int.toNat_of_nonneg (show 0 ≤ zp by omega), Int.toNat_of_nonneg (show 0 ≤ zl by omega), Int.toNat_of_nonneg (show 0 ≤ za by omega), Int.toNat_of_nonneg (show 0 ≤ zb by omega), Int.toNat_of_nonneg (show 0 ≤ zc by omega), Int.toNat_of_nonneg (show 0 ≤ zu by omega), Int.toNat_of_nonneg (show 0 ≤ zk by omega)]
      have wf : WfA (newAction s 4 zi 0 ze zp zl za zb zc zu zk) := wf_rights (by omega) (by omega) (by omega) (by omega) (by omega) (by omega) (by omega) (by omega) (by omega)
      refine q_ifr (tt (r0 (rdg rv rc (v := .int zp) (gt ht rfl)) (rdg rv rc (v := .int zl) (gt ht rfl)))) (fun e => ?_) fun e2 => ?_
      · refine e_lst (ra1 rc ra0) sz1 (fin kk (ans := [-3]) ?_ hd rfl)
        have e0 := of_decide_eq_true e
        rw [est, if_pos e0]
        rfl
      have e2 : ¬ zp < zl := of_decide_eq_false e2
      rw [est, if_neg e2] at kk
      rw [ek] at ht
      exact s_re (i_call (i_cons (ap rv (i_cons (m_Act wf ht (ra1 rc (ra1 rv ra0)) fun r H1 s1 nr hA => ⟨d, r, s, _, rfl, hd.same s1, I, hA, wf, fun H' l nl fr an hd' hl => kk H' l (s1.free nl) ((Fr.of s1).trans fr) ((AnK.of hd s1).then an s1.free) hd' hl⟩)))))
theorem ok_tell_takeover {f : Addr} {fd : FuncData} (F : Fun K "tell_takeover" "tell_takeover" s_tell_takeover f fd) (T : Txt K mg a) (U_tell_action : Use P w K mg base 8 "tell_action" ["desk", "action"] (sp_tell_action K a)) (U_Action : UseC P w K mg base 1 "Action" a.Action ["self", "kind", "told"] (sp_Action_init K a)) : FnOk P w K mg base CX0 9 f fd ["desk", "told"] (sp_tell_takeover K a) := by
  refine F.ok sc_tell_takeover (fun vs H Q E h => ?_) (fun cdv A outer s H vs Q E hr h => ?_)
  · obtain ⟨d, t, s, xs, R, rfl, _⟩ := h
    rfl
  · obtain ⟨d, t, s, xs, R, rfl, hd, I, ht, hR, hx, hin, kk⟩ := h
    cases hR
    match xs, hx with
    | [zi, zj, ze, zp, zl, za, zb, zc, zu, zk], _ =>
      refine ⟨_, (pss_cons (ps_if (pt_cmpR op_eq (pe_dget (hu_of hr) (pv 1) pe_str (fun _ _ => rfl)) (pe_dget (hu_of hr) (pv 1) pe_str (fun _ _ => rfl)) (nomark _)) (pss_one (ps_ret (pe_lst (pa_cons (pgI T.g_NOT_FITTING) pa_nil)))) pss_nil)
      (pss_cons (ps_if (pt_cmpR op_lt (pe_dget (hu_of hr) (pv 1) pe_str (fun _ _ => rfl)) (pe_dget (hu_of hr) (pv 1) pe_str (fun _ _ => rfl)) (nomark _)) (pss_one (ps_ret (pe_lst (pa_cons (pgI T.g_PAY_TOO_EARLY) pa_nil)))) pss_nil)
      (pss_one (ps_ret (pu U_tell_action (hr.mono (by decide)) (pa_cons (pv 0) (pa_cons (puc U_Action (hr.mono (by decide)) (pa_cons (pgI T.g_TAKEOVER) (pa_cons (pv 1) pa_nil))) pa_nil))))))), ?_⟩
      have hz := in_takeover.mp hin
      have est : stp s [((7 : Nat) : Int) :: [zi, zj, ze, zp, zl, za, zb, zc, zu, zk]] = _ := st_takeover hin
      have ek : kvsC 7 [zi, zj, ze, zp, zl, za, zb, zc, zu, zk] = kvsOf (newAction s 5 zi zj ze zp zl za zb zc zu zk) := by
        show [((Sum.inr "thing" : Key), V.int zi), ((Sum.inr "other" : Key), V.int zj), ((Sum.inr "ex" : Key), V.int ze), ((Sum.inr "pay" : Key), V.int zp), ((Sum.inr "last" : Key), V.int zl), ((Sum.inr "a" : Key), V.int za), ((Sum.inr "b" : Key), V.int zb), ((Sum.inr "for_each" : Key), V.int zc), ((Sum.inr "price" : Key), V.int zu), ((Sum.inr "choice" : Key), V.int zk)] = [((Sum.inr "thing" : Key), V.int ((zi.toNat : Nat) : Int)), ((Sum.inr "other" : Key), V.int ((zj.toNat : Nat) : Int)), ((Sum.inr "ex" : Key), V.int ((ze.toNat : Nat) : Int)), ((Sum.inr "pay" : Key), V.int ((zp.toNat : Nat) : Int)), ((Sum.inr "last" : Key), V.int ((zl.toNat : Nat) : Int)), ((Sum.inr "a" : Key), V.int ((za.toNat : Nat) : Int)), ((Sum.inr "b" : Key), V.int ((zb.toNat : Nat) : Int)), ((Sum.inr "for_each" : Key), V.int ((zc.toNat : Nat) : Int)), ((Sum.inr "price" : Key), V.int ((zu.toNat : Nat) : Int)), ((Sum.inr "choice" : Key), V.int ((zk.toNat : Nat) : Int))]
        rw [Int.toNat_of_nonneg (show 0 ≤ zi by omega), Int.toNat_of_nonneg (show 0 ≤ zj by omega), Int.toNat_of_nonneg (show 0 ≤ ze by omega), Int.toNat_of_nonneg (show 0 ≤ zp by omega), Int.toNat_of_nonneg (show 0 ≤ zl by omega), Int.toNat_of_nonneg (show 0 ≤ za by omega), Int.toNat_of_nonneg (show 0 ≤ zb by omega), Int.toNat_of_nonneg (show 0 ≤ zc by omega), Int.toNat_of_nonneg (show 0 ≤ zu by omega), Int.toNat_of_nonneg (show 0 ≤ zk by omega)]
      have wf : WfA (newAction s 5 zi zj ze zp zl za zb zc zu zk) := wf_take (by omega) (by omega) (by omega) (by omega) (by omega) (by omega) (by omega) (by omega) (by omega) (by omega)
      refine q_ifr (tt (req (rdg rv rc (v := .int zj) (gt ht rfl)) (rdg rv rc (v := .int zi) (gt ht rfl)))) (fun e => ?_) fun e1 => ?_
      · refine e_lst (ra1 rc ra0) sz1 (fin kk (ans := [-6]) ?_ hd rfl)
        have e0 := of_decide_eq_true e
        rw [est, if_pos e0.symm]
        rfl
      have e1 : ¬ zi = zj := fun q => of_decide_eq_false e1 q.symm
      refine q_ifr (tt (r0 (rdg rv rc (v := .int zp) (gt ht rfl)) (rdg rv rc (v := .int zl) (gt ht rfl)))) (fun e => ?_) fun e2 => ?_
      · refine e_lst (ra1 rc ra0) sz1 (fin kk (ans := [-3]) ?_ hd rfl)
        have e0 := of_decide_eq_true e
        rw [est, if_neg e1, if_pos e0]
        rfl
      have e2 : ¬ zp < zl := of_decide_eq_false e2
      rw [est, if_neg e1, if_neg e2] at kk
      rw [ek] at ht
      exact s_re (i_call (i_cons (ap rv (i_cons (m_Act wf ht (ra1 rc (ra1 rv ra0)) fun r H1 s1 nr hA => ⟨d, r, s, _, rfl, hd.same s1, I, hA, wf, fun H' l nl fr an hd' hl => kk H' l (s1.free nl) ((Fr.of s1).trans fr) ((AnK.of hd s1).then an s1.free) hd' hl⟩)))))
theorem ok_tell_choose {f : Addr} {fd : FuncData} (F : Fun K "tell_choose" "tell_choose" s_tell_choose f fd) (T : Txt K mg a) (U_with_choice : UseM P w K mg base 3 a.Action "with_choice" ["self", "choice"] (sp_Action_with_choice K a)) (U_has_choice : UseM P w K mg base 1 a.Action "has_choice" ["self"] (sp_Action_has_choice K a)) (U_are_possible : Use P w K mg base 7 "are_possible" ["trades", "actions"] (sp_are_possible K a)) : FnOk P w K mg base CX0 8 f fd ["desk", "told"] (sp_tell_choose K a) := by
  refine F.ok sc_tell_choose (fun vs H Q E h => ?_) (fun cdv A outer s H vs Q E hr h => ?_)
  · obtain ⟨d, t, s, xs, R, rfl, _⟩ := h
    rfl
  · obtain ⟨d, t, s, xs, R, rfl, hd, I, ht, hR, hx, hin, kk⟩ := h
    cases hR
    match xs, hx with
    | [zn, zk], _ =>
      refine ⟨_, (pss_cons (ps_set (i := 2) sc_tell_choose.nd rfl (Or.inl rfl) (pe_dget (hu_of hr) (pv 1) pe_str (fun _ _ => rfl)))
      (pss_cons (ps_if (pt_cmpR op_gt (pv 2) (pe_callB call_len_seq rfl T.b_len PySem.boot_len (pa_cons (pe_fld (pv 0) rfl) pa_nil)) (nomark _)) (pss_one (ps_ret (pe_lst (pa_cons (pgI T.g_NOT_THERE) pa_nil)))) pss_nil)
      (pss_cons (ps_set (i := 3) sc_tell_choose.nd rfl (Or.inl rfl) (pe_ix ix_list (pe_fld (pv 0) rfl) (pe_op op_sub (pv 2) pe_int) (fun _ _ => rfl)))
      (pss_cons (ps_if (pt_not (pt_val (pum0 U_has_choice T.c_Action (hr.mono (by decide)) (pv 3)))) (pss_one (ps_ret (pe_lst (pa_cons (pgI T.g_NOT_FITTING) pa_nil)))) pss_nil)
      (pss_cons (ps_if (pt_cmpR op_lt (pe_fld (pv 3) rfl) (pe_fld (pv 0) rfl) (nomark _)) (pss_one (ps_ret (pe_lst (pa_cons (pgI T.g_TOO_LATE) pa_nil)))) pss_nil)
      (pss_cons (ps_set (i := 4) sc_tell_choose.nd rfl (Or.inl rfl) (pe_callTy (call_list_of) rfl T.b_list boot_list (pa_cons (pe_fld (pv 0) rfl) pa_nil)))
      (pss_cons (ps_asg (pum U_with_choice T.c_Action (hr.mono (by decide)) (pv 3) (pa_cons (pe_dget (hu_of hr) (pv 1) pe_str (fun _ _ => rfl)) pa_nil)) (pg_sub (pv 4) (pe_op op_sub (pv 2) pe_int) set_list))
      (pss_cons (ps_if (pt_not (pt_val (pu U_are_possible (hr.mono (by decide)) (pa_cons (pe_fld (pv 0) rfl) (pa_cons (pv 4) pa_nil))))) (pss_one (ps_ret (pe_lst (pa_cons (pgI T.g_QUANTITY_IMPOSSIBLE) pa_nil)))) pss_nil)
      (pss_cons (ps_fld (pv 0) (pv 4) rfl)
      (pss_one (ps_ret (pe_lst (pa_cons (pe_fld (pv 3) rfl) pa_nil))))))))))))), ?_⟩
      have hz := in_choose.mp hin
      have est : stp s [((8 : Nat) : Int) :: [zn, zk]] = _ := st_choose I hin
      obtain ⟨dx, lt, la, lp, ed, h1, ⟨ps, el, hp⟩, h3⟩ := id hd
      have al := I.al
      have tl := I.tl
      refine q_set (rdg rv rc (v := .int zn) (gt ht rfl)) rfl ?_
      refine q_ifr (tt (r0 rv (r_len (ra1 (rf rv ed T.c_Desk T.nDesk_actions (lDesk_actions ..)) ra0) el))) (fun e => ?_) fun e1 => ?_
      · refine e_lst (ra1 rc ra0) sz1 (fin kk (ans := [-4]) ?_ hd rfl)
        have e0 := of_decide_eq_true e
        rw [len_nV hp] at e0
        rw [est, List.getElem?_eq_none (by omega)]
        rfl
      have e1 : zn ≤ (s.actions.length : Int) := by
        have := of_decide_eq_false e1
        rw [len_nV hp] at this
        omega
      have hlt : (zn - 1).toNat < s.actions.length := by omega
      obtain ⟨x, hx⟩ : ∃ x, s.actions[(zn - 1).toNat]? = some x := ⟨_, List.getElem?_eq_getElem hlt⟩
      have hlp : (zn - 1).toNat < ps.length := by rw [Paired.length hp]; exact hlt
      obtain ⟨p, hpp⟩ : ∃ p, ps[(zn - 1).toNat]? = some p := ⟨_, List.getElem?_eq_getElem hlp⟩
      obtain ⟨x', hx', hA⟩ := paired_get hp hpp
      rw [hx] at hx'
      cases hx'
      rw [hx] at est
      dsimp only at est
      have wf := I.aw x (List.mem_of_getElem? hx)
      obtain ⟨dp, tp, ep, etp⟩ := id hA
      have en : zn - 1 = (((zn - 1).toNat : Nat) : Int) := by omega
      have hat : atI (ps.map V.ref) (zn - 1) = some (.ref p) := by
        rw [en]
        exact atI_nat (by rw [List.getElem?_map, hpp]; rfl)
      refine q_set (rix (rf rv ed T.c_Desk T.nDesk_actions (lDesk_actions ..)) (r0 rv rc) (SqL.of el) hat) rfl ?_
      refine q_ifn (ap (rmeth rv ep rfl ra0 fun Q q => ⟨p, x, rfl, hA, q⟩) ⟨_, rfl, ite_n (fun e => ?_) (fun e => ?_)⟩)
      · refine e_lst (ra1 rc ra0) sz1 (fin kk (ans := [-6]) ?_ hd rfl)
        rw [Bool.or_eq_false_iff] at e
        have q1 := of_decide_eq_false e.1
        have q2 := of_decide_eq_false e.2
        have q3 := wf.kd
        rw [est, if_pos (by omega)]
        rfl
      have hk : ¬ x.kind < 4 := by
        rw [Bool.or_eq_true] at e
        rcases e with e | e
        · have := of_decide_eq_true e; omega
        · have := of_decide_eq_true e; omega
      rw [if_neg hk] at est
      refine q_ifr (tt (r0 (rf rv ep T.c_Action T.nAction_last (lAction_last ..)) (rf rv ed T.c_Desk T.nDesk_today (lDesk_today ..)))) (fun e => ?_) fun e2 => ?_
      · refine e_lst (ra1 rc ra0) sz1 (fin kk (ans := [-9]) ?_ hd rfl)
        have e0 := of_decide_eq_true e
        rw [est, if_pos (by omega)]
        rfl
      have e2 : ¬ x.last < s.today := by
        have := of_decide_eq_false e2
        omega
      rw [if_neg e2] at est
      refine q_let (cb (ra1 (rf rv ed T.c_Desk T.nDesk_actions (lDesk_actions ..)) ra0) ⟨la, _, rfl, .inl (SqL.of el), fun l2 hl2 => ?_⟩)
      have s1 : Same H (upd H l2 (.lst (ps.map V.ref))) := Same.new hl2
      have ec : zk = ((zk.toNat : Nat) : Int) := by omega
      refine q_setL (c_meth (vs := [.int zk]) rv (s1 _ _ ep) rfl (ra1 (rdg rv rc (gt (s1 _ _ ht) rfl)) ra0) ⟨p, x, zk.toNat, by show [V.ref p, V.int zk] = [V.ref p, V.int ((zk.toNat : Nat) : Int)]; rw [← ec], hA.same s1, wf, by omega, by omega, fun H2 r s2 hr' => ?_⟩)
      have s12 : Same H H2 := s1.trans s2
      refine ap rv (ap (r0 rv rc) ⟨l2, _, _, (zn - 1).toNat, rfl, rfl, s2 _ _ upd_same, ?_, ?_⟩)
      · rw [en]
        exact ixN_nat (by rw [List.length_map]; omega)
      have es : sound { s with actions := s.actions.set (zn - 1).toNat { x with choice := zk.toNat } } = sound (stt s.trades (s.actions.set (zn - 1).toNat { x with choice := zk.toNat })) := sound_congr rfl rfl
      have s3 : Same H (upd H2 l2 (.lst ((ps.map V.ref).set (zn - 1).toNat (.ref r)))) := Same.put s12 hl2
      have hr3 : IsAct a (upd H2 l2 (.lst ((ps.map V.ref).set (zn - 1).toNat (.ref r)))) r { x with choice := zk.toNat } := by
        obtain ⟨q1, q2, q3, q4⟩ := hr'
        have l2e := s2 _ _ (upd_same (H := H) (a := l2) (o := .lst (ps.map V.ref)))
        exact ⟨q1, q2, ins_l q3 l2e, by rw [upd_ne (ne_of q4 l2e (by intro z; cases z))]; exact q4⟩
      have hl3 : LOf (upd H2 l2 (.lst ((ps.map V.ref).set (zn - 1).toNat (.ref r)))) l2 (IsAct a (upd H2 l2 (.lst ((ps.map V.ref).set (zn - 1).toNat (.ref r))))) (s.actions.set (zn - 1).toNat { x with choice := zk.toNat }) :=
        ⟨ps.set (zn - 1).toNat r, by rw [upd_same, List.map_set], paired_set hr3 _ (L2.Paired.mapP hp fun _ _ q => q.same s3)⟩
      generalize upd H2 l2 (.lst ((ps.map V.ref).set (zn - 1).toNat (.ref r))) = H3 at s3 hl3 hr3
      have ed3 := s3 _ _ ed
      refine q_ifn (c_call (ra1 (rf rv ed3 T.c_Desk T.nDesk_trades (lDesk_trades ..)) (ra1 rv ra0)) ⟨lt, l2, s.trades, _, rfl, ⟨lof_t h1 s3, hl3, I.tw, fun y hy => ?_, by omega, by rw [List.length_set]; omega⟩, fun H4 s4 => ⟨_, rfl, ite_n (fun e => ?_) (fun e => ?_)⟩⟩)
      · rcases List.mem_or_eq_of_mem_set hy with q | q
        · exact I.aw y q
        · rw [q]; exact wf.chosen (by omega) (by omega)
      · refine e_lst (ra1 rc ra0) sz1 (fin2 kk (s' := s) (ans := [-7]) ?_ (Fr.of (s3.trans s4)) (AnK.of hd (s3.trans s4)) (hd.same (s3.trans s4)) rfl)
        rw [est, if_neg (by rw [es, e]; decide)]
        rfl
      · have ed4 := s4 _ _ ed3
        refine q_fld (fs' := fDesk (nV s.today) (.ref lt) (.ref l2) (.ref lp)) rv rv ed4 T.c_Desk T.nDesk_actions (show 4 < 1000 by decide) (pDesk_actions ..) ?_
        have ep4 : (upd H4 d (.ins a.Desk dx (fDesk (nV s.today) (.ref lt) (.ref l2) (.ref lp)))) p = some (.ins a.Action dp (fAct x tp)) := nd_i (s4 _ _ (s3 _ _ ep)) (f := "kind") rfl ed4 (by decide +kernel)
        refine s_re (e_lst (ra1 (rf rv ep4 T.c_Action T.nAction_choice (lAction_choice ..)) ra0) sz1 (fin2 kk (s' := { s with actions := s.actions.set (zn - 1).toNat { x with choice := zk.toNat } }) (ans := [(x.choice : Int)]) ?_ ((Fr.of (s3.trans s4)).trans Fr.upd) (AnK.upd (own1 ed) (.inr hl2) (own3 ed)) ⟨dx, lt, l2, lp, upd_same, up_t (lof_t h1 (s3.trans s4)) ed4, up_a (lof_a hl3 s4) ed4, up_p (lof_p h3 (s3.trans s4)) ed4⟩ rfl))
        rw [est, if_pos (by rw [es, e])]
        rfl
theorem ok_tell_price {f : Addr} {fd : FuncData} (F : Fun K "tell_price" "tell_price" s_tell_price f fd) (T : Txt K mg a) (U_is_priced : Use P w K mg base 1 "is_priced" ["prices", "day", "thing"] (sp_is_priced K a)) (U_Price : UseC P w K mg base 1 "Price" a.Price ["self", "told"] (sp_Price_init K a)) : FnOk P w K mg base CX0 3 f fd ["desk", "told"] (sp_tell_price K a) := by
  refine F.ok sc_tell_price (fun vs H Q E h => ?_) (fun cdv A outer s H vs Q E hr h => ?_)
  · obtain ⟨d, t, s, xs, R, rfl, _⟩ := h
    rfl
  · obtain ⟨d, t, s, xs, R, rfl, hd, I, ht, hR, hx, hin, kk⟩ := h
    cases hR
    match xs, hx with
    | [zd, zi, zp], _ =>
      refine ⟨_, (pss_cons (ps_if (pt_val (pu U_is_priced (hr.mono (by decide)) (pa_cons (pe_fld (pv 0) rfl) (pa_cons (pe_dget (hu_of hr) (pv 1) pe_str (fun _ _ => rfl)) (pa_cons (pe_dget (hu_of hr) (pv 1) pe_str (fun _ _ => rfl)) pa_nil))))) (pss_one (ps_ret (pe_lst (pa_cons (pgI T.g_TOLD_ALREADY) pa_nil)))) pss_nil)
      (pss_cons (ps_if (pt_cmpR op_ge (pe_callB call_len_seq rfl T.b_len PySem.boot_len (pa_cons (pe_fld (pv 0) rfl) pa_nil)) (pgI T.g_MOST_PRICES) (nomark _)) (pss_one (ps_ret (pe_lst (pa_cons (pgI T.g_FULL) pa_nil)))) pss_nil)
      (pss_cons (ps_fld (pv 0) (pe_op op_cat (pe_fld (pv 0) rfl) (pe_lst (pa_cons (puc U_Price (hr.mono (by decide)) (pa_cons (pv 1) pa_nil)) pa_nil))) rfl)
      (pss_one (ps_ret (pe_lst (pa_cons pe_int pa_nil))))))), ?_⟩
      have hz := in_price.mp hin
      have est : stp s [((9 : Nat) : Int) :: [zd, zi, zp]] = _ := st_price hin
      obtain ⟨dx, lt, la, lp, ed, h1, h2, hL⟩ := id hd
      obtain ⟨ps, el, hp⟩ := id hL
      have pl := I.pl
      refine q_ifc (i_call (i_cons (ap (rf rv ed T.c_Desk T.nDesk_prices (lDesk_prices ..)) (i_cons (ap (rdg rv rc (v := .int zd) (gt ht rfl)) (i_cons (ap (rdg rv rc (v := .int zi) (gt ht rfl)) ⟨lp, zd, zi, s.prices, rfl, hL, pl, fun H1 s1 => ⟨_, rfl, ite_b (fun e => ?_) (fun e => ?_)⟩⟩)))))))
      · refine e_lst (ra1 rc ra0) sz1 (fin2 kk (s' := s) (ans := [-5]) ?_ (Fr.of s1) (AnK.of hd s1) (hd.same s1) rfl)
        rw [est, if_pos e]
        rfl
      · have e1 : ¬ (s.prices.any fun x => (x.day : Int) == zd && (x.sec : Int) == zi) = true := by rw [e]; decide
        rw [if_neg e1] at est
        have ed1 := s1 _ _ ed
        refine q_ifr (tt (r0 (r_len (ra1 (rf rv ed1 T.c_Desk T.nDesk_prices (lDesk_prices ..)) ra0) (s1 _ _ el)) rc)) (fun e => ?_) fun e2 => ?_
        · refine e_lst (ra1 rc ra0) sz1 (fin2 kk (s' := s) (ans := [-8]) ?_ (Fr.of s1) (AnK.of hd s1) (hd.same s1) rfl)
          have e0 := of_decide_eq_true e
          rw [len_nV hp] at e0
          have e3 : Vbfuah.MOSTPRICES ≤ s.prices.length := by
            show 200 ≤ s.prices.length
            omega
          rw [est, if_pos e3]
          rfl
        have e2 : ¬ Vbfuah.MOSTPRICES ≤ s.prices.length := by
          show ¬ 200 ≤ s.prices.length
          have := of_decide_eq_false e2
          rw [len_nV hp] at this
          omega
        rw [if_neg e2] at est
        refine q_fldM (i_op (ap (rf rv ed1 T.c_Desk T.nDesk_prices (lDesk_prices ..)) (i_lst (i_cons (m_Price (s1 _ _ ht) (v1 := .int zd) (v2 := .int zi) (v3 := .int zp) rfl rfl rfl (ra1 rv ra0) fun p dp H2 s2 np hp1 => ⟨sz1, fun l1 hl1 => ?_⟩)))))
        have s3 : Same H (upd H2 l1 (.lst [.ref p])) := (s1.trans s2).trans (Same.new hl1)
        refine ⟨lp, l1, _, _, rfl, rfl, s3 _ _ el, upd_same, by rw [List.length_map, Paired.length hp, sizeLine_eq, List.length_cons, List.length_nil]; omega, fun l2 hl2 => ?_⟩
        have s4 : Same H (upd (upd H2 l1 (.lst [.ref p])) l2 (.lst (ps.map V.ref ++ [.ref p]))) := s3.trans (Same.new hl2)
        have hp4 : IsPrice a (upd (upd H2 l1 (.lst [.ref p])) l2 (.lst (ps.map V.ref ++ [.ref p]))) p { day := zd.toNat, sec := zi.toNat, price := zp.toNat } := by
          have q : Same H2 (upd (upd H2 l1 (.lst [.ref p])) l2 (.lst (ps.map V.ref ++ [.ref p]))) := Same.trans (Same.new hl1) (Same.new hl2)
          refine ⟨dp, ?_⟩
          have ez1 : ((zd.toNat : Nat) : Int) = zd := by omega
          have ez2 : ((zi.toNat : Nat) : Int) = zi := by omega
          have ez3 : ((zp.toNat : Nat) : Int) = zp := by omega
          show _ = some (HO.ins a.Price dp (fPrice (.int ((zd.toNat : Nat) : Int)) (.int ((zi.toNat : Nat) : Int)) (.int ((zp.toNat : Nat) : Int))))
          rw [ez1, ez2, ez3]
          exact q _ _ hp1
        have hl4 : LOf (upd (upd H2 l1 (.lst [.ref p])) l2 (.lst (ps.map V.ref ++ [.ref p]))) l2 (IsPrice a (upd (upd H2 l1 (.lst [.ref p])) l2 (.lst (ps.map V.ref ++ [.ref p])))) (s.prices ++ [{ day := zd.toNat, sec := zi.toNat, price := zp.toNat }]) :=
          ⟨ps ++ [p], by rw [upd_same, List.map_append]; rfl, paired_snoc (L2.Paired.mapP hp fun _ _ q => q.same s4) hp4⟩
        generalize upd (upd H2 l1 (.lst [.ref p])) l2 (.lst (ps.map V.ref ++ [.ref p])) = H4 at s4 hl4 hp4
        have ed4 := s4 _ _ ed
        refine fl (fs' := fDesk (nV s.today) (.ref lt) (.ref la) (.ref l2)) rv ed4 T.c_Desk T.nDesk_prices (show 4 < 1000 by decide) (pDesk_prices ..) ?_
        refine s_re (e_lst (ra1 rc ra0) sz1 (fin2 kk (s' := { s with prices := s.prices ++ [{ day := zd.toNat, sec := zi.toNat, price := zp.toNat }] }) (ans := [0]) est ((Fr.of s4).trans Fr.upd) (AnK.upd (own1 ed) (own2 ed) (.inr (s3.free hl2))) ⟨dx, lt, la, l2, upd_same, up_t (lof_t h1 s4) ed4, up_a (lof_a h2 s4) ed4, up_p hl4 ed4⟩ rfl))
end
def sp_tell (K : PySem.W.Frag) (a : Ad) : Sp := fun vs H Q E => ∃ (c : Nat) (d t : Addr), vs = [.ref d, .int (c : Int), .ref t] ∧ c < 10 ∧ spC c a [.ref d, .ref t] H Q E0
section
variable {P : Program} {w : World} {K : PySem.W.Frag} {mg : Str → Option Value} {base : Heap} {a : Ad}
theorem ok_tell {f : Addr} {fd : FuncData} (F : Fun K "tell" "tell" s_tell f fd) (T : Txt K mg a) (DT : ∀ c : Nat, c < 10 → ∃ v, MGet P w K a.TELLINGS (.int (c : Int)) v ∧ Fv P w K mg base 9 v ["desk", "told"] (spC c a)) : FnOk P w K mg base CX0 10 f fd ["desk", "call", "told"] (sp_tell K a) := by
  refine F.ok sc_tell (fun vs H Q E h => ?_) (fun cdv A outer s H vs Q E hr h => ?_)
  · obtain ⟨c, d, t, rfl, _⟩ := h
    rfl
  · obtain ⟨c, d, t, rfl, hc, k⟩ := h
    obtain ⟨v, g, fv⟩ := DT c hc
    refine ⟨_, (pss_one (ps_ret (pe_fv (ps := ["desk", "told"]) (pe_mget (pgR T.d_TELLINGS) (pv 1) (fun _ _ => rfl)) (hr.mono (by decide : 9 ≤ _)) (pa_cons (pv 0) (pa_cons (pv 2) pa_nil))))), ?_⟩
    exact s_re (i_fv (ap (rmg rc rv g) ⟨spC c a, fv, ap2 (ra1 rv (ra1 rv ra0)) k⟩))
end
end Hd
namespace L2
open PySem PySem.Spec PyProof.Rows
section
variable {K : PySem.W.Frag} {σ : St} {H : Hp} {ta tb tc te : TE} {t : TA} {v : V} {u : TS} {D : Ends} {Q : VK}
theorem i_fld {f : Str} (h : ta σ H fun x H1 => ∃ a C dx fs v, x = .ref a ∧ H1 a = some (.ins C dx fs) ∧ Cls K C ∧ NoAttr K C f ∧ fs.lookup f = some v ∧ Q v H1) : tFld K ta f σ H Q := h
theorem i_sl {r : V → Option Int → Option Int → Hp → VK → Prop} {tl th : TO} (h : te σ H fun x H1 => tl σ H1 fun l H2 => th σ H2 fun u H3 => r x l u H3 Q) : tSl r te tl th σ H Q := h
theorem e_bmL {l : Addr} {xs : List V} {r : V → List V → Hp → VK → Prop} (ho : Rv ta σ H (.ref l)) (hl : H l = some (.lst xs)) (h : t σ H fun xs H2 => r (.ref l) xs H2 Q) : tBM K "list" r ta t σ H Q := ho _ ⟨.inl ⟨rfl, _, SqL.of hl⟩, h⟩
end
theorem cut1 {v : V} {xs : List V} : cutV (v :: xs) (some 1) none = xs := by
  unfold cutV
  have e1 : HT.sIx (v :: xs).length 0 (some 1) = 1 := by
    have := HT.sIx_nat (v :: xs).length 0 1
    rw [List.length_cons] at this ⊢
    rw [show ((1 : Int)) = ((1 : Nat) : Int) from rfl, this]
    omega
  rw [e1]
  show (xs.take ((v :: xs).length - 1)) = xs
  rw [List.length_cons, Nat.add_sub_cancel, List.take_length]
end L2
namespace Hd
open PySem PySem.Spec PyProof.Rows L2
open Vbfuah (Action Trade Price Book State effect acted paid traded dayDone days emptyBook at_ addAt sound soundFrom worth priceAt newAction doAction dueRow bookAt)
def sp_book_on (K : PySem.W.Frag) (a : Ad) : Sp := fun vs H Q _ => ∃ (d : Addr) (z : Int) (s : State), vs = [.ref d, .int z] ∧ IsDesk a H d s ∧ SInv s ∧ ∀ H' b, BookOn a H H' b (bookTo s z) → Q (.ref b) H'
def sp_due_numbers (K : PySem.W.Frag) (a : Ad) : Sp := fun vs H Q _ => ∃ (p : Addr) (x : Vbfuah.Due), vs = [.ref p] ∧ IsDue a H p x ∧ ∀ l, H l = none → Q (.ref l) (upd H l (.lst ((dueRow x).map V.int)))
theorem bookTo_stt (s : State) (z : Int) : bookTo (stt s.trades s.actions) z = bookTo s z := bookTo_congr rfl rfl z
theorem sound_stt (s : State) : sound (stt s.trades s.actions) = sound s := sound_congr rfl rfl
section
variable {P : Program} {w : World} {K : PySem.W.Frag} {mg : Str → Option Value} {base : Heap} {a : Ad} {σ : L2.St} {H : Hp} {Q : VK} {t : TA}
theorem ok_book_on {f : Addr} {fd : FuncData} (F : Fun K "book_on" "book_on" s_book_on f fd) (T : Txt K mg a) (U_book_of_evening : Use P w K mg base 7 "book_of_evening" ["trades", "actions", "evening"] (sp_book_of_evening K a)) : FnOk P w K mg base CX0 8 f fd ["desk", "day"] (sp_book_on K a) := by
  refine F.ok sc_book_on (fun vs H Q E h => ?_) (fun cdv A outer s H vs Q E hr h => ?_)
  · obtain ⟨d, z, s, rfl, _⟩ := h
    rfl
  · obtain ⟨d, z, s, rfl, hd, I, kk⟩ := h
    refine ⟨_, (pss_one (ps_ret (pu U_book_of_evening (hr.mono (by decide)) (pa_cons (pe_fld (pv 0) rfl) (pa_cons (pe_fld (pv 0) rfl) (pa_cons (pv 1) pa_nil)))))), ?_⟩
    obtain ⟨dx, lt, la, lp, ed, h1, h2, h3⟩ := hd
    have al := I.al
    have tl := I.tl
    refine s_re (c_call (ra1 (rf rv ed T.c_Desk T.nDesk_trades (lDesk_trades ..)) (ra1 (rf rv ed T.c_Desk T.nDesk_actions (lDesk_actions ..)) (ra1 rv ra0))) ⟨lt, la, z, s.trades, s.actions, rfl, ⟨h1, h2, I.tw, I.aw, by omega, by omega⟩, (sound_stt s).trans I.so, fun H' b hB => kk H' b ?_⟩)
    rw [bookTo_stt] at hB
    exact hB
theorem ok_due_numbers {f : Addr} {fd : FuncData} (F : Fun K "due_numbers" "due_numbers" s_due_numbers f fd) (T : Txt K mg a) : FnOk P w K mg base CX0 1 f fd ["due"] (sp_due_numbers K a) := by
  refine F.ok sc_due_numbers (fun vs H Q E h => ?_) (fun cdv A outer s H vs Q E hr h => ?_)
  · obtain ⟨p, x, rfl, _⟩ := h
    rfl
  · obtain ⟨p, x, rfl, ⟨dx, hp⟩, kk⟩ := h
    refine ⟨_, (pss_one (ps_ret (pe_lst (pa_cons (pe_fld (pv 0) rfl) (pa_cons (pe_fld (pv 0) rfl) (pa_cons (pe_fld (pv 0) rfl) (pa_cons (pe_fld (pv 0) rfl) pa_nil))))))), ?_⟩
    exact s_re (e_lst (ra1 (rf rv hp T.c_Due T.nDue_pay (lDue_pay ..)) (ra1 (rf rv hp T.c_Due T.nDue_cash (lDue_cash ..)) (ra1 (rf rv hp T.c_Due T.nDue_thing (lDue_thing ..)) (ra1 (rf rv hp T.c_Due T.nDue_quantity (lDue_quantity ..)) ra0)))) (show 4 ≤ sizeLine by decide) kk)
theorem ok_ask_position {f : Addr} {fd : FuncData} (F : Fun K "ask_position" "ask_position" s_ask_position f fd) (T : Txt K mg a) (U_book_on : Use P w K mg base 8 "book_on" ["desk", "day"] (sp_book_on K a)) : FnOk P w K mg base CX0 9 f fd ["desk", "told"] (sp_ask_position K a) := by
  refine F.ok sc_ask_position (fun vs H Q E h => ?_) (fun cdv A outer s H vs Q E hr h => ?_)
  · obtain ⟨d, t, s, xs, R, rfl, _⟩ := h
    rfl
  · obtain ⟨d, t, s, xs, R, rfl, hd, I, ht, hR, hx, hin, kk⟩ := h
    cases hR
    match xs, hx with
    | [zd, zi], _ =>
      refine ⟨_, (pss_one (ps_ret (pe_lst (pa_cons (pe_ix ix_list (pe_fld (pu U_book_on (hr.mono (by decide)) (pa_cons (pv 0) (pa_cons (pe_dget (hu_of hr) (pv 1) pe_str (fun _ _ => rfl)) pa_nil))) rfl) (pe_dget (hu_of hr) (pv 1) pe_str (fun _ _ => rfl)) (fun _ _ => rfl)) pa_nil)))), ?_⟩
      have hz := in_position.mp hin
      have est : stp s [((10 : Nat) : Int) :: [zd, zi]] = _ := st_position hin
      refine s_re (i_lst (i_cons (i_op (i_fld (c_call (ra1 rv (ra1 (rdg rv rc (v := .int zd) (gt ht rfl)) ra0)) ⟨d, zd, s, rfl, hd, I, fun H1 b hB => ?_⟩)))))
      obtain ⟨q, l, r⟩ := hB
      obtain ⟨dx, hb⟩ := r.ob
      have ok := bookTo_ok I.aw zd
      refine ⟨b, a.Book, dx, _, _, rfl, hb, T.c_Book, T.nBook_quantities, lBook_quantities .., ap (rdg rv rc (v := .int zi) (gt (r.sm _ _ ht) rfl)) ⟨q, _, zi, .int ((0 :: (bookTo s zd).pos).getD zi.toNat 0), rfl, rfl, SqL.of r.qq, ?_, sz1, fin2 kk (s' := s) (ans := [at_ (bookTo s zd).pos zi.toNat]) ?_ (Fr.of r.sm) (AnK.of hd r.sm) (hd.same r.sm) ?_⟩⟩
      · have ei : zi = ((zi.toNat : Nat) : Int) := by omega
        have := at_int (qs := 0 :: (bookTo s zd).pos) (n := zi.toNat) (by rw [List.length_cons, ok.len]; omega)
        rw [← ei] at this
        exact this
      · rw [est, ← bookTo_at, Int.toNat_of_nonneg (show 0 ≤ zd by omega)]
        rfl
      · rw [at_full]
        rfl
theorem ok_ask_positions {f : Addr} {fd : FuncData} (F : Fun K "ask_positions" "ask_positions" s_ask_positions f fd) (T : Txt K mg a) (U_book_on : Use P w K mg base 8 "book_on" ["desk", "day"] (sp_book_on K a)) : FnOk P w K mg base CX0 9 f fd ["desk", "told"] (sp_ask_positions K a) := by
  refine F.ok sc_ask_positions (fun vs H Q E h => ?_) (fun cdv A outer s H vs Q E hr h => ?_)
  · obtain ⟨d, t, s, xs, R, rfl, _⟩ := h
    rfl
  · obtain ⟨d, t, s, xs, R, rfl, hd, I, ht, hR, hx, hin, kk⟩ := h
    cases hR
    match xs, hx with
    | [zd], _ =>
      refine ⟨_, (pss_one (ps_ret (pe_slice sl_list (pe_fld (pu U_book_on (hr.mono (by decide)) (pa_cons (pv 0) (pa_cons (pe_dget (hu_of hr) (pv 1) pe_str (fun _ _ => rfl)) pa_nil))) rfl) (po_some pe_int) po_none))), ?_⟩
      have hz := in_positions.mp hin
      have est : stp s [((11 : Nat) : Int) :: [zd]] = _ := st_positions hin
      refine s_re (i_sl (i_fld (c_call (ra1 rv (ra1 (rdg rv rc (v := .int zd) (gt ht rfl)) ra0)) ⟨d, zd, s, rfl, hd, I, fun H1 b hB => ?_⟩)))
      obtain ⟨q, l, r⟩ := hB
      obtain ⟨dx, hb⟩ := r.ob
      refine ⟨b, a.Book, dx, _, _, rfl, hb, T.c_Book, T.nBook_quantities, lBook_quantities .., 1, rfl, q, _, rfl, SqL.of r.qq, ?_⟩
      rw [List.map_cons, cut1]
      refine fin2 kk (s' := s) (ans := (bookTo s zd).pos) ?_ (Fr.of r.sm) (AnK.of hd r.sm) (hd.same r.sm) rfl
      rw [est, ← bookTo_at, Int.toNat_of_nonneg (show 0 ≤ zd by omega)]
      rfl
theorem ok_ask_cash {f : Addr} {fd : FuncData} (F : Fun K "ask_cash" "ask_cash" s_ask_cash f fd) (T : Txt K mg a) (U_book_on : Use P w K mg base 8 "book_on" ["desk", "day"] (sp_book_on K a)) : FnOk P w K mg base CX0 9 f fd ["desk", "told"] (sp_ask_cash K a) := by
  refine F.ok sc_ask_cash (fun vs H Q E h => ?_) (fun cdv A outer s H vs Q E hr h => ?_)
  · obtain ⟨d, t, s, xs, R, rfl, _⟩ := h
    rfl
  · obtain ⟨d, t, s, xs, R, rfl, hd, I, ht, hR, hx, hin, kk⟩ := h
    cases hR
    match xs, hx with
    | [zd], _ =>
      refine ⟨_, (pss_one (ps_ret (pe_lst (pa_cons pe_int (pa_cons (pe_fld (pu U_book_on (hr.mono (by decide)) (pa_cons (pv 0) (pa_cons (pe_dget (hu_of hr) (pv 1) pe_str (fun _ _ => rfl)) pa_nil))) rfl) pa_nil))))), ?_⟩
      have hz := in_cash.mp hin
      have est : stp s [((12 : Nat) : Int) :: [zd]] = _ := st_cash hin
      refine s_re (i_lst (i_cons (ap rc (i_cons (i_fld (c_call (ra1 rv (ra1 (rdg rv rc (v := .int zd) (gt ht rfl)) ra0)) ⟨d, zd, s, rfl, hd, I, fun H1 b hB => ?_⟩))))))
      obtain ⟨q, l, r⟩ := hB
      obtain ⟨dx, hb⟩ := r.ob
      refine ⟨b, a.Book, dx, _, _, rfl, hb, T.c_Book, T.nBook_cash, lBook_cash .., show 2 ≤ sizeLine by decide, fin2 kk (s' := s) (ans := [0, (bookTo s zd).cash]) ?_ (Fr.of r.sm) (AnK.of hd r.sm) (hd.same r.sm) rfl⟩
      rw [est, ← bookTo_at, Int.toNat_of_nonneg (show 0 ≤ zd by omega)]
      rfl
theorem ok_ask_due {f : Addr} {fd : FuncData} (F : Fun K "ask_due" "ask_due" s_ask_due f fd) (T : Txt K mg a) (U_book_on : Use P w K mg base 8 "book_on" ["desk", "day"] (sp_book_on K a)) (U_due_numbers : Use P w K mg base 1 "due_numbers" ["due"] (sp_due_numbers K a)) : FnOk P w K mg base CX0 9 f fd ["desk", "told"] (sp_ask_due K a) := by
  refine F.ok sc_ask_due (fun vs H Q E h => ?_) (fun cdv A outer s H vs Q E hr h => ?_)
  · obtain ⟨d, t, s, xs, R, rfl, _⟩ := h
    rfl
  · obtain ⟨d, t, s, xs, R, rfl, hd, I, ht, hR, hx, hin, kk⟩ := h
    cases hR
    match xs, hx with
    | [zd], _ =>
      refine ⟨_, (pss_cons (ps_set (i := 2) sc_ask_due.nd rfl (Or.inl rfl) (pe_fld (pu U_book_on (hr.mono (by decide)) (pa_cons (pv 0) (pa_cons (pe_dget (hu_of hr) (pv 1) pe_str (fun _ _ => rfl)) pa_nil))) rfl))
      (pss_cons (ps_set (i := 3) sc_ask_due.nd rfl (Or.inl rfl) (pe_lst (pa_cons (pe_callB call_len_seq rfl T.b_len PySem.boot_len (pa_cons (pv 2) pa_nil)) pa_nil)))
      (pss_cons (ps_for PassesOwn.never rfl (pi_list (pv 2)) (pg_name (i := 4) sc_ask_due.nd rfl (Or.inl rfl)) (pss_one (ps_expr (pe_bm PySem.F.plainAttrs_list PySem.F.slot_list_extend PySem.F.type_list_extend mt_extend (pv 3) (pa_cons (pu U_due_numbers (hr.mono (by decide)) (pa_cons (pv 4) pa_nil)) pa_nil)))))
      (pss_one (ps_ret (pv 3)))))), ?_⟩
      have hz := in_due.mp hin
      have est : stp s [((13 : Nat) : Int) :: [zd]] = _ := st_due hin
      refine q_let (i_fld (c_call (ra1 rv (ra1 (rdg rv rc (v := .int zd) (gt ht rfl)) ra0)) ⟨d, zd, s, rfl, hd, I, fun H1 b hB => ?_⟩))
      obtain ⟨q, l, r⟩ := hB
      obtain ⟨dx, hb⟩ := r.ob
      obtain ⟨ps, hl, hps⟩ := r.ll
      have dlen : (bookTo s zd).due.length ≤ 4800 := by
        have h1 := bookTo_due s zd
        have h3 : s.actions.length * (s.trades.length + (s.actions.length + s.actions.length)) ≤ 30 * 160 := Nat.mul_le_mul I.al (by have := I.tl; have := I.al; omega)
        omega
      have flen : ∀ l : List Vbfuah.Due, (l.flatMap dueRow).length = 4 * l.length := fun l => by
        induction l with
        | nil => rfl
        | cons x l ih =>
          rw [List.flatMap_cons, List.length_append, ih, List.length_cons]
          show 4 + _ = _
          omega
      refine ⟨b, a.Book, dx, _, _, rfl, hb, T.c_Book, T.nBook_dues, lBook_dues .., ?_⟩
      refine q_let (e_lst (ra1 (r_len (ra1 rv ra0) hl) ra0) sz1 fun an han => ?_)
      rw [len_nV hps]
      have s1 : Same H1 (upd H1 an (.lst [.int ((bookTo s zd).due.length : Int)])) := Same.new han
      refine q_for (xs := ps.map V.ref) rv (s1 _ _ hl) (fun i σ' H' => ∃ v4 : Option V, σ' = [some (.ref d), some (.ref t), some (.ref l), some (.ref an), v4] ∧ Same H1 H' ∧ H' an = some (.lst ((((bookTo s zd).due.length : Int) :: ((bookTo s zd).due.take i).flatMap dueRow).map V.int))) ⟨none, rfl, s1, upd_same⟩ (fun i σ' H' p => let ⟨_, _, e, _⟩ := p; e _ _ hl) ?_ ?_
      · rintro i v σ' H' D' eN eR hi ⟨v4, rfl, q1, q2⟩
        obtain ⟨c, x, rfl, hx', hT⟩ := pair_at hps hi
        refine s_do (e_bmL rv q2 (i_cons (c_call (ra1 rv ra0) ⟨c, x, rfl, hT.same q1, fun l2 hl2 => ⟨an, l2, (((bookTo s zd).due.length : Int) :: ((bookTo s zd).due.take i).flatMap dueRow).map V.int, _, rfl, rfl, ?_, upd_same, ?_, ?_⟩⟩)))
        · rw [upd_ne (ne_of_none q2 hl2)]; exact q2
        · rw [List.length_map, List.length_cons, flen, List.length_take, List.length_map, sizeLine_eq]
          show _ + 4 ≤ _
          omega
        · rw [eN]
          refine ⟨some (.ref c), rfl, Same.put (q1.trans (Same.new hl2)) han, ?_⟩
          rw [upd_same, take_snoc hx', List.flatMap_append, ← List.map_append]
          simp
      · rintro σ' H' ⟨v4, rfl, q1, q2⟩
        rw [List.length_map, Paired.length hps, List.take_length] at q2
        refine s_ret rv ?_
        have ee : stp s [((13 : Nat) : Int) :: [zd]] = (s, ((bookTo s zd).due.length : Int) :: (bookTo s zd).due.flatMap dueRow) := by
          rw [est, ← bookTo_at, Int.toNat_of_nonneg (show 0 ≤ zd by omega)]
          rfl
        rw [ee] at kk
        exact kk H' an (r.sm.free han) (Fr.of (r.sm.trans q1)) (AnK.of hd (r.sm.trans q1)) (hd.same (r.sm.trans q1)) q2
theorem ok_ask_value {f : Addr} {fd : FuncData} (F : Fun K "ask_value" "ask_value" s_ask_value f fd) (T : Txt K mg a) (U_value_of_book : Use P w K mg base 2 "value_of_book" ["book", "prices", "evening"] (sp_value_of_book K a)) (U_book_on : Use P w K mg base 8 "book_on" ["desk", "day"] (sp_book_on K a)) : FnOk P w K mg base CX0 9 f fd ["desk", "told"] (sp_ask_value K a) := by
  refine F.ok sc_ask_value (fun vs H Q E h => ?_) (fun cdv A outer s H vs Q E hr h => ?_)
  · obtain ⟨d, t, s, xs, R, rfl, _⟩ := h
    rfl
  · obtain ⟨d, t, s, xs, R, rfl, hd, I, ht, hR, hx, hin, kk⟩ := h
    cases hR
    match xs, hx with
    | [zd], _ =>
      refine ⟨_, (pss_cons (ps_set (i := 2) sc_ask_value.nd rfl (Or.inl rfl) (pe_dget (hu_of hr) (pv 1) pe_str (fun _ _ => rfl)))
      (pss_one (ps_ret (pe_lst (pa_cons pe_int (pa_cons (pu U_value_of_book (hr.mono (by decide)) (pa_cons (pu U_book_on (hr.mono (by decide)) (pa_cons (pv 0) (pa_cons (pv 2) pa_nil))) (pa_cons (pe_fld (pv 0) rfl) (pa_cons (pv 2) pa_nil)))) pa_nil)))))), ?_⟩
      have hz := in_value.mp hin
      have est : stp s [((14 : Nat) : Int) :: [zd]] = _ := st_value hin
      obtain ⟨dx, lt, la, lp, ed, h1, h2, h3⟩ := id hd
      have ez : zd = ((zd.toNat : Nat) : Int) := by omega
      refine q_set (rdg rv rc (v := .int zd) (gt ht rfl)) rfl ?_
      refine s_re (i_lst (i_cons (ap rc (i_cons (i_call (i_cons (c_call (ra1 rv (ra1 rv ra0)) ⟨d, zd, s, rfl, hd, I, fun H1 b hB => ?_⟩)))))))
      obtain ⟨q, l, r⟩ := id hB
      refine i_cons (ap (rf rv (r.sm _ _ ed) T.c_Desk T.nDesk_prices (lDesk_prices ..)) (i_cons (ap rv ⟨b, lp, zd.toNat, H, _, s, ?_, hB, bookTo_ok I.aw zd, lof_p h3 r.sm, I.pw, I.pu, fun H2 s2 => ⟨show 2 ≤ sizeLine by decide, fin2 kk (s' := s) (ans := [0, worth (priceAt s zd.toNat) (bookTo s zd)]) ?_ (Fr.of (r.sm.trans s2)) (AnK.of hd (r.sm.trans s2)) (hd.same (r.sm.trans s2)) rfl⟩⟩)))
      · show [V.ref b, V.ref lp, V.int zd] = [V.ref b, V.ref lp, V.int ((zd.toNat : Nat) : Int)]
        rw [← ez]
      · rw [est]
        unfold Vbfuah.valueAt
        rw [← bookTo_at, ← ez]
        rfl
theorem ok_ask_entitled {f : Addr} {fd : FuncData} (F : Fun K "ask_entitled" "ask_entitled" s_ask_entitled f fd) (T : Txt K mg a) (U_entitlement : Use P w K mg base 4 "entitlement" ["action", "held"] (sp_entitlement K a)) (U_due_numbers : Use P w K mg base 1 "due_numbers" ["due"] (sp_due_numbers K a)) (U_book_on : Use P w K mg base 8 "book_on" ["desk", "day"] (sp_book_on K a)) : FnOk P w K mg base CX0 9 f fd ["desk", "told"] (sp_ask_entitled K a) := by
  refine F.ok sc_ask_entitled (fun vs H Q E h => ?_) (fun cdv A outer s H vs Q E hr h => ?_)
  · obtain ⟨d, t, s, xs, R, rfl, _⟩ := h
    rfl
  · obtain ⟨d, t, s, xs, R, rfl, hd, I, ht, hR, hx, hin, kk⟩ := h
    cases hR
    match xs, hx with
    | [zn], _ =>
      refine ⟨_, (pss_cons (ps_set (i := 2) sc_ask_entitled.nd rfl (Or.inl rfl) (pe_dget (hu_of hr) (pv 1) pe_str (fun _ _ => rfl)))
      (pss_cons (ps_if (pt_cmpR op_gt (pv 2) (pe_callB call_len_seq rfl T.b_len PySem.boot_len (pa_cons (pe_fld (pv 0) rfl) pa_nil)) (nomark _)) (pss_one (ps_ret (pe_lst (pa_cons (pgI T.g_NOT_THERE) pa_nil)))) pss_nil)
      (pss_cons (ps_set (i := 3) sc_ask_entitled.nd rfl (Or.inl rfl) (pe_ix ix_list (pe_fld (pv 0) rfl) (pe_op op_sub (pv 2) pe_int) (fun _ _ => rfl)))
      (pss_cons (ps_set (i := 4) sc_ask_entitled.nd rfl (Or.inl rfl) (pe_ix ix_list (pe_fld (pu U_book_on (hr.mono (by decide)) (pa_cons (pv 0) (pa_cons (pe_op op_sub (pe_fld (pv 3) rfl) pe_int) pa_nil))) rfl) (pe_fld (pv 3) rfl) (fun _ _ => rfl)))
      (pss_cons (ps_set (i := 5) sc_ask_entitled.nd rfl (Or.inl rfl) (pu U_entitlement (hr.mono (by decide)) (pa_cons (pv 3) (pa_cons (pv 4) pa_nil))))
      (pss_one (ps_ret (pe_op op_cat (pe_lst (pa_cons (pe_fld (pv 5) rfl) (pa_cons (pe_fld (pv 5) rfl) (pa_cons (pe_fld (pv 5) rfl) pa_nil)))) (pu U_due_numbers (hr.mono (by decide)) (pa_cons (pe_fld (pv 5) rfl) pa_nil)))))))))), ?_⟩
      have hz := in_entitled.mp hin
      have est : stp s [((15 : Nat) : Int) :: [zn]] = _ := st_entitled I hin
      obtain ⟨dx, lt, la, lp, ed, h1, ⟨ps, el, hp⟩, h3⟩ := id hd
      refine q_set (rdg rv rc (v := .int zn) (gt ht rfl)) rfl ?_
      refine q_ifr (tt (r0 rv (r_len (ra1 (rf rv ed T.c_Desk T.nDesk_actions (lDesk_actions ..)) ra0) el))) (fun e => ?_) fun e1 => ?_
      · refine e_lst (ra1 rc ra0) sz1 (fin kk (ans := [-4]) ?_ hd rfl)
        have e0 := of_decide_eq_true e
        rw [len_nV hp] at e0
        rw [est, List.getElem?_eq_none (by omega)]
        rfl
      have e1 : zn ≤ (s.actions.length : Int) := by
        have := of_decide_eq_false e1
        rw [len_nV hp] at this
        omega
      have hlt : (zn - 1).toNat < s.actions.length := by omega
      obtain ⟨x, hx⟩ : ∃ x, s.actions[(zn - 1).toNat]? = some x := ⟨_, List.getElem?_eq_getElem hlt⟩
      have hlp : (zn - 1).toNat < ps.length := by rw [Paired.length hp]; exact hlt
      obtain ⟨p, hpp⟩ : ∃ p, ps[(zn - 1).toNat]? = some p := ⟨_, List.getElem?_eq_getElem hlp⟩
      obtain ⟨x', hx', hA⟩ := paired_get hp hpp
      rw [hx] at hx'
      cases hx'
      rw [hx] at est
      dsimp only at est
      have wf := I.aw x (List.mem_of_getElem? hx)
      have hsec := wf.sec
      obtain ⟨dp, tp, ep, etp⟩ := id hA
      have en : zn - 1 = (((zn - 1).toNat : Nat) : Int) := by omega
      have hat : atI (ps.map V.ref) (zn - 1) = some (.ref p) := by
        rw [en]
        exact atI_nat (by rw [List.getElem?_map, hpp]; rfl)
      refine q_set (rix (rf rv ed T.c_Desk T.nDesk_actions (lDesk_actions ..)) (r0 rv rc) (SqL.of el) hat) rfl ?_
      refine q_let (i_op (i_fld (c_call (ra1 rv (ra1 (r0 (rf rv ep T.c_Action T.nAction_ex (lAction_ex ..)) rc) ra0)) ⟨d, _, s, rfl, hd, I, fun H1 b hB => ?_⟩)))
      obtain ⟨q, l, r⟩ := hB
      obtain ⟨db, hb⟩ := r.ob
      have ok := bookTo_ok I.aw ((x.ex : Int) - 1)
      have hf := fine_at (bookTo_fine I.so ((x.ex : Int) - 1)) x.sec
      obtain ⟨n, hn⟩ : ∃ n : Nat, at_ (bookTo s ((x.ex : Int) - 1)).pos x.sec = (n : Int) := ⟨(at_ (bookTo s ((x.ex : Int) - 1)).pos x.sec).toNat, by omega⟩
      have hat2 : atI ((0 :: (bookTo s ((x.ex : Int) - 1)).pos).map V.int) (x.sec : Int) = some (.int (n : Int)) := by
        rw [at_int (by rw [List.length_cons, ok.len]; omega), ← at_full, hn]
      refine ⟨b, a.Book, db, _, _, rfl, hb, T.c_Book, T.nBook_quantities, lBook_quantities .., ap (rf rv (r.sm _ _ ep) T.c_Action T.nAction_thing (lAction_thing ..)) ⟨q, _, _, _, rfl, rfl, SqL.of r.qq, hat2, ?_⟩⟩
      refine q_let (c_call (ra1 rv (ra1 rv ra0)) ⟨p, x, n, rfl, hA.same r.sm, wf, fun H2 e s2 hE => ?_⟩)
      obtain ⟨de, du, he, hdu⟩ := hE
      have s12 : Same H H2 := r.sm.trans s2
      refine s_re (i_op (e_lst (ra1 (rf rv he T.c_Entitlement T.nEntitlement_held (lEntitlement_held ..)) (ra1 (rf rv he T.c_Entitlement T.nEntitlement_change (lEntitlement_change ..)) (ra1 (rf rv he T.c_Entitlement T.nEntitlement_spun (lEntitlement_spun ..)) ra0))) (show 3 ≤ sizeLine by decide) fun l1 hl1 => ?_))
      have s3 : Same H2 (upd H2 l1 (.lst [.int (n : Int), .int (effect x n).own, nV (effect x n).other])) := Same.new hl1
      refine c_call (ra1 (rf rv (s3 _ _ he) T.c_Entitlement T.nEntitlement_due (lEntitlement_due ..)) ra0) ⟨du, _, rfl, hdu.same s3, fun l2 hl2 => ?_⟩
      refine ⟨l1, l2, [.int (n : Int), .int (effect x n).own, nV (effect x n).other], _, rfl, rfl, by rw [upd_ne (ne_of_none upd_same hl2)]; exact upd_same, upd_same, show 7 ≤ sizeLine by decide, ?_⟩
      have s4 : Same H (upd (upd H2 l1 (.lst [.int (n : Int), .int (effect x n).own, nV (effect x n).other])) l2 (.lst ((dueRow (effect x n).due).map V.int))) := (s12.trans s3).trans (Same.new hl2)
      refine fin2 kk (s' := s) (ans := [(n : Int), (effect x n).own, ((effect x n).other : Int)] ++ dueRow (effect x n).due) ?_ (Fr.of s4) (AnK.of hd s4) (hd.same s4) ?_
      · have hn' : (at_ (bookTo s ((x.ex : Int) - 1)).pos x.sec).toNat = n := by omega
        rw [est, ← bookTo_before, hn']
        rfl
      · rw [List.map_append]
        rfl
theorem ok_ask_action {f : Addr} {fd : FuncData} (F : Fun K "ask_action" "ask_action" s_ask_action f fd) (T : Txt K mg a) (U_first_price : Use P w K mg base 1 "first_price" ["action"] (sp_first_price K a)) (U_second_price : Use P w K mg base 1 "second_price" ["action"] (sp_second_price K a)) : FnOk P w K mg base CX0 2 f fd ["desk", "told"] (sp_ask_action K a) := by
  refine F.ok sc_ask_action (fun vs H Q E h => ?_) (fun cdv A outer s H vs Q E hr h => ?_)
  · obtain ⟨d, t, s, xs, R, rfl, _⟩ := h
    rfl
  · obtain ⟨d, t, s, xs, R, rfl, hd, I, ht, hR, hx, hin, kk⟩ := h
    cases hR
    match xs, hx with
    | [zn], _ =>
      refine ⟨_, (pss_cons (ps_set (i := 2) sc_ask_action.nd rfl (Or.inl rfl) (pe_dget (hu_of hr) (pv 1) pe_str (fun _ _ => rfl)))
      (pss_cons (ps_if (pt_cmpR op_gt (pv 2) (pe_callB call_len_seq rfl T.b_len PySem.boot_len (pa_cons (pe_fld (pv 0) rfl) pa_nil)) (nomark _)) (pss_one (ps_ret (pe_lst (pa_cons (pgI T.g_NOT_THERE) pa_nil)))) pss_nil)
      (pss_cons (ps_set (i := 3) sc_ask_action.nd rfl (Or.inl rfl) (pe_ix ix_list (pe_fld (pv 0) rfl) (pe_op op_sub (pv 2) pe_int) (fun _ _ => rfl)))
      (pss_cons (ps_set (i := 4) sc_ask_action.nd rfl (Or.inl rfl) (pe_lst (pa_cons (pe_fld (pv 3) rfl) (pa_cons (pe_fld (pv 3) rfl) (pa_cons (pe_fld (pv 3) rfl) pa_nil)))))
      (pss_cons (ps_set (i := 5) sc_ask_action.nd rfl (Or.inl rfl) (pe_lst (pa_cons (pe_fld (pv 3) rfl) (pa_cons (pe_fld (pv 3) rfl) (pa_cons (pu U_first_price (hr.mono (by decide)) (pa_cons (pv 3) pa_nil)) (pa_cons (pu U_second_price (hr.mono (by decide)) (pa_cons (pv 3) pa_nil)) (pa_cons (pe_fld (pv 3) rfl) pa_nil)))))))
      (pss_one (ps_ret (pe_op op_cat (pe_op op_cat (pe_lst (pa_cons (pe_fld (pv 3) rfl) (pa_cons (pe_fld (pv 3) rfl) (pa_cons (pe_fld (pv 3) rfl) pa_nil)))) (pv 4)) (pv 5))))))))), ?_⟩
      have hz := in_action.mp hin
      have est : stp s [((16 : Nat) : Int) :: [zn]] = _ := st_action I hin
      obtain ⟨dx, lt, la, lp, ed, h1, ⟨ps, el, hp⟩, h3⟩ := id hd
      refine q_set (rdg rv rc (v := .int zn) (gt ht rfl)) rfl ?_
      refine q_ifr (tt (r0 rv (r_len (ra1 (rf rv ed T.c_Desk T.nDesk_actions (lDesk_actions ..)) ra0) el))) (fun e => ?_) fun e1 => ?_
      · refine e_lst (ra1 rc ra0) sz1 (fin kk (ans := [-4]) ?_ hd rfl)
        have e0 := of_decide_eq_true e
        rw [len_nV hp] at e0
        rw [est, List.getElem?_eq_none (by omega)]
        rfl
      have e1 : zn ≤ (s.actions.length : Int) := by
        have := of_decide_eq_false e1
        rw [len_nV hp] at this
        omega
      have hlt : (zn - 1).toNat < s.actions.length := by omega
      obtain ⟨x, hx⟩ : ∃ x, s.actions[(zn - 1).toNat]? = some x := ⟨_, List.getElem?_eq_getElem hlt⟩
      have hlp : (zn - 1).toNat < ps.length := by rw [Paired.length hp]; exact hlt
      obtain ⟨p, hpp⟩ : ∃ p, ps[(zn - 1).toNat]? = some p := ⟨_, List.getElem?_eq_getElem hlp⟩
      obtain ⟨x', hx', hA⟩ := paired_get hp hpp
      rw [hx] at hx'
      cases hx'
      rw [hx] at est
      dsimp only at est
      have wf := I.aw x (List.mem_of_getElem? hx)
      obtain ⟨dp, tp, ep, etp⟩ := id hA
      have en : zn - 1 = (((zn - 1).toNat : Nat) : Int) := by omega
      have hat : atI (ps.map V.ref) (zn - 1) = some (.ref p) := by
        rw [en]
        exact atI_nat (by rw [List.getElem?_map, hpp]; rfl)
      refine q_set (rix (rf rv ed T.c_Desk T.nDesk_actions (lDesk_actions ..)) (r0 rv rc) (SqL.of el) hat) rfl ?_
      refine q_let (e_lst (ra1 (rf rv ep T.c_Action T.nAction_ex (lAction_ex ..)) (ra1 (rf rv ep T.c_Action T.nAction_pay (lAction_pay ..)) (ra1 (rf rv ep T.c_Action T.nAction_last (lAction_last ..)) ra0))) (show 3 ≤ sizeLine by decide) fun l1 hl1 => ?_)
      have s1 : Same H (upd H l1 (.lst [nV x.ex, nV x.pay, nV x.last])) := Same.new hl1
      have hA1 := hA.same s1
      have ep1 := s1 _ _ ep
      refine q_let (e_lst (ra1 (rf rv ep1 T.c_Action T.nAction_a (lAction_a ..)) (ra1 (rf rv ep1 T.c_Action T.nAction_b (lAction_b ..)) (ra1 (rcall (v := nV x.price) (ra1 rv ra0) fun Q q => ⟨p, x, rfl, hA1, wf, q⟩) (ra1 (rcall (v := nV x.sub) (ra1 rv ra0) fun Q q => ⟨p, x, rfl, hA1, wf, q⟩) (ra1 (rf rv ep1 T.c_Action T.nAction_choice (lAction_choice ..)) ra0))))) (show 5 ≤ sizeLine by decide) fun l2 hl2 => ?_)
      generalize hH2 : upd (upd H l1 (.lst [nV x.ex, nV x.pay, nV x.last])) l2 (.lst [nV x.a, nV x.b, nV x.price, nV x.sub, nV x.choice]) = H2
      have s2 : Same H H2 := by rw [← hH2]; exact s1.trans (Same.new hl2)
      have e21 : H2 l1 = some (.lst [nV x.ex, nV x.pay, nV x.last]) := by rw [← hH2, upd_ne (ne_of_none upd_same hl2)]; exact upd_same
      have e22 : H2 l2 = some (.lst [nV x.a, nV x.b, nV x.price, nV x.sub, nV x.choice]) := by rw [← hH2]; exact upd_same
      clear hH2
      have ep2 := s2 _ _ ep
      refine s_re (i_op (i_op (e_lst (ra1 (rf rv ep2 T.c_Action T.nAction_kind (lAction_kind ..)) (ra1 (rf rv ep2 T.c_Action T.nAction_thing (lAction_thing ..)) (ra1 (rf rv ep2 T.c_Action T.nAction_other (lAction_other ..)) ra0))) (show 3 ≤ sizeLine by decide) fun l3 hl3 => ap rv ?_)))
      have s3 : Same H2 (upd H2 l3 (.lst [nV x.kind, nV x.sec, nV x.dest])) := Same.new hl3
      refine ⟨l3, l1, _, _, rfl, rfl, upd_same, s3 _ _ e21, show 6 ≤ sizeLine by decide, fun l4 hl4 => ap rv ?_⟩
      have s4 : Same (upd H2 l3 (.lst [nV x.kind, nV x.sec, nV x.dest])) (upd (upd H2 l3 (.lst [nV x.kind, nV x.sec, nV x.dest])) l4 (.lst ([nV x.kind, nV x.sec, nV x.dest] ++ [nV x.ex, nV x.pay, nV x.last]))) := Same.new hl4
      refine ⟨l4, l2, _, _, rfl, rfl, upd_same, s4 _ _ (s3 _ _ e22), show 11 ≤ sizeLine by decide, ?_⟩
      have s5 := (s2.trans s3).trans s4
      exact fin2 kk (s' := s) (ans := [(x.kind : Int), (x.sec : Int), (x.dest : Int), (x.ex : Int), (x.pay : Int), (x.last : Int), (x.a : Int), (x.b : Int), (x.price : Int), (x.sub : Int), (x.choice : Int)]) est (Fr.of s5) (AnK.of hd s5) (hd.same s5) rfl
theorem ok_ask_counts {f : Addr} {fd : FuncData} (F : Fun K "ask_counts" "ask_counts" s_ask_counts f fd) (T : Txt K mg a) : FnOk P w K mg base CX0 1 f fd ["desk", "told"] (sp_ask_counts K a) := by
  refine F.ok sc_ask_counts (fun vs H Q E h => ?_) (fun cdv A outer s H vs Q E hr h => ?_)
  · obtain ⟨d, t, s, xs, R, rfl, _⟩ := h
    rfl
  · obtain ⟨d, t, s, xs, R, rfl, hd, I, ht, hR, hx, hin, kk⟩ := h
    cases hR
    match xs, hx with
    | [], _ =>
      refine ⟨_, (pss_one (ps_ret (pe_lst (pa_cons (pe_fld (pv 0) rfl) (pa_cons (pe_callB call_len_seq rfl T.b_len PySem.boot_len (pa_cons (pe_fld (pv 0) rfl) pa_nil)) (pa_cons (pe_callB call_len_seq rfl T.b_len PySem.boot_len (pa_cons (pe_fld (pv 0) rfl) pa_nil)) (pa_cons (pe_callB call_len_seq rfl T.b_len PySem.boot_len (pa_cons (pe_fld (pv 0) rfl) pa_nil)) pa_nil))))))), ?_⟩
      obtain ⟨dx, lt, la, lp, ed, ⟨p1, e1, h1⟩, ⟨p2, e2, h2⟩, ⟨p3, e3, h3⟩⟩ := id hd
      refine s_re (e_lst (ra1 (rf rv ed T.c_Desk T.nDesk_today (lDesk_today ..)) (ra1 (r_len (ra1 (rf rv ed T.c_Desk T.nDesk_trades (lDesk_trades ..)) ra0) e1) (ra1 (r_len (ra1 (rf rv ed T.c_Desk T.nDesk_actions (lDesk_actions ..)) ra0) e2) (ra1 (r_len (ra1 (rf rv ed T.c_Desk T.nDesk_prices (lDesk_prices ..)) ra0) e3) ra0)))) (show 4 ≤ sizeLine by decide) (fin kk (ans := [(s.today : Int), (s.trades.length : Int), (s.actions.length : Int), (s.prices.length : Int)]) rfl hd ?_))
      rw [len_nV h1, len_nV h2, len_nV h3]
      rfl
end
def sp_ask (K : PySem.W.Frag) (a : Ad) : Sp := fun vs H Q E => ∃ (c : Nat) (d t : Addr), vs = [.ref d, .int (c : Int), .ref t] ∧ 10 ≤ c ∧ c < 18 ∧ spC c a [.ref d, .ref t] H Q E0
section
variable {P : Program} {w : World} {K : PySem.W.Frag} {mg : Str → Option Value} {base : Heap} {a : Ad}
theorem ok_ask {f : Addr} {fd : FuncData} (F : Fun K "ask" "ask" s_ask f fd) (T : Txt K mg a) (DT : ∀ c : Nat, 10 ≤ c → c < 18 → ∃ v, MGet P w K a.QUESTIONS (.int (c : Int)) v ∧ Fv P w K mg base 9 v ["desk", "told"] (spC c a)) : FnOk P w K mg base CX0 10 f fd ["desk", "call", "told"] (sp_ask K a) := by
  refine F.ok sc_ask (fun vs H Q E h => ?_) (fun cdv A outer s H vs Q E hr h => ?_)
  · obtain ⟨c, d, t, rfl, _⟩ := h
    rfl
  · obtain ⟨c, d, t, rfl, hc, hc2, k⟩ := h
    obtain ⟨v, g, fv⟩ := DT c hc hc2
    refine ⟨_, (pss_one (ps_ret (pe_fv (ps := ["desk", "told"]) (pe_mget (pgR T.d_QUESTIONS) (pv 1) (fun _ _ => rfl)) (hr.mono (by decide : 9 ≤ _)) (pa_cons (pv 0) (pa_cons (pv 2) pa_nil))))), ?_⟩
    exact s_re (i_fv (ap (rmg rc rv g) ⟨spC c a, fv, ap2 (ra1 rv (ra1 rv ra0)) k⟩))
end
end Hd
namespace L2
open PySem PySem.Spec PyProof.Rows
section
variable {K : PySem.W.Frag} {σ : St} {H : Hp} {ta tb tc te : TE} {t : TA} {v : V} {u tbd : TS} {D : Ends} {Q : VK} {c : TT}
theorem q_while (Pv : St → Hp → Prop) (μ : St → Hp → Nat) (h0 : Pv σ H)
    (hs : ∀ σ' H', Pv σ' H' → ∃ b, Rt c σ' H' b ∧ (b = true → ∀ D', (D'.nx = fun σ2 H2 => Pv σ2 H2 ∧ μ σ2 H2 < μ σ' H') → D'.rt = D.rt → tbd D' σ' H') ∧ (b = false → u D σ' H')) : tSeq (tWhile c tbd) u D σ H :=
  ⟨fun m σ' H' => m = μ σ' H' ∧ Pv σ' H', ⟨_, rfl, h0⟩, fun m σ' H' ⟨e, p⟩ => by
    subst e
    obtain ⟨b, r, h1, h2⟩ := hs σ' H' p
    refine r _ ?_
    cases b with
    | true => exact iteT ⟨_, fun σ2 H2 ⟨p2, l2⟩ => ⟨_, l2, rfl, p2⟩, h1 rfl _ rfl rfl⟩
    | false => exact iteF (h2 rfl)⟩
theorem r_lenQ {l : Addr} {ys : List V} (a : Ra t σ H [.ref l]) (h : SqL K H l ys) : Rv (tCB (fun xs H Q => ∃ p ys, xs = [.ref p] ∧ (SqL K H p ys ∨ SqT K H p ys) ∧ Q (.int ys.length) H) t) σ H (.int ys.length) := rcb a fun Q q => ⟨l, ys, rfl, .inl h, q⟩
theorem r_lenT {l : Addr} {ys : List V} (a : Ra t σ H [.ref l]) (h : SqT K H l ys) : Rv (tCB (fun xs H Q => ∃ p ys, xs = [.ref p] ∧ (SqL K H p ys ∨ SqT K H p ys) ∧ Q (.int ys.length) H) t) σ H (.int ys.length) := rcb a fun Q q => ⟨l, ys, rfl, .inr h, q⟩
theorem i_dz (h : t σ H fun vs H1 => ∃ (a b : Addr) (ns : List Str) (ys : List V), vs = [.ref a, .ref b] ∧ SqT K H1 a (ns.map V.str) ∧ SqL K H1 b ys ∧ ns.length = ys.length ∧ ns.length ≤ 100 ∧ ∀ p, H1 p = none → Q (.ref p) (upd H1 p (.dK (mergeK [] (zipKV ns ys))))) : tDZ K t σ H Q := h
end
theorem cut2 {xs : List V} {i n : Nat} (h : i + n ≤ xs.length) : cutV xs (some (i : Int)) (some ((i + n : Nat) : Int)) = (xs.drop i).take n := by
  unfold cutV
  rw [HT.sIx_nat, HT.sIx_nat, Nat.min_eq_left (by omega), Nat.min_eq_left (by omega), Nat.add_sub_cancel_left]
theorem merge_new : ∀ {ns : List Str} {ys : List V} {acc : List (Key × V)}, ns.Nodup → (∀ n ∈ ns, valV acc (.inr n) = none) → mergeK acc (zipKV ns ys) = acc ++ zipKV ns ys
  | [], _, acc, _, _ => by
    show acc = acc ++ []
    rw [List.append_nil]
  | _ :: _, [], acc, _, _ => by
    show acc = acc ++ []
    rw [List.append_nil]
  | n :: ns, y :: ys, acc, h, ha => by
    obtain ⟨h1, h2⟩ := List.nodup_cons.mp h
    show mergeK (putK acc (.inr n) y) (zipKV ns ys) = acc ++ ((Sum.inr n, y) :: zipKV ns ys)
    rw [putK_new _ (ha n (by simp)), merge_new h2, List.append_assoc]
    · rfl
    · intro m hm
      rw [valV_snoc _ _ _ _ (ha n (by simp)), if_neg (fun e => h1 (by have q : m = n := Sum.inr.inj e; rw [← q]; exact hm))]
      exact ha m (by simp [hm])
end L2
namespace Hd
open PySem PySem.Spec PyProof.Rows L2
open Vbfuah (Action Trade Price Book State effect acted paid traded dayDone days emptyBook at_ addAt sound soundFrom worth priceAt newAction doAction dueRow bookAt)
def mkN : List Str → List (Int × Int) → List Int → List Nm
  | n :: ns, r :: R, z :: xs => ⟨n, r, z⟩ :: mkN ns R xs
  | _, _, _ => []
theorem mkN_kv : ∀ {ns : List Str} {R : List (Int × Int)} {xs : List Int}, ns.length = xs.length → R.length = xs.length → (mkN ns R xs).map Nm.kv = zipKV ns (xs.map V.int)
  | [], R, [], _, _ => rfl
  | [], _, _ :: _, h, _ => by cases h
  | _ :: _, _, [], h, _ => by cases h
  | _ :: _, [], _ :: _, _, h => by cases h
  | n :: ns, r :: R, z :: xs, h1, h2 => by
    show (Sum.inr n, V.int z) :: (mkN ns R xs).map Nm.kv = (Sum.inr n, V.int z) :: zipKV ns (xs.map V.int)
    rw [mkN_kv (by simpa using h1) (by simpa using h2)]
theorem mkN_in : ∀ {ns : List Str} {R : List (Int × Int)} {xs : List Int}, ns.length = xs.length → R.length = xs.length → (mkN ns R xs).all Nm.inR = inAll R xs
  | [], [], [], _, _ => rfl
  | [], _ :: _, [], _, h => by cases h
  | [], _, _ :: _, h, _ => by cases h
  | _ :: _, _, [], h, _ => by cases h
  | _ :: _, [], _ :: _, _, h => by cases h
  | n :: ns, r :: R, z :: xs, h1, h2 => by
    show (Nm.inR ⟨n, r, z⟩ && (mkN ns R xs).all Nm.inR) = ((decide (r.1 ≤ z) && decide (z ≤ r.2)) && inAll R xs)
    rw [mkN_in (by simpa using h1) (by simpa using h2)]
    rfl
theorem mkN_rng : ∀ {ns : List Str} {R : List (Int × Int)} {xs : List Int}, (∀ p ∈ ns.zip R, p ∈ rngs) → ∀ p ∈ mkN ns R xs, (p.n, p.r) ∈ rngs
  | n :: ns, r :: R, z :: xs, h, p, hp => by
    rcases List.mem_cons.mp hp with q | q
    · rw [q]
      exact h (n, r) (by simp)
    · exact mkN_rng (fun x hx => h x (by simp [hx])) p q
  | [], _, _, _, p, hp => by cases hp
  | _ :: _, [], _, _, p, hp => by cases hp
  | _ :: _, _ :: _, [], _, p, hp => by cases hp
theorem mkN_len : ∀ {ns : List Str} {R : List (Int × Int)} {xs : List Int}, (mkN ns R xs).length ≤ ns.length
  | n :: ns, r :: R, z :: xs => Nat.succ_le_succ mkN_len
  | [], _, _ => Nat.zero_le _
  | _ :: _, [], _ => Nat.zero_le _
  | _ :: _, _ :: _, [] => Nat.zero_le _
def tabOk (c : Nat) : Bool := match argn[c]?, rg[c]?, argc[c]? with
  | some ns, some R, some n => decide (ns.length = n) && (decide (R.length = n) && (decide (ns.Nodup) && ((ns.zip R).all fun p => decide (p ∈ rngs))))
  | _, _, _ => false
theorem tab_all : ((List.range 18).all tabOk) = true := by decide +kernel
structure Tab1 (c : Nat) (ns : List Str) (R : List (Int × Int)) : Prop where
  a : argn[c]? = some ns
  r : rg[c]? = some R
  n : argc[c]? = some ns.length
  l : R.length = ns.length
  nd : ns.Nodup
  m : ∀ p ∈ ns.zip R, p ∈ rngs
  z : ns.length ≤ 10
theorem tab1 {c : Nat} (h : c < 18) : ∃ ns R, Tab1 c ns R := by
  have q := List.all_eq_true.mp tab_all c (List.mem_range.mpr h)
  unfold tabOk at q
  cases e1 : argn[c]? with
  | none => rw [e1] at q; cases q
  | some ns =>
    rw [e1] at q
    cases e2 : rg[c]? with
    | none => rw [e2] at q; cases q
    | some R =>
      rw [e2] at q
      cases e3 : argc[c]? with
      | none => rw [e3] at q; cases q
      | some n =>
        rw [e3] at q
        simp only [Bool.and_eq_true, decide_eq_true_eq, List.all_eq_true] at q
        obtain ⟨q1, q2, q3, q4⟩ := q
        have hz : n ≤ 10 := by
          have : ∀ x ∈ argc, x ≤ 10 := by decide
          exact this n (List.mem_of_getElem? e3)
        exact ⟨ns, R, ⟨e1, e2, by rw [e3, q1], by omega, q3, q4, by omega⟩⟩
def sp_answer (K : PySem.W.Frag) (a : Ad) : Sp := fun vs H Q _ => ∃ (c : Nat) (d t : Addr) (s : State) (xs : List Int) (R : List (Int × Int)), vs = [.ref d, .int (c : Int), .ref t] ∧ c < 18 ∧ IsDesk a H d s ∧ SInv s ∧ H t = some (.dK (kvsC c xs)) ∧ rg[c]? = some R ∧ xs.length = R.length ∧
  ∀ H' l, H l = none → Fr d H H' → AnK d H H' → IsDesk a H' d (stp s [(c : Int) :: xs]).1 → H' l = some (.lst ((stp s [(c : Int) :: xs]).2.map V.int)) → Q (.ref l) H'
def spAns (K : PySem.W.Frag) : Sp := fun vs H Q _ => ∃ (p : Addr) (ns : List Int), vs = [.ref p] ∧ SqL K H p (ns.map V.int) ∧ ns.length ≤ 4400 ∧ PyVbfuah.answers_asked ns = true ∧ ∀ (H' : Hp) (l : Addr), H' l = some (.lst ((PyVbfuah.answers ns).map V.int)) → Q (.ref l) H'
abbrev sp_answers (K : PySem.W.Frag) (a : Ad) : Sp := spAns K
theorem kvsC_is {c : Nat} {ns : List Str} (h : argn[c]? = some ns) (xs : List Int) : kvsC c xs = zipKV ns (xs.map V.int) := by
  unfold kvsC
  rw [List.getD_eq_getElem?_getD, h]
  rfl
theorem IsDesk.putL {a : Ad} {H : Hp} {d an : Addr} {s : State} {ys zs : List V} (h : IsDesk a H d s) (no : ¬ Own H d an) (ha : H an = some (.lst ys)) : IsDesk a (upd H an (.lst zs)) d s := by
  obtain ⟨dx, lt, la, lp, e, ⟨p1, e1, h1⟩, ⟨p2, e2, h2⟩, ⟨p3, e3, h3⟩⟩ := h
  have n1 : lt ≠ an := fun q => no ⟨_, _, _, _, _, _, e, .inl (by rw [q])⟩
  have n2 : la ≠ an := fun q => no ⟨_, _, _, _, _, _, e, .inr (.inl (by rw [q]))⟩
  have n3 : lp ≠ an := fun q => no ⟨_, _, _, _, _, _, e, .inr (.inr (by rw [q]))⟩
  refine ⟨dx, lt, la, lp, ins_l e ha, ⟨p1, by rw [upd_ne n1]; exact e1, L2.Paired.mapP h1 fun p x ⟨q, z⟩ => ⟨q, ins_l z ha⟩⟩, ⟨p2, by rw [upd_ne n2]; exact e2, L2.Paired.mapP h2 fun p x ⟨q, t, z, z2⟩ => ⟨q, t, ins_l z ha, ?_⟩⟩, ⟨p3, by rw [upd_ne n3]; exact e3, L2.Paired.mapP h3 fun p x ⟨q, z⟩ => ⟨q, ins_l z ha⟩⟩⟩
  rw [upd_ne (ne_of z2 ha (by intro w; cases w))]
  exact z2
theorem Own.put {H : Hp} {d an x : Addr} {ys zs : List V} (ha : H an = some (.lst ys)) (h : Own (upd H an (.lst zs)) d x) : Own H d x := by
  obtain ⟨C, dx, v0, v1, v2, v3, e, q⟩ := h
  have nd : d ≠ an := fun z => by rw [z, upd_same] at e; cases e
  rw [upd_ne nd] at e
  exact ⟨C, dx, v0, v1, v2, v3, e, q⟩
section
variable {P : Program} {w : World} {K : PySem.W.Frag} {mg : Str → Option Value} {base : Heap} {a : Ad}
theorem ok_answer {f : Addr} {fd : FuncData} (F : Fun K "answer" "answer" s_answer f fd) (T : Txt K mg a) (U_tell : Use P w K mg base 10 "tell" ["desk", "call", "told"] (sp_tell K a)) (U_are_within : Use P w K mg base 2 "are_within" ["told"] (sp_are_within K a)) (U_ask : Use P w K mg base 10 "ask" ["desk", "call", "told"] (sp_ask K a)) : FnOk P w K mg base CX0 11 f fd ["desk", "call", "told"] (sp_answer K a) := by
  refine F.ok sc_answer (fun vs H Q E h => ?_) (fun cdv A outer s H vs Q E hr h => ?_)
  · obtain ⟨c, d, t, s, xs, R, rfl, _⟩ := h
    rfl
  · obtain ⟨c, d, t, s, xs, R, rfl, hc, hd, I, ht, hR, hx, kk⟩ := h
    refine ⟨_, (pss_cons (ps_if (pt_not (pt_val (pu U_are_within (hr.mono (by decide)) (pa_cons (pv 2) pa_nil)))) (pss_one (ps_ret (pe_lst (pa_cons (pgI T.g_OUT_OF_RANGE) pa_nil)))) pss_nil)
      (pss_cons (ps_if (pt_cmpR op_ge (pv 1) (pgI T.g_FIRST_QUESTION) (nomark _)) (pss_one (ps_ret (pu U_ask (hr.mono (by decide)) (pa_cons (pv 0) (pa_cons (pv 1) (pa_cons (pv 2) pa_nil)))))) pss_nil)
      (pss_one (ps_ret (pu U_tell (hr.mono (by decide)) (pa_cons (pv 0) (pa_cons (pv 1) (pa_cons (pv 2) pa_nil)))))))), ?_⟩
    obtain ⟨ns, R', tb⟩ := tab1 hc
    have eR := tb.r
    rw [hR] at eR
    cases eR
    have l1 : ns.length = xs.length := by rw [hx, tb.l]
    have ht' : H t = some (.dK ((mkN ns R xs).map Nm.kv)) := by
      rw [mkN_kv l1 hx.symm, ← kvsC_is tb.a]
      exact ht
    have hall := mkN_in (ns := ns) l1 hx.symm
    refine q_ifn (c_call (ra1 rv ra0) ⟨t, mkN ns R xs, rfl, ht', mkN_rng tb.m, Nat.le_trans mkN_len (Nat.le_trans tb.z (by decide)), fun H1 s1 => ⟨_, rfl, ite_n (fun e => ?_) (fun e => ?_)⟩⟩)
    · rw [hall] at e
      exact e_lst (ra1 rc ra0) sz1 (fin2 kk (s' := s) (ans := [-1]) (refuse hR hx e) (Fr.of s1) (AnK.of hd s1) (hd.same s1) rfl)
    · rw [hall] at e
      have sp : spC c a [.ref d, .ref t] H1 Q E0 := ⟨d, t, s, xs, R, rfl, hd.same s1, I, s1 _ _ ht, hR, hx, e, fun H' l nl fr an hd' hl => kk H' l (s1.free nl) ((Fr.of s1).trans fr) ((AnK.of hd s1).then an s1.free) hd' hl⟩
      refine q_ifr (tt (r0 rv rc)) (fun e2 => c_call (ra1 rv (ra1 rv (ra1 rv ra0))) ⟨c, d, t, rfl, ?_, hc, sp⟩) fun e2 => s_re (c_call (ra1 rv (ra1 rv (ra1 rv ra0))) ⟨c, d, t, rfl, ?_, sp⟩)
      · have := of_decide_eq_true e2
        omega
      · have := of_decide_eq_false e2
        omega
theorem ok_answers {f : Addr} {fd : FuncData} (F : Fun K "answers" "answers" s_answers f fd) (T : Txt K mg a) (U_Desk : UseC P w K mg base 1 "Desk" a.Desk ["self"] (sp_Desk_init K a)) (U_answer : Use P w K mg base 11 "answer" ["desk", "call", "told"] (sp_answer K a)) (B : Tabs P w K a) : FnOk P w K mg base CX0 12 f fd ["calls"] (sp_answers K a) := by
  refine F.ok sc_answers (fun vs H Q E h => ?_) (fun cdv A outer s H vs Q E hr h => ?_)
  · obtain ⟨p, ns, rfl, _⟩ := h
    rfl
  · obtain ⟨p, ns, rfl, hS, hlen, hask, kk⟩ := h
    refine ⟨_, (pss_cons (ps_set (i := 1) sc_answers.nd rfl (Or.inl rfl) (puc0 U_Desk (hr.mono (by decide))))
      (pss_cons (ps_set (i := 2) sc_answers.nd rfl (Or.inl rfl) (pe_lst pa_nil))
      (pss_cons (ps_set (i := 3) sc_answers.nd rfl (Or.inl rfl) pe_int)
      (pss_cons (ps_while PassesOwn.never (pt_cmpR op_lt (pv 3) (pe_callB call_len_seq rfl T.b_len PySem.boot_len (pa_cons (pv 0) pa_nil)) (nomark _)) (pss_cons (ps_set (i := 4) sc_answers.nd rfl (Or.inl rfl) (pe_mget (pgR T.d_ARGUMENTS) (pe_ix ix_list (pv 0) (pv 3) (fun _ _ => rfl)) (fun _ _ => rfl)))
      (pss_cons (ps_set (i := 5) sc_answers.nd rfl (Or.inl rfl) (pe_op op_add (pe_op op_add (pv 3) pe_int) (pe_callB call_len_seq rfl T.b_len PySem.boot_len (pa_cons (pv 4) pa_nil))))
      (pss_cons (ps_set (i := 6) sc_answers.nd rfl (Or.inl rfl) (pe_dictzip rfl rfl T.b_dict rfl T.b_zip (pa_cons (pv 4) (pa_cons (pe_slice sl_list (pv 0) (po_some (pe_op op_add (pv 3) pe_int)) (po_some (pv 5))) pa_nil))))
      (pss_cons (ps_set (i := 7) sc_answers.nd rfl (Or.inl rfl) (pu U_answer (hr.mono (by decide)) (pa_cons (pv 1) (pa_cons (pe_ix ix_list (pv 0) (pv 3) (fun _ _ => rfl)) (pa_cons (pv 6) pa_nil)))))
      (pss_cons (ps_expr (pe_bm PySem.F.plainAttrs_list PySem.F.slot_list_append PySem.F.type_list_append mt_append (pv 2) (pa_cons (pe_callB call_len_seq rfl T.b_len PySem.boot_len (pa_cons (pv 7) pa_nil)) pa_nil)))
      (pss_cons (ps_expr (pe_bm PySem.F.plainAttrs_list PySem.F.slot_list_extend PySem.F.type_list_extend mt_extend (pv 2) (pa_cons (pv 7) pa_nil)))
      (pss_one (ps_set (i := 3) sc_answers.nd rfl (Or.inl rfl) (pv 5))))))))))
      (pss_one (ps_ret (pv 2))))))), ?_⟩
    obtain ⟨cs0, hcs0, hcl⟩ := asked_is hask
    have hans := answers_is hcs0
    refine q_let (m_Desk fun d H1 s1 nd hd ho => ?_)
    refine q_let (e_lst ra0 (Nat.zero_le _) fun an han => ?_)
    have s2 : Same H (upd H1 an (.lst [])) := s1.trans (Same.new han)
    have nan : H an = none := s1.free han
    have noan : ¬ Own (upd H1 an (.lst [])) d an := fun h => by
      obtain ⟨C, dx, v0, v1, v2, v3, e, q⟩ := h
      obtain ⟨dx', lt, la, lp, e', ⟨p1, e1, _⟩, ⟨p2, e2, _⟩, ⟨p3, e3, _⟩⟩ := hd
      have e2' := (Same.new (o := .lst []) han) _ _ e'
      rw [e] at e2'
      have e3' : fDesk v0 v1 v2 v3 = fDesk (nV Vbfuah.start.today) (.ref lt) (.ref la) (.ref lp) := by
        have := Option.some.inj e2'
        injection this
      have c1 : some v1 = some (V.ref lt) := (lDesk_trades v0 v1 v2 v3).symm.trans (by rw [e3']; exact lDesk_trades ..)
      have c2 : some v2 = some (V.ref la) := (lDesk_actions v0 v1 v2 v3).symm.trans (by rw [e3']; exact lDesk_actions ..)
      have c3 : some v3 = some (V.ref lp) := (lDesk_prices v0 v1 v2 v3).symm.trans (by rw [e3']; exact lDesk_prices ..)
      cases c1
      cases c2
      cases c3
      rcases q with q | q | q
      · cases q; rw [e1] at han; cases han
      · cases q; rw [e2] at han; cases han
      · cases q; rw [e3] at han; cases han
    refine q_set rc rfl ?_
    refine q_while (fun σ' H' => ∃ (v4 v5 v6 v7 : Option V) (i : Nat) (s : State) (f : Nat) (cs : List (List (List Int))) (dn : List Int), σ' = [some (.ref p), some (.ref d), some (.ref an), some (nV i), v4, v5, v6, v7] ∧ Same H H' ∧ IsDesk a H' d s ∧ SInv s ∧ ¬ Own H' d an ∧ H' an = some (.lst (dn.map V.int)) ∧ i ≤ ns.length ∧
      PyFlat.calls PyVbfuah.shape f (ns.drop i) = some cs ∧ PyVbfuah.answers ns = dn ++ play s cs ∧ dn.length + 20001 * cs.length ≤ 20001 * 400)
      (fun (σ' : L2.St) _ => match σ'[3]? with | some (some (V.int z)) => ns.length - z.toNat | _ => 0)
      ⟨none, none, none, none, 0, Vbfuah.start, ns.length, cs0, [], rfl, s2, hd.same (Same.new han), SInv.start, noan, upd_same, Nat.zero_le _, hcs0, hans, by rw [List.length_nil]; omega⟩ ?_
    rintro σ' H' ⟨v4, v5, v6, v7, i, s, f, cs, dn, rfl, sm, hd', I, no, hA, hi, hc, ha, hb⟩
    have hS' := sm.seq hS
    refine ⟨_, tt (r0 rv (r_lenQ (ra1 rv ra0) hS')), fun e D' eN eR => ?_, fun e => ?_⟩
    · have e1 := of_decide_eq_true e
      rw [List.length_map] at e1
      have hlt : i < ns.length := by omega
      have edr : ns.drop i = ns[i] :: ns.drop (i + 1) := List.drop_eq_getElem_cons hlt
      rw [edr] at hc
      obtain ⟨f', n, cs', hsh, hn, hc', ecs⟩ := calls_step hc
      obtain ⟨_, c, ep, hac⟩ := shape_in hsh
      have c18 : c < 18 := (List.getElem?_eq_some_iff.mp hac).1
      obtain ⟨nsL, R, tb⟩ := tab1 c18
      have en : n = nsL.length := by
        have := tb.n
        rw [hac] at this
        exact Option.some.inj this
      rw [List.length_drop] at hn
      obtain ⟨tc, gM, sT⟩ := B.ar c nsL tb.a
      have hat : atI (ns.map V.int) (i : Int) = some (.int (c : Int)) := atI_nat (by rw [List.getElem?_map, List.getElem?_eq_getElem hlt, ep]; rfl)
      have hxl : ((ns.drop (i + 1)).take n).length = n := by rw [List.length_take, List.length_drop]; omega
      refine q_set (rmg rc (rix rv rv hS' hat) gM) rfl ?_
      refine q_set (r0 (r0 rv rc) (r_lenT (ra1 rv ra0) (sT _))) rfl ?_
      rw [List.length_map, ← en]
      have e5 : (i : Int) + 1 + (n : Int) = ((i + 1 + n : Nat) : Int) := by omega
      rw [e5]
      refine q_let (i_dz (i_cons (ap rv (i_cons (i_sl (ap rv ?_))))))
      refine ap (r0 rv rc) ⟨_, rfl, ap rv ⟨_, rfl, p, _, rfl, hS', fun sl hsl => ?_⟩⟩
      have e6 : (i : Int) + 1 = ((i + 1 : Nat) : Int) := by omega
      rw [e6, cut2 (by rw [List.length_map]; omega), ← List.map_drop, ← List.map_take]
      have s3 : Same H' (upd H' sl (.lst (((ns.drop (i + 1)).take n).map V.int))) := Same.new hsl
      refine ⟨tc, sl, nsL, _, rfl, sT _, SqL.of upd_same, by rw [List.length_map, hxl, en], Nat.le_trans tb.z (by decide), fun td htd => ?_⟩
      rw [merge_new tb.nd (fun _ _ => rfl), List.nil_append, ← kvsC_is tb.a]
      have s4 : Same H' (upd (upd H' sl (.lst (((ns.drop (i + 1)).take n).map V.int))) td (.dK (kvsC c ((ns.drop (i + 1)).take n)))) := s3.trans (Same.new htd)
      generalize hH4 : upd (upd H' sl (.lst (((ns.drop (i + 1)).take n).map V.int))) td (.dK (kvsC c ((ns.drop (i + 1)).take n))) = H4 at s4
      have h4t : H4 td = some (.dK (kvsC c ((ns.drop (i + 1)).take n))) := by rw [← hH4]; exact upd_same
      clear hH4
      refine q_let (c_call (ra1 rv (ra1 (rix rv rv (s4.seq hS') hat) (ra1 rv ra0))) ⟨c, d, td, s, (ns.drop (i + 1)).take n, R, rfl, c18, hd'.same s4, I, h4t, tb.r, by rw [hxl, tb.l, en], fun H5 l nl fr an5 hd5 hl => ?_⟩)
      have nd' : an ≠ d := fun q => by
        obtain ⟨_, _, _, _, e', _⟩ := hd'
        rw [q, e'] at hA
        cases hA
      have no5 : ¬ Own H5 d an := fun h => by
        rcases an5 an h with q | q
        · obtain ⟨C, dx, v0, v1, v2, v3, e, q⟩ := q
          obtain ⟨dx', lt, la, lp, e', _⟩ := hd'
          have e'' := s4 _ _ e'
          rw [e] at e''
          rw [← e''] at e'
          exact no ⟨C, dx, v0, v1, v2, v3, e', q⟩
        · rw [s4 _ _ hA] at q
          cases q
      have hA5 : H5 an = some (.lst (dn.map V.int)) := fr _ _ (s4 _ _ hA) nd'
      have nla : l ≠ an := fun q => by rw [q, s4 _ _ hA] at nl; cases nl
      have alen := ans_len I [(c : Int) :: (ns.drop (i + 1)).take n]
      have hb' : dn.length + 20001 * (cs'.length + 1) ≤ 20001 * 400 := by
        rw [ecs, List.length_cons] at hb
        exact hb
      refine q_do (e_app rv hA5 (r_len (ra1 rv ra0) hl) (by rw [List.length_map, sizeLine_eq]; omega) ?_)
      have hl6 : (upd H5 an (.lst (dn.map V.int ++ [.int ((((stp s [(c : Int) :: (ns.drop (i + 1)).take n]).2.map V.int).length : Nat) : Int)]))) l = some (.lst ((stp s [(c : Int) :: (ns.drop (i + 1)).take n]).2.map V.int)) := by rw [upd_ne nla]; exact hl
      refine q_do (e_bmL rv upd_same (i_cons (ap rv ⟨an, l, dn.map V.int ++ [.int ((((stp s [(c : Int) :: (ns.drop (i + 1)).take n]).2.map V.int).length : Nat) : Int)], _, rfl, rfl, upd_same, hl6, ?_, ?_⟩)))
      · rw [List.length_append, List.length_map, List.length_map, List.length_cons, List.length_nil, sizeLine_eq]
        omega
      · rw [upd_upd]
        refine s_set rv ?_
        rw [eN]
        have hsm : Same H (upd H5 an (.lst (dn.map V.int ++ [.int ((((stp s [(c : Int) :: (ns.drop (i + 1)).take n]).2.map V.int).length : Nat) : Int)] ++ (stp s [(c : Int) :: (ns.drop (i + 1)).take n]).2.map V.int))) := fun z o ez => by
          have zd : z ≠ d := fun q => by rw [q, nd] at ez; cases ez
          rw [upd_ne (ne_of_none ez nan)]
          exact fr z o (s4 _ _ (sm _ _ ez)) zd
        refine ⟨⟨_, _, _, _, i + 1 + n, (stp s [(c : Int) :: (ns.drop (i + 1)).take n]).1, f', cs', dn ++ ((((stp s [(c : Int) :: (ns.drop (i + 1)).take n]).2.length : Nat) : Int) :: (stp s [(c : Int) :: (ns.drop (i + 1)).take n]).2), rfl, hsm, hd5.putL no5 hA5, I.stp _, fun h => no5 (Own.put hA5 h), ?_, by omega, ?_, ?_, ?_⟩, ?_⟩
        · rw [upd_same, List.map_append, List.length_map, List.append_assoc]
          rfl
        · rw [List.drop_drop] at hc'
          rw [show i + 1 + n = i + 1 + n from rfl]
          exact hc'
        · rw [ha, ecs, ep, List.append_assoc]
          rfl
        · rw [List.length_append, List.length_cons]
          omega
        · show ns.length - ((((i + 1 + n : Nat) : Int))).toNat < ns.length - ((i : Int)).toNat
          rw [Int.toNat_natCast, Int.toNat_natCast]
          omega
    · have e1 := of_decide_eq_false e
      rw [List.length_map] at e1
      have hi' : ns.length ≤ i := by omega
      rw [List.drop_eq_nil_of_le hi'] at hc
      have ec := calls_nil hc
      rw [ec] at ha
      refine s_ret rv (kk H' an ?_)
      rw [ha]
      show _ = some (HO.lst ((dn ++ []).map V.int))
      rw [List.append_nil]
      exact hA
end
end Hd
namespace Hd
open PySem PySem.Spec PyProof.Rows L2
open PySem.W (nsIn findIn isFn fnOf codeIn keepIn plainGet hasDictIn plainOver makesIn mg_of mg_none_of Frag)
set_option maxHeartbeats 4000000 in
theorem all_mk {P : Program} {w : World} {K : Frag} {h : Heap} {mg : Str → Option Value} {fa : Addr} (X : K.In h) (G : h.Ns mainGlobals mg) (hfa : mg "answers" = some (.ref fa))
    {q00 q01 q02 q03 q04 q05 q06 q07 q08 q09 q0a q0b q0c q0d q0e q0f q0g q0h q0i q0j q0k q0l q0m q0n q0o q0p q0q q0r q0s q0t q0u q0v q0w q0x q0y q0z q10 q11 q12 q13 q14 q15 q16 q17 q18 q19 q1a q1b q1c q1d q1e q1f q1g q1h q1i q1j q1k q1l q1m q1n q1o q1p q1q q1r q1s q1t q1u q1v q1w q1x q1y q1z q20 q21 q22 q23 q24 q25 q26 q27 q28 q29 q2a q2b q2c q2d q2e q2f q2g q2h q2i q2j q2k q2l q2m q2n q2o q2p q2q q2r q2s q2t q2u q2v q2w : Addr} {q2x q2y q2z q30 q31 q32 q33 q34 q35 q36 q37 q38 q39 q3a q3b q3c q3d q3e q3f q3g q3h q3i q3j q3k q3l q3m q3n q3o q3p q3q q3r q3s q3t q3u q3v q3w q3x q3y q3z q40 q41 q42 q43 q44 q45 q46 q47 q48 q49 q4a q4b q4c q4d q4e q4f q4g q4h q4i q4j q4k q4l q4m q4n q4o q4p q4q q4r q4s q4t q4u q4v q4w q4x q4y q4z q50 q51 q52 q53 q54 q55 q56 q57 q58 q59 q5a q5b q5c q5d q5e q5f q5g q5h q5i q5j q5k q5l q5m q5n q5o q5p q5q q5r q5s q5t q5u q5v q5w q5x q5y q5z q60 q61 q62 q63 q64 q65 q66 q67 q68 : Option Addr} {q69 q6a q6b q6c q6d q6e q6f q6g q6h q6i q6j q6k q6l q6m q6n q6o q6p q6q q6r q6s q6t q6u q6v q6w q6x q6y q6z q70 q71 q72 q73 q74 q75 q76 q77 q78 q79 q7a q7b q7c q7d q7e q7f q7g q7h q7i q7j q7k q7l q7m q7n q7o q7p q7q q7r q7s q7t q7u q7v q7w : Array (Option Value)} {q7x q7y q7z q80 q81 q82 q83 q84 q85 q86 q87 q88 q89 q8a q8b q8c q8d q8e q8f q8g q8h q8i q8j q8k q8l q8m q8n q8o q8p q8q q8r q8s q8t q8u q8v q8w q8x q8y q8z q90 q91 q92 q93 q94 q95 q96 q97 q98 q99 q9a q9b q9c q9d q9e q9f q9g q9h q9i q9j q9k q9l q9m q9n q9o q9p q9q q9r q9s q9t q9u q9v q9w q9x q9y q9z qa0 qa1 qa2 qa3 qa4 qa5 qa6 qa7 qa8 qa9 qaa qab qac qad qae qaf qag qah qai qaj qak qal qam qan qao qap qaq qar qas qat qau qav qaw qax qay qaz qb0 qb1 qb2 qb3 qb4 qb5 qb6 qb7 qb8 qb9 qba qbb qbc qbd qbe qbf qbg qbh qbi qbj qbk qbl qbm qbn qbo qbp qbq qbr qbs qbt qbu qbv qbw qbx qby qbz qc0 qc1 qc2 qc3 qc4 qc5 qc6 qc7 qc8 qc9 qca qcb qcc qcd qce qcf qcg qch qci qcj qck qcl qcm qcn qco qcp qcq qcr qcs qct qcu qcv qcw qcx qcy qcz qd0 qd1 qd2 qd3 qd4 qd5 qd6 qd7 qd8 qd9 qda qdb qdc qdd qde qdf qdg qdh qdi qdj qdk qdl qdm qdn qdo qdp qdq qdr qds qdt qdu qdv qdw qdx qdy qdz qe0 qe1 qe2 qe3 qe4 qe5 qe6 qe7 qe8 qe9 qea qeb qec qed qee qef qeg qeh qei qej qek qel qem qen qeo qep qeq qer qes qet qeu qev qew qex qey qez qf0 qf1 qf2 qf3 qf4 qf5 qf6 qf7 qf8 qf9 qfa qfb qfc qfd qfe qff qfg qfh qfi qfj qfk qfl qfm qfn qfo qfp qfq qfr qfs qft qfu qfv qfw qfx qfy qfz qg0 qg1 qg2 qg3 qg4 qg5 qg6 qg7 qg8 qg9 qga qgb qgc qgd qge qgf qgg qgh qgi qgj qgk qgl qgm qgn qgo qgp qgq qgr qgs qgt qgu qgv qgw qgx qgy qgz qh0 qh1 qh2 qh3 qh4 qh5 qh6 qh7 qh8 qh9 qha qhb qhc qhd qhe qhf qhg qhh qhi qhj qhk qhl qhm qhn qho qhp qhq qhr qhs qht qhu qhv qhw : Value} {qhx qhy qhz qi0 qi1 qi2 qi3 qi4 qi5 qi6 qi7 qi8 qi9 qia qib qic qid qie qif qig qih qii qij qik qil qim qin qio qip qiq qir qis qit qiu qiv qiw qix : Nat} {qiy qiz qj0 qj1 qj2 qj3 qj4 qj5 qj6 qj7 qj8 qj9 qja qjb qjc qjd qje qjf qjg qjh qji qjj qjk qjl qjm qjn qjo qjp qjq qjr qjs qjt qju qjv qjw qjx qjy qjz qk0 qk1 qk2 qk3 qk4 qk5 qk6 qk7 qk8 qk9 qka qkb qkc : Int} {qkd qke qkf qkg qkh qki qkj qkk qkl qkm qkn qko qkp qkq qkr qks qkt qku qkv qkw qkx qky qkz ql0 ql1 ql2 ql3 ql4 ql5 ql6 ql7 ql8 ql9 qla qlb qlc qld qle qlf qlg qlh qli qlj qlk qll qlm qln qlo qlp qlq qlr qls qlt qlu qlv qlw qlx qly qlz qm0 qm1 qm2 qm3 qm4 qm5 qm6 qm7 qm8 qm9 qma qmb qmc qmd qme qmf qmg qmh qmi qmj qmk qml qmm qmn qmo qmp qmq qmr qms qmt qmu qmv qmw qmx qmy qmz qn0 qn1 qn2 qn3 qn4 qn5 qn6 qn7 qn8 qn9 qna qnb qnc qnd qne qnf qng qnh qni qnj qnk qnl qnm qnn qno qnp qnq qnr qns qnt qnu qnv qnw qnx qny qnz qo0 qo1 qo2 qo3 qo4 qo5 qo6 qo7 qo8 qo9 qoa qob qoc qod qoe qof qog qoh qoi qoj qok qol qom qon : Tok}
    (qoo : nsIn K mainGlobals "Action" = some (some (.ref q00)))
    (qop : nsIn K mainGlobals "Due" = some (some (.ref q01)))
    (qoq : nsIn K mainGlobals "Entitlement" = some (some (.ref q02)))
    (qor : nsIn K mainGlobals "Trade" = some (some (.ref q03)))
    (qos : nsIn K mainGlobals "Book" = some (some (.ref q04)))
    (qot : nsIn K mainGlobals "Diary" = some (some (.ref q05)))
    (qou : nsIn K mainGlobals "Price" = some (some (.ref q06)))
    (qov : nsIn K mainGlobals "Desk" = some (some (.ref q07)))
    (qow : findIn K (.ref q00) "__init__" = some (some (.ref q08)))
    (qox : isFn K (.ref q08) = true)
    (qoy : K.lookup q08 = some ⟨q7x, q2x, .func (fnOf "__init__" "Action.__init__" (defArgs s_Action_init) (defBody s_Action_init) (defScope s_Action_init) .none q7y q7z q80 q2y q81 q82), q69⟩)
    (qoz : codeIn K q81 "Action.__init__" = true)
    (qp0 : keepIn K (.ref q08) = true)
    (qp1 : findIn K (.ref q00) "with_choice" = some (some (.ref q09)))
    (qp2 : isFn K (.ref q09) = true)
    (qp3 : K.lookup q09 = some ⟨q83, q2z, .func (fnOf "with_choice" "Action.with_choice" (defArgs s_Action_with_choice) (defBody s_Action_with_choice) (defScope s_Action_with_choice) .none q84 q85 q86 q30 q87 q88), q6a⟩)
    (qp4 : codeIn K q87 "Action.with_choice" = true)
    (qp5 : keepIn K (.ref q09) = true)
    (qp6 : findIn K (.ref q00) "has_choice" = some (some (.ref q0a)))
    (qp7 : isFn K (.ref q0a) = true)
    (qp8 : K.lookup q0a = some ⟨q89, q31, .func (fnOf "has_choice" "Action.has_choice" (defArgs s_Action_has_choice) (defBody s_Action_has_choice) (defScope s_Action_has_choice) .none q8a q8b q8c q32 q8d q8e), q6b⟩)
    (qp9 : codeIn K q8d "Action.has_choice" = true)
    (qpa : keepIn K (.ref q0a) = true)
    (qpb : findIn K (.ref q00) "replaces_holding" = some (some (.ref q0b)))
    (qpc : isFn K (.ref q0b) = true)
    (qpd : K.lookup q0b = some ⟨q8f, q33, .func (fnOf "replaces_holding" "Action.replaces_holding" (defArgs s_Action_replaces_holding) (defBody s_Action_replaces_holding) (defScope s_Action_replaces_holding) .none q8g q8h q8i q34 q8j q8k), q6c⟩)
    (qpe : codeIn K q8j "Action.replaces_holding" = true)
    (qpf : keepIn K (.ref q0b) = true)
    (qpg : findIn K (.ref q01) "__init__" = some (some (.ref q0c)))
    (qph : isFn K (.ref q0c) = true)
    (qpi : K.lookup q0c = some ⟨q8l, q35, .func (fnOf "__init__" "Due.__init__" (defArgs s_Due_init) (defBody s_Due_init) (defScope s_Due_init) .none q8m q8n q8o q36 q8p q8q), q6d⟩)
    (qpj : codeIn K q8p "Due.__init__" = true)
    (qpk : keepIn K (.ref q0c) = true)
    (qpl : findIn K (.ref q02) "__init__" = some (some (.ref q0d)))
    (qpm : isFn K (.ref q0d) = true)
    (qpn : K.lookup q0d = some ⟨q8r, q37, .func (fnOf "__init__" "Entitlement.__init__" (defArgs s_Entitlement_init) (defBody s_Entitlement_init) (defScope s_Entitlement_init) .none q8s q8t q8u q38 q8v q8w), q6e⟩)
    (qpo : codeIn K q8v "Entitlement.__init__" = true)
    (qpp : keepIn K (.ref q0d) = true)
    (qpq : nsIn K mainGlobals "first_price" = some (some (.ref q0e)))
    (qpr : K.lookup q0e = some ⟨q8x, q39, .func (fnOf "first_price" "first_price" (defArgs s_first_price) (defBody s_first_price) (defScope s_first_price) .none q8y q8z q90 q3a q91 q92), q6f⟩)
    (qps : codeIn K q91 "first_price" = true)
    (qpt : keepIn K (.ref q0e) = true)
    (qpu : nsIn K mainGlobals "second_price" = some (some (.ref q0f)))
    (qpv : K.lookup q0f = some ⟨q93, q3b, .func (fnOf "second_price" "second_price" (defArgs s_second_price) (defBody s_second_price) (defScope s_second_price) .none q94 q95 q96 q3c q97 q98), q6g⟩)
    (qpw : codeIn K q97 "second_price" = true)
    (qpx : keepIn K (.ref q0f) = true)
    (qpy : nsIn K mainGlobals "over_million_up" = some (some (.ref q0g)))
    (qpz : K.lookup q0g = some ⟨q99, q3d, .func (fnOf "over_million_up" "over_million_up" (defArgs s_over_million_up) (defBody s_over_million_up) (defScope s_over_million_up) .none q9a q9b q9c q3e q9d q9e), q6h⟩)
    (qq0 : codeIn K q9d "over_million_up" = true)
    (qq1 : keepIn K (.ref q0g) = true)
    (qq2 : nsIn K mainGlobals "whole" = some (some (.ref q0h)))
    (qq3 : K.lookup q0h = some ⟨q9f, q3f, .func (fnOf "whole" "whole" (defArgs s_whole) (defBody s_whole) (defScope s_whole) .none q9g q9h q9i q3g q9j q9k), q6i⟩)
    (qq4 : codeIn K q9j "whole" = true)
    (qq5 : keepIn K (.ref q0h) = true)
    (qq6 : nsIn K mainGlobals "parts" = some (some (.ref q0i)))
    (qq7 : K.lookup q0i = some ⟨q9l, q3h, .func (fnOf "parts" "parts" (defArgs s_parts) (defBody s_parts) (defScope s_parts) .none q9m q9n q9o q3i q9p q9q), q6j⟩)
    (qq8 : codeIn K q9p "parts" = true)
    (qq9 : keepIn K (.ref q0i) = true)
    (qqa : nsIn K mainGlobals "of_dividend" = some (some (.ref q0j)))
    (qqb : K.lookup q0j = some ⟨q9r, q3j, .func (fnOf "of_dividend" "of_dividend" (defArgs s_of_dividend) (defBody s_of_dividend) (defScope s_of_dividend) .none q9s q9t q9u q3k q9v q9w), q6k⟩)
    (qqc : codeIn K q9v "of_dividend" = true)
    (qqd : keepIn K (.ref q0j) = true)
    (qqe : nsIn K mainGlobals "of_split" = some (some (.ref q0k)))
    (qqf : K.lookup q0k = some ⟨q9x, q3l, .func (fnOf "of_split" "of_split" (defArgs s_of_split) (defBody s_of_split) (defScope s_of_split) .none q9y q9z qa0 q3m qa1 qa2), q6l⟩)
    (qqg : codeIn K qa1 "of_split" = true)
    (qqh : keepIn K (.ref q0k) = true)
    (qqi : nsIn K mainGlobals "of_spinoff" = some (some (.ref q0l)))
    (qqj : K.lookup q0l = some ⟨qa3, q3n, .func (fnOf "of_spinoff" "of_spinoff" (defArgs s_of_spinoff) (defBody s_of_spinoff) (defScope s_of_spinoff) .none qa4 qa5 qa6 q3o qa7 qa8), q6m⟩)
    (qqk : codeIn K qa7 "of_spinoff" = true)
    (qql : keepIn K (.ref q0l) = true)
    (qqm : nsIn K mainGlobals "of_rights" = some (some (.ref q0m)))
    (qqn : K.lookup q0m = some ⟨qa9, q3p, .func (fnOf "of_rights" "of_rights" (defArgs s_of_rights) (defBody s_of_rights) (defScope s_of_rights) .none qaa qab qac q3q qad qae), q6n⟩)
    (qqo : codeIn K qad "of_rights" = true)
    (qqp : keepIn K (.ref q0m) = true)
    (qqq : nsIn K mainGlobals "of_takeover" = some (some (.ref q0n)))
    (qqr : K.lookup q0n = some ⟨qaf, q3r, .func (fnOf "of_takeover" "of_takeover" (defArgs s_of_takeover) (defBody s_of_takeover) (defScope s_of_takeover) .none qag qah qai q3s qaj qak), q6o⟩)
    (qqs : codeIn K qaj "of_takeover" = true)
    (qqt : keepIn K (.ref q0n) = true)
    (qqu : nsIn K mainGlobals "entitlement" = some (some (.ref q0o)))
    (qqv : K.lookup q0o = some ⟨qal, q3t, .func (fnOf "entitlement" "entitlement" (defArgs s_entitlement) (defBody s_entitlement) (defScope s_entitlement) .none qam qan qao q3u qap qaq), q6p⟩)
    (qqw : codeIn K qap "entitlement" = true)
    (qqx : keepIn K (.ref q0o) = true)
    (qqy : nsIn K mainGlobals "is_within" = some (some (.ref q0p)))
    (qqz : K.lookup q0p = some ⟨qar, q3v, .func (fnOf "is_within" "is_within" (defArgs s_is_within) (defBody s_is_within) (defScope s_is_within) .none qas qat qau q3w qav qaw), q6q⟩)
    (qr0 : codeIn K qav "is_within" = true)
    (qr1 : keepIn K (.ref q0p) = true)
    (qr2 : nsIn K mainGlobals "are_within" = some (some (.ref q0q)))
    (qr3 : K.lookup q0q = some ⟨qax, q3x, .func (fnOf "are_within" "are_within" (defArgs s_are_within) (defBody s_are_within) (defScope s_are_within) .none qay qaz qb0 q3y qb1 qb2), q6r⟩)
    (qr4 : codeIn K qb1 "are_within" = true)
    (qr5 : keepIn K (.ref q0q) = true)
    (qr6 : findIn K (.ref q03) "__init__" = some (some (.ref q0r)))
    (qr7 : isFn K (.ref q0r) = true)
    (qr8 : K.lookup q0r = some ⟨qb3, q3z, .func (fnOf "__init__" "Trade.__init__" (defArgs s_Trade_init) (defBody s_Trade_init) (defScope s_Trade_init) .none qb4 qb5 qb6 q40 qb7 qb8), q6s⟩)
    (qr9 : codeIn K qb7 "Trade.__init__" = true)
    (qra : keepIn K (.ref q0r) = true)
    (qrb : findIn K (.ref q04) "__init__" = some (some (.ref q0s)))
    (qrc : isFn K (.ref q0s) = true)
    (qrd : K.lookup q0s = some ⟨qb9, q41, .func (fnOf "__init__" "Book.__init__" (defArgs s_Book_init) (defBody s_Book_init) (defScope s_Book_init) .none qba qbb qbc q42 qbd qbe), q6t⟩)
    (qre : codeIn K qbd "Book.__init__" = true)
    (qrf : keepIn K (.ref q0s) = true)
    (qrg : findIn K (.ref q05) "__init__" = some (some (.ref q0t)))
    (qrh : isFn K (.ref q0t) = true)
    (qri : K.lookup q0t = some ⟨qbf, q43, .func (fnOf "__init__" "Diary.__init__" (defArgs s_Diary_init) (defBody s_Diary_init) (defScope s_Diary_init) .none qbg qbh qbi q44 qbj qbk), q6u⟩)
    (qrj : codeIn K qbj "Diary.__init__" = true)
    (qrk : keepIn K (.ref q0t) = true)
    (qrl : nsIn K mainGlobals "go_ex" = some (some (.ref q0u)))
    (qrm : K.lookup q0u = some ⟨qbl, q45, .func (fnOf "go_ex" "go_ex" (defArgs s_go_ex) (defBody s_go_ex) (defScope s_go_ex) .none qbm qbn qbo q46 qbp qbq), q6v⟩)
    (qrn : codeIn K qbp "go_ex" = true)
    (qro : keepIn K (.ref q0u) = true)
    (qrp : nsIn K mainGlobals "take_in" = some (some (.ref q0v)))
    (qrq : K.lookup q0v = some ⟨qbr, q47, .func (fnOf "take_in" "take_in" (defArgs s_take_in) (defBody s_take_in) (defScope s_take_in) .none qbs qbt qbu q48 qbv qbw), q6w⟩)
    (qrr : codeIn K qbv "take_in" = true)
    (qrs : keepIn K (.ref q0v) = true)
    (qrt : nsIn K mainGlobals "settle" = some (some (.ref q0w)))
    (qru : K.lookup q0w = some ⟨qbx, q49, .func (fnOf "settle" "settle" (defArgs s_settle) (defBody s_settle) (defScope s_settle) .none qby qbz qc0 q4a qc1 qc2), q6x⟩)
    (qrv : codeIn K qc1 "settle" = true)
    (qrw : keepIn K (.ref q0w) = true)
    (qrx : nsIn K mainGlobals "pass_day" = some (some (.ref q0x)))
    (qry : K.lookup q0x = some ⟨qc3, q4b, .func (fnOf "pass_day" "pass_day" (defArgs s_pass_day) (defBody s_pass_day) (defScope s_pass_day) .none qc4 qc5 qc6 q4c qc7 qc8), q6y⟩)
    (qrz : codeIn K qc7 "pass_day" = true)
    (qs0 : keepIn K (.ref q0x) = true)
    (qs1 : nsIn K mainGlobals "book_of_evening" = some (some (.ref q0y)))
    (qs2 : K.lookup q0y = some ⟨qc9, q4d, .func (fnOf "book_of_evening" "book_of_evening" (defArgs s_book_of_evening) (defBody s_book_of_evening) (defScope s_book_of_evening) .none qca qcb qcc q4e qcd qce), q6z⟩)
    (qs3 : codeIn K qcd "book_of_evening" = true)
    (qs4 : keepIn K (.ref q0y) = true)
    (qs5 : nsIn K mainGlobals "is_possible" = some (some (.ref q0z)))
    (qs6 : K.lookup q0z = some ⟨qcf, q4f, .func (fnOf "is_possible" "is_possible" (defArgs s_is_possible) (defBody s_is_possible) (defScope s_is_possible) .none qcg qch qci q4g qcj qck), q70⟩)
    (qs7 : codeIn K qcj "is_possible" = true)
    (qs8 : keepIn K (.ref q0z) = true)
    (qs9 : nsIn K mainGlobals "are_possible" = some (some (.ref q10)))
    (qsa : K.lookup q10 = some ⟨qcl, q4h, .func (fnOf "are_possible" "are_possible" (defArgs s_are_possible) (defBody s_are_possible) (defScope s_are_possible) .none qcm qcn qco q4i qcp qcq), q71⟩)
    (qsb : codeIn K qcp "are_possible" = true)
    (qsc : keepIn K (.ref q10) = true)
    (qsd : findIn K (.ref q06) "__init__" = some (some (.ref q11)))
    (qse : isFn K (.ref q11) = true)
    (qsf : K.lookup q11 = some ⟨qcr, q4j, .func (fnOf "__init__" "Price.__init__" (defArgs s_Price_init) (defBody s_Price_init) (defScope s_Price_init) .none qcs qct qcu q4k qcv qcw), q72⟩)
    (qsg : codeIn K qcv "Price.__init__" = true)
    (qsh : keepIn K (.ref q11) = true)
    (qsi : nsIn K mainGlobals "is_priced" = some (some (.ref q12)))
    (qsj : K.lookup q12 = some ⟨qcx, q4l, .func (fnOf "is_priced" "is_priced" (defArgs s_is_priced) (defBody s_is_priced) (defScope s_is_priced) .none qcy qcz qd0 q4m qd1 qd2), q73⟩)
    (qsk : codeIn K qd1 "is_priced" = true)
    (qsl : keepIn K (.ref q12) = true)
    (qsm : nsIn K mainGlobals "price_of_evening" = some (some (.ref q13)))
    (qsn : K.lookup q13 = some ⟨qd3, q4n, .func (fnOf "price_of_evening" "price_of_evening" (defArgs s_price_of_evening) (defBody s_price_of_evening) (defScope s_price_of_evening) .none qd4 qd5 qd6 q4o qd7 qd8), q74⟩)
    (qso : codeIn K qd7 "price_of_evening" = true)
    (qsp : keepIn K (.ref q13) = true)
    (qsq : nsIn K mainGlobals "value_of_book" = some (some (.ref q14)))
    (qsr : K.lookup q14 = some ⟨qd9, q4p, .func (fnOf "value_of_book" "value_of_book" (defArgs s_value_of_book) (defBody s_value_of_book) (defScope s_value_of_book) .none qda qdb qdc q4q qdd qde), q75⟩)
    (qss : codeIn K qdd "value_of_book" = true)
    (qst : keepIn K (.ref q14) = true)
    (qsu : findIn K (.ref q07) "__init__" = some (some (.ref q15)))
    (qsv : isFn K (.ref q15) = true)
    (qsw : K.lookup q15 = some ⟨qdf, q4r, .func (fnOf "__init__" "Desk.__init__" (defArgs s_Desk_init) (defBody s_Desk_init) (defScope s_Desk_init) .none qdg qdh qdi q4s qdj qdk), q76⟩)
    (qsx : codeIn K qdj "Desk.__init__" = true)
    (qsy : keepIn K (.ref q15) = true)
    (qsz : nsIn K mainGlobals "tell_begin" = some (some (.ref q16)))
    (qt0 : K.lookup q16 = some ⟨qdl, q4t, .func (fnOf "tell_begin" "tell_begin" (defArgs s_tell_begin) (defBody s_tell_begin) (defScope s_tell_begin) .none qdm qdn qdo q4u qdp qdq), q77⟩)
    (qt1 : codeIn K qdp "tell_begin" = true)
    (qt2 : keepIn K (.ref q16) = true)
    (qt3 : nsIn K mainGlobals "tell_today" = some (some (.ref q17)))
    (qt4 : K.lookup q17 = some ⟨qdr, q4v, .func (fnOf "tell_today" "tell_today" (defArgs s_tell_today) (defBody s_tell_today) (defScope s_tell_today) .none qds qdt qdu q4w qdv qdw), q78⟩)
    (qt5 : codeIn K qdv "tell_today" = true)
    (qt6 : keepIn K (.ref q17) = true)
    (qt7 : nsIn K mainGlobals "tell_trade" = some (some (.ref q18)))
    (qt8 : K.lookup q18 = some ⟨qdx, q4x, .func (fnOf "tell_trade" "tell_trade" (defArgs s_tell_trade) (defBody s_tell_trade) (defScope s_tell_trade) .none qdy qdz qe0 q4y qe1 qe2), q79⟩)
    (qt9 : codeIn K qe1 "tell_trade" = true)
    (qta : keepIn K (.ref q18) = true)
    (qtb : nsIn K mainGlobals "is_replaced_already" = some (some (.ref q19)))
    (qtc : K.lookup q19 = some ⟨qe3, q4z, .func (fnOf "is_replaced_already" "is_replaced_already" (defArgs s_is_replaced_already) (defBody s_is_replaced_already) (defScope s_is_replaced_already) .none qe4 qe5 qe6 q50 qe7 qe8), q7a⟩)
    (qtd : codeIn K qe7 "is_replaced_already" = true)
    (qte : keepIn K (.ref q19) = true)
    (qtf : nsIn K mainGlobals "tell_action" = some (some (.ref q1a)))
    (qtg : K.lookup q1a = some ⟨qe9, q51, .func (fnOf "tell_action" "tell_action" (defArgs s_tell_action) (defBody s_tell_action) (defScope s_tell_action) .none qea qeb qec q52 qed qee), q7b⟩)
    (qth : codeIn K qed "tell_action" = true)
    (qti : keepIn K (.ref q1a) = true)
    (qtj : nsIn K mainGlobals "tell_dividend" = some (some (.ref q1b)))
    (qtk : K.lookup q1b = some ⟨qef, q53, .func (fnOf "tell_dividend" "tell_dividend" (defArgs s_tell_dividend) (defBody s_tell_dividend) (defScope s_tell_dividend) .none qeg qeh qei q54 qej qek), q7c⟩)
    (qtl : codeIn K qej "tell_dividend" = true)
    (qtm : keepIn K (.ref q1b) = true)
    (qtn : nsIn K mainGlobals "tell_split" = some (some (.ref q1c)))
    (qto : K.lookup q1c = some ⟨qel, q55, .func (fnOf "tell_split" "tell_split" (defArgs s_tell_split) (defBody s_tell_split) (defScope s_tell_split) .none qem qen qeo q56 qep qeq), q7d⟩)
    (qtp : codeIn K qep "tell_split" = true)
    (qtq : keepIn K (.ref q1c) = true)
    (qtr : nsIn K mainGlobals "tell_spinoff" = some (some (.ref q1d)))
    (qts : K.lookup q1d = some ⟨qer, q57, .func (fnOf "tell_spinoff" "tell_spinoff" (defArgs s_tell_spinoff) (defBody s_tell_spinoff) (defScope s_tell_spinoff) .none qes qet qeu q58 qev qew), q7e⟩)
    (qtt : codeIn K qev "tell_spinoff" = true)
    (qtu : keepIn K (.ref q1d) = true)
    (qtv : nsIn K mainGlobals "tell_rights" = some (some (.ref q1e)))
    (qtw : K.lookup q1e = some ⟨qex, q59, .func (fnOf "tell_rights" "tell_rights" (defArgs s_tell_rights) (defBody s_tell_rights) (defScope s_tell_rights) .none qey qez qf0 q5a qf1 qf2), q7f⟩)
    (qtx : codeIn K qf1 "tell_rights" = true)
    (qty : keepIn K (.ref q1e) = true)
    (qtz : nsIn K mainGlobals "tell_takeover" = some (some (.ref q1f)))
    (qu0 : K.lookup q1f = some ⟨qf3, q5b, .func (fnOf "tell_takeover" "tell_takeover" (defArgs s_tell_takeover) (defBody s_tell_takeover) (defScope s_tell_takeover) .none qf4 qf5 qf6 q5c qf7 qf8), q7g⟩)
    (qu1 : codeIn K qf7 "tell_takeover" = true)
    (qu2 : keepIn K (.ref q1f) = true)
    (qu3 : nsIn K mainGlobals "tell_choose" = some (some (.ref q1g)))
    (qu4 : K.lookup q1g = some ⟨qf9, q5d, .func (fnOf "tell_choose" "tell_choose" (defArgs s_tell_choose) (defBody s_tell_choose) (defScope s_tell_choose) .none qfa qfb qfc q5e qfd qfe), q7h⟩)
    (qu5 : codeIn K qfd "tell_choose" = true)
    (qu6 : keepIn K (.ref q1g) = true)
    (qu7 : nsIn K mainGlobals "tell_price" = some (some (.ref q1h)))
    (qu8 : K.lookup q1h = some ⟨qff, q5f, .func (fnOf "tell_price" "tell_price" (defArgs s_tell_price) (defBody s_tell_price) (defScope s_tell_price) .none qfg qfh qfi q5g qfj qfk), q7i⟩)
    (qu9 : codeIn K qfj "tell_price" = true)
    (qua : keepIn K (.ref q1h) = true)
    (qub : nsIn K mainGlobals "tell" = some (some (.ref q1i)))
    (quc : K.lookup q1i = some ⟨qfl, q5h, .func (fnOf "tell" "tell" (defArgs s_tell) (defBody s_tell) (defScope s_tell) .none qfm qfn qfo q5i qfp qfq), q7j⟩)
    (qud : codeIn K qfp "tell" = true)
    (que : keepIn K (.ref q1i) = true)
    (quf : nsIn K mainGlobals "book_on" = some (some (.ref q1j)))
    (qug : K.lookup q1j = some ⟨qfr, q5j, .func (fnOf "book_on" "book_on" (defArgs s_book_on) (defBody s_book_on) (defScope s_book_on) .none qfs qft qfu q5k qfv qfw), q7k⟩)
    (quh : codeIn K qfv "book_on" = true)
    (qui : keepIn K (.ref q1j) = true)
    (quj : nsIn K mainGlobals "due_numbers" = some (some (.ref q1k)))
    (quk : K.lookup q1k = some ⟨qfx, q5l, .func (fnOf "due_numbers" "due_numbers" (defArgs s_due_numbers) (defBody s_due_numbers) (defScope s_due_numbers) .none qfy qfz qg0 q5m qg1 qg2), q7l⟩)
    (qul : codeIn K qg1 "due_numbers" = true)
    (qum : keepIn K (.ref q1k) = true)
    (qun : nsIn K mainGlobals "ask_position" = some (some (.ref q1l)))
    (quo : K.lookup q1l = some ⟨qg3, q5n, .func (fnOf "ask_position" "ask_position" (defArgs s_ask_position) (defBody s_ask_position) (defScope s_ask_position) .none qg4 qg5 qg6 q5o qg7 qg8), q7m⟩)
    (qup : codeIn K qg7 "ask_position" = true)
    (quq : keepIn K (.ref q1l) = true)
    (qur : nsIn K mainGlobals "ask_positions" = some (some (.ref q1m)))
    (qus : K.lookup q1m = some ⟨qg9, q5p, .func (fnOf "ask_positions" "ask_positions" (defArgs s_ask_positions) (defBody s_ask_positions) (defScope s_ask_positions) .none qga qgb qgc q5q qgd qge), q7n⟩)
    (qut : codeIn K qgd "ask_positions" = true)
    (quu : keepIn K (.ref q1m) = true)
    (quv : nsIn K mainGlobals "ask_cash" = some (some (.ref q1n)))
    (quw : K.lookup q1n = some ⟨qgf, q5r, .func (fnOf "ask_cash" "ask_cash" (defArgs s_ask_cash) (defBody s_ask_cash) (defScope s_ask_cash) .none qgg qgh qgi q5s qgj qgk), q7o⟩)
    (qux : codeIn K qgj "ask_cash" = true)
    (quy : keepIn K (.ref q1n) = true)
    (quz : nsIn K mainGlobals "ask_due" = some (some (.ref q1o)))
    (qv0 : K.lookup q1o = some ⟨qgl, q5t, .func (fnOf "ask_due" "ask_due" (defArgs s_ask_due) (defBody s_ask_due) (defScope s_ask_due) .none qgm qgn qgo q5u qgp qgq), q7p⟩)
    (qv1 : codeIn K qgp "ask_due" = true)
    (qv2 : keepIn K (.ref q1o) = true)
    (qv3 : nsIn K mainGlobals "ask_value" = some (some (.ref q1p)))
    (qv4 : K.lookup q1p = some ⟨qgr, q5v, .func (fnOf "ask_value" "ask_value" (defArgs s_ask_value) (defBody s_ask_value) (defScope s_ask_value) .none qgs qgt qgu q5w qgv qgw), q7q⟩)
    (qv5 : codeIn K qgv "ask_value" = true)
    (qv6 : keepIn K (.ref q1p) = true)
    (qv7 : nsIn K mainGlobals "ask_entitled" = some (some (.ref q1q)))
    (qv8 : K.lookup q1q = some ⟨qgx, q5x, .func (fnOf "ask_entitled" "ask_entitled" (defArgs s_ask_entitled) (defBody s_ask_entitled) (defScope s_ask_entitled) .none qgy qgz qh0 q5y qh1 qh2), q7r⟩)
    (qv9 : codeIn K qh1 "ask_entitled" = true)
    (qva : keepIn K (.ref q1q) = true)
    (qvb : nsIn K mainGlobals "ask_action" = some (some (.ref q1r)))
    (qvc : K.lookup q1r = some ⟨qh3, q5z, .func (fnOf "ask_action" "ask_action" (defArgs s_ask_action) (defBody s_ask_action) (defScope s_ask_action) .none qh4 qh5 qh6 q60 qh7 qh8), q7s⟩)
    (qvd : codeIn K qh7 "ask_action" = true)
    (qve : keepIn K (.ref q1r) = true)
    (qvf : nsIn K mainGlobals "ask_counts" = some (some (.ref q1s)))
    (qvg : K.lookup q1s = some ⟨qh9, q61, .func (fnOf "ask_counts" "ask_counts" (defArgs s_ask_counts) (defBody s_ask_counts) (defScope s_ask_counts) .none qha qhb qhc q62 qhd qhe), q7t⟩)
    (qvh : codeIn K qhd "ask_counts" = true)
    (qvi : keepIn K (.ref q1s) = true)
    (qvj : nsIn K mainGlobals "ask" = some (some (.ref q1t)))
    (qvk : K.lookup q1t = some ⟨qhf, q63, .func (fnOf "ask" "ask" (defArgs s_ask) (defBody s_ask) (defScope s_ask) .none qhg qhh qhi q64 qhj qhk), q7u⟩)
    (qvl : codeIn K qhj "ask" = true)
    (qvm : keepIn K (.ref q1t) = true)
    (qvn : nsIn K mainGlobals "answer" = some (some (.ref q1u)))
    (qvo : K.lookup q1u = some ⟨qhl, q65, .func (fnOf "answer" "answer" (defArgs s_answer) (defBody s_answer) (defScope s_answer) .none qhm qhn qho q66 qhp qhq), q7v⟩)
    (qvp : codeIn K qhp "answer" = true)
    (qvq : keepIn K (.ref q1u) = true)
    (qvr : nsIn K mainGlobals "answers" = some (some (.ref q1v)))
    (qvs : K.lookup q1v = some ⟨qhr, q67, .func (fnOf "answers" "answers" (defArgs s_answers) (defBody s_answers) (defScope s_answers) .none qhs qht qhu q68 qhv qhw), q7w⟩)
    (qvt : codeIn K qhv "answers" = true)
    (qvu : keepIn K (.ref q1v) = true)
    (qvv : plainGet K q00 Str.empty = true)
    (qvw : hasDictIn K q00 = true)
    (qvx : plainOver K q00 = true)
    (qvy : findIn K (.ref q00) "__setattr__" = some (some (.builtin "object.__setattr__")))
    (qvz : makesIn K q00 = true)
    (qw0 : keepIn K (.ref q00) = true)
    (qw1 : findIn K (.ref q00) "kind" = some none)
    (qw2 : findIn K (.ref q00) "told" = some none)
    (qw3 : findIn K (.ref q00) "thing" = some none)
    (qw4 : findIn K (.ref q00) "other" = some none)
    (qw5 : findIn K (.ref q00) "ex" = some none)
    (qw6 : findIn K (.ref q00) "pay" = some none)
    (qw7 : findIn K (.ref q00) "last" = some none)
    (qw8 : findIn K (.ref q00) "a" = some none)
    (qw9 : findIn K (.ref q00) "b" = some none)
    (qwa : findIn K (.ref q00) "rate" = some none)
    (qwb : findIn K (.ref q00) "price" = some none)
    (qwc : findIn K (.ref q00) "for_each" = some none)
    (qwd : findIn K (.ref q00) "choice" = some none)
    (qwe : plainGet K q01 Str.empty = true)
    (qwf : hasDictIn K q01 = true)
    (qwg : plainOver K q01 = true)
    (qwh : findIn K (.ref q01) "__setattr__" = some (some (.builtin "object.__setattr__")))
    (qwi : makesIn K q01 = true)
    (qwj : keepIn K (.ref q01) = true)
    (qwk : findIn K (.ref q01) "pay" = some none)
    (qwl : findIn K (.ref q01) "cash" = some none)
    (qwm : findIn K (.ref q01) "thing" = some none)
    (qwn : findIn K (.ref q01) "quantity" = some none)
    (qwo : plainGet K q02 Str.empty = true)
    (qwp : hasDictIn K q02 = true)
    (qwq : plainOver K q02 = true)
    (qwr : findIn K (.ref q02) "__setattr__" = some (some (.builtin "object.__setattr__")))
    (qws : makesIn K q02 = true)
    (qwt : keepIn K (.ref q02) = true)
    (qwu : findIn K (.ref q02) "held" = some none)
    (qwv : findIn K (.ref q02) "change" = some none)
    (qww : findIn K (.ref q02) "spun" = some none)
    (qwx : findIn K (.ref q02) "due" = some none)
    (qwy : plainGet K q03 Str.empty = true)
    (qwz : hasDictIn K q03 = true)
    (qx0 : plainOver K q03 = true)
    (qx1 : findIn K (.ref q03) "__setattr__" = some (some (.builtin "object.__setattr__")))
    (qx2 : makesIn K q03 = true)
    (qx3 : keepIn K (.ref q03) = true)
    (qx4 : findIn K (.ref q03) "day" = some none)
    (qx5 : findIn K (.ref q03) "thing" = some none)
    (qx6 : findIn K (.ref q03) "quantity" = some none)
    (qx7 : findIn K (.ref q03) "money" = some none)
    (qx8 : plainGet K q04 Str.empty = true)
    (qx9 : hasDictIn K q04 = true)
    (qxa : plainOver K q04 = true)
    (qxb : findIn K (.ref q04) "__setattr__" = some (some (.builtin "object.__setattr__")))
    (qxc : makesIn K q04 = true)
    (qxd : keepIn K (.ref q04) = true)
    (qxe : findIn K (.ref q04) "quantities" = some none)
    (qxf : findIn K (.ref q04) "cash" = some none)
    (qxg : findIn K (.ref q04) "dues" = some none)
    (qxh : plainGet K q05 Str.empty = true)
    (qxi : hasDictIn K q05 = true)
    (qxj : plainOver K q05 = true)
    (qxk : findIn K (.ref q05) "__setattr__" = some (some (.builtin "object.__setattr__")))
    (qxl : makesIn K q05 = true)
    (qxm : keepIn K (.ref q05) = true)
    (qxn : findIn K (.ref q05) "trades_on" = some none)
    (qxo : findIn K (.ref q05) "actions_on" = some none)
    (qxp : findIn K (.ref q05) "days" = some none)
    (qxq : plainGet K q06 Str.empty = true)
    (qxr : hasDictIn K q06 = true)
    (qxs : plainOver K q06 = true)
    (qxt : findIn K (.ref q06) "__setattr__" = some (some (.builtin "object.__setattr__")))
    (qxu : makesIn K q06 = true)
    (qxv : keepIn K (.ref q06) = true)
    (qxw : findIn K (.ref q06) "day" = some none)
    (qxx : findIn K (.ref q06) "thing" = some none)
    (qxy : findIn K (.ref q06) "price" = some none)
    (qxz : plainGet K q07 Str.empty = true)
    (qy0 : hasDictIn K q07 = true)
    (qy1 : plainOver K q07 = true)
    (qy2 : findIn K (.ref q07) "__setattr__" = some (some (.builtin "object.__setattr__")))
    (qy3 : makesIn K q07 = true)
    (qy4 : keepIn K (.ref q07) = true)
    (qy5 : findIn K (.ref q07) "today" = some none)
    (qy6 : findIn K (.ref q07) "trades" = some none)
    (qy7 : findIn K (.ref q07) "actions" = some none)
    (qy8 : findIn K (.ref q07) "prices" = some none)
    (qy9 : nsIn K mainGlobals "DIVIDEND" = some (some (.int (1) qkd)))
    (qya : nsIn K mainGlobals "SPLIT" = some (some (.int (2) qke)))
    (qyb : nsIn K mainGlobals "SPINOFF" = some (some (.int (3) qkf)))
    (qyc : nsIn K mainGlobals "RIGHTS" = some (some (.int (4) qkg)))
    (qyd : nsIn K mainGlobals "TAKEOVER" = some (some (.int (5) qkh)))
    (qye : nsIn K mainGlobals "MILLION" = some (some (.int (1000000) qki)))
    (qyf : nsIn K mainGlobals "THINGS" = some (some (.int (12) qkj)))
    (qyg : nsIn K mainGlobals "MOST_TRADES" = some (some (.int (100) qkk)))
    (qyh : nsIn K mainGlobals "MOST_ACTIONS" = some (some (.int (30) qkl)))
    (qyi : nsIn K mainGlobals "MOST_PRICES" = some (some (.int (200) qkm)))
    (qyj : nsIn K mainGlobals "GREATEST_QUANTITY" = some (some (.int (1000000000000000) qkn)))
    (qyk : nsIn K mainGlobals "OUT_OF_RANGE" = some (some (.int (-1) qko)))
    (qyl : nsIn K mainGlobals "PAY_TOO_EARLY" = some (some (.int (-3) qkp)))
    (qym : nsIn K mainGlobals "NOT_THERE" = some (some (.int (-4) qkq)))
    (qyn : nsIn K mainGlobals "TOLD_ALREADY" = some (some (.int (-5) qkr)))
    (qyo : nsIn K mainGlobals "NOT_FITTING" = some (some (.int (-6) qks)))
    (qyp : nsIn K mainGlobals "QUANTITY_IMPOSSIBLE" = some (some (.int (-7) qkt)))
    (qyq : nsIn K mainGlobals "FULL" = some (some (.int (-8) qku)))
    (qyr : nsIn K mainGlobals "TOO_LATE" = some (some (.int (-9) qkv)))
    (qys : nsIn K mainGlobals "FIRST_QUESTION" = some (some (.int (10) qkw)))
    (qyt : nsIn K mainGlobals "len" = some none)
    (qyu : nsIn K mainGlobals "min" = some none)
    (qyv : nsIn K mainGlobals "max" = some none)
    (qyw : nsIn K mainGlobals "any" = some none)
    (qyx : nsIn K mainGlobals "all" = some none)
    (qyy : nsIn K mainGlobals "sorted" = some none)
    (qyz : nsIn K mainGlobals "set" = some none)
    (qz0 : nsIn K mainGlobals "list" = some none)
    (qz1 : nsIn K mainGlobals "dict" = some none)
    (qz2 : nsIn K mainGlobals "zip" = some none)
    (qz3 : nsIn K mainGlobals "range" = some none)
    (qz4 : nsIn K mainGlobals "RANGES" = some (some (.ref q1w)))
    (qz5 : nsIn K mainGlobals "TELLINGS" = some (some (.ref q1x)))
    (qz6 : nsIn K mainGlobals "QUESTIONS" = some (some (.ref q1y)))
    (qz7 : nsIn K mainGlobals "ARGUMENTS" = some (some (.ref q1z)))
    (qz8 : K.lookup q1w = some ⟨.type "dict", none, .dict #[⟨qiy, .str "thing" qkx, .ref q20⟩, ⟨qiz, .str "other" qky, .ref q21⟩, ⟨qj0, .str "day" qkz, .ref q22⟩, ⟨qj1, .str "ex" ql0, .ref q23⟩, ⟨qj2, .str "pay" ql1, .ref q24⟩, ⟨qj3, .str "last" ql2, .ref q25⟩, ⟨qj4, .str "price" ql3, .ref q26⟩, ⟨qj5, .str "rate" ql4, .ref q27⟩, ⟨qj6, .str "for_each" ql5, .ref q28⟩, ⟨qj7, .str "a" ql6, .ref q29⟩, ⟨qj8, .str "b" ql7, .ref q2a⟩, ⟨qj9, .str "choice" ql8, .ref q2b⟩, ⟨qja, .str "quantity" ql9, .ref q2c⟩, ⟨qjb, .str "money" qla, .ref q2d⟩, ⟨qjc, .str "number" qlb, .ref q2e⟩] qhx, #[]⟩)
    (qz9 : K.lookup q1x = some ⟨.type "dict", none, .dict #[⟨qjd, .int 0 qlc, .ref q16⟩, ⟨qje, .int 1 qld, .ref q17⟩, ⟨qjf, .int 2 qle, .ref q18⟩, ⟨qjg, .int 3 qlf, .ref q1b⟩, ⟨qjh, .int 4 qlg, .ref q1c⟩, ⟨qji, .int 5 qlh, .ref q1d⟩, ⟨qjj, .int 6 qli, .ref q1e⟩, ⟨qjk, .int 7 qlj, .ref q1f⟩, ⟨qjl, .int 8 qlk, .ref q1g⟩, ⟨qjm, .int 9 qll, .ref q1h⟩] qhy, #[]⟩)
    (qza : K.lookup q1y = some ⟨.type "dict", none, .dict #[⟨qjn, .int 10 qlm, .ref q1l⟩, ⟨qjo, .int 11 qln, .ref q1m⟩, ⟨qjp, .int 12 qlo, .ref q1n⟩, ⟨qjq, .int 13 qlp, .ref q1o⟩, ⟨qjr, .int 14 qlq, .ref q1p⟩, ⟨qjs, .int 15 qlr, .ref q1q⟩, ⟨qjt, .int 16 qls, .ref q1r⟩, ⟨qju, .int 17 qlt, .ref q1s⟩] qhz, #[]⟩)
    (qzb : K.lookup q1z = some ⟨.type "dict", none, .dict #[⟨qjv, .int 0 qlu, .ref q2f⟩, ⟨qjw, .int 1 qlv, .ref q2g⟩, ⟨qjx, .int 2 qlw, .ref q2h⟩, ⟨qjy, .int 3 qlx, .ref q2i⟩, ⟨qjz, .int 4 qly, .ref q2j⟩, ⟨qk0, .int 5 qlz, .ref q2k⟩, ⟨qk1, .int 6 qm0, .ref q2l⟩, ⟨qk2, .int 7 qm1, .ref q2m⟩, ⟨qk3, .int 8 qm2, .ref q2n⟩, ⟨qk4, .int 9 qm3, .ref q2o⟩, ⟨qk5, .int 10 qm4, .ref q2p⟩, ⟨qk6, .int 11 qm5, .ref q2q⟩, ⟨qk7, .int 12 qm6, .ref q2r⟩, ⟨qk8, .int 13 qm7, .ref q2s⟩, ⟨qk9, .int 14 qm8, .ref q2t⟩, ⟨qka, .int 15 qm9, .ref q2u⟩, ⟨qkb, .int 16 qma, .ref q2v⟩, ⟨qkc, .int 17 qmb, .ref q2w⟩] qi0, #[]⟩)
    (qzc : K.lookup q20 = some ⟨.type "tuple", none, .seq #[.int (1) qmc, .int (12) qmd] qi1, #[]⟩)
    (qzd : K.lookup q21 = some ⟨.type "tuple", none, .seq #[.int (1) qme, .int (12) qmf] qi2, #[]⟩)
    (qze : K.lookup q22 = some ⟨.type "tuple", none, .seq #[.int (0) qmg, .int (100000) qmh] qi3, #[]⟩)
    (qzf : K.lookup q23 = some ⟨.type "tuple", none, .seq #[.int (0) qmi, .int (100000) qmj] qi4, #[]⟩)
    (qzg : K.lookup q24 = some ⟨.type "tuple", none, .seq #[.int (0) qmk, .int (100000) qml] qi5, #[]⟩)
    (qzh : K.lookup q25 = some ⟨.type "tuple", none, .seq #[.int (0) qmm, .int (100000) qmn] qi6, #[]⟩)
    (qzi : K.lookup q26 = some ⟨.type "tuple", none, .seq #[.int (0) qmo, .int (1000000000000) qmp] qi7, #[]⟩)
    (qzj : K.lookup q27 = some ⟨.type "tuple", none, .seq #[.int (0) qmq, .int (1000000000000) qmr] qi8, #[]⟩)
    (qzk : K.lookup q28 = some ⟨.type "tuple", none, .seq #[.int (0) qms, .int (1000000000000) qmt] qi9, #[]⟩)
    (qzl : K.lookup q29 = some ⟨.type "tuple", none, .seq #[.int (1) qmu, .int (1000) qmv] qia, #[]⟩)
    (qzm : K.lookup q2a = some ⟨.type "tuple", none, .seq #[.int (1) qmw, .int (1000) qmx] qib, #[]⟩)
    (qzn : K.lookup q2b = some ⟨.type "tuple", none, .seq #[.int (0) qmy, .int (1000000000000) qmz] qic, #[]⟩)
    (qzo : K.lookup q2c = some ⟨.type "tuple", none, .seq #[.int (-1000000000) qn0, .int (1000000000) qn1] qid, #[]⟩)
    (qzp : K.lookup q2d = some ⟨.type "tuple", none, .seq #[.int (0) qn2, .int (1000000000000) qn3] qie, #[]⟩)
    (qzq : K.lookup q2e = some ⟨.type "tuple", none, .seq #[.int (1) qn4, .int (1000000) qn5] qif, #[]⟩)
    (qzr : K.lookup q2f = some ⟨.type "tuple", none, .seq #[] qig, #[]⟩)
    (qzs : K.lookup q2g = some ⟨.type "tuple", none, .seq #[.str "day" qn6] qih, #[]⟩)
    (qzt : K.lookup q2h = some ⟨.type "tuple", none, .seq #[.str "day" qn7, .str "thing" qn8, .str "quantity" qn9, .str "money" qna] qii, #[]⟩)
    (qzu : K.lookup q2i = some ⟨.type "tuple", none, .seq #[.str "thing" qnb, .str "ex" qnc, .str "pay" qnd, .str "rate" qne] qij, #[]⟩)
    (qzv : K.lookup q2j = some ⟨.type "tuple", none, .seq #[.str "thing" qnf, .str "ex" qng, .str "pay" qnh, .str "a" qni, .str "b" qnj, .str "price" qnk] qik, #[]⟩)
    (qzw : K.lookup q2k = some ⟨.type "tuple", none, .seq #[.str "thing" qnl, .str "other" qnm, .str "ex" qnn, .str "pay" qno, .str "a" qnp, .str "b" qnq, .str "price" qnr] qil, #[]⟩)
    (qzx : K.lookup q2l = some ⟨.type "tuple", none, .seq #[.str "thing" qns, .str "ex" qnt, .str "pay" qnu, .str "last" qnv, .str "a" qnw, .str "b" qnx, .str "price" qny, .str "for_each" qnz, .str "choice" qo0] qim, #[]⟩)
    (qzy : K.lookup q2m = some ⟨.type "tuple", none, .seq #[.str "thing" qo1, .str "other" qo2, .str "ex" qo3, .str "pay" qo4, .str "last" qo5, .str "a" qo6, .str "b" qo7, .str "for_each" qo8, .str "price" qo9, .str "choice" qoa] qin, #[]⟩)
    (qzz : K.lookup q2n = some ⟨.type "tuple", none, .seq #[.str "number" qob, .str "choice" qoc] qio, #[]⟩)
    (q100 : K.lookup q2o = some ⟨.type "tuple", none, .seq #[.str "day" qod, .str "thing" qoe, .str "price" qof] qip, #[]⟩)
    (q101 : K.lookup q2p = some ⟨.type "tuple", none, .seq #[.str "day" qog, .str "thing" qoh] qiq, #[]⟩)
    (q102 : K.lookup q2q = some ⟨.type "tuple", none, .seq #[.str "day" qoi] qir, #[]⟩)
    (q103 : K.lookup q2r = some ⟨.type "tuple", none, .seq #[.str "day" qoj] qis, #[]⟩)
    (q104 : K.lookup q2s = some ⟨.type "tuple", none, .seq #[.str "day" qok] qit, #[]⟩)
    (q105 : K.lookup q2t = some ⟨.type "tuple", none, .seq #[.str "day" qol] qiu, #[]⟩)
    (q106 : K.lookup q2u = some ⟨.type "tuple", none, .seq #[.str "number" qom] qiv, #[]⟩)
    (q107 : K.lookup q2v = some ⟨.type "tuple", none, .seq #[.str "number" qon] qiw, #[]⟩)
    (q108 : K.lookup q2w = some ⟨.type "tuple", none, .seq #[] qix, #[]⟩)
    (q109 : qjd = hashInt 0)
    (q10a : qje = hashInt 1)
    (q10b : qjf = hashInt 2)
    (q10c : qjg = hashInt 3)
    (q10d : qjh = hashInt 4)
    (q10e : qji = hashInt 5)
    (q10f : qjj = hashInt 6)
    (q10g : qjk = hashInt 7)
    (q10h : qjl = hashInt 8)
    (q10i : qjm = hashInt 9)
    (q10j : qjn = hashInt 10)
    (q10k : qjo = hashInt 11)
    (q10l : qjp = hashInt 12)
    (q10m : qjq = hashInt 13)
    (q10n : qjr = hashInt 14)
    (q10o : qjs = hashInt 15)
    (q10p : qjt = hashInt 16)
    (q10q : qju = hashInt 17)
    (q10r : qjv = hashInt 0)
    (q10s : qjw = hashInt 1)
    (q10t : qjx = hashInt 2)
    (q10u : qjy = hashInt 3)
    (q10v : qjz = hashInt 4)
    (q10w : qk0 = hashInt 5)
    (q10x : qk1 = hashInt 6)
    (q10y : qk2 = hashInt 7)
    (q10z : qk3 = hashInt 8)
    (q110 : qk4 = hashInt 9)
    (q111 : qk5 = hashInt 10)
    (q112 : qk6 = hashInt 11)
    (q113 : qk7 = hashInt 12)
    (q114 : qk8 = hashInt 13)
    (q115 : qk9 = hashInt 14)
    (q116 : qka = hashInt 15)
    (q117 : qkb = hashInt 16)
    (q118 : qkc = hashInt 17)
    (q119 : (q1w == sysModules) = false) :
    ∃ fd : FuncData, (∀ (s : Shared) (us : List Value), us.length = (["calls"] : List Str).length → BindsTo s fd ⟨us, []⟩ ((["calls"] : List Str).zip us)) ∧ ∀ base : Heap, K.In base → base.Ns mainGlobals mg → FnOk P w K mg base CX0 12 fa fd ["calls"] (spAns K) := by
  have e := hfa.symm.trans (mg_of X G qvr)
  cases e
  have T : Txt K mg ⟨q00, q01, q02, q03, q04, q05, q06, q07, q1w, q1x, q1y, q1z⟩ := { g_DIVIDEND := ⟨_, mg_of X G qy9⟩, g_SPLIT := ⟨_, mg_of X G qya⟩, g_SPINOFF := ⟨_, mg_of X G qyb⟩, g_RIGHTS := ⟨_, mg_of X G qyc⟩, g_TAKEOVER := ⟨_, mg_of X G qyd⟩, g_MILLION := ⟨_, mg_of X G qye⟩, g_THINGS := ⟨_, mg_of X G qyf⟩, g_MOST_TRADES := ⟨_, mg_of X G qyg⟩, g_MOST_ACTIONS := ⟨_, mg_of X G qyh⟩, g_MOST_PRICES := ⟨_, mg_of X G qyi⟩, g_GREATEST_QUANTITY := ⟨_, mg_of X G qyj⟩, g_OUT_OF_RANGE := ⟨_, mg_of X G qyk⟩, g_PAY_TOO_EARLY := ⟨_, mg_of X G qyl⟩, g_NOT_THERE := ⟨_, mg_of X G qym⟩, g_TOLD_ALREADY := ⟨_, mg_of X G qyn⟩, g_NOT_FITTING := ⟨_, mg_of X G qyo⟩, g_QUANTITY_IMPOSSIBLE := ⟨_, mg_of X G qyp⟩, g_FULL := ⟨_, mg_of X G qyq⟩, g_TOO_LATE := ⟨_, mg_of X G qyr⟩, g_FIRST_QUESTION := ⟨_, mg_of X G qys⟩, d_RANGES := mg_of X G qz4, d_TELLINGS := mg_of X G qz5, d_QUESTIONS := mg_of X G qz6, d_ARGUMENTS := mg_of X G qz7, b_len := mg_none_of X G qyt, b_min := mg_none_of X G qyu, b_max := mg_none_of X G qyv, b_any := mg_none_of X G qyw, b_all := mg_none_of X G qyx, b_sorted := mg_none_of X G qyy, b_set := mg_none_of X G qyz, b_list := mg_none_of X G qz0, b_dict := mg_none_of X G qz1, b_zip := mg_none_of X G qz2, b_range := mg_none_of X G qz3, c_Action := ⟨qvv, qvw, qvx, qvy⟩, nAction_kind := qw1, nAction_told := qw2, nAction_thing := qw3, nAction_other := qw4, nAction_ex := qw5, nAction_pay := qw6, nAction_last := qw7, nAction_a := qw8, nAction_b := qw9, nAction_rate := qwa, nAction_price := qwb, nAction_for_each := qwc, nAction_choice := qwd, c_Due := ⟨qwe, qwf, qwg, qwh⟩, nDue_pay := qwk, nDue_cash := qwl, nDue_thing := qwm, nDue_quantity := qwn, c_Entitlement := ⟨qwo, qwp, qwq, qwr⟩, nEntitlement_held := qwu, nEntitlement_change := qwv, nEntitlement_spun := qww, nEntitlement_due := qwx, c_Trade := ⟨qwy, qwz, qx0, qx1⟩, nTrade_day := qx4, nTrade_thing := qx5, nTrade_quantity := qx6, nTrade_money := qx7, c_Book := ⟨qx8, qx9, qxa, qxb⟩, nBook_quantities := qxe, nBook_cash := qxf, nBook_dues := qxg, c_Diary := ⟨qxh, qxi, qxj, qxk⟩, nDiary_trades_on := qxn, nDiary_actions_on := qxo, nDiary_days := qxp, c_Price := ⟨qxq, qxr, qxs, qxt⟩, nPrice_day := qxw, nPrice_thing := qxx, nPrice_price := qxy, c_Desk := ⟨qxz, qy0, qy1, qy2⟩, nDesk_today := qy5, nDesk_trades := qy6, nDesk_actions := qy7, nDesk_prices := qy8 }
  have hR : KTD.tabLook isRef (fun b => K.lookup b) q1w [(("thing" : Str), q20), (("other" : Str), q21), (("day" : Str), q22), (("ex" : Str), q23), (("pay" : Str), q24), (("last" : Str), q25), (("price" : Str), q26), (("rate" : Str), q27), (("for_each" : Str), q28), (("a" : Str), q29), (("b" : Str), q2a), (("choice" : Str), q2b), (("quantity" : Str), q2c), (("money" : Str), q2d), (("number" : Str), q2e)] = true := by
    unfold KTD.tabLook
    rw [q119]
    dsimp only
    rw [qz8]
    simp [KTD.rowsLook, isRef]
  have hTELLINGS : intLook K q1x [((0 : Int), q16), ((1 : Int), q17), ((2 : Int), q18), ((3 : Int), q1b), ((4 : Int), q1c), ((5 : Int), q1d), ((6 : Int), q1e), ((7 : Int), q1f), ((8 : Int), q1g), ((9 : Int), q1h)] = true := by
    unfold intLook
    rw [qz9]
    simp [entI, isRef, q109, q10a, q10b, q10c, q10d, q10e, q10f, q10g, q10h, q10i]
  have hQUESTIONS : intLook K q1y [((10 : Int), q1l), ((11 : Int), q1m), ((12 : Int), q1n), ((13 : Int), q1o), ((14 : Int), q1p), ((15 : Int), q1q), ((16 : Int), q1r), ((17 : Int), q1s)] = true := by
    unfold intLook
    rw [qza]
    simp [entI, isRef, q10j, q10k, q10l, q10m, q10n, q10o, q10p, q10q]
  have hARGUMENTS : intLook K q1z [((0 : Int), q2f), ((1 : Int), q2g), ((2 : Int), q2h), ((3 : Int), q2i), ((4 : Int), q2j), ((5 : Int), q2k), ((6 : Int), q2l), ((7 : Int), q2m), ((8 : Int), q2n), ((9 : Int), q2o), ((10 : Int), q2p), ((11 : Int), q2q), ((12 : Int), q2r), ((13 : Int), q2s), ((14 : Int), q2t), ((15 : Int), q2u), ((16 : Int), q2v), ((17 : Int), q2w)] = true := by
    unfold intLook
    rw [qzb]
    simp [entI, isRef, q10r, q10s, q10t, q10u, q10v, q10w, q10x, q10y, q10z, q110, q111, q112, q113, q114, q115, q116, q117, q118]
  have B : Tabs P w K ⟨q00, q01, q02, q03, q04, q05, q06, q07, q1w, q1x, q1y, q1z⟩ := by
    refine ⟨fun n r hm => ?_, fun c ns hc => ?_⟩
    · simp only [rngs, List.mem_cons, List.not_mem_nil, or_false, Prod.mk.injEq] at hm
      rcases hm with ⟨rfl, rfl⟩ | ⟨rfl, rfl⟩ | ⟨rfl, rfl⟩ | ⟨rfl, rfl⟩ | ⟨rfl, rfl⟩ | ⟨rfl, rfl⟩ | ⟨rfl, rfl⟩ | ⟨rfl, rfl⟩ | ⟨rfl, rfl⟩ | ⟨rfl, rfl⟩ | ⟨rfl, rfl⟩ | ⟨rfl, rfl⟩ | ⟨rfl, rfl⟩ | ⟨rfl, rfl⟩ | ⟨rfl, rfl⟩
      · exact ⟨q20, mget_text hR rfl, fun H => tupLook_is (by unfold tupLook; rw [qzc]; rfl)⟩
      · exact ⟨q21, mget_text hR rfl, fun H => tupLook_is (by unfold tupLook; rw [qzd]; rfl)⟩
      · exact ⟨q22, mget_text hR rfl, fun H => tupLook_is (by unfold tupLook; rw [qze]; rfl)⟩
      · exact ⟨q23, mget_text hR rfl, fun H => tupLook_is (by unfold tupLook; rw [qzf]; rfl)⟩
      · exact ⟨q24, mget_text hR rfl, fun H => tupLook_is (by unfold tupLook; rw [qzg]; rfl)⟩
      · exact ⟨q25, mget_text hR rfl, fun H => tupLook_is (by unfold tupLook; rw [qzh]; rfl)⟩
      · exact ⟨q26, mget_text hR rfl, fun H => tupLook_is (by unfold tupLook; rw [qzi]; rfl)⟩
      · exact ⟨q27, mget_text hR rfl, fun H => tupLook_is (by unfold tupLook; rw [qzj]; rfl)⟩
      · exact ⟨q28, mget_text hR rfl, fun H => tupLook_is (by unfold tupLook; rw [qzk]; rfl)⟩
      · exact ⟨q29, mget_text hR rfl, fun H => tupLook_is (by unfold tupLook; rw [qzl]; rfl)⟩
      · exact ⟨q2a, mget_text hR rfl, fun H => tupLook_is (by unfold tupLook; rw [qzm]; rfl)⟩
      · exact ⟨q2b, mget_text hR rfl, fun H => tupLook_is (by unfold tupLook; rw [qzn]; rfl)⟩
      · exact ⟨q2c, mget_text hR rfl, fun H => tupLook_is (by unfold tupLook; rw [qzo]; rfl)⟩
      · exact ⟨q2d, mget_text hR rfl, fun H => tupLook_is (by unfold tupLook; rw [qzp]; rfl)⟩
      · exact ⟨q2e, mget_text hR rfl, fun H => tupLook_is (by unfold tupLook; rw [qzq]; rfl)⟩
    · match c, hc with
      | 0, hc =>
        cases hc
        exact ⟨q2f, mget_int hARGUMENTS rfl, fun H => tupLook_is (by unfold tupLook; rw [qzr]; rfl)⟩
      | 1, hc =>
        cases hc
        exact ⟨q2g, mget_int hARGUMENTS rfl, fun H => tupLook_is (by unfold tupLook; rw [qzs]; rfl)⟩
      | 2, hc =>
        cases hc
        exact ⟨q2h, mget_int hARGUMENTS rfl, fun H => tupLook_is (by unfold tupLook; rw [qzt]; rfl)⟩
      | 3, hc =>
        cases hc
        exact ⟨q2i, mget_int hARGUMENTS rfl, fun H => tupLook_is (by unfold tupLook; rw [qzu]; rfl)⟩
      | 4, hc =>
        cases hc
        exact ⟨q2j, mget_int hARGUMENTS rfl, fun H => tupLook_is (by unfold tupLook; rw [qzv]; rfl)⟩
      | 5, hc =>
        cases hc
        exact ⟨q2k, mget_int hARGUMENTS rfl, fun H => tupLook_is (by unfold tupLook; rw [qzw]; rfl)⟩
      | 6, hc =>
        cases hc
        exact ⟨q2l, mget_int hARGUMENTS rfl, fun H => tupLook_is (by unfold tupLook; rw [qzx]; rfl)⟩
      | 7, hc =>
        cases hc
        exact ⟨q2m, mget_int hARGUMENTS rfl, fun H => tupLook_is (by unfold tupLook; rw [qzy]; rfl)⟩
      | 8, hc =>
        cases hc
        exact ⟨q2n, mget_int hARGUMENTS rfl, fun H => tupLook_is (by unfold tupLook; rw [qzz]; rfl)⟩
      | 9, hc =>
        cases hc
        exact ⟨q2o, mget_int hARGUMENTS rfl, fun H => tupLook_is (by unfold tupLook; rw [q100]; rfl)⟩
      | 10, hc =>
        cases hc
        exact ⟨q2p, mget_int hARGUMENTS rfl, fun H => tupLook_is (by unfold tupLook; rw [q101]; rfl)⟩
      | 11, hc =>
        cases hc
        exact ⟨q2q, mget_int hARGUMENTS rfl, fun H => tupLook_is (by unfold tupLook; rw [q102]; rfl)⟩
      | 12, hc =>
        cases hc
        exact ⟨q2r, mget_int hARGUMENTS rfl, fun H => tupLook_is (by unfold tupLook; rw [q103]; rfl)⟩
      | 13, hc =>
        cases hc
        exact ⟨q2s, mget_int hARGUMENTS rfl, fun H => tupLook_is (by unfold tupLook; rw [q104]; rfl)⟩
      | 14, hc =>
        cases hc
        exact ⟨q2t, mget_int hARGUMENTS rfl, fun H => tupLook_is (by unfold tupLook; rw [q105]; rfl)⟩
      | 15, hc =>
        cases hc
        exact ⟨q2u, mget_int hARGUMENTS rfl, fun H => tupLook_is (by unfold tupLook; rw [q106]; rfl)⟩
      | 16, hc =>
        cases hc
        exact ⟨q2v, mget_int hARGUMENTS rfl, fun H => tupLook_is (by unfold tupLook; rw [q107]; rfl)⟩
      | 17, hc =>
        cases hc
        exact ⟨q2w, mget_int hARGUMENTS rfl, fun H => tupLook_is (by unfold tupLook; rw [q108]; rfl)⟩
      | _ + 18, hc => cases hc
  have q11a := fun_mk (st := s_Action_init) qoy qoz qp0
  have q12y := q11a.binds (ps := ["self", "kind", "told"]) fun _ _ _ _ _ _ us hl => match us, hl with | [_, _, _], _ => rfl
  have q11b := fun_mk (st := s_Action_with_choice) qp3 qp4 qp5
  have q12z := q11b.binds (ps := ["self", "choice"]) fun _ _ _ _ _ _ us hl => match us, hl with | [_, _], _ => rfl
  have q11c := fun_mk (st := s_Action_has_choice) qp8 qp9 qpa
  have q130 := q11c.binds (ps := ["self"]) fun _ _ _ _ _ _ us hl => match us, hl with | [_], _ => rfl
  have q11d := fun_mk (st := s_Action_replaces_holding) qpd qpe qpf
  have q131 := q11d.binds (ps := ["self"]) fun _ _ _ _ _ _ us hl => match us, hl with | [_], _ => rfl
  have q11e := fun_mk (st := s_Due_init) qpi qpj qpk
  have q132 := q11e.binds (ps := ["self", "pay", "cash", "thing", "quantity"]) fun _ _ _ _ _ _ us hl => match us, hl with | [_, _, _, _, _], _ => rfl
  have q11f := fun_mk (st := s_Entitlement_init) qpn qpo qpp
  have q133 := q11f.binds (ps := ["self", "held", "change", "spun", "due"]) fun _ _ _ _ _ _ us hl => match us, hl with | [_, _, _, _, _], _ => rfl
  have q11g := fun_mk (st := s_first_price) qpr qps qpt
  have q134 := q11g.binds (ps := ["action"]) fun _ _ _ _ _ _ us hl => match us, hl with | [_], _ => rfl
  have q11h := fun_mk (st := s_second_price) qpv qpw qpx
  have q135 := q11h.binds (ps := ["action"]) fun _ _ _ _ _ _ us hl => match us, hl with | [_], _ => rfl
  have q11i := fun_mk (st := s_over_million_up) qpz qq0 qq1
  have q136 := q11i.binds (ps := ["amount"]) fun _ _ _ _ _ _ us hl => match us, hl with | [_], _ => rfl
  have q11j := fun_mk (st := s_whole) qq3 qq4 qq5
  have q137 := q11j.binds (ps := ["number", "action"]) fun _ _ _ _ _ _ us hl => match us, hl with | [_, _], _ => rfl
  have q11k := fun_mk (st := s_parts) qq7 qq8 qq9
  have q138 := q11k.binds (ps := ["number", "action"]) fun _ _ _ _ _ _ us hl => match us, hl with | [_, _], _ => rfl
  have q11l := fun_mk (st := s_of_dividend) qqb qqc qqd
  have q139 := q11l.binds (ps := ["action", "held"]) fun _ _ _ _ _ _ us hl => match us, hl with | [_, _], _ => rfl
  have q11m := fun_mk (st := s_of_split) qqf qqg qqh
  have q13a := q11m.binds (ps := ["action", "held"]) fun _ _ _ _ _ _ us hl => match us, hl with | [_, _], _ => rfl
  have q11n := fun_mk (st := s_of_spinoff) qqj qqk qql
  have q13b := q11n.binds (ps := ["action", "held"]) fun _ _ _ _ _ _ us hl => match us, hl with | [_, _], _ => rfl
  have q11o := fun_mk (st := s_of_rights) qqn qqo qqp
  have q13c := q11o.binds (ps := ["action", "held"]) fun _ _ _ _ _ _ us hl => match us, hl with | [_, _], _ => rfl
  have q11p := fun_mk (st := s_of_takeover) qqr qqs qqt
  have q13d := q11p.binds (ps := ["action", "held"]) fun _ _ _ _ _ _ us hl => match us, hl with | [_, _], _ => rfl
  have q11q := fun_mk (st := s_entitlement) qqv qqw qqx
  have q13e := q11q.binds (ps := ["action", "held"]) fun _ _ _ _ _ _ us hl => match us, hl with | [_, _], _ => rfl
  have q11r := fun_mk (st := s_is_within) qqz qr0 qr1
  have q13f := q11r.binds (ps := ["name", "number"]) fun _ _ _ _ _ _ us hl => match us, hl with | [_, _], _ => rfl
  have q11s := fun_mk (st := s_are_within) qr3 qr4 qr5
  have q13g := q11s.binds (ps := ["told"]) fun _ _ _ _ _ _ us hl => match us, hl with | [_], _ => rfl
  have q11t := fun_mk (st := s_Trade_init) qr8 qr9 qra
  have q13h := q11t.binds (ps := ["self", "told"]) fun _ _ _ _ _ _ us hl => match us, hl with | [_, _], _ => rfl
  have q11u := fun_mk (st := s_Book_init) qrd qre qrf
  have q13i := q11u.binds (ps := ["self"]) fun _ _ _ _ _ _ us hl => match us, hl with | [_], _ => rfl
  have q11v := fun_mk (st := s_Diary_init) qri qrj qrk
  have q13j := q11v.binds (ps := ["self", "trades", "actions"]) fun _ _ _ _ _ _ us hl => match us, hl with | [_, _, _], _ => rfl
  have q11w := fun_mk (st := s_go_ex) qrm qrn qro
  have q13k := q11w.binds (ps := ["book", "actions"]) fun _ _ _ _ _ _ us hl => match us, hl with | [_, _], _ => rfl
  have q11x := fun_mk (st := s_take_in) qrq qrr qrs
  have q13l := q11x.binds (ps := ["book", "day"]) fun _ _ _ _ _ _ us hl => match us, hl with | [_, _], _ => rfl
  have q11y := fun_mk (st := s_settle) qru qrv qrw
  have q13m := q11y.binds (ps := ["book", "trades"]) fun _ _ _ _ _ _ us hl => match us, hl with | [_, _], _ => rfl
  have q11z := fun_mk (st := s_pass_day) qry qrz qs0
  have q13n := q11z.binds (ps := ["book", "diary", "day"]) fun _ _ _ _ _ _ us hl => match us, hl with | [_, _, _], _ => rfl
  have q120 := fun_mk (st := s_book_of_evening) qs2 qs3 qs4
  have q13o := q120.binds (ps := ["trades", "actions", "evening"]) fun _ _ _ _ _ _ us hl => match us, hl with | [_, _, _], _ => rfl
  have q121 := fun_mk (st := s_is_possible) qs6 qs7 qs8
  have q13p := q121.binds (ps := ["book"]) fun _ _ _ _ _ _ us hl => match us, hl with | [_], _ => rfl
  have q122 := fun_mk (st := s_are_possible) qsa qsb qsc
  have q13q := q122.binds (ps := ["trades", "actions"]) fun _ _ _ _ _ _ us hl => match us, hl with | [_, _], _ => rfl
  have q123 := fun_mk (st := s_Price_init) qsf qsg qsh
  have q13r := q123.binds (ps := ["self", "told"]) fun _ _ _ _ _ _ us hl => match us, hl with | [_, _], _ => rfl
  have q124 := fun_mk (st := s_is_priced) qsj qsk qsl
  have q13s := q124.binds (ps := ["prices", "day", "thing"]) fun _ _ _ _ _ _ us hl => match us, hl with | [_, _, _], _ => rfl
  have q125 := fun_mk (st := s_price_of_evening) qsn qso qsp
  have q13t := q125.binds (ps := ["prices", "thing", "evening"]) fun _ _ _ _ _ _ us hl => match us, hl with | [_, _, _], _ => rfl
  have q126 := fun_mk (st := s_value_of_book) qsr qss qst
  have q13u := q126.binds (ps := ["book", "prices", "evening"]) fun _ _ _ _ _ _ us hl => match us, hl with | [_, _, _], _ => rfl
  have q127 := fun_mk (st := s_Desk_init) qsw qsx qsy
  have q13v := q127.binds (ps := ["self"]) fun _ _ _ _ _ _ us hl => match us, hl with | [_], _ => rfl
  have q128 := fun_mk (st := s_tell_begin) qt0 qt1 qt2
  have q13w := q128.binds (ps := ["desk", "told"]) fun _ _ _ _ _ _ us hl => match us, hl with | [_, _], _ => rfl
  have q129 := fun_mk (st := s_tell_today) qt4 qt5 qt6
  have q13x := q129.binds (ps := ["desk", "told"]) fun _ _ _ _ _ _ us hl => match us, hl with | [_, _], _ => rfl
  have q12a := fun_mk (st := s_tell_trade) qt8 qt9 qta
  have q13y := q12a.binds (ps := ["desk", "told"]) fun _ _ _ _ _ _ us hl => match us, hl with | [_, _], _ => rfl
  have q12b := fun_mk (st := s_is_replaced_already) qtc qtd qte
  have q13z := q12b.binds (ps := ["desk", "action"]) fun _ _ _ _ _ _ us hl => match us, hl with | [_, _], _ => rfl
  have q12c := fun_mk (st := s_tell_action) qtg qth qti
  have q140 := q12c.binds (ps := ["desk", "action"]) fun _ _ _ _ _ _ us hl => match us, hl with | [_, _], _ => rfl
  have q12d := fun_mk (st := s_tell_dividend) qtk qtl qtm
  have q141 := q12d.binds (ps := ["desk", "told"]) fun _ _ _ _ _ _ us hl => match us, hl with | [_, _], _ => rfl
  have q12e := fun_mk (st := s_tell_split) qto qtp qtq
  have q142 := q12e.binds (ps := ["desk", "told"]) fun _ _ _ _ _ _ us hl => match us, hl with | [_, _], _ => rfl
  have q12f := fun_mk (st := s_tell_spinoff) qts qtt qtu
  have q143 := q12f.binds (ps := ["desk", "told"]) fun _ _ _ _ _ _ us hl => match us, hl with | [_, _], _ => rfl
  have q12g := fun_mk (st := s_tell_rights) qtw qtx qty
  have q144 := q12g.binds (ps := ["desk", "told"]) fun _ _ _ _ _ _ us hl => match us, hl with | [_, _], _ => rfl
  have q12h := fun_mk (st := s_tell_takeover) qu0 qu1 qu2
  have q145 := q12h.binds (ps := ["desk", "told"]) fun _ _ _ _ _ _ us hl => match us, hl with | [_, _], _ => rfl
  have q12i := fun_mk (st := s_tell_choose) qu4 qu5 qu6
  have q146 := q12i.binds (ps := ["desk", "told"]) fun _ _ _ _ _ _ us hl => match us, hl with | [_, _], _ => rfl
  have q12j := fun_mk (st := s_tell_price) qu8 qu9 qua
  have q147 := q12j.binds (ps := ["desk", "told"]) fun _ _ _ _ _ _ us hl => match us, hl with | [_, _], _ => rfl
  have q12k := fun_mk (st := s_tell) quc qud que
  have q148 := q12k.binds (ps := ["desk", "call", "told"]) fun _ _ _ _ _ _ us hl => match us, hl with | [_, _, _], _ => rfl
  have q12l := fun_mk (st := s_book_on) qug quh qui
  have q149 := q12l.binds (ps := ["desk", "day"]) fun _ _ _ _ _ _ us hl => match us, hl with | [_, _], _ => rfl
  have q12m := fun_mk (st := s_due_numbers) quk qul qum
  have q14a := q12m.binds (ps := ["due"]) fun _ _ _ _ _ _ us hl => match us, hl with | [_], _ => rfl
  have q12n := fun_mk (st := s_ask_position) quo qup quq
  have q14b := q12n.binds (ps := ["desk", "told"]) fun _ _ _ _ _ _ us hl => match us, hl with | [_, _], _ => rfl
  have q12o := fun_mk (st := s_ask_positions) qus qut quu
  have q14c := q12o.binds (ps := ["desk", "told"]) fun _ _ _ _ _ _ us hl => match us, hl with | [_, _], _ => rfl
  have q12p := fun_mk (st := s_ask_cash) quw qux quy
  have q14d := q12p.binds (ps := ["desk", "told"]) fun _ _ _ _ _ _ us hl => match us, hl with | [_, _], _ => rfl
  have q12q := fun_mk (st := s_ask_due) qv0 qv1 qv2
  have q14e := q12q.binds (ps := ["desk", "told"]) fun _ _ _ _ _ _ us hl => match us, hl with | [_, _], _ => rfl
  have q12r := fun_mk (st := s_ask_value) qv4 qv5 qv6
  have q14f := q12r.binds (ps := ["desk", "told"]) fun _ _ _ _ _ _ us hl => match us, hl with | [_, _], _ => rfl
  have q12s := fun_mk (st := s_ask_entitled) qv8 qv9 qva
  have q14g := q12s.binds (ps := ["desk", "told"]) fun _ _ _ _ _ _ us hl => match us, hl with | [_, _], _ => rfl
  have q12t := fun_mk (st := s_ask_action) qvc qvd qve
  have q14h := q12t.binds (ps := ["desk", "told"]) fun _ _ _ _ _ _ us hl => match us, hl with | [_, _], _ => rfl
  have q12u := fun_mk (st := s_ask_counts) qvg qvh qvi
  have q14i := q12u.binds (ps := ["desk", "told"]) fun _ _ _ _ _ _ us hl => match us, hl with | [_, _], _ => rfl
  have q12v := fun_mk (st := s_ask) qvk qvl qvm
  have q14j := q12v.binds (ps := ["desk", "call", "told"]) fun _ _ _ _ _ _ us hl => match us, hl with | [_, _, _], _ => rfl
  have q12w := fun_mk (st := s_answer) qvo qvp qvq
  have q14k := q12w.binds (ps := ["desk", "call", "told"]) fun _ _ _ _ _ _ us hl => match us, hl with | [_, _, _], _ => rfl
  have q12x := fun_mk (st := s_answers) qvs qvt qvu
  have q14l := q12x.binds (ps := ["calls"]) fun _ _ _ _ _ _ us hl => match us, hl with | [_], _ => rfl
  refine ⟨fnOf "answers" "answers" (defArgs s_answers) (defBody s_answers) (defScope s_answers) .none qhs qht qhu q68 qhv qhw, fun s us hu => match us, hu with | [_], _ => .of_eq rfl, fun base _ _ => ?_⟩
  have U_Action : UseC P w K mg base 1 "Action" q00 ["self", "kind", "told"] (sp_Action_init K ⟨q00, q01, q02, q03, q04, q05, q06, q07, q1w, q1x, q1y, q1z⟩) := ⟨q08, _, ⟨qvz, qow, qox, qw0⟩, ok_Action_init q11a T , mg_of X G qoo, q12y⟩
  have U_with_choice : UseM P w K mg base 3 q00 "with_choice" ["self", "choice"] (sp_Action_with_choice K ⟨q00, q01, q02, q03, q04, q05, q06, q07, q1w, q1x, q1y, q1z⟩) := ⟨q09, _, ⟨qp1, qp2, qp5⟩, ok_Action_with_choice q11b T U_Action, q12z⟩
  have U_has_choice : UseM P w K mg base 1 q00 "has_choice" ["self"] (sp_Action_has_choice K ⟨q00, q01, q02, q03, q04, q05, q06, q07, q1w, q1x, q1y, q1z⟩) := ⟨q0a, _, ⟨qp6, qp7, qpa⟩, ok_Action_has_choice q11c T , q130⟩
  have U_replaces_holding : UseM P w K mg base 1 q00 "replaces_holding" ["self"] (sp_Action_replaces_holding K ⟨q00, q01, q02, q03, q04, q05, q06, q07, q1w, q1x, q1y, q1z⟩) := ⟨q0b, _, ⟨qpb, qpc, qpf⟩, ok_Action_replaces_holding q11d T , q131⟩
  have U_Due : UseC P w K mg base 1 "Due" q01 ["self", "pay", "cash", "thing", "quantity"] (sp_Due_init K ⟨q00, q01, q02, q03, q04, q05, q06, q07, q1w, q1x, q1y, q1z⟩) := ⟨q0c, _, ⟨qwi, qpg, qph, qwj⟩, ok_Due_init q11e T , mg_of X G qop, q132⟩
  have U_Entitlement : UseC P w K mg base 1 "Entitlement" q02 ["self", "held", "change", "spun", "due"] (sp_Entitlement_init K ⟨q00, q01, q02, q03, q04, q05, q06, q07, q1w, q1x, q1y, q1z⟩) := ⟨q0d, _, ⟨qws, qpl, qpm, qwt⟩, ok_Entitlement_init q11f T , mg_of X G qoq, q133⟩
  have U_first_price : Use P w K mg base 1 "first_price" ["action"] (sp_first_price K ⟨q00, q01, q02, q03, q04, q05, q06, q07, q1w, q1x, q1y, q1z⟩) := ⟨q0e, _, ok_first_price q11g T , mg_of X G qpq, qpt, q134⟩
  have U_second_price : Use P w K mg base 1 "second_price" ["action"] (sp_second_price K ⟨q00, q01, q02, q03, q04, q05, q06, q07, q1w, q1x, q1y, q1z⟩) := ⟨q0f, _, ok_second_price q11h T , mg_of X G qpu, qpx, q135⟩
  have U_over_million_up : Use P w K mg base 1 "over_million_up" ["amount"] (sp_over_million_up K ⟨q00, q01, q02, q03, q04, q05, q06, q07, q1w, q1x, q1y, q1z⟩) := ⟨q0g, _, ok_over_million_up q11i T , mg_of X G qpy, qq1, q136⟩
  have U_whole : Use P w K mg base 1 "whole" ["number", "action"] (sp_whole K ⟨q00, q01, q02, q03, q04, q05, q06, q07, q1w, q1x, q1y, q1z⟩) := ⟨q0h, _, ok_whole q11j T , mg_of X G qq2, qq5, q137⟩
  have U_parts : Use P w K mg base 1 "parts" ["number", "action"] (sp_parts K ⟨q00, q01, q02, q03, q04, q05, q06, q07, q1w, q1x, q1y, q1z⟩) := ⟨q0i, _, ok_parts q11k T , mg_of X G qq6, qq9, q138⟩
  have U_of_dividend : Use P w K mg base 3 "of_dividend" ["action", "held"] (sp_of_dividend K ⟨q00, q01, q02, q03, q04, q05, q06, q07, q1w, q1x, q1y, q1z⟩) := ⟨q0j, _, ok_of_dividend q11l T U_Entitlement U_Due, mg_of X G qqa, qqd, q139⟩
  have U_of_split : Use P w K mg base 3 "of_split" ["action", "held"] (sp_of_split K ⟨q00, q01, q02, q03, q04, q05, q06, q07, q1w, q1x, q1y, q1z⟩) := ⟨q0k, _, ok_of_split q11m T U_Entitlement U_whole U_Due U_parts, mg_of X G qqe, qqh, q13a⟩
  have U_of_spinoff : Use P w K mg base 3 "of_spinoff" ["action", "held"] (sp_of_spinoff K ⟨q00, q01, q02, q03, q04, q05, q06, q07, q1w, q1x, q1y, q1z⟩) := ⟨q0l, _, ok_of_spinoff q11n T U_Entitlement U_whole U_Due U_parts, mg_of X G qqi, qql, q13b⟩
  have U_of_rights : Use P w K mg base 3 "of_rights" ["action", "held"] (sp_of_rights K ⟨q00, q01, q02, q03, q04, q05, q06, q07, q1w, q1x, q1y, q1z⟩) := ⟨q0m, _, ok_of_rights q11o T U_whole U_Entitlement U_over_million_up U_Due, mg_of X G qqm, qqp, q13c⟩
  have U_of_takeover : Use P w K mg base 3 "of_takeover" ["action", "held"] (sp_of_takeover K ⟨q00, q01, q02, q03, q04, q05, q06, q07, q1w, q1x, q1y, q1z⟩) := ⟨q0n, _, ok_of_takeover q11p T U_Entitlement U_parts U_Due U_whole, mg_of X G qqq, qqt, q13d⟩
  have U_entitlement : Use P w K mg base 4 "entitlement" ["action", "held"] (sp_entitlement K ⟨q00, q01, q02, q03, q04, q05, q06, q07, q1w, q1x, q1y, q1z⟩) := ⟨q0o, _, ok_entitlement q11q T U_of_takeover U_of_dividend U_of_split U_of_spinoff U_of_rights, mg_of X G qqu, qqx, q13e⟩
  have U_is_within : Use P w K mg base 1 "is_within" ["name", "number"] (sp_is_within K ⟨q00, q01, q02, q03, q04, q05, q06, q07, q1w, q1x, q1y, q1z⟩) := ⟨q0p, _, ok_is_within q11r T B, mg_of X G qqy, qr1, q13f⟩
  have U_are_within : Use P w K mg base 2 "are_within" ["told"] (sp_are_within K ⟨q00, q01, q02, q03, q04, q05, q06, q07, q1w, q1x, q1y, q1z⟩) := ⟨q0q, _, ok_are_within q11s T U_is_within, mg_of X G qr2, qr5, q13g⟩
  have U_Trade : UseC P w K mg base 1 "Trade" q03 ["self", "told"] (sp_Trade_init K ⟨q00, q01, q02, q03, q04, q05, q06, q07, q1w, q1x, q1y, q1z⟩) := ⟨q0r, _, ⟨qx2, qr6, qr7, qx3⟩, ok_Trade_init q11t T , mg_of X G qor, q13h⟩
  have U_Book : UseC P w K mg base 1 "Book" q04 ["self"] (sp_Book_init K ⟨q00, q01, q02, q03, q04, q05, q06, q07, q1w, q1x, q1y, q1z⟩) := ⟨q0s, _, ⟨qxc, qrb, qrc, qxd⟩, ok_Book_init q11u T , mg_of X G qos, q13i⟩
  have U_Diary : UseC P w K mg base 1 "Diary" q05 ["self", "trades", "actions"] (sp_Diary_init K ⟨q00, q01, q02, q03, q04, q05, q06, q07, q1w, q1x, q1y, q1z⟩) := ⟨q0t, _, ⟨qxl, qrg, qrh, qxm⟩, ok_Diary_init q11v T , mg_of X G qot, q13j⟩
  have U_go_ex : Use P w K mg base 5 "go_ex" ["book", "actions"] (sp_go_ex K ⟨q00, q01, q02, q03, q04, q05, q06, q07, q1w, q1x, q1y, q1z⟩) := ⟨q0u, _, ok_go_ex q11w T U_entitlement, mg_of X G qrl, qro, q13k⟩
  have U_take_in : Use P w K mg base 1 "take_in" ["book", "day"] (sp_take_in K ⟨q00, q01, q02, q03, q04, q05, q06, q07, q1w, q1x, q1y, q1z⟩) := ⟨q0v, _, ok_take_in q11x T , mg_of X G qrp, qrs, q13l⟩
  have U_settle : Use P w K mg base 1 "settle" ["book", "trades"] (sp_settle K ⟨q00, q01, q02, q03, q04, q05, q06, q07, q1w, q1x, q1y, q1z⟩) := ⟨q0w, _, ok_settle q11y T , mg_of X G qrt, qrw, q13m⟩
  have U_pass_day : Use P w K mg base 6 "pass_day" ["book", "diary", "day"] (sp_pass_day K ⟨q00, q01, q02, q03, q04, q05, q06, q07, q1w, q1x, q1y, q1z⟩) := ⟨q0x, _, ok_pass_day q11z T U_go_ex U_take_in U_settle, mg_of X G qrx, qs0, q13n⟩
  have U_book_of_evening : Use P w K mg base 7 "book_of_evening" ["trades", "actions", "evening"] (sp_book_of_evening K ⟨q00, q01, q02, q03, q04, q05, q06, q07, q1w, q1x, q1y, q1z⟩) := ⟨q0y, _, ok_book_of_evening q120 T U_Book U_Diary U_pass_day, mg_of X G qs1, qs4, q13o⟩
  have U_is_possible : Use P w K mg base 1 "is_possible" ["book"] (sp_is_possible K ⟨q00, q01, q02, q03, q04, q05, q06, q07, q1w, q1x, q1y, q1z⟩) := ⟨q0z, _, ok_is_possible q121 T , mg_of X G qs5, qs8, q13p⟩
  have U_are_possible : Use P w K mg base 7 "are_possible" ["trades", "actions"] (sp_are_possible K ⟨q00, q01, q02, q03, q04, q05, q06, q07, q1w, q1x, q1y, q1z⟩) := ⟨q10, _, ok_are_possible q122 T U_Book U_Diary U_pass_day U_is_possible, mg_of X G qs9, qsc, q13q⟩
  have U_Price : UseC P w K mg base 1 "Price" q06 ["self", "told"] (sp_Price_init K ⟨q00, q01, q02, q03, q04, q05, q06, q07, q1w, q1x, q1y, q1z⟩) := ⟨q11, _, ⟨qxu, qsd, qse, qxv⟩, ok_Price_init q123 T , mg_of X G qou, q13r⟩
  have U_is_priced : Use P w K mg base 1 "is_priced" ["prices", "day", "thing"] (sp_is_priced K ⟨q00, q01, q02, q03, q04, q05, q06, q07, q1w, q1x, q1y, q1z⟩) := ⟨q12, _, ok_is_priced q124 T , mg_of X G qsi, qsl, q13s⟩
  have U_price_of_evening : Use P w K mg base 1 "price_of_evening" ["prices", "thing", "evening"] (sp_price_of_evening K ⟨q00, q01, q02, q03, q04, q05, q06, q07, q1w, q1x, q1y, q1z⟩) := ⟨q13, _, ok_price_of_evening q125 T , mg_of X G qsm, qsp, q13t⟩
  have U_value_of_book : Use P w K mg base 2 "value_of_book" ["book", "prices", "evening"] (sp_value_of_book K ⟨q00, q01, q02, q03, q04, q05, q06, q07, q1w, q1x, q1y, q1z⟩) := ⟨q14, _, ok_value_of_book q126 T U_price_of_evening, mg_of X G qsq, qst, q13u⟩
  have U_Desk : UseC P w K mg base 1 "Desk" q07 ["self"] (sp_Desk_init K ⟨q00, q01, q02, q03, q04, q05, q06, q07, q1w, q1x, q1y, q1z⟩) := ⟨q15, _, ⟨qy3, qsu, qsv, qy4⟩, ok_Desk_init q127 T , mg_of X G qov, q13v⟩
  have U_is_replaced_already : Use P w K mg base 2 "is_replaced_already" ["desk", "action"] (sp_is_replaced_already K ⟨q00, q01, q02, q03, q04, q05, q06, q07, q1w, q1x, q1y, q1z⟩) := ⟨q19, _, ok_is_replaced_already q12b T U_replaces_holding, mg_of X G qtb, qte, q13z⟩
  have U_tell_action : Use P w K mg base 8 "tell_action" ["desk", "action"] (sp_tell_action K ⟨q00, q01, q02, q03, q04, q05, q06, q07, q1w, q1x, q1y, q1z⟩) := ⟨q1a, _, ok_tell_action q12c T U_replaces_holding U_is_replaced_already U_are_possible, mg_of X G qtf, qti, q140⟩
  have DT : ∀ c : Nat, c < 10 → ∃ v, MGet P w K q1x (.int (c : Int)) v ∧ Fv P w K mg base 9 v ["desk", "told"] (spC c ⟨q00, q01, q02, q03, q04, q05, q06, q07, q1w, q1x, q1y, q1z⟩) := fun c hc => match c, hc with
    | 0, _ => ⟨_, mget_int hTELLINGS rfl, q16, _, rfl, FnOk.mono (ok_tell_begin q128 T U_Desk) (by decide), qt2, q13w⟩
    | 1, _ => ⟨_, mget_int hTELLINGS rfl, q17, _, rfl, FnOk.mono (ok_tell_today q129 T ) (by decide), qt6, q13x⟩
    | 2, _ => ⟨_, mget_int hTELLINGS rfl, q18, _, rfl, FnOk.mono (ok_tell_trade q12a T U_are_possible U_Trade) (by decide), qta, q13y⟩
    | 3, _ => ⟨_, mget_int hTELLINGS rfl, q1b, _, rfl, FnOk.mono (ok_tell_dividend q12d T U_tell_action U_Action) (by decide), qtm, q141⟩
    | 4, _ => ⟨_, mget_int hTELLINGS rfl, q1c, _, rfl, FnOk.mono (ok_tell_split q12e T U_tell_action U_Action) (by decide), qtq, q142⟩
    | 5, _ => ⟨_, mget_int hTELLINGS rfl, q1d, _, rfl, FnOk.mono (ok_tell_spinoff q12f T U_tell_action U_Action) (by decide), qtu, q143⟩
    | 6, _ => ⟨_, mget_int hTELLINGS rfl, q1e, _, rfl, FnOk.mono (ok_tell_rights q12g T U_tell_action U_Action) (by decide), qty, q144⟩
    | 7, _ => ⟨_, mget_int hTELLINGS rfl, q1f, _, rfl, FnOk.mono (ok_tell_takeover q12h T U_tell_action U_Action) (by decide), qu2, q145⟩
    | 8, _ => ⟨_, mget_int hTELLINGS rfl, q1g, _, rfl, FnOk.mono (ok_tell_choose q12i T U_with_choice U_has_choice U_are_possible) (by decide), qu6, q146⟩
    | 9, _ => ⟨_, mget_int hTELLINGS rfl, q1h, _, rfl, FnOk.mono (ok_tell_price q12j T U_is_priced U_Price) (by decide), qua, q147⟩
    | c + 10, hc => absurd hc (by omega)
  have U_tell : Use P w K mg base 10 "tell" ["desk", "call", "told"] (sp_tell K ⟨q00, q01, q02, q03, q04, q05, q06, q07, q1w, q1x, q1y, q1z⟩) := ⟨q1i, _, ok_tell q12k T DT, mg_of X G qub, que, q148⟩
  have U_book_on : Use P w K mg base 8 "book_on" ["desk", "day"] (sp_book_on K ⟨q00, q01, q02, q03, q04, q05, q06, q07, q1w, q1x, q1y, q1z⟩) := ⟨q1j, _, ok_book_on q12l T U_book_of_evening, mg_of X G quf, qui, q149⟩
  have U_due_numbers : Use P w K mg base 1 "due_numbers" ["due"] (sp_due_numbers K ⟨q00, q01, q02, q03, q04, q05, q06, q07, q1w, q1x, q1y, q1z⟩) := ⟨q1k, _, ok_due_numbers q12m T , mg_of X G quj, qum, q14a⟩
  have DQ : ∀ c : Nat, 10 ≤ c → c < 18 → ∃ v, MGet P w K q1y (.int (c : Int)) v ∧ Fv P w K mg base 9 v ["desk", "told"] (spC c ⟨q00, q01, q02, q03, q04, q05, q06, q07, q1w, q1x, q1y, q1z⟩) := fun c hc hc2 => match c, hc, hc2 with
    | 10, _, _ => ⟨_, mget_int hQUESTIONS rfl, q1l, _, rfl, FnOk.mono (ok_ask_position q12n T U_book_on) (by decide), quq, q14b⟩
    | 11, _, _ => ⟨_, mget_int hQUESTIONS rfl, q1m, _, rfl, FnOk.mono (ok_ask_positions q12o T U_book_on) (by decide), quu, q14c⟩
    | 12, _, _ => ⟨_, mget_int hQUESTIONS rfl, q1n, _, rfl, FnOk.mono (ok_ask_cash q12p T U_book_on) (by decide), quy, q14d⟩
    | 13, _, _ => ⟨_, mget_int hQUESTIONS rfl, q1o, _, rfl, FnOk.mono (ok_ask_due q12q T U_book_on U_due_numbers) (by decide), qv2, q14e⟩
    | 14, _, _ => ⟨_, mget_int hQUESTIONS rfl, q1p, _, rfl, FnOk.mono (ok_ask_value q12r T U_value_of_book U_book_on) (by decide), qv6, q14f⟩
    | 15, _, _ => ⟨_, mget_int hQUESTIONS rfl, q1q, _, rfl, FnOk.mono (ok_ask_entitled q12s T U_entitlement U_due_numbers U_book_on) (by decide), qva, q14g⟩
    | 16, _, _ => ⟨_, mget_int hQUESTIONS rfl, q1r, _, rfl, FnOk.mono (ok_ask_action q12t T U_first_price U_second_price) (by decide), qve, q14h⟩
    | 17, _, _ => ⟨_, mget_int hQUESTIONS rfl, q1s, _, rfl, FnOk.mono (ok_ask_counts q12u T ) (by decide), qvi, q14i⟩
    | 0, hc, _ => absurd hc (by decide)
    | 1, hc, _ => absurd hc (by decide)
    | 2, hc, _ => absurd hc (by decide)
    | 3, hc, _ => absurd hc (by decide)
    | 4, hc, _ => absurd hc (by decide)
    | 5, hc, _ => absurd hc (by decide)
    | 6, hc, _ => absurd hc (by decide)
    | 7, hc, _ => absurd hc (by decide)
    | 8, hc, _ => absurd hc (by decide)
    | 9, hc, _ => absurd hc (by decide)
    | c + 18, _, hc => absurd hc (by omega)
  have U_ask : Use P w K mg base 10 "ask" ["desk", "call", "told"] (sp_ask K ⟨q00, q01, q02, q03, q04, q05, q06, q07, q1w, q1x, q1y, q1z⟩) := ⟨q1t, _, ok_ask q12v T DQ, mg_of X G qvj, qvm, q14j⟩
  have U_answer : Use P w K mg base 11 "answer" ["desk", "call", "told"] (sp_answer K ⟨q00, q01, q02, q03, q04, q05, q06, q07, q1w, q1x, q1y, q1z⟩) := ⟨q1u, _, ok_answer q12w T U_tell U_are_within U_ask, mg_of X G qvn, qvq, q14k⟩
  exact ok_answers q12x T U_Desk U_answer B
end Hd
/-! These names are taken so that the head below makes no second form of its larger states and of the program: the proof of such a form is a chain over all its parts, and the compiled file would be too large. Nothing leans on them. -/
def PySem.W.Fast.tw18407196623225022846 := 0
def PySem.W.Fast.tw5022758987738773877 := 0
def PySem.W.Fast.tw10015550273836713576 := 0
def PySem.W.Fast.tw16730587863705200951 := 0
def PySem.W.Fast.tw14532151379107567498 := 0
def PySem.W.Fast.tw6243177766846251569 := 0
def PySem.W.Fast.tw5218570873997173470 := 0
def PySem.W.Fast.tw331364068778111258 := 0
def PySem.W.Fast.tw10559769451253692132 := 0
def PySem.W.Fast.tw3816254285639366870 := 0
def PySem.W.Fast.tw2714538729382223601 := 0
def PySem.W.Fast.tw6075874538547984673 := 0
def PySem.W.Fast.tw11745308659400205139 := 0
def PySem.W.Fast.tw9451335923881521601 := 0
def PySem.W.Fast.tw13774690785659409546 := 0
def PySem.W.Fast.tw8658436389719424097 := 0
def PySem.W.Fast.tw6827820926894333154 := 0
def PySem.W.Fast.tw9839843020844657393 := 0
def PySem.W.Fast.tw5070837272195396541 := 0
def PySem.W.Fast.tw15280010686067854850 := 0
def PySem.W.Fast.tw13945441381004462069 := 0
def PySem.W.Fast.tw11497365533891951102 := 0
def PySem.W.Fast.tw3380016169346708488 := 0
def PySem.W.Fast.tw10493044876712456482 := 0
def PySem.W.Fast.tw4243923695368079618 := 0
def PySem.W.Fast.tw17151074882507354484 := 0
def PySem.W.Fast.tw938341986218764873 := 0
def PySem.W.Fast.tw15716878463653314001 := 0
def PySem.W.Fast.tw10136801521062844390 := 0
def PySem.W.Fast.tw3051327937714904623 := 0
def PySem.W.Fast.tw12866162825024527302 := 0
def PySem.W.Fast.tw15049711425158611612 := 0
def PySem.W.Fast.tw14806121353472495512 := 0
open PySem PySem.W PyProof.Rows
set_option maxRecDepth 100000 in
set_option maxHeartbeats 0 in
theorem PySem.Challenge.cw_heldthingsdesk_s01_answers_holds : PySem.Challenge.rw_heldthingsdesk_s01_answers.Holds := by
  w_on; k_headS; (case hw => exact ⟨[.list [.int 0]], by decide +kernel, by decide +kernel⟩)
  k_fillS
  refine L2.walk_specK (r := PySem.Challenge.rw_heldthingsdesk_s01_answers) (k := 12) (CX := L2.CX0) (ps := ["calls"]) (sp := Hd.spAns) (by decide +kernel) rfl rfl ⟨rfl, by decide, by decide⟩ (fun w h Y => PySem.W.kIn_of Y) ?F ?S (fun _ _ _ _ z => z)
  case F =>
    intro w mg fa h Y KX G hmg
    refine' Hd.all_mk KX G hmg ?_ ?_ ?_ ?_ ?_ ?_ ?_ ?_ ?_ ?_ ?_ ?_ ?_ ?_ ?_ ?_ ?_ ?_ ?_ ?_ ?_ ?_ ?_ ?_ ?_ ?_ ?_ ?_ ?_ ?_ ?_ ?_ ?_ ?_ ?_ ?_ ?_ ?_ ?_ ?_ ?_ ?_ ?_ ?_ ?_ ?_ ?_ ?_ ?_ ?_ ?_ ?_ ?_ ?_ ?_ ?_ ?_ ?_ ?_ ?_ ?_ ?_ ?_ ?_ ?_ ?_ ?_ ?_ ?_ ?_ ?_ ?_ ?_ ?_ ?_ ?_ ?_ ?_ ?_ ?_ ?_ ?_ ?_ ?_ ?_ ?_ ?_ ?_ ?_ ?_ ?_ ?_ ?_ ?_ ?_ ?_ ?_ ?_ ?_ ?_ ?_ ?_ ?_ ?_ ?_ ?_ ?_ ?_ ?_ ?_ ?_ ?_ ?_ ?_ ?_ ?_ ?_ ?_ ?_ ?_ ?_ ?_ ?_ ?_ ?_ ?_ ?_ ?_ ?_ ?_ ?_ ?_ ?_ ?_ ?_ ?_ ?_ ?_ ?_ ?_ ?_ ?_ ?_ ?_ ?_ ?_ ?_ ?_ ?_ ?_ ?_ ?_ ?_ ?_ ?_ ?_ ?_ ?_ ?_ ?_ ?_ ?_ ?_ ?_ ?_ ?_ ?_ ?_ ?_ ?_ ?_ ?_ ?_ ?_ ?_ ?_ ?_ ?_ ?_ ?_ ?_ ?_ ?_ ?_ ?_ ?_ ?_ ?_ ?_ ?_ ?_ ?_ ?_ ?_ ?_ ?_ ?_ ?_ ?_ ?_ ?_ ?_ ?_ ?_ ?_ ?_ ?_ ?_ ?_ ?_ ?_ ?_ ?_ ?_ ?_ ?_ ?_ ?_ ?_ ?_ ?_ ?_ ?_ ?_ ?_ ?_ ?_ ?_ ?_ ?_ ?_ ?_ ?_ ?_ ?_ ?_ ?_ ?_ ?_ ?_ ?_ ?_ ?_ ?_ ?_ ?_ ?_ ?_ ?_ ?_ ?_ ?_ ?_ ?_ ?_ ?_ ?_ ?_ ?_ ?_ ?_ ?_ ?_ ?_ ?_ ?_ ?_ ?_ ?_ ?_ ?_ ?_ ?_ ?_ ?_ ?_ ?_ ?_ ?_ ?_ ?_ ?_ ?_ ?_ ?_ ?_ ?_ ?_ ?_ ?_ ?_ ?_ ?_ ?_ ?_ ?_ ?_ ?_ ?_ ?_ ?_ ?_ ?_ ?_ ?_ ?_ ?_ ?_ ?_ ?_ ?_ ?_ ?_ ?_ ?_ ?_ ?_ ?_ ?_ ?_ ?_ ?_ ?_ ?_ ?_ ?_ ?_ ?_ ?_ ?_ ?_ ?_ ?_ ?_ ?_ ?_ ?_ ?_ ?_ ?_ ?_ ?_ ?_ ?_ ?_ ?_ ?_ ?_ ?_ ?_ ?_ ?_ ?_ ?_ ?_ ?_ ?_ ?_ ?_ ?_ ?_ ?_ ?_ ?_ ?_ ?_ ?_ ?_ ?_ ?_ ?_ ?_ ?_ ?_ ?_ ?_ ?_ ?_ ?_ ?_ ?_ ?_ ?_ ?_ ?_ ?_ ?_ ?_ ?_ ?_ ?_ ?_ ?_ ?_ ?_ ?_ ?_ ?_ ?_ ?_ ?_ ?_ ?_ ?_ ?_ ?_ ?_ ?_ ?_ ?_ ?_ ?_ ?_ ?_ ?_ ?_ ?_ ?_ ?_ ?_ ?_ ?_ ?_ ?_ ?_ ?_ ?_ ?_ ?_ ?_ ?_ ?_ ?_ ?_ ?_ ?_ ?_ ?_ ?_ ?_ ?_ ?_ ?_ ?_ ?_ ?_ ?_ ?_ ?_ ?_ ?_ ?_ ?_ ?_
    all_goals try first | k_is | rfl
  case S =>
    intro K H xs a hO hwi hask hx
    cases hx with
    | cons h1 h2 =>
      cases h2
      cases h1 with
      | lst hs ha =>
        have e := L2.ints_dw a.1 _ ha
        subst e
        have q : ((Codec.inLen 0 4400 a.1 && a.1.all (Codec.inInt (-9223372036854775808) 9223372036854775807)) && true) = true := hwi
        rw [Bool.and_eq_true, Bool.and_eq_true] at q
        exact ⟨_, a.1, rfl, hs, (Codec.inNat_iff.mp q.1.1).2, hask, fun H' p hp => .lst (L2.SqL.of hp) (L2.dw_ints _)⟩
