import PyProof.Rows.All
import Wide.All
import OpenK.AllK
import Wide.FinOn
import Lean
import KE.KIntText
import PyProof.EqAt
import PyProof.EqKinds
import PyProof.TupleCall
import PySem.Challenge.RW_trellisway_k55_shown_and_read
set_option Elab.async false
set_option linter.all false
set_option maxRecDepth 100000
namespace L2
open PySem PySem.Spec PyProof.Rows
noncomputable abbrev Key := Sum Int Str
noncomputable def keyIs : Key → Value → Bool
  | .inl k, v => Value.isInt k v
  | .inr x, v => Value.isStrOf x v
noncomputable def keyH (w : World) : Key → Int
  | .inl k => hashInt k
  | .inr x => hashStr w x
theorem keyIs_shape : ∀ {k : Key} {v : Value}, keyIs k v = true → (∃ i t, k = Sum.inl i ∧ v = Value.int i t) ∨ (∃ x t, k = Sum.inr x ∧ v = Value.str x t)
  | .inl i, v, h => by
    obtain ⟨t, e⟩ := Value.isInt_shape (k := i) (v := v) h
    exact .inl ⟨i, t, rfl, e⟩
  | .inr x, v, h => by
    obtain ⟨t, e⟩ := Value.isStrOf_shape (x := x) (v := v) h
    exact .inr ⟨x, t, rfl, e⟩
theorem key_ll (a b : Int) : decide ((Sum.inl a : Key) = Sum.inl b) = (a == b) := by
  by_cases e : a = b
  · subst e; simp
  · have h : ¬ (Sum.inl a : Key) = Sum.inl b := fun q => e (Sum.inl.inj q)
    rw [decide_eq_false h]
    exact (beq_eq_false_iff_ne.mpr e).symm
theorem key_rr (a b : Str) : decide ((Sum.inr a : Key) = Sum.inr b) = decide (a = b) := by
  by_cases e : a = b
  · subst e; simp
  · have h : ¬ (Sum.inr a : Key) = Sum.inr b := fun q => e (Sum.inr.inj q)
    rw [decide_eq_false h, decide_eq_false e]
theorem key_lr (a : Int) (b : Str) : decide ((Sum.inl a : Key) = Sum.inr b) = false := decide_eq_false (fun q => nomatch q)
theorem key_rl (a : Str) (b : Int) : decide ((Sum.inr a : Key) = Sum.inl b) = false := decide_eq_false (fun q => nomatch q)
noncomputable def mixKind (prog : Program) (w : World) : PySem.KeyKind prog w Key where
  is := keyIs
  hash := keyH w
  inj := fun v a b ha hb => by
    rcases keyIs_shape ha with ⟨i, t, rfl, rfl⟩ | ⟨x, t, rfl, rfl⟩
    · rcases keyIs_shape hb with ⟨j, u, rfl, e⟩ | ⟨y, u, rfl, e⟩
      · injection e with e1 _; rw [e1]
      · exact nomatch e
    · rcases keyIs_shape hb with ⟨j, u, rfl, e⟩ | ⟨y, u, rfl, e⟩
      · exact nomatch e
      · injection e with e1 _; rw [e1]
  byValue := fun k v h => by
    rcases keyIs_shape h with ⟨i, t, rfl, rfl⟩ | ⟨x, t, rfl, rfl⟩ <;> rfl
  pyHash := fun hv h => by
    rcases keyIs_shape hv with ⟨i, t, rfl, rfl⟩ | ⟨x, t, rfl, rfl⟩
    · exact wpAny_pyHash_int h
    · exact wpAny_pyHash_str h
  eqBool := fun hu hv h => by
    rcases keyIs_shape hu with ⟨i, t, rfl, rfl⟩ | ⟨x, t, rfl, rfl⟩
    · rcases keyIs_shape hv with ⟨j, u, rfl, rfl⟩ | ⟨y, u, rfl, rfl⟩
      · rw [key_ll] at h; exact wpAny_eqBool_int h
      · rw [key_lr] at h; exact SeqAt.EqAt.int_str i t y u _ _ _ _ h
    · rcases keyIs_shape hv with ⟨j, u, rfl, rfl⟩ | ⟨y, u, rfl, rfl⟩
      · rw [key_rl] at h; exact SeqAt.EqAt.str_int x t j u _ _ _ _ h
      · rw [key_rr] at h; exact wpAny_eqBool_str h
  «strs» := fun k x t v h => by
    rcases keyIs_shape h with ⟨i, u, rfl, e⟩ | ⟨y, u, rfl, e⟩
    · exact nomatch e
    · injection e with e1 _
      subst e1
      cases v <;> rfl
end L2
namespace L2
open PySem PySem.Spec PyProof.Rows
inductive V where
  | non | bl (b : Bool) | int (i : Int) | str (x : Str) | byt (b : Array UInt8) | flt (b : UInt64) | ref (a : Addr) | ty (n : String)
  deriving DecidableEq
noncomputable def RelV : V → Value → Prop
  | .non, u => u = Value.none
  | .bl b, u => u = Value.bool b
  | .int i, u => ∃ t, u = Value.int i t
  | .str x, u => ∃ t, u = Value.str x t
  | .byt b, u => ∃ t, u = Value.bytes b t
  | .flt b, u => ∃ t, u = Value.float b t
  | .ref a, u => u = Value.ref a
  | .ty n, u => u = Value.type n
noncomputable abbrev Vals : List V → List Value → Prop := Paired RelV
theorem Vals.length {xs : List V} {us : List Value} (r : Vals xs us) : xs.length = us.length := Paired.length r
theorem Vals.get : ∀ {xs : List V} {us : List Value} {i : Nat} {x : V}, Vals xs us → xs[i]? = some x → ∃ u, us[i]? = some u ∧ RelV x u
  | _, _, _, _, .nil, e => by simp at e
  | _, _, 0, _, .cons r _, e => by simp at e; subst e; exact ⟨_, rfl, r⟩
  | _, _, i + 1, x, .cons _ t, e => by
    obtain ⟨u, h1, h2⟩ := Vals.get (i := i) (x := x) t (by simpa using e)
    exact ⟨u, by simpa using h1, h2⟩
theorem Vals.set {x : V} {u : Value} (r : RelV x u) : ∀ {xs : List V} {us : List Value} (i : Nat), Vals xs us → Vals (xs.set i x) (us.set i u)
  | _, _, _, .nil => .nil
  | _, _, 0, .cons _ t => .cons r t
  | _, _, i + 1, .cons q t => .cons q (Vals.set r i t)
theorem Vals.append : ∀ {xs ys : List V} {us ws : List Value}, Vals xs us → Vals ys ws → Vals (xs ++ ys) (us ++ ws)
  | _, _, _, _, .nil, s => s
  | _, _, _, _, .cons r t, s => .cons r (Vals.append t s)
theorem Vals.take : ∀ {xs : List V} {us : List Value} (n : Nat), Vals xs us → Vals (xs.take n) (us.take n)
  | _, _, 0, _ => .nil
  | _, _, _ + 1, .nil => .nil
  | _, _, n + 1, .cons r t => .cons r (Vals.take n t)
theorem Vals.drop : ∀ {xs : List V} {us : List Value} (n : Nat), Vals xs us → Vals (xs.drop n) (us.drop n)
  | _, _, 0, r => r
  | _, _, _ + 1, .nil => .nil
  | _, _, n + 1, .cons _ t => Vals.drop n t
noncomputable def RelO : Option V → Option Value → Prop
  | some v, some u => RelV v u
  | none, none => True
  | _, _ => False
noncomputable def KV {κ : Type} : List (κ × V) → List (κ × Value) → Prop := Paired fun (p : κ × V) (q : κ × Value) => p.1 = q.1 ∧ RelV p.2 q.2
noncomputable def kV : Key → V
  | .inl i => .int i
  | .inr x => .str x
inductive HO where
  | lst (xs : List V)
  | tup (xs : List V)
  | dK (kvs : List (Key × V)) | dT (kvs : List (List Key × V))
  | set (S : Int → Bool) (n : Nat)
  | ins (C dx : Addr) (fs : List (Str × V))
  | own (x : Addr)
  | xd (fs : List (Str × V))
  | met (f x : Addr)
  | rng (lo hi : Int)
  | frz (o : Obj) (u : HO)
  | tbl (ps : Array Value)
  | ext (φ : Heap → Prop)
noncomputable abbrev Hp := Addr → Option HO
noncomputable def upd (H : Hp) (a : Addr) (o : HO) : Hp := fun b => if b = a then some o else H b
theorem upd_same {H : Hp} {a : Addr} {o : HO} : upd H a o a = some o := by unfold upd; rw [if_pos rfl]
theorem upd_ne {H : Hp} {a b : Addr} {o : HO} (h : b ≠ a) : upd H a o b = H b := by unfold upd; rw [if_neg h]
theorem ne_of_none {H : Hp} {a b : Addr} {o : HO} (h : H a = some o) (h' : H b = none) : a ≠ b := by
  intro e; subst e; rw [h] at h'; cases h'
noncomputable def TupN (h : Heap) (a : Addr) (items : Array Value) : Prop := ∃ o, h.get? a = some o ∧ (o.cls = .type "tuple" ∧ ∃ n, o.data = .seq items n) ∧ o.dict = none
theorem TupN.tup {h : Heap} {a : Addr} {items : Array Value} (x : TupN h a items) : IsTup h a items := let ⟨o, e, c, _⟩ := x; ⟨o, e, c⟩
theorem TupN.lt {h : Heap} {a : Addr} {items : Array Value} (x : TupN h a items) : a < h.objs.size := let ⟨_, e, _⟩ := x; Heap.lt_size e
theorem TupN.new (h : Heap) (items : Array Value) : TupN (h.push { cls := .type "tuple", data := .seq items }) h.objs.size items := ⟨_, Heap.get?_push_size _ rfl, ⟨rfl, _, rfl⟩, rfl⟩
section
variable (P : Program) (w : World)
noncomputable def ObjOk (H : Hp) (h : Heap) (a : Addr) : HO → Prop
  | .lst xs => xs.length ≤ sizeLine ∧ ∃ (its : List Value) (n : Nat), Vals xs its ∧ h.get? a = some { cls := .type "list", data := .seq its.toArray n }
  | .tup xs => xs.length ≤ sizeLine ∧ ∃ its : List Value, Vals xs its ∧ TupN h a its.toArray
  | .dK kvs => kvs.length ≤ sizeLine ∧ (a == sysModules) = false ∧ ∃ vs, KV kvs vs ∧ h.DictOf (mixKind P w) a vs
  | .dT kvs => kvs.length ≤ sizeLine ∧ (a == sysModules) = false ∧ ∃ xs : List (List Key × Addr × Value),
      Paired (fun (p : List Key × V) (q : List Key × Addr × Value) => p.1 = q.1 ∧ H q.2.1 = some (.tup (p.1.map kV)) ∧ RelV p.2 q.2.2) kvs xs ∧
      ∃ o es ep, h.get? a = some o ∧ o.ExactDict ∧ o.data = .dict es ep ∧ es.toList = xs.map (entryOfKey (tupleKind (mixKind P w))) ∧ (xs.map (·.1)).Nodup ∧ ep = kvs.length
  | .set S n => h.SetOf (intKind P w) a S n
  | .ins C dx fs => H dx = some (.own a) ∧ fs.length ≤ 1000 ∧ dx ≠ a ∧ h.get? a = some (PySem.W.instObj C dx) ∧
      ∃ mA, h.Ns1 dx mA ∧ (∀ f, RelO (fs.lookup f) (mA f)) ∧ PySem.Within mA (fs.map (·.1))
  | .own _ => ∃ o, h.get? a = some o
  | .xd fs => ∃ mA, h.Ns1 a mA ∧ ∀ f, RelO (fs.lookup f) (mA f)
  | .rng lo hi => ∃ t u v, h.get? a = some { cls := .type "range", data := .fields #[.int lo t, .int hi u, .int 1 v] }
  | .frz o u => h.get? a = some o ∧ ObjOk H h a u
  | .tbl ps => h.get? a = some { cls := .none, data := .fields ps }
  | .met f x => h.get? a = some (PySem.W.methodObj (.ref f) (.ref x))
  | .ext φ => φ h ∧ (∃ o, h.get? a = some o) ∧ ∀ h1 h2 : Heap, φ h1 → (∀ o, h1.get? a = some o → h2.get? a = some o) → φ h2
noncomputable def HOk (H : Hp) (h : Heap) : Prop := ∀ a o, H a = some o → ObjOk P w H h a o
end
section
variable {P : Program} {w : World} {H H' : Hp} {h h' : Heap} {a : Addr} {o : HO}
theorem ObjOk.lt (x : ObjOk P w H h a o) : a < h.objs.size := by
  cases o with
  | lst xs => obtain ⟨_, _, _, _, e⟩ := x; exact Heap.lt_size e
  | tup xs => obtain ⟨_, _, _, p⟩ := x; exact p.lt
  | dK kvs => obtain ⟨_, _, _, _, o, _, _, e, _⟩ := x; exact Heap.lt_size e
  | dT kvs => obtain ⟨_, _, _, _, o, _, _, e, _⟩ := x; exact Heap.lt_size e
  | set S n => obtain ⟨o, _, _, _, e, _⟩ := x; exact Heap.lt_size e
  | ins C dx fs => obtain ⟨_, _, _, e, _⟩ := x; exact Heap.lt_size e
  | own y => obtain ⟨_, e⟩ := x; exact Heap.lt_size e
  | xd fs => obtain ⟨_, ⟨_, _, _, e, _⟩, _⟩ := x; exact Heap.lt_size e
  | rng lo hi => obtain ⟨_, _, _, e⟩ := x; exact Heap.lt_size e
  | frz ob u => obtain ⟨e, _⟩ := x; exact Heap.lt_size e
  | tbl ps => exact Heap.lt_size (show h.get? a = some _ from x)
  | met f y => exact Heap.lt_size (show h.get? a = some _ from x)
  | ext φ => obtain ⟨_, ⟨_, e⟩, _⟩ := x; exact Heap.lt_size e
theorem Paired.mapP {α β : Type} {F G : α → β → Prop} : ∀ {l₁ : List α} {l₂ : List β}, Paired F l₁ l₂ → (∀ a b, F a b → G a b) → Paired G l₁ l₂
  | _, _, .nil, _ => .nil
  | _, _, .cons r t, f => .cons (f _ _ r) (Paired.mapP t f)
theorem ObjOk.stay (x : ObjOk P w H h a o) (k : ∀ b u, (b = a ∨ H b = some (.own a)) → h.get? b = some u → h'.get? b = some u)
    (ho : ∀ b, H b = some (.own a) → H' b = some (.own a)) (ht : ∀ b xs, H b = some (.tup xs) → H' b = some (.tup xs)) : ObjOk P w H' h' a o := by
  induction o with
  | lst xs => obtain ⟨z, its, n, r, e⟩ := x; exact ⟨z, its, n, r, k _ _ (.inl rfl) e⟩
  | tup xs => obtain ⟨z, its, r, ob, e, c⟩ := x; exact ⟨z, its, r, ob, k _ _ (.inl rfl) e, c⟩
  | dK kvs => obtain ⟨z, y, vs, r, ob, es, ep, e, c⟩ := x; exact ⟨z, y, vs, r, ob, es, ep, k _ _ (.inl rfl) e, c⟩
  | dT kvs =>
    obtain ⟨z, y, xs, r, ob, es, ep, e, c⟩ := x
    exact ⟨z, y, xs, Paired.mapP r fun p q z => ⟨z.1, ht _ _ z.2.1, z.2.2⟩, ob, es, ep, k _ _ (.inl rfl) e, c⟩
  | set S n => obtain ⟨ob, es, ep, t, e, c⟩ := x; exact ⟨ob, es, ep, t, k _ _ (.inl rfl) e, c⟩
  | ins C dx fs =>
    obtain ⟨d, z, ne, e, mA, ⟨od, es, ep, e2, c⟩, r⟩ := x
    exact ⟨ho _ d, z, ne, k _ _ (.inl rfl) e, mA, ⟨od, es, ep, k _ _ (.inr d) e2, c⟩, r⟩
  | own y => obtain ⟨ob, e⟩ := x; exact ⟨ob, k _ _ (.inl rfl) e⟩
  | xd fs => obtain ⟨mA, ⟨od, es, ep, e, c⟩, r⟩ := x; exact ⟨mA, ⟨od, es, ep, k _ _ (.inl rfl) e, c⟩, r⟩
  | rng lo hi => obtain ⟨t, u, v, e⟩ := x; exact ⟨t, u, v, k _ _ (.inl rfl) e⟩
  | frz ob u ih => obtain ⟨e, q⟩ := x; exact ⟨k _ _ (.inl rfl) e, ih q⟩
  | tbl ps =>
    have e : h.get? a = some { cls := .none, data := .fields ps } := x
    show h'.get? a = some { cls := .none, data := .fields ps }
    exact k a _ (.inl rfl) e
  | met f y =>
    have e : h.get? a = some (PySem.W.methodObj (.ref f) (.ref y)) := x
    show h'.get? a = some (PySem.W.methodObj (.ref f) (.ref y))
    exact k a _ (.inl rfl) e
  | ext φ => obtain ⟨p, ⟨o, e⟩, st⟩ := x; exact ⟨st _ _ p fun o q => k _ _ (.inl rfl) q, ⟨o, k _ _ (.inl rfl) e⟩, st⟩
theorem HOk.lt (x : HOk P w H h) (e : H a = some o) : a < h.objs.size := (x a o e).lt
theorem HOk.fresh (x : HOk P w H h) (e : h.objs.size ≤ a) : H a = none := by
  cases q : H a with
  | none => rfl
  | some u => exact absurd (Nat.lt_of_lt_of_le (x.lt q) e) (Nat.lt_irrefl _)
theorem HOk.kept (x : HOk P w H h) (k : ∀ b u, h.get? b = some u → h'.get? b = some u) : HOk P w H h' := fun a o e =>
  (x a o e).stay (fun b u _ q => k b u q) (fun _ q => q) fun _ _ q => q
theorem HOk.laid (x : HOk P w H h) (k : ∀ b u, h.get? b = some u → h'.get? b = some u) (hp : h.objs.size ≤ a) (new : ObjOk P w (upd H a o) h' a o) : HOk P w (upd H a o) h' := fun b u e => by
  have hn := x.fresh hp
  by_cases hb : b = a
  · subst hb; rw [upd_same] at e; cases e; exact new
  · rw [upd_ne hb] at e
    exact (x b u e).stay (fun c v _ q => k c v q) (fun c q => by rw [upd_ne (ne_of_none q hn)]; exact q) fun c xs q => by rw [upd_ne (ne_of_none q hn)]; exact q
end
noncomputable def Rd (H : Hp) (a : Addr) (u : HO) : Prop := H a = some u ∨ ∃ o, H a = some (.frz o u)
theorem Rd.of {H : Hp} {a : Addr} {u : HO} (h : H a = some u) : Rd H a u := .inl h
theorem Rd.ok {P : Program} {w : World} {H : Hp} {h : Heap} {a : Addr} {u : HO} (r : Rd H a u) (x : HOk P w H h) : ObjOk P w H h a u := by
  rcases r with r | ⟨o, r⟩
  · exact x a u r
  · obtain ⟨_, q⟩ := x a _ r
    exact q
noncomputable def Mut : Option HO → Prop
  | some (.lst _) => True
  | some (.dK _) => True
  | some (.dT _) => True
  | some (.set _ _) => True
  | some (.ins _ _ _) => True
  | some (.ext _) => True
  | _ => False
section
variable {P : Program} {w : World} {H : Hp} {h h' : Heap} {x e : Addr} {o' : HO}
theorem HOk.write (ok : HOk P w H h) (mu : Mut (H x)) (he : e = x ∨ H e = some (.own x)) (k : ∀ b u, b ≠ e → h.get? b = some u → h'.get? b = some u) (heo : ∃ u, h'.get? e = some u)
    (new : ObjOk P w (upd H x o') h' x o') : HOk P w (upd H x o') h' := fun b u q => by
  have nown : ∀ c y, H c = some (.own y) → c ≠ x := fun c y r z => by subst z; rw [r] at mu; exact mu
  have ntup : ∀ c xs, H c = some (.tup xs) → c ≠ x := fun c xs r z => by subst z; rw [r] at mu; exact mu
  by_cases hb : b = x
  · subst hb; rw [upd_same] at q; cases q; exact new
  · rw [upd_ne hb] at q
    by_cases hbe : b = e
    · have q' : H b = some (.own x) := by
        rcases he with z | z
        · exact absurd (hbe.trans z) hb
        · rw [hbe]; exact z
      rw [q] at q'; cases q'
      obtain ⟨v, hv⟩ := heo
      exact ⟨v, by rw [hbe]; exact hv⟩
    · refine (ok b u q).stay (fun c v hc r => k c v ?_ r) (fun c r => by rw [upd_ne (nown c b r)]; exact r) fun c xs r => by rw [upd_ne (ntup c xs r)]; exact r
      rcases hc with rfl | hc
      · exact hbe
      · rintro rfl
        rcases he with z | z
        · exact nown c b hc z
        · rw [hc] at z; cases z; exact hb rfl
end
structure Un (fs ex : List Addr) (H H' : Hp) (h h' : Heap) : Prop where
  keep : ∀ b o, h.get? b = some o → H b = none → b ∉ fs → b ∉ ex → h'.get? b = some o
  slot : ∀ b o, h.get? b = some o → H b = none → b ∈ fs → b ∉ ex → ∃ sl, h'.get? b = some { o with slots := sl }
  free : ∀ b o, h.get? b = some o → H b = none → b ∉ ex → H' b = none
  there : ∀ b o, h.get? b = some o → b ∉ ex → ∃ o', h'.get? b = some o'
  tups : ∀ b xs, H b = some (.tup xs) → H' b = some (.tup xs)
  frzs : ∀ b o u, H b = some (.frz o u) → H' b = some (.frz o u)
  tbls : ∀ b ps, H b = some (.tbl ps) → ∃ more, H' b = some (.tbl (ps ++ more))
section
variable {fs fs' ex ex' : List Addr} {H H1 H2 : Hp} {h h1 h2 h' : Heap} {a x e : Addr} {o : HO}
theorem Un.any (u : Un fs ex H H1 h h1) {b : Addr} {ob : Obj} (q : h.get? b = some ob) (n : H b = none) (hx : b ∉ ex) : ∃ sl, h1.get? b = some { ob with slots := sl } := by
  by_cases hb : b ∈ fs
  · exact u.slot b ob q n hb hx
  · exact ⟨ob.slots, u.keep b ob q n hb hx⟩
theorem Un.trans (a : Un fs ex H H1 h h1) (b : Un fs ex H1 H2 h1 h2) : Un fs ex H H2 h h2 where
  keep := fun c ob q n hc hx => b.keep c ob (a.keep c ob q n hc hx) (a.free c ob q n hx) hc hx
  slot := fun c ob q n hc hx => by
    obtain ⟨sl, e1⟩ := a.slot c ob q n hc hx
    obtain ⟨sl', e2⟩ := b.slot c _ e1 (a.free c ob q n hx) hc hx
    exact ⟨sl', e2⟩
  free := fun c ob q n hx => by
    obtain ⟨o', e1⟩ := a.there c ob q hx
    exact b.free c o' e1 (a.free c ob q n hx) hx
  there := fun c ob q hx => by
    obtain ⟨o', e1⟩ := a.there c ob q hx
    exact b.there c o' e1 hx
  tups := fun c xs q => b.tups c xs (a.tups c xs q)
  frzs := fun c ob xs q => b.frzs c ob xs (a.frzs c ob xs q)
  tbls := fun c ps q => by
    obtain ⟨m1, e1⟩ := a.tbls c ps q
    obtain ⟨m2, e2⟩ := b.tbls c _ e1
    exact ⟨m1 ++ m2, by rw [e2, Array.append_assoc]⟩
theorem Un.kept (k : ∀ b u, h.get? b = some u → h'.get? b = some u) : Un fs ex H H h h' :=
  ⟨fun b ob q _ _ _ => k b ob q, fun b ob q _ _ _ => ⟨ob.slots, k b ob q⟩, fun _ _ _ n _ => n, fun b ob q _ => ⟨ob, k b ob q⟩, fun _ _ q => q, fun _ _ _ q => q, fun _ ps q => ⟨#[], by rw [q]; simp⟩⟩
theorem Un.refl : Un fs ex H H h h := Un.kept fun _ _ q => q
theorem Un.laid (k : ∀ b u, h.get? b = some u → h'.get? b = some u) (hp : h.objs.size ≤ a) (hn : H a = none) : Un fs ex H (upd H a o) h h' where
  keep := fun b u q _ _ _ => k b u q
  slot := fun b u q _ _ _ => ⟨u.slots, k b u q⟩
  free := fun b u q n _ => by rw [upd_ne (Nat.ne_of_lt (Nat.lt_of_lt_of_le (Heap.lt_size q) hp))]; exact n
  there := fun b u q _ => ⟨u, k b u q⟩
  tups := fun b xs q => by rw [upd_ne (ne_of_none q hn)]; exact q
  frzs := fun b u xs q => by rw [upd_ne (ne_of_none q hn)]; exact q
  tbls := fun b ps q => ⟨#[], by rw [upd_ne (ne_of_none q hn), q]; simp⟩
theorem Un.write (mu : Mut (H x)) (he : e = x ∨ H e = some (.own x)) (k : ∀ b u, b ≠ e → h.get? b = some u → h'.get? b = some u) (heo : ∃ u, h'.get? e = some u) : Un fs ex H (upd H x o) h h' := by
  have hx : ∀ b, H b = none → b ≠ x := fun b n z => by subst z; rw [n] at mu; exact mu
  have hb : ∀ b, H b = none → b ≠ e := fun b n z => by
    subst z
    rcases he with r | r
    · exact hx b n r
    · rw [n] at r; cases r
  have hm : ∀ b u, H b = some u → ¬ Mut (some u) → b ≠ x := fun b u q nm z => by subst z; rw [q] at mu; exact nm mu
  refine ⟨fun b u q n _ _ => k b u (hb b n) q, fun b u q n _ _ => ⟨u.slots, k b u (hb b n) q⟩, fun b u q n _ => by rw [upd_ne (hx b n)]; exact n, fun b u q _ => ?_,
    fun b xs q => by rw [upd_ne (hm b _ q fun z => z)]; exact q, fun b u xs q => by rw [upd_ne (hm b _ q fun z => z)]; exact q, fun b ps q => ⟨#[], by rw [upd_ne (hm b _ q fun z => z), q]; simp⟩⟩
  by_cases hbe : b = e
  · subst hbe; exact heo
  · exact ⟨u, k b u hbe q⟩
theorem Un.mono (u : Un fs ex H H1 h h1) (hs : ∀ b ∈ fs, b ∈ fs') (hx : ∀ b ∈ ex, b ∈ ex') : Un fs' ex' H H1 h h1 :=
  ⟨fun b ob q n hb he => u.keep b ob q n (fun z => hb (hs b z)) fun z => he (hx b z), fun _ _ q n _ he => u.any q n fun z => he (hx _ z), fun b ob q n he => u.free b ob q n fun z => he (hx b z), fun b ob q he => u.there b ob q fun z => he (hx b z), u.tups, u.frzs, u.tbls⟩
end
noncomputable def trk (h : Heap) (H : Hp) : List Addr := (List.range h.objs.size).filter fun a => (H a).isSome
noncomputable def hidT (h : Heap) (H : Hp) : Heap := PySem.W.hideAll h (trk h H)
theorem hidT_size (h : Heap) (H : Hp) : (hidT h H).objs.size = h.objs.size := PySem.W.hideAll_size _ _
theorem hidT_get {h : Heap} {H : Hp} {b : Addr} {o : Obj} (e : h.get? b = some o) (n : H b = none) : (hidT h H).get? b = some o :=
  PySem.W.hideAll_get _ e fun hm => by
    have q : (H b).isSome = true := (List.mem_filter.mp hm).2
    rw [n] at q; simp at q
theorem of_hidT {h : Heap} {H : Hp} {b : Addr} {o : Obj} (e : (hidT h H).get? b = some o) : h.get? b = some o ∧ H b = none := by
  have e' : h.get? b = some o := PySem.W.of_hideAll (trk h H) e
  refine ⟨e', ?_⟩
  cases q : H b with
  | none => rfl
  | some x =>
    have hm : b ∈ trk h H := List.mem_filter.mpr ⟨List.mem_range.mpr (Heap.lt_size e'), by simp [q]⟩
    have z : (hidT h H).get? b = none := PySem.W.hideAll_none (trk h H) hm
    rw [z] at e; cases e
noncomputable def allNews (g h : Heap) (L : Addr) : List (Addr × Obj) := (List.range h.objs.size).filterMap fun a => if a = L ∨ (g.get? a).isSome = true then none else (h.get? a).map fun o => (a, o)
noncomputable def rest (g h : Heap) (L d : Addr) : List (Addr × Obj) := (allNews g h L).filter fun p => decide (p.1 ≠ d)
end L2
namespace L2
open PySem PySem.Spec PyProof.Rows
structure Mod (K : PySem.W.Frag) (mg : Str → Option Value) (base : Heap) : Prop where
  kin : K.In base
  glob : base.Ns mainGlobals mg
  blt : ∃ mb, base.Ns builtinsNs mb ∧ ∀ x : Str, x ≠ "__name__" → mb x = bootBuiltins x
  nolimit : base.NoLimit
structure Cx where
  prog : Program
  w : World
  K : PySem.W.Frag
  mg : Str → Option Value
  base : Heap
  A : Around
  N : List Str
  s₀ : Shared
  H₀ : Hp
  env : Env
  outer : List Env
  stack : List Env
  ex : List Addr
  fn : Str → Bool
  calm : Bool
  pn : List (Addr × Obj)
  xe : Value → Shared → Prop
noncomputable def frs (l : List Env) : List Addr := l.filterMap (·.frame)
noncomputable abbrev Cx.fs (X : Cx) : List Addr := frs X.outer
noncomputable def Vis (sc : Scope) (x : Str) : Prop := sc.names.lookup x = some .local ∨ sc.names.lookup x = some .cell ∨ sc.names.lookup x = some .free
noncomputable def Loc (sc : Scope) (x : Str) : Prop := sc.names.lookup x = some .local ∨ sc.names.lookup x = some .cell
noncomputable def Look (env : Env) (h : Heap) (m : Str → Option Value) (x : Str) (u : Value) : Prop :=
  (env.kindOf x = some .local ∧ m x = some u) ∨ ((env.kindOf x = some .cell ∨ env.kindOf x = some .free) ∧ ∃ c, env.cells.lookup x = some c ∧ h.IsCell c (some u))
structure Cx.Ok (X : Cx) : Prop where
  mod : Mod X.K X.mg X.base
  kind : X.env.scope.kind = .function
  glob : X.env.globals = mainGlobals
  blt : X.env.builtins = builtinsNs
  above : X.s₀.heap.objs.size ≤ X.env.locals
  inj : ∀ x y c, X.env.cells.lookup x = some c → X.env.cells.lookup y = some c → x = y
  has : ∀ x, (X.env.kindOf x = some .cell ∨ X.env.kindOf x = some .free) → ∃ c, X.env.cells.lookup x = some c
  cab : ∀ x c, X.fn x = true → X.env.cells.lookup x = some c → X.s₀.heap.objs.size ≤ c
  hd : X.calm = true → X.A.handled = none
  frames : X.A.frames = some X.stack
  stk : X.stack = X.outer ∨ (X.stack = X.env :: X.outer ∧ X.env.frame = some X.env.locals)
  exf : ∀ b ∈ X.ex, b ≠ X.env.locals ∧ ∀ x c, X.env.cells.lookup x = some c → c ≠ b
  bs : ∀ b o, X.base.get? b = some o → X.s₀.heap.get? b = some o ∧ X.H₀ b = none
  bsz : X.base.objs.size ≤ X.s₀.heap.objs.size
  noex : ∀ b o, X.base.get? b = some o → b ∉ X.ex
  exfs : ∀ b ∈ X.ex, b ∉ X.fs
  funs : X.s₀.heap.FunFrames X.base X.outer
  frf : ∀ b ∈ X.fs, X.H₀ b = none
structure Inv (X : Cx) (pins : List (Addr × Obj)) (σ : List (Option V)) (H : Hp) (s : Shared) : Prop where
  ok : X.Ok
  os : s.os = X.s₀.os
  bare : AllBare s.gens
  base : Un X.fs X.ex X.H₀ H X.s₀.heap s.heap
  loc : ∃ m, s.heap.Ns X.env.locals m ∧ ∀ (i : Nat) (x : Str) (v : V), X.N[i]? = some x → σ[i]? = some (some v) → Vis X.env.scope x → ∃ u, RelV v u ∧ Look X.env s.heap m x u
  cell : ∀ x c, X.env.cells.lookup x = some c → ∃ v, s.heap.IsCell c v
  free : H X.env.locals = none
  freeC : ∀ x c, X.env.cells.lookup x = some c → H c = none
  pin : ∀ p ∈ X.pn ++ pins, s.heap.get? p.1 = some p.2 ∧ H p.1 = none ∧ p.1 ≠ X.env.locals ∧ p.1 ∉ X.fs ∧ ∀ v, p.2.data ≠ .cell v
  hok : HOk X.prog X.w H s.heap
  len : σ.length = X.N.length
section
variable {X : Cx} {pins : List (Addr × Obj)} {σ : List (Option V)} {H H' : Hp} {s : Shared} {h' : Heap}
theorem Cx.Ok.nofr (ok : X.Ok) {b : Addr} {o : Obj} (e : X.base.get? b = some o) : b ∉ X.fs := fun hb => by
  have := (ok.funs.mem hb).1
  rw [e] at this; cases this
theorem Inv.bs (I : Inv X pins σ H s) : ∀ b o, X.base.get? b = some o → s.heap.get? b = some o ∧ H b = none := fun b o e =>
  ⟨I.base.keep b o (I.ok.bs b o e).1 (I.ok.bs b o e).2 (I.ok.nofr e) (I.ok.noex b o e), I.base.free b o (I.ok.bs b o e).1 (I.ok.bs b o e).2 (I.ok.noex b o e)⟩
theorem Inv.bk (I : Inv X pins σ H s) : ∀ b o, X.base.get? b = some o → s.heap.get? b = some o := fun b o e => (I.bs b o e).1
theorem Inv.mod (I : Inv X pins σ H s) : Mod X.K X.mg X.base := I.ok.mod
theorem Inv.kIn (I : Inv X pins σ H s) : X.K.In s.heap := I.ok.mod.kin.keeps I.bk
theorem Inv.nolimit (I : Inv X pins σ H s) : s.heap.NoLimit := I.ok.mod.nolimit.keeps I.bk
theorem Inv.fr (I : Inv X pins σ H s) : ∃ m, Fr X.base X.env.locals s.heap m :=
  let ⟨m, hn, _⟩ := I.loc
  ⟨m, hn, I.bk, Nat.le_trans I.ok.bsz I.ok.above⟩
theorem Inv.lt (I : Inv X pins σ H s) : X.env.locals < s.heap.objs.size := let ⟨_, hn, _⟩ := I.loc; hn.lt
theorem Inv.sz (I : Inv X pins σ H s) : X.s₀.heap.objs.size ≤ s.heap.objs.size := Nat.le_trans I.ok.above (Nat.le_of_lt I.lt)
theorem Inv.nofs (I : Inv X pins σ H s) {a : Addr} (h : s.heap.objs.size ≤ a) : a ∉ X.fs := fun hb => by
  obtain ⟨_, o, ho, _⟩ := I.ok.funs.mem hb
  exact absurd (Nat.lt_of_lt_of_le (Heap.lt_size ho) (Nat.le_trans I.sz h)) (Nat.lt_irrefl _)
theorem Inv.cne (I : Inv X pins σ H s) : ∀ x c, X.env.cells.lookup x = some c → c ≠ X.env.locals := fun x c e z => by
  obtain ⟨v, o, ho, hd⟩ := I.cell x c e
  obtain ⟨m, ⟨o', es, ep, ho', hd', _⟩, _⟩ := I.loc
  rw [z, ho'] at ho; cases ho; rw [hd'] at hd; cases hd
theorem Inv.funs (I : Inv X pins σ H s) : s.heap.FunFrames X.base X.outer := by
  have all : ∀ (l : List Env), (∀ b ∈ frs l, b ∈ X.fs) → X.s₀.heap.FunFrames X.base l → s.heap.FunFrames X.base l := by
    intro l
    induction l with
    | nil => intro _ _; trivial
    | cons env r ih =>
      intro hs hl
      obtain ⟨hk, ⟨L, o, hf, hn, ho, hd⟩, hr⟩ := hl
      have hL : L ∈ X.fs := hs L (by unfold frs; rw [List.filterMap_cons, hf]; exact List.mem_cons_self)
      obtain ⟨sl, e⟩ := I.base.slot L o ho (I.ok.frf L hL) hL fun z => I.ok.exfs L z hL
      exact ⟨hk, ⟨L, _, hf, hn, e, hd⟩, ih (fun b hb => hs b (by unfold frs; rw [List.filterMap_cons, hf]; exact List.mem_cons_of_mem _ hb)) hr⟩
  exact all X.outer (fun _ hb => hb) I.ok.funs
theorem Inv.stack (I : Inv X pins σ H s) : s.heap.FunFrames X.base X.stack := by
  rcases I.ok.stk with e | ⟨e, hf⟩
  · rw [e]; exact I.funs
  · rw [e]
    obtain ⟨m, hn, _⟩ := I.loc
    refine .cons (by rw [I.ok.kind]; decide) hf hn ?_ I.funs
    exact Heap.get?_none_of_le (Nat.le_trans I.ok.bsz I.ok.above)
theorem Inv.stkSub (I : Inv X pins σ H s) : ∀ b ∈ frs X.stack, b ∈ X.env.locals :: X.fs := fun b hb => by
  rcases I.ok.stk with e | ⟨e, hf⟩
  · rw [e] at hb; exact List.mem_cons_of_mem _ hb
  · rw [e] at hb
    unfold frs at hb
    rw [List.filterMap_cons, hf] at hb
    exact hb
theorem Inv.stkFree (I : Inv X pins σ H s) : ∀ b ∈ frs X.stack, H b = none := fun b hb => by
  rcases List.mem_cons.mp (I.stkSub b hb) with e | hb
  · rw [e]; exact I.free
  · obtain ⟨_, o, ho, _⟩ := I.ok.funs.mem hb
    exact I.base.free b o ho (I.ok.frf b hb) fun z => I.ok.exfs b z hb
theorem Inv.step {g' : Array GenState} {t' : Nat} {d' : Drawn} {ch : List Addr} (I : Inv X pins σ H s)
    (hch : ∀ b ∈ ch, (b ∈ X.ex ∨ X.s₀.heap.objs.size ≤ b) ∧ b ≠ X.env.locals ∧ (∀ x c, X.env.cells.lookup x = some c → c ≠ b) ∧ ∀ p ∈ X.pn ++ pins, p.1 ≠ b)
    (keep : ∀ b o, b ≠ X.env.locals → b ∉ X.fs → b ∉ ch → s.heap.get? b = some o → H b = none → h'.get? b = some o)
    (slot : ∀ b o, b ≠ X.env.locals → b ∈ X.fs → b ∉ ch → s.heap.get? b = some o → H b = none → ∃ sl, h'.get? b = some { o with slots := sl }) (free : ∀ b o, b ∉ ch → s.heap.get? b = some o → H b = none → H' b = none)
    (there : ∀ b o, b ∉ ch → s.heap.get? b = some o → ∃ o', h'.get? b = some o')
    (tups : ∀ b xs, H b = some (.tup xs) → H' b = some (.tup xs)) (frzs : ∀ b o u, H b = some (.frz o u) → H' b = some (.frz o u)) (tbls : ∀ b ps, H b = some (.tbl ps) → ∃ more, H' b = some (.tbl (ps ++ more)))
    (ns : ∀ m, s.heap.Ns X.env.locals m → h'.Ns X.env.locals m) (hok : HOk X.prog X.w H' h') (hg : AllBare g') :
    Inv X pins σ H' { s with heap := h', gens := g', drawn := d', toks := t' } := by
  have neL : ∀ b o, X.s₀.heap.get? b = some o → b ≠ X.env.locals := fun b o e => Nat.ne_of_lt (Nat.lt_of_lt_of_le (Heap.lt_size e) I.ok.above)
  have neC : ∀ b o, X.s₀.heap.get? b = some o → b ∉ X.ex → b ∉ ch := fun b o e hx hb => by
    rcases (hch b hb).1 with z | z
    · exact hx z
    · exact absurd (Nat.lt_of_lt_of_le (Heap.lt_size e) z) (Nat.lt_irrefl _)
  have cellK : ∀ x c, X.env.cells.lookup x = some c → ∀ v, s.heap.IsCell c v → h'.IsCell c v := fun x c e v ⟨o, ho, hd⟩ => by
    have nch : c ∉ ch := fun z => (hch c z).2.2.1 x c e rfl
    by_cases hc : c ∈ X.fs
    · obtain ⟨sl, q⟩ := slot c o (I.cne x c e) hc nch ho (I.freeC x c e)
      exact ⟨_, q, hd⟩
    · exact ⟨o, keep c o (I.cne x c e) hc nch ho (I.freeC x c e), hd⟩
  refine ⟨I.ok, I.os, hg, ⟨fun b o e n hb hx => ?_, fun b o e n hb hx => ?_, fun b o e n hx => ?_, fun b o e hx => ?_, fun b xs e => tups b xs (I.base.tups b xs e), fun b o xs e => frzs b o xs (I.base.frzs b o xs e), fun b ps e => ?_⟩, ?_, fun x c e => ?_, ?_, fun x c e => ?_, fun p hp => ?_, hok, I.len⟩
  · exact keep b o (neL b o e) hb (neC b o e hx) (I.base.keep b o e n hb hx) (I.base.free b o e n hx)
  · obtain ⟨sl, e1⟩ := I.base.slot b o e n hb hx
    obtain ⟨sl', e2⟩ := slot b _ (neL b o e) hb (neC b o e hx) e1 (I.base.free b o e n hx)
    exact ⟨sl', e2⟩
  · obtain ⟨o', e1⟩ := I.base.there b o e hx
    exact free b o' (neC b o e hx) e1 (I.base.free b o e n hx)
  · obtain ⟨o', e1⟩ := I.base.there b o e hx
    exact there b o' (neC b o e hx) e1
  · obtain ⟨m1, e1⟩ := I.base.tbls b ps e
    obtain ⟨m2, e2⟩ := tbls b _ e1
    exact ⟨m1 ++ m2, by rw [e2, Array.append_assoc]⟩
  · obtain ⟨m, hn, hl⟩ := I.loc
    refine ⟨m, ns m hn, fun i x v e1 e2 e3 => ?_⟩
    obtain ⟨u, r, l⟩ := hl i x v e1 e2 e3
    refine ⟨u, r, ?_⟩
    rcases l with l | ⟨k, c, e, z⟩
    · exact .inl l
    · exact .inr ⟨k, c, e, cellK x c e _ z⟩
  · obtain ⟨v, z⟩ := I.cell x c e
    exact ⟨v, cellK x c e v z⟩
  · obtain ⟨m, ⟨o, _, _, ho, _⟩, _⟩ := I.loc
    exact free _ o (fun z => (hch _ z).2.1 rfl) ho I.free
  · obtain ⟨v, o, ho, hd⟩ := I.cell x c e
    exact free c o (fun z => (hch c z).2.2.1 x c e rfl) ho (I.freeC x c e)
  · obtain ⟨e, n, ne, nf, d⟩ := I.pin p hp
    have nch : p.1 ∉ ch := fun z => (hch p.1 z).2.2.2 p hp rfl
    exact ⟨keep p.1 p.2 ne nf nch e n, free p.1 p.2 nch e n, ne, nf, d⟩
theorem Inv.un {t' : Nat} (I : Inv X pins σ H s) (u : Un X.fs [] H H' s.heap h') (hok : HOk X.prog X.w H' h') : Inv X pins σ H' { s with heap := h', toks := t' } := by
  obtain ⟨m, ⟨o, es, ep, ho, r⟩, _⟩ := id I.loc
  obtain ⟨sl, hL⟩ := u.any ho I.free (by simp)
  exact I.step (g' := s.gens) (d' := s.drawn) (ch := []) (fun _ z => nomatch z) (fun b o _ hb _ e n => u.keep b o e n hb (by simp)) (fun b o _ hb _ e n => u.slot b o e n hb (by simp)) (fun b o _ e n => u.free b o e n (by simp)) (fun b o _ e => u.there b o e (by simp)) u.tups u.frzs u.tbls (fun m' hm => by
    obtain ⟨o', es', ep', ho', r'⟩ := hm
    rw [ho] at ho'; cases ho'
    exact ⟨_, es', ep', hL, r'⟩) hok I.bare
theorem Inv.call {g' : Array GenState} {t' : Nat} {d' : Drawn} {ch : List Addr} (I : Inv X pins σ H s) (u : Un (frs X.stack) ch H H' s.heap h') (hok : HOk X.prog X.w H' h') (hg : AllBare g')
    (hch : ∀ b ∈ ch, (b ∈ X.ex ∨ X.s₀.heap.objs.size ≤ b) ∧ b ≠ X.env.locals ∧ (∀ x c, X.env.cells.lookup x = some c → c ≠ b) ∧ ∀ p ∈ X.pn ++ pins, p.1 ≠ b) :
    Inv X pins σ H' { s with heap := h', gens := g', drawn := d', toks := t' } := by
  obtain ⟨m, ⟨o, es, ep, ho, r⟩, _⟩ := id I.loc
  obtain ⟨sl, hL⟩ := u.any ho I.free fun z => (hch _ z).2.1 rfl
  exact I.step (ch := ch) hch (fun b o hL hb hc e n => u.keep b o e n (fun z => (List.mem_cons.mp (I.stkSub b z)).elim hL hb) hc) (fun b o _ _ hc e n => u.any e n hc) (fun b o hc e n => u.free b o e n hc) (fun b o hc e => u.there b o e hc) u.tups u.frzs u.tbls (fun m' hm => by
    obtain ⟨o', es', ep', ho', r'⟩ := hm
    rw [ho] at ho'; cases ho'
    exact ⟨_, es', ep', hL, r'⟩) hok hg
theorem Inv.turned {t' : Nat} {it : Addr} (I : Inv X pins σ H s) (k : ∀ b o, b ≠ it → s.heap.get? b = some o → h'.get? b = some o) (hn : H it = none) (hL : it ≠ X.env.locals)
    (h1 : it ∈ X.ex ∨ X.s₀.heap.objs.size ≤ it) (h2 : ∀ x c, X.env.cells.lookup x = some c → c ≠ it) (h3 : ∀ p ∈ X.pn ++ pins, p.1 ≠ it) : Inv X pins σ H { s with heap := h', toks := t' } := by
  have nit : ∀ b u, H b = some u → b ≠ it := fun b u e z => by rw [z, hn] at e; cases e
  refine I.step (g' := s.gens) (d' := s.drawn) (ch := [it]) (fun b hb => ?_) (fun b o _ _ hc e _ => k b o (fun z => hc (by simp [z])) e) (fun b o _ _ hc e _ => ⟨o.slots, k b o (fun z => hc (by simp [z])) e⟩) (fun _ _ _ _ n => n)
    (fun b o hc e => ⟨o, k b o (fun z => hc (by simp [z])) e⟩) (fun _ _ e => e) (fun _ _ _ e => e) (fun b ps e => ⟨#[], by rw [e]; simp⟩) (fun m hm => ?_) (fun b u e => ?_) I.bare
  · have e : b = it := by simpa using hb
    subst e
    exact ⟨h1, hL, h2, h3⟩
  · obtain ⟨o, es, ep, ho, r⟩ := hm
    exact ⟨o, es, ep, k _ o (Ne.symm hL) ho, r⟩
  · refine (I.hok b u e).stay (fun c v hc q => k c v ?_ q) (fun _ q => q) fun _ _ q => q
    rcases hc with z | z
    · rw [z]; exact nit b u e
    · exact nit c _ z
theorem Inv.tok (I : Inv X pins σ H s) (t : Nat) : Inv X pins σ H { s with toks := t } := I.un (h' := s.heap) (t' := t) Un.refl I.hok
theorem Inv.kept {t' : Nat} (I : Inv X pins σ H s) (k : ∀ b u, s.heap.get? b = some u → h'.get? b = some u) : Inv X pins σ H { s with heap := h', toks := t' } := I.un (Un.kept k) (I.hok.kept k)
theorem Inv.laid {a : Addr} {o : HO} {t' : Nat} (I : Inv X pins σ H s) (k : ∀ b u, s.heap.get? b = some u → h'.get? b = some u) (hp : s.heap.objs.size ≤ a) (new : ObjOk X.prog X.w (upd H a o) h' a o) :
    Inv X pins σ (upd H a o) { s with heap := h', toks := t' } := I.un (Un.laid k hp (I.hok.fresh hp)) (I.hok.laid k hp new)
theorem Inv.write {x e : Addr} {o : HO} {t' : Nat} (I : Inv X pins σ H s) (mu : Mut (H x)) (he : e = x ∨ H e = some (.own x)) (k : ∀ b u, b ≠ e → s.heap.get? b = some u → h'.get? b = some u) (heo : ∃ u, h'.get? e = some u)
    (new : ObjOk X.prog X.w (upd H x o) h' x o) : Inv X pins σ (upd H x o) { s with heap := h', toks := t' } := I.un (Un.write mu he k heo) (I.hok.write mu he k heo new)
theorem Inv.weak {σ' : List (Option V)} (I : Inv X pins σ H s) (hl : σ'.length = σ.length) (w : ∀ (i : Nat) v, σ'[i]? = some (some v) → σ[i]? = some (some v)) : Inv X pins σ' H s :=
  ⟨I.ok, I.os, I.bare, I.base, let ⟨m, hn, hl'⟩ := I.loc; ⟨m, hn, fun i x v e1 e2 e3 => hl' i x v e1 (w i v e2) e3⟩, I.cell, I.free, I.freeC, I.pin, I.hok, hl.trans I.len⟩
theorem Inv.pins_of {pins' : List (Addr × Obj)} (I : Inv X pins σ H s) (h : ∀ p ∈ pins', s.heap.get? p.1 = some p.2 ∧ H p.1 = none ∧ p.1 ≠ X.env.locals ∧ p.1 ∉ X.fs ∧ ∀ v, p.2.data ≠ .cell v) : Inv X pins' σ H s :=
  ⟨I.ok, I.os, I.bare, I.base, I.loc, I.cell, I.free, I.freeC, fun p hp => (List.mem_append.mp hp).elim (fun z => I.pin p (List.mem_append_left _ z)) (h p), I.hok, I.len⟩
theorem nodup_ix {N : List Str} (hN : N.Nodup) {i j : Nat} {x : Str} (a : N[i]? = some x) (b : N[j]? = some x) : i = j := by
  obtain ⟨h1, e1⟩ := List.getElem?_eq_some_iff.mp a
  obtain ⟨h2, e2⟩ := List.getElem?_eq_some_iff.mp b
  exact (List.getElem_inj hN).mp (e1.trans e2.symm)
theorem store_ok2 {M : Model} {A : Around} {E : Value → Shared → Prop} {i : Nat} {x : Str} {v : V} {u : Value} {Q : Unit → Shared → Prop} (I : Inv X pins σ H s) (hN : X.N.Nodup) (hi : X.N[i]? = some x) (hx : Loc X.env.scope x) (r : RelV v u)
    (h : ∀ s', Inv X pins (σ.set i (some v)) H s' → (∃ a, Heap.SameBut a s.heap s'.heap ∧ (a = X.env.locals ∨ X.env.cells.lookup x = some a)) → Q () s') (hf : X.fn x = true ∨ X.env.scope.names.lookup x = some .local := by first | exact .inl rfl | exact .inr rfl | assumption) : wpAny M A (storeName X.env x u) Q E s := by
  obtain ⟨m, hn, hl⟩ := id I.loc
  have hcls : (X.env.scope.kind == .class || (X.env.scope.kind == .module && X.env.locals != X.env.globals)) = false := by rw [I.ok.kind]; rfl
  have hiσ : i < σ.length := by rw [I.len]; exact (List.getElem?_eq_some_iff.mp hi).1
  have cne := I.cne
  have tracked : ∀ {a : Addr} {h' : Heap}, (∃ o, s.heap.get? a = some o ∧ H a = none) → Heap.SameBut a s.heap h' → HOk X.prog X.w H h' := fun {a h'} ha hs b ob e => by
    obtain ⟨_, _, hfree⟩ := ha
    refine (I.hok b ob e).stay (fun c w' hc q => (hs.2 c ?_).trans q) (fun _ q => q) fun _ _ q => q
    rintro rfl
    rcases hc with rfl | hc
    · rw [hfree] at e; cases e
    · rw [hfree] at hc; cases hc
  rcases hx with hk | hk
  · refine wpAny_storeName_local hk hn (fun h' hn' hs => ?_) hcls
    obtain ⟨oL, _, _, hoL, _⟩ := id hn
    refine h _ ⟨I.ok, I.os, I.bare, ⟨fun b o e n hb hx => ?_, fun b o e n hb hx => ?_, I.base.free, fun b o e hx => ?_, I.base.tups, I.base.frzs, I.base.tbls⟩, ⟨_, hn', fun j y v' e1 e2 e3 => ?_⟩, fun y c e => ?_, I.free, I.freeC, fun p hp => ?_, tracked ⟨oL, hoL, I.free⟩ hs, by simpa using I.len⟩ ⟨_, hs, .inl rfl⟩
    · exact (hs.2 b (Nat.ne_of_lt (Nat.lt_of_lt_of_le (Heap.lt_size e) I.ok.above))).trans (I.base.keep b o e n hb hx)
    · obtain ⟨sl, e1⟩ := I.base.slot b o e n hb hx
      exact ⟨sl, (hs.2 b (Nat.ne_of_lt (Nat.lt_of_lt_of_le (Heap.lt_size e) I.ok.above))).trans e1⟩
    · obtain ⟨o', e1⟩ := I.base.there b o e hx
      exact ⟨o', (hs.2 b (Nat.ne_of_lt (Nat.lt_of_lt_of_le (Heap.lt_size e) I.ok.above))).trans e1⟩
    · by_cases hj : j = i
      · subst hj
        rw [hi] at e1; cases e1
        rw [List.getElem?_set_self hiσ] at e2
        cases e2
        exact ⟨u, r, .inl ⟨hk, by simp⟩⟩
      · rw [List.getElem?_set_ne (Ne.symm hj)] at e2
        obtain ⟨u', r', q⟩ := hl j y v' e1 e2 e3
        refine ⟨u', r', ?_⟩
        rcases q with ⟨k, e⟩ | ⟨k, c, e, z⟩
        · refine .inl ⟨k, ?_⟩
          have : y ≠ x := fun e => hj (nodup_ix hN e1 (e ▸ hi))
          simp [this, e]
        · exact .inr ⟨k, c, e, z.sameBut hs (cne y c e)⟩
    · obtain ⟨w', z⟩ := I.cell y c e
      exact ⟨w', z.sameBut hs (cne y c e)⟩
    · obtain ⟨e, n, ne, nf, d⟩ := I.pin p hp
      exact ⟨(hs.2 p.1 ne).trans e, n, ne, nf, d⟩
  · have hfn : X.fn x = true := by
      rcases hf with z | z
      · exact z
      · rw [z] at hk; cases hk
    obtain ⟨c, hc⟩ := I.ok.has x (.inl hk)
    obtain ⟨w', z⟩ := I.cell x c hc
    refine wpAny_storeName_cell I.ok.kind hk hc z (fun h' hc' hs => ?_)
    obtain ⟨oc, hoc, hocd⟩ := id z
    refine h { s with heap := h' } ⟨I.ok, I.os, I.bare, ⟨fun b o e n hb hx => ?_, fun b o e n hb hx => ?_, I.base.free, fun b o e hx => ?_, I.base.tups, I.base.frzs, I.base.tbls⟩, ⟨m, hn.sameBut hs (Ne.symm (cne x c hc)), fun j y v' e1 e2 e3 => ?_⟩, fun y c' e => ?_, I.free, I.freeC, fun p hp => ?_, tracked ⟨oc, hoc, I.freeC x c hc⟩ hs, by simpa using I.len⟩ ⟨c, hs, .inr hc⟩
    · exact (hs.2 b (Nat.ne_of_lt (Nat.lt_of_lt_of_le (Heap.lt_size e) (I.ok.cab x c hfn hc)))).trans (I.base.keep b o e n hb hx)
    · obtain ⟨sl, e1⟩ := I.base.slot b o e n hb hx
      exact ⟨sl, (hs.2 b (Nat.ne_of_lt (Nat.lt_of_lt_of_le (Heap.lt_size e) (I.ok.cab x c hfn hc)))).trans e1⟩
    · obtain ⟨o', e1⟩ := I.base.there b o e hx
      exact ⟨o', (hs.2 b (Nat.ne_of_lt (Nat.lt_of_lt_of_le (Heap.lt_size e) (I.ok.cab x c hfn hc)))).trans e1⟩
    · by_cases hj : j = i
      · subst hj
        rw [hi] at e1; cases e1
        rw [List.getElem?_set_self hiσ] at e2
        cases e2
        exact ⟨u, r, .inr ⟨.inl hk, c, hc, hc'⟩⟩
      · rw [List.getElem?_set_ne (Ne.symm hj)] at e2
        obtain ⟨u', r', q⟩ := hl j y v' e1 e2 e3
        refine ⟨u', r', ?_⟩
        rcases q with q | ⟨k, c', e, z'⟩
        · exact .inl q
        · refine .inr ⟨k, c', e, z'.sameBut hs ?_⟩
          rintro rfl
          exact hj (nodup_ix hN e1 (I.ok.inj _ _ _ e hc ▸ hi))
    · by_cases hcc : c' = c
      · subst hcc; exact ⟨_, hc'⟩
      · obtain ⟨w2, z2⟩ := I.cell y c' e
        exact ⟨w2, z2.sameBut hs hcc⟩
    · obtain ⟨e, n, ne, nf, d⟩ := I.pin p hp
      refine ⟨(hs.2 p.1 ?_).trans e, n, ne, nf, d⟩
      intro q
      rw [q, hoc] at e
      have q' : oc = p.2 := Option.some.inj e
      exact d w' (by rw [← q']; exact hocd)
theorem store_ok {M : Model} {A : Around} {E : Value → Shared → Prop} {i : Nat} {x : Str} {v : V} {u : Value} {Q : Unit → Shared → Prop} (I : Inv X pins σ H s) (hN : X.N.Nodup) (hi : X.N[i]? = some x) (hx : Loc X.env.scope x) (r : RelV v u)
    (h : ∀ s', Inv X pins (σ.set i (some v)) H s' → Q () s') (hf : X.fn x = true ∨ X.env.scope.names.lookup x = some .local := by first | exact .inl rfl | exact .inr rfl | assumption) : wpAny M A (storeName X.env x u) Q E s :=
  store_ok2 I hN hi hx r (fun s' I' _ => h s' I') hf
theorem Inv.call' {s' : Shared} {ch : List Addr} (I : Inv X pins σ H s) (ho : s'.os = s.os) (u : Un (frs X.stack) ch H H' s.heap s'.heap) (hok : HOk X.prog X.w H' s'.heap) (hg : AllBare s'.gens)
    (hch : ∀ b ∈ ch, (b ∈ X.ex ∨ X.s₀.heap.objs.size ≤ b) ∧ b ≠ X.env.locals ∧ (∀ x c, X.env.cells.lookup x = some c → c ≠ b) ∧ ∀ p ∈ X.pn ++ pins, p.1 ≠ b) : Inv X pins σ H' s' := by
  obtain ⟨h', g', d', t', o'⟩ := s'
  have e : o' = s.os := ho
  subst e
  exact I.call (g' := g') (t' := t') (d' := d') u hok hg hch
end
noncomputable abbrev XK := Value → Option Addr → Hp → Prop
noncomputable abbrev St := List (Option V)
noncomputable abbrev VK := V → Hp → Prop
noncomputable abbrev TE := St → Hp → VK → Prop
noncomputable abbrev TT := St → Hp → (Bool → Hp → Prop) → Prop
noncomputable abbrev TA := St → Hp → (List V → Hp → Prop) → Prop
structure Ends where
  nx : St → Hp → Prop
  rt : VK
  bk : St → Hp → Prop := fun _ _ => False
  ct : St → Hp → Prop := fun _ _ => False
noncomputable abbrev TS := Ends → St → Hp → Prop
noncomputable def EP (X : Cx) (pins : List (Addr × Obj)) (σ : St) (Q : VK) (u : Value) (s' : Shared) : Prop := ∃ v H', Inv X pins σ H' s' ∧ RelV v u ∧ Q v H'
noncomputable def TP (X : Cx) (pins : List (Addr × Obj)) (σ : St) (Q : Bool → Hp → Prop) (b : Bool) (s' : Shared) : Prop := ∃ H', Inv X pins σ H' s' ∧ Q b H'
noncomputable def AP (X : Cx) (pins : List (Addr × Obj)) (σ : St) (Q : List V → Hp → Prop) (us : List Value) (s' : Shared) : Prop := ∃ vs H', Inv X pins σ H' s' ∧ Vals vs us ∧ Q vs H'
noncomputable def SP (X : Cx) (pins : List (Addr × Obj)) (D : Ends) (f : Flow) (s' : Shared) : Prop :=
  match f with
  | .next => ∃ σ' H', Inv X pins σ' H' s' ∧ D.nx σ' H'
  | .brk => ∃ σ' H', Inv X pins σ' H' s' ∧ D.bk σ' H'
  | .cont => ∃ σ' H', Inv X pins σ' H' s' ∧ D.ct σ' H'
  | .ret u => ∃ v σ' H', Inv X pins σ' H' s' ∧ RelV v u ∧ D.rt v H'
noncomputable def PE (X : Cx) (e : Expr) (t : TE) : Prop :=
  ∀ (pins : List (Addr × Obj)) (s : Shared) (σ : St) (H : Hp) (Q : VK), Inv X pins σ H s → t σ H Q → wpAny (model X.prog X.w) X.A (eval e X.env) (EP X pins σ Q) X.xe s
noncomputable def PT (X : Cx) (e : Expr) (t : TT) : Prop :=
  ∀ (pins : List (Addr × Obj)) (s : Shared) (σ : St) (H : Hp) (Q : Bool → Hp → Prop), Inv X pins σ H s → t σ H Q → wpAny (model X.prog X.w) X.A (isTrue e X.env (eval e X.env)) (TP X pins σ Q) X.xe s
noncomputable def PW (X : Cx) (e : Expr) (t : TT) : Prop :=
  ∀ (whole : Sem Value) (pins : List (Addr × Obj)) (s : Shared) (σ : St) (H : Hp) (Q : Bool → Hp → Prop), Inv X pins σ H s → t σ H Q → wpAny (model X.prog X.w) X.A (isTrue e X.env whole) (TP X pins σ Q) X.xe s
theorem PW.pt {X : Cx} {e : Expr} {t : TT} (h : PW X e t) : PT X e t := h _
noncomputable def PA (X : Cx) (es : List Expr) (t : TA) : Prop :=
  ∀ (pos : Pos) (pins : List (Addr × Obj)) (s : Shared) (σ : St) (H : Hp) (Q : List V → Hp → Prop), Inv X pins σ H s → t σ H Q → wpAny (model X.prog X.w) X.A (spliced (backTo pos (starEach es X.env))) (AP X pins σ Q) X.xe s
noncomputable def PS (X : Cx) (st : Stmt) (t : TS) : Prop :=
  ∀ (pins : List (Addr × Obj)) (s : Shared) (σ : St) (H : Hp) (D : Ends), Inv X pins σ H s → t D σ H → wpAny (model X.prog X.w) X.A (exec st X.env) (SP X pins D) X.xe s
noncomputable def PSs (X : Cx) (st : List Stmt) (t : TS) : Prop :=
  ∀ (pins : List (Addr × Obj)) (s : Shared) (σ : St) (H : Hp) (D : Ends), Inv X pins σ H s → t D σ H → wpAny (model X.prog X.w) X.A (execs st X.env) (SP X pins D) X.xe s
theorem thn {α : Type} {t : Sem α} {Q Q' : α → Shared → Prop} {M : Model} {A : Around} {E : Value → Shared → Prop} {s : Shared} (h : wpAny M A t Q E s) (hQ : ∀ a s, Q a s → Q' a s) : wpAny M A t Q' E s := wpAny_mono h hQ fun _ _ x => x
end L2
namespace L2
open PySem PySem.Spec PyProof.Rows
section
variable {X : Cx}
noncomputable def tVar (i : Nat) : TE := fun σ H Q => ∃ v, σ[i]? = some (some v) ∧ Q v H
noncomputable def tC (v : V) : TE := fun _ H Q => Q v H
theorem pe_var {i : Nat} {x : Str} {pos : Pos} (hN : X.N[i]? = some x) (hv : Vis X.env.scope x) (hd : (x == ("__debug__" : Str)) = false := by decide) (hcd : (x == ("__classdict__" : Str)) = false := by decide) : PE X (.Name x pos) (tVar i) := by
  intro pins s σ H Q I h
  obtain ⟨v, e, h⟩ := h
  obtain ⟨m, hn, hl⟩ := I.loc
  obtain ⟨u, r, l⟩ := hl i x v hN e hv
  have fin : EP X pins σ Q u s := ⟨v, H, I, r, h⟩
  rcases l with ⟨hk, hm⟩ | ⟨hk, c, hc, hcell⟩
  · exact wpAny_Name (wpAny_loadName_local I.ok.kind hk hn hm fin) hd
  · rcases hk with hk | hk
    · exact wpAny_Name (wpAny_loadName_cell I.ok.kind hk hc hcell fin) hd
    · exact wpAny_Name (wpAny_loadName_free I.ok.kind hk hc hcell fin hcd) hd
theorem pe_int {i j pos} : PE X (.Constant (.int i) j pos) (tC (.int i)) := fun _ _ _ H _ I h => wpAny_Constant_int ⟨.int i, H, I.tok _, ⟨_, rfl⟩, h⟩
theorem pe_bl {b j pos} : PE X (.Constant (.bool b) j pos) (tC (.bl b)) := fun _ _ _ H _ I h => Constant_bool ⟨.bl b, H, I, rfl, h⟩
theorem pe_non {j pos} : PE X (.Constant .none j pos) (tC .non) := fun _ _ _ H _ I h => Constant_none ⟨.non, H, I, rfl, h⟩
theorem pe_str {x j pos} : PE X (.Constant (.str x) j pos) (tC (.str x)) := fun _ _ _ H _ I h => Calls.Constant_str ⟨.str x, H, I.tok _, ⟨_, rfl⟩, h⟩
noncomputable def Gl (X : Cx) (x : Str) : Prop := X.env.kindOf x = some .globalImplicit
theorem ld_glob {E : Value → Shared → Prop} {pins : List (Addr × Obj)} {s : Shared} {σ : St} {H : Hp} {x : Str} {u : Value} {pos : Pos} {Q : Value → Shared → Prop} (I : Inv X pins σ H s) (hg : Gl X x) (hm : X.mg x = some u) (h : Q u s)
    (hd : (x == ("__debug__" : Str)) = false := by decide) : wpAny (model X.prog X.w) X.A (eval (.Name x pos) X.env) Q E s :=
  Calls.Name_function_global I.ok.kind hg (Calls.loadGlobal_global (by rw [I.ok.glob]; exact I.mod.glob.keeps I.bk) hm h) hd
theorem ld_blt {E : Value → Shared → Prop} {pins : List (Addr × Obj)} {s : Shared} {σ : St} {H : Hp} {x : Str} {u : Value} {pos : Pos} {Q : Value → Shared → Prop} (I : Inv X pins σ H s) (hg : Gl X x) (hm : X.mg x = none) (hv : bootBuiltins x = some u) (h : Q u s)
    (hn : x ≠ "__name__" := by decide) (hd : (x == ("__debug__" : Str)) = false := by decide) : wpAny (model X.prog X.w) X.A (eval (.Name x pos) X.env) Q E s := by
  obtain ⟨mb, h1, h2⟩ := I.mod.blt
  exact Calls.Name_function_global I.ok.kind hg (Calls.loadGlobal_builtin (by rw [I.ok.glob]; exact I.mod.glob.keeps I.bk) hm (by rw [I.ok.blt]; exact h1.keeps I.bk) ((h2 x hn).trans hv) h) hd
theorem pe_glob {x : Str} {v : V} {u : Value} {pos : Pos} (hg : Gl X x) (hm : X.mg x = some u) (r : RelV v u) (hd : (x == ("__debug__" : Str)) = false := by decide) : PE X (.Name x pos) (tC v) :=
  fun _ _ _ H _ I h => ld_glob I hg hm ⟨v, H, I, r, h⟩ hd
theorem pe_bltn {x : Str} {v : V} {u : Value} {pos : Pos} (hg : Gl X x) (hm : X.mg x = none) (hv : bootBuiltins x = some u) (r : RelV v u) (hn : x ≠ "__name__" := by decide) (hd : (x == ("__debug__" : Str)) = false := by decide) : PE X (.Name x pos) (tC v) :=
  fun _ _ _ H _ I h => ld_blt I hg hm hv ⟨v, H, I, r, h⟩ hn hd
variable {a b : Expr} {ta tb : TE} {pos : Pos}
noncomputable def tB (t : TE) : TT := fun σ H Q => t σ H fun x H1 => ∃ c, x = .bl c ∧ Q c H1
theorem pt_val {e : Expr} {t : TE} (h : PE X e t) (he : ∀ whole, isTrue e X.env whole = (do let v ← whole; standAt e.pos; holding [v] (truthy v)) := by intro _; rfl) : PT X e (tB t) := by
  intro pins s σ H Q I hw
  refine isTrue_plain (thn (h pins s σ H _ I hw) fun v s1 ⟨x, H1, I1, r1, q1⟩ => ?_) (he _)
  obtain ⟨d, rfl, q⟩ := q1
  cases r1
  exact wpAny_truthy_bool ⟨H1, I1, q⟩
variable {tA tB' : TT} {rest : List Expr}
noncomputable def tAnd (t u : TT) : TT := fun σ H Q => t σ H fun c H1 => if c = true then u σ H1 Q else Q false H1
noncomputable def tOr (t u : TT) : TT := fun σ H Q => t σ H fun c H1 => if c = true then Q true H1 else u σ H1 Q
noncomputable def tNot (t : TT) : TT := fun σ H Q => t σ H fun c H1 => Q (!c) H1
theorem pw_and1 (ha : PT X a tA) : PW X (.BoolOp .And [a] pos) tA := by
  intro wh pins s σ H Q I h
  refine isTrue_and (thn (ha pins s σ H Q I h) fun c s1 e => ?_)
  cases c with
  | true => exact isTrue_and_nil e
  | false => exact e
theorem pw_or1 (ha : PT X a tA) : PW X (.BoolOp .Or [a] pos) tA := by
  intro wh pins s σ H Q I h
  refine isTrue_or (thn (ha pins s σ H Q I h) fun c s1 e => ?_)
  cases c with
  | false => exact isTrue_or_nil e
  | true => exact e
theorem pw_and (ha : PT X a tA) (hb : PW X (.BoolOp .And (b :: rest) pos) tB') : PW X (.BoolOp .And (a :: b :: rest) pos) (tAnd tA tB') := by
  intro wh pins s σ H Q I h
  refine isTrue_and (thn (ha pins s σ H _ I h) fun c s1 ⟨H1, I1, q1⟩ => ?_)
  cases c with
  | true => exact hb wh pins s1 σ H1 Q I1 q1
  | false => exact ⟨H1, I1, q1⟩
theorem pw_or (ha : PT X a tA) (hb : PW X (.BoolOp .Or (b :: rest) pos) tB') : PW X (.BoolOp .Or (a :: b :: rest) pos) (tOr tA tB') := by
  intro wh pins s σ H Q I h
  refine isTrue_or (thn (ha pins s σ H _ I h) fun c s1 ⟨H1, I1, q1⟩ => ?_)
  cases c with
  | true => exact ⟨H1, I1, q1⟩
  | false => exact hb wh pins s1 σ H1 Q I1 q1
theorem pt_not (ha : PT X a tA) : PT X (.UnaryOp .Not a pos) (tNot tA) := by
  intro pins s σ H Q I h
  exact isTrue_not (ha pins s σ H (fun c H1 => Q (!c) H1) I h)
noncomputable def tAndV (ta tb : TE) : TE := fun σ H Q => ta σ H fun x H1 => ∃ c, x = .bl c ∧ if c = true then tb σ H1 Q else Q (.bl false) H1
noncomputable def tOrV (ta tb : TE) : TE := fun σ H Q => ta σ H fun x H1 => ∃ c, x = .bl c ∧ if c = true then Q (.bl true) H1 else tb σ H1 Q
theorem pe_one {op} {t : TE} (h : PE X a t) : PE X (.BoolOp op [a] pos) t := fun pins s σ H Q I hw => BoolOp_one (h pins s σ H Q I hw)
theorem pe_and (ha : PE X a ta) (hb : PE X (.BoolOp .And (b :: rest) pos) tb) : PE X (.BoolOp .And (a :: b :: rest) pos) (tAndV ta tb) := by
  intro pins s σ H Q I h
  refine BoolOp_and (thn (ha pins s σ H _ I h) fun v s1 ⟨x, H1, I1, r1, q1⟩ => ?_)
  obtain ⟨c, rfl, q1⟩ := q1
  cases r1
  refine wpAny_truthy_bool ?_
  cases c with
  | true => exact hb pins s1 σ H1 Q I1 q1
  | false => exact ⟨.bl false, H1, I1, rfl, q1⟩
theorem pe_or (ha : PE X a ta) (hb : PE X (.BoolOp .Or (b :: rest) pos) tb) : PE X (.BoolOp .Or (a :: b :: rest) pos) (tOrV ta tb) := by
  intro pins s σ H Q I h
  refine BoolOp_or (thn (ha pins s σ H _ I h) fun v s1 ⟨x, H1, I1, r1, q1⟩ => ?_)
  obtain ⟨c, rfl, q1⟩ := q1
  cases r1
  refine wpAny_truthy_bool ?_
  cases c with
  | false => exact hb pins s1 σ H1 Q I1 q1
  | true => exact ⟨.bl true, H1, I1, rfl, q1⟩
noncomputable def tIf (t : TT) (ta tb : TE) : TE := fun σ H Q => t σ H fun c H1 => if c = true then ta σ H1 Q else tb σ H1 Q
theorem pe_ifExp {c : Expr} (hc : PT X c tA) (ha : PE X a ta) (hb : PE X b tb) : PE X (.IfExp c a b pos) (tIf tA ta tb) := by
  intro pins s σ H Q I h
  refine wpAny_IfExp (thn (hc pins s σ H _ I h) fun d s1 ⟨H1, I1, q1⟩ => ?_)
  cases d with
  | true => exact ha pins s1 σ H1 Q I1 q1
  | false => exact hb pins s1 σ H1 Q I1 q1
end
end L2
namespace L2
open PySem PySem.Spec PyProof.Rows
noncomputable def SqL (K : PySem.W.Frag) (H : Hp) (a : Addr) (xs : List V) : Prop :=
  Rd H a (.lst xs) ∨
    ∃ (o : Obj) (its : Array Value) (n : Nat), K.lookup a = some o ∧ o.cls = .type "list" ∧ o.dict = none ∧ o.data = .seq its n ∧ its.size ≤ sizeLine ∧ Vals xs its.toList
noncomputable def SqT (K : PySem.W.Frag) (H : Hp) (a : Addr) (xs : List V) : Prop :=
  Rd H a (.tup xs) ∨
    ∃ (o : Obj) (its : Array Value) (n : Nat), K.lookup a = some o ∧ o.cls = .type "tuple" ∧ o.dict = none ∧ o.data = .seq its n ∧ its.size ≤ sizeLine ∧ Vals xs its.toList
noncomputable def absV : Value → Option V
  | .none => some .non
  | .bool b => some (.bl b)
  | .int i _ => some (.int i)
  | .str x _ => some (.str x)
  | .bytes b _ => some (.byt b)
  | .float b _ => some (.flt b)
  | .ref a => some (.ref a)
  | .type n => some (.ty n)
  | _ => none
theorem RelV.abs {x : V} {u : Value} (r : RelV x u) : absV u = some x := by
  cases x with
  | non => cases r; rfl
  | bl _ => cases r; rfl
  | int _ => obtain ⟨t, rfl⟩ := r; rfl
  | str _ => obtain ⟨t, rfl⟩ := r; rfl
  | byt _ => obtain ⟨t, rfl⟩ := r; rfl
  | flt _ => obtain ⟨t, rfl⟩ := r; rfl
  | ref _ => cases r; rfl
  | ty _ => cases r; rfl
theorem RelV.inj {x y : V} {u : Value} (r : RelV x u) (q : RelV y u) : x = y := Option.some.inj (r.abs.symm.trans q.abs)
theorem Vals.inj : ∀ {xs ys : List V} {us : List Value}, Vals xs us → Vals ys us → xs = ys
  | _, _, _, .nil, .nil => rfl
  | _, _, _, .cons r t, .cons r' t' => by rw [r.inj r', Vals.inj t t']
section
variable {X : Cx} {pins : List (Addr × Obj)} {σ : St} {H : Hp} {s : Shared} {a : Addr} {xs ys : List V}
theorem SqL.of {K : PySem.W.Frag} (h : H a = some (.lst xs)) : SqL K H a xs := .inl (.inl h)
theorem SqT.of {K : PySem.W.Frag} (h : H a = some (.tup xs)) : SqT K H a xs := .inl (.inl h)
theorem Inv.list (I : Inv X pins σ H s) (h : SqL X.K H a xs) : ∃ its : List Value, Vals xs its ∧ PlainL s.heap a its.toArray ∧ xs.length ≤ sizeLine := by
  rcases h with h | ⟨o, its, n, hk, hc, hd, hs, hz, r⟩
  · obtain ⟨z, its, n, r, e⟩ := h.ok I.hok
    exact ⟨its, r, ⟨_, n, e, rfl, rfl, rfl⟩, z⟩
  · refine ⟨its.toList, r, ⟨o, n, I.kIn a o hk, hc, hd, by simpa using hs⟩, ?_⟩
    have e := r.length
    simp only [Array.length_toList] at e
    omega
theorem Inv.tupN (I : Inv X pins σ H s) (h : SqT X.K H a xs) : ∃ its : List Value, Vals xs its ∧ TupN s.heap a its.toArray ∧ xs.length ≤ sizeLine := by
  rcases h with h | ⟨o, its, n, hk, hc, hd, hs, hz, r⟩
  · obtain ⟨z, its, r, p⟩ := h.ok I.hok
    exact ⟨its, r, p, z⟩
  · refine ⟨its.toList, r, ⟨o, I.kIn a o hk, ⟨hc, n, by simpa using hs⟩, hd⟩, ?_⟩
    have e := r.length
    simp only [Array.length_toList] at e
    omega
theorem Inv.tuple (I : Inv X pins σ H s) (h : SqT X.K H a xs) : ∃ its : List Value, Vals xs its ∧ IsTup s.heap a its.toArray ∧ xs.length ≤ sizeLine := let ⟨its, r, p, z⟩ := I.tupN h; ⟨its, r, p.tup, z⟩
theorem Inv.list_inj (I : Inv X pins σ H s) (h : SqL X.K H a xs) (h' : SqL X.K H a ys) : xs = ys := by
  obtain ⟨its, r, ⟨o, n, e, _, _, d⟩, _⟩ := I.list h
  obtain ⟨its', r', ⟨o', n', e', _, _, d'⟩, _⟩ := I.list h'
  rw [e] at e'; cases e'
  rw [d] at d'
  injection d' with d1 _
  have : its = its' := by simpa using congrArg Array.toList d1
  subst this
  exact r.inj r'
theorem Inv.tuple_inj (I : Inv X pins σ H s) (h : SqT X.K H a xs) (h' : SqT X.K H a ys) : xs = ys := by
  obtain ⟨its, r, ⟨o, e, _, n, d⟩, _⟩ := I.tuple h
  obtain ⟨its', r', ⟨o', e', _, n', d'⟩, _⟩ := I.tuple h'
  rw [e] at e'; cases e'
  rw [d] at d'
  injection d' with d1 _
  have : its = its' := by simpa using congrArg Array.toList d1
  subst this
  exact r.inj r'
end
noncomputable abbrev Cx.wish (X : Cx) (E : Value → Shared → Prop) : Cx := { X with xe := E }
noncomputable abbrev Cx.nox (X : Cx) : Cx := X.wish fun _ _ => False
theorem Cx.Ok.wish {X : Cx} (ok : X.Ok) (E : Value → Shared → Prop) : (X.wish E).Ok :=
  ⟨ok.mod, ok.kind, ok.glob, ok.blt, ok.above, ok.inj, ok.has, ok.cab, ok.hd, ok.frames, ok.stk, ok.exf, ok.bs, ok.bsz, ok.noex, ok.exfs, ok.funs, ok.frf⟩
theorem Cx.Ok.unwish {X : Cx} {E : Value → Shared → Prop} (ok : (X.wish E).Ok) : X.Ok :=
  ⟨ok.mod, ok.kind, ok.glob, ok.blt, ok.above, ok.inj, ok.has, ok.cab, ok.hd, ok.frames, ok.stk, ok.exf, ok.bs, ok.bsz, ok.noex, ok.exfs, ok.funs, ok.frf⟩
section
variable {X : Cx} {pins : List (Addr × Obj)} {σ : St} {H : Hp} {s : Shared} {E : Value → Shared → Prop}
theorem Inv.wish (I : Inv X pins σ H s) (E : Value → Shared → Prop) : Inv (X.wish E) pins σ H s := ⟨I.ok.wish E, I.os, I.bare, I.base, I.loc, I.cell, I.free, I.freeC, I.pin, I.hok, I.len⟩
theorem Inv.unwish (I : Inv (X.wish E) pins σ H s) : Inv X pins σ H s := ⟨I.ok.unwish, I.os, I.bare, I.base, I.loc, I.cell, I.free, I.freeC, I.pin, I.hok, I.len⟩
theorem SP.unwish {D : Ends} {f : Flow} {s' : Shared} (h : SP (X.wish E) pins D f s') : SP X pins D f s' := by
  cases f with
  | next => obtain ⟨σ', H', I, q⟩ := h; exact ⟨σ', H', I.unwish, q⟩
  | brk => obtain ⟨σ', H', I, q⟩ := h; exact ⟨σ', H', I.unwish, q⟩
  | cont => obtain ⟨σ', H', I, q⟩ := h; exact ⟨σ', H', I.unwish, q⟩
  | ret u => obtain ⟨v, σ', H', I, r, q⟩ := h; exact ⟨v, σ', H', I.unwish, r, q⟩
theorem PE.nox {e : Expr} {t : TE} (h : PE X.nox e t) : PE X e t := fun pins s σ H Q I hw =>
  wpAny_mono (h pins s σ H Q (I.wish _) hw) (fun _ _ ⟨v, H', I', r, q⟩ => ⟨v, H', I'.unwish, r, q⟩) fun _ _ z => False.elim z
theorem PT.nox {e : Expr} {t : TT} (h : PT X.nox e t) : PT X e t := fun pins s σ H Q I hw =>
  wpAny_mono (h pins s σ H Q (I.wish _) hw) (fun _ _ ⟨H', I', q⟩ => ⟨H', I'.unwish, q⟩) fun _ _ z => False.elim z
theorem PSs.nox {st : List Stmt} {t : TS} (h : PSs X.nox st t) : PSs X st t := fun pins s σ H D I hw =>
  wpAny_mono (h pins s σ H D (I.wish _) hw) (fun _ _ q => q.unwish) fun _ _ z => False.elim z
end
section
variable {X : Cx} {st : Stmt} {rest : List Stmt} {t u : TS} {e : Expr} {te : TE} {pos : Pos}
noncomputable def tNext : TS := fun D σ H => D.nx σ H
noncomputable def tSeq (t u : TS) : TS := fun D σ H => t { D with nx := u D } σ H
theorem pss_nil : PSs X [] tNext := fun _ _ σ H _ I h => wpAny_execs_nil ⟨σ, H, I, h⟩
theorem pss_cons (h1 : PS X st t) (h2 : PSs X rest u) : PSs X (st :: rest) (tSeq t u) := by
  intro pins s σ H D I h
  refine wpAny_execs_cons (thn (h1 pins s σ H { D with nx := u D } I h) fun f s1 q => ?_)
  cases f with
  | next =>
    obtain ⟨σ', H', I', q⟩ := q
    exact h2 pins s1 σ' H' D I' q
  | ret v => exact q
  | brk => exact q
  | cont => exact q
theorem pss_one (h1 : PS X st t) : PSs X [st] t := by
  intro pins s σ H D I h
  refine wpAny_execs_cons (thn (h1 pins s σ H D I h) fun f s1 q => ?_)
  cases f with
  | next => exact wpAny_execs_nil q
  | ret v => exact q
  | brk => exact q
  | cont => exact q
theorem Inv.quiet {pins : List (Addr × Obj)} {σ : St} {H : Hp} {s : Shared} (I : Inv X pins σ H s) : interactive X.env = false := by simp [interactive, I.ok.kind]
noncomputable def tDrop (te : TE) : TS := fun D σ H => te σ H fun _ H1 => D.nx σ H1
theorem ps_expr (he : PE X e te) (hs : swapsWith e none pos.line X.env = pure false := by rfl) : PS X (.Expr e pos) (tDrop te) := by
  intro pins s σ H D I h
  exact wpAny_Expr_any (thn (he pins s σ H _ I h) fun v s1 ⟨x, H1, I1, r1, q1⟩ => ⟨σ, H1, I1, q1⟩) I.quiet hs
noncomputable def tRet (te : TE) : TS := fun D σ H => te σ H D.rt
theorem ps_ret (he : PE X e te) : PS X (.Return (some e) pos) (tRet te) := by
  intro pins s σ H D I h
  exact wpAny_Return_some (thn (he pins s σ H _ I h) fun v s1 ⟨x, H1, I1, r1, q1⟩ => ⟨x, σ, H1, I1, r1, q1⟩)
noncomputable def tIfS (c : TT) (t u : TS) : TS := fun D σ H => c σ H fun b H1 => if b = true then t D σ H1 else u D σ H1
theorem ps_if {c : Expr} {a b : List Stmt} {tc : TT} (hc : PT X c tc) (ha : PSs X a t) (hb : PSs X b u) : PS X (.If c a b pos) (tIfS tc t u) := by
  intro pins s σ H D I h
  refine wpAny_If (thn (hc pins s σ H _ I h) fun d s1 ⟨H1, I1, q1⟩ => ?_)
  cases d with
  | true => exact ha pins s1 σ H1 D I1 q1
  | false => exact hb pins s1 σ H1 D I1 q1
noncomputable def tNever : TS := fun _ _ _ => False
theorem ps_never : PS X st tNever := fun _ _ _ _ _ _ h => h.elim
end
noncomputable abbrev TG := V → St → Hp → (St → Hp → Prop) → Prop
noncomputable abbrev TGs := List V → St → Hp → (St → Hp → Prop) → Prop
noncomputable def PG (X : Cx) (target : Expr) (t : TG) : Prop :=
  ∀ (pins : List (Addr × Obj)) (s : Shared) (σ : St) (H : Hp) (v : V) (u : Value) (Q : St → Hp → Prop), Inv X pins σ H s → RelV v u → t v σ H Q →
    wpAny (model X.prog X.w) X.A (assign target X.env u) (fun _ s' => ∃ σ' H', Inv X pins σ' H' s' ∧ Q σ' H') X.xe s
noncomputable def PGs (X : Cx) (ts : List Expr) (t : TGs) : Prop :=
  ∀ (pins : List (Addr × Obj)) (s : Shared) (σ : St) (H : Hp) (vs : List V) (us : List Value) (Q : St → Hp → Prop), Inv X pins σ H s → Vals vs us → t vs σ H Q →
    wpAny (model X.prog X.w) X.A (assignInOrder ((assignEach ts X.env).map (·.2)) us) (fun _ s' => ∃ σ' H', Inv X pins σ' H' s' ∧ Q σ' H') X.xe s
noncomputable abbrev TSet := V → V → V → Hp → (Hp → Prop) → Prop
noncomputable def PSet (X : Cx) (t : TSet) : Prop :=
  ∀ (pins : List (Addr × Obj)) (s : Shared) (σ : St) (H : Hp) (o i v : V) (ov iv u : Value) (Q : Hp → Prop), Inv X pins σ H s → RelV o ov → RelV i iv → RelV v u → t o i v H Q →
    wpAny (model X.prog X.w) X.A (setItem ov iv u) (fun _ s' => ∃ H', Inv X pins σ H' s' ∧ Q H') X.xe s
section
variable {X : Cx} {pos : Pos}
noncomputable def gName (i : Nat) : TG := fun v σ H Q => Q (σ.set i (some v)) H
theorem pg_name {i : Nat} {x : Str} (hN : X.N.Nodup) (hi : X.N[i]? = some x) (hx : Loc X.env.scope x) (hf : X.fn x = true ∨ X.env.scope.names.lookup x = some .local := by first | exact .inl rfl | exact .inr rfl | assumption) : PG X (.Name x pos) (gName i) := by
  intro pins s σ H v u Q I r h
  exact wpAny_assign_Name (store_ok I hN hi hx r (fun s' I' => ⟨_, H, I', h⟩) hf)
noncomputable def gNil : TGs := fun vs σ H Q => vs = [] ∧ Q σ H
noncomputable def gCons (t : TG) (u : TGs) : TGs := fun vs σ H Q => ∃ v r, vs = v :: r ∧ t v σ H fun σ' H' => u r σ' H' Q
theorem pgs_nil : PGs X [] gNil := by
  intro pins s σ H vs us Q I r h
  obtain ⟨e, h⟩ := h
  subst e
  cases r
  exact assignInOrder_nil ⟨σ, H, I, h⟩
theorem pgs_cons {e : Expr} {es : List Expr} {t : TG} {u : TGs} (h1 : PG X e t) (h2 : PGs X es u)
    (hs : (assignEach (e :: es) X.env).map (·.2) = assign e X.env :: (assignEach es X.env).map (·.2) := by rfl) : PGs X (e :: es) (gCons t u) := by
  intro pins s σ H vs us Q I r h
  obtain ⟨v, vr, e1, h⟩ := h
  subst e1
  cases r with
  | cons r rr =>
    rw [hs]
    refine assignInOrder_cons (thn (h1 pins s σ H _ _ _ I r h) fun _ s1 ⟨σ1, H1, I1, q1⟩ => ?_)
    exact h2 pins s1 σ1 H1 _ _ Q I1 rr q1
noncomputable def gTup (K : PySem.W.Frag) (n : Nat) (t : TGs) : TG := fun v σ H Q => ∃ a xs, v = .ref a ∧ SqT K H a xs ∧ xs.length = n ∧ t xs σ H Q
theorem pg_tup {es : List Expr} {k : Nat} {t : TGs} {n : Nat} (hc : X.calm = true) (h : PGs X es t)
    (hn : (assignEach es X.env).length = n := by rfl) (hst : (assignEach es X.env).findIdx? (·.1) = none := by rfl) : PG X (.Tuple es k pos) (gTup X.K n t) := by
  intro pins s σ H v u Q I r hw
  obtain ⟨a, xs, e1, hq, hl, hw⟩ := hw
  subst e1
  cases r
  obtain ⟨its, rv, ht, hz⟩ := I.tuple hq
  refine assign_Tuple_tuple (I.ok.hd hc) ht (by simp [hn, ← hl, rv.length]) hst fun h' hx => ?_
  have I1 : Inv X pins σ H { s with heap := h' } := I.kept (t' := s.toks) fun b o e => hx b o (Nat.ne_of_lt (Heap.lt_size e)) e
  exact h pins _ σ H xs _ Q I1 (by simpa using rv) hw
noncomputable def gSub (to ti : TE) (t : TSet) : TG := fun v σ H Q => to σ H fun o H1 => ti σ H1 fun i H2 => t o i v H2 fun H3 => Q σ H3
theorem pg_sub {o i : Expr} {to ti : TE} {t : TSet} (ho : PE X o to) (hi : PE X i ti) (hs : PSet X t)
    (ha : ∀ v, assign (.Subscript o i pos) X.env v = (do
      let ov ← holding [v] (eval o X.env)
      let iv ← holding [v, ov] (eval i X.env)
      standAt pos
      holding [v, ov, iv] (setItem ov iv v)
      release [v, ov, iv] []) := by intro _; rfl) : PG X (.Subscript o i pos) (gSub to ti t) := by
  intro pins s σ H v u Q I r h
  rw [ha]
  refine wpAny_bind (wpAny_holding (thn (ho pins s σ H _ I h) fun ov s1 ⟨x, H1, I1, r1, q1⟩ => ?_))
  refine wpAny_bind (wpAny_holding (thn (hi pins s1 σ H1 _ I1 q1) fun iv s2 ⟨y, H2, I2, r2, q2⟩ => ?_))
  refine wpAny_bind (wpAny_standAt (wpAny_bind (wpAny_holding (thn (hs pins s2 σ H2 x y v ov iv u _ I2 r1 r2 r q2) fun _ s3 ⟨H3, I3, q3⟩ => ?_))))
  exact wpAny_release ⟨σ, H3, I3, q3⟩
noncomputable def tAsg (te : TE) (g : TG) : TS := fun D σ H => te σ H fun x H1 => g x σ H1 D.nx
theorem ps_asg {tg e : Expr} {te : TE} {g : TG} (he : PE X e te) (hg : PG X tg g) (hs : swapsWithSole [tg] e pos.line X.env = pure false := by rfl) (hw : swappedStores [tg] e X.env = pure none := by rfl)
    (h1 : (assignEach [tg] X.env).map (·.2) = [assign tg X.env] := by rfl) : PS X (.Assign [tg] e pos) (tAsg te g) := by
  intro pins s σ H D I h
  refine wpAny_Assign_stores (thn (he pins s σ H _ I h) fun v s1 ⟨x, H1, I1, r1, q1⟩ => ?_) hs hw
  rw [h1]
  exact thn (hg pins s1 σ H1 x v _ I1 r1 q1) fun _ s2 q => q
theorem ps_set {i : Nat} {x : Str} {e : Expr} {te : TE} {pos' : Pos} (hN : X.N.Nodup) (hi : X.N[i]? = some x) (hx : Loc X.env.scope x) (he : PE X e te) (hs : swapsWith e (some (.Name x pos')) pos.line X.env = pure false := by rfl) (hf : X.fn x = true ∨ X.env.scope.names.lookup x = some .local := by first | exact .inl rfl | exact .inr rfl | assumption) :
    PS X (.Assign [.Name x pos'] e pos) (tAsg te (gName i)) := by
  intro pins s σ H D I h
  refine wpAny_Assign_Name (thn (he pins s σ H _ I h) fun v s1 ⟨y, H1, I1, r1, q1⟩ => ?_) hs
  exact store_ok I1 hN hi hx r1 (fun s2 I2 => ⟨_, H1, I2, q1⟩) hf
end
section
variable {X : Cx} {pos : Pos}
end
structure It where
  go : Nat → Hp → Prop
  yld : Nat → Hp → V → Hp → Prop
  stop : Nat → Hp → Prop
noncomputable def FpOk (X : Cx) (pins : List (Addr × Obj)) (H : Hp) (b : Addr) : Prop :=
  H b = none ∧ b ≠ X.env.locals ∧ b ∉ X.fs ∧ (b ∈ X.ex ∨ X.s₀.heap.objs.size ≤ b) ∧ (∀ x c, X.env.cells.lookup x = some c → c ≠ b) ∧ ∀ p ∈ X.pn ++ pins, p.1 ≠ b
theorem Inv.fpOk {X : Cx} {pins : List (Addr × Obj)} {σ : St} {H H' : Hp} {s : Shared} {b : Addr} (I : Inv X pins σ H s) (hb : s.heap.objs.size ≤ b) (hn : H' b = none) : FpOk X pins H' b := by
  refine ⟨hn, Nat.ne_of_gt (Nat.lt_of_lt_of_le I.lt hb), I.nofs hb, .inr (Nat.le_trans I.sz hb), fun x c e z => ?_, fun p hp z => ?_⟩
  · obtain ⟨v, q⟩ := I.cell x c e
    exact absurd (Nat.lt_of_lt_of_le q.lt (by rw [z]; exact hb)) (Nat.lt_irrefl _)
  · exact absurd (Nat.lt_of_lt_of_le (Heap.lt_size (I.pin p hp).1) (by rw [z]; exact hb)) (Nat.lt_irrefl _)
structure Turn (P : Program) (w : World) (K : PySem.W.Frag) (tg : Expr) (J : It) (fp : List Addr) (it : Addr) (tn : Nat → Heap → Prop) : Prop where
  mem : it ∈ fp
  obj : ∀ i h, tn i h → ∀ b ∈ fp, ∃ o, h.get? b = some o ∧ ∀ v, o.data ≠ .cell v
  keep : ∀ i h h', tn i h → (∀ b ∈ fp, ∀ o, h.get? b = some o → h'.get? b = some o) → tn i h'
  item : ∀ (X : Cx), X.prog = P → X.w = w → X.K = K → X.calm = true → ∀ (i : Nat) (pins : List (Addr × Obj)) (s : Shared) (σ : St) (H : Hp) (E : Value → Shared → Prop), Inv X pins σ H s → (∀ b ∈ fp, FpOk X pins H b) → tn i s.heap → J.go i H →
    wpAny (model P w) X.A (pyNext (.ref it)) (fun r s1 => ∃ u, r = some u ∧
      wpAny (model P w) X.A (letOwnedTupleGo tg (.ref it) u) (fun _ s2 => ∃ x H', Inv X pins σ H' s2 ∧ RelV x u ∧ J.yld i H x H' ∧ tn (i + 1) s2.heap ∧ ∀ b ∈ fp, H' b = none) E s1) E s
  done : ∀ (X : Cx), X.prog = P → X.w = w → X.K = K → X.calm = true → ∀ (i : Nat) (pins : List (Addr × Obj)) (s : Shared) (σ : St) (H : Hp) (E : Value → Shared → Prop), Inv X pins σ H s → (∀ b ∈ fp, FpOk X pins H b) → tn i s.heap → J.stop i H →
    wpAny (model P w) X.A (pyNext (.ref it)) (fun r s1 => r = none ∧ Inv X pins σ H s1) E s
  self : ∀ (A : Around) (i : Nat) (s : Shared) (Q : Value → Shared → Prop) (E : Value → Shared → Prop), tn i s.heap → Q (.ref it) s → wpAny (model P w) A (pyIter (.ref it)) Q E s
noncomputable abbrev TI := St → Hp → (It → Hp → Prop) → Prop
noncomputable def PIE (X : Cx) (pins : List (Addr × Obj)) (σ : St) (tg : Expr) (R : It → Hp → Prop) (itv : Value) (s2 : Shared) : Prop :=
  ∃ (it : Addr) (fp : List Addr) (tn : Nat → Heap → Prop) (J : It) (H' : Hp), itv = .ref it ∧ Inv X pins σ H' s2 ∧ Turn X.prog X.w X.K tg J fp it tn ∧ tn 0 s2.heap ∧ (∀ b ∈ fp, FpOk X pins H' b) ∧ R J H'
noncomputable def PI (X : Cx) (tg iter : Expr) (wi : TI) : Prop :=
  ∀ (pins : List (Addr × Obj)) (s : Shared) (σ : St) (H : Hp) (R : It → Hp → Prop), Inv X pins σ H s → wi σ H R →
    wpAny (model X.prog X.w) X.A (eval iter X.env) (fun v s1 => wpAny (model X.prog X.w) X.A (pyIter v) (PIE X pins σ tg R) X.xe s1) X.xe s
theorem go_of {M : Model} {A : Around} {E : Value → Shared → Prop} {s : Shared} {tg : Expr} {it : Addr} {u : Value} {o : Obj} {n : String} {vs : Array Value} {Q : Unit → Shared → Prop} (ho : s.heap.get? it = some o) (hc : o.cls = .type n) (hd : o.data = .fields vs)
    (hn : ["enumerate", "zip", "dict_itemiterator", "dict_reverseitemiterator", "odict_iterator", "itertools.zip_longest", "itertools.pairwise"].contains n = false) (hQ : Q () s) : wpAny M A (letOwnedTupleGo tg (.ref it) u) Q E s := by
  unfold letOwnedTupleGo
  cases tg <;> first
    | exact wpAny_pure hQ
    | (cases u <;> first
        | exact wpAny_pure hQ
        | (refine wpAny_bind (wpAny_load ho ?_)
           rw [hc, hd]
           show wpAny M A (if (["enumerate", "zip", "dict_itemiterator", "dict_reverseitemiterator", "odict_iterator", "itertools.zip_longest", "itertools.pairwise"].contains n && vs[0]? == some (rawInt _)) = true then _ else _) Q E s
           rw [if_neg (by intro h; rw [hn, Bool.false_and] at h; cases h)]
           exact wpAny_pure hQ))
noncomputable def Itl (K : PySem.W.Frag) (a : Addr) : It :=
  ⟨fun i H => ∃ xs x, SqL K H a xs ∧ xs[i]? = some x, fun i H x H' => H' = H ∧ ∀ xs, SqL K H a xs → xs[i]? = some x, fun i H => ∃ xs, SqL K H a xs ∧ xs.length ≤ i⟩
noncomputable def Itt (K : PySem.W.Frag) (a : Addr) : It :=
  ⟨fun i H => ∃ xs x, SqT K H a xs ∧ xs[i]? = some x, fun i H x H' => H' = H ∧ ∀ xs, SqT K H a xs → xs[i]? = some x, fun i H => ∃ xs, SqT K H a xs ∧ xs.length ≤ i⟩
noncomputable def Itr (lo : Int) (n : Nat) : It := ⟨fun i _ => i < n, fun i H x H' => H' = H ∧ x = .int (lo + i), fun i _ => n ≤ i⟩
theorem turn_list {P : Program} {w : World} {K : PySem.W.Frag} {tg : Expr} (a it : Addr) : Turn P w K tg (Itl K a) [it] it (fun i h => h.IsListIter it a i) where
  mem := by simp
  obj := fun i h st b hb => by
    have e : b = it := by simpa using hb
    subst e
    obtain ⟨o, e, c, d⟩ := st
    exact ⟨o, e, fun v z => by rw [d] at z; cases z⟩
  keep := fun i h h' st k => st.at fun o e => k it (by simp) o e
  item := by
    intro X hP hw hK hc i pins s σ H E I hf st hg
    subst hP hw hK
    obtain ⟨xs, x, hq, hx⟩ := hg
    obtain ⟨its, rv, p, hz⟩ := I.list hq
    obtain ⟨u, hu, ru⟩ := rv.get hx
    obtain ⟨f0, f1, f2, f3, f4, f5⟩ := hf it (by simp)
    refine wpAny_pyNext_list_item st p.isList (x := u) (by simpa using hu) fun h' st' sb => ?_
    have I1 : Inv X pins σ H { s with heap := h' } := I.turned (t' := s.toks) (fun b o hb e => (sb.2 b hb).trans e) f0 f1 f3 f4 f5
    obtain ⟨o, e, c, d⟩ := id st'
    exact ⟨u, rfl, go_of (s := { s with heap := h' }) e c d (by decide) ⟨x, H, I1, ru, ⟨rfl, fun ys hy => by rw [I.list_inj hy hq]; exact hx⟩, st', fun b hb => (hf b hb).1⟩⟩
  done := by
    intro X hP hw hK hc i pins s σ H E I hf st hg
    subst hP hw hK
    obtain ⟨xs, hq, hx⟩ := hg
    obtain ⟨its, rv, p, hz⟩ := I.list hq
    obtain ⟨f0, f1, f2, f3, f4, f5⟩ := hf it (by simp)
    have hl := rv.length
    exact wpAny_pyNext_list_end (I.ok.hd hc) st p.isList (by simp; omega) fun h' eb => ⟨rfl, I.turned (t' := s.toks) (fun b o hb e => eb b o hb e) f0 f1 f3 f4 f5⟩
  self := fun _ _ _ _ _ st h => wpAny_pyIter_listiter st h
theorem turn_tuple {P : Program} {w : World} {K : PySem.W.Frag} {tg : Expr} (a it : Addr) : Turn P w K tg (Itt K a) [it] it (fun i h => h.IsTupleIter it a i) where
  mem := by simp
  obj := fun i h st b hb => by
    have e : b = it := by simpa using hb
    subst e
    obtain ⟨o, e, c, d⟩ := st
    exact ⟨o, e, fun v z => by rw [d] at z; cases z⟩
  keep := fun i h h' st k => st.at fun o e => k it (by simp) o e
  item := by
    intro X hP hw hK hc i pins s σ H E I hf st hg
    subst hP hw hK
    obtain ⟨xs, x, hq, hx⟩ := hg
    obtain ⟨its, rv, p, hz⟩ := I.tuple hq
    obtain ⟨u, hu, ru⟩ := rv.get hx
    obtain ⟨f0, f1, f2, f3, f4, f5⟩ := hf it (by simp)
    refine wpAny_pyNext_tuple_item st (show s.heap.IsTuple a its.toArray from p) (x := u) (by simpa using hu) fun h' st' sb => ?_
    have I1 : Inv X pins σ H { s with heap := h' } := I.turned (t' := s.toks) (fun b o hb e => (sb.2 b hb).trans e) f0 f1 f3 f4 f5
    obtain ⟨o, e, c, d⟩ := id st'
    exact ⟨u, rfl, go_of (s := { s with heap := h' }) e c d (by decide) ⟨x, H, I1, ru, ⟨rfl, fun ys hy => by rw [I.tuple_inj hy hq]; exact hx⟩, st', fun b hb => (hf b hb).1⟩⟩
  done := by
    intro X hP hw hK hc i pins s σ H E I hf st hg
    subst hP hw hK
    obtain ⟨xs, hq, hx⟩ := hg
    obtain ⟨its, rv, p, hz⟩ := I.tuple hq
    obtain ⟨f0, f1, f2, f3, f4, f5⟩ := hf it (by simp)
    have hl := rv.length
    exact wpAny_pyNext_tuple_end (I.ok.hd hc) st (show s.heap.IsTuple a its.toArray from p) (by simp; omega) fun h' eb => ⟨rfl, I.turned (t' := s.toks) (fun b o hb e => eb b o hb e) f0 f1 f3 f4 f5⟩
  self := fun _ _ _ _ _ st h => wpAny_pyIter_tupleiter st h
theorem turn_range {P : Program} {w : World} {K : PySem.W.Frag} {tg : Expr} (it : Addr) (lo : Int) (n : Nat) : Turn P w K tg (Itr lo n) [it] it (fun i h => IsRangeIter h it (lo + (i : Nat) * 1) ((n : Int) - (i : Nat)) 1) where
  mem := by simp
  obj := fun i h st b hb => by
    have e : b = it := by simpa using hb
    subst e
    exact ⟨_, st, fun v z => by
      have z' : Data.fields _ = Data.cell v := z
      cases z'⟩
  keep := fun i h h' st k => k it (by simp) _ st
  item := by
    intro X hP hw hK hc i pins s σ H E I hf st hg
    subst hP hw hK
    obtain ⟨f0, f1, f2, f3, f4, f5⟩ := hf it (by simp)
    have W := Walks.range (prog := X.prog) (w := X.w) (I.ok.hd hc) it lo 1 n
    refine W.item i s _ _ hg st fun v h' tk hv st' kk => ?_
    obtain ⟨t, rfl⟩ := hv
    have I1 : Inv X pins σ H { s with heap := h', toks := tk } := I.turned (fun b o hb e => kk b o (by simpa using hb) e) f0 f1 f3 f4 f5
    refine ⟨_, rfl, go_of (s := { s with heap := h', toks := tk }) (n := "range_iterator") st' rfl rfl (by decide) ⟨.int (lo + i), H, I1, ⟨t, ?_⟩, ⟨rfl, rfl⟩, st', fun b hb => (hf b hb).1⟩⟩
    rw [Int.mul_one]
  done := by
    intro X hP hw hK hc i pins s σ H E I hf st hg
    subst hP hw hK
    obtain ⟨f0, f1, f2, f3, f4, f5⟩ := hf it (by simp)
    exact wpAny_pyNext_range_end (I.ok.hd hc) st (by have : n ≤ i := hg; omega) fun h' eb => ⟨rfl, I.turned (t' := s.toks) (fun b o hb e => eb b o hb e) f0 f1 f3 f4 f5⟩
  self := fun _ _ _ _ _ st h => wpAny_pyIter_rangeiter st h
end L2
namespace L2
open PySem PySem.Spec PyProof.Rows
section
variable {X : Cx} {tg : Expr}
noncomputable def iList (K : PySem.W.Frag) (tl : TE) : TI := fun σ H R => tl σ H fun x H1 => ∃ a, x = .ref a ∧ (∃ xs, SqL K H1 a xs) ∧ R (Itl K a) H1
noncomputable def iTup (K : PySem.W.Frag) (tl : TE) : TI := fun σ H R => tl σ H fun x H1 => ∃ a, x = .ref a ∧ (∃ xs, SqT K H1 a xs) ∧ R (Itt K a) H1
theorem pi_list {l : Expr} {tl : TE} (hl : PE X l tl) : PI X tg l (iList X.K tl) := by
  intro pins s σ H R I h
  refine thn (hl pins s σ H _ I h) fun v s1 ⟨x, H1, I1, r1, q1⟩ => ?_
  obtain ⟨a, e, ⟨xs, hq⟩, q⟩ := q1
  subst e
  cases r1
  obtain ⟨its, rv, p, hz⟩ := I1.list hq
  refine wpAny_pyIter_list p.isList ?_
  refine ⟨s1.heap.objs.size, [s1.heap.objs.size], _, _, H1, rfl, I1.kept (t' := s1.toks) fun b o e => Heap.get?_push_of_some _ e, turn_list a _, ⟨_, Heap.get?_push_size _ rfl, rfl, rfl⟩, fun b hb => ?_, q⟩
  have e : b = s1.heap.objs.size := by simpa using hb
  subst e
  exact I1.fpOk (Nat.le_refl _) (I1.hok.fresh (Nat.le_refl _))
theorem pi_tup {l : Expr} {tl : TE} (hl : PE X l tl) : PI X tg l (iTup X.K tl) := by
  intro pins s σ H R I h
  refine thn (hl pins s σ H _ I h) fun v s1 ⟨x, H1, I1, r1, q1⟩ => ?_
  obtain ⟨a, e, ⟨xs, hq⟩, q⟩ := q1
  subst e
  cases r1
  obtain ⟨its, rv, p, hz⟩ := I1.tuple hq
  refine wpAny_pyIter_tuple (show s1.heap.IsTuple a its.toArray from p) ?_
  refine ⟨s1.heap.objs.size, [s1.heap.objs.size], _, _, H1, rfl, I1.kept (t' := s1.toks) fun b o e => Heap.get?_push_of_some _ e, turn_tuple a _, ⟨_, Heap.get?_push_size _ rfl, rfl, rfl⟩, fun b hb => ?_, q⟩
  have e : b = s1.heap.objs.size := by simpa using hb
  subst e
  exact I1.fpOk (Nat.le_refl _) (I1.hok.fresh (Nat.le_refl _))
theorem range_it {pins : List (Addr × Obj)} {σ : St} {H : Hp} {s : Shared} {R : It → Hp → Prop} {E : Value → Shared → Prop} {lo hi : Int} {t u v : Tok} {tk : Nat} (I : Inv X pins σ H s) (h1 : -(2 ^ 62) ≤ lo) (h2 : lo < 2 ^ 62) (h3 : -(2 ^ 62) ≤ hi) (h4 : hi < 2 ^ 62)
    (q : R (Itr lo (hi - lo).toNat) H) : wpAny (model X.prog X.w) X.A (pyIter (.ref s.heap.objs.size)) (PIE X pins σ tg R) E { s with heap := s.heap.push { cls := .type "range", data := .fields #[.int lo t, .int hi u, .int 1 v] }, toks := tk } := by
  refine wpAny_pyIter_range (IsRange.new ..) (small_one h1 h2 h3 h4) ?_
  have I1 : Inv X pins σ H { s with heap := s.heap.push { cls := .type "range", data := .fields #[.int lo t, .int hi u, .int 1 v] }, toks := tk } := I.kept fun b o e => Heap.get?_push_of_some _ e
  refine ⟨(s.heap.push { cls := .type "range", data := .fields #[.int lo t, .int hi u, .int 1 v] }).objs.size, [(s.heap.push { cls := .type "range", data := .fields #[.int lo t, .int hi u, .int 1 v] }).objs.size], _, _, H, rfl,
    I1.kept (t' := tk) fun b o e => Heap.get?_push_of_some _ e, turn_range _ lo (hi - lo).toNat, ?_, fun b hb => ?_, q⟩
  · have e1 : lo + ((0 : Nat) : Int) * 1 = lo := by simp
    have e2 : (((hi - lo).toNat : Nat) : Int) - ((0 : Nat) : Int) = Builtin.Range.rangeSize lo hi 1 := by rw [rangeSize_one]; split <;> omega
    show IsRangeIter _ _ (lo + ((0 : Nat) : Int) * 1) ((((hi - lo).toNat : Nat) : Int) - ((0 : Nat) : Int)) 1
    rw [e1, e2]
    exact Heap.get?_push_size _ rfl
  · have e : b = (s.heap.push { cls := .type "range", data := .fields #[.int lo t, .int hi u, .int 1 v] }).objs.size := by simpa using hb
    subst e
    exact I1.fpOk (Nat.le_refl _) (I1.hok.fresh (Nat.le_refl _))
noncomputable def iRng1 (ta : TA) : TI := fun σ H R => ta σ H fun vs H1 => ∃ j : Int, vs = [.int j] ∧ -(2 ^ 62) ≤ j ∧ j < 2 ^ 62 ∧ R (Itr 0 j.toNat) H1
noncomputable def iRng2 (ta : TA) : TI := fun σ H R => ta σ H fun vs H1 => ∃ i j : Int, vs = [.int i, .int j] ∧ (-(2 ^ 62) ≤ i ∧ i < 2 ^ 62 ∧ -(2 ^ 62) ≤ j ∧ j < 2 ^ 62) ∧ R (Itr i (j - i).toNat) H1
theorem pi_range1 {a : Expr} {ta : TA} {p pos : Pos} (hg : Gl X "range") (hm : X.mg "range" = none) (ha : PA X [a] ta) (hs : starEach [a] X.env = [(false, eval a X.env)] := by rfl) : PI X tg (.Call (.Name "range" p) [a] [] pos) (iRng1 ta) := by
  intro pins s σ H R I h
  refine Call_ (ld_blt I hg hm boot_range (PyProof.Rows.callWith_type1 (thn (ha pos pins s σ H _ I h) fun us s1 ⟨vs, H1, I1, r1, q1⟩ => ?_) hs rfl))
  obtain ⟨j, e, q1, q2, q⟩ := q1
  subst e
  cases r1 with
  | cons r rr =>
    cases rr
    obtain ⟨t, rfl⟩ := r
    exact call_range_1 (range_it I1 (by omega) (by omega) q1 q2 (by simpa using q))
theorem pi_range2 {a b : Expr} {ta : TA} {p pos : Pos} (hg : Gl X "range") (hm : X.mg "range" = none) (ha : PA X [a, b] ta) (hs : starEach [a, b] X.env = [(false, eval a X.env), (false, eval b X.env)] := by rfl) (hs2 : starEach [b] X.env = [(false, eval b X.env)] := by rfl) :
    PI X tg (.Call (.Name "range" p) [a, b] [] pos) (iRng2 ta) := by
  intro pins s σ H R I h
  refine Call_ (ld_blt I hg hm boot_range (PyProof.Rows.callWith_type1 (thn (ha pos pins s σ H _ I h) fun us s1 ⟨vs, H1, I1, r1, q1⟩ => ?_) (by rw [hs, hs2]) (by rw [hs2]; rfl)))
  obtain ⟨i, j, e, ⟨q1, q2, q3, q4⟩, q⟩ := q1
  subst e
  cases r1 with
  | cons r rr =>
    cases rr with
    | cons r' rr =>
      cases rr
      obtain ⟨t, rfl⟩ := r
      obtain ⟨t', rfl⟩ := r'
      exact call_range_2 (range_it I1 q1 q2 q3 q4 q)
noncomputable def tFor (wi : TI) (g : TG) (tb : TS) : TS := fun D σ H => wi σ H fun J H1 => ∃ W : Nat → Nat → St → Hp → Prop, (∃ m, W 0 m σ H1) ∧ ∀ i m σ H, W i m σ H →
  (J.stop i H ∧ D.nx σ H) ∨ (J.go i H ∧ ∃ N : St → Hp → Prop, (∀ σ' H', N σ' H' → ∃ m', m' < m ∧ W (i + 1) m' σ' H') ∧ ∀ x H', J.yld i H x H' → g x σ H' fun σ2 H2 => tb { D with nx := N, ct := N, bk := D.nx } σ2 H2)
noncomputable def pinsAt (fp : List Addr) (h : Heap) : List (Addr × Obj) := fp.filterMap fun b => (h.get? b).map fun o => (b, o)
theorem mem_pinsAt {fp : List Addr} {h : Heap} {b : Addr} {o : Obj} (hb : b ∈ fp) (e : h.get? b = some o) : (b, o) ∈ pinsAt fp h := List.mem_filterMap.mpr ⟨b, hb, by rw [e]; rfl⟩
theorem of_pinsAt {fp : List Addr} {h : Heap} {p : Addr × Obj} (hp : p ∈ pinsAt fp h) : p.1 ∈ fp ∧ h.get? p.1 = some p.2 := by
  obtain ⟨b, hb, e⟩ := List.mem_filterMap.mp hp
  cases q : h.get? b with
  | none => rw [q] at e; cases e
  | some o =>
    rw [q] at e
    have e' : (b, o) = p := Option.some.inj e
    subst e'
    exact ⟨hb, q⟩
theorem Inv.pinned {pins : List (Addr × Obj)} {σ : St} {H : Hp} {s : Shared} {fp : List Addr} (I : Inv X pins σ H s) (hf : ∀ b ∈ fp, FpOk X pins H b) (ho : ∀ b ∈ fp, ∃ o, s.heap.get? b = some o ∧ ∀ v, o.data ≠ .cell v) : Inv X (pins ++ pinsAt fp s.heap) σ H s :=
  I.pins_of fun p hp => (List.mem_append.mp hp).elim (fun z => I.pin p (List.mem_append_right _ z)) fun z => by
    obtain ⟨hb, e⟩ := of_pinsAt z
    obtain ⟨f0, f1, f2, _⟩ := hf p.1 hb
    obtain ⟨o, e', d⟩ := ho p.1 hb
    rw [e] at e'; cases e'
    exact ⟨e, f0, f1, f2, d⟩
theorem Inv.unpinned {pins pl : List (Addr × Obj)} {σ : St} {H : Hp} {s : Shared} (I : Inv X (pins ++ pl) σ H s) : Inv X pins σ H s := I.pins_of fun p hp => I.pin p (List.mem_append_right _ (List.mem_append_left _ hp))
theorem ps_for {iter : Expr} {body : List Stmt} {wi : TI} {g : TG} {tb : TS} {pos : Pos} (hp : PassesOwn (model X.prog X.w) X.A X.env X.xe) (hc : X.calm = true) (hi : PI X tg iter wi) (hg : PG X tg g) (hb : PSs X body tb)
    (hs : ∀ x, foldedSetIterable iter X.env x = pure x := by intro _; rfl) : PS X (.For tg iter body [] pos) (tFor wi g tb) := by
  intro pins s σ H D I h
  refine wpAny_For (thn (hi pins s σ H _ I h) fun v s1 h1 => thn h1 fun itv s2 h2 => ?_) hs
  obtain ⟨it, fp, tn, J, H2, e, I2, T, st2, f2, W, ⟨m0, w0⟩, turn⟩ := h2
  subst e
  -- what stays true of the iterator's objects through the loop
  have stat : ∀ {H' : Hp}, (∀ b ∈ fp, H' b = none) → ∀ b ∈ fp, FpOk X pins H' b := fun hn b hb => ⟨hn b hb, (f2 b hb).2⟩
  refine codeAny_forLoop_any (fun n s' => ∃ i σ' H', Inv X pins σ' H' s' ∧ tn i s'.heap ∧ (∀ b ∈ fp, H' b = none) ∧ W i n σ' H') ?_ m0 ⟨0, σ, H2, I2, st2, fun b hb => (f2 b hb).1, w0⟩
  rintro n s3 ⟨i, σ3, H3, I3, st3, fr3, w3⟩
  rcases turn i n σ3 H3 w3 with ⟨stop, qn⟩ | ⟨go, N, hN, step⟩
  · refine wpAny_passesOwn hp (thn (T.done X rfl rfl rfl hc i pins s3 σ3 H3 X.xe I3 (stat fr3) st3 stop) fun r s4 ⟨hr, I4⟩ => ?_)
    subst hr
    exact wpAny_execs_nil ⟨σ3, H3, I4, qn⟩
  · refine wpAny_passesOwn hp (thn (T.item X rfl rfl rfl hc i pins s3 σ3 H3 X.xe I3 (stat fr3) st3 go) fun r s4 ⟨u, hr, h4⟩ => ?_)
    subst hr
    refine wpAny_passesOwn hp (thn h4 fun _ s5 ⟨x, H5, I5, r5, y5, st5, fr5⟩ => ?_)
    have I5' := I5.pinned (stat fr5) (T.obj _ _ st5)
    refine wpAny_passesOwn hp (thn (hg _ s5 σ3 H5 x u _ I5' r5 (step x H5 y5)) fun _ s6 ⟨σ6, H6, I6, q6⟩ => ?_)
    refine wpAny_passesOwn hp (thn (hb _ s6 σ6 H6 _ I6 q6) fun f s7 q7 => ?_)
    have again : ∀ {σ7 : St} {H7 : Hp}, Inv X (pins ++ pinsAt fp s5.heap) σ7 H7 s7 → N σ7 H7 → ∃ m, m < n ∧ ∃ i σ' H', Inv X pins σ' H' s7 ∧ tn i s7.heap ∧ (∀ b ∈ fp, H' b = none) ∧ W i m σ' H' := fun {σ7 H7} I7 n7 => by
      obtain ⟨m', hm, w7⟩ := hN σ7 H7 n7
      refine ⟨m', hm, i + 1, σ7, H7, I7.unpinned, T.keep _ _ _ st5 fun b hb o e => (I7.pin (b, o) (List.mem_append_right _ (List.mem_append_right _ (mem_pinsAt hb e)))).1, fun b hb => ?_, w7⟩
      obtain ⟨o, e, d⟩ := T.obj _ _ st5 b hb
      exact (I7.pin (b, o) (List.mem_append_right _ (List.mem_append_right _ (mem_pinsAt hb e)))).2.1
    cases f with
    | next => obtain ⟨σ7, H7, I7, n7⟩ := q7; exact again I7 n7
    | cont => obtain ⟨σ7, H7, I7, n7⟩ := q7; exact again I7 n7
    | brk => obtain ⟨σ7, H7, I7, q7⟩ := q7; exact ⟨σ7, H7, I7.unpinned, q7⟩
    | ret v => obtain ⟨x7, σ7, H7, I7, r7, q7⟩ := q7; exact ⟨x7, σ7, H7, I7.unpinned, r7, q7⟩
end
end L2
namespace L2
open PySem PySem.Spec PyProof.Rows
noncomputable abbrev R2 := V → V → Hp → VK → Prop
noncomputable def OpR (X : Cx) (f : Value → Value → Sem Value) (r : R2) : Prop :=
  ∀ (pins : List (Addr × Obj)) (s : Shared) (σ : St) (H : Hp) (x y : V) (v u : Value) (Q : VK), Inv X pins σ H s → RelV x v → RelV y u → r x y H Q →
    wpAny (model X.prog X.w) X.A (f v u) (EP X pins σ Q) X.xe s
noncomputable def UnR (X : Cx) (f : Value → Sem Value) (r : V → Hp → VK → Prop) : Prop :=
  ∀ (pins : List (Addr × Obj)) (s : Shared) (σ : St) (H : Hp) (x : V) (v : Value) (Q : VK), Inv X pins σ H s → RelV x v → r x H Q →
    wpAny (model X.prog X.w) X.A (f v) (EP X pins σ Q) X.xe s
noncomputable def CallR (X : Cx) (f : Value) (r : List V → Hp → VK → Prop) : Prop :=
  ∀ (pins : List (Addr × Obj)) (s : Shared) (σ : St) (H : Hp) (xs : List V) (us : List Value) (Q : VK), Inv X pins σ H s → Vals xs us → r xs H Q →
    wpAny (model X.prog X.w) X.A (call f us) (EP X pins σ Q) X.xe s
noncomputable def tOp (r : R2) (ta tb : TE) : TE := fun σ H Q => ta σ H fun x H1 => tb σ H1 fun y H2 => r x y H2 Q
noncomputable def tUn (r : V → Hp → VK → Prop) (ta : TE) : TE := fun σ H Q => ta σ H fun x H1 => r x H1 Q
noncomputable def rI (C : Int → Int → Prop) (g : Int → Int → V) : R2 := fun x y H Q => ∃ i j, x = .int i ∧ y = .int j ∧ C i j ∧ Q (g i j) H
noncomputable def rI0 (g : Int → Int → V) : R2 := fun x y H Q => ∃ i j, x = .int i ∧ y = .int j ∧ Q (g i j) H
noncomputable def rU (g : Int → V) : V → Hp → VK → Prop := fun x H Q => ∃ i, x = .int i ∧ Q (g i) H
section
variable {X : Cx} {a b c : Expr} {ta tb tc : TE} {pos : Pos}
theorem binT (ha : PE X a ta) (hb : PE X b tb) {pins : List (Addr × Obj)} {s : Shared} {σ : St} {H : Hp} {R : V → V → Hp → Prop} (I : Inv X pins σ H s)
    (h : ta σ H fun x H1 => tb σ H1 fun y H2 => R x y H2) {Q : Value → Shared → Prop} {f : Value → Value → Sem Value}
    (hf : ∀ v u s2 x y H2, Inv X pins σ H2 s2 → RelV x v → RelV y u → R x y H2 → wpAny (model X.prog X.w) X.A (f v u) Q X.xe s2) :
    wpAny (model X.prog X.w) X.A (eval a X.env) (fun v s₁ => wpAny (model X.prog X.w) X.A (eval b X.env) (fun u s₂ => wpAny (model X.prog X.w) X.A (f v u) Q X.xe s₂) X.xe s₁) X.xe s := by
  refine thn (ha pins s σ H _ I h) fun v s1 ⟨x, H1, I1, r1, q1⟩ => ?_
  refine thn (hb pins s1 σ H1 _ I1 q1) fun u s2 ⟨y, H2, I2, r2, q2⟩ => ?_
  exact hf v u s2 x y H2 I2 r1 r2 q2
theorem pe_op {op : Operator} {r : R2} (ho : OpR X (binaryOp op) r) (ha : PE X a ta) (hb : PE X b tb) : PE X (.BinOp a op b pos) (tOp r ta tb) := by
  intro pins s σ H Q I h
  exact wpAny_BinOp (binT ha hb I h fun v u s2 x y H2 I2 rx ry q => ho pins s2 σ H2 x y v u Q I2 rx ry q)
theorem pe_un {op : UnaryOp} {r : V → Hp → VK → Prop} (ho : UnR X (unaryOp op) r) (ha : PE X a ta) : PE X (.UnaryOp op a pos) (tUn r ta) := by
  intro pins s σ H Q I h
  exact UnaryOp_ (thn (ha pins s σ H _ I h) fun v s1 ⟨x, H1, I1, r1, q1⟩ => ho pins s1 σ H1 x v Q I1 r1 q1)
theorem opI {f : Value → Value → Sem Value} {C : Int → Int → Prop} {g : Int → Int → Int}
    (rule : ∀ (i j : Int) (t u : Tok) (s : Shared) (Q : Value → Shared → Prop) (E : Value → Shared → Prop), C i j → Q (.int (g i j) s.toks) { s with toks := s.toks + 1 } → wpAny (model X.prog X.w) X.A (f (.int i t) (.int j u)) Q E s) :
    OpR X f (rI C fun i j => .int (g i j)) := by
  intro pins s σ H x y v u Q I rx ry h
  obtain ⟨i, j, rfl, rfl, hc, q⟩ := h
  obtain ⟨t, rfl⟩ := rx
  obtain ⟨t', rfl⟩ := ry
  exact rule i j t t' s _ _ hc ⟨.int (g i j), H, I.tok _, ⟨_, rfl⟩, q⟩
theorem opI0 {f : Value → Value → Sem Value} {g : Int → Int → Int}
    (rule : ∀ (i j : Int) (t u : Tok) (s : Shared) (Q : Value → Shared → Prop) (E : Value → Shared → Prop), Q (.int (g i j) s.toks) { s with toks := s.toks + 1 } → wpAny (model X.prog X.w) X.A (f (.int i t) (.int j u)) Q E s) :
    OpR X f (rI0 fun i j => .int (g i j)) := by
  intro pins s σ H x y v u Q I rx ry h
  obtain ⟨i, j, rfl, rfl, q⟩ := h
  obtain ⟨t, rfl⟩ := rx
  obtain ⟨t', rfl⟩ := ry
  exact rule i j t t' s _ _ ⟨.int (g i j), H, I.tok _, ⟨_, rfl⟩, q⟩
theorem opB0 {f : Value → Value → Sem Value} {g : Int → Int → Bool}
    (rule : ∀ (i j : Int) (t u : Tok) (s : Shared) (Q : Value → Shared → Prop) (E : Value → Shared → Prop), Q (.bool (g i j)) s → wpAny (model X.prog X.w) X.A (f (.int i t) (.int j u)) Q E s) :
    OpR X f (rI0 fun i j => .bl (g i j)) := by
  intro pins s σ H x y v u Q I rx ry h
  obtain ⟨i, j, rfl, rfl, q⟩ := h
  obtain ⟨t, rfl⟩ := rx
  obtain ⟨t', rfl⟩ := ry
  exact rule i j t t' s _ _ ⟨.bl (g i j), H, I, rfl, q⟩
noncomputable def CDiv (i j : Int) : Prop := 0 < j ∧ j < 1073741824
noncomputable def CPow (i j : Int) : Prop := 0 ≤ j ∧ j ≤ 1000000 ∧ i.natAbs < 2 ^ 64
noncomputable def CMul (i j : Int) : Prop := (-(2 ^ 64) < i ∧ i < 2 ^ 64) ∨ (-(2 ^ 64) < j ∧ j < 2 ^ 64)
theorem CMul.ok {i j : Int} (h : CMul i j) : IntMulOk i j := by
  rcases h with ⟨h1, h2⟩ | ⟨h1, h2⟩
  · exact .of_left (intBits_le_64 h1 h2)
  · exact .of_right (intBits_le_64 h1 h2)
theorem op_add : OpR X (binaryOp .Add) (rI0 fun i j => .int (i + j)) := opI0 fun _ _ _ _ _ _ _ q => add_int q
theorem op_sub : OpR X (binaryOp .Sub) (rI0 fun i j => .int (i - j)) := opI0 fun _ _ _ _ _ _ _ q => sub_int q
theorem op_fdiv : OpR X (binaryOp .FloorDiv) (rI CDiv fun i j => .int (i / j)) := opI fun i j _ _ _ _ _ hc q => by
  have h1 : (0 : Int) < j := hc.1
  have h2 : j < 1073741824 := hc.2
  exact floordiv_int (by omega) (by rw [Int.fdiv_eq_ediv_of_nonneg i (by omega)]; exact q) (.inl (PyProof.noPylong_small (by omega)))
theorem op_mod : OpR X (binaryOp .Mod) (rI (fun _ j => 0 < j) fun i j => .int (i % j)) := opI fun i j _ _ _ _ _ hc q => by
  have h1 : (0 : Int) < j := hc
  exact mod_int' (by omega) (by rw [Int.fmod_eq_emod_of_nonneg i (by omega)]; exact q)
theorem op_pow : OpR X (binaryOp .Pow) (rI CPow fun i j => .int (i ^ j.toNat)) := opI fun _ _ _ _ _ _ _ hc q => pow_int_small hc.1 hc.2.1 hc.2.2 q
theorem op_shl : OpR X (binaryOp .LShift) (rI CPow fun i j => .int (i * 2 ^ j.toNat)) := opI fun _ _ _ _ _ _ _ hc q => lshift_int_small hc.1 hc.2.1 hc.2.2 q
theorem unI {f : Value → Sem Value} {g : Int → Int}
    (rule : ∀ (i : Int) (t : Tok) (s : Shared) (Q : Value → Shared → Prop) (E : Value → Shared → Prop), Q (.int (g i) s.toks) { s with toks := s.toks + 1 } → wpAny (model X.prog X.w) X.A (f (.int i t)) Q E s) :
    UnR X f (rU fun i => .int (g i)) := by
  intro pins s σ H x v Q I rx h
  obtain ⟨i, rfl, q⟩ := h
  obtain ⟨t, rfl⟩ := rx
  exact rule i t s _ _ ⟨.int (g i), H, I.tok _, ⟨_, rfl⟩, q⟩
theorem un_neg : UnR X (unaryOp .USub) (rU fun i => .int (-i)) := unI fun _ _ _ _ _ q => neg_int q
end
section
variable {X : Cx} {a b c : Expr} {ta tb tc : TE} {pos : Pos}
theorem fin_bl {pins : List (Addr × Obj)} {σ : St} {H : Hp} {s : Shared} {Q : VK} {k k' : Bool} (I : Inv X pins σ H s) (q : Q (.bl k) H) (e : k = k') : EP X pins σ Q (.bool k') s := by
  subst e
  exact ⟨.bl k, H, I, rfl, q⟩
theorem op_lt : OpR X (compareOp .Lt) (rI0 fun i j => .bl (decide (i < j))) := opB0 fun _ _ _ _ _ _ _ q => lt_int q
theorem op_le : OpR X (compareOp .LtE) (rI0 fun i j => .bl (decide (i ≤ j))) := opB0 fun _ _ _ _ _ _ _ q => le_int q
theorem op_gt : OpR X (compareOp .Gt) (rI0 fun i j => .bl (decide (j < i))) := opB0 fun _ _ _ _ _ _ _ q => gt_int q
theorem op_ge : OpR X (compareOp .GtE) (rI0 fun i j => .bl (decide (j ≤ i))) := opB0 fun _ _ _ _ _ _ _ q => ge_int q
theorem op_in_str : OpR X (compareOp .In) (fun x y H Q => ∃ i j, x = .str i ∧ y = .str j ∧ Q (.bl (!(Builtin.Str.occurrences j i 0 j.length 1).isEmpty)) H) := by
  intro pins s σ H x y v u Q I rx ry h
  obtain ⟨i, j, rfl, rfl, q⟩ := h
  obtain ⟨t, rfl⟩ := rx
  obtain ⟨t', rfl⟩ := ry
  exact in_str (fin_bl I q rfl)
theorem op_isN : OpR X (compareOp .Is) (fun x y H Q => y = .non ∧ Q (.bl (decide (x = .non))) H) := by
  intro pins s σ H x y v u Q I rx ry h
  obtain ⟨rfl, q⟩ := h
  cases ry
  refine is_none_gen (fin_bl I q ?_)
  cases x <;> first
    | (cases rx; rfl)
    | (obtain ⟨t, rfl⟩ := rx; rfl)
theorem op_notN : OpR X (compareOp .IsNot) (fun x y H Q => y = .non ∧ Q (.bl (!decide (x = .non))) H) := by
  intro pins s σ H x y v u Q I rx ry h
  obtain ⟨rfl, q⟩ := h
  cases ry
  refine isnot_none_gen (fin_bl I q ?_)
  cases x <;> first
    | (cases rx; rfl)
    | (obtain ⟨t, rfl⟩ := rx; rfl)
theorem OpR.or {f : Value → Value → Sem Value} {r r' : R2} (h : OpR X f r) (h' : OpR X f r') : OpR X f (fun x y H Q => r x y H Q ∨ r' x y H Q) := by
  intro pins s σ H x y v u Q I rx ry q
  rcases q with q | q
  · exact h pins s σ H x y v u Q I rx ry q
  · exact h' pins s σ H x y v u Q I rx ry q
theorem nomark (b : Expr) {op : CmpOp} (h : op ≠ .In := by decide) (h2 : op ≠ .NotIn := by decide) : behindInMarks op b = false := by
  have e1 : (op == CmpOp.In) = false := by cases op <;> first | rfl | exact absurd rfl h
  have e2 : (op == CmpOp.NotIn) = false := by cases op <;> first | rfl | exact absurd rfl h2
  cases b <;> simp [behindInMarks, e1, e2]
theorem pe_cmpR {op : CmpOp} {r : R2} (ho : OpR X (compareOp op) r) (ha : PE X a ta) (hb : PE X b tb) (hm : behindInMarks op b = false) : PE X (.Compare a [op] [b] pos) (tOp r ta tb) := by
  intro pins s σ H Q I h
  exact wpAny_Compare1 (binT ha hb I h fun v u s2 x y H2 I2 rx ry q => ho pins s2 σ H2 x y v u Q I2 rx ry q) hm
noncomputable def tTest (t : TE) : TT := fun σ H Q => t σ H fun x H' => ∃ k, x = .bl k ∧ Q k H'
theorem pt_cmpR {op : CmpOp} {r : R2} (ho : OpR X (compareOp op) r) (ha : PE X a ta) (hb : PE X b tb) (hm : behindInMarks op b = false) : PT X (.Compare a [op] [b] pos) (tTest (tOp r ta tb)) := by
  intro pins s σ H Q I h
  refine wpAny_isTrue_Compare1 (thn (ha pins s σ H _ I h) fun v s1 ⟨x, H1, I1, r1, q1⟩ => thn (hb pins s1 σ H1 _ I1 q1) fun u s2 ⟨y, H2, I2, r2, q2⟩ =>
    thn (ho pins s2 σ H2 x y v u _ I2 r1 r2 q2) fun c s3 ⟨z, H3, I3, r3, k, e, q3⟩ => ?_) hm
  subst e
  cases r3
  exact wpAny_truthy_bool ⟨H3, I3, q3⟩
noncomputable def tChain (r r' : R2) (ta tb tc : TE) : TE := fun σ H Q => ta σ H fun x H1 => tb σ H1 fun y H2 => r x y H2 fun z H3 => ∃ k, z = .bl k ∧
  (if k = true then tc σ H3 fun w' H4 => r' y w' H4 Q else Q (.bl false) H3)
theorem pt_chain {op op' : CmpOp} {r r' : R2} (ho : OpR X (compareOp op) r) (ho' : OpR X (compareOp op') r') (ha : PE X a ta) (hb : PE X b tb) (hc : PE X c tc)
    (hm : lastMarks [op, op'] [b, c] = false := by with_unfolding_all rfl) : PT X (.Compare a [op, op'] [b, c] pos) (tTest (tChain r r' ta tb tc)) := by
  intro pins s σ H Q I h
  refine isTrue_chain (thn (ha pins s σ H _ I h) fun v s1 ⟨x, H1, I1, r1, q1⟩ => test_link (thn (hb pins s1 σ H1 _ I1 q1) fun u s2 ⟨y, H2, I2, r2, q2⟩ =>
    thn (ho pins s2 σ H2 x y v u _ I2 r1 r2 q2) fun d s3 ⟨z, H3, I3, r3, k, e, q3⟩ => ?_)) hm
  subst e
  cases r3
  refine wpAny_truthy_bool ?_
  cases k with
  | false =>
    obtain ⟨k', e', q'⟩ := q3
    cases e'
    exact ite_ff ⟨H3, I3, q'⟩
  | true =>
    refine ite_tt (test_last (thn (hc pins s3 σ H3 _ I3 q3) fun w' s4 ⟨z', H4, I4, r4, q4⟩ => thn (ho' pins s4 σ H4 y z' u w' _ I4 r2 r4 q4) fun d' s5 ⟨z2, H5, I5, r5, k2, e2, q5⟩ => ?_))
    subst e2
    cases r5
    exact wpAny_truthy_bool ⟨H5, I5, q5⟩
theorem line63 : (sizeLine : Nat) < 2 ^ 63 := by rw [sizeLine_eq]; decide
theorem op_add_str : OpR X (binaryOp .Add) (fun x y H Q => ∃ i j, x = .str i ∧ y = .str j ∧ i.length + j.length ≤ sizeLine ∧ Q (.str (i ++ j)) H) := by
  intro pins s σ H x y v u Q I rx ry h
  obtain ⟨i, j, rfl, rfl, hz, q⟩ := h
  obtain ⟨t, rfl⟩ := rx
  obtain ⟨t', rfl⟩ := ry
  exact add_str (fun t' tk => ⟨.str (i ++ j), H, I.tok _, ⟨_, rfl⟩, q⟩) hz
theorem vals1 {x : V} {us : List Value} (r : Vals [x] us) : ∃ u, us = [u] ∧ RelV x u := by
  cases r with
  | cons r1 r2 => cases r2; exact ⟨_, rfl, r1⟩
theorem vals2 {x y : V} {us : List Value} (r : Vals [x, y] us) : ∃ u w', us = [u, w'] ∧ RelV x u ∧ RelV y w' := by
  cases r with
  | cons r1 r2 =>
    cases r2 with
    | cons r3 r4 => cases r4; exact ⟨_, _, rfl, r1, r3⟩
theorem call_int1 : CallR X (.type "int") (fun xs H Q => (∃ i, xs = [.int i] ∧ Q (.int i) H) ∨ ∃ k, xs = [.bl k] ∧ Q (.int (if k then 1 else 0)) H) := by
  intro pins s σ H xs us Q I r h
  rcases h with ⟨i, rfl, q⟩ | ⟨k, rfl, q⟩
  · obtain ⟨u, rfl, t, rfl⟩ := vals1 r
    exact call_int_int ⟨.int i, H, I, ⟨_, rfl⟩, q⟩
  · obtain ⟨u, rfl, r1⟩ := vals1 r
    cases r1
    exact call_int_bool ⟨.int (if k then 1 else 0), H, I.tok _, ⟨_, rfl⟩, q⟩
end
end L2
namespace L2
open PySem PySem.Spec PyProof.Rows
structure ObjM (h : Heap) (x dx C : Addr) (mA : Str → Option Value) : Prop where
  obj : h.get? x = some (PySem.W.instObj C dx)
  ns : h.Ns1 dx mA
  ne : dx ≠ x
theorem lookIn_ns {h : Heap} {dx : Addr} {mA : Str → Option Value} (n : h.Ns1 dx mA) : ∃ od, h.get? dx = some od ∧ ∀ name, PySem.W.lookIn name od = some (mA name) := by
  obtain ⟨o, es, ep, ho, hd, hk, _, hm⟩ := n
  refine ⟨o, ho, fun name => ?_⟩
  have e := hm name
  unfold nsFind findBy at e
  rw [← Array.find?_toList] at e
  unfold PySem.W.lookIn
  rw [hd]
  dsimp only
  split
  · rename_i y q
    rw [q] at e
    exact congrArg some e
  · rename_i q
    rw [q] at e
    have a : es.toList.any (·.refKey) = false := by
      rw [List.any_eq_false]
      intro y hy
      obtain ⟨z, t, hkey⟩ := hk y (Array.mem_toList_iff.mp hy)
      simp [DictEntry.refKey, hkey]
    have a' : ¬ es.toList.any (·.refKey) = true := by rw [a]; exact Bool.false_ne_true
    rw [if_neg a']
    exact congrArg some e
theorem ObjM.look {h : Heap} {x dx C : Addr} {mA : Str → Option Value} (I : ObjM h x dx C mA) : ∃ od, PySem.W.InstAt h x (PySem.W.instObj C dx) C (some od) ∧ ∀ name, PySem.W.lookIn name od = some (mA name) :=
  let ⟨od, ho, hl⟩ := lookIn_ns I.ns
  ⟨od, ⟨I.obj, rfl, rfl, ho⟩, hl⟩
section
variable {prog : Program} {w : World} {A : Around} {E : Value → Shared → Prop} {s : Shared} {K : PySem.W.Frag} {x dx C f : Addr} {mA : Str → Option Value} {name : Str} {v : Value}
end
section
variable {P : Program} {w : World} {H H' : Hp} {h h' : Heap} {a C dx : Addr} {fs fs' : List (Str × V)}
theorem ins_get (hok : HOk P w H h) (e : H a = some (.ins C dx fs)) : ∃ mA, ObjM h a dx C mA ∧ (∀ f, RelO (fs.lookup f) (mA f)) ∧ PySem.Within mA (fs.map (·.1)) ∧ fs.length ≤ 1000 ∧ H dx = some (.own a) := by
  obtain ⟨d, z, ne, ob, mA, n, r, q⟩ := (show ObjOk P w H h a (.ins C dx fs) from hok a _ e)
  exact ⟨mA, ⟨ob, n, ne⟩, r, q, z, d⟩
end
structure Cls (K : PySem.W.Frag) (C : Addr) : Prop where
  pg : PySem.W.plainGet K C Str.empty = true
  hd : PySem.W.hasDictIn K C = true
  po : PySem.W.plainOver K C = true
  sa : PySem.W.findIn K (.ref C) "__setattr__" = some (some (.builtin "object.__setattr__"))
theorem Cls.get {K : PySem.W.Frag} {C : Addr} (c : Cls K C) (f : Str) : PySem.W.plainGet K C f = true := c.pg
structure Con (K : PySem.W.Frag) (C : Addr) (f : Str) (v : V) (u : Value) : Prop where
  at_ : PySem.W.findIn K (.ref C) f = some (some u)
  rel : RelV v u
  get : PySem.W.specialIn K u "__get__" = some none
  cp : PySem.W.copiedNames.contains f = false
structure Meth (K : PySem.W.Frag) (C : Addr) (m : Str) (f : Addr) : Prop where
  at_ : PySem.W.findIn K (.ref C) m = some (some (.ref f))
  fn : PySem.W.isFn K (.ref f) = true
  kp : PySem.W.keepIn K (.ref f) = true
section
variable {X : Cx} {pins : List (Addr × Obj)} {σ : St} {H : Hp} {s : Shared} {a C dx : Addr} {fs : List (Str × V)} {f : Str} {v : V} {A : Around} {E : Value → Shared → Prop}
end
section
variable {X : Cx} {o e value : Expr} {f : Str} {pos pos' tpos : Pos} {ta tv : TE}
end
section
variable {X : Cx} {pins : List (Addr × Obj)} {σ : St} {H : Hp} {s : Shared} {A : Around} {E : Value → Shared → Prop} {Q : Value → Shared → Prop} {c : Value} {b : Bool}
inductive TyOf (K : PySem.W.Frag) (H : Hp) : V → Value → Prop where
  | non : TyOf K H .non (.type "NoneType")
  | bl (x : Bool) : TyOf K H (.bl x) (.type "bool")
  | int (i : Int) : TyOf K H (.int i) (.type "int")
  | str (x : Str) : TyOf K H (.str x) (.type "str")
  | flt (x : UInt64) : TyOf K H (.flt x) (.type "float")
  | lst {a : Addr} {xs : List V} (e : H a = some (.lst xs)) : TyOf K H (.ref a) (.type "list")
  | frz {a : Addr} {o : Obj} {xs : List V} (e : H a = some (.frz o (.lst xs))) : TyOf K H (.ref a) (.type "list")
  | tup {a : Addr} {xs : List V} (e : H a = some (.tup xs)) : TyOf K H (.ref a) (.type "tuple")
  | dK {a : Addr} {kvs : List (Key × V)} (e : H a = some (.dK kvs)) : TyOf K H (.ref a) (.type "dict")
  | dT {a : Addr} {kvs : List (List Key × V)} (e : H a = some (.dT kvs)) : TyOf K H (.ref a) (.type "dict")
  | ins {a C dx : Addr} {fs : List (Str × V)} (e : H a = some (.ins C dx fs)) (cl : Cls K C) (ha : PySem.W.findIn K (.ref C) "__class__" = some (some (.builtin "object.__class__")))
      (hn : PySem.W.specialIn K (.builtin "object.__class__") "__get__" = some (some (.builtin "getset_descriptor.__get__"))) (htk : PySem.W.takesIn K (.builtin "object.__class__") = some true)
      (hm : PySem.W.mroIn K C (.type "object") = some true) : TyOf K H (.ref a) (.ref C)
theorem isinst_ok {x : V} {u t : Value} (I : Inv X pins σ H s) (rx : RelV x u) (ty : TyOf X.K H x t) (e : PySem.W.kitOne X.K t c = some b) (h : ∀ tk, Q (.bool b) { s with toks := tk }) :
    wpAny (model X.prog X.w) A (call (.builtin "isinstance") [u, c]) Q E s := by
  cases ty with
  | non => cases (show u = Value.none from rx); exact PySem.W.kia_one PySem.W.kitx_none I.kIn True.intro e (fun z => nomatch z) h
  | bl y => cases (show u = Value.bool y from rx); exact PySem.W.kia_one PySem.W.kitx_bool I.kIn True.intro e (fun z => nomatch z) h
  | int i => obtain ⟨t, q⟩ := (show ∃ t, u = Value.int i t from rx); cases q; exact PySem.W.kia_one PySem.W.kitx_int I.kIn True.intro e (fun z => nomatch z) h
  | str y => obtain ⟨t, q⟩ := (show ∃ t, u = Value.str y t from rx); cases q; exact PySem.W.kia_one PySem.W.kitx_str I.kIn True.intro e (fun z => nomatch z) h
  | flt y => obtain ⟨t, q⟩ := (show ∃ t, u = Value.float y t from rx); cases q; exact PySem.W.kia_one PySem.W.kitx_float I.kIn True.intro e (fun z => nomatch z) h
  | @lst a xs ea =>
    cases (show u = Value.ref a from rx)
    obtain ⟨_, _, n, _, h1⟩ := (show ObjOk X.prog X.w H s.heap a (.lst xs) from I.hok a _ ea)
    exact PySem.W.kia_one PySem.W.kitx_list I.kIn ⟨_, h1, rfl⟩ e (fun z => nomatch z) h
  | @frz a ob xs ea =>
    cases (show u = Value.ref a from rx)
    obtain ⟨_, _, _, n, _, h1⟩ := (show ObjOk X.prog X.w H s.heap a (.frz ob (.lst xs)) from I.hok a _ ea)
    exact PySem.W.kia_one PySem.W.kitx_list I.kIn ⟨_, h1, rfl⟩ e (fun z => nomatch z) h
  | @tup a xs ea =>
    cases (show u = Value.ref a from rx)
    obtain ⟨_, _, _, p⟩ := (show ObjOk X.prog X.w H s.heap a (.tup xs) from I.hok a _ ea)
    obtain ⟨o, h1, ⟨h2, _⟩, _⟩ := p
    exact PySem.W.kia_one PySem.W.kitx_tuple I.kIn ⟨o, h1, h2⟩ e (fun z => nomatch z) h
  | @dK a kvs ea =>
    cases (show u = Value.ref a from rx)
    obtain ⟨_, _, vs, _, p⟩ := (show ObjOk X.prog X.w H s.heap a (.dK kvs) from I.hok a _ ea)
    obtain ⟨o, es, ep, h1, h2, _⟩ := p
    exact PySem.W.kia_one PySem.W.kitx_dict I.kIn ⟨o, h1, h2.1⟩ e (fun z => nomatch z) h
  | @dT a kvs ea =>
    cases (show u = Value.ref a from rx)
    obtain ⟨_, _, xs, _, o, es, ep, h1, h2, _⟩ := (show ObjOk X.prog X.w H s.heap a (.dT kvs) from I.hok a _ ea)
    exact PySem.W.kia_one PySem.W.kitx_dict I.kIn ⟨o, h1, h2.1⟩ e (fun z => nomatch z) h
  | @ins a C dx fs ea cl ha hn htk hm =>
    cases (show u = Value.ref a from rx)
    obtain ⟨mA, O, _⟩ := ins_get I.hok ea
    obtain ⟨od, J, _⟩ := O.look
    exact PySem.W.kia_one (PySem.W.kitx_own (cl.get _) cl.hd ha hn htk hm) I.kIn J e (fun z => nomatch z) h
end
end L2
namespace L2
open PySem PySem.Spec PyProof.Rows
structure Room (k : Nat) (A : Around) : Prop where
  hd : A.handled = none
  dp : A.depth + 3 * k + 5 < recursionLimit
  un : A.units + 16 * k + 200 < cLine
theorem Room.mono {j k : Nat} {A : Around} (r : Room k A) (h : j ≤ k) : Room j A := ⟨r.hd, by have := r.dp; omega, by have := r.un; omega⟩
theorem Room.deeper {k : Nat} {A : Around} (r : Room (k + 1) A) (env : Env) : Room k (A.deeper env) :=
  ⟨r.hd, by have := r.dp; show A.depth + 1 + 3 * k + 5 < _; omega, by have := r.un; show A.units + 3 + 16 * k + 200 < _; omega⟩
theorem Room.in1 {k : Nat} {A : Around} (r : Room (k + 1) A) : Room k A.in1 :=
  ⟨r.hd, by have := r.dp; show A.depth + 3 * k + 5 < _; omega, by have := r.un; show A.units + 1 + 16 * k + 200 < _; omega⟩
theorem Room.depth {k : Nat} {A : Around} (r : Room k A) : A.depth < recursionLimit := by have := r.dp; omega
theorem Room.units {k : Nat} {A : Around} (r : Room k A) : A.units + 64 < cLine := by have := r.un; omega
noncomputable def tNil : TA := fun _ H Q => Q [] H
noncomputable def tCons (ta : TE) (tr : TA) : TA := fun σ H Q => ta σ H fun x H1 => tr σ H1 fun xs H2 => Q (x :: xs) H2
section
variable {X : Cx} {e : Expr} {es : List Expr} {te : TE} {t : TA} {pos : Pos}
theorem pa_nil : PA X [] tNil := fun _ _ _ _ H Q I h => Calls.spliced_nil ⟨[], H, I, .nil, h⟩
theorem pa_cons (ha : PE X e te) (hr : PA X es t) (hs : starEach (e :: es) X.env = (false, eval e X.env) :: starEach es X.env := by rfl) : PA X (e :: es) (tCons te t) := by
  intro pos pins s σ H Q I h
  rw [hs]
  show wpAny _ _ (spliced ((false, eval e X.env) :: backTo pos (starEach es X.env))) _ _ s
  refine Calls.spliced_cons (thn (ha pins s σ H _ I h) fun u s1 ⟨x, H1, I1, r1, q1⟩ => ?_)
  exact thn (hr pos pins s1 σ H1 _ I1 q1) fun us s2 ⟨xs, H2, I2, r2, q2⟩ => ⟨x :: xs, H2, I2, .cons r1 r2, q2⟩
noncomputable def tTup (t : TA) : TE := fun σ H Q => t σ H fun xs H1 => xs.length ≤ sizeLine ∧ ∀ p, H1 p = none → Q (.ref p) (upd H1 p (.tup xs))
noncomputable def tLst (t : TA) : TE := fun σ H Q => t σ H fun xs H1 => xs.length ≤ sizeLine ∧ ∀ p, H1 p = none → Q (.ref p) (upd H1 p (.lst xs))
theorem pe_tup {x1} (h : PA X es t) : PE X (.Tuple es x1 pos) (tTup t) := by
  intro pins s σ H Q I hq
  refine wpAny_Tuple_spliced (thn (h pos pins s σ H _ I hq) fun us s1 ⟨xs, H1, I1, r, z, q⟩ => ⟨by rw [← r.length]; exact z, ?_⟩)
  have hf : H1 s1.heap.objs.size = none := I1.hok.fresh (Nat.le_refl _)
  refine ⟨.ref s1.heap.objs.size, upd H1 s1.heap.objs.size (.tup xs), I1.laid (t' := s1.toks) (fun b u e => Heap.get?_push_of_some _ e) (Nat.le_refl _) ?_, rfl, q _ hf⟩
  exact ⟨z, us, r, ⟨_, Heap.get?_push_size _ rfl, ⟨rfl, _, rfl⟩, rfl⟩⟩
theorem pe_lst (h : PA X es t) : PE X (.List es pos) (tLst t) := by
  intro pins s σ H Q I hq
  refine wpAny_List_spliced (thn (h pos pins s σ H _ I hq) fun us s1 ⟨xs, H1, I1, r, z, q⟩ => ⟨by rw [← r.length]; exact z, ?_⟩)
  have hf : H1 s1.heap.objs.size = none := I1.hok.fresh (Nat.le_refl _)
  refine ⟨.ref s1.heap.objs.size, upd H1 s1.heap.objs.size (.lst xs), I1.laid (t' := s1.toks) (fun b u e => Heap.get?_push_of_some _ e) (Nat.le_refl _) ?_, rfl, q _ hf⟩
  exact ⟨z, us, 0, r, Heap.get?_push_size _ rfl⟩
end
noncomputable abbrev Sp := List V → Hp → VK → XK → Prop
noncomputable abbrev CXT := List Env → Hp → Shared → XK → Value → Shared → Prop
structure Env0 (P : Program) (w : World) (K : PySem.W.Frag) (mg : Str → Option Value) (base : Heap) (A : Around) (outer : List Env) (s : Shared) (H : Hp) : Prop where
  frames : A.frames = some outer
  mod : Mod K mg base
  bs : ∀ b o, base.get? b = some o → s.heap.get? b = some o ∧ H b = none
  bsz : base.objs.size ≤ s.heap.objs.size
  funs : s.heap.FunFrames base outer
  frf : ∀ b ∈ frs outer, H b = none
  hok : HOk P w H s.heap
  bare : AllBare s.gens
noncomputable def CE (outer : List Env) (P : Program) (w : World) (H : Hp) (s : Shared) (Q : VK) (u : Value) (s' : Shared) : Prop :=
  ∃ v H', s'.os = s.os ∧ AllBare s'.gens ∧ Un (frs outer) [] H H' s.heap s'.heap ∧ HOk P w H' s'.heap ∧ RelV v u ∧ Q v H'
noncomputable def CR (CX : CXT) (outer : List Env) (P : Program) (w : World) (H : Hp) (s : Shared) (Q : VK) (E : XK) (r : Result) (s' : Shared) : Prop :=
  match r with
  | .ok (.ret u) => CE outer P w H s Q u s'
  | .ok _ => False
  | .error e => CX outer H s E e s'
structure FnOk (P : Program) (w : World) (K : PySem.W.Frag) (mg : Str → Option Value) (base : Heap) (CX : CXT) (k : Nat) (f : Addr) (fd : FuncData) (ps : List Str) (sp : Sp) : Prop where
  len : ∀ vs H Q E, sp vs H Q E → vs.length = ps.length
  run : ∀ (A : Around) (outer : List Env) (s : Shared) (H : Hp) (args : Args) (us : List Value) (vs : List V) (Q : VK) (E : XK), Room k A → Env0 P w K mg base A outer s H → BindsTo s fd args (ps.zip us) → Vals vs us → sp vs H Q E →
    codeAny (model P w) A (.call (.ref f) args) (CR CX outer P w H s Q E) s
theorem FnOk.mono {P : Program} {w : World} {K : PySem.W.Frag} {mg : Str → Option Value} {base : Heap} {CX : CXT} {j k : Nat} {f : Addr} {fd : FuncData} {ps : List Str} {sp : Sp} (F : FnOk P w K mg base CX j f fd ps sp) (h : j ≤ k) :
    FnOk P w K mg base CX k f fd ps sp := ⟨F.len, fun A outer s H args us vs Q E hr => F.run A outer s H args us vs Q E (hr.mono h)⟩
theorem FnOk.imp {P : Program} {w : World} {K : PySem.W.Frag} {mg : Str → Option Value} {base : Heap} {CX : CXT} {k : Nat} {f : Addr} {fd : FuncData} {ps : List Str} {sp sp' : Sp} (F : FnOk P w K mg base CX k f fd ps sp)
    (h : ∀ vs H Q E, sp' vs H Q E → sp vs H Q E) : FnOk P w K mg base CX k f fd ps sp' :=
  ⟨fun vs H Q E q => F.len vs H Q E (h _ _ _ _ q), fun A outer s H args us vs Q E hr he hb hv hs => F.run A outer s H args us vs Q E hr he hb hv (h _ _ _ _ hs)⟩
theorem Env0.in1 {P : Program} {w : World} {K : PySem.W.Frag} {mg : Str → Option Value} {base : Heap} {A : Around} {outer : List Env} {s : Shared} {H : Hp} (e : Env0 P w K mg base A outer s H) :
    Env0 P w K mg base A.in1 outer s H := ⟨e.frames, e.mod, e.bs, e.bsz, e.funs, e.frf, e.hok, e.bare⟩
section
variable {X : Cx} {pins : List (Addr × Obj)} {σ : St} {H : Hp} {s s' : Shared}
theorem Inv.env0 (I : Inv X pins σ H s) : Env0 X.prog X.w X.K X.mg X.base X.A X.stack s H :=
  ⟨I.ok.frames, I.ok.mod, I.bs, Nat.le_trans I.ok.bsz I.sz, I.stack, I.stkFree, I.hok, I.bare⟩
theorem Inv.after {Q : VK} {u : Value} (I : Inv X pins σ H s) (h : CE X.stack X.prog X.w H s Q u s') : EP X pins σ Q u s' := by
  obtain ⟨v, H', os, bare, un, hok, r, q⟩ := h
  obtain ⟨hh, g, d, t, os'⟩ := s'
  obtain rfl : os' = s.os := os
  exact ⟨v, H', I.call (h' := hh) (g' := g) (d' := d) (t' := t) (ch := []) un hok bare (fun b z => absurd z (by simp)), r, q⟩
end
noncomputable def tCall (sp : Sp) (dvs : List V) (E : XK) (t : TA) : TE := fun σ H Q => t σ H fun vs H1 => sp (vs ++ dvs) H1 Q E
noncomputable def Binds (K : PySem.W.Frag) (fd : FuncData) (ps : List Str) (ds : List Value) : Prop :=
  ∀ (s : Shared) (us : List Value), K.In s.heap → (us ++ ds).length = ps.length → BindsTo s fd ⟨us, []⟩ (ps.zip (us ++ ds))
theorem Binds.all {K : PySem.W.Frag} {fd : FuncData} {ps : List Str} (h : ∀ us : List Value, us.length = ps.length → bindArgs fd ⟨us, []⟩ = pure (ps.zip us)) : Binds K fd ps [] := fun s us _ hl => by
  rw [List.append_nil] at hl ⊢
  exact .of_eq (h us hl)
noncomputable def Passes (CX : CXT) (X : Cx) (E : XK) : Prop := ∀ (pins : List (Addr × Obj)) (σ : St) (H : Hp) (s : Shared) (e : Value) (s' : Shared), Inv X pins σ H s → CX X.stack H s E e s' → X.xe e s'
section
variable {X : Cx} {CX : CXT} {k : Nat} {f C : Addr} {fd : FuncData} {ps : List Str} {sp : Sp} {dvs : List V} {ds : List Value} {E : XK} {x m : Str} {p pos apos : Pos} {e o : Expr} {es : List Expr} {ta : TE} {t : TA}
theorem run_fn {pins : List (Addr × Obj)} {σ : St} {H : Hp} {s : Shared} {Q : VK} {us : List Value} {vs : List V} (F : FnOk X.prog X.w X.K X.mg X.base CX k f fd ps sp) (hr : Room k X.A) (hb : Binds X.K fd ps ds) (hd : Vals dvs ds) (hx : Passes CX X E)
    (I : Inv X pins σ H s) (r : Vals vs us) (h : sp (vs ++ dvs) H Q E) : wpAny (model X.prog X.w) X.A (call (.ref f) us) (EP X pins σ Q) X.xe s := by
  have r2 : Vals (vs ++ dvs) (us ++ ds) := r.append hd
  have hl : (us ++ ds).length = ps.length := by rw [← r2.length]; exact F.len _ _ _ _ h
  refine wpAny_call (codeAny_mono (F.run X.A X.stack s H ⟨us, []⟩ (us ++ ds) (vs ++ dvs) Q E hr I.env0 (hb s us I.kIn hl) r2 h) fun r s' hq => ?_)
  cases r with
  | error e => exact hx pins σ H s e s' I hq
  | ok fl =>
    cases fl with
    | ret u => exact I.after hq
    | next => exact False.elim hq
    | brk => exact False.elim hq
    | cont => exact False.elim hq
theorem pe_call (F : FnOk X.prog X.w X.K X.mg X.base CX k f fd ps sp) (hr : Room k X.A) (hg : Gl X x) (hm : X.mg x = some (.ref f)) (hk : PySem.W.keepIn X.K (.ref f) = true) (hb : Binds X.K fd ps ds) (hd : Vals dvs ds) (hx : Passes CX X E)
    (ha : PA X (e :: es) t) (hdb : (x == ("__debug__" : Str)) = false := by decide) (he : starEach (e :: es) X.env = (false, eval e X.env) :: starEach es X.env := by rfl) (hpl : (backTo pos (starEach es X.env)).any (·.1) = false := by rfl) :
    PE X (.Call (.Name x p) (e :: es) [] pos) (tCall sp dvs E t) := by
  intro pins s σ H Q I h
  refine wpAny_Call_Name_kw (ld_glob I hg hm ?_ hdb)
  refine PySem.W.callWith_K (h₀ := X.base) I.ok.mod.kin hk (thn (ha pos pins s σ H _ I h) fun us s1 ⟨vs, H1, I1, r, q⟩ => ⟨I1.kIn, ?_⟩) he hpl
  exact run_fn F hr hb hd hx I1 r q
structure Mk (K : PySem.W.Frag) (C f : Addr) : Prop where
  makes : PySem.W.makesIn K C = true
  init : PySem.W.findIn K (.ref C) "__init__" = some (some (.ref f))
  fn : PySem.W.isFn K (.ref f) = true
  kp : PySem.W.keepIn K (.ref C) = true
end
section
variable {X : Cx} {CX : CXT} {k : Nat} {f C : Addr} {fd : FuncData} {ps ks : List Str} {sp : Sp} {E : XK} {x m : Str} {p pos apos kpos : Pos} {e o : Expr} {es : List Expr} {kws : List Keyword} {te ta : TE} {t tk : TA} {nm : Option Str}
structure KBinds (K : PySem.W.Frag) (fd : FuncData) (ps ks : List Str) (g : List Value → List Value → List Value) (gV : List V → List V → List V) : Prop where
  to : ∀ (s : Shared) (us ws : List Value), K.In s.heap → (g us ws).length = ps.length → BindsTo s fd ⟨us, ks.zip ws⟩ (ps.zip (g us ws))
  rel : ∀ {vs : List V} {us : List Value} {zs : List V} {ws : List Value}, Vals vs us → Vals zs ws → Vals (gV vs zs) (g us ws)
variable {g : List Value → List Value → List Value} {gV : List V → List V → List V}
end
structure FnScope (N P : List Str) (sc : Scope) : Prop where
  kind : sc.kind = .function
  co : sc.isCoroutine = false
  gen : sc.isGenerator = false
  nd : N.Nodup
  pre : N.take P.length = P
  par : ∀ x ∈ P, sc.names.lookup x = some .local ∨ sc.names.lookup x = some .cell
  nofree : ∀ y ∈ sc.names, y.2 ≠ .free
theorem bindL_out {kindOf : Str → Option NameKind} {x : Str} : ∀ {binds : List (Str × Value)} {m : Str → Option Value}, (∀ v, (x, v) ∉ binds) → bindL kindOf binds m x = m x
  | [], _, _ => rfl
  | (n, v) :: r, m, h => by
    unfold bindL
    rw [bindL_out fun w hw => h w (List.mem_cons_of_mem _ hw)]
    split
    · have : x ≠ n := by rintro rfl; exact h v List.mem_cons_self
      simp [this]
    · rfl
theorem bindC_out {kindOf : Str → Option NameKind} {x : Str} : ∀ {binds : List (Str × Value)} {m : Str → Option Value}, (∀ v, (x, v) ∉ binds) → bindC kindOf binds m x = m x
  | [], _, _ => rfl
  | (n, v) :: r, m, h => by
    unfold bindC
    rw [bindC_out fun w hw => h w (List.mem_cons_of_mem _ hw)]
    split
    · rfl
    · have : x ≠ n := by rintro rfl; exact h v List.mem_cons_self
      simp [this]
theorem bindL_get {kindOf : Str → Option NameKind} {x : Str} {v : Value} : ∀ {P : List Str} {vs : List Value} {i : Nat} {m : Str → Option Value}, P.Nodup → P[i]? = some x → vs[i]? = some v → kindOf x = some .local →
    bindL kindOf (P.zip vs) m x = some v
  | [], _, _, _, _, h, _, _ => by simp at h
  | _ :: _, [], _, _, _, _, h, _ => by simp at h
  | p :: P, w :: vs, 0, m, nd, h1, h2, hk => by
    simp at h1 h2; subst h1; subst h2
    show bindL kindOf ((p, w) :: P.zip vs) m p = _
    unfold bindL
    rw [bindL_out fun v hv => (List.nodup_cons.mp nd).1 (List.of_mem_zip hv).1, if_pos hk]
    simp
  | p :: P, w :: vs, i + 1, m, nd, h1, h2, hk => by
    show bindL kindOf ((p, w) :: P.zip vs) m x = _
    unfold bindL
    exact bindL_get (i := i) (List.nodup_cons.mp nd).2 (by simpa using h1) (by simpa using h2) hk
theorem bindC_get {kindOf : Str → Option NameKind} {x : Str} {v : Value} : ∀ {P : List Str} {vs : List Value} {i : Nat} {m : Str → Option Value}, P.Nodup → P[i]? = some x → vs[i]? = some v → kindOf x ≠ some .local →
    bindC kindOf (P.zip vs) m x = some v
  | [], _, _, _, _, h, _, _ => by simp at h
  | _ :: _, [], _, _, _, _, h, _ => by simp at h
  | p :: P, w :: vs, 0, m, nd, h1, h2, hk => by
    simp at h1 h2; subst h1; subst h2
    show bindC kindOf ((p, w) :: P.zip vs) m p = _
    unfold bindC
    rw [bindC_out fun v hv => (List.nodup_cons.mp nd).1 (List.of_mem_zip hv).1, if_neg hk]
    simp
  | p :: P, w :: vs, i + 1, m, nd, h1, h2, hk => by
    show bindC kindOf ((p, w) :: P.zip vs) m x = _
    unfold bindC
    exact bindC_get (i := i) (List.nodup_cons.mp nd).2 (by simpa using h1) (by simpa using h2) hk
noncomputable def start (N : List Str) (vs : List V) : St := vs.map some ++ List.replicate (N.length - vs.length) none
noncomputable def cxOf (CX : CXT) (P : Program) (w : World) (K : PySem.W.Frag) (mg : Str → Option Value) (base : Heap) (N : List Str) (qual : Str) (scope : Scope) (f : Addr) (cd : Value) (A : Around) (outer : List Env) (s : Shared) (H : Hp) (E : XK) : Cx where
  prog := P
  w := w
  K := K
  mg := mg
  base := base
  A := A.deeper (envOfC qual scope s.heap.objs.size f cd)
  N := N
  s₀ := s
  H₀ := H
  env := envOfC qual scope s.heap.objs.size f cd
  outer := outer
  stack := envOfC qual scope s.heap.objs.size f cd :: outer
  ex := []
  calm := true
  fn := fun _ => true
  pn := []
  xe := fun e s' => wpAny (model P w) (A.deeper (envOfC qual scope s.heap.objs.size f cd)) (leaving (envOfC qual scope s.heap.objs.size f cd) e) (fun _ s'' => CX outer H s E e s'') (fun e' s'' => CX outer H s E e' s'') s'
theorem cell_has {sc : Scope} {n : Nat} {x : Str} (h : sc.names.lookup x = some .cell) : ∃ c, (cellsFrom n sc.names []).lookup x = some c := by
  have q := PySem.W.cellsFrom_some sc.names n [] (.inl h)
  exact Option.isSome_iff_exists.mp q
theorem inv_start {CX : CXT} {P : Program} {w : World} {K : PySem.W.Frag} {mg : Str → Option Value} {base : Heap} {N ps : List Str} {qual : Str} {scope : Scope} {f : Addr} {cd : Value} {A : Around} {outer : List Env} {s s1 : Shared} {H : Hp} {E : XK} {us : List Value} {vs : List V}
    (S : FnScope N ps scope) (hd : A.handled = none) (e0 : Env0 P w K mg base A outer s H) (hl : vs.length = ps.length) (r : Vals vs us)
    (x : InCallC s s.heap.objs.size (bindL (envOfC qual scope s.heap.objs.size f cd).kindOf (ps.zip us) fun _ => none) (cellsFrom (s.heap.objs.size + 1) scope.names []) (bindC (envOfC qual scope s.heap.objs.size f cd).kindOf (ps.zip us) fun _ => none) s1) :
    Inv (cxOf CX P w K mg base N qual scope f cd A outer s H E) [] (start N vs) H s1 := by
  have hpl : ps.length ≤ N.length := by have := congrArg List.length S.pre; rw [List.length_take] at this; omega
  obtain ⟨h1, tk, rfl, hk⟩ := x.done
  have noA : ∀ b : Addr, b ∉ (cxOf CX P w K mg base N qual scope f cd A outer s H E).ex := fun b z => absurd (show b ∈ ([] : List Addr) from z) (by simp)
  refine ⟨⟨e0.mod, S.kind, rfl, rfl, Nat.le_refl _, fun y z c h1 h2 => ?_, fun y hy => ?_, fun y c _ h => ?_, fun _ => hd, Around.frames_deeper e0.frames, .inr ⟨rfl, rfl⟩, fun b z => absurd z (noA b), e0.bs, e0.bsz, fun b _ _ => noA b, fun b z => absurd z (noA b), e0.funs, e0.frf⟩,
    rfl, e0.bare, Un.kept hk, ⟨_, x.toInCall.ns, fun i y v h1 h2 h3 => ?_⟩, fun y c h => ⟨_, x.cell y c h⟩, e0.hok.fresh (Nat.le_refl _), fun y c h => ?_, fun p hp => absurd (show p ∈ ([] : List (Addr × Obj)) from hp) (by simp), e0.hok.kept hk, ?_⟩
  · exact name_of_addr x.apart (PySem.mem_of_lookup h1) (PySem.mem_of_lookup h2)
  · have hy : scope.names.lookup y = some .cell ∨ scope.names.lookup y = some .free := hy
    rcases hy with hy | hy
    · exact cell_has hy
    · exact absurd rfl (S.nofree _ (PySem.mem_of_lookup hy))
  · exact Nat.le_of_lt (x.above y c (PySem.mem_of_lookup h))
  · have hi : i < vs.length := by
      unfold start at h2
      by_cases hi : i < vs.length
      · exact hi
      · rw [List.getElem?_append_right (by simpa using hi)] at h2
        rw [List.getElem?_replicate] at h2
        split at h2 <;> cases h2
    have ha : vs[i]? = some v := by
      unfold start at h2
      rw [List.getElem?_append_left (by simpa using hi), List.getElem?_map] at h2
      cases e : vs[i]? with
      | none => rw [e] at h2; cases h2
      | some a => rw [e] at h2; cases h2; rfl
    obtain ⟨u, hu, rv⟩ := r.get ha
    have hp : ps[i]? = some y := by
      rw [← S.pre, List.getElem?_take_of_lt (by omega)]; exact h1
    have ndP : ps.Nodup := by rw [← S.pre]; exact S.nd.sublist (List.take_sublist _ _)
    refine ⟨u, rv, ?_⟩
    rcases S.par y (List.mem_of_getElem? hp) with k | k
    · exact .inl ⟨k, bindL_get ndP hp hu k⟩
    · obtain ⟨c, e⟩ := cell_has (n := s.heap.objs.size + 1) k
      refine .inr ⟨.inl k, c, e, ?_⟩
      have q := x.cell y c e
      rw [bindC_get ndP hp hu (by show scope.names.lookup y ≠ _; rw [k]; decide)] at q
      exact q
  · exact e0.hok.fresh (Nat.le_of_lt (x.above y c (PySem.mem_of_lookup h)))
  · unfold start
    show _ = N.length
    rw [List.length_append, List.length_map, List.length_replicate]
    omega
theorem fn_of {CX : CXT} {P : Program} {w : World} {K : PySem.W.Frag} {mg : Str → Option Value} {base : Heap} {k : Nat} {f : Addr} {name qual : Str} {params : Arguments} {body : List Stmt} {scope : Scope} {dV kV doc pm cdv ct oc : Value} {an od : Option Addr}
    {osl : Array (Option Value)} {N ps : List Str} {sp : Sp} (lk : K.lookup f = some ⟨oc, od, .func (PySem.W.fnOf name qual params body scope dV kV doc pm an cdv ct), osl⟩) (hcd : PySem.W.codeIn K cdv qual = true) (S : FnScope N ps scope)
    (len : ∀ vs H Q E, sp vs H Q E → vs.length = ps.length)
    (hbody : ∀ (A : Around) (outer : List Env) (s : Shared) (H : Hp) (vs : List V) (Q : VK) (E : XK), Room k (A.deeper (envOfC qual scope s.heap.objs.size f cdv)) → sp vs H Q E →
      ∃ t, PSs (cxOf CX P w K mg base N qual scope f cdv A outer s H E) body t ∧ t { nx := fun _ H' => Q .non H', rt := Q } (start N vs) H) :
    FnOk P w K mg base CX (k + 1) f (PySem.W.fnOf name qual params body scope dV kV doc pm an cdv ct) ps sp := by
  refine ⟨len, fun A outer s H args us vs Q E hr e0 hb r hsp => ?_⟩
  have hl := len _ _ _ _ hsp
  have KX : K.In s.heap := e0.mod.kin.keeps fun b o e => (e0.bs b o e).1
  have lim : s.heap.NoLimit := e0.mod.nolimit.keeps fun b o e => (e0.bs b o e).1
  have hkind : ∀ y ∈ ps.zip us, scope.names.lookup y.1 = some .local ∨ (scope.names.lookup y.1 = some .cell ∧ ((cellsFrom (s.heap.objs.size + 1) scope.names []).lookup y.1).isSome = true) := fun ⟨n, v⟩ hy => by
    rcases S.par n (List.of_mem_zip hy).1 with q | q
    · exact .inl q
    · exact .inr ⟨q, PySem.W.cellsFrom_some _ _ _ (.inl q)⟩
  refine codeAny_call_function hr.depth (KX _ _ lk) rfl S.co S.gen rfl (PySem.W.codeRec_of KX hcd) (hb _ _ _ _ ?_)
  refine wpAny_newFunctionEnv_cells S.kind hkind fun env he s1 x => ?_
  subst he
  refine ⟨lim.keeps x.toInCall.keep, codeAny_func ?_⟩
  obtain ⟨t, ht, hq⟩ := hbody A outer s H vs Q E (hr.deeper _) hsp
  have I : Inv (cxOf CX P w K mg base N qual scope f cdv A outer s H E) [] (start N vs) H s1 := inv_start S hr.hd e0 hl r x
  refine wpAny_mono (ht [] s1 (start N vs) H _ I hq) (fun fl s' hs => ?_) fun e s' hs => hs
  have fin : ∀ {σ' : St} {H' : Hp} {v : V} {u : Value}, Inv (cxOf CX P w K mg base N qual scope f cdv A outer s H E) [] σ' H' s' → RelV v u → Q v H' → CE outer P w H s Q u s' :=
    fun {σ' H' v u} J rv q => ⟨v, H', J.os, J.bare, J.base, J.hok, rv, q⟩
  cases fl with
  | ret u =>
    obtain ⟨v, σ', H', J, rv, q⟩ := hs
    exact fin J rv q
  | next =>
    obtain ⟨σ', H', J, q⟩ := hs
    exact fin (v := V.non) (u := Value.none) J rfl q
  | brk =>
    obtain ⟨_, _, _, q⟩ := hs
    exact False.elim q
  | cont =>
    obtain ⟨_, _, _, q⟩ := hs
    exact False.elim q
end L2
namespace L2
open PySem PySem.Spec PyProof.Rows
section
variable {X : Cx} {x : Str} {p pos : Pos} {e : Expr} {es : List Expr} {t : TA} {id T : String} {r : List V → Hp → VK → Prop}
noncomputable def tCB (r : List V → Hp → VK → Prop) (t : TA) : TE := fun σ H Q => t σ H fun vs H1 => r vs H1 Q
theorem pe_callB (hc : CallR X (.builtin id) r) (hg : Gl X x) (hm : X.mg x = none) (hv : bootBuiltins x = some (.builtin id)) (ha : PA X (e :: es) t) (hn : x ≠ "__name__" := by decide) (hdb : (x == ("__debug__" : Str)) = false := by decide)
    (he : starEach (e :: es) X.env = (false, eval e X.env) :: starEach es X.env := by rfl) (hpl : (backTo pos (starEach es X.env)).any (·.1) = false := by rfl) : PE X (.Call (.Name x p) (e :: es) [] pos) (tCB r t) := by
  intro pins s σ H Q I h
  refine wpAny_Call_Name_kw (ld_blt I hg hm hv ?_ hn hdb)
  exact PyProof.Rows.callWith_builtin1 (thn (ha pos pins s σ H _ I h) fun us s1 ⟨vs, H1, I1, r1, q1⟩ => hc pins s1 σ H1 vs us Q I1 r1 q1) he hpl
theorem pe_callTy (hc : CallR X (.type T) r) (hg : Gl X x) (hm : X.mg x = none) (hv : bootBuiltins x = some (.type T)) (ha : PA X (e :: es) t) (hn : x ≠ "__name__" := by decide) (hdb : (x == ("__debug__" : Str)) = false := by decide)
    (he : starEach (e :: es) X.env = (false, eval e X.env) :: starEach es X.env := by rfl) (hpl : (backTo pos (starEach es X.env)).any (·.1) = false := by rfl) : PE X (.Call (.Name x p) (e :: es) [] pos) (tCB r t) := by
  intro pins s σ H Q I h
  refine wpAny_Call_Name_kw (ld_blt I hg hm hv ?_ hn hdb)
  exact PyProof.Rows.callWith_type1 (thn (ha pos pins s σ H _ I h) fun us s1 ⟨vs, H1, I1, r1, q1⟩ => hc pins s1 σ H1 vs us Q I1 r1 q1) he hpl
end
end L2
namespace HT
open PySem PyProof.Rows
section
open PySem.SeqAt
open PySem.AutoSeq1 (wpAny_loadPart')
open PySem.MeetsSeq PySem.MeetsSeq2 PySem.MeetsSeq3
end
section
variable {prog : Program} {w : World} {A : Around} {E : Value → Shared → Prop} {s : Shared}
noncomputable def sIx (n d : Nat) : Option Int → Nat
  | none => d
  | some v => if v < 0 then (v + (n : Int)).toNat else min v.toNat n
theorem sIx_none (n d : Nat) : sIx n d none = d := rfl
theorem sIx_le (n d : Nat) (hd : d ≤ n) (o : Option Int) : sIx n d o ≤ n := by
  cases o with
  | none => exact hd
  | some v =>
    show (if v < 0 then (v + (n : Int)).toNat else min v.toNat n) ≤ n
    by_cases hv : v < 0
    · rw [if_pos hv]; omega
    · rw [if_neg hv]; exact Nat.min_le_right _ _
theorem clip_eq (v : Int) (n d : Nat) : (if v < 0 then max (v + (n : Int)) 0 else min v (n : Int)) = ((sIx n d (some v) : Nat) : Int) := by
  show (if v < 0 then max (v + (n : Int)) 0 else min v (n : Int)) = (((if v < 0 then (v + (n : Int)).toNat else min v.toNat n) : Nat) : Int)
  by_cases hv : v < 0
  · simp only [if_pos hv]; omega
  · simp only [if_neg hv]; omega
theorem adjust_gen (lo hi : Option Int) (n : Nat) : Builtin.Slice.sliceAdjust lo hi 1 (n : Int) = (((sIx n 0 lo : Nat) : Int), ((sIx n n hi : Nat) : Int)) := by
  have h1 : ¬ ((1 : Int) < 0) := by omega
  unfold Builtin.Slice.sliceAdjust
  simp only [h1, if_false]
  refine Prod.ext ?_ ?_
  · cases lo with
    | none => rfl
    | some v => exact clip_eq v n 0
  · cases hi with
    | none => rfl
    | some v => exact clip_eq v n n
theorem places_gen (i j : Nat) : Builtin.Slice.slicePlaces (i : Int) (j : Int) 1 = j - i := by
  unfold Builtin.Slice.slicePlaces
  have h1 : (1 : Int) > 0 := by omega
  simp only [h1, if_true, Int.ediv_one]
  split <;> omega
theorem slicePart_ {v : Value} {o : Option Int} {Q : Option Int → Shared → Prop} (p : IsPart v o) (h : Q o s) : wpAny (model prog w) A (Builtin.Slice.slicePartIndex v) Q E s := by
  cases p with
  | none => exact slicePart_none h
  | int i t => exact slicePart_int h
theorem sliceApplied_gen {sl : Addr} {vl vu : Value} {lo hi : Option Int} {n : Nat} {Q : Int × Int × Nat → Shared → Prop} (hs : s.heap.IsSliceOf sl vl vu .none) (pl : IsPart vl lo) (pu : IsPart vu hi)
    (h : Q (((sIx n 0 lo : Nat) : Int), 1, sIx n n hi - sIx n 0 lo) s) : wpAny (model prog w) A (Builtin.Slice.sliceApplied (.ref sl) (pure (n : Int))) Q E s := by
  obtain ⟨os, hos, hcs, hds⟩ := id hs
  unfold Builtin.Slice.sliceApplied Builtin.Slice.sliceFields
  refine wpAny_bind (wpAny_bind (wpAny_field hos hds (x := vl) rfl (wpAny_bind (wpAny_field hos hds (x := vu) rfl (wpAny_bind (wpAny_field hos hds (x := .none) rfl (wpAny_pure ?_)))))))
  refine wpAny_bind (slicePart_none ?_)
  show wpAny _ _ (if ((1 : Int) == 0) = true then _ else _) _ _ s
  rw [if_neg (by decide)]
  refine wpAny_bind (slicePart_ pl (wpAny_bind (slicePart_ pu (wpAny_bind (wpAny_pure ?_)))))
  show wpAny _ _ (match Builtin.Slice.sliceAdjust lo hi 1 (n : Int) with | (lo, hi) => pure (lo, (1 : Int), Builtin.Slice.slicePlaces lo hi 1)) _ _ s
  rw [adjust_gen lo hi n]
  show wpAny _ _ (pure (((sIx n 0 lo : Nat) : Int), (1 : Int), Builtin.Slice.slicePlaces ((sIx n 0 lo : Nat) : Int) ((sIx n n hi : Nat) : Int) 1)) _ _ s
  rw [places_gen]
  exact wpAny_pure h
theorem pick_gen (xs : Array Value) (i k : Nat) : ((List.range k).filterMap fun (m : Nat) => xs[((i : Int) + (m : Int) * 1).toNat]?).toArray = ((xs.toList.drop i).take k).toArray := by
  have e : (fun (m : Nat) => xs[((i : Int) + (m : Int) * 1).toNat]?) = fun m => xs[i + m]? := by
    funext m
    have : ((i : Int) + (m : Int) * 1).toNat = i + m := by omega
    rw [this]
  rw [e]
  have := pick_run xs i k
  rw [List.filterMap_map] at this
  have e2 : ((fun x => xs[x]?) ∘ fun x => i + x) = fun m => xs[i + m]? := rfl
  rw [e2] at this
  rw [this]
theorem getItem_tuple_cut {t sl : Addr} {items : Array Value} {vl vu : Value} {lo hi : Option Int} {Q : Value → Shared → Prop} (ht : IsTup s.heap t items) (hs : s.heap.IsSliceOf sl vl vu .none) (pl : IsPart vl lo) (pu : IsPart vu hi)
    (hw : ¬ (sIx items.size 0 lo = 0 ∧ sIx items.size items.size hi = items.size))
    (h : Q (.ref s.heap.objs.size) { s with heap := s.heap.push { cls := .type "tuple", data := .seq ((items.toList.drop (sIx items.size 0 lo)).take (sIx items.size items.size hi - sIx items.size 0 lo)).toArray } })
    (hsz : items.size ≤ sizeLine) : wpAny (model prog w) A (getItem (.ref t) (.ref sl)) Q E s := by
  have htake : sizeOk (.seq ((items.toList.drop (sIx items.size 0 lo)).take (sIx items.size items.size hi - sIx items.size 0 lo)).toArray) := by
    show ((items.toList.drop (sIx items.size 0 lo)).take (sIx items.size items.size hi - sIx items.size 0 lo)).toArray.size ≤ sizeLine
    rw [List.size_toArray, List.length_take, List.length_drop, Array.length_toList]
    omega
  have hj : sIx items.size items.size hi ≤ items.size := sIx_le _ _ (Nat.le_refl _) hi
  obtain ⟨os, hos, hcs, hds⟩ := id hs
  have hTs : s.TypeIs (.ref sl) "slice" := ⟨os, hos, hcs⟩
  unfold getItem
  try with_reducible refine wpAny_holding ?_
  first | refine wpAny_bind (wpAny_pure ?_) | skip
  refine wpAny_bind (wpAny_sequenceKey ht.typeIs (by decide) ?_)
  refine wpAny_bind (wpAny_callSpecial?_slot (name := Str.ofString "__getitem__") ht.typeIs PyProof.Rows.slot_tuple_getitem
    (wpAny_call_entry PyProof.Rows.slot_tuple_getitem ht.typeIs entry_tuple_getitem ?_ (args_tuple_getitem _ _)))
  show wpAny _ _ (Builtin.Tuple.tupleItemsOf (.ref t) >>= _) _ _ s
  refine wpAny_bind (tupleItemsOf_ ht ?_)
  refine wpAny_bind (wpAny_typeOf hTs ?_)
  rw [if_pos (by decide)]
  refine wpAny_bind (sliceApplied_gen hs pl pu ?_)
  have hno : ¬ ((((sIx items.size 0 lo : Nat) : Int) == 0 && (1 : Int) == 1 && (sIx items.size items.size hi - sIx items.size 0 lo) == items.size) = true) := by
    intro q
    rw [Bool.and_eq_true, Bool.and_eq_true] at q
    have q1 : ((sIx items.size 0 lo : Nat) : Int) = 0 := eq_of_beq q.1.1
    have q2 : sIx items.size items.size hi - sIx items.size 0 lo = items.size := eq_of_beq q.2
    exact hw ⟨by omega, by omega⟩
  show wpAny _ _ (if (((sIx items.size 0 lo : Nat) : Int) == 0 && (1 : Int) == 1 && (sIx items.size items.size hi - sIx items.size 0 lo) == items.size) = true then _ else _) _ _ s
  rw [if_neg hno, pick_gen]
  first
    | exact wpAny_bind (m := Builtin.Tuple.tupleExact _) (wpAny_newObj_type (wpAny_pure ⟨_, rfl, wpAny_pure h⟩) htake)
    | exact wpAny_bind (m := Builtin.Tuple.tupleExact _) (wpAny_newObj_type (wpAny_bind (wpAny_pure (wpAny_pure ⟨_, rfl, wpAny_pure h⟩))) htake)
    | exact wpAny_bind (wpAny_bind (m := Builtin.Tuple.tupleExact _) (wpAny_newObj_type (wpAny_pure (wpAny_pure ⟨_, rfl, wpAny_pure h⟩)) htake))
    | exact wpAny_bind (wpAny_bind (m := Builtin.Tuple.tupleExact _) (wpAny_newObj_type (wpAny_pure ⟨_, rfl, wpAny_pure h⟩) htake))
end
end HT
namespace L2
open PySem PySem.Spec PyProof.Rows
noncomputable abbrev TO := St → Hp → (Option Int → Hp → Prop) → Prop
noncomputable def PO (X : Cx) (e : Option Expr) (t : TO) : Prop :=
  ∀ (pins : List (Addr × Obj)) (s : Shared) (σ : St) (H : Hp) (Q : Option Int → Hp → Prop), Inv X pins σ H s → t σ H Q →
    wpAny (model X.prog X.w) X.A (evalPart e X.env) (fun u s' => ∃ o H', Inv X pins σ H' s' ∧ IsPart u o ∧ Q o H') X.xe s
noncomputable def tNoPart : TO := fun _ H Q => Q none H
noncomputable def tPart (t : TE) : TO := fun σ H Q => t σ H fun x H1 => ∃ i, x = .int i ∧ Q (some i) H1
section
variable {X : Cx} {e : Expr} {te : TE} {lo hi : Option Expr} {tl th : TO} {pos p2 : Pos}
theorem po_none : PO X none tNoPart := by
  intro pins s σ H Q I h
  rw [evalPart_none]
  exact wpAny_pure ⟨none, H, I, .none, h⟩
theorem po_some (h : PE X e te) : PO X (some e) (tPart te) := by
  intro pins s σ H Q I hw
  rw [evalPart_some]
  refine thn (h pins s σ H _ I hw) fun u s1 ⟨x, H1, I1, r1, q1⟩ => ?_
  obtain ⟨i, rfl, q⟩ := q1
  obtain ⟨t, rfl⟩ := r1
  exact ⟨some i, H1, I1, .int i t, q⟩
noncomputable def SlR (X : Cx) (r : V → Option Int → Option Int → Hp → VK → Prop) : Prop :=
  ∀ (pins : List (Addr × Obj)) (s : Shared) (σ : St) (H : Hp) (x : V) (v vl vu : Value) (lo hi : Option Int) (sl : Addr) (Q : VK), Inv X pins σ H s → RelV x v → s.heap.IsSliceOf sl vl vu .none → IsPart vl lo → IsPart vu hi → r x lo hi H Q →
    ∃ T id, typeLookup (.type T) "__getitem__" = pure (some (.builtin id)) ∧ s.TypeIs v T ∧ wpAny (model X.prog X.w) X.A (getItem v (.ref sl)) (EP X pins σ Q) X.xe s
theorem SlR.or {r r' : V → Option Int → Option Int → Hp → VK → Prop} (h : SlR X r) (h' : SlR X r') : SlR X (fun x lo hi H Q => r x lo hi H Q ∨ r' x lo hi H Q) := by
  intro pins s σ H x v vl vu lo hi sl Q I rx hs pl pu q
  rcases q with q | q
  · exact h pins s σ H x v vl vu lo hi sl Q I rx hs pl pu q
  · exact h' pins s σ H x v vl vu lo hi sl Q I rx hs pl pu q
noncomputable def tSl (r : V → Option Int → Option Int → Hp → VK → Prop) (te : TE) (tl th : TO) : TE := fun σ H Q => te σ H fun x H1 => tl σ H1 fun l H2 => th σ H2 fun u H3 => r x l u H3 Q
theorem pe_slice {r : V → Option Int → Option Int → Hp → VK → Prop} (hr : SlR X r) (he : PE X e te) (hl : PO X lo tl) (hu : PO X hi th) : PE X (.Subscript e (.Slice lo hi none p2) pos) (tSl r te tl th) := by
  intro pins s σ H Q I h
  refine Subscript_ (thn (he pins s σ H _ I h) fun v s1 ⟨x, H1, I1, r1, q1⟩ => ?_)
  refine wpAny_Slice (thn (hl pins s1 σ H1 _ I1 q1) fun vl s2 ⟨l, H2, I2, pl, q2⟩ => thn (hu pins s2 σ H2 _ I2 q2) fun vu s3 ⟨u, H3, I3, pu, q3⟩ => ?_)
  rw [evalPart_none]
  refine wpAny_pure ?_
  have I4 : Inv X pins σ H3 { s3 with heap := s3.heap.push { cls := .type "slice", data := .fields #[vl, vu, .none] } } := I3.kept (t' := s3.toks) fun b ob q => Heap.get?_push_of_some _ q
  obtain ⟨T, id, hT, ht, hg⟩ := hr pins { s3 with heap := s3.heap.push { cls := .type "slice", data := .fields #[vl, vu, .none] } } σ H3 x v vl vu l u s3.heap.objs.size Q I4 r1 (Heap.IsSliceOf.new ..) pl pu q3
  show wpAny (model X.prog X.w) X.A (subscriptTail e (.Slice lo hi none p2) v (.ref s3.heap.objs.size)) (EP X pins σ Q) X.xe { s3 with heap := s3.heap.push { cls := .type "slice", data := .fields #[vl, vu, .none] } }
  exact tail_any (ops := [.ref s3.heap.objs.size, v]) ht hT hg (by with_unfolding_all rfl)
noncomputable def cutV (xs : List V) (lo hi : Option Int) : List V := (xs.drop (HT.sIx xs.length 0 lo)).take (HT.sIx xs.length xs.length hi - HT.sIx xs.length 0 lo)
theorem cutV_length (xs : List V) (lo hi : Option Int) : (cutV xs lo hi).length ≤ xs.length := by
  unfold cutV
  rw [List.length_take, List.length_drop]
  omega
noncomputable def rSlT (K : PySem.W.Frag) : V → Option Int → Option Int → Hp → VK → Prop := fun x lo hi H Q => ∃ a xs, x = .ref a ∧ SqT K H a xs ∧
  ¬ (HT.sIx xs.length 0 lo = 0 ∧ HT.sIx xs.length xs.length hi = xs.length) ∧ ∀ p, H p = none → Q (.ref p) (upd H p (.tup (cutV xs lo hi)))
theorem sl_tup : SlR X (rSlT X.K) := by
  intro pins s σ H x v vl vu lo hi sl Q I rx hs pl pu h
  obtain ⟨a, xs, rfl, hx, hw, q⟩ := h
  cases rx
  obtain ⟨its, r, ht, hz⟩ := I.tuple hx
  have hlen : its.toArray.size = xs.length := by rw [List.size_toArray]; exact r.length.symm
  refine ⟨"tuple", _, PyProof.Rows.slot_tuple_getitem.lookup, ht.typeIs, ?_⟩
  refine HT.getItem_tuple_cut ht hs pl pu (by rw [hlen]; exact hw) ?_ (by rw [hlen]; exact hz)
  rw [hlen]
  refine ⟨.ref s.heap.objs.size, _, I.laid (t' := s.toks) (o := .tup (cutV xs lo hi)) (fun b ob q => Heap.get?_push_of_some _ q) (Nat.le_refl _) ?_, rfl, q _ (I.hok.fresh (Nat.le_refl _))⟩
  exact ⟨Nat.le_trans (cutV_length xs lo hi) hz, _, (r.drop (HT.sIx xs.length 0 lo)).take (HT.sIx xs.length xs.length hi - HT.sIx xs.length 0 lo), TupN.new _ _⟩
theorem Vals.nil_iff {xs : List V} {us : List Value} (r : Vals xs us) : us = [] ↔ xs = [] := by
  cases r with
  | nil => simp
  | cons _ _ => simp
end
end L2
namespace L2
open PySem PySem.Spec PyProof.Rows
noncomputable def ixN (n : Nat) (i : Int) : Option Nat := if 0 ≤ i then (if i < n then some i.toNat else none) else if -(n : Int) ≤ i then some (i + n).toNat else none
noncomputable def atI {α : Type} (xs : List α) (i : Int) : Option α := (ixN xs.length i).bind fun j => xs[j]?
theorem ixN_seq {n : Nat} {i : Int} {j : Nat} (h : ixN n i = some j) : seqIndex? i n = some j ∧ j < n ∧ -(n : Int) ≤ i ∧ i < n := by
  unfold ixN at h
  by_cases h0 : 0 ≤ i
  · rw [if_pos h0] at h
    by_cases h1 : i < n
    · rw [if_pos h1] at h
      have e : i.toNat = j := Option.some.inj h
      exact ⟨by rw [seqIndex_of h0 h1, e], by omega, by omega, h1⟩
    · rw [if_neg h1] at h; cases h
  · rw [if_neg h0] at h
    by_cases h1 : -(n : Int) ≤ i
    · rw [if_pos h1] at h
      have e : (i + n).toNat = j := Option.some.inj h
      exact ⟨by rw [seqIndex_neg (by omega) h1, e], by omega, h1, by omega⟩
    · rw [if_neg h1] at h; cases h
theorem atI_get {α : Type} {xs : List α} {i : Int} {v : α} (h : atI xs i = some v) : ∃ j, seqIndex? i xs.length = some j ∧ xs[j]? = some v ∧ j < xs.length ∧ -(xs.length : Int) ≤ i ∧ i < xs.length := by
  unfold atI at h
  cases e : ixN xs.length i with
  | none => rw [e] at h; cases h
  | some j =>
    rw [e] at h
    obtain ⟨h1, h2, h3, h4⟩ := ixN_seq e
    exact ⟨j, h1, h, h2, h3, h4⟩
theorem atI_nat {α : Type} {xs : List α} {j : Nat} {v : α} (h : xs[j]? = some v) : atI xs (j : Int) = some v := by
  have hj : j < xs.length := (List.getElem?_eq_some_iff.mp h).1
  have e : ixN xs.length (j : Int) = some j := by
    unfold ixN
    rw [if_pos (by omega), if_pos (by omega)]; simp
  unfold atI; rw [e]; exact h
noncomputable def PlainIx (b : Expr) : Prop := ∀ o i, subscripted b false o i = operate [o, i] (getItem o i)
noncomputable def IxR (X : Cx) (r : R2) : Prop :=
  ∀ (value slice : Expr) (pins : List (Addr × Obj)) (s : Shared) (σ : St) (H : Hp) (x y : V) (v u : Value) (Q : VK), Inv X pins σ H s → RelV x v → RelV y u → r x y H Q →
    subscripted slice false v u = operate [v, u] (getItem v u) → wpAny (model X.prog X.w) X.A (subscriptTail value slice v u) (EP X pins σ Q) X.xe s
noncomputable def MtR (X : Cx) (id : String) (r : V → List V → Hp → VK → Prop) : Prop :=
  ∀ (pins : List (Addr × Obj)) (s : Shared) (σ : St) (H : Hp) (x : V) (xs : List V) (v : Value) (us : List Value) (Q : VK), Inv X pins σ H s → RelV x v → Vals xs us → r x xs H Q →
    wpAny (model X.prog X.w) X.A (call (.builtin id) (v :: us)) (EP X pins σ Q) X.xe s
section
variable {X : Cx} {a b : Expr} {ta tb : TE} {pos : Pos}
theorem IxR.or {r r' : R2} (h : IxR X r) (h' : IxR X r') : IxR X (fun x y H Q => r x y H Q ∨ r' x y H Q) := by
  intro value slice pins s σ H x y v u Q I rx ry q hs
  rcases q with q | q
  · exact h value slice pins s σ H x y v u Q I rx ry q hs
  · exact h' value slice pins s σ H x y v u Q I rx ry q hs
theorem MtR.or {id : String} {r r' : V → List V → Hp → VK → Prop} (h : MtR X id r) (h' : MtR X id r') : MtR X id (fun x xs H Q => r x xs H Q ∨ r' x xs H Q) := by
  intro pins s σ H x xs v us Q I rx rs q
  rcases q with q | q
  · exact h pins s σ H x xs v us Q I rx rs q
  · exact h' pins s σ H x xs v us Q I rx rs q
theorem pe_ix {r : R2} (hr : IxR X r) (ha : PE X a ta) (hb : PE X b tb) (hs : PlainIx b) : PE X (.Subscript a b pos) (tOp r ta tb) := by
  intro pins s σ H Q I h
  exact Subscript_ (binT ha hb I h fun v u s2 x y H2 I2 rx ry q => hr a b pins s2 σ H2 x y v u Q I2 rx ry q (hs _ _))
noncomputable def rIxL (K : PySem.W.Frag) : R2 := fun x y H Q => ∃ p xs i v, x = .ref p ∧ y = .int i ∧ SqL K H p xs ∧ atI xs i = some v ∧ Q v H
noncomputable def rIxT (K : PySem.W.Frag) : R2 := fun x y H Q => ∃ p xs i v, x = .ref p ∧ y = .int i ∧ SqT K H p xs ∧ atI xs i = some v ∧ Q v H
noncomputable def rIxS : R2 := fun x y H Q => ∃ z i c, x = .str z ∧ y = .int i ∧ z.length ≤ sizeLine ∧ atI z.cps.toList i = some c ∧ Q (.str ⟨#[c]⟩) H
theorem ix_list : IxR X (rIxL X.K) := by
  intro value slice pins s σ H x y v u Q I rx ry h hs
  obtain ⟨p, xs, i, z, rfl, rfl, hq, he, q⟩ := h
  cases rx
  obtain ⟨t, rfl⟩ := ry
  obtain ⟨its, r, pl, hz⟩ := I.list hq
  obtain ⟨j, h1, h2, h3, h4, h5⟩ := atI_get he
  obtain ⟨w, ew, rw'⟩ := r.get h2
  have hl := r.length
  have hn := line63
  have fin : EP X pins σ Q w s := ⟨z, H, I, rw', q⟩
  by_cases h0 : 0 ≤ i
  · have hj : i.toNat = j := by
      rw [seqIndex_of h0 h5] at h1
      exact Option.some.inj h1
    exact item_listR pl.isList h0 (by omega) (by rw [hj]; simpa using ew) fin hs
  · have hj : (i + (its.toArray.size : Int)).toNat = j := by
      rw [seqIndex_neg (by omega) h4] at h1
      rw [List.size_toArray, ← hl]
      exact Option.some.inj h1
    exact subscriptTail_builtinR (x := w) pl.isList.typeIs slot_list_getitem.lookup
      (wpAny_getItem_list_neg (Q := fun r s' => r = w ∧ EP X pins σ Q r s') pl.isList (by omega) (by rw [List.size_toArray] <;> omega) (by omega) (by rw [hj]; simpa using ew) ⟨rfl, fin⟩) hs
theorem ix_tup : IxR X (rIxT X.K) := by
  intro value slice pins s σ H x y v u Q I rx ry h hs
  obtain ⟨p, xs, i, z, rfl, rfl, hq, he, q⟩ := h
  cases rx
  obtain ⟨t, rfl⟩ := ry
  obtain ⟨its, r, pl, hz⟩ := I.tuple hq
  obtain ⟨j, h1, h2, h3, h4, h5⟩ := atI_get he
  obtain ⟨w, ew, rw'⟩ := r.get h2
  have hl := r.length
  have hn := line63
  have fin : EP X pins σ Q w s := ⟨z, H, I, rw', q⟩
  exact subscriptTail_builtinR (x := w) pl.typeIs slot_tuple_getitem.lookup
    (getItem_tuple (j := j) (Q := fun r s' => r = w ∧ EP X pins σ Q r s') pl (by omega) (by omega) (by rw [List.size_toArray, ← hl]; exact h1) (by simpa using ew) ⟨rfl, fin⟩) hs
theorem ix_str : IxR X rIxS := by
  intro value slice pins s σ H x y v u Q I rx ry h hs
  obtain ⟨z, i, c, rfl, rfl, hz, he, q⟩ := h
  obtain ⟨t, rfl⟩ := rx
  obtain ⟨t', rfl⟩ := ry
  obtain ⟨j, h1, h2, h3, h4, h5⟩ := atI_get he
  have hl : z.cps.toList.length = z.length := by simp [Str.length]
  rw [hl] at h1 h4 h5
  have hn := line63
  exact tail_any (typeIs_str s z t) slot_str_getitem.lookup (getItem_str (c := c) (by
    have e1 : decide (i < -(2 ^ 63 : Int)) = false := decide_eq_false (by omega)
    have e2 : decide (i ≥ 2 ^ 63) = false := decide_eq_false (by omega)
    rw [e1, e2, Bool.or_false]) (by rw [h1]; simpa using h2) ⟨.str ⟨#[c]⟩, H, I.tok _, ⟨_, rfl⟩, q⟩) hs
noncomputable def rIx (K : PySem.W.Frag) : R2 := fun x y H Q => rIxL K x y H Q ∨ rIxT K x y H Q ∨ rIxS x y H Q
theorem ix_seq : IxR X (rIx X.K) := ix_list.or (ix_tup.or ix_str)
theorem mapSeq_set (its : List Value) (n j : Nat) (u : Value) : Obj.mapSeq (·.setIfInBounds j u) { cls := .type "list", data := .seq its.toArray n } = { cls := .type "list", data := .seq (its.set j u).toArray n } := by
  simp [Obj.mapSeq]
theorem Inv.lst {pins : List (Addr × Obj)} {σ : St} {H : Hp} {s : Shared} {p : Addr} {xs : List V} (I : Inv X pins σ H s) (h : H p = some (.lst xs)) :
    ∃ (its : List Value) (n : Nat), Vals xs its ∧ s.heap.get? p = some { cls := .type "list", data := .seq its.toArray n } ∧ xs.length ≤ sizeLine := by
  obtain ⟨z, its, n, r, e⟩ := I.hok p _ h
  exact ⟨its, n, r, e, z⟩
theorem Inv.lstUpd {pins : List (Addr × Obj)} {σ : St} {H : Hp} {s : Shared} {p : Addr} {xs ys : List V} {its its' : List Value} {n n' : Nat} {f : Obj → Obj} (I : Inv X pins σ H s) (h : H p = some (.lst xs))
    (ho : s.heap.get? p = some { cls := .type "list", data := .seq its.toArray n }) (hf : f { cls := .type "list", data := .seq its.toArray n } = { cls := .type "list", data := .seq its'.toArray n' }) (r : Vals ys its') (hz : ys.length ≤ sizeLine) (t : Nat) :
    Inv X pins σ (upd H p (.lst ys)) { s with heap := s.heap.update p f, toks := t } := by
  have e : (s.heap.update p f).get? p = some { cls := .type "list", data := .seq its'.toArray n' } := by
    rw [Heap.get?_update_self f ho (by rw [hf] <;> rfl), hf]
  refine I.write (x := p) (e := p) (by rw [h]; trivial) (.inl rfl) (fun b u hb q => (Heap.get?_update_other _ _ (Ne.symm hb)).trans q) ⟨_, e⟩ ?_
  exact ⟨hz, its', n', r, e⟩
noncomputable def rSetL : V → V → V → Hp → (Hp → Prop) → Prop := fun o i v H Q => ∃ p xs k j, o = .ref p ∧ i = .int k ∧ H p = some (.lst xs) ∧ ixN xs.length k = some j ∧ Q (upd H p (.lst (xs.set j v)))
theorem set_list : PSet X rSetL := by
  intro pins s σ H o i v ov iv u Q I ro ri rv h
  obtain ⟨p, xs, k, j, rfl, rfl, hp, hj, q⟩ := h
  cases ro
  obtain ⟨t, rfl⟩ := ri
  obtain ⟨its, n, r, ho, hz⟩ := I.lst hp
  obtain ⟨h1, h2, h3, h4⟩ := ixN_seq hj
  have hl := r.length
  have hn := line63
  have I' : Inv X pins σ (upd H p (.lst (xs.set j v))) { s with heap := s.heap.update p (Obj.mapSeq (·.setIfInBounds j u)) } :=
    I.lstUpd hp ho (mapSeq_set its n j u) (r.set rv j) (by rw [List.length_set]; exact hz) s.toks
  by_cases h0 : 0 ≤ k
  · have hk : k.toNat = j := by
      rw [seqIndex_of h0 h4] at h1
      exact Option.some.inj h1
    exact PySem.W.ki_setAt ho h0 (by omega) (by rw [List.size_toArray, ← hl]; exact h4) (by rw [hk]; exact ⟨_, I', q⟩)
  · have hk : (k + (its.toArray.size : Int)).toNat = j := by
      rw [seqIndex_neg (by omega) h3] at h1
      rw [List.size_toArray, ← hl]
      exact Option.some.inj h1
    exact PySem.W.ki_setBack ho (by omega) (by rw [List.size_toArray, ← hl]; exact h3) (by omega) (by rw [hk]; exact ⟨_, I', q⟩)
theorem slice_bounds (lo hi : Option Int) (n : Nat) : (sliceBounds lo hi none n).1 = ((HT.sIx n 0 lo : Nat) : Int) ∧ (sliceBounds lo hi none n).2.1 = ((HT.sIx n n hi : Nat) : Int) ∧ (sliceBounds lo hi none n).2.2 = 1 := by
  refine ⟨?_, ?_, rfl⟩
  · cases lo with
    | none => simp [sliceBounds, HT.sIx]
    | some i =>
      simp only [sliceBounds, HT.sIx, Option.getD_none, show (1 : Int) > 0 by decide, if_true]
      by_cases h : i < 0
      · simp only [h, if_true] <;> omega
      · simp only [h, if_false] <;> omega
  · cases hi with
    | none => simp [sliceBounds, HT.sIx]
    | some i =>
      simp only [sliceBounds, HT.sIx, Option.getD_none, show (1 : Int) > 0 by decide, if_true]
      by_cases h : i < 0
      · simp only [h, if_true] <;> omega
      · simp only [h, if_false] <;> omega
theorem slicePick_cut (its : List Value) (lo hi : Option Int) : slicePick its.toArray lo hi none = ((its.drop (HT.sIx its.length 0 lo)).take (HT.sIx its.length its.length hi - HT.sIx its.length 0 lo)).toArray := by
  obtain ⟨h1, h2, h3⟩ := slice_bounds lo hi its.toArray.size
  unfold slicePick
  rw [h1, h2, h3]
  simp only [sliceRange_one, pick_run, List.size_toArray] <;> rfl
noncomputable def rSlL (K : PySem.W.Frag) : V → Option Int → Option Int → Hp → VK → Prop := fun x lo hi H Q => ∃ a xs, x = .ref a ∧ SqL K H a xs ∧ ∀ p, H p = none → Q (.ref p) (upd H p (.lst (cutV xs lo hi)))
theorem sl_list : SlR X (rSlL X.K) := by
  intro pins s σ H x v vl vu lo hi sl Q I rx hs pl pu h
  obtain ⟨a, xs, rfl, hx, q⟩ := h
  cases rx
  obtain ⟨its, r, ht, hz⟩ := I.list hx
  have hlen := r.length
  refine ⟨"list", _, slot_list_getitem.lookup, ht.isList.typeIs, ?_⟩
  refine wpAny_getItem_list_slice ht.isList hs pl pu .none (by simp) ?_ (by rw [List.size_toArray] <;> omega)
  rw [slicePick_cut, ← hlen]
  refine ⟨.ref s.heap.objs.size, _, I.laid (t' := s.toks) (o := .lst (cutV xs lo hi)) (fun b ob q => Heap.get?_push_of_some _ q) (Nat.le_refl _) ?_, rfl, q _ (I.hok.fresh (Nat.le_refl _))⟩
  exact ⟨Nat.le_trans (cutV_length xs lo hi) hz, _, 0, (r.drop (HT.sIx xs.length 0 lo)).take (HT.sIx xs.length xs.length hi - HT.sIx xs.length 0 lo), Heap.get?_push_size _ rfl⟩
noncomputable def flatV : V → Bool
  | .non => true
  | .bl _ => true
  | .int _ => true
  | .str _ => true
  | _ => false
noncomputable def eqV : V → V → Bool
  | .non, .non => true
  | .bl a, .bl b => a == b
  | .bl a, .int b => (if a then 1 else 0) == b
  | .int a, .bl b => a == (if b then 1 else 0)
  | .int a, .int b => a == b
  | .str a, .str b => a == b
  | _, _ => false
theorem eqAt_V {A : Around} {s : Shared} {y x : V} {u v : Value} (ry : RelV y u) (rx : RelV x v) (fy : flatV y = true) (fx : flatV x = true) : SeqAt.EqAt A s u v (eqV y x) := by
  cases y with
  | non =>
    cases ry
    cases x with
    | non => cases rx; exact SeqAt.EqAt.same _
    | bl b => cases rx; exact SeqAt.EqAt.none_bool b
    | int b => obtain ⟨t, rfl⟩ := rx; exact SeqAt.EqAt.none_int b t
    | str b => obtain ⟨t, rfl⟩ := rx; exact SeqAt.EqAt.none_str b t
    | _ => exact absurd (show false = true from fx) Bool.false_ne_true
  | bl a =>
    cases ry
    cases x with
    | non => cases rx; exact SeqAt.EqAt.bool_none a
    | bl b => cases rx; exact SeqAt.EqAt.bool_bool a b
    | int b => obtain ⟨t, rfl⟩ := rx; exact SeqAt.EqAt.bool_int a b t
    | str b => obtain ⟨t, rfl⟩ := rx; exact SeqAt.EqAt.bool_str a b t
    | _ => exact absurd (show false = true from fx) Bool.false_ne_true
  | int a =>
    obtain ⟨t', rfl⟩ := ry
    cases x with
    | non => cases rx; exact SeqAt.EqAt.int_none a t'
    | bl b => cases rx; exact SeqAt.EqAt.int_bool a t' b
    | int b => obtain ⟨t, rfl⟩ := rx; exact SeqAt.EqAt.int_int a t' b t
    | str b => obtain ⟨t, rfl⟩ := rx; exact SeqAt.EqAt.int_str a t' b t
    | _ => exact absurd (show false = true from fx) Bool.false_ne_true
  | str a =>
    obtain ⟨t', rfl⟩ := ry
    cases x with
    | non => cases rx; exact SeqAt.EqAt.str_none a t'
    | bl b => cases rx; exact SeqAt.EqAt.str_bool a t' b
    | int b => obtain ⟨t, rfl⟩ := rx; exact SeqAt.EqAt.str_int a t' b t
    | str b => obtain ⟨t, rfl⟩ := rx; exact SeqAt.EqAt.str_str a t' b t
    | _ => exact absurd (show false = true from fx) Bool.false_ne_true
  | _ => exact absurd (show false = true from fy) Bool.false_ne_true
noncomputable def eqU (x : V) (u : Value) : Bool := match u with
  | .none => eqV .non x
  | .bool b => eqV (.bl b) x
  | .int i _ => eqV (.int i) x
  | .str z _ => eqV (.str z) x
  | _ => false
theorem eqU_of {x y : V} {u : Value} (r : RelV y u) (f : flatV y = true) : eqU x u = eqV y x := by
  cases y with
  | non => cases r; rfl
  | bl b => cases r; rfl
  | int i => obtain ⟨t, rfl⟩ := r; rfl
  | str z => obtain ⟨t, rfl⟩ := r; rfl
  | _ => exact absurd (show false = true from f) Bool.false_ne_true
theorem any_eqU {x : V} : ∀ {xs : List V} {us : List Value}, Vals xs us → xs.all flatV = true → us.any (eqU x) = xs.any fun y => eqV y x
  | _, _, .nil, _ => rfl
  | y :: xs, u :: us, .cons r t, f => by
    rw [List.all_cons, Bool.and_eq_true] at f
    rw [List.any_cons, List.any_cons, eqU_of r f.1, any_eqU t f.2]
theorem mem_eqAt {A : Around} {s : Shared} {x : V} {v : Value} (rx : RelV x v) (fx : flatV x = true) : ∀ {xs : List V} {us : List Value}, Vals xs us → xs.all flatV = true → ∀ u ∈ us, SeqAt.EqAt A s u v (eqU x u)
  | _, _, .nil, _ => fun u hu => by cases hu
  | y :: xs, u :: us, .cons r t, f => fun u' hu => by
    rw [List.all_cons, Bool.and_eq_true] at f
    rcases List.mem_cons.mp hu with rfl | hu
    · rw [eqU_of r f.1]; exact eqAt_V r rx f.1 fx
    · exact mem_eqAt rx fx t f.2 u' hu
noncomputable def inV (x : V) (xs : List V) : Bool := xs.any fun y => eqV y x
noncomputable def rIn (K : PySem.W.Frag) (neg : Bool) : R2 := fun x y H Q => ∃ p xs, y = .ref p ∧ (SqL K H p xs ∨ SqT K H p xs) ∧ flatV x = true ∧ xs.all flatV = true ∧ Q (.bl (if neg then !inV x xs else inV x xs)) H
theorem op_in_seq : OpR X (compareOp .In) (rIn X.K false) := by
  intro pins s σ H x y v u Q I rx ry h
  obtain ⟨p, xs, rfl, hq, fx, fs, q⟩ := h
  cases ry
  rcases hq with hq | hq
  · obtain ⟨its, r, pl, hz⟩ := I.list hq
    refine SeqAt.in_listAt (eqU x) pl.isList (fun w hw => mem_eqAt rx fx r fs w (by simpa using hw)) ⟨.bl _, H, I, rfl, ?_⟩
    rw [show its.toArray.any (eqU x) = its.any (eqU x) by simp, any_eqU r fs]
    exact q
  · obtain ⟨its, r, pl, hz⟩ := I.tuple hq
    refine SeqAt.in_tupleAt (eqU x) pl (fun w hw => mem_eqAt rx fx r fs w (by simpa using hw)) ⟨.bl _, H, I, rfl, ?_⟩
    rw [show its.toArray.any (eqU x) = its.any (eqU x) by simp, any_eqU r fs]
    exact q
theorem call_len_seq : CallR X (.builtin "len") (fun xs H Q => ∃ p ys, xs = [.ref p] ∧ (SqL X.K H p ys ∨ SqT X.K H p ys) ∧ Q (.int ys.length) H) := by
  intro pins s σ H xs us Q I r h
  obtain ⟨p, ys, rfl, hq, q⟩ := h
  obtain ⟨u, rfl, rx⟩ := vals1 r
  cases rx
  have hn := line63
  rcases hq with hq | hq
  · obtain ⟨its, r', pl, hz⟩ := I.list hq
    have hlen := r'.length
    exact Calls.call_len_list pl.isList (by simp only [List.size_toArray] <;> omega) ⟨.int ys.length, H, I.tok _, ⟨s.toks + 1, by rw [List.size_toArray, hlen]⟩, q⟩
  · obtain ⟨its, r', pl, hz⟩ := I.tuple hq
    have hlen := r'.length
    exact len_tuple pl (by simp only [List.size_toArray] <;> omega) ⟨.int ys.length, H, I.tok _, ⟨s.toks + 1, by rw [List.size_toArray, hlen]⟩, q⟩
theorem call_len_str : CallR X (.builtin "len") (fun xs H Q => ∃ z, xs = [.str z] ∧ z.length ≤ sizeLine ∧ Q (.int z.length) H) := by
  intro pins s σ H xs us Q I r h
  obtain ⟨z, rfl, hz, q⟩ := h
  obtain ⟨u, rfl, t, rfl⟩ := vals1 r
  have hn := line63
  exact len_str (by omega) ⟨.int z.length, H, I.tok _, ⟨_, rfl⟩, q⟩
theorem CallR.or {f : Value} {r r' : List V → Hp → VK → Prop} (h : CallR X f r) (h' : CallR X f r') : CallR X f (fun xs H Q => r xs H Q ∨ r' xs H Q) := by
  intro pins s σ H xs us Q I rs q
  rcases q with q | q
  · exact h pins s σ H xs us Q I rs q
  · exact h' pins s σ H xs us Q I rs q
theorem call_list_of : CallR X (.type "list") (fun xs H Q => ∃ p ys, xs = [.ref p] ∧ (SqL X.K H p ys ∨ SqT X.K H p ys) ∧ ∀ l, H l = none → Q (.ref l) (upd H l (.lst ys))) := by
  intro pins s σ H xs us Q I r h
  obtain ⟨p, ys, rfl, hq, q⟩ := h
  obtain ⟨u, rfl, rx⟩ := vals1 r
  cases rx
  have fin : ∀ (its : List Value), Vals ys its → ys.length ≤ sizeLine → ∀ (h' : Heap) (c' : Nat), (∀ b o', s.heap.get? b = some o' → h'.get? b = some o') →
      h'.get? s.heap.objs.size = some { cls := .type "list", dict := none, data := .seq its.toArray c', slots := #[] } → EP X pins σ Q (.ref s.heap.objs.size) { s with heap := h' } := fun its r' hz h' c' kp e =>
    ⟨.ref s.heap.objs.size, _, I.laid (t' := s.toks) kp (Nat.le_refl _) (show ObjOk X.prog X.w _ h' _ (.lst ys) from ⟨hz, its, c', r', e⟩), rfl, q _ (I.hok.fresh (Nat.le_refl _))⟩
  rcases hq with hq | hq
  · obtain ⟨its, r', pl, hz⟩ := I.list hq
    have hlen := r'.length
    obtain ⟨o, ho, hc, n, hd⟩ := pl.isList
    exact call_list_seq p (.inl rfl) ho hc hd (fun h' c' kp e => fin its r' hz h' c' kp e) (by simp only [List.size_toArray] <;> omega)
  · obtain ⟨its, r', pl, hz⟩ := I.tuple hq
    have hlen := r'.length
    obtain ⟨o, ho, hc, n, hd⟩ := pl
    exact call_list_seq p (.inr rfl) ho hc hd (fun h' c' kp e => fin its r' hz h' c' kp e) (by simp only [List.size_toArray] <;> omega)
theorem call_tuple_of : CallR X (.type "tuple") (fun xs H Q => ∃ p ys, xs = [.ref p] ∧ ((SqL X.K H p ys ∧ ∀ l, H l = none → Q (.ref l) (upd H l (.tup ys))) ∨ (SqT X.K H p ys ∧ Q (.ref p) H))) := by
  intro pins s σ H xs us Q I r h
  obtain ⟨p, ys, rfl, h⟩ := h
  obtain ⟨u, rfl, rx⟩ := vals1 r
  cases rx
  rcases h with ⟨hq, q⟩ | ⟨hq, q⟩
  · obtain ⟨its, r', pl, hz⟩ := I.list hq
    have hlen := r'.length
    refine call_tuple_list pl.isList (fun h' kp => ?_) (by simp only [List.size_toArray] <;> omega)
    have I1 : Inv X pins σ H { s with heap := h' } := I.kept (t' := s.toks) kp
    have I2 : Inv X pins σ (upd H h'.objs.size (.tup ys)) { s with heap := h'.push { cls := .type "tuple", data := .seq its.toArray } } :=
      I1.laid (t' := s.toks) (fun b o e => Heap.get?_push_of_some _ e) (Nat.le_refl _) (show ObjOk X.prog X.w _ _ _ (.tup ys) from ⟨hz, its, r', TupN.new _ _⟩)
    exact ⟨.ref h'.objs.size, _, I2, rfl, q _ (I1.hok.fresh (Nat.le_refl _))⟩
  · obtain ⟨its, r', pl, hz⟩ := I.tuple hq
    exact call_tuple_same pl ⟨.ref p, H, I, rfl, q⟩
noncomputable def tyV (K : PySem.W.Frag) (T : String) (x : V) (H : Hp) : Prop := match x with
  | .str _ => T = "str"
  | .int _ => T = "int"
  | .ref p => (T = "list" ∧ ∃ xs, SqL K H p xs) ∨ (T = "tuple" ∧ ∃ o, K.lookup p = some o ∧ o.cls = .type "tuple" ∧ o.dict = none) ∨
      (T = "dict" ∧ ((∃ kvs, H p = some (.dK kvs)) ∨ ∃ kvs, H p = some (.dT kvs))) ∨ (T = "set" ∧ ∃ S n, H p = some (.set S n))
  | _ => False
theorem tyV_is {pins : List (Addr × Obj)} {σ : St} {H : Hp} {s : Shared} {T : String} {x : V} {v : Value} (I : Inv X pins σ H s) (r : RelV x v) (ty : tyV X.K T x H) :
    s.TypeIs v T ∧ ∀ a, v = .ref a → ∃ ob, s.heap.get? a = some ob ∧ ob.dict = none := by
  cases x with
  | str z =>
    obtain ⟨t, rfl⟩ := r
    cases (show T = "str" from ty)
    exact ⟨typeIs_str s z t, fun _ e => nomatch e⟩
  | int i =>
    obtain ⟨t, rfl⟩ := r
    cases (show T = "int" from ty)
    exact ⟨typeIs_int s i t, fun _ e => nomatch e⟩
  | ref p =>
    cases r
    rcases ty with ⟨rfl, xs, hq⟩ | ⟨rfl, o, hk, hc, hd⟩ | ⟨rfl, hk⟩ | ⟨rfl, S, n, hk⟩
    · obtain ⟨its, _, pl, _⟩ := I.list hq
      refine ⟨pl.isList.typeIs, fun a e => ?_⟩
      cases e
      obtain ⟨o, n, e, c, hd, _⟩ := pl
      exact ⟨o, e, hd⟩
    · refine ⟨⟨o, I.kIn p o hk, hc⟩, fun a e => ?_⟩
      cases e
      exact ⟨o, I.kIn _ o hk, hd⟩
    · have z : ∃ o, s.heap.get? p = some o ∧ o.ExactDict := by
        rcases hk with ⟨kvs, hk⟩ | ⟨kvs, hk⟩
        · obtain ⟨_, _, _, _, o, _, _, e, ex, _⟩ := I.hok p _ hk
          exact ⟨o, e, ex⟩
        · obtain ⟨_, _, _, _, o, _, _, e, ex, _⟩ := I.hok p _ hk
          exact ⟨o, e, ex⟩
      obtain ⟨o, e, ex⟩ := z
      refine ⟨⟨o, e, ex.1⟩, fun a e2 => ?_⟩
      cases e2
      exact ⟨o, e, ex.2.1⟩
    · obtain ⟨o, _, _, _, e, ex, _⟩ := I.hok p _ hk
      refine ⟨⟨o, e, ex.1⟩, fun a e2 => ?_⟩
      cases e2
      exact ⟨o, e, ex.2.1⟩
  | _ => exact False.elim ty
noncomputable def tBM (K : PySem.W.Frag) (T : String) (r : V → List V → Hp → VK → Prop) (to : TE) (t : TA) : TE := fun σ H Q => to σ H fun x H1 => tyV K T x H1 ∧ t σ H1 fun xs H2 => r x xs H2 Q
variable {o e : Expr} {es : List Expr} {to : TE} {t : TA} {name : Str} {apos cpos : Pos} {T id : String} {r : V → List V → Hp → VK → Prop}
theorem pe_bm (pa : PlainAttrs T) (slot : Slot T name id) (hty : typeOf (.builtin id) = pure (.type "method_descriptor")) (hm : MtR X id r) (ho : PE X o to) (ha : PA X (e :: es) t)
    (hbase : attributeBase o name X.env (eval o X.env) = eval o X.env := by rfl)
    (hfew : ((backTo cpos (starEach (e :: es) X.env)).all (fun x => !x.1) && (backToKw cpos (keywordEach [] X.env)).all (fun x => x.1.isSome)
      && decide ((e :: es).length + ([] : List Keyword).length + (if ([] : List Keyword).isEmpty then 0 else 1) < 30)) = true := by rfl)
    (hline : (apos.endLine == cpos.line) = true := by rfl) (hs : starEach (e :: es) X.env = (false, eval e X.env) :: starEach es X.env := by rfl) (hplain : (backTo cpos (starEach es X.env)).any (·.1) = false := by rfl) :
    PE X (.Call (.Attribute o name apos) (e :: es) [] cpos) (tBM X.K T r to t) := by
  intro pins s σ H Q I h
  refine wpAny_Call_method_late hbase hfew hline rfl (thn (ho pins s σ H _ I h) fun v s1 ⟨x, H1, I1, r1, ty, q1⟩ => ?_)
  obtain ⟨h1, h2⟩ := tyV_is I1 r1 ty
  refine ⟨T, id, pa, slot, hty, h1, h2, ?_⟩
  have hA := ha cpos pins s1 σ H1 _ I1 q1
  rw [hs] at hA ⊢
  refine Calls.callWith_builtin (by show (false || (backTo cpos (starEach es X.env)).any (·.1)) = false; rw [hplain] <;> rfl) (Calls.evalArgs_plain ?_)
  exact thn hA fun us s2 ⟨vs, H2, I2, r2, q2⟩ => hm pins s2 σ H2 x vs v us Q I2 r1 r2 q2
end
end L2
namespace L2
open PySem PySem.Spec PyProof.Rows
noncomputable def MtM (X : Cx) (id : String) (r : V → List V → Hp → VK → Prop) : Prop :=
  ∀ (pins : List (Addr × Obj)) (s : Shared) (σ : St) (H : Hp) (x : V) (xs : List V) (v : Value) (us : List Value) (Q : VK), Inv X pins σ H s → RelV x v → Vals xs us → r x xs H Q →
    wpAny (model X.prog X.w) X.A (call (.builtin id) (v :: us)) (EP X pins σ Q) X.xe s
theorem Vals.one : ∀ {x : V} {us : List Value}, Vals [x] us → ∃ u, us = [u] ∧ RelV x u
  | _, _, .cons r .nil => ⟨_, rfl, r⟩
theorem Vals.two : ∀ {x y : V} {us : List Value}, Vals [x, y] us → ∃ u v, us = [u, v] ∧ RelV x u ∧ RelV y v
  | _, _, _, .cons r (.cons q .nil) => ⟨_, _, rfl, r, q⟩
theorem Vals.zero : ∀ {us : List Value}, Vals [] us → us = []
  | _, .nil => rfl
theorem Vals.rep {xs : List V} {us : List Value} (h : Vals xs us) : ∀ k : Nat, Vals (List.replicate k xs).flatten (List.replicate k us).flatten
  | 0 => .nil
  | k + 1 => by
    rw [List.replicate_succ, List.replicate_succ, List.flatten_cons, List.flatten_cons]
    exact Vals.append h (Vals.rep h k)
theorem foldl_rep (its : List Value) : ∀ (k : Nat) (acc : List Value),
    List.foldl (fun x1 x2 => x1 ++ x2) acc.toArray (List.replicate k its.toArray) = (acc ++ (List.replicate k its).flatten).toArray
  | 0, acc => by simp
  | k + 1, acc => by
    have e : acc.toArray ++ its.toArray = (acc ++ its).toArray := by simp
    have e2 : (acc ++ its) ++ (List.replicate k its).flatten = acc ++ (List.replicate (k + 1) its).flatten := by
      rw [List.replicate_succ, List.flatten_cons, List.append_assoc]
    rw [← e2, ← foldl_rep its k (acc ++ its), ← e, List.replicate_succ, List.foldl_cons]
section
variable {X : Cx} {pins : List (Addr × Obj)} {σ : St} {H : Hp} {s : Shared} {l b : Addr} {xs ys zs : List V}
theorem Inv.lset {its its' : List Value} {n : Nat} {f : Array Value → Array Value} {t' : Nat} (I : Inv X pins σ H s) (hH : H l = some (.lst xs))
    (e : s.heap.get? l = some { cls := .type "list", data := .seq its.toArray n }) (hf : f its.toArray = its'.toArray) (hv : Vals ys its') (hz : ys.length ≤ sizeLine) :
    Inv X pins σ (upd H l (.lst ys)) { s with heap := s.heap.update l (Obj.mapSeq f), toks := t' } := by
  have q := PySem.IsL.update e f
  rw [hf] at q
  refine I.write (x := l) (e := l) (by rw [hH]; exact trivial) (.inl rfl) (fun b' u hb hu => (Heap.get?_update_other s.heap (Obj.mapSeq f) (Ne.symm hb)).trans hu) ⟨_, q⟩ ?_
  exact ⟨hz, its', _, hv, q⟩
theorem Inv.lnew {its : List Value} {t' : Nat} (I : Inv X pins σ H s) (hv : Vals ys its) (hz : ys.length ≤ sizeLine) :
    Inv X pins σ (upd H s.heap.objs.size (.lst ys)) { s with heap := s.heap.push { cls := .type "list", data := .seq its.toArray }, toks := t' } :=
  I.laid (fun _ _ q => Heap.get?_push_of_some _ q) (Nat.le_refl _) ⟨hz, its, 0, hv, Heap.get?_push_size _ rfl⟩
theorem Inv.fresh (I : Inv X pins σ H s) : H s.heap.objs.size = none := I.hok.fresh (Nat.le_refl _)
theorem Inv.lstM (I : Inv X pins σ H s) (hH : H l = some (.lst xs)) : xs.length ≤ sizeLine ∧ ∃ (its : List Value) (n : Nat), Vals xs its ∧ xs.length = its.length ∧ s.heap.get? l = some { cls := .type "list", data := .seq its.toArray n } := by
  obtain ⟨z, its, n, r, e⟩ := I.hok l _ hH
  exact ⟨z, its, n, r, r.length, e⟩
end
section
variable {X : Cx}
noncomputable def rAppend : V → List V → Hp → VK → Prop := fun x vs H Q => ∃ l xs y, x = .ref l ∧ vs = [y] ∧ H l = some (.lst xs) ∧ xs.length < sizeLine ∧ Q .non (upd H l (.lst (xs ++ [y])))
theorem mt_append : MtM X "list.append" rAppend := by
  intro pins s σ H x vs v us Q I rx rv h
  obtain ⟨l, xs, y, rfl, rfl, hH, hz, q⟩ := h
  cases rx
  obtain ⟨u, rfl, ru⟩ := rv.one
  obtain ⟨z, its, n, r, hl, e⟩ := I.lstM hH
  refine call_meets F.slot_list_append ⟨_, e, rfl⟩ F.entry_list_append (F.args_list_append_2 _ _) (PySem.list_append l its.toArray n u (by rw [List.size_toArray]; omega)) ⟨e, ?_⟩
  refine ⟨.non, _, I.lset (its' := its ++ [u]) hH e (by simp) (r.append (.cons ru .nil)) ?_, rfl, q⟩
  rw [List.length_append, List.length_singleton]
  omega
theorem len_rep {α : Type} (xs : List α) (k : Nat) : (List.replicate k xs).flatten.length = k * xs.length := by
  induction k with
  | zero => simp
  | succ k ih => rw [List.replicate_succ, List.flatten_cons, List.length_append, ih, Nat.succ_mul, Nat.add_comm]
end
section
variable {prog : Program} {w : World} {A : Around} {E : Value → Shared → Prop} {s : Shared}
end
section
variable {X : Cx}
end
end L2
namespace Att
open PySem PySem.W PySem.Calls PyProof.Rows
theorem ints_of_wellAll {P : Params} {h : Heap} : ∀ (ns : List Int) (vs : List Value), WellAll P h vs (ns.map WData.int) → IntsAre vs ns := by
  intro ns
  induction ns with
  | nil =>
    intro vs w
    rw [List.map_nil] at w
    cases w
    exact .nil
  | cons n ns ih =>
    intro vs w
    rw [List.map_cons] at w
    cases w with
    | cons a b =>
      cases a
      exact .cons _ _ (ih _ b)
theorem script_of {l : OpenLaw} {n : Nat} (hn : l.most = some n) {P : Params} {h : Heap} {args : List WData} {vals : List Value}
    (hpre : l.row.toRowW.claim.pre args = true) (hwl : WellAll P h vals args) :
    ∃ a vs ns, vals = [Value.ref a] ∧ args = [WData.list (ns.map WData.int)] ∧ h.get? a = some { cls := .type "list", data := .seq vs.toArray } ∧ IntsAre vs ns ∧ ns.length ≤ n := by
  have hsh : WShape.hasAll [] args [.list .int] = true := (pre_splitW hpre).1
  have hc : l.pre.holds [] { args := args } = true := (pre_splitW hpre).2
  obtain ⟨d, r, rfl, h1, h2⟩ := hasAllW_cons hsh
  obtain rfl := hasAllW_nil h2
  obtain ⟨xs, rfl, h3⟩ := hasW_list h1
  obtain ⟨ns, rfl⟩ := items_int h3
  have hlen : ns.length ≤ n := by
    unfold OpenLaw.pre at hc
    have h4 : (WTm.not (.lt (.lit (.int (n : Int))) (.len (.arg 0)))).holds [] { args := [.list (ns.map .int)] } = true := by
      have h4 := (holds_andW hc).1
      rw [hn] at h4
      exact h4
    have h5 := condW_of h4 (w_not (w_lt w_lit (w_len_list (w_arg rfl))))
    rw [List.length_map] at h5
    refine Nat.le_of_not_lt fun q => ?_
    have q' : (n : Int) < ((ns.length : Nat) : Int) := by omega
    first
      | (rw [decide_eq_true q'] at h5; exact absurd h5 (by decide))
      | (simp at h5; omega)
  cases hwl with
  | cons w1 w2 =>
    cases w2
    cases w1 with
    | list ho hall => exact ⟨_, _, ns, rfl, rfl, ho, ints_of_wellAll ns _ hall, hlen⟩
theorem post_true (l : OpenLaw) (args : List WData) : l.row.toRowW.claim.post args (.bool true) args = true :=
  postW_of (r := l.row.toRowW) (X := (true == true))
    (show WShape.has [] (.bool true) .bool = true by first | rfl | decide | simp [WShape.has, WShape.arms, WShape.armsAll])
    (show (WTm.eq .res (.lit (.bool true))).value [] { args := args, res := some (.bool true), after := args } = some (.bool (true == true)) from w_eq_bool (w_res rfl) w_lit) rfl
theorem attach_call {l : OpenLaw} {n : Nat} {q : Program} {loose : List Str} {XP : (Str → Option Value) → Heap → Prop} {YP : World → Heap → Prop} {d : DefRec}
    (hn : l.most = some n) (hdf : d.params.defaults = [])
    (call : ∀ (w : World) (s₀ s₁ : Shared) (mg mb : Str → Option Value) (fa : Addr) (o : Obj) (pm cd doc : Value) (a : Addr) (vs : List Value) (ns : List Int),
      Ground q loose [] XP w s₀ mg mb s₁.heap → YP w s₁.heap →
      s₁.heap.get? fa = some o → o.data = .func (docDef d.name d.params d.body d.scope pm cd doc) → s₁.heap.CodeRec cd d.name → mg d.name = some (.ref fa) →
      s₁.heap.get? a = some { cls := .type "list", data := .seq vs.toArray } → IntsAre vs ns → ns.length ≤ n → s₁.gens = #[] →
      codeAny (model l.prog w) callerA (.call (.ref fa) ⟨[.ref a], []⟩) (fun r s' => r = .ok (.ret (.bool true)) ∧ OldK s₁.heap s'.heap ∧ s'.os = s₁.os ∧ AllBare s'.gens) s₁) :
    WalkO q loose XP YP l.row.toRowW d [] (fun f vs => PySem.call f vs) := by
  intro w s₀ s₁ mg mb G Y fa o pm cd doc dV kV ho hd hcd hD hmg hg args vals as hpre hlay hrd hwl hlo
  obtain rfl : dV = .none := Dflts.none hD hdf
  obtain rfl : kV = .none := Dflts.noKw hD
  obtain ⟨a, vs, ns, rfl, rfl, hobj, hints, hlen⟩ := script_of hn hpre hwl
  refine enter_call (codeAny_mono (call w s₀ s₁ mg mb fa o pm cd doc a vs ns G Y ho (fd_plain hd) hcd hmg hobj hints hlen hg) fun r s' hq => ?_)
  obtain ⟨rfl, h2, h3, h4⟩ := hq
  exact ⟨.inl ⟨.bool true, .bool true, [], rfl, fun _ => rfl, .bool true, post_true l _, fun _ => ⟨List.Pairwise.nil, fun _ hm => (nomatch hm)⟩⟩, h2, h3, h4⟩
section
variable {prog : Program} {w : World} {A : Around} {E : Value → Shared → Prop} {s : Shared} {K : Frag}
end
end Att
namespace L2
open PySem PySem.Spec PyProof.Rows
theorem vals_ints : ∀ {vs : List Value} {ns : List Int}, IntsAre vs ns → Vals (ns.map V.int) vs
  | _, _, .nil => .nil
  | _, _, .cons n t h => .cons ⟨t, rfl⟩ (vals_ints h)
noncomputable def Only (H : Hp) : Prop := ∀ b, H b = none ∨ ∃ o xs, H b = some (.frz o (.lst xs))
theorem law_call {P : Program} {w : World} {K : PySem.W.Frag} {mg mb : Str → Option Value} {CX : CXT} {k : Nat} {fa a : Addr} {fd : FuncData} {x : Str} {sp : Sp} {s₁ : Shared} {vs : List Value} {ns : List Int}
    (KX : K.In s₁.heap) (hns : s₁.heap.Ns mainGlobals mg) (hb : s₁.heap.Ns builtinsNs mb) (hbb : ∀ x : Str, x ≠ "__name__" → mb x = bootBuiltins x) (hlim : s₁.heap.NoLimit) (hg : s₁.gens = #[])
    (ha : s₁.heap.get? a = some { cls := .type "list", data := .seq vs.toArray }) (hi : IntsAre vs ns) (hl : ns.length ≤ sizeLine) (hr : Room k callerA)
    (F : ∀ base : Heap, K.In base → base.Ns mainGlobals mg → FnOk P w K mg base CX k fa fd [x] sp) (hbind : ∀ (s : Shared) (u : Value), BindsTo s fd ⟨[u], []⟩ [(x, u)])
    (hsp : ∀ H : Hp, Only H → SqL K H a (ns.map V.int) → sp [.ref a] H (fun v _ => v = .bl true) fun _ _ _ => False)
    (hCX : ∀ H e s', CX [] H s₁ (fun _ _ _ => False) e s' → False) :
    codeAny (model P w) callerA (.call (.ref fa) ⟨[.ref a], []⟩) (fun r s' => r = .ok (.ret (.bool true)) ∧ OldK s₁.heap s'.heap ∧ s'.os = s₁.os ∧ AllBare s'.gens) s₁ := by
  have rv := vals_ints hi
  have lenV := hi.length
  -- from an abstract heap in which nothing but the script may be tracked
  have core : ∀ H : Hp, Only H → SqL K H a (ns.map V.int) → HOk P w H s₁.heap → (∀ b, H b ≠ none → b = a) → (H a ≠ none → K.lookup a = none) →
      codeAny (model P w) callerA (.call (.ref fa) ⟨[.ref a], []⟩) (fun r s' => r = .ok (.ret (.bool true)) ∧ OldK s₁.heap s'.heap ∧ s'.os = s₁.os ∧ AllBare s'.gens) s₁ := by
    intro H hO hS hok hA hK
    have base_of : ∀ {b : Addr} {o : Obj}, s₁.heap.get? b = some o → H b = none → (hidT s₁.heap H).get? b = some o := fun e n => hidT_get e n
    have noA : ∀ {b : Addr} {o : Obj} {es : Array DictEntry} {ep : Nat}, s₁.heap.get? b = some o → o.data = .dict es ep → H b = none := fun {b o es ep} e d => by
      cases q : H b with
      | none => rfl
      | some u =>
        have e' : b = a := hA b (by rw [q]; simp)
        subst e'
        rw [ha] at e; cases e
        have d' : Data.seq vs.toArray _ = Data.dict es ep := d
        cases d'
    have nsK : ∀ {b : Addr} {m : Str → Option Value}, s₁.heap.Ns b m → (hidT s₁.heap H).Ns b m := fun {b m} ⟨o, es, ep, e, d, r⟩ => ⟨o, es, ep, base_of e (noA e d), d, r⟩
    have hKb : K.In (hidT s₁.heap H) := fun b o e => base_of (KX b o e) (by
      cases q : H b with
      | none => rfl
      | some u =>
        have e' : b = a := hA b (by rw [q]; simp)
        subst e'
        rw [hK (by rw [q]; simp)] at e; cases e)
    have hM : Mod K mg (hidT s₁.heap H) := ⟨hKb, nsK hns, ⟨mb, nsK hb, hbb⟩, let ⟨mc, h1, h2⟩ := hlim; ⟨mc, nsK h1, h2⟩⟩
    have e0 : Env0 P w K mg (hidT s₁.heap H) callerA [] s₁ H := ⟨rfl, hM, fun b o e => of_hidT e, Nat.le_of_eq (hidT_size _ _), trivial, fun b hb => absurd (show b ∈ ([] : List Addr) from hb) (by simp), hok, .of_eq hg⟩
    refine codeAny_mono ((F _ hKb (nsK hns)).run callerA [] s₁ H ⟨[.ref a], []⟩ [.ref a] [.ref a] _ _ hr e0 (hbind s₁ (.ref a)) (.cons rfl .nil) (hsp H hO hS)) fun r s' h => ?_
    cases r with
    | error e => exact (hCX H e s' h).elim
    | ok fl =>
      cases fl with
      | next => exact False.elim h
      | brk => exact False.elim h
      | cont => exact False.elim h
      | ret u =>
        obtain ⟨v, H', os, bare, un, hok', r', q⟩ := h
        have q' : v = .bl true := q
        subst q'
        obtain rfl : u = Value.bool true := r'
        refine ⟨rfl, OldK.of_keep fun b o e => ?_, os, bare⟩
        cases q : H b with
        | none => exact un.keep b o e q (by intro z; exact absurd (show b ∈ ([] : List Addr) from z) (by simp)) (by simp)
        | some u =>
          rcases hO b with z | ⟨ob, xs, z⟩
          · rw [q] at z; cases z
          · have z2 := un.frzs b ob _ z
            obtain ⟨e1, _⟩ := hok b _ z
            obtain ⟨e2, _⟩ := hok' b _ z2
            rw [e] at e1; cases e1
            exact e2
  cases hk : K.lookup a with
  | some o =>
    -- the script is one of the module's own objects
    have e := KX a o hk
    rw [ha] at e
    cases e
    refine core (fun _ => none) (fun _ => .inl rfl) (.inr ⟨_, vs.toArray, _, hk, rfl, rfl, rfl, by rw [List.size_toArray, lenV]; exact hl, by simpa using rv⟩) (fun b u z => by have z' : (none : Option HO) = some u := z; cases z') (fun b z => absurd rfl z) fun z => absurd rfl z
  | none =>
    refine core (fun b => if b = a then some (.frz { cls := .type "list", data := .seq vs.toArray } (.lst (ns.map V.int))) else none) (fun b => ?_) (.inl (.inr ⟨{ cls := .type "list", data := .seq vs.toArray }, if_pos rfl⟩)) (fun b u z => ?_) (fun b z => ?_) fun _ => hk
    · by_cases hb : b = a
      · exact .inr ⟨_, _, if_pos hb⟩
      · exact .inl (if_neg hb)
    · by_cases hb : b = a
      · have z' := (if_pos hb).symm.trans z
        cases z'
        subst hb
        exact ⟨ha, by rw [List.length_map]; exact hl, vs, _, rv, ha⟩
      · have z' := (if_neg hb).symm.trans z
        cases z'
    · by_cases hb : b = a
      · exact hb
      · exact absurd (if_neg hb) z
end L2
namespace L2
open PySem PySem.Spec PyProof.Rows
theorem walk_of {l : PySem.W.OpenLaw} {n k : Nat} {q : Program} {loose : List Str} {XP : (Str → Option Value) → Heap → Prop} {YP : World → Heap → Prop} {d : DefRec} {K : Params → PySem.W.Frag} {CX : World → CXT} {sp : World → Sp} {x : Str}
    (hn : l.most = some n) (hn2 : n ≤ sizeLine) (hdf : d.params.defaults = []) (hr : Room k callerA)
    (hY : ∀ (w : World) (h : Heap), YP w h → (K w.params).In h)
    (F : ∀ (w : World) (mg : Str → Option Value) (fa : Addr) (h : Heap), (K w.params).In h → h.Ns mainGlobals mg → mg d.name = some (.ref fa) →
      ∃ fd : FuncData, (∀ (s : Shared) (u : Value), BindsTo s fd ⟨[u], []⟩ [(x, u)]) ∧
        ∀ base : Heap, (K w.params).In base → base.Ns mainGlobals mg → FnOk l.prog w (K w.params) mg base (CX w) k fa fd [x] (sp w))
    (hsp : ∀ (w : World) (H : Hp) (a : Addr) (ns : List Int), ns.length ≤ n → Only H → SqL (K w.params) H a (ns.map V.int) → sp w [.ref a] H (fun v _ => v = .bl true) fun _ _ _ => False)
    (hCX : ∀ (w : World) (H : Hp) (s : Shared) (e : Value) (s' : Shared), CX w [] H s (fun _ _ _ => False) e s' → False) :
    PySem.W.WalkO q loose XP YP l.row.toRowW d [] (fun f vs => PySem.call f vs) := by
  refine Att.attach_call hn hdf fun w s₀ s₁ mg mb fa o pm cd doc a vs ns G Y ho hd hcd hmg hobj hints hlen hg => ?_
  have KX := hY w _ Y
  obtain ⟨fd, hb, hF⟩ := F w mg fa _ KX G.T.g hmg
  exact law_call KX G.T.g G.T.b G.T.builtins G.T.nolimit hg hobj hints (Nat.le_trans hlen hn2) hr hF hb (fun H hO hS => hsp w H a ns hlen hO hS) fun H e s' => hCX w H s₁ e s'
end L2
namespace L2
open PySem PySem.Spec PyProof.Rows
noncomputable def defArgs (s : Stmt) : Arguments := match s with
  | .FunctionDef _ a _ _ _ _ _ _ _ _ => a
  | _ => { posonlyargs := [], args := [], vararg := none, kwonlyargs := [], kw_defaults := [], kwarg := none, defaults := [] }
noncomputable def defBody (s : Stmt) : List Stmt := match s with
  | .FunctionDef _ _ b _ _ _ _ _ _ _ => b
  | _ => []
noncomputable def defScope (s : Stmt) : Scope := match s with
  | .FunctionDef _ _ _ _ _ _ sc _ _ _ => sc
  | _ => { kind := .function, names := [], isGenerator := false, isCoroutine := false }
noncomputable abbrev CX0 : CXT := fun _ _ _ _ _ _ => False
noncomputable abbrev E0 : XK := fun _ _ _ => False
theorem pass0 {X : Cx} : Passes CX0 X E0 := fun _ _ _ _ _ _ _ h => h.elim
structure Fun (K : PySem.W.Frag) (x qual : Str) (st : Stmt) (f : Addr) (fd : FuncData) : Prop where
  ex : ∃ (oc : Value) (od : Option Addr) (kV doc pm : Value) (an : Option Addr) (cdv ct : Value) (osl : Array (Option Value)),
    fd = PySem.W.fnOf x qual (defArgs st) (defBody st) (defScope st) .none kV doc pm an cdv ct ∧ K.lookup f = some ⟨oc, od, .func fd, osl⟩ ∧ PySem.W.codeIn K cdv qual = true
  kp : PySem.W.keepIn K (.ref f) = true
section
variable {P : Program} {w : World} {K : PySem.W.Frag} {mg : Str → Option Value} {base : Heap}
theorem Fun.ok {x qual : Str} {st : Stmt} {f : Addr} {fd : FuncData} {N ps : List Str} {k : Nat} {sp : Sp} (F : Fun K x qual st f fd) (S : FnScope N ps (defScope st)) (len : ∀ vs H Q E, sp vs H Q E → vs.length = ps.length)
    (hbody : ∀ (cdv : Value) (A : Around) (outer : List Env) (s : Shared) (H : Hp) (vs : List V) (Q : VK) (E : XK), Room k (A.deeper (envOfC qual (defScope st) s.heap.objs.size f cdv)) → sp vs H Q E →
      ∃ t, PSs (cxOf CX0 P w K mg base N qual (defScope st) f cdv A outer s H E).nox (defBody st) t ∧ t { nx := fun _ H' => Q .non H', rt := Q } (start N vs) H) : FnOk P w K mg base CX0 (k + 1) f fd ps sp := by
  obtain ⟨oc, od, kV, doc, pm, an, cdv, ct, osl, rfl, lk, hcd⟩ := F.ex
  refine fn_of lk hcd S len fun A outer s H vs Q E hr hsp => ?_
  obtain ⟨t, h, q⟩ := hbody cdv A outer s H vs Q E hr hsp
  exact ⟨t, h.nox, q⟩
theorem Fun.binds {x qual : Str} {st : Stmt} {f : Addr} {fd : FuncData} {ps : List Str} (F : Fun K x qual st f fd)
    (h : ∀ (kV doc pm : Value) (an : Option Addr) (cdv ct : Value) (us : List Value), us.length = ps.length → bindArgs (PySem.W.fnOf x qual (defArgs st) (defBody st) (defScope st) .none kV doc pm an cdv ct) ⟨us, []⟩ = pure (ps.zip us)) : Binds K fd ps [] := by
  obtain ⟨oc, od, kV, doc, pm, an, cdv, ct, osl, rfl, lk, hcd⟩ := F.ex
  exact .all (h kV doc pm an cdv ct)
theorem fun_mk {x qual : Str} {st : Stmt} {f : Addr} {oc : Value} {od an : Option Addr} {osl : Array (Option Value)} {kV doc pm cdv ct : Value} (l : K.lookup f = some ⟨oc, od, .func (PySem.W.fnOf x qual (defArgs st) (defBody st) (defScope st) .none kV doc pm an cdv ct), osl⟩)
    (c : PySem.W.codeIn K cdv qual = true) (k : PySem.W.keepIn K (.ref f) = true) : Fun K x qual st f (PySem.W.fnOf x qual (defArgs st) (defBody st) (defScope st) .none kV doc pm an cdv ct) := ⟨⟨oc, od, kV, doc, pm, an, cdv, ct, osl, rfl, l, c⟩, k⟩
end
section
variable {X : Cx}
theorem pv (i : Nat) {x : Str} {pos : Pos} (hN : X.N[i]? = some x := by rfl) (hv : Vis X.env.scope x := by first | exact Or.inl rfl | exact Or.inr (Or.inl rfl) | exact Or.inr (Or.inr rfl)) (hd : (x == ("__debug__" : Str)) = false := by decide)
    (hcd : (x == ("__classdict__" : Str)) = false := by decide) : PE X (.Name x pos) (tVar i) := pe_var hN hv hd hcd
end
theorem iteF {A B : Prop} (h : B) : if false = true then A else B := by
  rw [if_neg Bool.false_ne_true]
  exact h
theorem iteT {A B : Prop} (h : A) : if true = true then A else B := by
  rw [if_pos rfl]
  exact h
noncomputable def Same (H H' : Hp) : Prop := ∀ b o, H b = some o → H' b = some o
theorem Same.refl (H : Hp) : Same H H := fun _ _ h => h
theorem Same.trans {H H1 H2 : Hp} (a : Same H H1) (b : Same H1 H2) : Same H H2 := fun c o h => b c o (a c o h)
theorem Same.free {H H' : Hp} (e : Same H H') {l : Addr} (h : H' l = Option.none) : H l = Option.none := by
  cases q : H l with
  | none => rfl
  | some o =>
    rw [e l o q] at h
    cases h
theorem Same.seq {K : PySem.W.Frag} {H H' : Hp} {a : Addr} {xs : List V} (e : Same H H') (h : SqL K H a xs) : SqL K H' a xs := by
  rcases h with (h | ⟨o, h⟩) | h
  · exact .inl (.inl (e _ _ h))
  · exact .inl (.inr ⟨o, e _ _ h⟩)
  · exact .inr h
end L2
set_option Elab.async false
set_option linter.all false
set_option maxRecDepth 100000
set_option maxHeartbeats 4000000
namespace L2
open PySem PySem.Spec PyProof.Rows
section
variable {X : Cx} {pins : List (Addr × Obj)} {σ : St} {H : Hp} {s : Shared}
theorem Inv.track {d : Addr} {o : HO} (I : Inv X pins σ H s) (hn : H d = none) (hy : X.s₀.heap.objs.size ≤ d) (hL : d ≠ X.env.locals) (hc : ∀ x c, X.env.cells.lookup x = some c → c ≠ d)
    (hp : ∀ p ∈ X.pn ++ pins, p.1 ≠ d) (new : ObjOk X.prog X.w (upd H d o) s.heap d o) : Inv X pins σ (upd H d o) s := by
  have old : ∀ b ob, X.s₀.heap.get? b = some ob → b ≠ d := fun b ob e => Nat.ne_of_lt (Nat.lt_of_lt_of_le (Heap.lt_size e) hy)
  have was : ∀ b u, H b = some u → b ≠ d := fun b u e => ne_of_none e hn
  refine ⟨I.ok, I.os, I.bare, ⟨I.base.keep, I.base.slot, fun b ob e n hx => ?_, I.base.there, fun b xs e => ?_, fun b ob u e => ?_, fun b ps e => ?_⟩, I.loc, I.cell, ?_, fun x c e => ?_, fun p z => ?_, fun b u e => ?_, I.len⟩
  · rw [upd_ne (old b ob e)]; exact I.base.free b ob e n hx
  · have q := I.base.tups b xs e
    rw [upd_ne (was b _ q)]; exact q
  · have q := I.base.frzs b ob u e
    rw [upd_ne (was b _ q)]; exact q
  · obtain ⟨m, q⟩ := I.base.tbls b ps e
    exact ⟨m, by rw [upd_ne (was b _ q)]; exact q⟩
  · rw [upd_ne (Ne.symm hL)]; exact I.free
  · rw [upd_ne (hc x c e)]; exact I.freeC x c e
  · obtain ⟨e, n, r⟩ := I.pin p z
    exact ⟨e, by rw [upd_ne (hp p z)]; exact n, r⟩
  · by_cases hb : b = d
    · subst hb
      rw [upd_same] at e
      cases e
      exact new
    · rw [upd_ne hb] at e
      refine (I.hok b u e).stay (fun c v _ q => q) (fun c q => ?_) fun c xs q => ?_
      · rw [upd_ne (was c _ q)]; exact q
      · rw [upd_ne (was c _ q)]; exact q
end
theorem closure_of {env : Env} : ∀ (names : List (Str × NameKind)) (acc : List (Str × Addr)), (∀ y ∈ names, y.2 = .free → ∃ c, env.cells.lookup y.1 = some c) →
    ∃ cl, (forIn names acc fun (p : Str × NameKind) (cs : List (Str × Addr)) => (if (p.2 == NameKind.free) = true then do let c ← cellOf env p.1; pure (ForInStep.yield ((p.1, c) :: cs)) else pure (ForInStep.yield cs) : Sem (ForInStep (List (Str × Addr))))) = pure cl ∧
      (∀ x c, cl.lookup x = some c → acc.lookup x = some c ∨ env.cells.lookup x = some c) ∧ (∀ x c, acc.lookup x = some c → ∃ c', cl.lookup x = some c') ∧ ∀ y ∈ names, y.2 = .free → ∃ c, cl.lookup y.1 = some c
  | [], acc, _ => ⟨acc, rfl, fun _ _ h => .inl h, fun _ c h => ⟨c, h⟩, fun _ h => nomatch h⟩
  | (n, k) :: r, acc, hh => by
    by_cases hk : k = .free
    · subst hk
      obtain ⟨c, hc⟩ := hh (n, .free) List.mem_cons_self rfl
      obtain ⟨cl, e, h1, h2, h3⟩ := closure_of (env := env) r ((n, c) :: acc) fun y hy => hh y (List.mem_cons_of_mem _ hy)
      have ec : cellOf env n = pure c := by
        unfold cellOf
        rw [hc]
      have here : ∃ c', cl.lookup n = some c' := h2 n c (by simp [List.lookup_cons])
      refine ⟨cl, ?_, fun x d q => ?_, fun x d q => ?_, fun y hy hf => ?_⟩
      · rw [List.forIn_cons]
        simp only [beq_self_eq_true, if_true, ec, pure_bind]
        exact e
      · rcases h1 x d q with z | z
        · rw [List.lookup_cons] at z
          by_cases hx : x = n
          · subst hx
            simp only [beq_self_eq_true] at z
            cases z
            exact .inr hc
          · rw [beq_eq_false_iff_ne.mpr hx] at z
            exact .inl z
        · exact .inr z
      · by_cases hx : x = n
        · subst hx; exact here
        · exact h2 x d (by rw [List.lookup_cons, beq_eq_false_iff_ne.mpr hx]; exact q)
      · rcases List.mem_cons.mp hy with rfl | hy
        · exact here
        · exact h3 y hy hf
    · obtain ⟨cl, e, h1, h2, h3⟩ := closure_of (env := env) r acc fun y hy => hh y (List.mem_cons_of_mem _ hy)
      refine ⟨cl, ?_, h1, h2, fun y hy hf => ?_⟩
      · rw [List.forIn_cons]
        have hb : (k == NameKind.free) = false := by simpa using hk
        simp only [hb, Bool.false_eq_true, if_false, pure_bind]
        exact e
      · rcases List.mem_cons.mp hy with rfl | hy
        · exact absurd hf hk
        · exact h3 y hy hf
theorem closure_some {env : Env} {scope : Scope} (hh : ∀ y ∈ scope.names, y.2 = .free → ∃ c, env.cells.lookup y.1 = some c) :
    ∃ cl, closureFor scope env = pure cl ∧ (∀ x c, cl.lookup x = some c → env.cells.lookup x = some c) ∧ ∀ y ∈ scope.names, y.2 = .free → ∃ c, cl.lookup y.1 = some c := by
  obtain ⟨cl, e, h1, _, h3⟩ := closure_of (env := env) scope.names [] hh
  refine ⟨cl, ?_, fun x c q => (h1 x c q).elim (fun z => by simp at z) id, h3⟩
  unfold closureFor
  simp only [bind_pure]
  exact e
noncomputable def cxB (X : Cx) (N : List Str) (scope : Scope) (s : Shared) (H : Hp) (C : Addr) (cl : List (Str × Addr)) (fp : List Addr) : Cx where
  prog := X.prog
  w := X.w
  K := X.K
  mg := X.mg
  base := X.base
  A := X.A
  N := N
  s₀ := s
  H₀ := H
  env := compEnvC scope cl C X.env
  outer := X.stack
  stack := X.stack
  ex := fp
  fn := fun _ => false
  calm := X.calm
  pn := []
  xe := fun _ _ => False
noncomputable def caps (n : Nat) (js : List Nat) (σ : St) : St := List.replicate n none ++ js.map fun j => (σ[j]?).join
noncomputable def Own (n : Nat) (g : TG) : Prop := ∀ v σ H Q, g v σ H Q → g v σ H fun σ2 H2 => Q σ2 H2 ∧ σ2.length = σ.length ∧ ∀ i, n ≤ i → σ2[i]? = σ[i]?
theorem own_name {n i : Nat} (h : i < n) : Own n (gName i) := fun v σ H Q q => ⟨q, by simp, fun j hj => by rw [List.getElem?_set_ne (by omega)]⟩
theorem own_tup2 {K : PySem.W.Frag} {n i j : Nat} (hi : i < n) (hj : j < n) : Own n (gTup K 2 (gCons (gName i) (gCons (gName j) gNil))) := fun v σ H Q q => by
  obtain ⟨a, xs, e, h, hl, x, r, e1, y, r2, e2, e3, q⟩ := q
  exact ⟨a, xs, e, h, hl, x, r, e1, y, r2, e2, e3, q, by simp, fun k hk => by rw [List.getElem?_set_ne (by omega), List.getElem?_set_ne (by omega)]⟩
noncomputable def PIf (X : Cx) (ifs : List Expr) (t : TT) : Prop :=
  ∀ (pins : List (Addr × Obj)) (s : Shared) (σ : St) (H : Hp) (Q : Bool → Hp → Prop), Inv X pins σ H s → t σ H Q →
    wpAny (model X.prog X.w) X.A (forIn ifs true fun c r => if r = true then do let ok ← isTrue c X.env (eval c X.env); pure (ForInStep.yield ok) else pure (ForInStep.yield r)) (TP X pins σ Q) X.xe s
noncomputable def tYes : TT := fun _ H Q => Q true H
theorem pif_nil {X : Cx} : PIf X [] tYes := fun _ _ _ H _ I h => wpAny_tests_nil ⟨H, I, h⟩
noncomputable def cGo (g : TG) (tt : TT) (te : TE) (σ0 : St) (Fin : List V → Hp → Prop) (J : It) (H1 : Hp) : Prop :=
  ∃ W : Nat → Nat → List V → Hp → Prop, (∃ m, W 0 m [] H1) ∧ ∀ i m ys H2, W i m ys H2 →
    (J.stop i H2 ∧ ys.length ≤ sizeLine ∧ Fin ys H2) ∨
    (J.go i H2 ∧ ys.length < sizeLine ∧ ∃ N : List V → Hp → Prop, (∀ ys' H', N ys' H' → ∃ m', m' < m ∧ W (i + 1) m' ys' H') ∧ ∀ x H3, J.yld i H2 x H3 → g x σ0 H3 fun σ4 H4 => tt σ4 H4 fun b H5 =>
      if b = true then te σ4 H5 fun y H6 => N (ys ++ [y]) H6 else N ys H5)
noncomputable def tComp (n : Nat) (js : List Nat) (wi : TI) (g : TG) (tt : TT) (te : TE) : TE := fun σ H Q =>
  wi σ H (cGo g tt te (caps n js σ) fun ys H2 => ∀ D, H2 D = none → Q (.ref D) (upd H2 D (.lst ys)))
noncomputable def sComp (k n : Nat) (js : List Nat) (wi : TI) (g : TG) (tt : TT) (te : TE) : TS := fun E σ H =>
  wi σ H (cGo g tt te (caps n js σ) fun ys H2 => ∀ D, H2 D = none → E.nx (σ.set k (some (.ref D))) (upd H2 D (.lst ys)))
theorem comp_loop {prog : Program} {w : World} {A : Around} {R : Result → Shared → Prop} {s : Shared} {elt target iter : Expr} {ifs : List Expr} {scope : Scope} {pos : Pos} {it acc : Value} {env : Env} (I : Nat → Shared → Prop)
    (turn : ∀ n s, I n s → wpAny (model prog w) A (pyNext it) (fun r s₁ => (r = none ∧ R (.ok .next) s₁) ∨ ∃ v, r = some v ∧ wpAny (model prog w) A (letOwnedTupleGo target it v) (fun _ s₀ =>
      wpAny (model prog w) A (assign target env v) (fun _ s₂ =>
        wpAny (model prog w) A (forIn ifs true fun c r => if r = true then do let ok ← isTrue c env (eval c env); pure (ForInStep.yield ok) else pure (ForInStep.yield r)) (fun ok s₃ =>
          if ok = true then wpAny (model prog w) A (eval elt env) (fun x s₄ => wpAny (model prog w) A (call (.builtin "list.append") [acc, x]) (fun _ s₅ => ∃ m, m < n ∧ I m s₅) (fun _ _ => False) s₄) (fun _ _ => False) s₃
          else ∃ m, m < n ∧ I m s₃) (fun _ _ => False) s₂) (fun _ _ => False) s₀) (fun _ _ => False) s₁) (fun _ _ => False) s)
    (n : Nat) (h : I n s) : codeAny (model prog w) A (.compLoop (.ListComp elt [⟨target, iter, ifs, 0⟩] scope pos) 0 it acc env) R s := by
  have no : ∀ {E : Value → Shared → Prop} (x : Value) (z : Shared), False → E x z := fun _ _ f => f.elim
  refine codeAny_loop rfl I (fun n s hI => ?_) n h
  show wpAny _ A ((compTurn (.ListComp elt [⟨target, iter, ifs, 0⟩] scope pos) 0 it acc env).onRaise (fun x => do noteFrame x env; theTreesLotGoes x)) _ _ s
  refine wpAny_noted ?_
  rw [compTurn_list]
  refine wpAny_bind (wpAny_standAt (wpAny_bind (wpAny_mono (turn n s hI) (fun r s₁ h₁ => ?_) no)))
  rcases h₁ with ⟨e, h₁⟩ | ⟨v, e, h₁⟩
  · subst e
    exact wpAny_pure h₁
  · subst e
    refine wpAny_bind (wpAny_mono h₁ (fun _ s₀ h₀ => wpAny_bind (wpAny_mono h₀ (fun _ s₂ h₂ => wpAny_bind (wpAny_mono h₂ (fun ok s₃ h₃ => ?_) no)) no)) no)
    cases ok with
    | false => exact wpAny_pure ⟨rfl, h₃⟩
    | true =>
      have q : wpAny (model prog w) A (eval elt env) _ _ s₃ := h₃
      exact wpAny_bind (wpAny_bind (wpAny_mono q (fun x s₄ h₄ => wpAny_bind (wpAny_mono h₄ (fun _ s₅ h₅ => wpAny_pure (wpAny_pure ⟨rfl, h₅⟩)) no)) no))
noncomputable def compOk (sc : Scope) (N0 N : List Str) (n : Nat) (js : List Nat) (scope : Scope) : Bool :=
  decide (scope.kind = .function) && scope.names.all (fun y => decide (y.2 ≠ .cell)) && scope.names.all (fun y => decide (y.2 ≠ .free) || decide (sc.names.lookup y.1 = some .cell) || decide (sc.names.lookup y.1 = some .free)) &&
  scope.names.all (fun y => decide (y.2 ≠ .local) || decide (scope.names.lookup y.1 = some .local)) && decide (js.map (fun j => N0[j]?) = (N.drop n).map some) &&
  (N.drop n).all (fun x => decide (sc.names.lookup x = some .cell) || decide (sc.names.lookup x = some .free)) && (N.drop n).all (fun x => decide (scope.names.lookup x = some .free)) && decide (n + js.length = N.length)
theorem relabel_free {env : Env} : ∀ {names : List (Str × NameKind)} {x : Str}, (names.map fun (n, k) => if (k == NameKind.free && env.scope.kind == .function && env.kindOf n == some .cell) then (n, NameKind.cell) else (n, k)).lookup x = some .cell ∨
    (names.map fun (n, k) => if (k == NameKind.free && env.scope.kind == .function && env.kindOf n == some .cell) then (n, NameKind.cell) else (n, k)).lookup x = some .free → (∀ y ∈ names, y.2 ≠ .cell) → ∃ y ∈ names, y.1 = x ∧ y.2 = .free
  | [], _, h, _ => by rcases h with h | h <;> simp at h
  | (n, k) :: r, x, h, hc => by
    have ih := @relabel_free env r x
    by_cases hx : x = n
    · subst hx
      refine ⟨(x, k), List.mem_cons_self, rfl, ?_⟩
      have hk : k ≠ .cell := hc (x, k) List.mem_cons_self
      by_cases hf : k = .free
      · exact hf
      · exfalso
        have hb : (k == NameKind.free) = false := by simpa using hf
        simp only [List.map_cons, hb, Bool.false_and, Bool.false_eq_true, if_false, List.lookup_cons, beq_self_eq_true] at h
        rcases h with h | h
        · exact hk (Option.some.inj h)
        · exact hf (Option.some.inj h)
    · have hb : (x == n) = false := beq_eq_false_iff_ne.mpr hx
      have step : ∀ (q : Str × NameKind) (l : List (Str × NameKind)), q.1 = n → List.lookup x (q :: l) = List.lookup x l := fun q l e => by
        obtain ⟨a, b⟩ := q
        have e' : a = n := e
        subst e'
        rw [List.lookup_cons, hb]
      have nm : (if (k == NameKind.free && env.scope.kind == .function && env.kindOf n == some .cell) then (n, NameKind.cell) else (n, k)).1 = n := by split <;> rfl
      rw [List.map_cons, step _ _ nm] at h
      obtain ⟨y, hy, r1, r2⟩ := ih h fun y hy => hc y (List.mem_cons_of_mem _ hy)
      exact ⟨y, List.mem_cons_of_mem _ hy, r1, r2⟩
theorem mem_of_lookup {x : Str} {k : NameKind} : ∀ {l : List (Str × NameKind)}, l.lookup x = some k → (x, k) ∈ l
  | [], h => by simp at h
  | (a, b) :: r, h => by
    rw [List.lookup_cons] at h
    by_cases hx : x = a
    · subst hx
      simp only [beq_self_eq_true] at h
      cases h
      exact List.mem_cons_self
    · rw [beq_eq_false_iff_ne.mpr hx] at h
      exact List.mem_cons_of_mem _ (mem_of_lookup h)
theorem relabel_notlocal {env : Env} {x : Str} : ∀ (l : List (Str × NameKind)), l.lookup x = some .free → (l.map fun (n, k) => if (k == NameKind.free && env.scope.kind == .function && env.kindOf n == some .cell) then (n, NameKind.cell) else (n, k)).lookup x ≠ some .local
  | [], q => by simp at q
  | (a, b) :: r, q => fun z => by
    rw [List.lookup_cons] at q
    by_cases hx : x = a
    · subst hx
      simp only [beq_self_eq_true] at q
      cases q
      rw [List.map_cons] at z
      dsimp only at z
      split at z
      · simp [List.lookup_cons] at z
      · simp [List.lookup_cons] at z
    · rw [beq_eq_false_iff_ne.mpr hx] at q
      refine relabel_notlocal (env := env) r q ?_
      by_cases hc : (b == NameKind.free && env.scope.kind == .function && env.kindOf a == some .cell) = true
      · simp only [List.map_cons, if_pos hc, List.lookup_cons, beq_eq_false_iff_ne.mpr hx] at z
        exact z
      · simp only [List.map_cons, if_neg hc, List.lookup_cons, beq_eq_false_iff_ne.mpr hx] at z
        exact z
theorem caps_len (n : Nat) (js : List Nat) (σ : St) : (caps n js σ).length = n + js.length := by simp [caps]
theorem caps_own {n : Nat} {js : List Nat} {σ : St} {i : Nat} (h : i < n) : (caps n js σ)[i]? = some none := by
  unfold caps
  rw [List.getElem?_append_left (by simpa using h), List.getElem?_replicate, if_pos h]
theorem caps_cap {n : Nat} {js : List Nat} {σ : St} {i : Nat} {v : V} (h : n ≤ i) (e : (caps n js σ)[i]? = some (some v)) : ∃ j, js[i - n]? = some j ∧ σ[j]? = some (some v) := by
  unfold caps at e
  rw [List.getElem?_append_right (by simpa using h), List.length_replicate, List.getElem?_map] at e
  cases q : js[i - n]? with
  | none => rw [q] at e; cases e
  | some j =>
    rw [q] at e
    refine ⟨j, rfl, ?_⟩
    have e' : (σ[j]?).join = some v := Option.some.inj e
    cases z : σ[j]? with
    | none => rw [z] at e'; cases e'
    | some o => rw [z] at e'; exact congrArg some e'
section
variable {X : Cx} {tg elt iter : Expr} {ifs : List Expr} {scope : Scope} {pos : Pos} {N N0 : List Str} {n : Nat} {js : List Nat} {sc : Scope} {g : TG} {tt : TT} {te : TE}
theorem comp_block {pins : List (Addr × Obj)} {σ : St} {H : Hp} {s : Shared} {it : Addr} {fp : List Addr} {tn : Nat → Heap → Prop} {J : It} {cl : List (Str × Addr)} {Fin : List V → Hp → Prop} {RR : Value → Addr → Result → Shared → Prop} {E : Value → Shared → Prop}
    (hc : X.calm = true) (hsc : X.env.scope = sc) (hN0 : X.N = N0) (ok : compOk sc N0 N n js scope = true)
    (hg : ∀ s H C cl fp, PG (cxB X N scope s H C cl fp) tg g) (hgo : Own n g) (ht : ∀ s H C cl fp, PIf (cxB X N scope s H C cl fp) ifs tt) (he : ∀ s H C cl fp, PE (cxB X N scope s H C cl fp) elt te)
    (I : Inv X pins σ H s) (T : Turn X.prog X.w X.K tg J fp it tn) (st : tn 0 s.heap) (fo : ∀ b ∈ fp, FpOk X pins H b)
    (hcl : ∀ x c, cl.lookup x = some c → X.env.cells.lookup x = some c) (hcl2 : ∀ y ∈ scope.names, y.2 = .free → ∃ c, cl.lookup y.1 = some c)
    (G : cGo g tt te (caps n js σ) Fin J H)
    (k : ∀ (D C : Addr) (oC : Obj) (m : Str → Option Value) (ys : List V) (H' : Hp) (s' : Shared), Inv X (pins ++ [(C, oC)]) σ (upd H' D (.lst ys)) s' → H' D = none → s'.heap.Ns C m → X.s₀.heap.objs.size ≤ C → C ≠ X.env.locals → (∀ x c, X.env.cells.lookup x = some c → c ≠ C) →
      (∀ p ∈ X.pn ++ pins, p.1 ≠ C) → upd H' D (.lst ys) C = none → Fin ys H' → RR (.ref D) C (.ok .next) s') :
    wpAny (model X.prog X.w) X.A (newList []) (fun acc s₃ => wpAny (model X.prog X.w) X.A (newFunctionEnv scope X.env.globals cl [] X.env.qual none .none (some X.env)) (fun cenv s₄ =>
      codeAny (model X.prog X.w) X.A (.compStart (.ListComp elt [⟨tg, iter, ifs, 0⟩] scope pos) 0 (.ref it) acc { cenv with scope := relabel scope X.env }) (RR acc cenv.locals) s₄) E s₃) E s := by
  simp only [compOk, Bool.and_eq_true, decide_eq_true_eq, List.all_eq_true, Bool.or_eq_true] at ok
  obtain ⟨⟨⟨⟨⟨⟨⟨kind, cell⟩, free⟩, nms⟩, cap⟩, lc⟩, lf⟩, len⟩ := ok
  subst hN0 hsc
  refine wpAny_newObj_type (wpAny_newFunctionEnv cell (by intro y hy; simp at hy) (fun h1 ns1 sb1 => ?_) kind)
  dsimp only at ns1 sb1 ⊢
  generalize eG : s.heap.push { cls := .type "list", dict := none, data := .seq ([] : List Value).toArray } = G2 at ns1 sb1 ⊢
  have eC : G2.objs.size = s.heap.objs.size + 1 := by rw [← eG, Heap.size_push]
  generalize eCC : G2.objs.size = C at ns1 sb1 eC ⊢
  generalize eD : s.heap.objs.size = D at eC ⊢
  have ltD : ∀ b o, s.heap.get? b = some o → b < D := fun b o e => eD ▸ Heap.lt_size e
  have DC : D ≠ C := by rw [eC]; exact Nat.ne_of_lt (Nat.lt_succ_self _)
  have bC : ∀ b : Nat, b < D → b ≠ C := fun b hb z => by rw [z, eC] at hb; exact absurd hb (Nat.not_lt.mpr (Nat.le_succ _))
  have old : ∀ b o, s.heap.get? b = some o → h1.get? b = some o := fun b o e => by
    have hb := ltD b o e
    refine sb1.extBut b o (bC b hb) (Heap.get?_push_of_some _ ?_)
    rw [← eG]
    exact Heap.get?_push_of_some _ e
  have accD : h1.get? D = some { cls := .type "list", data := .seq ([] : List Value).toArray 0 } := by
    refine sb1.extBut _ _ DC (Heap.get?_push_of_some _ ?_)
    rw [← eG, ← eD]
    exact Heap.get?_push_size _ rfl
  have freeD : H D = none := I.hok.fresh (by rw [eD]; exact Nat.le_refl _)
  have freeC : H C = none := I.hok.fresh (by rw [eD, eC]; exact Nat.le_succ _)
  have fpD : ∀ b ∈ fp, b < D := fun b hb => let ⟨o, e, _⟩ := T.obj 0 _ st b hb; ltD b o e
  have cellD : ∀ x c, X.env.cells.lookup x = some c → c < D := fun x c e => let ⟨v, o, ho, _⟩ := I.cell x c e; ltD c o ho
  have pinD : ∀ p ∈ X.pn ++ pins, p.1 < D := fun p hp => ltD _ _ (I.pin p hp).1
  have stkD : ∀ b ∈ frs X.stack, b < D := fun b hb => by
    rcases List.mem_cons.mp (I.stkSub b hb) with e | z
    · subst e; rw [← eD]; exact I.lt
    · obtain ⟨_, o, ho, _⟩ := I.ok.funs.mem z
      rw [← eD]
      exact Nat.lt_of_lt_of_le (Heap.lt_size ho) I.sz
  have fpS : ∀ b ∈ fp, b ∉ frs X.stack := fun b hb z => by
    obtain ⟨_, f1, f2, _⟩ := fo b hb
    rcases List.mem_cons.mp (I.stkSub b z) with e | q
    · exact f1 e
    · exact f2 q
  have kindB : (compEnvC scope cl C X.env).scope.kind = .function := kind
  have okB : (cxB X N scope s H C cl fp).Ok := {
    mod := I.ok.mod
    kind := kind
    glob := I.ok.glob
    blt := I.ok.blt
    above := by show s.heap.objs.size ≤ C; rw [eD, eC]; exact Nat.le_succ _
    inj := fun x y c e1 e2 => I.ok.inj x y c (hcl x c e1) (hcl y c e2)
    has := fun x hx => by
      obtain ⟨y, hy, e, f⟩ := relabel_free (env := X.env) (names := scope.names) (x := x) hx cell
      subst e
      exact hcl2 y hy f
    cab := fun x c z => by cases z
    hd := I.ok.hd
    frames := I.ok.frames
    stk := .inl rfl
    exf := fun b hb => ⟨bC b (fpD b hb), fun x c e => (fo b hb).2.2.2.2.1 x c (hcl x c e)⟩
    bs := fun b o e => I.bs b o e
    bsz := Nat.le_trans I.ok.bsz I.sz
    noex := fun b o e hb => by
      rcases (fo b hb).2.2.2.1 with z | z
      · exact I.ok.noex b o e z
      · exact absurd (Nat.lt_of_lt_of_le (Heap.lt_size e) (Nat.le_trans I.ok.bsz z)) (Nat.lt_irrefl _)
    exfs := fpS
    funs := I.stack
    frf := I.stkFree }
  have upH : ∀ b o, s.heap.get? b = some o → h1.get? b = some o := old
  have IB : Inv (cxB X N scope s H C cl fp) [(D, { cls := .type "list", data := .seq ([] : List Value).toArray 0 })] (caps n js σ) H { s with heap := h1, toks := s.toks + ([] : List (Str × Value)).length } := by
    refine ⟨okB, rfl, I.bare, Un.kept old, ⟨_, ns1, fun i x v e1 e2 e3 => ?_⟩, fun x c e => ?_, freeC, fun x c e => I.freeC x c (hcl x c e), fun p hp => ?_, I.hok.kept old, ?_⟩
    · have hi : n ≤ i := by
        by_cases hlt : i < n
        · rw [caps_own hlt] at e2; cases e2
        · omega
      obtain ⟨j, ej, ev⟩ := caps_cap hi e2
      have hxN : (N.drop n)[i - n]? = some x := by
        rw [List.getElem?_drop, show n + (i - n) = i by omega]
        exact e1
      have hxm : x ∈ N.drop n := List.mem_of_getElem? hxN
      have eN : X.N[j]? = some x := by
        have q : (js.map fun j => X.N[j]?)[i - n]? = some (X.N[j]?) := by rw [List.getElem?_map, ej]; rfl
        rw [cap, List.getElem?_map, hxN] at q
        exact (Option.some.inj q).symm
      obtain ⟨m0, _, hl⟩ := I.loc
      have kx := lc x hxm
      have vis : Vis X.env.scope x := by
        rcases kx with z | z
        · exact .inr (.inl z)
        · exact .inr (.inr z)
      obtain ⟨u, r, lk⟩ := hl j x v eN ev vis
      refine ⟨u, r, ?_⟩
      rcases lk with ⟨q, _⟩ | ⟨_, c, ec, o, ho, hd⟩
      · exfalso
        have q' : X.env.scope.names.lookup x = some .local := q
        rcases kx with z | z
        · rw [z] at q'; cases q'
        · rw [z] at q'; cases q'
      · have fx : scope.names.lookup x = some .free := lf x hxm
        obtain ⟨c', ec'⟩ : ∃ c', cl.lookup x = some c' := by
          have hm : (x, NameKind.free) ∈ scope.names := mem_of_lookup fx
          exact hcl2 _ hm rfl
        have ecc : c' = c := by
          have z := hcl x c' ec'
          rw [ec] at z
          exact (Option.some.inj z).symm
        subst ecc
        refine .inr ⟨?_, c', ec', o, old _ _ ho, hd⟩
        rcases e3 with z | z | z
        · exfalso
          have z' : (relabel scope X.env).names.lookup x = some .local := z
          exact relabel_notlocal _ fx z'
        · exact .inl z
        · exact .inr z
    · obtain ⟨v, o, ho, hd⟩ := I.cell x c (hcl x c e)
      exact ⟨v, o, old _ _ ho, hd⟩
    · have e : p = (D, { cls := .type "list", data := .seq ([] : List Value).toArray 0 }) := by simpa [cxB] using hp
      subst e
      exact ⟨accD, freeD, DC, fun z => absurd (stkD D z) (Nat.lt_irrefl _), fun v => by intro z; cases z⟩
    · show (caps n js σ).length = N.length
      rw [caps_len]
      exact len
  -- what stays true of the iterator's records
  have stat : ∀ {H' : Hp} {oD : Obj}, (∀ b ∈ fp, H' b = none) → ∀ b ∈ fp, FpOk (cxB X N scope s H C cl fp) [(D, oD)] H' b := fun {H' oD} hn b hb =>
    ⟨hn b hb, bC b (fpD b hb), fpS b hb, .inl hb, fun x c e => (fo b hb).2.2.2.2.1 x c (hcl x c e), fun p hp => by
      have e : p = (D, oD) := by simpa [cxB] using hp
      subst e
      exact Nat.ne_of_gt (fpD b hb)⟩
  obtain ⟨W, ⟨m0, w0⟩, turn⟩ := G
  have loop : codeAny (model X.prog X.w) X.A (.compLoop (.ListComp elt [⟨tg, iter, ifs, 0⟩] scope pos) 0 (.ref it) (.ref D) (compEnvC scope cl C X.env)) (RR (.ref D) C) { s with heap := h1, toks := s.toks + ([] : List (Str × Value)).length } := by
    refine comp_loop (fun m s' => ∃ (i : Nat) (ys : List V) (its : List Value) (kk : Nat) (σ' : St) (H' : Hp), Inv (cxB X N scope s H C cl fp) [(D, { cls := .type "list", data := .seq its.toArray kk })] σ' H' s' ∧ Vals ys its ∧ (σ'.length = (caps n js σ).length ∧ ∀ i, n ≤ i → σ'[i]? = (caps n js σ)[i]?) ∧
      tn i s'.heap ∧ (∀ b ∈ fp, H' b = none) ∧ W i m ys H') ?_ m0 ⟨0, [], [], 0, _, H, IB, .nil, ⟨rfl, fun _ _ => rfl⟩, T.keep _ _ _ st fun b hb o e => old b o e, fun b hb => (fo b hb).1, w0⟩
    rintro m s3 ⟨i, ys, its, kk, σ3, H3, I3, r3, ⟨l3, a3⟩, st3, fr3, w3⟩
    have I3' : Inv (cxB X N scope s H C cl fp) [(D, { cls := .type "list", data := .seq its.toArray kk })] (caps n js σ) H3 s3 := I3.weak l3.symm fun j v e => by
      by_cases hj : j < n
      · rw [caps_own hj] at e; cases e
      · rw [a3 j (by omega)]; exact e
    rcases turn i m ys H3 w3 with ⟨stop, hz, fin⟩ | ⟨go, hz, Nn, hNn, step⟩
    · refine wpAny_mono (T.done (cxB X N scope s H C cl fp) rfl rfl rfl hc i _ s3 _ H3 (fun _ _ => False) I3' (stat fr3) st3 stop) (fun r s4 h4 => ?_) fun _ _ z => z
      obtain ⟨hr, I4⟩ := h4
      refine .inl ⟨hr, ?_⟩
      have pD := I4.pin (D, { cls := .type "list", data := .seq its.toArray kk }) (by simp [cxB])
      obtain ⟨mC, nsC, _⟩ := I4.loc
      obtain ⟨oC, es, ep, hoC, dC, rC⟩ := id nsC
      have J4 : Inv X pins σ H3 s4 := I.call' (s' := s4) I4.os (ch := fp) I4.base I4.hok I4.bare fun b hb => by
        obtain ⟨_, f1, f2, f3, f4, f5⟩ := fo b hb
        exact ⟨f3, f1, f4, f5⟩
      have fC : H3 C = none := I4.free
      have ltL : X.env.locals < D := eD ▸ I.lt
      have cL : C ≠ X.env.locals := (bC _ ltL).symm
      have cC : ∀ x c, X.env.cells.lookup x = some c → c ≠ C := fun x c e => bC c (cellD x c e)
      have cP : ∀ p ∈ X.pn ++ pins, p.1 ≠ C := fun p hp => bC p.1 (pinD p hp)
      have cS : X.s₀.heap.objs.size ≤ C := Nat.le_trans I.sz (by rw [eD, eC]; exact Nat.le_succ _)
      have dS : X.s₀.heap.objs.size ≤ D := by have := I.sz; rw [eD] at this; exact this
      have cF : C ∉ X.fs := fun z => by
        obtain ⟨_, o, ho, _⟩ := I.ok.funs.mem z
        exact Nat.lt_irrefl _ (Nat.lt_of_lt_of_le (Heap.lt_size ho) cS)
      have J5 : Inv X (pins ++ [(C, oC)]) σ H3 s4 := J4.pins_of fun p hp => (List.mem_append.mp hp).elim (fun z => J4.pin p (List.mem_append_right _ z)) fun z => by
        have e : p = (C, oC) := by simpa using z
        subst e
        exact ⟨hoC, fC, cL, cF, fun v z => by have z' : oC.data = .cell v := z; rw [dC] at z'; cases z'⟩
      refine k D C oC mC ys H3 s4 (J5.track pD.2.1 dS (Nat.ne_of_gt ltL) (fun x c e => Nat.ne_of_lt (cellD x c e)) (fun p hp => ?_) ?_) pD.2.1 nsC cS cL cC cP ?_ fin
      · rcases List.mem_append.mp hp with z | z
        · exact Nat.ne_of_lt (pinD p (List.mem_append_left _ z))
        · rcases List.mem_append.mp z with z | z
          · exact Nat.ne_of_lt (pinD p (List.mem_append_right _ z))
          · have e : p = (C, oC) := by simpa using z
            subst e
            exact Ne.symm DC
      · exact ⟨hz, its, kk, r3, pD.1⟩
      · rw [upd_ne (Ne.symm DC)]
        exact fC
    · refine wpAny_mono (T.item (cxB X N scope s H C cl fp) rfl rfl rfl hc i _ s3 _ H3 (fun _ _ => False) I3' (stat fr3) st3 go) (fun r s4 h4 => ?_) fun _ _ z => z
      obtain ⟨u, hr, h4⟩ := h4
      refine .inr ⟨u, hr, ?_⟩
      refine thn h4 fun _ s5 h5 => ?_
      obtain ⟨x, H5, I5, r5, y5, st5, fr5⟩ := h5
      have I5' := I5.pinned (stat fr5) (T.obj _ _ st5)
      refine thn (hg s H C cl fp _ s5 _ H5 x u _ I5' r5 (hgo _ _ _ _ (step x H5 y5))) fun _ s6 h6 => ?_
      obtain ⟨σ6, H6, I6, q6, l6, a6⟩ := h6
      refine thn (ht s H C cl fp _ s6 σ6 H6 _ I6 q6) fun ok s7 h7 => ?_
      obtain ⟨H7, I7, q7⟩ := h7
      have stays : ∀ {H8 : Hp} {s8 : Shared}, Inv (cxB X N scope s H C cl fp) ([(D, { cls := .type "list", data := .seq its.toArray kk })] ++ pinsAt fp s5.heap) σ6 H8 s8 → (∀ b ∈ fp, ∀ o, s5.heap.get? b = some o → s8.heap.get? b = some o) ∧ ∀ b ∈ fp, H8 b = none := fun {H8 s8} I8 =>
        ⟨fun b hb o e => (I8.pin (b, o) (List.mem_append_right _ (List.mem_append_right _ (mem_pinsAt hb e)))).1, fun b hb => by
          obtain ⟨o, e, d⟩ := T.obj _ _ st5 b hb
          exact (I8.pin (b, o) (List.mem_append_right _ (List.mem_append_right _ (mem_pinsAt hb e)))).2.1⟩
      cases ok with
      | false =>
        obtain ⟨m', hm, w7⟩ := hNn ys H7 (show Nn ys H7 from q7)
        obtain ⟨z1, z2⟩ := stays I7
        exact ⟨m', hm, i + 1, ys, its, kk, σ6, H7, I7.unpinned, r3, ⟨l6, a6⟩, T.keep _ _ _ st5 z1, z2, w7⟩
      | true =>
        show wpAny _ _ (eval elt _) _ _ s7
        refine thn (he s H C cl fp _ s7 σ6 H7 _ I7 q7) fun y s8 h8 => ?_
        obtain ⟨vy, H8, I8, ry, n8⟩ := h8
        obtain ⟨m', hm, w8⟩ := hNn _ _ n8
        obtain ⟨z1, z2⟩ := stays I8
        have pD := I8.pin (D, { cls := .type "list", data := .seq its.toArray kk }) (by simp [cxB])
        have lenits : its.length < sizeLine := by rw [← r3.length]; exact hz
        refine append_at pD.1 (fun h9 hs9 hD9 => ?_) (by simpa using Nat.le_of_lt lenits)
        have keep9 : ∀ b o, b ≠ D → s8.heap.get? b = some o → h9.get? b = some o := fun b o hb e => hs9.extBut b o hb e
        have I9 : Inv (cxB X N scope s H C cl fp) [] σ6 H8 { s8 with heap := h9 } := (I8.pins_of (pins' := []) fun p hp => nomatch hp).turned (it := D) keep9 pD.2.1 DC (.inr (by show s.heap.objs.size ≤ D; rw [eD]; exact Nat.le_refl _))
          (fun x c e => Nat.ne_of_lt (cellD x c (hcl x c e))) fun p hp => by simp [cxB] at hp
        refine ⟨m', hm, i + 1, ys ++ [vy], its ++ [y], kk + 1, σ6, H8, I9.pins_of fun p hp => ?_, r3.append (.cons ry .nil), ⟨l6, a6⟩, T.keep _ _ _ st5 fun b hb o e => keep9 b o (Nat.ne_of_lt (fpD b hb)) (z1 b hb o e), z2, w8⟩
        have e : p = (D, { cls := .type "list", data := .seq (its ++ [y]).toArray (kk + 1) }) := by simpa using hp
        subst e
        refine ⟨?_, pD.2.1, DC, fun z => absurd (stkD D z) (Nat.lt_irrefl _), fun v z => by cases z⟩
        show h9.get? D = _
        rw [hD9, List.push_toArray]
  exact codeAny_compStart_list loop (T.self _ 0 _ _ _ (T.keep _ _ _ st fun b hb o e => old b o e) loop)
end
end L2
namespace L2
open PySem PySem.Spec PyProof.Rows
section
variable {X : Cx} {tg elt iter : Expr} {ifs : List Expr} {scope : Scope} {pos : Pos} {N N0 : List Str} {n : Nat} {js : List Nat} {sc : Scope} {wi : TI} {g : TG} {tt : TT} {te : TE}
theorem comp_has {pins : List (Addr × Obj)} {σ : St} {H : Hp} {s : Shared} (I : Inv X pins σ H s) (hsc : X.env.scope = sc) (ok : compOk sc N0 N n js scope = true) : ∀ y ∈ scope.names, y.2 = .free → ∃ c, X.env.cells.lookup y.1 = some c := by
  simp only [compOk, Bool.and_eq_true, decide_eq_true_eq, List.all_eq_true, Bool.or_eq_true] at ok
  obtain ⟨⟨⟨⟨⟨⟨⟨kind, cell⟩, free⟩, nms⟩, cap⟩, lc⟩, lf⟩, len⟩ := ok
  subst hsc
  intro y hy hf
  rcases free y hy with (z | z) | z
  · exact absurd hf z
  · exact I.ok.has y.1 (.inl z)
  · exact I.ok.has y.1 (.inr z)
theorem comp_names (ok : compOk sc N0 N n js scope = true) : scope.kind = .function ∧ ∀ x ∈ scope.names, x.2 = .local → scope.names.lookup x.1 = some .local := by
  simp only [compOk, Bool.and_eq_true, decide_eq_true_eq, List.all_eq_true, Bool.or_eq_true] at ok
  obtain ⟨⟨⟨⟨⟨⟨⟨kind, cell⟩, free⟩, nms⟩, cap⟩, lc⟩, lf⟩, len⟩ := ok
  refine ⟨kind, fun x hx hl => ?_⟩
  rcases nms x hx with z | z
  · exact absurd hl z
  · exact z
theorem Inv.butC {pins : List (Addr × Obj)} {σ : St} {H : Hp} {s : Shared} {C : Addr} {oC : Obj} {h' : Heap} (I : Inv X (pins ++ [(C, oC)]) σ H s) (hs : Heap.SameBut C s.heap h') (h1 : X.s₀.heap.objs.size ≤ C) (h2 : C ≠ X.env.locals)
    (h3 : ∀ x c, X.env.cells.lookup x = some c → c ≠ C) (h4 : ∀ p ∈ X.pn ++ pins, p.1 ≠ C) (h5 : H C = none) : Inv X pins σ H { s with heap := h' } :=
  I.unpinned.turned (it := C) (t' := s.toks) (fun b o hb e => hs.extBut b o hb e) h5 h2 (.inr h1) h3 h4
theorem pe_comp (hc : X.calm = true) (hsc : X.env.scope = sc) (hN0 : X.N = N0) (ok : compOk sc N0 N n js scope = true) (hi : PI X tg iter wi)
    (hg : ∀ s H C cl fp, PG (cxB X N scope s H C cl fp) tg g) (hgo : Own n g) (ht : ∀ s H C cl fp, PIf (cxB X N scope s H C cl fp) ifs tt) (he : ∀ s H C cl fp, PE (cxB X N scope s H C cl fp) elt te)
    (hs : ∀ x, foldedSetIterable iter X.env x = pure x := by intro _; rfl) : PE X (.ListComp elt [⟨tg, iter, ifs, 0⟩] scope pos) (tComp n js wi g tt te) := by
  intro pins s σ H Q I h
  obtain ⟨cl, hclos, c1, c2⟩ := closure_some (comp_has I hsc ok)
  obtain ⟨kd, nm⟩ := comp_names ok
  rw [eval_ListComp]
  refine wpAny_comprehension_free (use := none) rfl hs hclos kd nm ?_
  refine thn (hi pins s σ H _ I h) fun v s1 h1 => thn h1 fun itv s2 h2 => ?_
  obtain ⟨it, fp, tn, J, H2, e, I2, T, st2, f2, G⟩ := h2
  subst e
  refine comp_block (RR := fun acc C => compPost (model X.prog X.w) X.A X.xe none (EP X pins σ Q) acc C) hc hsc hN0 ok hg hgo ht he I2 T st2 f2 c1 c2 G ?_
  intro D C oC m ys H' s' I' hD ns k1 k2 k3 k4 k5 fin
  exact ⟨m, ns, fun h' hs' => ⟨.ref D, _, I'.butC hs' k1 k2 k3 k4 k5, rfl, fin D hD⟩⟩
theorem ps_comp {k : Nat} {y : Str} {py spos : Pos} (hc : X.calm = true) (hsc : X.env.scope = sc) (hN0 : X.N = N0) (ok : compOk sc N0 N n js scope = true) (hN : X.N.Nodup) (hk : X.N[k]? = some y) (hy : Loc X.env.scope y)
    (hi : PI X tg iter wi) (hg : ∀ s H C cl fp, PG (cxB X N scope s H C cl fp) tg g) (hgo : Own n g) (ht : ∀ s H C cl fp, PIf (cxB X N scope s H C cl fp) ifs tt) (he : ∀ s H C cl fp, PE (cxB X N scope s H C cl fp) elt te)
    (hsw : swapsWith (.ListComp elt [⟨tg, iter, ifs, 0⟩] scope pos) (some (.Name y py)) spos.line X.env = pure true := by rfl) (hs : ∀ x, foldedSetIterable iter X.env x = pure x := by intro _; rfl)
    (hf : X.fn y = true ∨ X.env.scope.names.lookup y = some .local := by first | exact .inl rfl | exact .inr rfl) : PS X (.Assign [.Name y py] (.ListComp elt [⟨tg, iter, ifs, 0⟩] scope pos) spos) (sComp k n js wi g tt te) := by
  intro pins s σ H D0 I h
  obtain ⟨cl, hclos, c1, c2⟩ := closure_some (comp_has I hsc ok)
  obtain ⟨kd, nm⟩ := comp_names ok
  rw [exec_Assign_Name_used _ _ _ _ hsw]
  refine wpAny_bind (wpAny_standAt (wpAny_bind ?_))
  show wpAny _ X.A (comprehension (.ListComp elt [⟨tg, iter, ifs, 0⟩] scope pos) scope X.env _ (newList []) false (eval iter X.env) (some (assign (.Name y py) X.env)) >>= fun _ => pure ()) _ _ s
  refine wpAny_bind (wpAny_mono (wpAny_comprehension_free (use := some (assign (.Name y py) X.env)) (Q := fun _ s' => SP X pins D0 .next s') rfl hs hclos kd nm ?_) (fun _ s' q => wpAny_pure (wpAny_pure q)) fun _ _ z => z)
  refine thn (hi pins s σ H _ I h) fun v s1 h1 => thn h1 fun itv s2 h2 => ?_
  obtain ⟨it, fp, tn, J, H2, e, I2, T, st2, f2, G⟩ := h2
  subst e
  refine comp_block (RR := fun acc C => compPost (model X.prog X.w) X.A X.xe (some (assign (.Name y py) X.env)) (fun _ s' => SP X pins D0 .next s') acc C) hc hsc hN0 ok hg hgo ht he I2 T st2 f2 c1 c2 G ?_
  intro D C oC m ys H' s' I' hD ns k1 k2 k3 k4 k5 fin
  show wpAny _ X.A (assign (.Name y py) X.env (.ref D)) _ _ s'
  refine wpAny_assign_Name (store_ok I' hN hk hy (v := .ref D) rfl (fun s'' I'' => ?_) hf)
  have pc := I''.pin (C, oC) (List.mem_append_right _ (List.mem_append_right _ List.mem_cons_self))
  obtain ⟨o, es, ep, ho, r⟩ := ns
  have pc' := I'.pin (C, oC) (List.mem_append_right _ (List.mem_append_right _ List.mem_cons_self))
  have eo : o = oC := by
    have z := pc'.1
    rw [ho] at z
    exact Option.some.inj z
  subst eo
  exact ⟨m, ⟨o, es, ep, pc.1, r⟩, fun h' hs' => ⟨_, _, I''.butC hs' k1 k2 k3 k4 k5, fin D hD⟩⟩
end
end L2
namespace L2
open PySem PySem.Spec PyProof.Rows
theorem Same.new {H : Hp} {l : Addr} {o : HO} (h : H l = none) : Same H (upd H l o) := fun b u e => by rw [upd_ne (ne_of_none e h)]; exact e
theorem Same.tup {K : PySem.W.Frag} {H H' : Hp} {a : Addr} {xs : List V} (e : Same H H') (h : SqT K H a xs) : SqT K H' a xs := by
  rcases h with (h | ⟨o, h⟩) | h
  · exact .inl (.inl (e _ _ h))
  · exact .inl (.inr ⟨o, e _ _ h⟩)
  · exact .inr h
end L2
namespace L2
open PySem PySem.Spec PyProof.Rows
section
variable {X : Cx} {K : PySem.W.Frag}
theorem ix_seqK (h : X.K = K) : IxR X (rIx K) := h ▸ ix_seq
theorem call_lenK (h : X.K = K) : CallR X (.builtin "len") (fun xs H Q => ∃ p ys, xs = [.ref p] ∧ (SqL K H p ys ∨ SqT K H p ys) ∧ Q (.int ys.length) H) := by subst h; exact call_len_seq
theorem call_listK (h : X.K = K) : CallR X (.type "list") (fun xs H Q => ∃ p ys, xs = [.ref p] ∧ (SqL K H p ys ∨ SqT K H p ys) ∧ ∀ l, H l = none → Q (.ref l) (upd H l (.lst ys))) := by subst h; exact call_list_of
theorem call_tupleK (h : X.K = K) : CallR X (.type "tuple") (fun xs H Q => ∃ p ys, xs = [.ref p] ∧ ((SqL K H p ys ∧ ∀ l, H l = none → Q (.ref l) (upd H l (.tup ys))) ∨ (SqT K H p ys ∧ Q (.ref p) H))) := by subst h; exact call_tuple_of
theorem op_inK (h : X.K = K) : OpR X (compareOp .In) (rIn K false) := h ▸ op_in_seq
theorem pi_listK {tg l : Expr} {tl : TE} (h : X.K = K) (hl : PE X l tl) : PI X tg l (iList K tl) := h ▸ pi_list hl
theorem pi_tupK {tg l : Expr} {tl : TE} (h : X.K = K) (hl : PE X l tl) : PI X tg l (iTup K tl) := h ▸ pi_tup hl
theorem pg_tupK {es : List Expr} {k : Nat} {t : TGs} {n : Nat} {pos : Pos} (hK : X.K = K) (hc : X.calm = true) (h : PGs X es t) (hn : (assignEach es X.env).length = n := by rfl) (hst : (assignEach es X.env).findIdx? (·.1) = none := by rfl) : PG X (.Tuple es k pos) (gTup K n t) := hK ▸ pg_tup hc h hn hst
end
end L2
set_option Elab.async false
set_option linter.all false
set_option maxRecDepth 100000
set_option maxHeartbeats 4000000
namespace L2
open PySem PySem.Spec PyProof.Rows
theorem PE.or {X : Cx} {e : Expr} {t u : TE} (h : PE X e t) (k : PE X e u) : PE X e fun σ H Q => t σ H Q ∨ u σ H Q := fun pins s σ H Q I q => by
  rcases q with q | q
  · exact h pins s σ H Q I q
  · exact k pins s σ H Q I q
theorem PT.or {X : Cx} {e : Expr} {t u : TT} (h : PT X e t) (k : PT X e u) : PT X e fun σ H Q => t σ H Q ∨ u σ H Q := fun pins s σ H Q I q => by
  rcases q with q | q
  · exact h pins s σ H Q I q
  · exact k pins s σ H Q I q
noncomputable def clsV : V → Option Value
  | .ref a => some (.ref a)
  | .ty n => some (.type n)
  | _ => none
noncomputable def rIsi (K : PySem.W.Frag) : List V → Hp → VK → Prop := fun xs H Q => ∃ x y t c b, xs = [x, y] ∧ clsV y = some c ∧ TyOf K H x t ∧ PySem.W.kitOne K t c = some b ∧ Q (.bl b) H
section
variable {X : Cx}
theorem call_isi {K : PySem.W.Frag} (hK : X.K = K) : CallR X (.builtin "isinstance") (rIsi K) := by
  subst hK
  intro pins s σ H xs us Q I r h
  obtain ⟨x, y, t, c, b, rfl, hc, ty, e, q⟩ := h
  obtain ⟨u, w, rfl, ru, rw'⟩ := vals2 r
  have ew : w = c := by
    cases y with
    | ref a =>
      have z : w = Value.ref a := rw'
      rw [z]
      exact Option.some.inj hc
    | ty n =>
      have z : w = Value.type n := rw'
      rw [z]
      exact Option.some.inj hc
    | _ => cases hc
  subst ew
  exact isinst_ok I ru ty e fun tk => ⟨.bl b, H, I.tok tk, rfl, q⟩
theorem kit_self {K : PySem.W.Frag} {v : Value} : PySem.W.kitOne K v v = some true := by
  unfold PySem.W.kitOne
  rw [if_pos (beq_self_eq_true v)]
theorem kit_ty {K : PySem.W.Frag} {T U : String} {b : Bool} (hm : PySem.W.kitMeta U = true) (h3 : PySem.W.subIn K (.type T) (.type U) = some b) (hn : Value.type T ≠ .type U) : PySem.W.kitOne K (.type T) (.type U) = some b := by
  unfold PySem.W.kitOne
  rw [if_neg (fun z => hn (eq_of_beq z))]
  unfold PySem.W.kitCls
  dsimp only
  rw [if_pos hm]
  exact h3
theorem vals_bools : ∀ {bs : List Bool} {us : List Value}, Vals (bs.map V.bl) us → us = bs.map Value.bool
  | [], us, r => by cases r; rfl
  | b :: bs, us, r => by
    cases r with
    | cons h t =>
      have e : _ = Value.bool b := h
      rw [e, vals_bools t]
      rfl
theorem range_all {α : Type} (l : List α) (f : α → Bool) (tr : Nat → Bool) (h : ∀ i x, l[i]? = some x → tr i = f x) : (List.range l.length).all tr = l.all f := by
  induction l generalizing tr with
  | nil => rfl
  | cons a l ih =>
    rw [List.length_cons, List.range_succ_eq_map, List.all_cons, List.all_map, List.all_cons, h 0 a rfl]
    congr 1
    exact ih (fun i => tr (i + 1)) fun i x e => h (i + 1) x (by simpa using e)
theorem call_all {K : PySem.W.Frag} (hK : X.K = K) (hc : X.calm = true) : CallR X (.builtin "all") (fun xs H Q => ∃ (p : Addr) (bs : List Bool), xs = [.ref p] ∧ SqL K H p (bs.map V.bl) ∧ Q (.bl (bs.all id)) H) := by
  subst hK
  intro pins s σ H xs us Q I r h
  obtain ⟨p, bs, rfl, hq, q⟩ := h
  obtain ⟨u, rfl, ru⟩ := vals1 r
  cases ru
  obtain ⟨its, rv, pl, hz⟩ := I.list hq
  have hh : X.A.in1.handled = none := I.ok.hd hc
  have eits := vals_bools rv
  have hl := pl.isList
  have hlt : p < s.heap.objs.size := by obtain ⟨_, e, _⟩ := hl; exact Heap.lt_size e
  refine call_all_walk (wpAny_pyIter_list hl ?_)
  refine ⟨_, _, _, _, _, _, fun i => bs.getD i false, rfl, Walks.list hh s.heap.objs.size p (Nat.ne_of_lt hlt) its.toArray, ⟨⟨_, Heap.get?_push_size _ rfl, rfl, rfl⟩, hl.push _⟩, fun i v s' Q' E' hP hQ => ?_, fun h' tk hk => ?_⟩
  · have e : (bs.map Value.bool)[i]? = some v := by rw [← eits]; simpa using hP
    rw [List.getElem?_map] at e
    cases z : bs[i]? with
    | none => rw [z] at e; cases e
    | some b =>
      rw [z] at e
      have e' : v = Value.bool b := (Option.some.inj e).symm
      subst e'
      refine wpAny_truthy_bool ?_
      have : bs.getD i false = b := by rw [List.getD_eq_getElem?_getD, z]; rfl
      dsimp only at hQ
      rw [this] at hQ
      exact hQ
  · have len : its.toArray.size = bs.length := by rw [eits]; simp
    refine ⟨.bl (bs.all id), H, I.kept (t' := tk) fun b o e => hk b o (fun z => ?_) (Heap.get?_push_of_some _ e), ?_, q⟩
    · have := Heap.lt_size e
      rw [List.mem_singleton.mp z] at this
      exact Nat.lt_irrefl _ this
    · show Value.bool _ = Value.bool _
      rw [len, range_all bs id]
      intro i x e
      rw [List.getD_eq_getElem?_getD, e]
      rfl
mutual
inductive DV (K : PySem.W.Frag) (H : Hp) : V → PyData → Prop
  | non : DV K H .non .none
  | bl (b : Bool) : DV K H (.bl b) (.bool b)
  | int (i : Int) : DV K H (.int i) (.int i)
  | str (x : Str) : DV K H (.str x) (.str x)
  | lst {a : Addr} {xs : List V} {ds : List PyData} : SqL K H a xs → DVs K H xs ds → DV K H (.ref a) (.list ds)
  | tup {a : Addr} {xs : List V} {ds : List PyData} : SqT K H a xs → DVs K H xs ds → DV K H (.ref a) (.tuple ds)
inductive DVs (K : PySem.W.Frag) (H : Hp) : List V → List PyData → Prop
  | nil : DVs K H [] []
  | cons {x : V} {xs : List V} {d : PyData} {ds : List PyData} : DV K H x d → DVs K H xs ds → DVs K H (x :: xs) (d :: ds)
end
mutual
theorem dv_reads {pins : List (Addr × Obj)} {σ : St} {H : Hp} {s : Shared} (I : Inv X pins σ H s) : ∀ {x : V} {d : PyData} {u : Value}, DV X.K H x d → RelV x u → ∃ as, Reads s.heap u d as
  | _, _, u, .non, r => by cases (show u = Value.none from r); exact ⟨_, .none⟩
  | _, _, u, .bl b, r => by cases (show u = Value.bool b from r); exact ⟨_, .bool b⟩
  | _, _, u, .int i, r => by obtain ⟨t, e⟩ := (show ∃ t, u = Value.int i t from r); cases e; exact ⟨_, .int i t⟩
  | _, _, u, .str x, r => by obtain ⟨t, e⟩ := (show ∃ t, u = Value.str x t from r); cases e; exact ⟨_, .str x t⟩
  | _, _, u, .lst (a := a) hq hs, r => by
    cases (show u = Value.ref a from r)
    obtain ⟨its, rv, pl, _⟩ := I.list hq
    obtain ⟨o, e, c, n, dd⟩ := pl.isList
    obtain ⟨as, q⟩ := dv_readsAll I hs rv
    exact ⟨_, reads_list_at e c dd (by simpa using q)⟩
  | _, _, u, .tup (a := a) hq hs, r => by
    cases (show u = Value.ref a from r)
    obtain ⟨its, rv, pl, _⟩ := I.tuple hq
    obtain ⟨o, e, c, n, dd⟩ := pl
    obtain ⟨as, q⟩ := dv_readsAll I hs rv
    exact ⟨_, reads_tuple_at e c dd (by simpa using q)⟩
theorem dv_readsAll {pins : List (Addr × Obj)} {σ : St} {H : Hp} {s : Shared} (I : Inv X pins σ H s) : ∀ {xs : List V} {ds : List PyData} {us : List Value}, DVs X.K H xs ds → Vals xs us → ∃ as, ReadsAll s.heap us ds as
  | _, _, _, .nil, .nil => ⟨_, .nil⟩
  | _, _, _, .cons h t, .cons r rs => by
    obtain ⟨as, q⟩ := dv_reads I h r
    obtain ⟨bs, p⟩ := dv_readsAll I t rs
    exact ⟨_, .cons q p⟩
end
noncomputable def rEqD (K : PySem.W.Frag) : R2 := fun x y H Q => ∃ d e, DV K H x d ∧ DV K H y e ∧ SeqAt.shaped d = true ∧ SeqAt.shaped e = true ∧ Q (.bl (PyData.eqv d e)) H
noncomputable def rNeD (K : PySem.W.Frag) : R2 := fun x y H Q => ∃ d e, DV K H x d ∧ DV K H y e ∧ SeqAt.shaped d = true ∧ SeqAt.shaped e = true ∧ Q (.bl (!PyData.eqv d e)) H
theorem op_eqD {K : PySem.W.Frag} (hK : X.K = K) (hu : X.A.units + 64 < cLine) : OpR X (compareOp .Eq) (rEqD K) := by
  subst hK
  intro pins s σ H x y v u Q I rx ry h
  obtain ⟨d, e, hd, he, sd, se, q⟩ := h
  obtain ⟨as, ra⟩ := dv_reads I hd rx
  obtain ⟨bs, rb⟩ := dv_reads I he ry
  exact eq_dataH ra rb sd se hu ⟨.bl _, H, I, rfl, q⟩
theorem op_neD {K : PySem.W.Frag} (hK : X.K = K) (hu : X.A.units + 64 < cLine) : OpR X (compareOp .NotEq) (rNeD K) := by
  subst hK
  intro pins s σ H x y v u Q I rx ry h
  obtain ⟨d, e, hd, he, sd, se, q⟩ := h
  obtain ⟨as, ra⟩ := dv_reads I hd rx
  obtain ⟨bs, rb⟩ := dv_reads I he ry
  exact ne_dataH ra rb sd se hu ⟨.bl _, H, I, rfl, q⟩
theorem is_bool_rel {x : V} {u : Value} {b : Bool} (r : RelV x u) : (u == Value.bool b) = decide (x = .bl b) ∧ plainIs u (.bool b) = true := by
  cases x with
  | bl c =>
    cases (show u = Value.bool c from r)
    refine ⟨?_, rfl⟩
    cases b <;> cases c <;> first | rfl | decide +kernel
  | non => cases (show u = Value.none from r); exact ⟨rfl, rfl⟩
  | int i => obtain ⟨t, e⟩ := (show ∃ t, u = Value.int i t from r); cases e; exact ⟨rfl, rfl⟩
  | str i => obtain ⟨t, e⟩ := (show ∃ t, u = Value.str i t from r); cases e; exact ⟨rfl, rfl⟩
  | byt i => obtain ⟨t, e⟩ := (show ∃ t, u = Value.bytes i t from r); cases e; exact ⟨rfl, rfl⟩
  | flt i => obtain ⟨t, e⟩ := (show ∃ t, u = Value.float i t from r); cases e; exact ⟨rfl, rfl⟩
  | ref a => cases (show u = Value.ref a from r); exact ⟨rfl, rfl⟩
  | ty n => cases (show u = Value.type n from r); exact ⟨rfl, rfl⟩
theorem op_isnotB : OpR X (compareOp .IsNot) (fun x y H Q => ∃ b, y = .bl b ∧ Q (.bl (!decide (x = .bl b))) H) := by
  intro pins s σ H x y v u Q I rx ry h
  obtain ⟨b, rfl, q⟩ := h
  cases (show u = Value.bool b from ry)
  obtain ⟨e, p⟩ := is_bool_rel (b := b) rx
  exact wpAny_isNot_plain p ⟨.bl _, H, I, by rw [e]; rfl, q⟩
structure MkN (K : PySem.W.Frag) (C : Addr) : Prop where
  makes : PySem.W.makesIn K C = true
  init : PySem.W.findIn K (.ref C) "__init__" = some (some (.builtin "object.__init__"))
  kp : PySem.W.keepIn K (.ref C) = true
end
end L2
set_option Elab.async false
set_option linter.all false
set_option maxRecDepth 100000
set_option maxHeartbeats 4000000
namespace L2
open PySem PySem.Spec PyProof.Rows
noncomputable def seqIs (b : Bool) (h : Heap) (l : Addr) (xs : Array Value) : Prop := match b with
  | true => h.IsList l xs
  | false => h.IsTuple l xs
noncomputable def iterIs (b : Bool) (h : Heap) (i l : Addr) (k : Nat) : Prop := match b with
  | true => h.IsListIter i l k
  | false => h.IsTupleIter i l k
noncomputable def iterObj (b : Bool) (l : Addr) : Obj := { cls := .type (if b then "list_iterator" else "tuple_iterator"), data := .fields #[.ref l, .int 0 0] }
theorem seqIs.at_ {b : Bool} {h h' : Heap} {l : Addr} {xs : Array Value} (q : seqIs b h l xs) (e : ∀ o, h.get? l = some o → h'.get? l = some o) : seqIs b h' l xs := by
  cases b
  · obtain ⟨o, z, r⟩ := (show h.IsTuple l xs from q)
    exact (show h'.IsTuple l xs from ⟨o, e o z, r⟩)
  · obtain ⟨o, z, r⟩ := (show h.IsList l xs from q)
    exact (show h'.IsList l xs from ⟨o, e o z, r⟩)
theorem iterIs.at_ {b : Bool} {h h' : Heap} {i l : Addr} {k : Nat} (q : iterIs b h i l k) (e : ∀ o, h.get? i = some o → h'.get? i = some o) : iterIs b h' i l k := by
  cases b
  · obtain ⟨o, z, r⟩ := (show h.IsTupleIter i l k from q)
    exact (show h'.IsTupleIter i l k from ⟨o, e o z, r⟩)
  · obtain ⟨o, z, r⟩ := (show h.IsListIter i l k from q)
    exact (show h'.IsListIter i l k from ⟨o, e o z, r⟩)
theorem iterIs.obj {b : Bool} {h : Heap} {i l : Addr} {k : Nat} (q : iterIs b h i l k) : ∃ o, h.get? i = some o ∧ ∀ v, o.data ≠ .cell v := by
  cases b
  · obtain ⟨o, z, _, d⟩ := (show h.IsTupleIter i l k from q)
    exact ⟨o, z, fun v e => by rw [d] at e; cases e⟩
  · obtain ⟨o, z, _, d⟩ := (show h.IsListIter i l k from q)
    exact ⟨o, z, fun v e => by rw [d] at e; cases e⟩
theorem iterIs.mk_ {b : Bool} {h : Heap} {i l : Addr} (q : h.get? i = some (iterObj b l)) : iterIs b h i l 0 := by
  cases b
  · exact (show h.IsTupleIter i l 0 from ⟨_, q, rfl, rfl⟩)
  · exact (show h.IsListIter i l 0 from ⟨_, q, rfl, rfl⟩)
section
variable {prog : Program} {w : World} {A : Around} {E : Value → Shared → Prop} {s : Shared}
theorem pyIter_seq {b : Bool} {l : Addr} {xs : Array Value} {Q : Value → Shared → Prop} (q : seqIs b s.heap l xs) (h : Q (.ref s.heap.objs.size) { s with heap := s.heap.push (iterObj b l) }) : wpAny (model prog w) A (pyIter (.ref l)) Q E s := by
  cases b
  · exact wpAny_pyIter_tuple (show s.heap.IsTuple l xs from q) h
  · exact wpAny_pyIter_list (show s.heap.IsList l xs from q) h
theorem nextOf_tuple {i l : Addr} {k : Nat} {xs : Array Value} {x : Value} {Q : Value → Shared → Prop} (st : s.heap.IsTupleIter i l k) (tp : s.heap.IsTuple l xs) (e : xs[k]? = some x)
    (h : ∀ h', h'.IsTupleIter i l (k + 1) → Heap.SameBut i s.heap h' → Q x { s with heap := h' }) : wpAny (model prog w) A (Builtin.SmallTypes.nextOf (.ref i)) Q E s := by
  obtain ⟨oi, gi, ci, di⟩ := id st
  obtain ⟨ot, gt, _, nt, dt⟩ := tp
  unfold Builtin.SmallTypes.nextOf
  refine wpAny_bind (wpAny_callSpecial?_slot (name := Str.ofString "__next__") st.typeIs F.slot_tuple_iterator_next (wpAny_call_entry F.slot_tuple_iterator_next st.typeIs F.entry_tuple_iterator_next ?_ (F.args_tuple_iterator_next_1 _)))
  show wpAny _ _ (field (.ref i) 0 >>= _) _ _ s
  refine wpAny_bind (wpAny_field gi di (x := .ref l) rfl ?_)
  show wpAny _ _ (if (Value.ref l == Value.none) = true then _ else _) _ _ s
  rw [if_neg (by exact Bool.false_ne_true : ¬ ((Value.ref l == Value.none) = true))]
  show wpAny _ _ (field (.ref i) 1 >>= _) _ _ s
  refine wpAny_bind (wpAny_field gi di (x := .int k 0) rfl ?_)
  show wpAny _ _ (seqItems? (.ref l) >>= _) _ _ s
  refine wpAny_bind (wpAny_seqItems gt dt ?_)
  simp only [Int.toNat_natCast, e]
  refine wpAny_bind (wpAny_setField gi di (by simp) (wpAny_pure ⟨x, rfl, wpAny_pure (h _ ?_ (Heap.SameBut.update ..))⟩))
  refine ⟨_, Heap.get?_update_self _ gi (Obj.isFreed_of_fields (Obj.data_mapFields di _)), (Obj.cls_mapFields ..).trans ci, ?_⟩
  rw [Obj.data_mapFields di]
  simp [rawInt]
theorem nextOf_tuple_end {i l : Addr} {k : Nat} {xs : Array Value} {Q : Value → Shared → Prop} (hh : A.handled = none) (st : s.heap.IsTupleIter i l k) (tp : s.heap.IsTuple l xs) (e : xs[k]? = none)
    (h : ∀ h' x, Heap.ExtBut i s.heap h' → (∃ o, h'.get? x = some o ∧ o.cls = .type "StopIteration") → E (.ref x) { s with heap := h' }) : wpAny (model prog w) A (Builtin.SmallTypes.nextOf (.ref i)) Q E s := by
  obtain ⟨oi, gi, ci, di⟩ := id st
  obtain ⟨ot, gt, _, nt, dt⟩ := tp
  unfold Builtin.SmallTypes.nextOf
  refine wpAny_bind (wpAny_callSpecial?_slot (name := Str.ofString "__next__") st.typeIs F.slot_tuple_iterator_next (wpAny_call_entry F.slot_tuple_iterator_next st.typeIs F.entry_tuple_iterator_next ?_ (F.args_tuple_iterator_next_1 _)))
  show wpAny _ _ (field (.ref i) 0 >>= _) _ _ s
  refine wpAny_bind (wpAny_field gi di (x := .ref l) rfl ?_)
  show wpAny _ _ (if (Value.ref l == Value.none) = true then _ else _) _ _ s
  rw [if_neg (by exact Bool.false_ne_true : ¬ ((Value.ref l == Value.none) = true))]
  show wpAny _ _ (field (.ref i) 1 >>= _) _ _ s
  refine wpAny_bind (wpAny_field gi di (x := .int k 0) rfl ?_)
  show wpAny _ _ (seqItems? (.ref l) >>= _) _ _ s
  refine wpAny_bind (wpAny_seqItems gt dt ?_)
  simp only [Int.toNat_natCast, e]
  refine wpAny_bind (wpAny_rule (wpAny_bind (wpAny_setField gi di (by simp) ?_)))
  show wpAny _ _ (newExc (.type "StopIteration") [] >>= _) _ _ _
  refine wpAny_bind ?_
  simp only [newExc, newTuple]
  refine wpAny_bind (wpAny_newObj_type ?_ (by size_fits))
  refine wpAny_bind (m := firstArgMember _ _) (wpAny_of_eq (a := Value.none) (by first | rfl | (simp only [firstArgMember] <;> rfl)) ?_)
  refine wpAny_newObj_type ?_ (by size_fits)
  simp only [raiseNew]
  refine wpAny_bind (wpAny_handled ?_)
  first | rw [(hh : A.in1.handled = none)] | rw [hh]
  refine wpAny_bind (wpAny_pure (wpAny_throw ?_))
  exact h _ _ (((Heap.SameBut.update ..).extBut.push _).push _) ⟨_, Heap.get?_push_size _ rfl, rfl⟩
theorem nextOf_seq {b : Bool} {i l : Addr} {k : Nat} {xs : Array Value} {x : Value} {Q : Value → Shared → Prop} (st : iterIs b s.heap i l k) (tp : seqIs b s.heap l xs) (e : xs[k]? = some x)
    (h : ∀ h', iterIs b h' i l (k + 1) → Heap.SameBut i s.heap h' → Q x { s with heap := h' }) : wpAny (model prog w) A (Builtin.SmallTypes.nextOf (.ref i)) Q E s := by
  cases b
  · exact nextOf_tuple st tp e h
  · exact wpAny_nextOf_list_item st tp e h
theorem nextOf_seq_end {b : Bool} {i l : Addr} {k : Nat} {xs : Array Value} {Q : Value → Shared → Prop} (hh : A.handled = none) (st : iterIs b s.heap i l k) (tp : seqIs b s.heap l xs) (e : xs[k]? = none)
    (h : ∀ h' x, Heap.ExtBut i s.heap h' → (∃ o, h'.get? x = some o ∧ o.cls = .type "StopIteration") → E (.ref x) { s with heap := h' }) : wpAny (model prog w) A (Builtin.SmallTypes.nextOf (.ref i)) Q E s := by
  cases b
  · exact nextOf_tuple_end hh st tp e h
  · exact wpAny_nextOf_list_end hh st tp e h
theorem zip_item {z TI TO i1 i2 l1 l2 : Addr} {b1 b2 : Bool} {k1 k2 : Nat} {xs ys : Array Value} {x y a b : Value} {Q : Option Value → Shared → Prop} (D : ZipApart z TI TO i1 i2 l1 l2)
    (hz : IsZip s.heap z TI TO .none) (hTI : IsPair s.heap TI (.ref i1) (.ref i2)) (hTO : IsPair s.heap TO a b) (h1 : iterIs b1 s.heap i1 l1 k1) (h2 : iterIs b2 s.heap i2 l2 k2) (q1 : seqIs b1 s.heap l1 xs) (q2 : seqIs b2 s.heap l2 ys) (hx : xs[k1]? = some x) (hy : ys[k2]? = some y)
    (hQ : ∀ h', IsZip h' z TI TO (rawInt s.heap.objs.size) → IsPair h' TO x y → iterIs b1 h' i1 l1 (k1 + 1) → iterIs b2 h' i2 l2 (k2 + 1) → IsPair h' s.heap.objs.size x y →
      (∀ c o, c ≠ z → c ≠ TO → c ≠ i1 → c ≠ i2 → s.heap.get? c = some o → h'.get? c = some o) → Q (some (.ref s.heap.objs.size)) { s with heap := h' }) : wpAny (model prog w) A (pyNext (.ref z)) Q E s := by
  have ty : s.TypeIs (.ref z) "zip" := ⟨_, hz, rfl⟩
  unfold pyNext
  refine wpAny_bind (wpAny_attempt (wpAny_callSpecial?_slot (name := Str.ofString "__next__") ty F.slot_zip_next (wpAny_call_entry F.slot_zip_next ty F.entry_zip_next ?_ (F.args_zip_next_1 _))))
  show wpAny _ _ (field (.ref z) 2 >>= _) _ _ _
  refine wpAny_bind (wpAny_field hz rfl (x := .bool false) rfl ?_)
  show wpAny _ _ (field (.ref z) 3 >>= _) _ _ _
  refine wpAny_bind (wpAny_field hz rfl (x := .ref TI) rfl (wpAny_bind (wpAny_seqItems hTI rfl ?_)))
  show wpAny _ _ (Builtin.SmallTypes.ownedTupleIsFree (.ref z) >>= _) _ _ _
  refine wpAny_bind ?_
  unfold Builtin.SmallTypes.ownedTupleIsFree
  refine wpAny_bind (wpAny_field hz rfl (x := .none) rfl (wpAny_pure ?_))
  simp only [if_true]
  refine wpAny_bind (wpAny_rule (wpAny_bind (wpAny_field hz rfl (x := .ref TO) rfl (wpAny_bind (wpAny_setField_rec hz (by simp) fun g1 z1 s1 => ?_)))))
  have Z1 : IsZip g1 z TI TO .ellipsis := z1
  refine wpAny_bind ?_
  simp only [List.zipIdx_cons, List.zipIdx_nil, List.forIn_cons, List.forIn_nil]
  refine wpAny_bind (wpAny_bind (wpAny_onRaise ?_))
  show wpAny _ _ (Builtin.SmallTypes.nextOf (.ref i1) >>= _) _ _ _
  refine wpAny_bind (nextOf_seq (h1.at_ fun o e => s1.extBut _ o D.i1z e) (q1.at_ fun o e => s1.extBut _ o D.l1z e) hx fun g2 n2 s2 => wpAny_pure ?_)
  have P2 : IsPair g2 TO a b := s2.extBut _ _ D.TOi1 (s1.extBut _ _ D.TOz hTO)
  refine wpAny_bind (wpAny_seqItems P2 rfl (wpAny_bind (wpAny_updateSeq_pair P2 fun g3 p3 s3 => wpAny_bind (wpAny_letGo (wpAny_pure ?_)))))
  have P3 : IsPair g3 TO x b := p3
  refine wpAny_bind (wpAny_bind (wpAny_onRaise ?_))
  show wpAny _ _ (Builtin.SmallTypes.nextOf (.ref i2) >>= _) _ _ _
  refine wpAny_bind (nextOf_seq (h2.at_ fun o e => s3.extBut _ o D.TOi2.symm (s2.extBut _ o D.i12.symm (s1.extBut _ o D.i2z e))) (q2.at_ fun o e => s3.extBut _ o D.l2TO (s2.extBut _ o D.l2i1 (s1.extBut _ o D.l2z e))) hy fun g4 n4 s4 => wpAny_pure ?_)
  have P4 : IsPair g4 TO x b := s4.extBut _ _ D.TOi2 P3
  refine wpAny_bind (wpAny_seqItems P4 rfl (wpAny_bind (wpAny_updateSeq_pair P4 fun g5 p5 s5 => wpAny_bind (wpAny_letGo (wpAny_pure (wpAny_pure ?_))))))
  have P5 : IsPair g5 TO x y := p5
  refine wpAny_bind (wpAny_seqItems P5 rfl (wpAny_bind (wpAny_newTuple ?_)))
  have sz : g5.objs.size = s.heap.objs.size := by rw [s5.1, s4.1, s3.1, s2.1, s1.1]
  have Z5 : IsZip g5 z TI TO .ellipsis := s5.extBut _ _ D.TOz.symm (s4.extBut _ _ D.i2z.symm (s3.extBut _ _ D.TOz.symm (s2.extBut _ _ D.i1z.symm Z1)))
  have K5 : ∀ c o, c ≠ z → c ≠ TO → c ≠ i1 → c ≠ i2 → s.heap.get? c = some o → g5.get? c = some o := fun c o c1 c2 c3 c4 e => s5.extBut _ _ c2 (s4.extBut _ _ c4 (s3.extBut _ _ c2 (s2.extBut _ _ c3 (s1.extBut _ _ c1 e))))
  have N1 : iterIs b1 g5 i1 l1 (k1 + 1) := n2.at_ fun o e => s5.extBut _ o D.TOi1.symm (s4.extBut _ o D.i12 (s3.extBut _ o D.TOi1.symm e))
  have N2 : iterIs b2 g5 i2 l2 (k2 + 1) := n4.at_ fun o e => s5.extBut _ o D.TOi2.symm e
  have zlt : z < g5.objs.size := Heap.lt_size Z5
  show wpAny _ _ (Builtin.SmallTypes.ownedTupleHandOut (.ref z) (.ref g5.objs.size) >>= _) _ _ _
  refine wpAny_bind ?_
  unfold Builtin.SmallTypes.ownedTupleHandOut
  have Z6 : IsZip (g5.push { cls := .type "tuple", data := .seq #[x, y] }) z TI TO .ellipsis := Heap.get?_push_of_some _ Z5
  refine wpAny_bind (wpAny_setField_rec Z6 (by simp) fun g7 z7 s7 => ?_)
  have Z7 : IsZip g7 z TI TO (rawInt g5.objs.size) := z7
  refine wpAny_setField_rec Z7 (by simp) fun g8 z8 s8 => ?_
  have Z8 : IsZip g8 z TI TO (rawInt g5.objs.size) := z8
  have up : ∀ c o, c ≠ z → g5.get? c = some o → g8.get? c = some o := fun c o c1 e => s8.extBut _ _ c1 (s7.extBut _ _ c1 (Heap.get?_push_of_some _ e))
  have T8 : IsPair g8 g5.objs.size x y := s8.extBut _ _ (Nat.ne_of_gt zlt) (s7.extBut _ _ (Nat.ne_of_gt zlt) (Heap.get?_push_size _ rfl))
  rw [sz] at Z8 T8
  refine wpAny_pure ⟨_, rfl, wpAny_pure ?_⟩
  show Q (some (.ref g5.objs.size)) _
  rw [sz]
  exact hQ g8 Z8 (up _ _ D.TOz P5) (N1.at_ fun o e => up _ o D.i1z e) (N2.at_ fun o e => up _ o D.i2z e) T8 fun c o c1 c2 c3 c4 e => up c o c1 (K5 c o c1 c2 c3 c4 e)
theorem zip_end {z TI TO i1 i2 l1 l2 : Addr} {b1 b2 : Bool} {k1 k2 : Nat} {xs ys : Array Value} {a b : Value} {Q : Option Value → Shared → Prop} (hh : A.handled = none) (D : ZipApart z TI TO i1 i2 l1 l2)
    (hz : IsZip s.heap z TI TO .none) (hTI : IsPair s.heap TI (.ref i1) (.ref i2)) (hTO : IsPair s.heap TO a b) (h1 : iterIs b1 s.heap i1 l1 k1) (h2 : iterIs b2 s.heap i2 l2 k2) (q1 : seqIs b1 s.heap l1 xs) (q2 : seqIs b2 s.heap l2 ys) (hend : xs[k1]? = none ∨ ys[k2]? = none)
    (hQ : ∀ h', (∀ c o, c ≠ z → c ≠ TO → c ≠ i1 → c ≠ i2 → s.heap.get? c = some o → h'.get? c = some o) → Q none { s with heap := h' }) : wpAny (model prog w) A (pyNext (.ref z)) Q E s := by
  have ty : s.TypeIs (.ref z) "zip" := ⟨_, hz, rfl⟩
  have fin : ∀ (h' : Heap) (e : Addr), (∀ c o, c ≠ z → c ≠ TO → c ≠ i1 → c ≠ i2 → s.heap.get? c = some o → h'.get? c = some o) → (∃ o, h'.get? e = some o ∧ o.cls = .type "StopIteration") →
      wpAny (model prog w) A (isInstance (.ref e) (.type "StopIteration") >>= fun r => if r = true then pure none else throw (.ref e)) Q E { s with heap := h' } := fun h' e hk ⟨o, ho, hc⟩ =>
    wpAny_bind (wpAny_isInstance (T := "StopIteration") (b := true) ⟨o, ho, hc⟩ isSubtype_stop (wpAny_pure (hQ _ hk)))
  unfold pyNext
  refine wpAny_bind (wpAny_attempt (wpAny_callSpecial?_slot (name := Str.ofString "__next__") ty F.slot_zip_next (wpAny_call_entry F.slot_zip_next ty F.entry_zip_next ?_ (F.args_zip_next_1 _))))
  show wpAny _ _ (field (.ref z) 2 >>= _) _ _ _
  refine wpAny_bind (wpAny_field hz rfl (x := .bool false) rfl ?_)
  show wpAny _ _ (field (.ref z) 3 >>= _) _ _ _
  refine wpAny_bind (wpAny_field hz rfl (x := .ref TI) rfl (wpAny_bind (wpAny_seqItems hTI rfl ?_)))
  show wpAny _ _ (Builtin.SmallTypes.ownedTupleIsFree (.ref z) >>= _) _ _ _
  refine wpAny_bind ?_
  unfold Builtin.SmallTypes.ownedTupleIsFree
  refine wpAny_bind (wpAny_field hz rfl (x := .none) rfl (wpAny_pure ?_))
  simp only [if_true]
  refine wpAny_bind (wpAny_rule (wpAny_bind (wpAny_field hz rfl (x := .ref TO) rfl (wpAny_bind (wpAny_setField_rec hz (by simp) fun g1 z1 s1 => ?_)))))
  have Z1 : IsZip g1 z TI TO .ellipsis := z1
  refine wpAny_bind ?_
  simp only [List.zipIdx_cons, List.zipIdx_nil, List.forIn_cons, List.forIn_nil]
  refine wpAny_bind (wpAny_bind (wpAny_onRaise ?_))
  show wpAny _ _ (Builtin.SmallTypes.nextOf (.ref i1) >>= _) _ _ _
  have I1 : iterIs b1 g1 i1 l1 k1 := h1.at_ fun o e => s1.extBut _ o D.i1z e
  have L1 : seqIs b1 g1 l1 xs := q1.at_ fun o e => s1.extBut _ o D.l1z e
  cases ex : xs[k1]? with
  | none =>
    refine wpAny_bind (nextOf_seq_end hh I1 L1 ex fun g2 e s2 he => ?_)
    obtain ⟨oe, he, ce⟩ := he
    have Z2 : IsZip g2 z TI TO .ellipsis := s2 _ _ D.i1z.symm Z1
    have nez : e ≠ z := fun q => by subst q; rw [Z2] at he; cases he; simp at ce
    exact wpAny_setField_rec Z2 (by simp) fun g3 _ s3 => fin g3 e (fun c o c1 _ c3 _ q => s3.extBut _ _ c1 (s2 _ _ c3 (s1.extBut _ _ c1 q))) ⟨oe, s3.extBut _ _ nez he, ce⟩
  | some x =>
    have ey : ys[k2]? = none := by
      rcases hend with q | q
      · rw [ex] at q; cases q
      · exact q
    refine wpAny_bind (nextOf_seq I1 L1 ex fun g2 n2 s2 => wpAny_pure ?_)
    have P2 : IsPair g2 TO a b := s2.extBut _ _ D.TOi1 (s1.extBut _ _ D.TOz hTO)
    refine wpAny_bind (wpAny_seqItems P2 rfl (wpAny_bind (wpAny_updateSeq_pair P2 fun g3 p3 s3 => wpAny_bind (wpAny_letGo (wpAny_pure ?_)))))
    refine wpAny_bind (wpAny_bind (wpAny_onRaise ?_))
    show wpAny _ _ (Builtin.SmallTypes.nextOf (.ref i2) >>= _) _ _ _
    refine wpAny_bind (nextOf_seq_end hh (h2.at_ fun o e => s3.extBut _ o D.TOi2.symm (s2.extBut _ o D.i12.symm (s1.extBut _ o D.i2z e))) (q2.at_ fun o e => s3.extBut _ o D.l2TO (s2.extBut _ o D.l2i1 (s1.extBut _ o D.l2z e))) ey fun g4 e s4 he => ?_)
    obtain ⟨oe, he, ce⟩ := he
    have Z4 : IsZip g4 z TI TO .ellipsis := s4 _ _ D.i2z.symm (s3.extBut _ _ D.TOz.symm (s2.extBut _ _ D.i1z.symm Z1))
    have nez : e ≠ z := fun q => by subst q; rw [Z4] at he; cases he; simp at ce
    exact wpAny_setField_rec Z4 (by simp) fun g5 _ s5 => fin g5 e (fun c o c1 c2 c3 c4 q => s5.extBut _ _ c1 (s4 _ _ c4 (s3.extBut _ _ c2 (s2.extBut _ _ c3 (s1.extBut _ _ c1 q))))) ⟨oe, s5.extBut _ _ nez he, ce⟩
noncomputable abbrev zo1 (b1 : Bool) (h : Heap) (l1 : Addr) : Heap := h.push (iterObj b1 l1)
noncomputable abbrev zo2 (b1 b2 : Bool) (h : Heap) (l1 l2 : Addr) : Heap := (zo1 b1 h l1).push (iterObj b2 l2)
noncomputable abbrev zo3 (b1 b2 : Bool) (h : Heap) (l1 l2 : Addr) : Heap := (zo2 b1 b2 h l1 l2).push { cls := .type "tuple", data := .seq #[.ref h.objs.size, .ref (zo1 b1 h l1).objs.size] }
noncomputable abbrev zo4 (b1 b2 : Bool) (h : Heap) (l1 l2 : Addr) : Heap := (zo3 b1 b2 h l1 l2).push { cls := .type "tuple", data := .seq #[.none, .none] }
noncomputable abbrev zo5 (b1 b2 : Bool) (h : Heap) (l1 l2 : Addr) : Heap := (zo4 b1 b2 h l1 l2).push { cls := .type "zip", data := .fields #[.none, .bool false, .bool false, .ref (zo2 b1 b2 h l1 l2).objs.size, .ref (zo3 b1 b2 h l1 l2).objs.size] }
theorem zip_new (b1 b2 : Bool) (l1 l2 : Addr) (xs ys : Array Value) : Meets (Builtin.«zip.__new__» ⟨[.type "zip", .ref l1, .ref l2], []⟩) (fun _ R s => seqIs b1 s.heap l1 xs ∧ seqIs b2 s.heap l2 ys ∧
      R (.ok (.ret (.ref (zo4 b1 b2 s.heap l1 l2).objs.size))) { s with heap := zo5 b1 b2 s.heap l1 l2 }) := by
  refine .of_wp fun prog w A R s q => ?_
  obtain ⟨hp, g, d, tk, os⟩ := s
  obtain ⟨q1, q2, q⟩ := q
  have sub := sub_zip
  have L1 : seqIs b1 (Shared.heap ⟨hp, g, d, tk, os⟩) l1 xs := q1
  have L2' : seqIs b2 (Shared.heap ⟨hp.push (iterObj b1 l1), g, d, tk, os⟩) l2 ys := q2.at_ fun o z => Heap.get?_push_of_some _ z
  wp_walk using pyIter_seq L1, pyIter_seq L2'
  exact ⟨_, rfl, q⟩
theorem call_zip {b1 b2 : Bool} {l1 l2 : Addr} {xs ys : Array Value} {Q : Value → Shared → Prop} (q1 : seqIs b1 s.heap l1 xs) (q2 : seqIs b2 s.heap l2 ys)
    (h : ∀ h', IsZip h' (s.heap.objs.size + 4) (s.heap.objs.size + 2) (s.heap.objs.size + 3) .none → IsPair h' (s.heap.objs.size + 2) (.ref s.heap.objs.size) (.ref (s.heap.objs.size + 1)) → IsPair h' (s.heap.objs.size + 3) .none .none →
      iterIs b1 h' s.heap.objs.size l1 0 → iterIs b2 h' (s.heap.objs.size + 1) l2 0 → (∀ c o, s.heap.get? c = some o → h'.get? c = some o) → Q (.ref (s.heap.objs.size + 4)) { s with heap := h' }) :
    wpAny (model prog w) A (call (.type "zip") [.ref l1, .ref l2]) Q E s := by
  refine callType_new F.called_zip (by decide) (F.typeCall_zip_2 _ _) (F.newCall_zip_2 _ _) (fun obj => F.args_object_init_3 obj _ _) F.entry_zip_new (zip_new b1 b2 l1 l2 xs ys) ⟨q1, q2, ?_⟩
  have y1 : (zo1 b1 s.heap l1).objs.size = s.heap.objs.size + 1 := Heap.size_push ..
  have y2 : (zo2 b1 b2 s.heap l1 l2).objs.size = s.heap.objs.size + 2 := by rw [Heap.size_push, y1]
  have y3 : (zo3 b1 b2 s.heap l1 l2).objs.size = s.heap.objs.size + 3 := by rw [Heap.size_push, y2]
  have y4 : (zo4 b1 b2 s.heap l1 l2).objs.size = s.heap.objs.size + 4 := by rw [Heap.size_push, y3]
  have k5 : (zo5 b1 b2 s.heap l1 l2).get? (zo4 b1 b2 s.heap l1 l2).objs.size = some _ := Heap.get?_push_size _ rfl
  have k4 : (zo5 b1 b2 s.heap l1 l2).get? (zo3 b1 b2 s.heap l1 l2).objs.size = some _ := Heap.get?_push_of_some _ (Heap.get?_push_size _ rfl)
  have k3 : (zo5 b1 b2 s.heap l1 l2).get? (zo2 b1 b2 s.heap l1 l2).objs.size = some _ := Heap.get?_push_of_some _ (Heap.get?_push_of_some _ (Heap.get?_push_size _ rfl))
  have k2 : (zo5 b1 b2 s.heap l1 l2).get? (zo1 b1 s.heap l1).objs.size = some (iterObj b2 l2) := Heap.get?_push_of_some _ (Heap.get?_push_of_some _ (Heap.get?_push_of_some _ (Heap.get?_push_size _ (by cases b2 <;> rfl))))
  have k1 : (zo5 b1 b2 s.heap l1 l2).get? s.heap.objs.size = some (iterObj b1 l1) := Heap.get?_push_of_some _ (Heap.get?_push_of_some _ (Heap.get?_push_of_some _ (Heap.get?_push_of_some _ (Heap.get?_push_size _ (by cases b1 <;> rfl)))))
  show _ ∧ _
  rw [y2, y3, y4] at k5
  rw [y1, y2] at k3
  rw [y3] at k4
  rw [y1] at k2
  rw [y4]
  exact ⟨⟨_, k5, rfl⟩, h _ k5 k3 k4 (iterIs.mk_ k1) (iterIs.mk_ k2) fun c o x => Heap.get?_push_of_some _ (Heap.get?_push_of_some _ (Heap.get?_push_of_some _ (Heap.get?_push_of_some _ (Heap.get?_push_of_some _ x))))⟩
end
end L2
namespace L2
open PySem PySem.Spec PyProof.Rows
noncomputable def SqB (K : PySem.W.Frag) (b : Bool) (H : Hp) (p : Addr) (xs : List V) : Prop := match b with
  | true => SqL K H p xs
  | false => SqT K H p xs
section
variable {X : Cx} {pins : List (Addr × Obj)} {σ : St} {H : Hp} {s : Shared} {b b1 b2 : Bool} {p p1 p2 : Addr} {xs ys : List V}
theorem Inv.seqB (I : Inv X pins σ H s) (h : SqB X.K b H p xs) : ∃ its : List Value, Vals xs its ∧ seqIs b s.heap p its.toArray ∧ xs.length ≤ sizeLine := by
  cases b
  · obtain ⟨its, r, q, hz⟩ := I.tuple (show SqT X.K H p xs from h)
    exact ⟨its, r, (show s.heap.IsTuple p its.toArray from q), hz⟩
  · obtain ⟨its, r, q, hz⟩ := I.list (show SqL X.K H p xs from h)
    exact ⟨its, r, (show s.heap.IsList p its.toArray from q.isList), hz⟩
theorem Inv.seqB_inj (I : Inv X pins σ H s) (h : SqB X.K b H p xs) (h' : SqB X.K b H p ys) : xs = ys := by
  cases b
  · exact I.tuple_inj h h'
  · exact I.list_inj h h'
end
noncomputable def Itz (K : PySem.W.Frag) (b1 b2 : Bool) (p1 p2 : Addr) : It :=
  ⟨fun i H => ∃ xs ys x y, SqB K b1 H p1 xs ∧ SqB K b2 H p2 ys ∧ xs[i]? = some x ∧ ys[i]? = some y,
   fun i H v H' => ∃ T x y, v = .ref T ∧ H T = none ∧ H' = upd H T (.tup [x, y]) ∧ (∀ xs, SqB K b1 H p1 xs → xs[i]? = some x) ∧ ∀ ys, SqB K b2 H p2 ys → ys[i]? = some y,
   fun i H => ∃ xs ys, SqB K b1 H p1 xs ∧ SqB K b2 H p2 ys ∧ (xs.length ≤ i ∨ ys.length ≤ i)⟩
noncomputable def zipAt (b1 b2 : Bool) (p1 p2 z TI TO i1 i2 : Addr) (i : Nat) (h : Heap) : Prop := IsZip h z TI TO .none ∧ IsPair h TI (.ref i1) (.ref i2) ∧ (∃ a b, IsPair h TO a b) ∧ iterIs b1 h i1 p1 i ∧ iterIs b2 h i2 p2 i
theorem turn_zip {P : Program} {w : World} {K : PySem.W.Frag} {elts : List Expr} {x1 : Nat} {pos : Pos} (b1 b2 : Bool) {p1 p2 z TI TO i1 i2 : Addr} (D : ZipApart z TI TO i1 i2 p1 p2) :
    Turn P w K (.Tuple elts x1 pos) (Itz K b1 b2 p1 p2) [z, TI, TO, i1, i2] z (zipAt b1 b2 p1 p2 z TI TO i1 i2) where
  mem := by simp
  obj := fun i h st c hc => by
    obtain ⟨hz, hI, ⟨a, b, hO⟩, j1, j2⟩ := st
    simp only [List.mem_cons, List.not_mem_nil, or_false] at hc
    rcases hc with rfl | rfl | rfl | rfl | rfl
    · exact ⟨_, hz, fun v e => by cases e⟩
    · exact ⟨_, hI, fun v e => by cases e⟩
    · exact ⟨_, hO, fun v e => by cases e⟩
    · exact j1.obj
    · exact j2.obj
  keep := fun i h h' st k => by
    obtain ⟨hz, hI, ⟨a, b, hO⟩, j1, j2⟩ := st
    exact ⟨k z (by simp) _ hz, k TI (by simp) _ hI, ⟨a, b, k TO (by simp) _ hO⟩, j1.at_ fun o e => k i1 (by simp) o e, j2.at_ fun o e => k i2 (by simp) o e⟩
  item := by
    intro X hP hw hK hc i pins s σ H E I hf st hg
    subst hP hw hK
    obtain ⟨xs, ys, x, y, q1, q2, ex, ey⟩ := hg
    obtain ⟨it1, r1, t1, _⟩ := I.seqB q1
    obtain ⟨it2, r2, t2, _⟩ := I.seqB q2
    obtain ⟨u, eu, ru⟩ := r1.get ex
    obtain ⟨v, ev, rv⟩ := r2.get ey
    obtain ⟨hz, hI, ⟨a, b, hO⟩, j1, j2⟩ := st
    refine zip_item D hz hI hO j1 j2 t1 t2 (x := u) (y := v) (by simpa using eu) (by simpa using ev) fun h' z' o' n1 n2 tp kk => ?_
    refine ⟨_, rfl, ?_⟩
    refine wpAny_letOwnedTupleGo_zip z' fun h'' z'' s'' => ?_
    have fresh : H s.heap.objs.size = none := I.hok.fresh (Nat.le_refl _)
    have zne : s.heap.objs.size ≠ z := fun e => by
      have := Heap.lt_size hz
      rw [← e] at this
      exact Nat.lt_irrefl _ this
    have keep : ∀ c o, c ∉ [z, TI, TO, i1, i2] → s.heap.get? c = some o → h''.get? c = some o := fun c o hc e => by
      simp only [List.mem_cons, List.not_mem_nil, or_false, not_or] at hc
      exact s''.extBut c o hc.1 (kk c o hc.1 hc.2.2.1 hc.2.2.2.1 hc.2.2.2.2 e)
    have tp' : h''.get? s.heap.objs.size = some { cls := .type "tuple", data := .seq #[u, v] } := s''.extBut _ _ zne tp
    have I' : Inv X pins σ (upd H s.heap.objs.size (.tup [x, y])) { s with heap := h'', toks := s.toks } := by
      refine I.step (g' := s.gens) (d' := s.drawn) (ch := [z, TI, TO, i1, i2]) (fun c hc => ?_) (fun c o _ _ hc e _ => keep c o hc e) (fun c o _ _ hc e _ => ⟨o.slots, keep c o hc e⟩) (fun c o _ e n => ?_) (fun c o hc e => ⟨o, keep c o hc e⟩)
        (fun c zs e => ?_) (fun c o w' e => ?_) (fun c ps e => ⟨#[], ?_⟩) (fun m hm => ?_) (fun c o e => ?_) I.bare
      · obtain ⟨_, f1, f2, f3, f4, f5⟩ := hf c hc
        exact ⟨f3, f1, f4, f5⟩
      · rw [upd_ne (Nat.ne_of_lt (Heap.lt_size e))]; exact n
      · rw [upd_ne (ne_of_none e fresh)]; exact e
      · rw [upd_ne (ne_of_none e fresh)]; exact e
      · rw [upd_ne (ne_of_none e fresh), e]; simp
      · obtain ⟨o, es, ep, ho, r⟩ := hm
        exact ⟨o, es, ep, keep _ o (fun q => (hf _ q).2.1 rfl) ho, r⟩
      · by_cases hb : c = s.heap.objs.size
        · subst hb
          rw [upd_same] at e
          cases e
          exact ⟨by show 2 ≤ sizeLine; decide, [u, v], .cons ru (.cons rv .nil), ⟨_, tp', ⟨rfl, _, rfl⟩, rfl⟩⟩
        · rw [upd_ne hb] at e
          refine (I.hok c o e).stay (fun d w' hd q => keep d w' (fun m => ?_) q) (fun d q => ?_) fun d zs q => ?_
          · have n := (hf d m).1
            rcases hd with rfl | hd
            · rw [n] at e; cases e
            · rw [n] at hd; cases hd
          · rw [upd_ne (ne_of_none q fresh)]; exact q
          · rw [upd_ne (ne_of_none q fresh)]; exact q
    refine ⟨.ref s.heap.objs.size, _, I', rfl, ⟨_, x, y, rfl, fresh, rfl, fun zs q => by rw [I.seqB_inj q q1]; exact ex, fun zs q => by rw [I.seqB_inj q q2]; exact ey⟩, ?_, fun c hc => ?_⟩
    · refine ⟨z'', s''.extBut _ _ D.TIz (kk _ _ D.TIz D.TITO D.TIi1 D.TIi2 hI), ⟨u, v, s''.extBut _ _ D.TOz o'⟩, n1.at_ fun o e => s''.extBut _ o D.i1z e, n2.at_ fun o e => s''.extBut _ o D.i2z e⟩
    · have lt : c < s.heap.objs.size := by
        simp only [List.mem_cons, List.not_mem_nil, or_false] at hc
        rcases hc with rfl | rfl | rfl | rfl | rfl
        · exact Heap.lt_size hz
        · exact Heap.lt_size hI
        · exact Heap.lt_size hO
        · obtain ⟨o, e, _⟩ := j1.obj; exact Heap.lt_size e
        · obtain ⟨o, e, _⟩ := j2.obj; exact Heap.lt_size e
      rw [upd_ne (Nat.ne_of_lt lt)]
      exact (hf c hc).1
  done := by
    intro X hP hw hK hc i pins s σ H E I hf st hg
    subst hP hw hK
    obtain ⟨xs, ys, q1, q2, hl⟩ := hg
    obtain ⟨it1, r1, t1, _⟩ := I.seqB q1
    obtain ⟨it2, r2, t2, _⟩ := I.seqB q2
    obtain ⟨hz, hI, ⟨a, b, hO⟩, j1, j2⟩ := st
    have l1 := r1.length
    have l2 := r2.length
    refine zip_end (I.ok.hd hc) D hz hI hO j1 j2 t1 t2 (by rcases hl with h | h; exact .inl (by simp; omega); exact .inr (by simp; omega)) fun h' kk => ⟨rfl, ?_⟩
    have keep : ∀ c o, c ∉ [z, TI, TO, i1, i2] → s.heap.get? c = some o → h'.get? c = some o := fun c o hc e => by
      simp only [List.mem_cons, List.not_mem_nil, or_false, not_or] at hc
      exact kk c o hc.1 hc.2.2.1 hc.2.2.2.1 hc.2.2.2.2 e
    show Inv X pins σ H { s with heap := h', toks := s.toks }
    refine I.step (g' := s.gens) (d' := s.drawn) (ch := [z, TI, TO, i1, i2]) (fun c hc => ?_) (fun c o _ _ hc e _ => keep c o hc e) (fun c o _ _ hc e _ => ⟨o.slots, keep c o hc e⟩) (fun c o _ e n => n) (fun c o hc e => ⟨o, keep c o hc e⟩)
      (fun c zs e => e) (fun c o w' e => e) (fun c ps e => ⟨#[], by rw [e]; simp⟩) (fun m hm => ?_) (fun c o e => ?_) I.bare
    · obtain ⟨_, f1, f2, f3, f4, f5⟩ := hf c hc
      exact ⟨f3, f1, f4, f5⟩
    · obtain ⟨o, es, ep, ho, r⟩ := hm
      exact ⟨o, es, ep, keep _ o (fun q => (hf _ q).2.1 rfl) ho, r⟩
    · refine (I.hok c o e).stay (fun d w' hd q => keep d w' (fun m => ?_) q) (fun d q => q) fun d zs q => q
      have n := (hf d m).1
      rcases hd with rfl | hd
      · rw [n] at e; cases e
      · rw [n] at hd; cases hd
  self := fun _ _ _ _ _ st h => wpAny_pyIter_zip st.1 h
section
variable {X : Cx} {a b : Expr} {ta : TA} {p pos : Pos} {elts : List Expr} {x1 : Nat} {tp : Pos}
noncomputable def iZip (K : PySem.W.Frag) (b1 b2 : Bool) (ta : TA) : TI := fun σ H R => ta σ H fun vs H1 => ∃ p1 p2, vs = [.ref p1, .ref p2] ∧ (∃ xs, SqB K b1 H1 p1 xs) ∧ (∃ ys, SqB K b2 H1 p2 ys) ∧ R (Itz K b1 b2 p1 p2) H1
theorem pi_zip {K : PySem.W.Frag} (b1 b2 : Bool) (hK : X.K = K) (hg : Gl X "zip") (hm : X.mg "zip" = none) (ha : PA X [a, b] ta) (he : starEach [a, b] X.env = (false, eval a X.env) :: starEach [b] X.env := by rfl) (hpl : (backTo pos (starEach [b] X.env)).any (·.1) = false := by rfl) :
    PI X (.Tuple elts x1 tp) (.Call (.Name "zip" p) [a, b] [] pos) (iZip K b1 b2 ta) := by
  subst hK
  intro pins s σ H R I h
  refine wpAny_Call_Name_kw (ld_blt I hg hm (u := .type "zip") (by rfl) ?_)
  refine PyProof.Rows.callWith_type1 (thn (ha pos pins s σ H _ I h) fun us s1 h1 => ?_) he hpl
  obtain ⟨vs, H1, I1, r1, p1, p2, rfl, ⟨xs, q1⟩, ⟨ys, q2⟩, k⟩ := h1
  obtain ⟨u, w', rfl, ru, rw'⟩ := vals2 r1
  cases (show u = Value.ref p1 from ru)
  cases (show w' = Value.ref p2 from rw')
  obtain ⟨it1, r1, t1, _⟩ := I1.seqB q1
  obtain ⟨it2, r2, t2, _⟩ := I1.seqB q2
  have lt : ∀ {c : Addr} {b : Bool} {zs : Array Value}, seqIs b s1.heap c zs → c < s1.heap.objs.size := fun {c b zs} q => by
    cases b
    · obtain ⟨o, e, _⟩ := (show s1.heap.IsTuple c zs from q); exact Heap.lt_size e
    · obtain ⟨o, e, _⟩ := (show s1.heap.IsList c zs from q); exact Heap.lt_size e
  refine call_zip t1 t2 fun h' hz hI hO j1 j2 kk => wpAny_pyIter_zip hz ?_
  have D := zipApart_new (lt t1) (lt t2)
  have I2 : Inv X pins σ H1 { s1 with heap := h', toks := s1.toks } := I1.kept kk
  refine ⟨_, _, _, _, H1, rfl, I2, turn_zip b1 b2 D, ⟨hz, hI, ⟨_, _, hO⟩, j1, j2⟩, fun c hc => ?_, k⟩
  have le : s1.heap.objs.size ≤ c := by
    simp only [List.mem_cons, List.not_mem_nil, or_false] at hc
    rcases hc with rfl | rfl | rfl | rfl | rfl <;> first | exact Nat.le_refl _ | exact Nat.le_add_right _ _
  exact I1.fpOk le (I1.hok.fresh le)
end
end L2
set_option Elab.async false
set_option linter.all false
set_option maxRecDepth 100000
set_option maxHeartbeats 4000000
namespace L2
open PySem PySem.Spec PyProof.Rows
theorem shaped_lst {xs : List PyData} (h : PyData.canLayAll0 xs = true) (d : PyData.depthAll xs ≤ 60) : SeqAt.shaped (.list xs) = true := by
  unfold SeqAt.shaped
  rw [Bool.and_eq_true]
  refine ⟨?_, decide_eq_true ?_⟩
  · simpa only [PyData.canLay0] using h
  · simp only [PyData.depth]; omega
theorem lay_nums : ∀ xs : List Int, PyData.canLayAll0 (xs.map PyData.int) = true
  | [] => by simp [PyData.canLayAll0]
  | x :: xs => by simp [PyData.canLayAll0, PyData.canLay0, lay_nums xs]
theorem deep_nums : ∀ xs : List Int, PyData.depthAll (xs.map PyData.int) ≤ 60
  | [] => by simp [PyData.depthAll]
  | x :: xs => by
    have := deep_nums xs
    simp [PyData.depthAll, PyData.depth]
    omega
theorem shaped_nums (xs : List Int) : SeqAt.shaped (.list (xs.map PyData.int)) = true := shaped_lst (lay_nums xs) (deep_nums xs)
end L2
set_option Elab.async false
set_option linter.all false
set_option maxRecDepth 100000
set_option maxHeartbeats 4000000
namespace L2
open PySem PySem.Spec PyProof.Rows
section
variable {X : Cx}
end
end L2
set_option Elab.async false
set_option linter.all false
set_option maxRecDepth 100000
set_option maxHeartbeats 4000000
namespace L2
open PySem PySem.Spec PyProof.Rows
noncomputable def Exc (B : Heap) (e : Addr) (cls fl : Value) (h : Heap) : Prop :=
  ∃ oe vs T oT ts, h.get? e = some oe ∧ oe.cls = cls ∧ oe.dict = none ∧ oe.data = .fields vs ∧ vs[1]? = some (.ref T) ∧ B.get? T = none ∧ T ≠ e ∧ h.get? T = some oT ∧ oT.data = .fields ts ∧ ts[3]? = some fl
structure FlyD (B : Heap) (l : List Env) (e : Addr) (cls fl : Value) (h : Heap) : Prop where
  st : B.StaysIn h
  new : B.get? e = none
  fr : h.FunFrames B l
  ex : Exc B e cls fl h
section
variable {M : Model} {A : Around} {E : Value → Shared → Prop} {s : Shared} {B : Heap} {env : Env} {outer l : List Env} {L e : Addr} {cls fl : Value} {Q : Unit → Shared → Prop}
theorem fr_ne {h : Heap} (hl : h.FunFrames B l) {b : Addr} {o : Obj} {vs : Array Value} (ho : h.get? b = some o) (hd : o.data = .fields vs) : b ∉ l.filterMap (·.frame) := fun hb => by
  obtain ⟨_, o1, e1, d1⟩ := hl.mem hb
  rw [ho] at e1
  cases e1
  exact d1 vs hd
end
end L2
set_option Elab.async false
set_option linter.all false
set_option maxRecDepth 100000
set_option maxHeartbeats 4000000
namespace L2
open PySem PySem.Spec PyProof.Rows
structure Flies (P : Program) (w : World) (l : List Env) (H : Hp) (s : Shared) (cls : Value) (e : Addr) (H' : Hp) (s' : Shared) : Prop where
  os : s'.os = s.os
  bare : AllBare s'.gens
  un : Un (frs l) [] H H' s.heap s'.heap
  hok : HOk P w H' s'.heap
  fly : ∃ B, FlyD B l e cls .none s'.heap ∧ ∀ b o, s'.heap.get? b = some o → b ∉ frs l → (H' b ≠ none ∨ ∃ o', s.heap.get? b = some o') → B.get? b = some o
noncomputable def CX1 (P : Program) (w : World) : CXT := fun outer H s E e s' => ∃ ea cls H', e = .ref ea ∧ Flies P w outer H s cls ea H' s' ∧ E cls none H'
theorem ObjOk.there {P : Program} {w : World} {H : Hp} {h : Heap} {a : Addr} {o : HO} (x : ObjOk P w H h a o) : ∃ u, h.get? a = some u := by
  cases o with
  | lst xs => obtain ⟨_, _, _, _, e⟩ := x; exact ⟨_, e⟩
  | tup xs => obtain ⟨_, _, _, ob, e, _⟩ := x; exact ⟨_, e⟩
  | dK kvs => obtain ⟨_, _, _, _, o, _, _, e, _⟩ := x; exact ⟨_, e⟩
  | dT kvs => obtain ⟨_, _, _, _, o, _, _, e, _⟩ := x; exact ⟨_, e⟩
  | set S n => obtain ⟨o, _, _, _, e, _⟩ := x; exact ⟨_, e⟩
  | ins C dx fs => obtain ⟨_, _, _, e, _⟩ := x; exact ⟨_, e⟩
  | own y => exact x
  | xd fs => obtain ⟨_, ⟨_, _, _, e, _⟩, _⟩ := x; exact ⟨_, e⟩
  | rng lo hi => obtain ⟨_, _, _, e⟩ := x; exact ⟨_, e⟩
  | frz ob u => obtain ⟨e, _⟩ := x; exact ⟨_, e⟩
  | tbl ps => exact ⟨_, (show h.get? a = some _ from x)⟩
  | met f y => exact ⟨_, (show h.get? a = some _ from x)⟩
  | ext φ => obtain ⟨_, ⟨_, e⟩, _⟩ := x; exact ⟨_, e⟩
section
variable {X : Cx} {pins : List (Addr × Obj)} {σ : St} {H H' : Hp} {s : Shared}
end
section
variable {P : Program} {w : World} {K : PySem.W.Frag} {mg : Str → Option Value} {base : Heap} {N : List Str} {qual : Str} {scope : Scope} {f : Addr} {cd : Value} {A : Around} {outer : List Env} {s₀ : Shared} {H₀ : Hp} {E : XK}
end
end L2
set_option Elab.async false
set_option linter.all false
set_option maxRecDepth 100000
set_option maxHeartbeats 4000000
namespace L2
open PySem PySem.Spec PyProof.Rows
section
variable {X : Cx} {x : Str} {C : Addr} {bmB : List Value} {B newId initId : String} {np cpos pos : Pos} {e : Expr} {es : List Expr} {t : TA} {E : XK}
end
end L2
set_option Elab.async false
set_option linter.all false
set_option maxRecDepth 100000
set_option maxHeartbeats 4000000
namespace L2
open PySem PySem.Spec PyProof.Rows
noncomputable abbrev Cx.suite (X : Cx) (e : Addr) : Cx := { X with A := X.A.mark (some (.ref e)), calm := false, xe := fun _ _ => False }
noncomputable def excO (e : Addr) (cls : Value) : HO := .ext fun h => ∃ oe vs, h.get? e = some oe ∧ oe.cls = cls ∧ oe.dict = none ∧ oe.data = .fields vs
section
variable {X : Cx} {pins : List (Addr × Obj)} {σ : St} {H H' : Hp} {s s1 : Shared} {e : Addr} {cls fl : Value}
theorem Cx.Ok.suite (ok : X.Ok) (e : Addr) : (X.suite e).Ok :=
  ⟨ok.mod, ok.kind, ok.glob, ok.blt, ok.above, ok.inj, ok.has, ok.cab, (fun z => nomatch z), ok.frames, ok.stk, ok.exf, ok.bs, ok.bsz, ok.noex, ok.exfs, ok.funs, ok.frf⟩
theorem Inv.suite (I : Inv X pins σ H s) (e : Addr) : Inv (X.suite e) pins σ H s := ⟨I.ok.suite e, I.os, I.bare, I.base, I.loc, I.cell, I.free, I.freeC, I.pin, I.hok, I.len⟩
theorem Flies.fresh {l : List Env} {P : Program} {w : World} (F : Flies P w l H s cls e H' s1) : s.heap.get? e = none ∧ H' e = none := by
  obtain ⟨B, fl, cond⟩ := F.fly
  obtain ⟨oe, vs, T, oT, ts, he, hc, hdn, hd, _⟩ := fl.ex
  have nf := fr_ne fl.fr he hd
  have no : ¬ (H' e ≠ none ∨ ∃ o', s.heap.get? e = some o') := fun z => by
    have q := cond e oe he nf z
    rw [fl.new] at q
    cases q
  constructor
  · cases q : s.heap.get? e with
    | none => rfl
    | some o => exact absurd (.inr ⟨o, q⟩) no
  · cases q : H' e with
    | none => rfl
    | some o => exact absurd (.inl (by rw [q]; exact fun z => nomatch z)) no
end
end L2
set_option Elab.async false
set_option linter.all false
set_option maxRecDepth 100000
set_option maxHeartbeats 4000000
namespace L2
open PySem PySem.Spec PyProof.Rows
section
variable {X : Cx} {pins : List (Addr × Obj)} {σ : St} {H H' : Hp} {s s1 : Shared} {e : Addr} {cls c : Value} {i : Nat} {x n : Str} {np pos hpos : Pos} {b₀ : Stmt} {suite : List Stmt} {ts : TS} {D : Ends}
end
noncomputable def PEat (X : Cx) (pins : List (Addr × Obj)) (σ : St) (e : Expr) (t : TE) : Prop := ∀ (s : Shared) (H : Hp) (Q : VK), Inv X pins σ H s → t σ H Q → wpAny (model X.prog X.w) X.A (eval e X.env) (EP X pins σ Q) X.xe s
section
variable {X : Cx} {pins : List (Addr × Obj)} {σ : St} {CX : CXT} {k : Nat} {f : Addr} {fd : FuncData} {ps : List Str} {sp : Sp} {dvs : List V} {ds : List Value} {E : XK} {x : Str} {p pos cpos : Pos} {e c : Expr} {es : List Expr} {t : TA} {te : TE} {tc : TT} {st : Stmt} {a b : List Stmt} {ta tb u : TS}
end
section
variable {X : Cx} {c : Value} {i : Nat} {x n : Str} {np pos hpos : Pos} {body : List Stmt} {b₀ : Stmt} {suite : List Stmt} {ts : TS} {tb : XK → TS}
end
section
variable {P : Program} {w : World} {K : PySem.W.Frag} {mg : Str → Option Value} {base : Heap}
theorem FnOk.calm {f : Addr} {fd : FuncData} {ps : List Str} {k : Nat} {sp : Sp} (F : FnOk P w K mg base CX0 k f fd ps sp) : FnOk P w K mg base (CX1 P w) k f fd ps sp :=
  ⟨F.len, fun A outer s H args us vs Q E hr he hb hv hs => codeAny_mono (F.run A outer s H args us vs Q E hr he hb hv hs) fun r s' q => by
    cases r with
    | ok fl => cases fl <;> exact q
    | error e => exact False.elim q⟩
end
end L2
set_option Elab.async false
set_option linter.all false
set_option maxRecDepth 100000
set_option maxHeartbeats 4000000
namespace L2
open PySem PySem.Spec PyProof.Rows
section
variable {prog : Program} {w : World} {A : Around} {E : Value → Shared → Prop} {s : Shared} {K : PySem.W.Frag} {e C : Addr} {oe : Obj}
end
structure ExcK (K : PySem.W.Frag) (C : Addr) : Prop where
  cls : PySem.W.isClsIn K C = true
  ty : PySem.W.typeIn K (.ref C) = some (.type "type")
  sf : PySem.W.subIn K (.ref C) (.ref C) = some true
  ga : PySem.W.findIn K (.ref C) "__getattribute__" = some (some (.builtin "BaseException.__getattribute__"))
  gt : PySem.W.findIn K (.ref C) "__getattr__" = some none
  bs : PySem.W.subIn K (.ref C) (.type "BaseException") = some true
  ha : PySem.W.findIn K (.ref C) "__class__" = some (some (.builtin "object.__class__"))
  hn : PySem.W.specialIn K (.builtin "object.__class__") "__get__" = some (some (.builtin "getset_descriptor.__get__"))
  tk : PySem.W.takesIn K (.builtin "object.__class__") = some true
  hm : PySem.W.mroIn K C (.type "object") = some true
section
variable {X : Cx} {pins : List (Addr × Obj)} {σ : St} {H : Hp} {s : Shared} {A : Around} {E : Value → Shared → Prop} {Q : Value → Shared → Prop} {c : Value} {b : Bool} {a C : Addr}
end
end L2
set_option Elab.async false
set_option linter.all false
set_option maxRecDepth 100000
set_option maxHeartbeats 4000000
namespace L2
open PySem PySem.Spec PyProof.Rows
inductive D where
  | non
  | bl (b : Bool)
  | int (i : Int)
  | str (x : Str)
  | lst (xs : List D)
  | tup (xs : List D)
  | obj (x : Str) (fs : List (Str × D))
  | dct (kvs : List (Key × D))
  | dit (kvs : List (List Key × D))
  | exc (x : Str)
  | fn (x : Str)
mutual
inductive Rp (K : PySem.W.Frag) (R : Hp) : V → D → Prop
  | non : Rp K R .non .non
  | bl (b : Bool) : Rp K R (.bl b) (.bl b)
  | int (i : Int) : Rp K R (.int i) (.int i)
  | str (x : Str) : Rp K R (.str x) (.str x)
  | lst {a : Addr} {xs : List V} {ds : List D} : SqL K R a xs → Rps K R xs ds → Rp K R (.ref a) (.lst ds)
  | tup {a : Addr} {xs : List V} {ds : List D} : R a = some (.tup xs) → Rps K R xs ds → Rp K R (.ref a) (.tup ds)
  | obj {a C dx : Addr} {x : Str} {fs : List (Str × V)} {gs : List (Str × D)} : PySem.W.nsIn K mainGlobals x = some (some (.ref C)) → R a = some (.ins C dx fs) → Rfs K R fs gs → Rp K R (.ref a) (.obj x gs)
  | dct {a : Addr} {kvs : List (Key × V)} {gs : List (Key × D)} : R a = some (.dK kvs) → Rkk K R kvs gs → Rp K R (.ref a) (.dct gs)
  | dit {a : Addr} {kvs : List (List Key × V)} {gs : List (List Key × D)} : R a = some (.dT kvs) → Rkt K R kvs gs → Rp K R (.ref a) (.dit gs)
  | exc {a C : Addr} {x : Str} : PySem.W.nsIn K mainGlobals x = some (some (.ref C)) → ExcK K C → R a = some (excO a (.ref C)) → Rp K R (.ref a) (.exc x)
  | fn {l : Addr} {x : Str} : PySem.W.nsIn K mainGlobals x = some (some (.ref l)) → Rp K R (.ref l) (.fn x)
inductive Rps (K : PySem.W.Frag) (R : Hp) : List V → List D → Prop
  | nil : Rps K R [] []
  | cons {x : V} {xs : List V} {d : D} {ds : List D} : Rp K R x d → Rps K R xs ds → Rps K R (x :: xs) (d :: ds)
inductive Rfs (K : PySem.W.Frag) (R : Hp) : List (Str × V) → List (Str × D) → Prop
  | nil : Rfs K R [] []
  | cons {f : Str} {x : V} {xs : List (Str × V)} {d : D} {ds : List (Str × D)} : Rp K R x d → Rfs K R xs ds → Rfs K R ((f, x) :: xs) ((f, d) :: ds)
inductive Rkk (K : PySem.W.Frag) (R : Hp) : List (Key × V) → List (Key × D) → Prop
  | nil : Rkk K R [] []
  | cons {f : Key} {x : V} {xs : List (Key × V)} {d : D} {ds : List (Key × D)} : Rp K R x d → Rkk K R xs ds → Rkk K R ((f, x) :: xs) ((f, d) :: ds)
inductive Rkt (K : PySem.W.Frag) (R : Hp) : List (List Key × V) → List (List Key × D) → Prop
  | nil : Rkt K R [] []
  | cons {f : List Key} {x : V} {xs : List (List Key × V)} {d : D} {ds : List (List Key × D)} : Rp K R x d → Rkt K R xs ds → Rkt K R ((f, x) :: xs) ((f, d) :: ds)
end
noncomputable abbrev Rho := List (Option D)
theorem Same.sqL {K : PySem.W.Frag} {H H' : Hp} {a : Addr} {xs : List V} (e : Same H H') (h : SqL K H a xs) : SqL K H' a xs := by
  rcases h with (h | ⟨o, h⟩) | h
  · exact .inl (.inl (e _ _ h))
  · exact .inl (.inr ⟨o, e _ _ h⟩)
  · exact .inr h
section
variable {K : PySem.W.Frag} {R R' : Hp}
mutual
theorem Rp.mono (s : Same R R') : ∀ {v : V} {d : D}, Rp K R v d → Rp K R' v d
  | _, _, .non => .non
  | _, _, .bl b => .bl b
  | _, _, .int i => .int i
  | _, _, .str x => .str x
  | _, _, .lst h r => .lst (s.sqL h) (Rps.mono s r)
  | _, _, .tup h r => .tup (s _ _ h) (Rps.mono s r)
  | _, _, .obj n h r => .obj n (s _ _ h) (Rfs.mono s r)
  | _, _, .dct h r => .dct (s _ _ h) (Rkk.mono s r)
  | _, _, .dit h r => .dit (s _ _ h) (Rkt.mono s r)
  | _, _, .exc n k h => .exc n k (s _ _ h)
  | _, _, .fn n => .fn n
theorem Rps.mono (s : Same R R') : ∀ {xs : List V} {ds : List D}, Rps K R xs ds → Rps K R' xs ds
  | _, _, .nil => .nil
  | _, _, .cons h r => .cons (Rp.mono s h) (Rps.mono s r)
theorem Rfs.mono (s : Same R R') : ∀ {xs : List (Str × V)} {ds : List (Str × D)}, Rfs K R xs ds → Rfs K R' xs ds
  | _, _, .nil => .nil
  | _, _, .cons h r => .cons (Rp.mono s h) (Rfs.mono s r)
theorem Rkk.mono (s : Same R R') : ∀ {xs : List (Key × V)} {ds : List (Key × D)}, Rkk K R xs ds → Rkk K R' xs ds
  | _, _, .nil => .nil
  | _, _, .cons h r => .cons (Rp.mono s h) (Rkk.mono s r)
theorem Rkt.mono (s : Same R R') : ∀ {xs : List (List Key × V)} {ds : List (List Key × D)}, Rkt K R xs ds → Rkt K R' xs ds
  | _, _, .nil => .nil
  | _, _, .cons h r => .cons (Rp.mono s h) (Rkt.mono s r)
end
theorem Rps.length : ∀ {xs : List V} {ds : List D}, Rps K R xs ds → xs.length = ds.length
  | _, _, .nil => rfl
  | _, _, .cons _ r => by rw [List.length_cons, List.length_cons, Rps.length r]
theorem Rps.get : ∀ {xs : List V} {ds : List D} {i : Nat} {d : D}, Rps K R xs ds → ds[i]? = some d → ∃ v, xs[i]? = some v ∧ Rp K R v d
  | _, _, _, _, .nil, e => by simp at e
  | _, _, 0, _, .cons h _, e => by simp at e; subst e; exact ⟨_, rfl, h⟩
  | _, _, i + 1, d, .cons _ r, e => by
    obtain ⟨v, h1, h2⟩ := Rps.get (i := i) (d := d) r (by simpa using e)
    exact ⟨v, by simpa using h1, h2⟩
theorem Rps.append : ∀ {xs ys : List V} {ds es : List D}, Rps K R xs ds → Rps K R ys es → Rps K R (xs ++ ys) (ds ++ es)
  | _, _, _, _, .nil, s => s
  | _, _, _, _, .cons r t, s => .cons r (Rps.append t s)
theorem Rps.take : ∀ {xs : List V} {ds : List D} (n : Nat), Rps K R xs ds → Rps K R (xs.take n) (ds.take n)
  | _, _, 0, _ => .nil
  | _, _, _ + 1, .nil => .nil
  | _, _, n + 1, .cons r t => .cons r (Rps.take n t)
theorem Rps.drop : ∀ {xs : List V} {ds : List D} (n : Nat), Rps K R xs ds → Rps K R (xs.drop n) (ds.drop n)
  | _, _, 0, r => r
  | _, _, _ + 1, .nil => .nil
  | _, _, n + 1, .cons _ t => Rps.drop n t
theorem Rps.set {x : V} {d : D} (r : Rp K R x d) : ∀ {xs : List V} {ds : List D} (i : Nat), Rps K R xs ds → Rps K R (xs.set i x) (ds.set i d)
  | _, _, _, .nil => .nil
  | _, _, 0, .cons _ t => .cons r t
  | _, _, i + 1, .cons q t => .cons q (Rps.set r i t)
theorem Rps.one {x : V} {d : D} (r : Rp K R x d) : Rps K R [x] [d] := .cons r .nil
theorem Rps.ints : ∀ ns : List Int, Rps K R (ns.map V.int) (ns.map D.int)
  | [] => .nil
  | n :: ns => .cons (.int n) (Rps.ints ns)
theorem Rps.snoc {xs : List V} {ds : List D} {x : V} {d : D} (h : Rps K R xs ds) (r : Rp K R x d) : Rps K R (xs ++ [x]) (ds ++ [d]) := h.append (.one r)
end
inductive Sc : V → D → Prop
  | non : Sc .non .non
  | bl (b : Bool) : Sc (.bl b) (.bl b)
  | int (i : Int) : Sc (.int i) (.int i)
  | str (x : Str) : Sc (.str x) (.str x)
theorem Sc.rp {K : PySem.W.Frag} {R : Hp} {v : V} {d : D} (h : Sc v d) : Rp K R v d := by
  cases h with
  | non => exact .non
  | bl b => exact .bl b
  | int i => exact .int i
  | str x => exact .str x
noncomputable def Frh (H : Hp) (a : Addr) : Prop := H a = none ∨ ∃ xs, H a = some (.tup xs)
noncomputable def Liv (H H' : Hp) (a : Addr) : Prop := H' a ≠ none ∧ ∀ xs, H' a = some (.tup xs) → H a = some (.tup xs)
theorem Liv.refl {H : Hp} {a : Addr} (h : H a ≠ none) : Liv H H a := ⟨h, fun _ e => e⟩
theorem Liv.trans {H H1 H2 : Hp} {a : Addr} (x : Liv H H1 a) (y : Liv H1 H2 a) : Liv H H2 a := ⟨y.1, fun xs e => x.2 xs (y.2 xs e)⟩
theorem Frh.back {H H1 : Hp} {a : Addr} (h : H a ≠ none → Liv H H1 a) (z : Frh H1 a) : Frh H a := by
  cases q : H a with
  | none => exact .inl q
  | some o =>
    have v := h (by rw [q]; exact fun z => nomatch z)
    rcases z with z | ⟨xs, z⟩
    · exact absurd z v.1
    · exact .inr ⟨xs, v.2 xs z⟩
structure Ext (H R H' R' : Hp) : Prop where
  h : Same H H'
  r : Same R R'
  s : ∀ a o, R' a = some o → H' a = some o
  n : ∀ a, R' a ≠ none → R a ≠ none ∨ Frh H a
theorem Ext.refl {H R : Hp} (s : ∀ a o, R a = some o → H a = some o) : Ext H R H R := ⟨Same.refl _, Same.refl _, s, fun _ h => .inl h⟩
theorem Same.some {H H' : Hp} (s : Same H H') {a : Addr} (h : H a ≠ none) : H' a ≠ none := by
  cases q : H a with
  | none => exact absurd q h
  | some o => rw [s a o q]; exact fun z => nomatch z
theorem Same.liv {H H' : Hp} (s : Same H H') {a : Addr} (h : H a ≠ none) : Liv H H' a := ⟨s.some h, fun xs e => by
  cases q : H a with
  | none => exact absurd q h
  | some o => rw [s a o q] at e; exact e⟩
theorem Ext.trans {H R H1 R1 H2 R2 : Hp} (x : Ext H R H1 R1) (y : Ext H1 R1 H2 R2) : Ext H R H2 R2 := by
  refine ⟨x.h.trans y.h, x.r.trans y.r, y.s, fun a h => ?_⟩
  rcases y.n a h with z | z
  · exact x.n a z
  · exact .inr (z.back x.h.liv)
theorem Ext.new {H R : Hp} {a : Addr} {o : HO} (s : ∀ a o, R a = some o → H a = some o) (h : H a = none) : Ext H R (upd H a o) (upd R a o) := by
  have hr : R a = none := by
    cases q : R a with
    | none => rfl
    | some u => rw [s a u q] at h; cases h
  refine ⟨Same.new h, Same.new hr, fun b u e => ?_, fun b e => ?_⟩
  · by_cases hb : b = a
    · subst hb; rw [upd_same] at e ⊢; exact e
    · rw [upd_ne hb] at e ⊢; exact s b u e
  · by_cases hb : b = a
    · subst hb; exact .inr (.inl h)
    · rw [upd_ne hb] at e; exact .inl e
theorem Ext.hid {H R : Hp} {a : Addr} {o : HO} (s : ∀ a o, R a = some o → H a = some o) (h : H a = none) : Ext H R (upd H a o) R :=
  ⟨Same.new h, Same.refl _, fun b u e => Same.new h _ _ (s b u e), fun _ e => .inl e⟩
theorem Ext.know {H R H' R' : Hp} {l : Addr} {o : HO} (x : Ext H R H' R') (h : H l = none) (h' : H' l = some o) (hr : R' l = none) : Ext H R H' (upd R' l o) := by
  refine ⟨x.h, x.r.trans (Same.new hr), fun b u e => ?_, fun b e => ?_⟩
  · by_cases hb : b = l
    · subst hb; rw [upd_same] at e; rw [h', e]
    · rw [upd_ne hb] at e; exact x.s b u e
  · by_cases hb : b = l
    · subst hb; exact .inr (.inl h)
    · rw [upd_ne hb] at e; exact x.n b e
structure Anc where
  H0 : Hp
  R0 : Hp
  L : Addr → Prop
  P : List Nat
inductive Ob (K : PySem.W.Frag) (R : Hp) : HO → D → Prop
  | lst {vs : List V} {ds : List D} : Rps K R vs ds → Ob K R (.lst vs) (.lst ds)
  | dct {kvs : List (Key × V)} {gs : List (Key × D)} : Rkk K R kvs gs → Ob K R (.dK kvs) (.dct gs)
  | dit {kvs : List (List Key × V)} {gs : List (List Key × D)} : Rkt K R kvs gs → Ob K R (.dT kvs) (.dit gs)
theorem Ob.mono {K : PySem.W.Frag} {R R' : Hp} {o : HO} {d : D} (s : Same R R') (h : Ob K R o d) : Ob K R' o d := by
  cases h with
  | lst r => exact .lst (r.mono s)
  | dct r => exact .dct (r.mono s)
  | dit r => exact .dit (r.mono s)
theorem Ob.noF {K : PySem.W.Frag} {H R : Hp} {o : HO} {d : D} {l : Addr} (h : Ob K R o d) (e : H l = some o) (z : Frh H l) : False := by
  rcases z with z | ⟨xs, z⟩
  · rw [e] at z; cases z
  · rw [e] at z; cases z; cases h
theorem Ob.rp {K : PySem.W.Frag} {R : Hp} {o : HO} {d : D} {l : Addr} (h : Ob K R o d) (e : R l = some o) : Rp K R (.ref l) d := by
  cases h with
  | lst r => exact .lst (SqL.of e) r
  | dct r => exact .dct e r
  | dit r => exact .dit e r
structure StR (K : PySem.W.Frag) (Z : Anc) (O : List Nat) (σ : St) (H R : Hp) (ρ : Rho) : Prop where
  sub : ∀ a o, R a = some o → H a = some o
  len : σ.length = ρ.length
  env : ∀ i d, i ∉ O → ρ[i]? = some (some d) → ∃ v, σ[i]? = some (some v) ∧ Rp K R v d
  own : ∀ i, i ∈ O → ∃ l vs ds, ρ[i]? = some (some ds) ∧ σ[i]? = some (some (.ref l)) ∧ H l = some vs ∧ R l = none ∧ Ob K R vs ds
  dis : ∀ i j, i ∈ O → j ∈ O → i ≠ j → ∀ l, σ[i]? = some (some (.ref l)) → σ[j]? ≠ some (some (.ref l))
  ah : ∀ a o, Z.H0 a = some o → ¬ Z.L a → H a = some o
  ar : Same Z.R0 R
  an : ∀ a, R a ≠ none → Z.R0 a ≠ none ∨ Frh Z.H0 a
  ad : ∀ a, Z.H0 a ≠ none → Liv Z.H0 H a
  ao : ∀ i, i ∈ O → i ∉ Z.P → ∀ l, σ[i]? = some (some (.ref l)) → Z.H0 l = none
  ap : ∀ i, i ∈ O → i ∈ Z.P → ∀ l, σ[i]? = some (some (.ref l)) → Z.L l
structure Stp (O : List Nat) (σ : St) (H R H' R' : Hp) : Prop where
  r : Same R R'
  h : ∀ a o, H a = some o → (∀ i, i ∈ O → σ[i]? ≠ some (some (.ref a))) → H' a = some o
  n : ∀ a, R' a ≠ none → R a ≠ none ∨ Frh H a
  d : ∀ a, H a ≠ none → Liv H H' a
theorem Stp.refl (O : List Nat) (σ : St) (H R : Hp) : Stp O σ H R H R := ⟨Same.refl _, fun _ _ e _ => e, fun _ h => .inl h, fun _ h => .refl h⟩
theorem Stp.trans {O : List Nat} {σ : St} {H R H1 R1 H2 R2 : Hp} (x : Stp O σ H R H1 R1) (y : Stp O σ H1 R1 H2 R2) : Stp O σ H R H2 R2 := by
  refine ⟨x.r.trans y.r, fun a o e n => y.h a o (x.h a o e n) n, fun a h => ?_, fun a h => (x.d a h).trans (y.d a (x.d a h).1)⟩
  rcases y.n a h with z | z
  · exact x.n a z
  · exact .inr (z.back (x.d a))
theorem Ext.stp {O : List Nat} {σ : St} {H R H' R' : Hp} (x : Ext H R H' R') : Stp O σ H R H' R' := ⟨x.r, fun a o e _ => x.h a o e, x.n, fun _ h => x.h.liv h⟩
section
variable {K : PySem.W.Frag} {Z : Anc} {O O' : List Nat} {σ σ' : St} {H R H' R' : Hp} {ρ ρ' : Rho}
theorem StR.ext (S : StR K Z O σ H R ρ) (x : Ext H R H' R') : StR K Z O σ H' R' ρ := by
  refine ⟨x.s, S.len, fun i d hi e => ?_, fun i hi => ?_, S.dis, fun a o e n => x.h a o (S.ah a o e n), S.ar.trans x.r, fun a h => ?_, fun a h => (S.ad a h).trans (x.h.liv (S.ad a h).1), S.ao, S.ap⟩
  · obtain ⟨v, h1, h2⟩ := S.env i d hi e
    exact ⟨v, h1, h2.mono x.r⟩
  · obtain ⟨l, vs, ds, h1, h2, h3, h4, h5⟩ := S.own i hi
    refine ⟨l, vs, ds, h1, h2, x.h _ _ h3, ?_, h5.mono x.r⟩
    cases q : R' l with
    | none => rfl
    | some o =>
      rcases x.n l (by rw [q]; exact fun z => nomatch z) with z | z
      · exact absurd h4 z
      · exact (h5.noF h3 z).elim
  · rcases x.n a h with z | z
    · exact S.an a z
    · exact .inr (z.back (S.ad a))
noncomputable def frzR (O O' : List Nat) (σ : St) (H R : Hp) : Hp := fun a => open Classical in if ∃ i, i ∈ O ∧ i ∉ O' ∧ σ[i]? = some (some (.ref a)) then H a else R a
theorem StR.freeze (S : StR K Z O σ H R ρ) (hs : ∀ i, i ∈ O' → i ∈ O) (hp : ∀ i, i ∈ Z.P → i ∈ O → i ∈ O') : StR K Z O' σ H (frzR O O' σ H R) ρ ∧ Same R (frzR O O' σ H R) := by
  have same : Same R (frzR O O' σ H R) := fun a o e => by
    unfold frzR
    split
    · exact S.sub a o e
    · exact e
  refine ⟨⟨fun a o e => ?_, S.len, fun i d hi e => ?_, fun i hi => ?_, fun i j hi hj => S.dis i j (hs i hi) (hs j hj), S.ah, S.ar.trans same, fun a h => ?_, S.ad, fun i hi => S.ao i (hs i hi), fun i hi => S.ap i (hs i hi)⟩, same⟩
  · unfold frzR at e
    split at e
    · exact e
    · exact S.sub a o e
  · by_cases hO : i ∈ O
    · obtain ⟨l, vs, ds, h1, h2, h3, h4, h5⟩ := S.own i hO
      rw [e] at h1
      have ed : d = ds := Option.some.inj (Option.some.inj h1)
      subst ed
      refine ⟨.ref l, h2, (h5.mono same).rp ?_⟩
      unfold frzR
      rw [if_pos ⟨i, hO, hi, h2⟩]
      exact h3
    · obtain ⟨v, h1, h2⟩ := S.env i d hO e
      exact ⟨v, h1, h2.mono same⟩
  · obtain ⟨l, vs, ds, h1, h2, h3, h4, h5⟩ := S.own i (hs i hi)
    refine ⟨l, vs, ds, h1, h2, h3, ?_, h5.mono same⟩
    unfold frzR
    rw [if_neg ?_]
    · exact h4
    · rintro ⟨j, hj, hj', e⟩
      exact S.dis j i hj (hs i hi) (fun z => hj' (z ▸ hi)) l e h2
  · unfold frzR at h
    split at h
    · rename_i z
      obtain ⟨j, hj, hj', e⟩ := z
      exact .inr (.inl (S.ao j hj (fun z => hj' (hp j z hj)) a e))
    · exact S.an a h
theorem StR.set (S : StR K Z O σ H R ρ) {i : Nat} {v : V} {d : D} (hi : i ∉ O) (r : Rp K R v d) : StR K Z O (σ.set i (some v)) H R (ρ.set i (some d)) := by
  have ne : ∀ j, j ∈ O → i ≠ j := fun j hj z => hi (z ▸ hj)
  refine ⟨S.sub, by rw [List.length_set, List.length_set]; exact S.len, fun j e hj q => ?_, fun j hj => ?_, fun j k hj hk n l e => ?_, S.ah, S.ar, S.an, S.ad, fun j hj hp l e => ?_, fun j hj hp l e => ?_⟩
  · by_cases hij : i = j
    · subst hij
      have hl : i < ρ.length := by
        have := (List.getElem?_eq_some_iff.mp q).1
        rwa [List.length_set] at this
      rw [List.getElem?_set_self hl] at q
      have e' : d = e := Option.some.inj (Option.some.inj q)
      subst e'
      exact ⟨v, by rw [List.getElem?_set_self (by rw [S.len]; exact hl)], r⟩
    · rw [List.getElem?_set_ne hij] at q
      obtain ⟨w, h1, h2⟩ := S.env j e hj q
      exact ⟨w, by rw [List.getElem?_set_ne hij]; exact h1, h2⟩
  · obtain ⟨l, vs, ds, h1, h2, h3, h4, h5⟩ := S.own j hj
    exact ⟨l, vs, ds, by rw [List.getElem?_set_ne (ne j hj)]; exact h1, by rw [List.getElem?_set_ne (ne j hj)]; exact h2, h3, h4, h5⟩
  · rw [List.getElem?_set_ne (ne j hj)] at e
    rw [List.getElem?_set_ne (ne k hk)]
    exact S.dis j k hj hk n l e
  · rw [List.getElem?_set_ne (ne j hj)] at e
    exact S.ao j hj hp l e
  · rw [List.getElem?_set_ne (ne j hj)] at e
    exact S.ap j hj hp l e
theorem StR.write (S : StR K Z O σ H R ρ) {i : Nat} {l : Addr} {vs : HO} {ds : D} (hi : i ∈ O) (hl : σ[i]? = some (some (.ref l))) (r : Ob K R vs ds) : StR K Z O σ (upd H l vs) R (ρ.set i (some ds)) := by
  obtain ⟨l0, vs0, ds0, h1, h2, h3, h4, h5⟩ := S.own i hi
  rw [hl] at h2
  cases h2
  have other : ∀ j, j ∈ O → i ≠ j → ∀ k, σ[j]? = some (some (.ref k)) → k ≠ l := fun j hj n k e z => by
    subst z
    exact S.dis i j hi hj n k hl e
  refine ⟨fun a o e => ?_, by rw [List.length_set]; exact S.len, fun j d hj q => ?_, fun j hj => ?_, S.dis, fun a o e n => ?_, S.ar, S.an, fun a h => ?_, S.ao, S.ap⟩
  · have ne : a ≠ l := fun z => by subst z; rw [h4] at e; cases e
    rw [upd_ne ne]; exact S.sub a o e
  · have n : i ≠ j := fun z => hj (z ▸ hi)
    rw [List.getElem?_set_ne n] at q
    exact S.env j d hj q
  · by_cases n : i = j
    · subst n
      have hlen : i < ρ.length := (List.getElem?_eq_some_iff.mp h1).1
      exact ⟨l, vs, ds, by rw [List.getElem?_set_self hlen], hl, upd_same, h4, r⟩
    · obtain ⟨k, vs', ds', g1, g2, g3, g4, g5⟩ := S.own j hj
      exact ⟨k, vs', ds', by rw [List.getElem?_set_ne n]; exact g1, g2, by rw [upd_ne (other j hj n k g2)]; exact g3, g4, g5⟩
  · have ne : a ≠ l := fun z => by
      subst z
      by_cases hp : i ∈ Z.P
      · exact n (S.ap i hi hp a hl)
      · rw [S.ao i hi hp a hl] at e; cases e
    rw [upd_ne ne]; exact S.ah a o e n
  · by_cases ha : a = l
    · subst ha; exact ⟨by rw [upd_same]; exact (fun z => (nomatch z)), fun xs e => by rw [upd_same] at e; cases e; cases r⟩
    · exact ⟨by rw [upd_ne ha]; exact (S.ad a h).1, fun xs e => by rw [upd_ne ha] at e; exact (S.ad a h).2 xs e⟩
theorem StR.take (S : StR K Z O σ H R ρ) {i : Nat} {l : Addr} {vs : HO} {ds : D} (hi : i ∉ O) (hin : i ∈ O') (hO : ∀ j, j ∈ O' → j = i ∨ j ∈ O) (hp : i ∉ Z.P) (hlen : i < ρ.length) (h0 : Z.H0 l = none) (hH : H l = some vs) (hR : R l = none) (hn : ∀ j, j ∈ O → σ[j]? ≠ some (some (.ref l))) (hs : ∀ j, j ∈ O → j ∈ O') (r : Ob K R vs ds) :
    StR K Z O' (σ.set i (some (.ref l))) H R (ρ.set i (some ds)) := by
  have ne : ∀ j, j ∈ O → i ≠ j := fun j hj z => hi (z ▸ hj)
  have hl : i < σ.length := by rw [S.len]; exact hlen
  refine ⟨S.sub, by rw [List.length_set, List.length_set]; exact S.len, fun j e hj q => ?_, fun j hj => ?_, fun j k hj hk n m e => ?_, S.ah, S.ar, S.an, S.ad, fun j hj hp l e => ?_, fun j hj hp' l e => ?_⟩
  · by_cases hij : i = j
    · subst hij
      rw [List.getElem?_set_self hlen] at q
      have e' : ds = e := Option.some.inj (Option.some.inj q)
      subst e'
      exact absurd hin hj
    · rw [List.getElem?_set_ne hij] at q
      obtain ⟨w, h1, h2⟩ := S.env j e (fun z => hj (hs j z)) q
      exact ⟨w, by rw [List.getElem?_set_ne hij]; exact h1, h2⟩
  · rcases hO j hj with rfl | hj'
    · exact ⟨l, vs, ds, by rw [List.getElem?_set_self hlen], by rw [List.getElem?_set_self hl], hH, hR, r⟩
    · obtain ⟨k, vs', ds', g1, g2, g3, g4, g5⟩ := S.own j hj'
      exact ⟨k, vs', ds', by rw [List.getElem?_set_ne (ne j hj')]; exact g1, by rw [List.getElem?_set_ne (ne j hj')]; exact g2, g3, g4, g5⟩
  · rcases hO j hj with rfl | hj'
    · rw [List.getElem?_set_self hl] at e
      cases e
      rcases hO k hk with rfl | hk'
      · exact absurd rfl n
      · rw [List.getElem?_set_ne (ne k hk')]
        exact hn k hk'
    · rw [List.getElem?_set_ne (ne j hj')] at e
      rcases hO k hk with rfl | hk'
      · rw [List.getElem?_set_self hl]
        intro z
        cases z
        exact hn j hj' e
      · rw [List.getElem?_set_ne (ne k hk')]
        exact S.dis j k hj' hk' n m e
  · rcases hO j hj with rfl | hj'
    · rw [List.getElem?_set_self hl] at e
      cases e
      exact h0
    · rw [List.getElem?_set_ne (ne j hj')] at e
      exact S.ao j hj' hp l e
  · rcases hO j hj with rfl | hj'
    · exact absurd hp' hp
    · rw [List.getElem?_set_ne (ne j hj')] at e
      exact S.ap j hj' hp' l e
end
end L2
set_option Elab.async false
set_option linter.all false
set_option maxRecDepth 100000
set_option maxHeartbeats 4000000
namespace L2
open PySem PySem.Spec PyProof.Rows
noncomputable def mBind {α β : Type} (a : Rho → Option (α × Rho)) (k : α → Rho → Option (β × Rho)) : Rho → Option (β × Rho) := fun ρ => match a ρ with
  | none => none
  | some (x, ρ1) => k x ρ1
noncomputable def mRet {α : Type} (x : α) : Rho → Option (α × Rho) := fun ρ => some (x, ρ)
noncomputable def mLift {α : Type} (o : Option α) : Rho → Option (α × Rho) := fun ρ => match o with
  | none => none
  | some x => some (x, ρ)
theorem mBind_some {α β : Type} {a : Rho → Option (α × Rho)} {k : α → Rho → Option (β × Rho)} {ρ : Rho} {r : β × Rho} (h : mBind a k ρ = some r) : ∃ x ρ1, a ρ = some (x, ρ1) ∧ k x ρ1 = some r := by
  unfold mBind at h
  cases e : a ρ with
  | none => rw [e] at h; cases h
  | some p => rw [e] at h; exact ⟨p.1, p.2, rfl, h⟩
theorem mLift_some {α : Type} {o : Option α} {ρ : Rho} {x : α} {ρ' : Rho} (h : mLift o ρ = some (x, ρ')) : o = some x ∧ ρ' = ρ := by
  unfold mLift at h
  cases o with
  | none => cases h
  | some y => cases h; exact ⟨rfl, rfl⟩
noncomputable def mVar (i : Nat) : Rho → Option (D × Rho) := fun ρ => match ρ[i]? with
  | some (some d) => some (d, ρ)
  | _ => none
theorem mVar_some {i : Nat} {ρ ρ' : Rho} {d : D} (h : mVar i ρ = some (d, ρ')) : ρ[i]? = some (some d) ∧ ρ' = ρ := by
  unfold mVar at h
  cases e : ρ[i]? with
  | none => rw [e] at h; cases h
  | some o =>
    rw [e] at h
    cases o with
    | none => cases h
    | some y => cases h; exact ⟨rfl, rfl⟩
section
variable (K : PySem.W.Frag) (O : List Nat)
noncomputable def ME (t : TE) (f : Rho → Option (D × Rho)) : Prop := ∀ (Z : Anc) (σ : St) (H R : Hp) (ρ : Rho) (d : D) (ρ' : Rho) (Q : VK), StR K Z O σ H R ρ → f ρ = some (d, ρ') → (∀ v H' R', StR K Z O σ H' R' ρ' → Stp O σ H R H' R' → Rp K R' v d → Q v H') → t σ H Q
noncomputable def MB (t : TE) (f : Rho → Option (D × Rho)) : Prop := ∀ (Z : Anc) (σ : St) (H R : Hp) (ρ : Rho) (d : D) (ρ' : Rho) (Q : VK), StR K Z O σ H R ρ → f ρ = some (d, ρ') → (∀ v H' R', StR K Z O σ H' R' ρ' → Stp O σ H R H' R' → Rp K H' v d → Q v H') → t σ H Q
noncomputable def MT (t : TT) (f : Rho → Option (Bool × Rho)) : Prop := ∀ (Z : Anc) (σ : St) (H R : Hp) (ρ : Rho) (b : Bool) (ρ' : Rho) (Q : Bool → Hp → Prop), StR K Z O σ H R ρ → f ρ = some (b, ρ') → (∀ H' R', StR K Z O σ H' R' ρ' → Stp O σ H R H' R' → Q b H') → t σ H Q
noncomputable def MA (t : TA) (f : Rho → Option (List D × Rho)) : Prop := ∀ (Z : Anc) (σ : St) (H R : Hp) (ρ : Rho) (ds : List D) (ρ' : Rho) (Q : List V → Hp → Prop), StR K Z O σ H R ρ → f ρ = some (ds, ρ') → (∀ vs H' R', StR K Z O σ H' R' ρ' → Stp O σ H R H' R' → Rps K R' vs ds → Q vs H') → t σ H Q
noncomputable def MN (t : TE) (f : Rho → Option (List D × Rho)) : Prop := ∀ (Z : Anc) (σ : St) (H R : Hp) (ρ : Rho) (ds : List D) (ρ' : Rho) (Q : VK), StR K Z O σ H R ρ → f ρ = some (ds, ρ') → (∀ l vs H' R', StR K Z O σ H' R' ρ' → Stp O σ H R H' R' → H l = none → H' l = some (.lst vs) → R' l = none → Rps K R' vs ds → Q (.ref l) H') → t σ H Q
end
section
variable {K : PySem.W.Frag} {Z : Anc} {O : List Nat} {t ta tb tc : TE} {tA tB' : TT} {tr : TA}
theorem StR.same {σ : St} {H R : Hp} {ρ : Rho} (S : StR K Z O σ H R ρ) : Same R H := S.sub
theorem ME.mb {f : Rho → Option (D × Rho)} (h : ME K O t f) : MB K O t f := fun Z σ H R ρ d ρ' Q S e k => h Z σ H R ρ d ρ' Q S e fun v H' R' S' st r => k v H' R' S' st (r.mono S'.same)
theorem StR.notnew {σ : St} {H R : Hp} {ρ : Rho} (S : StR K Z O σ H R ρ) {l : Addr} (h : H l = none) : ∀ j, j ∈ O → σ[j]? ≠ some (some (.ref l)) := fun j hj e => by
  obtain ⟨k, vs, ds, _, h2, h3, _⟩ := S.own j hj
  rw [e] at h2
  cases h2
  rw [h] at h3
  cases h3
theorem StR.know {σ : St} {H R : Hp} {ρ : Rho} {l : Addr} {vs : HO} (S : StR K Z O σ H R ρ) (h0 : Z.H0 l = none) (hH : H l = some vs) (hR : R l = none) (hn : ∀ j, j ∈ O → σ[j]? ≠ some (some (.ref l))) : StR K Z O σ H (upd R l vs) ρ := by
  have same : Same R (upd R l vs) := Same.new hR
  refine ⟨fun a o e => ?_, S.len, fun i d hi e => ?_, fun i hi => ?_, S.dis, S.ah, S.ar.trans same, fun a h => ?_, S.ad, S.ao, S.ap⟩
  · by_cases ha : a = l
    · subst ha; rw [upd_same] at e; rw [hH, e]
    · rw [upd_ne ha] at e; exact S.sub a o e
  · obtain ⟨v, h1, h2⟩ := S.env i d hi e
    exact ⟨v, h1, h2.mono same⟩
  · obtain ⟨k, ws, ds, h1, h2, h3, h4, h5⟩ := S.own i hi
    refine ⟨k, ws, ds, h1, h2, h3, ?_, h5.mono same⟩
    rw [upd_ne (fun z => hn i hi (by rw [← z]; exact h2))]
    exact h4
  · by_cases ha : a = l
    · subst ha; exact .inr (.inl h0)
    · rw [upd_ne ha] at h; exact S.an a h
theorem StR.new0 {σ : St} {H R : Hp} {ρ : Rho} {l : Addr} (S : StR K Z O σ H R ρ) (h : H l = none) : Z.H0 l = none := by
  cases q : Z.H0 l with
  | none => rfl
  | some o => exact absurd h (S.ad l (by rw [q]; exact fun z => nomatch z)).1
theorem Stp.know {σ : St} {H R H' R' : Hp} {l : Addr} {o : HO} (x : Stp O σ H R H' R') (h : H l = none) (hr : R' l = none) : Stp O σ H R H' (upd R' l o) := by
  refine ⟨x.r.trans (Same.new hr), x.h, fun b e => ?_, x.d⟩
  by_cases hb : b = l
  · subst hb; exact .inr (.inl h)
  · rw [upd_ne hb] at e; exact x.n b e
theorem MN.me {f : Rho → Option (List D × Rho)} (h : MN K O t f) : ME K O t (mBind f fun ds => mRet (.lst ds)) := fun Z σ H R ρ d ρ' Q S e k => by
  obtain ⟨ds, ρ1, e1, e2⟩ := mBind_some e
  cases e2
  refine h Z σ H R ρ ds _ Q S e1 fun l vs H' R' S' st h0 hH hR r => ?_
  refine k _ H' (upd R' l (.lst vs)) (S'.know (S.new0 h0) hH hR ?_) (st.know h0 hR) (.lst (SqL.of upd_same) (r.mono (Same.new hR)))
  exact S.notnew h0
theorem me_var {i : Nat} (hi : i ∉ O) : ME K O (tVar i) (mVar i) := fun Z σ H R ρ d ρ' Q S e k => by
  obtain ⟨e1, rfl⟩ := mVar_some e
  obtain ⟨v, h1, h2⟩ := S.env i d hi e1
  exact ⟨v, h1, k v H R S (Stp.refl _ _ _ _) h2⟩
theorem mb_var {i : Nat} : MB K O (tVar i) (mVar i) := fun Z σ H R ρ d ρ' Q S e k => by
  obtain ⟨e1, rfl⟩ := mVar_some e
  by_cases hi : i ∈ O
  · obtain ⟨l, vs, ds, h1, h2, h3, h4, h5⟩ := S.own i hi
    rw [e1] at h1
    cases h1
    exact ⟨.ref l, h2, k _ H R S (Stp.refl _ _ _ _) ((h5.mono S.same).rp h3)⟩
  · obtain ⟨v, h1, h2⟩ := S.env i d hi e1
    exact ⟨v, h1, k v H R S (Stp.refl _ _ _ _) (h2.mono S.same)⟩
theorem me_c {v : V} {d : D} (h : Sc v d) : ME K O (tC v) (mRet d) := fun Z σ H R ρ e ρ' Q S q k => by
  cases q
  exact k v H R S (Stp.refl _ _ _ _) h.rp
theorem me_int {i : Int} : ME K O (tC (.int i)) (mRet (.int i)) := me_c (.int i)
theorem me_str {x : Str} : ME K O (tC (.str x)) (mRet (.str x)) := me_c (.str x)
theorem me_bl {b : Bool} : ME K O (tC (.bl b)) (mRet (.bl b)) := me_c (.bl b)
theorem me_non : ME K O (tC .non) (mRet .non) := me_c .non
noncomputable def mOp2 (g : D → D → Option D) (fa fb : Rho → Option (D × Rho)) : Rho → Option (D × Rho) := mBind fa fun x => mBind fb fun y => mLift (g x y)
noncomputable def OpS (K : PySem.W.Frag) (r : R2) (g : D → D → Option D) : Prop := ∀ (H : Hp) (x y : V) (d e u : D) (Q : VK), Rp K H x d → Rp K H y e → g d e = some u → (∀ v, Sc v u → Q v H) → r x y H Q
noncomputable def OpG (K : PySem.W.Frag) (r : R2) (g : D → D → Option D) : Prop := ∀ (H R : Hp) (x y : V) (d e u : D) (Q : VK), (∀ a o, R a = some o → H a = some o) → Rp K R x d → Rp K R y e → g d e = some u → (∀ v H' R', Ext H R H' R' → Rp K R' v u → Q v H') → r x y H Q
theorem OpS.g {r : R2} {g : D → D → Option D} (h : OpS K r g) : OpG K r g := fun H R x y d e u Q s rx ry q k =>
  h H x y d e u Q (rx.mono s) (ry.mono s) q fun v z => k v H R (Ext.refl s) z.rp
theorem me_op {r : R2} {g : D → D → Option D} {fa fb : Rho → Option (D × Rho)} (h : OpG K r g) (ha : ME K O ta fa) (hb : ME K O tb fb) : ME K O (tOp r ta tb) (mOp2 g fa fb) := fun Z σ H R ρ d ρ' Q S e k => by
  obtain ⟨x, ρ1, e1, e⟩ := mBind_some e
  obtain ⟨y, ρ2, e2, e⟩ := mBind_some e
  obtain ⟨e3, rfl⟩ := mLift_some e
  refine ha Z σ H R ρ x ρ1 _ S e1 fun v H1 R1 S1 st1 r1 => hb Z σ H1 R1 ρ1 y _ _ S1 e2 fun w H2 R2 S2 st2 r2 => ?_
  exact h H2 R2 v w x y d Q S2.sub (r1.mono st2.r) r2 e3 fun z H3 R3 x3 r3 => k z H3 R3 (S2.ext x3) ((st1.trans st2).trans x3.stp) r3
theorem me_opB {r : R2} {g : D → D → Option D} {fa fb : Rho → Option (D × Rho)} (h : OpS K r g) (ha : ME K O ta fa) (hb : MB K O tb fb) : ME K O (tOp r ta tb) (mOp2 g fa fb) := fun Z σ H R ρ d ρ' Q S e k => by
  obtain ⟨x, ρ1, e1, e⟩ := mBind_some e
  obtain ⟨y, ρ2, e2, e⟩ := mBind_some e
  obtain ⟨e3, rfl⟩ := mLift_some e
  refine ha Z σ H R ρ x ρ1 _ S e1 fun v H1 R1 S1 st1 r1 => hb Z σ H1 R1 ρ1 y _ _ S1 e2 fun w H2 R2 S2 st2 r2 => ?_
  exact h H2 v w x y d Q ((r1.mono st2.r).mono S2.same) r2 e3 fun z q => k z H2 R2 S2 (st1.trans st2) q.rp
noncomputable def mOpO (g : D → D → Option D) (i : Nat) (fb : Rho → Option (D × Rho)) : Rho → Option (D × Rho) := mBind fb fun y => mBind (mVar i) fun x => mLift (g x y)
noncomputable def mIxO (i : Nat) (fb : Rho → Option (D × Rho)) : Rho → Option (D × Rho) := mBind fb fun y => mBind (mVar i) fun x => mLift (match x, y with
  | .lst xs, .int j => atI xs j
  | _, _ => none)
theorem atI_rps {R : Hp} {xs : List V} {ds : List D} {i : Int} {d : D} (r : Rps K R xs ds) (h : atI ds i = some d) : ∃ v, atI xs i = some v ∧ Rp K R v d := by
  unfold atI at h ⊢
  rw [r.length]
  cases e : ixN ds.length i with
  | none => rw [e] at h; cases h
  | some j =>
    rw [e] at h
    exact r.get h
theorem me_ixO {i : Nat} {fb : Rho → Option (D × Rho)} (hi : i ∈ O) (hb : ME K O tb fb) : ME K O (tOp (rIx K) (tVar i) tb) (mIxO i fb) := fun Z σ H R ρ d ρ' Q S e k => by
  obtain ⟨y, ρ1, e1, e⟩ := mBind_some e
  obtain ⟨x, ρ2, e2, e⟩ := mBind_some e
  obtain ⟨e3, rfl⟩ := mLift_some e
  obtain ⟨e4, rfl⟩ := mVar_some e2
  obtain ⟨l, vs, ds, h1, h2, h3, _⟩ := S.own i hi
  refine ⟨.ref l, h2, hb Z σ H R ρ y _ _ S e1 fun w H1 R1 S1 st1 r1 => ?_⟩
  obtain ⟨l', vs', ds', g1, g2, g3, g4, g5⟩ := S1.own i hi
  rw [h2] at g2
  cases g2
  rw [e4] at g1
  cases g1
  cases g5 with
  | lst g5 =>
    cases r1 with
    | int j =>
      obtain ⟨v, q1, q2⟩ := atI_rps g5 e3
      exact .inl ⟨l, _, j, v, rfl, rfl, SqL.of g3, q1, k v H1 R1 S1 st1 q2⟩
    | _ => cases e3
  | _ => cases r1 <;> cases e3
noncomputable def dIx : D → D → Option D
  | .lst xs, .int i => atI xs i
  | .tup xs, .int i => atI xs i
  | .str z, .int i => if z.length ≤ sizeLine then (atI z.cps.toList i).map fun c => .str ⟨#[c]⟩ else none
  | _, _ => none
theorem op_ix : OpG K (rIx K) dIx := fun H R x y d e u Q s rx ry q k => by
  unfold dIx at q
  split at q
  · rename_i xs i
    cases ry
    cases rx with
    | lst h r =>
      obtain ⟨v, q1, q2⟩ := atI_rps r q
      exact .inl ⟨_, _, i, v, rfl, rfl, Same.sqL s h, q1, k v H R (Ext.refl s) q2⟩
  · rename_i xs i
    cases ry
    cases rx with
    | tup h r =>
      obtain ⟨v, q1, q2⟩ := atI_rps r q
      exact .inr (.inl ⟨_, _, i, v, rfl, rfl, SqT.of (s _ _ h), q1, k v H R (Ext.refl s) q2⟩)
  · rename_i z i
    cases ry
    cases rx
    split at q
    · rename_i hz
      cases e' : atI z.cps.toList i with
      | none => rw [e'] at q; cases q
      | some c =>
        rw [e'] at q
        cases q
        exact .inr (.inr ⟨z, i, c, rfl, rfl, hz, e', k _ H R (Ext.refl s) (.str _)⟩)
    · cases q
  · cases q
noncomputable def dI2 (C : Int → Int → Bool) (g : Int → Int → Int) : D → D → Option D
  | .int i, .int j => if C i j = true then some (.int (g i j)) else none
  | _, _ => none
theorem op_i {C : Int → Int → Bool} {P : Int → Int → Prop} {g : Int → Int → Int} (hc : ∀ i j, C i j = true → P i j) : OpG K (rI P fun i j => .int (g i j)) (dI2 C g) := fun H R x y d e u Q s rx ry q k => by
  unfold dI2 at q
  split at q
  · rename_i i j
    split at q
    · rename_i h
      cases q
      cases rx
      cases ry
      exact ⟨i, j, rfl, rfl, hc i j h, k _ H R (Ext.refl s) (.int _)⟩
    · cases q
  · cases q
noncomputable def dI0 (g : Int → Int → Int) : D → D → Option D
  | .int i, .int j => some (.int (g i j))
  | _, _ => none
theorem op_i0 {g : Int → Int → Int} : OpG K (rI0 fun i j => .int (g i j)) (dI0 g) := fun H R x y d e u Q s rx ry q k => by
  unfold dI0 at q
  split at q
  · rename_i i j
    cases q
    cases rx
    cases ry
    exact ⟨i, j, rfl, rfl, k _ H R (Ext.refl s) (.int _)⟩
  · cases q
noncomputable def dB0 (g : Int → Int → Bool) : D → D → Option D
  | .int i, .int j => some (.bl (g i j))
  | _, _ => none
end
end L2
set_option Elab.async false
set_option linter.all false
set_option maxRecDepth 100000
set_option maxHeartbeats 4000000
namespace L2
open PySem PySem.Spec PyProof.Rows
section
variable {K : PySem.W.Frag} {Z : Anc} {O : List Nat} {t ta tb tc : TE} {tA tB' : TT} {tr : TA} {fa fb fc : Rho → Option (D × Rho)} {ga gb : Rho → Option (Bool × Rho)} {fs : Rho → Option (List D × Rho)}
noncomputable def mTest (f : Rho → Option (D × Rho)) : Rho → Option (Bool × Rho) := mBind f fun d => mLift (match d with
  | .bl b => some b
  | _ => none)
theorem mt_test (h : ME K O t fa) : MT K O (tTest t) (mTest fa) := fun Z σ H R ρ b ρ' Q S e k => by
  obtain ⟨d, ρ1, e1, e⟩ := mBind_some e
  obtain ⟨e2, rfl⟩ := mLift_some e
  refine h Z σ H R ρ d _ _ S e1 fun v H' R' S' st r => ?_
  cases r with
  | bl c => cases e2; exact ⟨_, rfl, k H' R' S' st⟩
  | _ => cases e2
theorem mt_val (h : ME K O t fa) : MT K O (tB t) (mTest fa) := fun Z σ H R ρ b ρ' Q S e k => by
  obtain ⟨d, ρ1, e1, e⟩ := mBind_some e
  obtain ⟨e2, rfl⟩ := mLift_some e
  refine h Z σ H R ρ d _ _ S e1 fun v H' R' S' st r => ?_
  cases r with
  | bl c => cases e2; exact ⟨_, rfl, k H' R' S' st⟩
  | _ => cases e2
noncomputable def mNot (f : Rho → Option (Bool × Rho)) : Rho → Option (Bool × Rho) := mBind f fun b => mRet (!b)
theorem mt_not (h : MT K O tA ga) : MT K O (tNot tA) (mNot ga) := fun Z σ H R ρ b ρ' Q S e k => by
  obtain ⟨c, ρ1, e1, e⟩ := mBind_some e
  cases e
  exact h Z σ H R ρ c _ _ S e1 fun H' R' S' st => k H' R' S' st
noncomputable def mAnd (f g : Rho → Option (Bool × Rho)) : Rho → Option (Bool × Rho) := mBind f fun b => if b = true then g else mRet false
noncomputable def mOr (f g : Rho → Option (Bool × Rho)) : Rho → Option (Bool × Rho) := mBind f fun b => if b = true then mRet true else g
theorem mt_and (h : MT K O tA ga) (h2 : MT K O tB' gb) : MT K O (tAnd tA tB') (mAnd ga gb) := fun Z σ H R ρ b ρ' Q S e k => by
  obtain ⟨c, ρ1, e1, e⟩ := mBind_some e
  refine h Z σ H R ρ c _ _ S e1 fun H' R' S' st => ?_
  cases c with
  | true => exact iteT (h2 Z σ H' R' ρ1 b ρ' Q S' e fun H2 R2 S2 st2 => k H2 R2 S2 (st.trans st2))
  | false => cases e; exact iteF (k H' R' S' st)
theorem mt_or (h : MT K O tA ga) (h2 : MT K O tB' gb) : MT K O (tOr tA tB') (mOr ga gb) := fun Z σ H R ρ b ρ' Q S e k => by
  obtain ⟨c, ρ1, e1, e⟩ := mBind_some e
  refine h Z σ H R ρ c _ _ S e1 fun H' R' S' st => ?_
  cases c with
  | true => cases e; exact iteT (k H' R' S' st)
  | false => exact iteF (h2 Z σ H' R' ρ1 b ρ' Q S' e fun H2 R2 S2 st2 => k H2 R2 S2 (st.trans st2))
noncomputable def mAndV (f g : Rho → Option (D × Rho)) : Rho → Option (D × Rho) := mBind (mTest f) fun b => if b = true then g else mRet (.bl false)
noncomputable def mOrV (f g : Rho → Option (D × Rho)) : Rho → Option (D × Rho) := mBind (mTest f) fun b => if b = true then mRet (.bl true) else g
noncomputable def mNotV (f : Rho → Option (D × Rho)) : Rho → Option (D × Rho) := mBind (mTest f) fun b => mRet (.bl (!b))
theorem me_and (h : ME K O ta fa) (h2 : ME K O tb fb) : ME K O (tAndV ta tb) (mAndV fa fb) := fun Z σ H R ρ d ρ' Q S e k => by
  obtain ⟨c, ρ1, e1, e⟩ := mBind_some e
  obtain ⟨x, ρ2, e1, e2⟩ := mBind_some e1
  obtain ⟨e2, rfl⟩ := mLift_some e2
  refine h Z σ H R ρ x _ _ S e1 fun v H' R' S' st r => ?_
  cases r with
  | bl b =>
    cases e2
    refine ⟨_, rfl, ?_⟩
    cases c with
    | true => exact iteT (h2 Z σ H' R' _ d ρ' Q S' e fun v H2 R2 S2 st2 r2 => k v H2 R2 S2 (st.trans st2) r2)
    | false => cases e; exact iteF (k _ H' R' S' st (.bl false))
  | _ => cases e2
theorem me_or (h : ME K O ta fa) (h2 : ME K O tb fb) : ME K O (tOrV ta tb) (mOrV fa fb) := fun Z σ H R ρ d ρ' Q S e k => by
  obtain ⟨c, ρ1, e1, e⟩ := mBind_some e
  obtain ⟨x, ρ2, e1, e2⟩ := mBind_some e1
  obtain ⟨e2, rfl⟩ := mLift_some e2
  refine h Z σ H R ρ x _ _ S e1 fun v H' R' S' st r => ?_
  cases r with
  | bl b =>
    cases e2
    refine ⟨_, rfl, ?_⟩
    cases c with
    | true => cases e; exact iteT (k _ H' R' S' st (.bl true))
    | false => exact iteF (h2 Z σ H' R' _ d ρ' Q S' e fun v H2 R2 S2 st2 r2 => k v H2 R2 S2 (st.trans st2) r2)
  | _ => cases e2
noncomputable def mIf (f : Rho → Option (Bool × Rho)) (g h : Rho → Option (D × Rho)) : Rho → Option (D × Rho) := mBind f fun b => if b = true then g else h
theorem me_if (h : MT K O tA ga) (h1 : ME K O ta fa) (h2 : ME K O tb fb) : ME K O (tIf tA ta tb) (mIf ga fa fb) := fun Z σ H R ρ d ρ' Q S e k => by
  obtain ⟨c, ρ1, e1, e⟩ := mBind_some e
  refine h Z σ H R ρ c _ _ S e1 fun H' R' S' st => ?_
  cases c with
  | true => exact iteT (h1 Z σ H' R' ρ1 d ρ' Q S' e fun v H2 R2 S2 st2 r2 => k v H2 R2 S2 (st.trans st2) r2)
  | false => exact iteF (h2 Z σ H' R' ρ1 d ρ' Q S' e fun v H2 R2 S2 st2 r2 => k v H2 R2 S2 (st.trans st2) r2)
noncomputable def mNil : Rho → Option (List D × Rho) := mRet []
noncomputable def mCons (f : Rho → Option (D × Rho)) (g : Rho → Option (List D × Rho)) : Rho → Option (List D × Rho) := mBind f fun x => mBind g fun xs => mRet (x :: xs)
theorem ma_nil : MA K O tNil mNil := fun Z σ H R ρ ds ρ' Q S e k => by
  cases e
  exact k [] H R S (Stp.refl _ _ _ _) .nil
theorem ma_cons (h : ME K O t fa) (h2 : MA K O tr fs) : MA K O (tCons t tr) (mCons fa fs) := fun Z σ H R ρ ds ρ' Q S e k => by
  obtain ⟨x, ρ1, e1, e⟩ := mBind_some e
  obtain ⟨xs, ρ2, e2, e⟩ := mBind_some e
  cases e
  refine h Z σ H R ρ x _ _ S e1 fun v H1 R1 S1 st1 r1 => h2 Z σ H1 R1 ρ1 xs _ _ S1 e2 fun vs H2 R2 S2 st2 r2 => ?_
  exact k (v :: vs) H2 R2 S2 (st1.trans st2) (.cons (r1.mono st2.r) r2)
noncomputable def mTup (f : Rho → Option (List D × Rho)) : Rho → Option (D × Rho) := mBind f fun xs => mLift (if xs.length ≤ sizeLine then some (.tup xs) else none)
theorem me_tup (h : MA K O tr fs) : ME K O (tTup tr) (mTup fs) := fun Z σ H R ρ d ρ' Q S e k => by
  obtain ⟨xs, ρ1, e1, e⟩ := mBind_some e
  obtain ⟨e2, rfl⟩ := mLift_some e
  refine h Z σ H R ρ xs _ _ S e1 fun vs H1 R1 S1 st1 r1 => ?_
  split at e2
  · rename_i hz
    cases e2
    refine ⟨by rw [r1.length]; exact hz, fun p np => ?_⟩
    have x := Ext.new (o := .tup vs) S1.sub np
    exact k _ _ _ (S1.ext x) (st1.trans x.stp) (.tup upd_same (r1.mono x.r))
  · cases e2
noncomputable def mLst (f : Rho → Option (List D × Rho)) : Rho → Option (List D × Rho) := mBind f fun xs => mLift (if xs.length ≤ sizeLine then some xs else none)
theorem StR.out {σ : St} {H R : Hp} {ρ : Rho} {l : Addr} (S : StR K Z O σ H R ρ) (h : H l = none) : R l = none := by
  cases q : R l with
  | none => rfl
  | some o => rw [S.sub l o q] at h; cases h
theorem Stp.new {σ : St} {H R H' R' : Hp} {l : Addr} (x : Stp O σ H R H' R') (h : H' l = none) : H l = none := by
  cases q : H l with
  | none => rfl
  | some o => exact absurd h (x.d l (by rw [q]; exact fun z => nomatch z)).1
theorem mn_lst (h : MA K O tr fs) : MN K O (tLst tr) (mLst fs) := fun Z σ H R ρ ds ρ' Q S e k => by
  obtain ⟨xs, ρ1, e1, e⟩ := mBind_some e
  obtain ⟨e2, rfl⟩ := mLift_some e
  refine h Z σ H R ρ xs _ _ S e1 fun vs H1 R1 S1 st1 r1 => ?_
  split at e2
  · rename_i hz
    cases e2
    refine ⟨by rw [r1.length]; exact hz, fun p np => ?_⟩
    have x := Ext.hid (o := .lst vs) S1.sub np
    exact k p vs _ _ (S1.ext x) (st1.trans x.stp) (st1.new np) upd_same (S1.out np) r1
  · cases e2
noncomputable def CallS (K : PySem.W.Frag) (r : List V → Hp → VK → Prop) (g : D → Option D) : Prop := ∀ (H : Hp) (x : V) (d u : D) (Q : VK), Rp K H x d → g d = some u → (∀ v, Sc v u → Q v H) → r [x] H Q
noncomputable def mOp1 (g : D → Option D) (f : Rho → Option (D × Rho)) : Rho → Option (D × Rho) := mBind f fun x => mLift (g x)
theorem me_call1 {r : List V → Hp → VK → Prop} {g : D → Option D} (h : CallS K r g) (ha : MB K O t fa) : ME K O (tCB r (tCons t tNil)) (mOp1 g fa) := fun Z σ H R ρ d ρ' Q S e k => by
  obtain ⟨x, ρ1, e1, e⟩ := mBind_some e
  obtain ⟨e2, rfl⟩ := mLift_some e
  refine ha Z σ H R ρ x _ _ S e1 fun v H1 R1 S1 st1 r1 => ?_
  exact h H1 v x d Q r1 e2 fun w z => k w H1 R1 S1 st1 z.rp
noncomputable def dLen : D → Option D
  | .lst xs => some (.int xs.length)
  | .tup xs => some (.int xs.length)
  | _ => none
theorem cs_len : CallS K (fun xs H Q => ∃ p ys, xs = [.ref p] ∧ (SqL K H p ys ∨ SqT K H p ys) ∧ Q (.int ys.length) H) dLen := fun H x d u Q r e k => by
  cases r with
  | lst h q =>
    cases e
    refine ⟨_, _, rfl, .inl h, ?_⟩
    rw [q.length]
    exact k _ (.int _)
  | tup h q =>
    cases e
    refine ⟨_, _, rfl, .inr (SqT.of h), ?_⟩
    rw [q.length]
    exact k _ (.int _)
  | _ => cases e
noncomputable def dInt : D → Option D
  | .int i => some (.int i)
  | .bl b => some (.int (if b then 1 else 0))
  | _ => none
theorem cs_int : CallS K (fun xs H Q => (∃ i, xs = [.int i] ∧ Q (.int i) H) ∨ ∃ k, xs = [.bl k] ∧ Q (.int (if k then 1 else 0)) H) dInt := fun H x d u Q r e k => by
  cases r with
  | int i => cases e; exact .inl ⟨i, rfl, k _ (.int _)⟩
  | bl b => cases e; exact .inr ⟨b, rfl, k _ (.int _)⟩
  | _ => cases e
noncomputable def intsD : List D → Option (List Int)
  | [] => some []
  | .int i :: r => (intsD r).map (i :: ·)
  | _ => none
noncomputable def boolsD : List D → Option (List Bool)
  | [] => some []
  | .bl i :: r => (boolsD r).map (i :: ·)
  | _ => none
theorem boolsD_rps {R : Hp} : ∀ {xs : List V} {ds : List D} {ns : List Bool}, Rps K R xs ds → boolsD ds = some ns → xs = ns.map V.bl
  | _, _, ns, .nil, e => by cases e; rfl
  | _, _, ns, .cons (d := d) h r, e => by
    cases h with
    | bl i =>
      unfold boolsD at e
      cases q : boolsD _ with
      | none => rw [q] at e; cases e
      | some ms => rw [q] at e; cases e; rw [boolsD_rps r q]; rfl
    | _ => cases e
noncomputable def dSum : D → Option D
  | .lst xs => (intsD xs).map fun ns => .int ns.sum
  | _ => none
noncomputable def dAll : D → Option D
  | .lst xs => (boolsD xs).map fun bs => .bl (bs.all id)
  | _ => none
theorem cs_all : CallS K (fun xs H Q => ∃ (p : Addr) (bs : List Bool), xs = [.ref p] ∧ SqL K H p (bs.map V.bl) ∧ Q (.bl (bs.all id)) H) dAll := fun H x d u Q r e k => by
  cases r with
  | lst h q =>
    rename_i ds
    have e' : (boolsD ds).map (fun bs => D.bl (bs.all id)) = some u := e
    cases z : boolsD ds with
    | none => rw [z] at e'; cases e'
    | some ns =>
      rw [z] at e'
      cases e'
      have ex := boolsD_rps q z
      subst ex
      exact ⟨_, ns, rfl, h, k _ (.bl _)⟩
  | _ => cases e
end
end L2
set_option Elab.async false
set_option linter.all false
set_option maxRecDepth 100000
set_option maxHeartbeats 4000000
namespace L2
open PySem PySem.Spec PyProof.Rows
noncomputable def ItOk (K : PySem.W.Frag) (J : It) (R : Hp) (ds : List D) : Prop := ∀ (H' R' : Hp), Same R R' → (∀ a o, R' a = some o → H' a = some o) → ∀ i : Nat, (i = ds.length → J.stop i H') ∧ ∀ d, ds[i]? = some d → J.go i H' ∧ ∀ x H'', J.yld i H' x H'' → ∃ R'', Ext H' R' H'' R'' ∧ Rp K R'' x d
theorem ItOk.mono {K : PySem.W.Frag} {J : It} {R R1 : Hp} {ds : List D} (h : ItOk K J R ds) (s : Same R R1) : ItOk K J R1 ds := fun H' R' s' b => h H' R' (s.trans s') b
noncomputable def MI (K : PySem.W.Frag) (O : List Nat) (wi : TI) (f : Rho → Option (List D × Rho)) : Prop := ∀ (Z : Anc) (σ : St) (H R : Hp) (ρ : Rho) (ds : List D) (ρ' : Rho) (Q : It → Hp → Prop), StR K Z O σ H R ρ → f ρ = some (ds, ρ') → (∀ J H' R', StR K Z O σ H' R' ρ' → Stp O σ H R H' R' → ItOk K J R' ds → Q J H') → wi σ H Q
noncomputable def iSeq (K : PySem.W.Frag) (tl : TE) : TI := fun σ H R => iList K tl σ H R ∨ iTup K tl σ H R
theorem pi_seqK {X : Cx} {K : PySem.W.Frag} {tg l : Expr} {tl : TE} (h : X.K = K) (hl : PE X l tl) : PI X tg l (iSeq K tl) := fun pins s σ H R I q => by
  rcases q with q | q
  · exact pi_listK h hl pins s σ H R I q
  · exact pi_tupK h hl pins s σ H R I q
noncomputable def mSeq (f : Rho → Option (D × Rho)) : Rho → Option (List D × Rho) := mBind f fun d => mLift (match d with
  | .lst xs => some xs
  | .tup xs => some xs
  | _ => none)
section
variable {K : PySem.W.Frag} {O : List Nat} {t : TE} {tr : TA} {fa : Rho → Option (D × Rho)} {fs : Rho → Option (List D × Rho)}
theorem it_list {R : Hp} {a : Addr} {xs : List V} {ds : List D} (h : SqL K R a xs) (r : Rps K R xs ds) : ItOk K (Itl K a) R ds := fun H' R' s b i => by
  have q : SqL K H' a xs := Same.sqL b (Same.sqL s h)
  refine ⟨fun e => ⟨xs, q, by rw [r.length]; omega⟩, fun d e => ?_⟩
  obtain ⟨v, h1, h2⟩ := r.get e
  refine ⟨⟨xs, v, q, h1⟩, fun x H'' y => ?_⟩
  obtain ⟨rfl, y⟩ := y
  have ex := y xs q
  rw [h1] at ex
  cases ex
  exact ⟨R', Ext.refl b, h2.mono s⟩
theorem it_tup {R : Hp} {a : Addr} {xs : List V} {ds : List D} (h : SqT K R a xs) (r : Rps K R xs ds) : ItOk K (Itt K a) R ds := fun H' R' s b i => by
  have q : SqT K H' a xs := Same.tup b (Same.tup s h)
  refine ⟨fun e => ⟨xs, q, by rw [r.length]; omega⟩, fun d e => ?_⟩
  obtain ⟨v, h1, h2⟩ := r.get e
  refine ⟨⟨xs, v, q, h1⟩, fun x H'' y => ?_⟩
  obtain ⟨rfl, y⟩ := y
  have ex := y xs q
  rw [h1] at ex
  cases ex
  exact ⟨R', Ext.refl b, h2.mono s⟩
theorem mi_seq (h : ME K O t fa) : MI K O (iSeq K t) (mSeq fa) := fun Z σ H R ρ ds ρ' Q S e k => by
  obtain ⟨d, ρ1, e1, e⟩ := mBind_some e
  obtain ⟨e2, rfl⟩ := mLift_some e
  cases d with
  | lst xs =>
    cases e2
    refine .inl (h Z σ H R ρ _ _ _ S e1 fun v H1 R1 S1 st1 r1 => ?_)
    cases r1 with
    | lst q r => exact ⟨_, rfl, ⟨_, Same.sqL S1.same q⟩, k _ H1 R1 S1 st1 (it_list q r)⟩
  | tup xs =>
    cases e2
    refine .inr (h Z σ H R ρ _ _ _ S e1 fun v H1 R1 S1 st1 r1 => ?_)
    cases r1 with
    | tup q r => exact ⟨_, rfl, ⟨_, SqT.of (S1.same _ _ q)⟩, k _ H1 R1 S1 st1 (it_tup (SqT.of q) r)⟩
  | _ => cases e2
noncomputable def rangeD (lo : Int) (n : Nat) : List D := (List.range n).map fun (k : Nat) => D.int (lo + (k : Int))
theorem it_range {R : Hp} (lo : Int) (n : Nat) : ItOk K (Itr lo n) R (rangeD lo n) := fun H' R' s b i => by
  have len : (rangeD lo n).length = n := by simp [rangeD]
  refine ⟨fun e => by show n ≤ i; omega, fun d e => ?_⟩
  have hi : i < n := by
    have := (List.getElem?_eq_some_iff.mp e).1
    omega
  have ed : d = D.int (lo + (i : Int)) := by
    unfold rangeD at e
    rw [List.getElem?_map, List.getElem?_range hi] at e
    exact (Option.some.inj e).symm
  subst ed
  refine ⟨hi, fun x H'' y => ?_⟩
  obtain ⟨rfl, rfl⟩ := y
  exact ⟨R', Ext.refl b, .int _⟩
noncomputable def big (j : Int) : Bool := decide (-(2 ^ 62) ≤ j) && decide (j < 2 ^ 62)
noncomputable def mRng1 (f : Rho → Option (List D × Rho)) : Rho → Option (List D × Rho) := mBind f fun ds => mLift (match ds with
  | [.int j] => if big j = true then some (rangeD 0 j.toNat) else none
  | _ => none)
theorem mi_range1 (h : MA K O tr fs) : MI K O (iRng1 tr) (mRng1 fs) := fun Z σ H R ρ ds ρ' Q S e k => by
  obtain ⟨xs, ρ1, e1, e⟩ := mBind_some e
  obtain ⟨e2, rfl⟩ := mLift_some e
  split at e2
  · rename_i j
    split at e2
    · rename_i hb
      cases e2
      refine h Z σ H R ρ _ _ _ S e1 fun vs H1 R1 S1 st1 r1 => ?_
      cases r1 with
      | cons q r =>
        cases r
        cases q
        unfold big at hb
        rw [Bool.and_eq_true] at hb
        exact ⟨j, rfl, of_decide_eq_true hb.1, of_decide_eq_true hb.2, k _ H1 R1 S1 st1 (it_range 0 _)⟩
    · cases e2
  · cases e2
noncomputable def mRng2 (f : Rho → Option (List D × Rho)) : Rho → Option (List D × Rho) := mBind f fun ds => mLift (match ds with
  | [.int i, .int j] => if (big i && big j) = true then some (rangeD i (j - i).toNat) else none
  | _ => none)
theorem mi_range2 (h : MA K O tr fs) : MI K O (iRng2 tr) (mRng2 fs) := fun Z σ H R ρ ds ρ' Q S e k => by
  obtain ⟨xs, ρ1, e1, e⟩ := mBind_some e
  obtain ⟨e2, rfl⟩ := mLift_some e
  split at e2
  · rename_i i j
    split at e2
    · rename_i hb
      cases e2
      refine h Z σ H R ρ _ _ _ S e1 fun vs H1 R1 S1 st1 r1 => ?_
      cases r1 with
      | cons q r =>
        cases r with
        | cons q2 r =>
          cases r
          cases q
          cases q2
          unfold big at hb
          simp only [Bool.and_eq_true, decide_eq_true_eq] at hb
          exact ⟨i, j, rfl, ⟨hb.1.1, hb.1.2, hb.2.1, hb.2.2⟩, k _ H1 R1 S1 st1 (it_range i _)⟩
    · cases e2
  · cases e2
end
end L2
set_option Elab.async false
set_option linter.all false
set_option maxRecDepth 100000
set_option maxHeartbeats 4000000
namespace L2
open PySem PySem.Spec PyProof.Rows
noncomputable def MG (K : PySem.W.Frag) (O T : List Nat) (g : TG) (f : D → Rho → Option Rho) : Prop := ∀ (Z : Anc) (σ : St) (H R : Hp) (ρ : Rho) (x : V) (d : D) (ρ' : Rho) (Q : St → Hp → Prop), StR K Z O σ H R ρ → Rp K R x d → f d ρ = some ρ' → (∀ σ', StR K Z O σ' H R ρ' → (∀ j, j ∉ T → σ'[j]? = σ[j]?) → Q σ' H) → g x σ H Q
noncomputable def MGs (K : PySem.W.Frag) (O T : List Nat) (g : TGs) (f : List D → Rho → Option Rho) : Prop := ∀ (Z : Anc) (σ : St) (H R : Hp) (ρ : Rho) (xs : List V) (ds : List D) (ρ' : Rho) (Q : St → Hp → Prop), StR K Z O σ H R ρ → Rps K R xs ds → f ds ρ = some ρ' → (∀ σ', StR K Z O σ' H R ρ' → (∀ j, j ∉ T → σ'[j]? = σ[j]?) → Q σ' H) → g xs σ H Q
noncomputable def gSet (i : Nat) : D → Rho → Option Rho := fun d ρ => some (ρ.set i (some d))
noncomputable def gsNil : List D → Rho → Option Rho := fun ds ρ => match ds with
  | [] => some ρ
  | _ => none
noncomputable def gsCons (f : D → Rho → Option Rho) (g : List D → Rho → Option Rho) : List D → Rho → Option Rho := fun ds ρ => match ds with
  | d :: r => match f d ρ with
    | some ρ1 => g r ρ1
    | none => none
  | [] => none
noncomputable def gTupD (n : Nat) (f : List D → Rho → Option Rho) : D → Rho → Option Rho := fun d ρ => match d with
  | .tup ds => if ds.length = n then f ds ρ else none
  | _ => none
section
variable {K : PySem.W.Frag} {O T T' : List Nat} {g : TG} {gs : TGs} {f : D → Rho → Option Rho} {fs : List D → Rho → Option Rho}
theorem mg_name {i : Nat} (hi : i ∉ O) : MG K O [i] (gName i) (gSet i) := fun Z σ H R ρ x d ρ' Q S r e k => by
  cases e
  exact k _ (S.set hi r) fun j hj => List.getElem?_set_ne (fun (z : i = j) => hj (by rw [z]; exact List.mem_singleton_self j))
theorem mgs_nil : MGs K O [] gNil gsNil := fun Z σ H R ρ xs ds ρ' Q S r e k => by
  cases r with
  | nil => cases e; exact ⟨rfl, k σ S fun _ _ => rfl⟩
  | cons _ _ => cases e
theorem mgs_cons (h : MG K O T g f) (h2 : MGs K O T' gs fs) : MGs K O (T ++ T') (gCons g gs) (gsCons f fs) := fun Z σ H R ρ xs ds ρ' Q S r e k => by
  cases r with
  | nil => cases e
  | cons q r =>
    rename_i x xs d ds
    unfold gsCons at e
    cases e1 : f d ρ with
    | none => simp only [e1] at e; cases e
    | some ρ1 =>
      simp only [e1] at e
      refine ⟨x, xs, rfl, h Z σ H R ρ x d ρ1 _ S q e1 fun σ1 S1 n1 => h2 Z σ1 H R ρ1 xs ds ρ' _ S1 r e fun σ2 S2 n2 => ?_⟩
      refine k σ2 S2 fun j hj => ?_
      rw [List.mem_append, not_or] at hj
      rw [n2 j hj.2, n1 j hj.1]
theorem mg_tup {n : Nat} (h : MGs K O T gs fs) : MG K O T (gTup K n gs) (gTupD n fs) := fun Z σ H R ρ x d ρ' Q S r e k => by
  cases r with
  | tup q rs =>
    unfold gTupD at e
    simp only at e
    split at e
    · rename_i hn
      exact ⟨_, _, rfl, SqT.of (S.same _ _ q), by rw [rs.length]; exact hn, h Z σ H R ρ _ _ ρ' Q S rs e k⟩
    · cases e
  | _ => cases e
end
noncomputable def capsR (n : Nat) (js : List Nat) (ρ : Rho) : Rho := List.replicate n none ++ js.map fun j => (ρ[j]?).join
noncomputable def bwO : Option (Nat × Nat) → List Nat
  | none => []
  | some p => [p.2]
noncomputable def backR (bw : Option (Nat × Nat)) (ρ ρb : Rho) : Rho := match bw with
  | none => ρ
  | some p => match ρb[p.2]? with
    | some x => ρ.set p.1 x
    | none => ρ
noncomputable def bwOk (n : Nat) (js O : List Nat) (bw : Option (Nat × Nat)) : Bool := match bw with
  | none => js.all fun j => !O.contains j
  | some p => O.contains p.1 && decide (n ≤ p.2) && decide (js[p.2 - n]? = some p.1) && (List.range js.length).all fun k => decide (n + k = p.2) || !O.contains (js.getD k 0)
noncomputable def compRun (n : Nat) (js : List Nat) (bw : Option (Nat × Nat)) (fg : D → Rho → Option Rho) (ft : Rho → Option (Bool × Rho)) (fe : Rho → Option (D × Rho)) : List D → Rho → Option (List D × Rho)
  | [], ρ => some ([], ρ)
  | d :: r, ρ => match fg d (capsR n js ρ) with
    | none => none
    | some ρ1 => match ft ρ1 with
      | none => none
      | some (false, ρ2) => compRun n js bw fg ft fe r (backR bw ρ ρ2)
      | some (true, ρ2) => match fe ρ2 with
        | none => none
        | some (y, ρ3) => match compRun n js bw fg ft fe r (backR bw ρ ρ3) with
          | none => none
          | some (ys, ρ4) => some (y :: ys, ρ4)
section
variable {K : PySem.W.Frag} {Z Z' : Anc} {O : List Nat} {σ σ4 : St} {H R H6 R6 : Hp} {ρ ρ3 : Rho} {n : Nat} {js : List Nat} {bw : Option (Nat × Nat)}
theorem capsR_len : (capsR n js ρ).length = n + js.length := by simp [capsR]
theorem capsR_cap {i : Nat} {d : D} (e : (capsR n js ρ)[i]? = some (some d)) : n ≤ i ∧ ∃ j, js[i - n]? = some j ∧ ρ[j]? = some (some d) := by
  unfold capsR at e
  by_cases h : i < n
  · rw [List.getElem?_append_left (by simpa using h), List.getElem?_replicate, if_pos h] at e
    cases e
  · refine ⟨by omega, ?_⟩
    rw [List.getElem?_append_right (by simp; omega), List.length_replicate, List.getElem?_map] at e
    cases q : js[i - n]? with
    | none => rw [q] at e; cases e
    | some j =>
      rw [q] at e
      refine ⟨j, rfl, ?_⟩
      have e' : (ρ[j]?).join = some d := Option.some.inj e
      cases z : ρ[j]? with
      | none => rw [z] at e'; cases e'
      | some o => rw [z] at e'; have : o = some d := e'; rw [this]
theorem capsR_at {i j : Nat} (h : n ≤ i) (e : js[i - n]? = some j) {d : D} (q : ρ[j]? = some (some d)) : (capsR n js ρ)[i]? = some (some d) := by
  unfold capsR
  rw [List.getElem?_append_right (by simp; omega), List.length_replicate, List.getElem?_map, e]
  show some ((ρ[j]?).join) = _
  rw [q]
  rfl
theorem caps_at {i j : Nat} (h : n ≤ i) (e : js[i - n]? = some j) {v : V} (q : σ[j]? = some (some v)) : (caps n js σ)[i]? = some (some v) := by
  unfold caps
  rw [List.getElem?_append_right (by simp; omega), List.length_replicate, List.getElem?_map, e]
  show some ((σ[j]?).join) = _
  rw [q]
  rfl
noncomputable def bwL (bw : Option (Nat × Nat)) (σ : St) : Addr → Prop := match bw with
  | none => fun _ => False
  | some p => fun l => σ[p.1]? = some (some (.ref l))
theorem StR.block (S : StR K Z O σ H R ρ) (hb : bwOk n js O bw = true) : StR K ⟨H, R, bwL bw σ, bwO bw⟩ (bwO bw) (caps n js σ) H R (capsR n js ρ) := by
  have noO : ∀ i j, n ≤ i → js[i - n]? = some j → i ∉ bwO bw → j ∉ O := fun i j hi hj hn hO => by
    cases bw with
    | none =>
      unfold bwOk at hb
      have z := List.all_eq_true.mp hb j (List.mem_of_getElem? hj)
      simp at z
      exact z hO
    | some p =>
      unfold bwOk at hb
      simp only [Bool.and_eq_true] at hb
      have hk : i - n < js.length := (List.getElem?_eq_some_iff.mp hj).1
      have z := List.all_eq_true.mp hb.2 (i - n) (List.mem_range.mpr hk)
      have ej : js.getD (i - n) 0 = j := by rw [List.getD_eq_getElem?_getD, hj]; rfl
      rw [ej] at z
      simp only [Bool.or_eq_true, decide_eq_true_eq] at z
      rcases z with z | z
      · exact hn (by show i ∈ [p.2]; rw [List.mem_singleton]; omega)
      · simp at z; exact z hO
  have inO : ∀ p, bw = some p → p.1 ∈ O ∧ n ≤ p.2 ∧ js[p.2 - n]? = some p.1 := fun p e => by
    subst e
    unfold bwOk at hb
    simp only [Bool.and_eq_true, decide_eq_true_eq] at hb
    exact ⟨by simpa using hb.1.1.1, hb.1.1.2, hb.1.2⟩
  have only : ∀ i, i ∈ bwO bw → ∃ p, bw = some p ∧ i = p.2 := fun i hi => by
    cases bw with
    | none => exact absurd hi (by simp [bwO])
    | some p => exact ⟨p, rfl, by simpa [bwO] using hi⟩
  refine ⟨S.sub, by rw [capsR_len, caps_len], fun i d hi e => ?_, fun i hi => ?_, fun i j hi hj hn => ?_, fun a o e _ => e, Same.refl _, fun a h => .inl h, fun a h => .refl h, fun i hi hp => absurd hi hp, fun i hi _ l e => ?_⟩
  · obtain ⟨h1, j, h2, h3⟩ := capsR_cap e
    obtain ⟨v, q1, q2⟩ := S.env j d (noO i j h1 h2 hi) h3
    exact ⟨v, caps_at h1 h2 q1, q2⟩
  · obtain ⟨p, rfl, rfl⟩ := only i hi
    obtain ⟨h1, h2, h3⟩ := inO p rfl
    obtain ⟨l, vs, ds, q1, q2, q3⟩ := S.own p.1 h1
    exact ⟨l, vs, ds, capsR_at h2 h3 q1, caps_at h2 h3 q2, q3⟩
  · obtain ⟨p, rfl, rfl⟩ := only i hi
    obtain ⟨p', e, rfl⟩ := only j hj
    cases e
    exact absurd rfl hn
  · obtain ⟨p, rfl, rfl⟩ := only i hi
    obtain ⟨h1, h2, h3⟩ := inO p rfl
    obtain ⟨l', vs, ds, q1, q2, q3⟩ := S.own p.1 h1
    rw [caps_at h2 h3 q2] at e
    cases e
    exact q2
theorem StR.back (S : StR K Z O σ H R ρ) (hb : bwOk n js O bw = true) (Sb : StR K Z' (bwO bw) σ4 H6 R6 ρ3) (st : Stp (bwO bw) σ4 H R H6 R6) (hσ : ∀ p, bw = some p → σ4[p.2]? = σ[p.1]?) :
    StR K Z O σ H6 R6 (backR bw ρ ρ3) ∧ Stp O σ H R H6 R6 := by
  have inO : ∀ p, bw = some p → p.1 ∈ O := fun p e => by
    subst e
    unfold bwOk at hb
    simp only [Bool.and_eq_true, decide_eq_true_eq] at hb
    simpa using hb.1.1.1
  have only : ∀ i, i ∈ bwO bw → ∃ p, bw = some p ∧ i = p.2 := fun i hi => by
    cases bw with
    | none => exact absurd hi (by simp [bwO])
    | some p => exact ⟨p, rfl, by simpa [bwO] using hi⟩
  have st' : Stp O σ H R H6 R6 := ⟨st.r, fun a o e n => st.h a o e fun i hi z => by
    obtain ⟨p, e1, rfl⟩ := only i hi
    rw [hσ p e1] at z
    exact n p.1 (inO p e1) z, st.n, st.d⟩
  have keepH0 : ∀ a o, Z.H0 a = some o → ¬ Z.L a → H6 a = some o := fun a o e n => by
    refine st'.h a o (S.ah a o e n) fun i hi z => ?_
    by_cases hp : i ∈ Z.P
    · exact n (S.ap i hi hp a z)
    · rw [S.ao i hi hp a z] at e; cases e
  have len : (backR bw ρ ρ3).length = ρ.length := by
    unfold backR
    cases bw with
    | none => rfl
    | some p =>
      dsimp only
      split
      · rw [List.length_set]
      · rfl
  have other : ∀ i, (∀ p, bw = some p → p.1 ≠ i) → (backR bw ρ ρ3)[i]? = ρ[i]? := fun i h => by
    unfold backR
    cases bw with
    | none => rfl
    | some p =>
      dsimp only
      split
      · rw [List.getElem?_set_ne (h p rfl)]
      · rfl
  refine ⟨⟨Sb.sub, by rw [len]; exact S.len, fun i d hi e => ?_, fun i hi => ?_, S.dis, keepH0, S.ar.trans st.r, fun a h => ?_, fun a h => (S.ad a h).trans (st.d a (S.ad a h).1), S.ao, S.ap⟩, st'⟩
  · rw [other i fun p e1 z => hi (z ▸ inO p e1)] at e
    obtain ⟨v, h1, h2⟩ := S.env i d hi e
    exact ⟨v, h1, h2.mono st.r⟩
  · by_cases hp : ∃ p, bw = some p ∧ p.1 = i
    · obtain ⟨p, rfl, rfl⟩ := hp
      obtain ⟨l, vs, ds, q1, q2, q3, q4, q5⟩ := Sb.own p.2 (by simp [bwO])
      rw [hσ p rfl] at q2
      obtain ⟨_, _, _, g1, _⟩ := S.own p.1 hi
      have hlen : p.1 < ρ.length := (List.getElem?_eq_some_iff.mp g1).1
      refine ⟨l, vs, ds, ?_, q2, q3, q4, q5⟩
      unfold backR
      dsimp only
      rw [q1]
      exact List.getElem?_set_self hlen
    · have hne : ∀ p, bw = some p → p.1 ≠ i := fun p e z => hp ⟨p, e, z⟩
      obtain ⟨l, vs, ds, q1, q2, q3, q4, q5⟩ := S.own i hi
      have nob : ∀ j, j ∈ bwO bw → σ4[j]? ≠ some (some (.ref l)) := fun j hj z => by
        obtain ⟨p, e1, rfl⟩ := only j hj
        rw [hσ p e1] at z
        exact S.dis p.1 i (inO p e1) hi (hne p e1) l z q2
      refine ⟨l, vs, ds, by rw [other i hne]; exact q1, q2, st.h l _ q3 nob, ?_, q5.mono st.r⟩
      cases q : R6 l with
      | none => rfl
      | some o =>
        rcases st.n l (by rw [q]; exact fun z => nomatch z) with z | z
        · exact absurd q4 z
        · exact (q5.noF q3 z).elim
  · rcases st.n a h with z | z
    · exact S.an a z
    · exact .inr (z.back (S.ad a))
end
theorem cgo_mirror {K : PySem.W.Frag} {Z : Anc} {O T : List Nat} {σ : St} {H R : Hp} {ρ ρ' : Rho} {n : Nat} {js : List Nat} {bw : Option (Nat × Nat)} {g : TG} {tt : TT} {te : TE} {fg : D → Rho → Option Rho} {ft : Rho → Option (Bool × Rho)} {fe : Rho → Option (D × Rho)} {J : It} {ds ys : List D} {Fin : List V → Hp → Prop}
    (hb : bwOk n js O bw = true) (hg : MG K (bwO bw) T g fg) (hT : ∀ p, bw = some p → p.2 ∉ T) (ht : MT K (bwO bw) tt ft) (he : ME K (bwO bw) te fe) (S : StR K Z O σ H R ρ) (ok : ItOk K J R ds) (e : compRun n js bw fg ft fe ds ρ = some (ys, ρ')) (hz : ds.length ≤ sizeLine)
    (fin : ∀ vs H' R', StR K Z O σ H' R' ρ' → Stp O σ H R H' R' → Rps K R' vs ys → vs.length ≤ sizeLine → Fin vs H') : cGo g tt te (caps n js σ) Fin J H := by
  refine ⟨fun i m vs H2 => m = ds.length - i ∧ i ≤ ds.length ∧ vs.length ≤ i ∧ ∃ R2 ρ2 ys1 ys2, StR K Z O σ H2 R2 ρ2 ∧ Stp O σ H R H2 R2 ∧ Rps K R2 vs ys1 ∧ compRun n js bw fg ft fe (ds.drop i) ρ2 = some (ys2, ρ') ∧ ys1 ++ ys2 = ys,
    ⟨ds.length, by simp, Nat.zero_le _, Nat.zero_le _, R, ρ, [], ys, S, Stp.refl _ _ _ _, .nil, by rw [List.drop_zero]; exact e, rfl⟩, ?_⟩
  rintro i m vs H2 ⟨rfl, hi, hv, R2, ρ2, ys1, ys2, S2, st2, r2, e2, ey⟩
  obtain ⟨o1, o2⟩ := ok H2 R2 st2.r S2.sub i
  by_cases hlt : i < ds.length
  · obtain ⟨g1, g2⟩ := o2 ds[i] (List.getElem?_eq_getElem hlt)
    rw [List.drop_eq_getElem_cons hlt] at e2
    refine .inr ⟨g1, by omega, fun vs' H' => ∃ R' ρ2 ys1 ys2, vs'.length ≤ i + 1 ∧ StR K Z O σ H' R' ρ2 ∧ Stp O σ H R H' R' ∧ Rps K R' vs' ys1 ∧ compRun n js bw fg ft fe (ds.drop (i + 1)) ρ2 = some (ys2, ρ') ∧ ys1 ++ ys2 = ys, ?_, fun x H3 y => ?_⟩
    · rintro vs' H' ⟨R', ρ3, zs1, zs2, q0, q1, q2, q3, q4, q5⟩
      exact ⟨ds.length - (i + 1), by omega, rfl, hlt, q0, R', ρ3, zs1, zs2, q1, q2, q3, q4, q5⟩
    · obtain ⟨R3, x3, r3⟩ := g2 x H3 y
      have S3 := S2.ext x3
      have B3 := S3.block hb
      unfold compRun at e2
      cases e3 : fg ds[i] (capsR n js ρ2) with
      | none => rw [e3] at e2; cases e2
      | some ρb1 =>
        rw [e3] at e2
        dsimp only at e2
        refine hg _ _ _ _ _ x _ ρb1 _ B3 r3 e3 fun σ4 S4 n4 => ?_
        have cap : ∀ p, bw = some p → σ4[p.2]? = σ[p.1]? := fun p e1 => by
          rw [n4 p.2 (hT p e1)]
          subst e1
          unfold bwOk at hb
          simp only [Bool.and_eq_true, decide_eq_true_eq] at hb
          obtain ⟨l, _, _, _, q2, _⟩ := S3.own p.1 (by simpa using hb.1.1.1)
          rw [caps_at hb.1.1.2 hb.1.2 q2, q2]
        cases e4 : ft ρb1 with
        | none => rw [e4] at e2; cases e2
        | some c =>
          obtain ⟨b, ρb2⟩ := c
          rw [e4] at e2
          refine ht _ σ4 H3 R3 ρb1 b ρb2 _ S4 e4 fun H5 R5 S5 st5 => ?_
          cases b with
          | false =>
            dsimp only at e2
            obtain ⟨T1, T2⟩ := S3.back hb S5 st5 cap
            exact iteF ⟨R5, _, ys1, ys2, by omega, T1, (st2.trans x3.stp).trans T2, (r2.mono x3.r).mono st5.r, e2, ey⟩
          | true =>
            dsimp only at e2
            cases e5 : fe ρb2 with
            | none => rw [e5] at e2; cases e2
            | some c =>
              obtain ⟨y0, ρb3⟩ := c
              rw [e5] at e2
              dsimp only at e2
              cases e6 : compRun n js bw fg ft fe (ds.drop (i + 1)) (backR bw ρ2 ρb3) with
              | none => rw [e6] at e2; cases e2
              | some c =>
                obtain ⟨zs, ρ6⟩ := c
                rw [e6] at e2
                dsimp only at e2
                cases e2
                refine iteT (he _ σ4 H5 R5 ρb2 y0 ρb3 _ S5 e5 fun w H6 R6 S6 st6 r6 => ?_)
                obtain ⟨T1, T2⟩ := S3.back hb S6 (st5.trans st6) cap
                refine ⟨R6, _, ys1 ++ [y0], zs, by rw [List.length_append]; show vs.length + 1 ≤ i + 1; omega, T1, (st2.trans x3.stp).trans T2, (((r2.mono x3.r).mono st5.r).mono st6.r).snoc r6, e6, ?_⟩
                rw [← ey, List.append_assoc]
                rfl
  · have ei : i = ds.length := by omega
    subst ei
    rw [List.drop_length] at e2
    unfold compRun at e2
    cases e2
    rw [List.append_nil] at ey
    subst ey
    exact .inl ⟨o1 rfl, by omega, fin vs H2 R2 S2 st2 r2 (by omega)⟩
noncomputable def mComp (n : Nat) (js : List Nat) (bw : Option (Nat × Nat)) (fi : Rho → Option (List D × Rho)) (fg : D → Rho → Option Rho) (ft : Rho → Option (Bool × Rho)) (fe : Rho → Option (D × Rho)) : Rho → Option (List D × Rho) := mBind fi fun ds ρ => if ds.length ≤ sizeLine then compRun n js bw fg ft fe ds ρ else none
theorem mt_yes {K : PySem.W.Frag} {O : List Nat} : MT K O tYes (mRet true) := fun Z σ H R ρ b ρ' Q S e k => by
  cases e
  exact k H R S (Stp.refl _ _ _ _)
theorem mn_comp {K : PySem.W.Frag} {O T : List Nat} {n : Nat} {js : List Nat} {bw : Option (Nat × Nat)} {wi : TI} {g : TG} {tt : TT} {te : TE} {fi : Rho → Option (List D × Rho)} {fg : D → Rho → Option Rho} {ft : Rho → Option (Bool × Rho)} {fe : Rho → Option (D × Rho)}
    (hi : MI K O wi fi) (hg : MG K (bwO bw) T g fg) (ht : MT K (bwO bw) tt ft) (he : ME K (bwO bw) te fe) (hb : bwOk n js O bw = true := by decide) (hT : ∀ p, bw = some p → p.2 ∉ T := by decide) : MN K O (tComp n js wi g tt te) (mComp n js bw fi fg ft fe) := fun Z σ H R ρ ds ρ' Q S e k => by
  obtain ⟨xs, ρ1, e1, e⟩ := mBind_some e
  split at e
  · rename_i hz
    refine hi Z σ H R ρ xs ρ1 _ S e1 fun J H1 R1 S1 st1 ok => ?_
    refine cgo_mirror hb hg hT ht he S1 ok e hz fun vs H2 R2 S2 st2 r2 l2 D nD => ?_
    have x := Ext.hid (o := .lst vs) S2.sub nD
    exact k D vs _ _ (S2.ext x) ((st1.trans st2).trans x.stp) ((st1.trans st2).new nD) upd_same (S2.out nD) r2
  · cases e
end L2
set_option Elab.async false
set_option linter.all false
set_option maxRecDepth 100000
set_option maxHeartbeats 4000000
namespace L2
open PySem PySem.Spec PyProof.Rows
inductive Out where
  | nx (ρ : Rho)
  | rt (d : D) (ρ : Rho)
  | bk (ρ : Rho)
  | ct (ρ : Rho)
structure MC where
  K : PySem.W.Frag
  fr : Bool
  P : List Nat
  Ol : List Nat
noncomputable def Res (K : PySem.W.Frag) (fr : Bool) (H : Hp) (v : V) (d : D) (H' R' : Hp) : Prop := match fr with
  | false => Rp K R' v d
  | true => ∃ l vs ds, v = .ref l ∧ d = .lst ds ∧ H l = none ∧ H' l = some (.lst vs) ∧ R' l = none ∧ Rps K R' vs ds
noncomputable def Ends.ok (c : MC) (Z : Anc) (O' : List Nat) (R : Hp) (E : Ends) : Out → Prop
  | .nx ρ' => ∀ σ' H' R', StR c.K Z O' σ' H' R' ρ' → Same R R' → E.nx σ' H'
  | .bk ρ' => ∀ σ' H' R', StR c.K Z c.Ol σ' H' R' ρ' → Same R R' → E.bk σ' H'
  | .ct ρ' => ∀ σ' H' R', StR c.K Z c.Ol σ' H' R' ρ' → Same R R' → E.ct σ' H'
  | .rt d ρ' => ∀ v σ' H' R', StR c.K Z c.P σ' H' R' ρ' → Res c.K c.fr Z.H0 v d H' R' → E.rt v H'
noncomputable def MS (c : MC) (O O' : List Nat) (t : TS) (f : Rho → Option Out) : Prop := ∀ (Z : Anc) (E : Ends) (σ : St) (H R : Hp) (ρ : Rho) (o : Out), Z.P = c.P → StR c.K Z O σ H R ρ → f ρ = some o → E.ok c Z O' R o → t E σ H
noncomputable def subO (c : MC) (O O' : List Nat) : Bool := O'.all (fun i => O.contains i) && c.P.all fun i => !O.contains i || O'.contains i
section
variable {c : MC} {O O' O1 : List Nat} {t u : TS} {te : TE} {tt : TT} {g : TG} {f h : Rho → Option Out} {fe : Rho → Option (D × Rho)} {fn : Rho → Option (List D × Rho)} {ft : Rho → Option (Bool × Rho)} {fg : D → Rho → Option Rho}
theorem StR.sub' {Z : Anc} {σ : St} {H R : Hp} {ρ : Rho} (S : StR c.K Z O σ H R ρ) (hP : Z.P = c.P) (hs : subO c O O' = true) : StR c.K Z O' σ H (frzR O O' σ H R) ρ ∧ Same R (frzR O O' σ H R) := by
  unfold subO at hs
  simp only [Bool.and_eq_true, List.all_eq_true] at hs
  refine S.freeze (fun i hi => by simpa using hs.1 i hi) fun i hi hO => ?_
  rw [hP] at hi
  have z := hs.2 i hi
  simp only [Bool.or_eq_true] at z
  rcases z with z | z
  · simp at z; exact absurd hO z
  · simpa using z
noncomputable def sNil : Rho → Option Out := fun ρ => some (.nx ρ)
theorem ms_nil (hs : subO c O O' = true) : MS c O O' tNext sNil := fun Z E σ H R ρ o hP S e k => by
  cases e
  obtain ⟨S', s⟩ := S.sub' hP hs
  exact k σ H _ S' s
noncomputable def sSeq (f h : Rho → Option Out) : Rho → Option Out := fun ρ => match f ρ with
  | none => none
  | some (.nx ρ1) => h ρ1
  | some o => some o
theorem ms_seq (h1 : MS c O O1 t f) (h2 : MS c O1 O' u h) : MS c O O' (tSeq t u) (sSeq f h) := fun Z E σ H R ρ o hP S e k => by
  unfold sSeq at e
  cases e1 : f ρ with
  | none => rw [e1] at e; cases e
  | some o1 =>
    rw [e1] at e
    cases o1 with
    | nx ρ1 =>
      refine h1 Z _ σ H R ρ _ hP S e1 fun σ' H' R' S' s' => ?_
      refine h2 Z E σ' H' R' ρ1 o hP S' e ?_
      cases o with
      | nx ρ' => exact fun σ2 H2 R2 S2 s2 => k σ2 H2 R2 S2 (s'.trans s2)
      | bk ρ' => exact fun σ2 H2 R2 S2 s2 => k σ2 H2 R2 S2 (s'.trans s2)
      | ct ρ' => exact fun σ2 H2 R2 S2 s2 => k σ2 H2 R2 S2 (s'.trans s2)
      | rt d ρ' => exact k
    | bk ρ1 => cases e; exact h1 Z _ σ H R ρ _ hP S e1 k
    | ct ρ1 => cases e; exact h1 Z _ σ H R ρ _ hP S e1 k
    | rt d ρ1 => cases e; exact h1 Z _ σ H R ρ _ hP S e1 k
noncomputable def sSet (i : Nat) (fe : Rho → Option (D × Rho)) : Rho → Option Out := fun ρ => match fe ρ with
  | none => none
  | some (d, ρ1) => some (.nx (ρ1.set i (some d)))
theorem ms_set {i : Nat} (he : ME c.K O te fe) (hs : subO c O O' = true) (hi : i ∉ O') : MS c O O' (tAsg te (gName i)) (sSet i fe) := fun Z E σ H R ρ o hP S e k => by
  unfold sSet at e
  cases e1 : fe ρ with
  | none => rw [e1] at e; cases e
  | some p =>
    obtain ⟨d, ρ1⟩ := p
    rw [e1] at e
    cases e
    refine he Z σ H R ρ d ρ1 _ S e1 fun v H1 R1 S1 st1 r1 => ?_
    obtain ⟨S2, s2⟩ := S1.sub' hP hs
    exact k _ H1 _ (S2.set hi (r1.mono s2)) (st1.r.trans s2)
noncomputable def sOwn (i : Nat) (fn : Rho → Option (List D × Rho)) : Rho → Option Out := fun ρ => match fn ρ with
  | none => none
  | some (ds, ρ1) => if i < ρ1.length then some (.nx (ρ1.set i (some (.lst ds)))) else none
noncomputable def ownO (c : MC) (i : Nat) (O O' : List Nat) : Bool := subO c O (O'.filter fun j => decide (j ≠ i)) && O'.contains i && !c.P.contains i
theorem ms_own {i : Nat} (he : MN c.K O te fn) (hs : ownO c i O O' = true) : MS c O O' (tAsg te (gName i)) (sOwn i fn) := fun Z E σ H R ρ o hP S e k => by
  unfold sOwn at e
  unfold ownO at hs
  simp only [Bool.and_eq_true] at hs
  cases e1 : fn ρ with
  | none => rw [e1] at e; cases e
  | some p =>
    obtain ⟨ds, ρ1⟩ := p
    rw [e1] at e
    dsimp only at e
    split at e
    · rename_i hlen
      cases e
      refine he Z σ H R ρ ds ρ1 _ S e1 fun l vs H1 R1 S1 st1 h0 hH hR r1 => ?_
      obtain ⟨S2, s2⟩ := S1.sub' hP hs.1.1
      have notown : ∀ j, j ∈ O → σ[j]? ≠ some (some (.ref l)) := S.notnew h0
      have hO' : ∀ j, j ∈ O'.filter (fun j => decide (j ≠ i)) → j ∈ O := fun j hj => by
        have z := hs.1.1
        unfold subO at z
        simp only [Bool.and_eq_true, List.all_eq_true] at z
        simpa using z.1 j hj
      refine k _ H1 _ (S2.take (i := i) (l := l) (vs := .lst vs) (ds := .lst ds) (by simp) (by simpa using hs.1.2) (fun j hj => ?_) (by rw [hP]; simpa using hs.2) hlen (S.new0 h0) hH ?_ (fun j hj => notown j (hO' j hj)) (fun j hj => (List.mem_filter.mp hj).1) (.lst (r1.mono s2))) (st1.r.trans s2)
      · by_cases z : j = i
        · exact .inl z
        · exact .inr (List.mem_filter.mpr ⟨hj, by simpa using z⟩)
      · unfold frzR
        rw [if_neg ?_]
        · exact hR
        · rintro ⟨j, hj, _, z⟩
          exact notown j hj z
    · cases e
noncomputable def sAsg (fe : Rho → Option (D × Rho)) (fg : D → Rho → Option Rho) : Rho → Option Out := fun ρ => match fe ρ with
  | none => none
  | some (d, ρ1) => match fg d ρ1 with
    | none => none
    | some ρ2 => some (.nx ρ2)
noncomputable def sIf (ft : Rho → Option (Bool × Rho)) (f h : Rho → Option Out) : Rho → Option Out := fun ρ => match ft ρ with
  | none => none
  | some (b, ρ1) => if b = true then f ρ1 else h ρ1
theorem ms_if (ht : MT c.K O tt ft) (h1 : MS c O O' t f) (h2 : MS c O O' u h) : MS c O O' (tIfS tt t u) (sIf ft f h) := fun Z E σ H R ρ o hP S e k => by
  unfold sIf at e
  cases e1 : ft ρ with
  | none => rw [e1] at e; cases e
  | some p =>
    obtain ⟨b, ρ1⟩ := p
    rw [e1] at e
    dsimp only at e
    refine ht Z σ H R ρ b ρ1 _ S e1 fun H1 R1 S1 st1 => ?_
    have k' : E.ok c Z O' R1 o := by
      cases o with
      | nx ρ' => exact fun σ2 H2 R2 S2 s2 => k σ2 H2 R2 S2 (st1.r.trans s2)
      | bk ρ' => exact fun σ2 H2 R2 S2 s2 => k σ2 H2 R2 S2 (st1.r.trans s2)
      | ct ρ' => exact fun σ2 H2 R2 S2 s2 => k σ2 H2 R2 S2 (st1.r.trans s2)
      | rt d ρ' => exact k
    cases b with
    | true => exact iteT (h1 Z E σ H1 R1 ρ1 o hP S1 e k')
    | false => exact iteF (h2 Z E σ H1 R1 ρ1 o hP S1 e k')
noncomputable def sRet (fe : Rho → Option (D × Rho)) : Rho → Option Out := fun ρ => match fe ρ with
  | none => none
  | some (d, ρ1) => some (.rt d ρ1)
theorem ms_ret (hf : c.fr = false) (he : ME c.K O te fe) (hs : subO c O c.P = true) : MS c O O' (tRet te) (sRet fe) := fun Z E σ H R ρ o hP S e k => by
  unfold sRet at e
  cases e1 : fe ρ with
  | none => rw [e1] at e; cases e
  | some p =>
    obtain ⟨d, ρ1⟩ := p
    rw [e1] at e
    cases e
    refine he Z σ H R ρ d ρ1 _ S e1 fun v H1 R1 S1 st1 r1 => ?_
    obtain ⟨S2, s2⟩ := S1.sub' hP hs
    refine k v σ H1 _ S2 ?_
    unfold Res
    rw [hf]
    exact r1.mono s2
noncomputable def sRetL (fn : Rho → Option (List D × Rho)) : Rho → Option Out := fun ρ => match fn ρ with
  | none => none
  | some (ds, ρ1) => some (.rt (.lst ds) ρ1)
theorem StR.drop {K : PySem.W.Frag} {Z : Anc} {σ : St} {H R : Hp} {ρ : Rho} {i : Nat} (S : StR K Z O σ H R ρ) (hO : ∀ j, j ∈ O' → j ∈ O ∧ j ≠ i) (hc : ∀ j, j ∈ O → j ≠ i → j ∈ O') : StR K Z O' σ H R (ρ.set i none) := by
  refine ⟨S.sub, by rw [List.length_set]; exact S.len, fun j d hj e => ?_, fun j hj => ?_, fun j k hj hk => S.dis j k (hO j hj).1 (hO k hk).1, S.ah, S.ar, S.an, S.ad, fun j hj => S.ao j (hO j hj).1, fun j hj => S.ap j (hO j hj).1⟩
  · by_cases z : i = j
    · subst z
      have hl : i < ρ.length := by
        have := (List.getElem?_eq_some_iff.mp e).1
        rwa [List.length_set] at this
      rw [List.getElem?_set_self hl] at e
      cases e
    · rw [List.getElem?_set_ne z] at e
      exact S.env j d (fun q => hj (hc j q (Ne.symm z))) e
  · obtain ⟨l, vs, ds, h1, h2⟩ := S.own j (hO j hj).1
    exact ⟨l, vs, ds, by rw [List.getElem?_set_ne (Ne.symm (hO j hj).2)]; exact h1, h2⟩
noncomputable def sRetO (i : Nat) : Rho → Option Out := fun ρ => match ρ[i]? with
  | some (some (.lst xs)) => some (.rt (.lst xs) (ρ.set i none))
  | _ => none
noncomputable def sRetN : Rho → Option Out := fun ρ => some (.rt .non ρ)
noncomputable def sBk : Rho → Option Out := fun ρ => some (.bk ρ)
noncomputable def sCt : Rho → Option Out := fun ρ => some (.ct ρ)
theorem ms_never {O O' : List Nat} : MS c O O' tNever (fun _ => none) := fun Z E σ H R ρ o hP S e k => by cases e
noncomputable def forRun (fg : D → Rho → Option Rho) (fb : Rho → Option Out) : List D → Rho → Option Out
  | [], ρ => some (.nx ρ)
  | d :: r, ρ => match fg d ρ with
    | none => none
    | some ρ1 => match fb ρ1 with
      | none => none
      | some (.nx ρ2) => forRun fg fb r ρ2
      | some (.ct ρ2) => forRun fg fb r ρ2
      | some (.bk ρ2) => some (.nx ρ2)
      | some (.rt d ρ2) => some (.rt d ρ2)
noncomputable def sFor (fi : Rho → Option (List D × Rho)) (fg : D → Rho → Option Rho) (fb : Rho → Option Out) : Rho → Option Out := fun ρ => match fi ρ with
  | none => none
  | some (ds, ρ1) => forRun fg fb ds ρ1
theorem ms_for {T : List Nat} {wi : TI} {fi : Rho → Option (List D × Rho)} {tb : TS} {fb : Rho → Option Out} (hi : MI c.K O wi fi) (hs : subO c O O' = true) (hg : MG c.K O' T g fg) (hb : MS { c with Ol := O' } O' O' tb fb) : MS c O O' (tFor wi g tb) (sFor fi fg fb) := fun Z E σ H R ρ o hP S e k => by
  unfold sFor at e
  cases e1 : fi ρ with
  | none => rw [e1] at e; cases e
  | some p =>
    obtain ⟨ds, ρ1⟩ := p
    rw [e1] at e
    dsimp only at e
    refine hi Z σ H R ρ ds ρ1 _ S e1 fun J H1 R1 S1 st1 ok => ?_
    obtain ⟨S2, s2⟩ := S1.sub' hP hs
    have ok2 := ok.mono s2
    refine ⟨fun i m σ' H' => m = ds.length - i ∧ i ≤ ds.length ∧ ∃ R' ρ', StR c.K Z O' σ' H' R' ρ' ∧ Same (frzR O O' σ H1 R1) R' ∧ forRun fg fb (ds.drop i) ρ' = some o, ⟨ds.length, by simp, Nat.zero_le _, _, ρ1, S2, Same.refl _, by rw [List.drop_zero]; exact e⟩, ?_⟩
    rintro i m σ' H' ⟨rfl, hi', R', ρ', S', s', e'⟩
    obtain ⟨o1, o2⟩ := ok2 H' R' s' S'.sub i
    by_cases hlt : i < ds.length
    · obtain ⟨g1, g2⟩ := o2 ds[i] (List.getElem?_eq_getElem hlt)
      rw [List.drop_eq_getElem_cons hlt] at e'
      refine .inr ⟨g1, fun σ3 H3 => ∃ R3 ρ3, StR c.K Z O' σ3 H3 R3 ρ3 ∧ Same (frzR O O' σ H1 R1) R3 ∧ forRun fg fb (ds.drop (i + 1)) ρ3 = some o, ?_, fun x H3 y => ?_⟩
      · rintro σ3 H3 ⟨R3, ρ3, q1, q2, q3⟩
        exact ⟨ds.length - (i + 1), by omega, rfl, hlt, R3, ρ3, q1, q2, q3⟩
      · obtain ⟨R3, x3, r3⟩ := g2 x H3 y
        have S3 := S'.ext x3
        unfold forRun at e'
        cases e3 : fg ds[i] ρ' with
        | none => rw [e3] at e'; cases e'
        | some ρ4 =>
          rw [e3] at e'
          dsimp only at e'
          refine hg Z σ' H3 R3 ρ' x _ ρ4 _ S3 r3 e3 fun σ4 S4 _ => ?_
          cases e4 : fb ρ4 with
          | none => rw [e4] at e'; cases e'
          | some o4 =>
            rw [e4] at e'
            refine hb Z _ σ4 H3 R3 ρ4 o4 hP S4 e4 ?_
            cases o4 with
            | nx ρ5 => exact fun σ5 H5 R5 S5 s5 => ⟨R5, ρ5, S5, (s'.trans x3.r).trans s5, e'⟩
            | ct ρ5 => exact fun σ5 H5 R5 S5 s5 => ⟨R5, ρ5, S5, (s'.trans x3.r).trans s5, e'⟩
            | bk ρ5 =>
              cases e'
              exact fun σ5 H5 R5 S5 s5 => k σ5 H5 R5 S5 (((st1.r.trans s2).trans s').trans (x3.r.trans s5))
            | rt d ρ5 =>
              cases e'
              exact k
    · have ei : i = ds.length := by omega
      subst ei
      rw [List.drop_length] at e'
      unfold forRun at e'
      cases e'
      exact .inl ⟨o1 rfl, k σ' H' R' S' ((st1.r.trans s2).trans s')⟩
end
end L2
set_option Elab.async false
set_option linter.all false
set_option maxRecDepth 100000
set_option maxHeartbeats 4000000
namespace L2
open PySem PySem.Spec PyProof.Rows
section
variable {c : MC} {O O' : List Nat} {te ti : TE} {fe fi : Rho → Option (D × Rho)} {tr : TA} {fs : Rho → Option (List D × Rho)}
noncomputable def isL (ρ : Rho) (i : Nat) : Bool := match ρ[i]? with
  | some (some (.lst _)) => true
  | _ => false
theorem isL_ob {K : PySem.W.Frag} {R : Hp} {ρ : Rho} {i : Nat} {o : HO} {d : D} (h : isL ρ i = true) (e : ρ[i]? = some (some d)) (b : Ob K R o d) : ∃ vs ds, o = .lst vs ∧ d = .lst ds ∧ Rps K R vs ds := by
  unfold isL at h
  rw [e] at h
  cases b with
  | lst r => exact ⟨_, _, rfl, rfl, r⟩
  | _ => cases h
noncomputable def sMut (g : List D → List D → Option (List D)) (i : Nat) (fs : Rho → Option (List D × Rho)) : Rho → Option Out := fun ρ => if isL ρ i = true then (match fs ρ with
  | none => none
  | some (as, ρ1) => match ρ1[i]? with
    | some (some (.lst xs)) => match g xs as with
      | some ys => some (.nx (ρ1.set i (some (.lst ys))))
      | none => none
    | _ => none) else none
noncomputable def MutOk (K : PySem.W.Frag) (r : V → List V → Hp → VK → Prop) (g : List D → List D → Option (List D)) : Prop := ∀ (H R : Hp) (l : Addr) (xs : List V) (ds : List D) (vs : List V) (as bs : List D) (Q : VK), (∀ a o, R a = some o → H a = some o) → H l = some (.lst xs) → R l = none → Rps K R xs ds → Rps K R vs as → g ds as = some bs → (∀ ys, Rps K R ys bs → Q .non (upd H l (.lst ys))) → r (.ref l) vs H Q
theorem ms_mut {r : V → List V → Hp → VK → Prop} {g : List D → List D → Option (List D)} {i : Nat} (hm : MutOk c.K r g) (hi : i ∈ O) (ha : MA c.K O tr fs) (hs : subO c O O' = true) : MS c O O' (tDrop (tBM c.K "list" r (tVar i) tr)) (sMut g i fs) := fun Z E σ H R ρ o hP S e k => by
  unfold sMut at e
  split at e
  case isFalse => cases e
  rename_i hL
  cases e1 : fs ρ with
  | none => rw [e1] at e; cases e
  | some p =>
    obtain ⟨as, ρ1⟩ := p
    rw [e1] at e
    dsimp only at e
    obtain ⟨l, vs, ds, h1, h2, h3, h4, h5⟩ := S.own i hi
    obtain ⟨us, _, rfl, rfl, _⟩ := isL_ob hL h1 h5
    refine ⟨.ref l, h2, .inl ⟨rfl, us, SqL.of h3⟩, ha Z σ H R ρ as ρ1 _ S e1 fun ws H1 R1 S1 st1 r1 => ?_⟩
    obtain ⟨l', vs', ds', g1, g2, g3, g4, g5⟩ := S1.own i hi
    rw [h2] at g2
    cases g2
    rw [g1] at e
    cases g5 with
    | dct _ => cases e
    | dit _ => cases e
    | lst g5 =>
    rename_i vs' ds'
    dsimp only at e
    cases e2 : g ds' as with
    | none => rw [e2] at e; cases e
    | some ys =>
      rw [e2] at e
      cases e
      refine hm H1 R1 l vs' ds' ws as ys _ S1.sub g3 g4 g5 r1 e2 fun zs rz => ?_
      obtain ⟨S2, s2⟩ := (S1.write hi h2 (.lst rz)).sub' hP hs
      exact k σ _ _ S2 (st1.r.trans s2)
noncomputable def dAppend : List D → List D → Option (List D) := fun xs as => match as with
  | [d] => if xs.length < sizeLine then some (xs ++ [d]) else none
  | _ => none
theorem mu_append {K : PySem.W.Frag} : MutOk K rAppend dAppend := fun H R l xs ds vs as bs Q s h hr r ra e k => by
  cases ra with
  | nil => cases e
  | cons q t =>
    cases t with
    | cons _ _ => cases e
    | nil =>
      rename_i x d
      have e' : (if ds.length < sizeLine then some (ds ++ [d]) else none) = some bs := e
      split at e'
      · rename_i hz
        cases e'
        exact ⟨l, xs, x, rfl, rfl, h, by rw [r.length]; exact hz, k _ (r.snoc q)⟩
      · cases e'
noncomputable def dInsert0 : List D → List D → Option (List D) := fun xs as => match as with
  | [.int 0, d] => if xs.length < sizeLine then some (d :: xs) else none
  | _ => none
noncomputable def sSetI (i : Nat) (fe fi : Rho → Option (D × Rho)) : Rho → Option Out := fun ρ => match fe ρ with
  | none => none
  | some (d, ρ1) => match fi ρ1 with
    | some (.int k, ρ2) => match ρ2[i]? with
      | some (some (.lst xs)) => match ixN xs.length k with
        | some j => some (.nx (ρ2.set i (some (.lst (xs.set j d)))))
        | none => none
      | _ => none
    | _ => none
theorem ms_setI {i : Nat} (hi : i ∈ O) (he : ME c.K O te fe) (hx : ME c.K O ti fi) (hs : subO c O O' = true) : MS c O O' (tAsg te (gSub (tVar i) ti rSetL)) (sSetI i fe fi) := fun Z E σ H R ρ o hP S e k => by
  unfold sSetI at e
  cases e1 : fe ρ with
  | none => rw [e1] at e; cases e
  | some p =>
    obtain ⟨d, ρ1⟩ := p
    rw [e1] at e
    dsimp only at e
    cases e2 : fi ρ1 with
    | none => rw [e2] at e; cases e
    | some p =>
      obtain ⟨x, ρ2⟩ := p
      rw [e2] at e
      refine he Z σ H R ρ d ρ1 _ S e1 fun v H1 R1 S1 st1 r1 => ?_
      obtain ⟨l, vs, ds, h1, h2, h3, h4, h5⟩ := S1.own i hi
      refine ⟨.ref l, h2, hx Z σ H1 R1 ρ1 x ρ2 _ S1 e2 fun w H2 R2 S2 st2 r2 => ?_⟩
      obtain ⟨l', vs', ds', g1, g2, g3, g4, g5⟩ := S2.own i hi
      rw [h2] at g2
      cases g2
      cases r2 with
      | int j =>
        dsimp only at e
        rw [g1] at e
        cases g5 with
        | dct _ => cases e
        | dit _ => cases e
        | lst g5 =>
        rename_i vs' ds'
        dsimp only at e
        cases e3 : ixN ds'.length j with
        | none => rw [e3] at e; cases e
        | some m =>
          rw [e3] at e
          cases e
          refine ⟨l, vs', j, m, rfl, rfl, g3, by rw [g5.length]; exact e3, ?_⟩
          obtain ⟨S3, s3⟩ := (S2.write hi h2 (.lst (g5.set (r1.mono st2.r) m))).sub' hP hs
          exact k σ _ _ S3 ((st1.r.trans st2.r).trans s3)
      | _ => cases e
noncomputable def sAug (g : Int → Int → Int) (i : Nat) (fe : Rho → Option (D × Rho)) : Rho → Option Out := fun ρ => match ρ[i]? with
  | some (some (.int x)) => match fe ρ with
    | some (.int y, ρ1) => some (.nx (ρ1.set i (some (.int (g x y)))))
    | _ => none
  | _ => none
end
noncomputable def runP (fr : Bool) (n N : Nat) (f : Rho → Option Out) (ds : List D) : Option D := if ds.length = n then match f (ds.map some ++ List.replicate (N - n) none) with
    | some (.rt d _) => some d
    | some (.nx _) => if fr = true then none else some .non
    | _ => none
  else none
noncomputable def spP (K : PySem.W.Frag) (fr : Bool) (n : Nat) (f : List D → Option D) : Sp := fun vs H Q _ => vs.length = n ∧ ∃ R ds d, (∀ a o, R a = some o → H a = some o) ∧ Rps K R vs ds ∧ f ds = some d ∧ ∀ v H' R', Ext H R H' R' → Res K fr H v d H' R' → Q v H'
theorem start_get {N : List Str} {vs : List V} {i : Nat} {v : V} (h : vs[i]? = some v) : (start N vs)[i]? = some (some v) := by
  unfold start
  have hi : i < vs.length := (List.getElem?_eq_some_iff.mp h).1
  rw [List.getElem?_append_left (by simpa using hi), List.getElem?_map, h]
  rfl
theorem slots_get {ds : List D} {m i : Nat} {d : D} (h : (ds.map some ++ List.replicate m none)[i]? = some (some d)) : ds[i]? = some d := by
  by_cases hi : i < ds.length
  · rw [List.getElem?_append_left (by simpa using hi), List.getElem?_map] at h
    cases q : ds[i]? with
    | none => rw [q] at h; cases h
    | some e => rw [q] at h; cases h; rfl
  · rw [List.getElem?_append_right (by simpa using hi), List.getElem?_replicate] at h
    split at h <;> cases h
theorem spP_body {K : PySem.W.Frag} {fr : Bool} {n : Nat} {Nms : List Str} {O' : List Nat} {t : TS} {f : Rho → Option Out} {vs : List V} {H : Hp} {Q : VK} {E : XK} (hm : MS ⟨K, fr, [], []⟩ [] O' t f) (h : spP K fr n (runP fr n Nms.length f) vs H Q E) : t { nx := fun _ H' => Q .non H', rt := Q } (start Nms vs) H := by
  obtain ⟨hn, R, ds, d, sub, r, e, k⟩ := h
  unfold runP at e
  split at e
  · rename_i hl
    have S : StR K ⟨H, R, fun _ => False, []⟩ [] (start Nms vs) H R (ds.map some ++ List.replicate (Nms.length - n) none) := by
      refine ⟨sub, ?_, fun i d _ q => ?_, fun i hi => absurd hi (by simp), fun i j hi => absurd hi (by simp), fun a o q _ => q, Same.refl _, fun a q => .inl q, fun a q => .refl q, fun i hi => absurd hi (by simp), fun i hi => absurd hi (by simp)⟩
      · unfold start
        rw [List.length_append, List.length_append, List.length_map, List.length_map, List.length_replicate, List.length_replicate, hn, hl]
      · obtain ⟨v, h1, h2⟩ := r.get (slots_get q)
        exact ⟨v, start_get h1, h2⟩
    have ext : ∀ {O1 : List Nat} {σ' : St} {H' R' : Hp} {ρ' : Rho}, StR K ⟨H, R, fun _ => False, []⟩ O1 σ' H' R' ρ' → Ext H R H' R' := fun S' => ⟨fun a o q => S'.ah a o q (fun z => z), S'.ar, S'.sub, S'.an⟩
    cases e1 : f (ds.map some ++ List.replicate (Nms.length - n) none) with
    | none => rw [e1] at e; cases e
    | some o =>
      rw [e1] at e
      refine hm _ _ _ _ _ _ o rfl S e1 ?_
      cases o with
      | nx ρ' =>
        dsimp only at e
        split at e
        · cases e
        · rename_i hf
          cases e
          refine fun σ' H' R' S' _ => k .non H' R' (ext S') ?_
          cases fr with
          | false => exact .non
          | true => exact absurd rfl hf
      | bk ρ' => cases e
      | ct ρ' => cases e
      | rt d' ρ' =>
        cases e
        exact fun v σ' H' R' S' q => k v H' R' (ext S') q
  · cases e
noncomputable def runS (fr : Bool) (n N : Nat) (f : Rho → Option Out) (xs ds : List D) : Option (D × List D) := if ds.length + 1 = n then match f (some (.lst xs) :: (ds.map some ++ List.replicate (N - n) none)) with
    | some (.rt d ρ) => (match (ρ[0]? : Option (Option D)) with
      | some (some (D.lst ys)) => some (d, ys)
      | _ => none)
    | some (.nx ρ) => if fr = true then none else (match (ρ[0]? : Option (Option D)) with
      | some (some (D.lst ys)) => some (.non, ys)
      | _ => none)
    | _ => none
  else none
structure ExtS (l : Addr) (H R H' R' : Hp) : Prop where
  h : ∀ a o, a ≠ l → H a = some o → H' a = some o
  r : Same R R'
  s : ∀ a o, R' a = some o → H' a = some o
  n : ∀ a, R' a ≠ none → R a ≠ none ∨ Frh H a
  d : ∀ a, H a ≠ none → Liv H H' a
noncomputable def spS (K : PySem.W.Frag) (fr : Bool) (n : Nat) (f : List D → List D → Option (D × List D)) : Sp := fun vs H Q _ => vs.length = n ∧ ∃ l ws R us xs ds d ys, vs = .ref l :: ws ∧ H l = some (.lst us) ∧ R l = none ∧ (∀ a o, R a = some o → H a = some o) ∧ Rps K R us xs ∧ Rps K R ws ds ∧ f xs ds = some (d, ys) ∧
  ∀ v H' R' us', ExtS l H R H' R' → H' l = some (.lst us') → R' l = none → Rps K R' us' ys → Res K fr H v d H' R' → Q v H'
theorem spS_body {K : PySem.W.Frag} {fr : Bool} {n : Nat} {Nms : List Str} {O' : List Nat} {t : TS} {f : Rho → Option Out} {vs : List V} {H : Hp} {Q : VK} {E : XK} (hm : MS ⟨K, fr, [0], []⟩ [0] [0] t f) (h : spS K fr n (runS fr n Nms.length f) vs H Q E) : t { nx := fun _ H' => Q .non H', rt := Q } (start Nms vs) H := by
  obtain ⟨hn, l, ws, R, us, xs, ds, d, ys, rfl, hH, hR, sub, ru, r, e, k⟩ := h
  unfold runS at e
  split at e
  · rename_i hl
    have ln : ws.length + 1 = n := by simpa using hn
    have S : StR K ⟨H, R, fun a => a = l, [0]⟩ [0] (start Nms (.ref l :: ws)) H R (some (.lst xs) :: (ds.map some ++ List.replicate (Nms.length - n) none)) := by
      have one : ∀ i, i ∈ [0] → i = 0 := fun i hi => by simpa using hi
      refine ⟨sub, ?_, fun i d hi q => ?_, fun i hi => ?_, fun i j hi hj z => absurd ((one i hi).trans (one j hj).symm) z, fun a o q _ => q, Same.refl _, fun a q => .inl q, fun a q => .refl q, fun i hi z => absurd hi z, fun i hi _ a q => ?_⟩
      · unfold start
        simp only [List.map_cons, List.cons_append, List.length_cons, List.length_append, List.length_map, List.length_replicate]
        omega
      · cases i with
        | zero => exact absurd (by simp) hi
        | succ i =>
          rw [List.getElem?_cons_succ] at q
          obtain ⟨v, h1, h2⟩ := r.get (slots_get q)
          exact ⟨v, start_get (by rw [List.getElem?_cons_succ]; exact h1), h2⟩
      · cases one i hi
        exact ⟨l, .lst us, .lst xs, rfl, rfl, hH, hR, .lst ru⟩
      · cases one i hi
        have q' : some (some (V.ref l)) = some (some (V.ref a)) := q
        cases q'
        rfl
    have ext : ∀ {σ' : St} {H' R' : Hp} {ρ' : Rho}, StR K ⟨H, R, fun a => a = l, [0]⟩ [0] σ' H' R' ρ' → ExtS l H R H' R' ∧ ∃ us' zs, ρ'[0]? = some (some zs) ∧ H' l = some us' ∧ R' l = none ∧ Ob K R' us' zs := fun {σ' H' R' ρ'} S' => by
      refine ⟨⟨fun a o n q => S'.ah a o q n, S'.ar, S'.sub, S'.an, S'.ad⟩, ?_⟩
      obtain ⟨l', us', zs, h1, h2, h3, h4, h5⟩ := S'.own 0 (by simp)
      have el : l' = l := S'.ap 0 (by simp) (by simp) l' h2
      subst el
      exact ⟨us', zs, h1, h3, h4, h5⟩
    cases e1 : f (some (.lst xs) :: (ds.map some ++ List.replicate (Nms.length - n) none)) with
    | none => rw [e1] at e; cases e
    | some o =>
      rw [e1] at e
      refine hm _ _ _ _ _ _ o rfl S e1 ?_
      cases o with
      | nx ρ' =>
        dsimp only at e
        split at e
        · cases e
        · rename_i hf
          refine fun σ' H' R' S' _ => ?_
          obtain ⟨x, us', zs, q1, q2, q3, q4⟩ := ext S'
          rw [q1] at e
          cases q4 with
          | dct _ => cases e
          | dit _ => cases e
          | lst q4 =>
          cases e
          refine k .non H' R' _ x q2 q3 q4 ?_
          cases fr with
          | false => exact .non
          | true => exact absurd rfl hf
      | bk ρ' => cases e
      | ct ρ' => cases e
      | rt d' ρ' =>
        dsimp only at e
        refine fun v σ' H' R' S' q => ?_
        obtain ⟨x, us', zs, q1, q2, q3, q4⟩ := ext S'
        rw [q1] at e
        cases q4 with
        | dct _ => cases e
        | dit _ => cases e
        | lst q4 =>
        cases e
        exact k v H' R' _ x q2 q3 q4 q
  · cases e
section
variable {K : PySem.W.Frag} {O : List Nat} {tr : TA} {fs : Rho → Option (List D × Rho)} {E : XK} {n : Nat}
noncomputable def mCall (f : List D → Option D) (fs : Rho → Option (List D × Rho)) : Rho → Option (D × Rho) := mBind fs fun ds => mLift (f ds)
noncomputable def runsN (n : Nat) (f : List D → Option D) : Prop := ∀ ds d, f ds = some d → ds.length = n
theorem runP_n {fr : Bool} {n N : Nat} {f : Rho → Option Out} : runsN n (runP fr n N f) := fun ds d e => by
  unfold runP at e
  split at e
  · assumption
  · cases e
theorem me_callP {f : List D → Option D} (hf : runsN n f) (h : MA K O tr fs) : ME K O (tCall (spP K false n f) [] E tr) (mCall f fs) := fun Z σ H R ρ d ρ' Q S e k => by
  obtain ⟨ds, ρ1, e1, e⟩ := mBind_some e
  obtain ⟨e2, rfl⟩ := mLift_some e
  refine h Z σ H R ρ ds _ _ S e1 fun vs H1 R1 S1 st1 r1 => ?_
  show spP K false n f (vs ++ []) H1 Q E
  rw [List.append_nil]
  exact ⟨by rw [r1.length]; exact hf ds d e2, R1, ds, d, S1.sub, r1, e2, fun v H2 R2 x q => k v H2 R2 (S1.ext x) (st1.trans x.stp) q⟩
noncomputable def lstOf (o : Option D) : Option (List D) := match o with
  | some (.lst ds) => some ds
  | _ => none
noncomputable def mCallL (f : List D → Option D) (fs : Rho → Option (List D × Rho)) : Rho → Option (List D × Rho) := mBind fs fun ds => mLift (lstOf (f ds))
noncomputable def mCallS (f : List D → List D → Option (D × List D)) (i : Nat) (fs : Rho → Option (List D × Rho)) : Rho → Option (D × Rho) := mBind fs fun ds ρ => match ρ[i]? with
  | some (some (.lst xs)) => match f xs ds with
    | some (d, ys) => some (d, ρ.set i (some (.lst ys)))
    | none => none
  | _ => none
noncomputable def runsS (n : Nat) (f : List D → List D → Option (D × List D)) : Prop := ∀ xs ds r, f xs ds = some r → ds.length + 1 = n
theorem runS_n {fr : Bool} {n N : Nat} {f : Rho → Option Out} : runsS n (runS fr n N f) := fun xs ds r e => by
  unfold runS at e
  split at e
  · assumption
  · cases e
theorem me_callS {f : List D → List D → Option (D × List D)} {i : Nat} (hf : runsS n f) (hi : i ∈ O) (h : MA K O tr fs) : ME K O (tCall (spS K false n f) [] E (tCons (tVar i) tr)) (mCallS f i fs) := fun Z σ H R ρ d ρ' Q S e k => by
  obtain ⟨ds, ρ1, e1, e⟩ := mBind_some e
  obtain ⟨l, vs0, ds0, h1, h2, h3, h4, h5⟩ := S.own i hi
  refine ⟨.ref l, h2, h Z σ H R ρ ds ρ1 _ S e1 fun vs H1 R1 S1 st1 r1 => ?_⟩
  obtain ⟨l', us, xs, g1, g2, g3, g4, g5⟩ := S1.own i hi
  rw [h2] at g2
  cases g2
  rw [g1] at e
  cases g5 with
  | dct _ => cases e
  | dit _ => cases e
  | lst g5 =>
  rename_i us xs
  dsimp only at e
  cases e2 : f xs ds with
  | none => rw [e2] at e; cases e
  | some p =>
    obtain ⟨d', ys⟩ := p
    rw [e2] at e
    cases e
    show spS K false n f (.ref l :: vs ++ []) H1 Q E
    rw [List.append_nil]
    refine ⟨by rw [List.length_cons, r1.length]; exact hf _ _ _ e2, l, vs, R1, us, xs, ds, d, ys, rfl, g3, g4, S1.sub, g5, r1, e2, fun v H2 R2 us' x hH hR ru q => ?_⟩
    have hlen : i < ρ1.length := (List.getElem?_eq_some_iff.mp g1).1
    have st2 : Stp O σ H1 R1 H2 R2 := ⟨x.r, fun a o e n => x.h a o (fun z => by subst z; exact n i hi h2) e, x.n, x.d⟩
    have other : ∀ j, j ∈ O → i ≠ j → ∀ m, σ[j]? = some (some (.ref m)) → m ≠ l := fun j hj n m e z => by
      subst z
      exact S1.dis i j hi hj n m h2 e
    refine k v H2 R2 ⟨x.s, by rw [List.length_set]; exact S1.len, fun j e hj q => ?_, fun j hj => ?_, S1.dis, fun a o e n => ?_, S1.ar.trans x.r, fun a h => ?_, fun a h => (S1.ad a h).trans (x.d a (S1.ad a h).1), S1.ao, S1.ap⟩ (st1.trans st2) q
    · have n : i ≠ j := fun z => hj (z ▸ hi)
      rw [List.getElem?_set_ne n] at q
      obtain ⟨w, q1, q2⟩ := S1.env j e hj q
      exact ⟨w, q1, q2.mono x.r⟩
    · by_cases n : i = j
      · subst n
        exact ⟨l, .lst us', .lst ys, by rw [List.getElem?_set_self hlen], h2, hH, hR, .lst ru⟩
      · obtain ⟨m, vs', ds', q1, q2, q3, q4, q5⟩ := S1.own j hj
        refine ⟨m, vs', ds', by rw [List.getElem?_set_ne n]; exact q1, q2, x.h _ _ (other j hj n m q2) q3, ?_, q5.mono x.r⟩
        cases z : R2 m with
        | none => rfl
        | some o =>
          rcases x.n m (by rw [z]; exact fun y => nomatch y) with y | y
          · exact absurd q4 y
          · exact (q5.noF q3 y).elim
    · have ne : a ≠ l := fun z => by
        subst z
        by_cases hp : i ∈ Z.P
        · exact n (S1.ap i hi hp a h2)
        · rw [S1.ao i hi hp a h2] at e; cases e
      exact x.h a o ne (S1.ah a o e n)
    · rcases x.n a h with z | z
      · exact S1.an a z
      · exact .inr (z.back (S1.ad a))
end
end L2
set_option Elab.async false
set_option linter.all false
set_option maxRecDepth 100000
set_option maxHeartbeats 4000000
namespace L2
open PySem PySem.Spec PyProof.Rows
noncomputable def rCatS (K : PySem.W.Frag) : R2 := fun x y H Q => ∃ l b xs zs, x = .ref l ∧ y = .ref b ∧ SqL K H l xs ∧ SqL K H b zs ∧ xs.length + zs.length ≤ sizeLine ∧ ∀ p, H p = none → Q (.ref p) (upd H p (.lst (xs ++ zs)))
noncomputable def rCatU (K : PySem.W.Frag) : R2 := fun x y H Q => ∃ a b xs ys, x = .ref a ∧ y = .ref b ∧ SqT K H a xs ∧ SqT K H b ys ∧ xs.length + ys.length ≤ sizeLine ∧
  (xs = [] → Q (.ref b) H) ∧ (xs ≠ [] → ys = [] → Q (.ref a) H) ∧ (xs ≠ [] → ys ≠ [] → ∀ p, H p = none → Q (.ref p) (upd H p (.tup (xs ++ ys))))
section
variable {X : Cx} {K : PySem.W.Frag}
theorem op_catS (hK : X.K = K) : OpR X (binaryOp .Add) (rCatS K) := by
  subst hK
  intro pins s σ H x y v u Q I rx ry h
  obtain ⟨l, b, xs, zs, rfl, rfl, hH, hB, hz, q⟩ := h
  cases rx
  cases ry
  obtain ⟨its, r, pl, z⟩ := I.list hH
  obtain ⟨its2, r2, pl2, z2⟩ := I.list hB
  obtain ⟨⟨cls, dd, data, sl⟩, ho, hc, n, hd⟩ := pl.isList
  obtain ⟨⟨cls2, dd2, data2, sl2⟩, ho2, hc2, n2, hd2⟩ := pl2.isList
  simp only at hc hd hc2 hd2
  subst hc hd hc2 hd2
  have e : its.toArray ++ its2.toArray = (its ++ its2).toArray := by simp
  refine concat_meets ⟨_, ho, rfl⟩ ⟨_, ho2, rfl⟩ noFill_list_add seq_list_add PySem.F.slot_list_add PySem.F.entry_list_add (PySem.F.args_list_add_2 _ _) (list_addW l b its.toArray its2.toArray n n2 dd dd2 sl sl2 (by rw [List.size_toArray, List.size_toArray, ← r.length, ← r2.length]; exact hz)) ⟨ho, ho2, ?_⟩
  rw [e]
  exact ⟨.ref _, _, I.lnew (t' := s.toks) (r.append r2) (by rw [List.length_append]; omega), rfl, q _ I.fresh⟩
theorem op_catU (hK : X.K = K) : OpR X (binaryOp .Add) (rCatU K) := by
  subst hK
  intro pins s σ H x y v u Q I rx ry h
  obtain ⟨a, b, xs, ys, rfl, rfl, ha, hb, hz, q0, q1, q2⟩ := h
  cases rx
  cases ry
  obtain ⟨its, r1, p1, _⟩ := I.tuple ha
  obtain ⟨its2, r2, p2, _⟩ := I.tuple hb
  obtain ⟨⟨cls, dd, data, sl⟩, ho, hc, n, hd⟩ := id p1
  obtain ⟨⟨cls2, dd2, data2, sl2⟩, ho2, hc2, n2, hd2⟩ := id p2
  simp only at hc hd hc2 hd2
  subst hc hd hc2 hd2
  have e : its.toArray ++ its2.toArray = (its ++ its2).toArray := by simp
  by_cases hv : its = []
  · exact concat_meets ⟨_, ho, rfl⟩ ⟨_, ho2, rfl⟩ noFill_tuple_add seq_tuple_add PySem.F.slot_tuple_add PySem.F.entry_tuple_add (PySem.F.args_tuple_add_2 _ _)
      (tuple_addW0 a b its.toArray its2.toArray n n2 dd dd2 sl sl2 (by simp [hv])) ⟨ho, ho2, ⟨.ref b, H, I, rfl, q0 (r1.nil_iff.mp hv)⟩⟩
  · have hx : xs ≠ [] := fun z => hv (r1.nil_iff.mpr z)
    by_cases hw : its2 = []
    · exact concat_meets ⟨_, ho, rfl⟩ ⟨_, ho2, rfl⟩ noFill_tuple_add seq_tuple_add PySem.F.slot_tuple_add PySem.F.entry_tuple_add (PySem.F.args_tuple_add_2 _ _)
        (tuple_addW1 a b its.toArray its2.toArray n n2 dd dd2 sl sl2 (by simpa using hv) (by simp [hw])) ⟨ho, ho2, ⟨.ref a, H, I, rfl, q1 hx (r2.nil_iff.mp hw)⟩⟩
    · refine concat_meets ⟨_, ho, rfl⟩ ⟨_, ho2, rfl⟩ noFill_tuple_add seq_tuple_add PySem.F.slot_tuple_add PySem.F.entry_tuple_add (PySem.F.args_tuple_add_2 _ _)
        (tuple_addW2 a b its.toArray its2.toArray n n2 dd dd2 sl sl2 (by simpa using hv) (by simpa using hw) (by rw [List.size_toArray, List.size_toArray, ← r1.length, ← r2.length]; exact hz)) ⟨ho, ho2, ?_⟩
      rw [e]
      refine ⟨.ref s.heap.objs.size, _, I.laid (t' := s.toks) (o := .tup (xs ++ ys)) (fun b ob q => Heap.get?_push_of_some _ q) (Nat.le_refl _) ?_, rfl, q2 hx (fun w => hw (r2.nil_iff.mpr w)) _ (I.hok.fresh (Nat.le_refl _))⟩
      exact ⟨by rw [List.length_append]; exact hz, _, r1.append r2, TupN.new _ _⟩
noncomputable def rAddG (K : PySem.W.Frag) : R2 := fun x y H Q => rI0 (fun i j => .int (i + j)) x y H Q ∨ rCatS K x y H Q ∨ rCatU K x y H Q ∨ ∃ i j, x = .str i ∧ y = .str j ∧ i.length + j.length ≤ sizeLine ∧ Q (.str (i ++ j)) H
theorem op_addG (hK : X.K = K) : OpR X (binaryOp .Add) (rAddG K) := op_add.or ((op_catS hK).or ((op_catU hK).or op_add_str))
end
section
variable {K : PySem.W.Frag} {O : List Nat}
noncomputable def dAdd : D → D → Option D
  | .int i, .int j => some (.int (i + j))
  | .lst xs, .lst ys => if xs.length + ys.length ≤ sizeLine then some (.lst (xs ++ ys)) else none
  | .tup xs, .tup ys => if xs.length + ys.length ≤ sizeLine then some (.tup (xs ++ ys)) else none
  | .str x, .str y => if x.length + y.length ≤ sizeLine then some (.str (x ++ y)) else none
  | _, _ => none
theorem og_add : OpG K (rAddG K) dAdd := fun H R x y d e u Q s rx ry q k => by
  unfold dAdd at q
  split at q
  · rename_i i j
    cases q
    cases rx
    cases ry
    exact .inl ⟨i, j, rfl, rfl, k _ H R (Ext.refl s) (.int _)⟩
  · split at q
    · rename_i hz
      cases q
      cases rx with
      | @lst a1 xs ds h r =>
        cases ry with
        | @lst a2 ys es h2 r2 =>
          refine .inr (.inl ⟨_, _, _, _, rfl, rfl, Same.sqL s h, Same.sqL s h2, by rw [r.length, r2.length]; exact hz, fun p np => ?_⟩)
          have x := Ext.new (o := .lst (xs ++ ys)) s np
          exact k _ _ _ x (.lst (SqL.of upd_same) ((r.append r2).mono x.r))
    · cases q
  · split at q
    · rename_i hz
      cases q
      cases rx with
      | @tup a1 xs ds h r =>
        cases ry with
        | @tup a2 ys es h2 r2 =>
          refine .inr (.inr (.inl ⟨_, _, _, _, rfl, rfl, SqT.of (s _ _ h), SqT.of (s _ _ h2), by rw [r.length, r2.length]; exact hz, fun z => ?_, fun _ z => ?_, fun _ _ p np => ?_⟩))
          · subst z
            cases r
            exact k _ H R (Ext.refl s) (.tup h2 r2)
          · subst z
            cases r2
            rw [List.append_nil] at k
            exact k _ H R (Ext.refl s) (.tup h r)
          · have x := Ext.new (o := .tup (xs ++ ys)) s np
            exact k _ _ _ x (.tup upd_same ((r.append r2).mono x.r))
    · cases q
  · rename_i i j
    split at q
    · rename_i hz
      cases q
      cases rx
      cases ry
      exact .inr (.inr (.inr ⟨i, j, rfl, rfl, hz, k _ H R (Ext.refl s) (.str _)⟩))
    · cases q
  · cases q
noncomputable def OpN (K : PySem.W.Frag) (r : R2) (g : D → D → Option (List D)) : Prop := ∀ (H R : Hp) (x y : V) (d e : D) (us : List D) (Q : VK), (∀ a o, R a = some o → H a = some o) → Rp K R x d → Rp K R y e → g d e = some us → (∀ l vs, H l = none → Rps K R vs us → Q (.ref l) (upd H l (.lst vs))) → r x y H Q
noncomputable def mOp2L (g : D → D → Option (List D)) (fa fb : Rho → Option (D × Rho)) : Rho → Option (List D × Rho) := mBind fa fun x => mBind fb fun y => mLift (g x y)
theorem mn_op {ta tb : TE} {r : R2} {g : D → D → Option (List D)} {fa fb : Rho → Option (D × Rho)} (h : OpN K r g) (ha : ME K O ta fa) (hb : ME K O tb fb) : MN K O (tOp r ta tb) (mOp2L g fa fb) := fun Z σ H R ρ d ρ' Q S e k => by
  obtain ⟨x, ρ1, e1, e⟩ := mBind_some e
  obtain ⟨y, ρ2, e2, e⟩ := mBind_some e
  obtain ⟨e3, rfl⟩ := mLift_some e
  refine ha Z σ H R ρ x ρ1 _ S e1 fun v H1 R1 S1 st1 r1 => hb Z σ H1 R1 ρ1 y _ _ S1 e2 fun w H2 R2 S2 st2 r2 => ?_
  refine h H2 R2 v w x y d Q S2.sub (r1.mono st2.r) r2 e3 fun l vs hl rv => ?_
  have x := Ext.hid (o := .lst vs) S2.sub hl
  exact k l vs _ _ (S2.ext x) ((st1.trans st2).trans x.stp) ((st1.trans st2).new hl) upd_same (S2.out hl) rv
noncomputable def dCatL : D → D → Option (List D)
  | .lst xs, .lst ys => if xs.length + ys.length ≤ sizeLine then some (xs ++ ys) else none
  | _, _ => none
theorem on_cat : OpN K (rAddG K) dCatL := fun H R x y d e u Q s rx ry q k => by
  unfold dCatL at q
  split at q
  · split at q
    · rename_i hz
      cases q
      cases rx with
      | lst h r =>
        cases ry with
        | lst h2 r2 =>
          exact .inr (.inl ⟨_, _, _, _, rfl, rfl, Same.sqL s h, Same.sqL s h2, by rw [r.length, r2.length]; exact hz, fun p np => k p _ np (r.append r2)⟩)
    · cases q
  · cases q
end
mutual
noncomputable def D.toP : D → Option PyData
  | .non => some .none
  | .bl b => some (.bool b)
  | .int i => some (.int i)
  | .str x => some (.str x)
  | .lst xs => (D.toPs xs).map PyData.list
  | .tup xs => (D.toPs xs).map PyData.tuple
  | .obj _ _ => none
  | .dct _ => none
  | .exc _ => none
  | .fn _ => none
  | .dit _ => none
noncomputable def D.toPs : List D → Option (List PyData)
  | [] => some []
  | d :: r => match D.toP d, D.toPs r with
    | some p, some ps => some (p :: ps)
    | _, _ => none
end
section
variable {K : PySem.W.Frag} {O : List Nat} {R : Hp}
mutual
theorem Rp.dv : ∀ {v : V} {d : D} {p : PyData}, Rp K R v d → d.toP = some p → DV K R v p
  | _, _, p, .non, e => by simp only [D.toP] at e; cases e; exact .non
  | _, _, p, .bl b, e => by simp only [D.toP] at e; cases e; exact .bl b
  | _, _, p, .int i, e => by simp only [D.toP] at e; cases e; exact .int i
  | _, _, p, .str x, e => by simp only [D.toP] at e; cases e; exact .str x
  | _, _, p, .lst (ds := ds) h r, e => by
    simp only [D.toP] at e
    cases z : D.toPs ds with
    | none => rw [z] at e; cases e
    | some ps => rw [z] at e; cases e; exact .lst h (Rps.dvs r z)
  | _, _, p, .tup (ds := ds) h r, e => by
    simp only [D.toP] at e
    cases z : D.toPs ds with
    | none => rw [z] at e; cases e
    | some ps => rw [z] at e; cases e; exact .tup (SqT.of h) (Rps.dvs r z)
  | _, _, p, .obj n h r, e => by simp only [D.toP] at e; cases e
  | _, _, p, .dct h r, e => by simp only [D.toP] at e; cases e
  | _, _, p, .exc _ _ _, e => by simp only [D.toP] at e; cases e
  | _, _, p, .fn _, e => by simp only [D.toP] at e; cases e
  | _, _, p, .dit h r, e => by simp only [D.toP] at e; cases e
theorem Rps.dvs : ∀ {xs : List V} {ds : List D} {ps : List PyData}, Rps K R xs ds → D.toPs ds = some ps → DVs K R xs ps
  | _, _, ps, .nil, e => by simp only [D.toPs] at e; cases e; exact .nil
  | _, _, ps, .cons (d := d) (ds := ds) h r, e => by
    simp only [D.toPs] at e
    cases z : d.toP with
    | none => rw [z] at e; cases e
    | some p =>
      cases w : D.toPs ds with
      | none => rw [z, w] at e; cases e
      | some qs => rw [z, w] at e; cases e; exact .cons (Rp.dv h z) (Rps.dvs r w)
end
noncomputable def eqD (d e : D) : Option Bool := match d.toP, e.toP with
  | some p, some q => if SeqAt.shaped p = true ∧ SeqAt.shaped q = true then some (PyData.eqv p q) else none
  | _, _ => none
noncomputable def dEq (d e : D) : Option D := (eqD d e).map .bl
noncomputable def dNe (d e : D) : Option D := (eqD d e).map fun b => .bl (!b)
theorem eqD_some {d e : D} {b : Bool} (h : eqD d e = some b) : ∃ p q, d.toP = some p ∧ e.toP = some q ∧ SeqAt.shaped p = true ∧ SeqAt.shaped q = true ∧ PyData.eqv p q = b := by
  unfold eqD at h
  cases h1 : d.toP with
  | none => rw [h1] at h; cases h
  | some p =>
    cases h2 : e.toP with
    | none => rw [h1, h2] at h; cases h
    | some q =>
      rw [h1, h2] at h
      dsimp only at h
      split at h
      · rename_i z
        exact ⟨p, q, rfl, rfl, z.1, z.2, Option.some.inj h⟩
      · cases h
theorem os_eq : OpS K (rEqD K) dEq := fun H x y d e u Q rx ry q k => by
  unfold dEq at q
  cases h : eqD d e with
  | none => rw [h] at q; cases q
  | some b =>
    rw [h] at q
    cases q
    obtain ⟨p, r, h1, h2, h3, h4, h5⟩ := eqD_some h
    refine ⟨p, r, rx.dv h1, ry.dv h2, h3, h4, ?_⟩
    rw [h5]
    exact k _ (.bl _)
theorem os_ne : OpS K (rNeD K) dNe := fun H x y d e u Q rx ry q k => by
  unfold dNe at q
  cases h : eqD d e with
  | none => rw [h] at q; cases q
  | some b =>
    rw [h] at q
    cases q
    obtain ⟨p, r, h1, h2, h3, h4, h5⟩ := eqD_some h
    refine ⟨p, r, rx.dv h1, ry.dv h2, h3, h4, ?_⟩
    rw [h5]
    exact k _ (.bl _)
noncomputable def dIsN (d e : D) : Option D := match e with
  | .non => some (.bl (match d with | .non => true | _ => false))
  | _ => none
noncomputable def dNotN (d e : D) : Option D := match e with
  | .non => some (.bl (match d with | .non => false | _ => true))
  | _ => none
theorem os_isN : OpS K (fun x y H Q => y = .non ∧ Q (.bl (decide (x = .non))) H) dIsN := fun H x y d e u Q rx ry q k => by
  cases ry with
  | non =>
    refine ⟨rfl, ?_⟩
    cases rx <;> (cases q; exact k _ (.bl _))
  | _ => cases q
theorem os_notN : OpS K (fun x y H Q => y = .non ∧ Q (.bl (!decide (x = .non))) H) dNotN := fun H x y d e u Q rx ry q k => by
  cases ry with
  | non =>
    refine ⟨rfl, ?_⟩
    cases rx <;> (cases q; exact k _ (.bl _))
  | _ => cases q
end
end L2
set_option Elab.async false
set_option linter.all false
set_option maxRecDepth 100000
set_option maxHeartbeats 4000000
namespace L2
open PySem PySem.Spec PyProof.Rows
section
variable {K : PySem.W.Frag} {O : List Nat} {t ta tb tc : TE} {tr : TA} {fa fb fc : Rho → Option (D × Rho)} {fs : Rho → Option (List D × Rho)}
noncomputable def CallG (K : PySem.W.Frag) (r : List V → Hp → VK → Prop) (g : D → Option D) : Prop := ∀ (H R : Hp) (x : V) (d u : D) (Q : VK), (∀ a o, R a = some o → H a = some o) → Rp K R x d → g d = some u → (∀ v H' R', Ext H R H' R' → Rp K R' v u → Q v H') → r [x] H Q
theorem me_callG {r : List V → Hp → VK → Prop} {g : D → Option D} (h : CallG K r g) (ha : ME K O t fa) : ME K O (tCB r (tCons t tNil)) (mOp1 g fa) := fun Z σ H R ρ d ρ' Q S e k => by
  obtain ⟨x, ρ1, e1, e⟩ := mBind_some e
  obtain ⟨e2, rfl⟩ := mLift_some e
  refine ha Z σ H R ρ x _ _ S e1 fun v H1 R1 S1 st1 r1 => ?_
  exact h H1 R1 v x d Q S1.sub r1 e2 fun w H2 R2 x2 r2 => k w H2 R2 (S1.ext x2) (st1.trans x2.stp) r2
noncomputable def CallN (K : PySem.W.Frag) (r : List V → Hp → VK → Prop) (g : D → Option (List D)) : Prop := ∀ (H R : Hp) (x : V) (d : D) (us : List D) (Q : VK), (∀ a o, R a = some o → H a = some o) → Rp K R x d → g d = some us → (∀ l vs, H l = none → Rps K R vs us → Q (.ref l) (upd H l (.lst vs))) → r [x] H Q
noncomputable def mOp1L (g : D → Option (List D)) (f : Rho → Option (D × Rho)) : Rho → Option (List D × Rho) := mBind f fun x => mLift (g x)
theorem mn_call1 {r : List V → Hp → VK → Prop} {g : D → Option (List D)} (h : CallN K r g) (ha : ME K O t fa) : MN K O (tCB r (tCons t tNil)) (mOp1L g fa) := fun Z σ H R ρ d ρ' Q S e k => by
  obtain ⟨x, ρ1, e1, e⟩ := mBind_some e
  obtain ⟨e2, rfl⟩ := mLift_some e
  refine ha Z σ H R ρ x _ _ S e1 fun v H1 R1 S1 st1 r1 => ?_
  refine h H1 R1 v x d Q S1.sub r1 e2 fun l vs hl rv => ?_
  have y := Ext.hid (o := .lst vs) S1.sub hl
  exact k l vs _ _ (S1.ext y) (st1.trans y.stp) (st1.new hl) upd_same (S1.out hl) rv
noncomputable def dSeq : D → Option (List D)
  | .lst xs => some xs
  | .tup xs => some xs
  | _ => none
theorem cn_list : CallN K (fun xs H Q => ∃ p ys, xs = [.ref p] ∧ (SqL K H p ys ∨ SqT K H p ys) ∧ ∀ l, H l = none → Q (.ref l) (upd H l (.lst ys))) dSeq := fun H R x d us Q s r e k => by
  cases r with
  | lst h q => cases e; exact ⟨_, _, rfl, .inl (Same.sqL s h), fun l hl => k l _ hl q⟩
  | tup h q => cases e; exact ⟨_, _, rfl, .inr (SqT.of (s _ _ h)), fun l hl => k l _ hl q⟩
  | _ => cases e
noncomputable def dTuple : D → Option D
  | .lst xs => some (.tup xs)
  | .tup xs => some (.tup xs)
  | _ => none
theorem cg_tuple : CallG K (fun xs H Q => ∃ p ys, xs = [.ref p] ∧ ((SqL K H p ys ∧ ∀ l, H l = none → Q (.ref l) (upd H l (.tup ys))) ∨ (SqT K H p ys ∧ Q (.ref p) H))) dTuple := fun H R x d u Q s r e k => by
  cases r with
  | lst h q =>
    cases e
    refine ⟨_, _, rfl, .inl ⟨Same.sqL s h, fun l hl => ?_⟩⟩
    rename_i a xs ds
    have y := Ext.new (o := .tup xs) s hl
    exact k _ _ _ y (.tup upd_same (q.mono y.r))
  | tup h q => cases e; exact ⟨_, _, rfl, .inr ⟨SqT.of (s _ _ h), k _ H R (Ext.refl s) (.tup h q)⟩⟩
  | _ => cases e
noncomputable def MO (K : PySem.W.Frag) (O : List Nat) (t : TO) (f : Rho → Option (Option Int × Rho)) : Prop := ∀ (Z : Anc) (σ : St) (H R : Hp) (ρ : Rho) (o : Option Int) (ρ' : Rho) (Q : Option Int → Hp → Prop), StR K Z O σ H R ρ → f ρ = some (o, ρ') → (∀ H' R', StR K Z O σ H' R' ρ' → Stp O σ H R H' R' → Q o H') → t σ H Q
theorem mo_none : MO K O tNoPart (mRet none) := fun Z σ H R ρ o ρ' Q S e k => by
  cases e
  exact k H R S (Stp.refl _ _ _ _)
noncomputable def mPart (f : Rho → Option (D × Rho)) : Rho → Option (Option Int × Rho) := mBind f fun d => mLift (match d with
  | .int i => some (some i)
  | _ => none)
theorem mo_some (h : ME K O t fa) : MO K O (tPart t) (mPart fa) := fun Z σ H R ρ o ρ' Q S e k => by
  obtain ⟨x, ρ1, e1, e⟩ := mBind_some e
  obtain ⟨e2, rfl⟩ := mLift_some e
  refine h Z σ H R ρ x _ _ S e1 fun v H1 R1 S1 st1 r1 => ?_
  cases r1 with
  | int i => cases e2; exact ⟨i, rfl, k H1 R1 S1 st1⟩
  | _ => cases e2
noncomputable def cutD (xs : List D) (lo hi : Option Int) : List D := (xs.drop (HT.sIx xs.length 0 lo)).take (HT.sIx xs.length xs.length hi - HT.sIx xs.length 0 lo)
theorem Rps.cut {R : Hp} {xs : List V} {ds : List D} (r : Rps K R xs ds) (lo hi : Option Int) : Rps K R (cutV xs lo hi) (cutD ds lo hi) := by
  unfold cutV cutD
  rw [r.length]
  exact (r.drop _).take _
noncomputable def rSlG (K : PySem.W.Frag) : V → Option Int → Option Int → Hp → VK → Prop := fun x lo hi H Q => rSlL K x lo hi H Q ∨ rSlT K x lo hi H Q
theorem sl_seqK {X : Cx} (h : X.K = K) : SlR X (rSlG K) := by
  subst h
  exact sl_list.or sl_tup
noncomputable def dSl (d : D) (lo hi : Option Int) : Option D := match d with
  | .lst xs => some (.lst (cutD xs lo hi))
  | .tup xs => if HT.sIx xs.length 0 lo = 0 ∧ HT.sIx xs.length xs.length hi = xs.length then none else some (.tup (cutD xs lo hi))
  | _ => none
noncomputable def mSl (f : Rho → Option (D × Rho)) (fl fh : Rho → Option (Option Int × Rho)) : Rho → Option (D × Rho) := mBind f fun d => mBind fl fun lo => mBind fh fun hi => mLift (dSl d lo hi)
theorem me_slice {tl th : TO} {fl fh : Rho → Option (Option Int × Rho)} (h : ME K O t fa) (hl : MO K O tl fl) (hh : MO K O th fh) : ME K O (tSl (rSlG K) t tl th) (mSl fa fl fh) := fun Z σ H R ρ d ρ' Q S e k => by
  obtain ⟨x, ρ1, e1, e⟩ := mBind_some e
  obtain ⟨lo, ρ2, e2, e⟩ := mBind_some e
  obtain ⟨hi, ρ3, e3, e⟩ := mBind_some e
  obtain ⟨e4, rfl⟩ := mLift_some e
  refine h Z σ H R ρ x _ _ S e1 fun v H1 R1 S1 st1 r1 => hl Z σ H1 R1 ρ1 lo _ _ S1 e2 fun H2 R2 S2 st2 => hh Z σ H2 R2 ρ2 hi _ _ S2 e3 fun H3 R3 S3 st3 => ?_
  have r3 := (r1.mono st2.r).mono st3.r
  have st := (st1.trans st2).trans st3
  cases r3 with
  | @lst a xs ds q r =>
    cases e4
    refine .inl ⟨a, xs, rfl, Same.sqL S3.same q, fun p np => ?_⟩
    have y := Ext.new (o := .lst (cutV xs lo hi)) S3.sub np
    exact k _ _ _ (S3.ext y) (st.trans y.stp) (.lst (SqL.of upd_same) ((r.cut lo hi).mono y.r))
  | @tup a xs ds q r =>
    have e5 : (if HT.sIx ds.length 0 lo = 0 ∧ HT.sIx ds.length ds.length hi = ds.length then none else some (D.tup (cutD ds lo hi))) = some d := e4
    split at e5
    · cases e5
    · rename_i hn
      cases e5
      refine .inr ⟨a, xs, rfl, SqT.of (S3.same _ _ q), by rw [r.length]; exact hn, fun p np => ?_⟩
      have y := Ext.new (o := .tup (cutV xs lo hi)) S3.sub np
      exact k _ _ _ (S3.ext y) (st.trans y.stp) (.tup upd_same ((r.cut lo hi).mono y.r))
  | _ => cases e4
noncomputable def mSlL (f : Rho → Option (D × Rho)) (fl fh : Rho → Option (Option Int × Rho)) : Rho → Option (List D × Rho) := mBind f fun d => mBind fl fun lo => mBind fh fun hi => mLift (match d with
  | .lst xs => some (cutD xs lo hi)
  | _ => none)
theorem mn_slice {tl th : TO} {fl fh : Rho → Option (Option Int × Rho)} (h : ME K O t fa) (hl : MO K O tl fl) (hh : MO K O th fh) : MN K O (tSl (rSlG K) t tl th) (mSlL fa fl fh) := fun Z σ H R ρ d ρ' Q S e k => by
  obtain ⟨x, ρ1, e1, e⟩ := mBind_some e
  obtain ⟨lo, ρ2, e2, e⟩ := mBind_some e
  obtain ⟨hi, ρ3, e3, e⟩ := mBind_some e
  obtain ⟨e4, rfl⟩ := mLift_some e
  refine h Z σ H R ρ x _ _ S e1 fun v H1 R1 S1 st1 r1 => hl Z σ H1 R1 ρ1 lo _ _ S1 e2 fun H2 R2 S2 st2 => hh Z σ H2 R2 ρ2 hi _ _ S2 e3 fun H3 R3 S3 st3 => ?_
  have r3 := (r1.mono st2.r).mono st3.r
  have st := (st1.trans st2).trans st3
  cases r3 with
  | @lst a xs ds q r =>
    cases e4
    refine .inl ⟨a, xs, rfl, Same.sqL S3.same q, fun p np => ?_⟩
    have y := Ext.hid (o := .lst (cutV xs lo hi)) S3.sub np
    exact k p _ _ _ (S3.ext y) (st.trans y.stp) (st.new np) upd_same (S3.out np) (r.cut lo hi)
  | _ => cases e4
noncomputable def mChain (g g' : D → D → Option D) (fa fb fc : Rho → Option (D × Rho)) : Rho → Option (D × Rho) := mBind fa fun x => mBind fb fun y => mBind (mTest (mLift (g x y))) fun b => if b = true then mBind fc fun z => mLift (g' y z) else mRet (.bl false)
theorem me_chain {r r' : R2} {g g' : D → D → Option D} (h : OpS K r g) (h' : OpS K r' g') (ha : ME K O ta fa) (hb : ME K O tb fb) (hc : ME K O tc fc) : ME K O (tChain r r' ta tb tc) (mChain g g' fa fb fc) := fun Z σ H R ρ d ρ' Q S e k => by
  obtain ⟨x, ρ1, e1, e⟩ := mBind_some e
  obtain ⟨y, ρ2, e2, e⟩ := mBind_some e
  obtain ⟨b, ρ3, e3, e⟩ := mBind_some e
  obtain ⟨u, ρ4, f3, e4⟩ := mBind_some e3
  obtain ⟨g3, rfl⟩ := mLift_some f3
  obtain ⟨g4, rfl⟩ := mLift_some e4
  refine ha Z σ H R ρ x _ _ S e1 fun v H1 R1 S1 st1 r1 => hb Z σ H1 R1 ρ1 y _ _ S1 e2 fun w H2 R2 S2 st2 r2 => ?_
  refine h H2 v w x y u _ ((r1.mono st2.r).mono S2.same) (r2.mono S2.same) g3 fun z q => ?_
  cases q with
  | bl c =>
    cases g4
    refine ⟨_, rfl, ?_⟩
    cases b with
    | true =>
      obtain ⟨z, ρ5, e5, f⟩ := mBind_some e
      obtain ⟨e6, rfl⟩ := mLift_some f
      refine iteT (hc Z σ H2 R2 _ z _ _ S2 e5 fun w' H3 R3 S3 st3 r3 => ?_)
      exact h' H3 w w' y z d Q ((r2.mono st3.r).mono S3.same) (r3.mono S3.same) e6 fun v' q' => k v' H3 R3 S3 ((st1.trans st2).trans st3) q'.rp
    | false => cases e; exact iteF (k _ H2 R2 S2 (st1.trans st2) (.bl false))
  | _ => cases g4
theorem os_b0 {g : Int → Int → Bool} : OpS K (rI0 fun i j => .bl (g i j)) (dB0 g) := fun H x y d e u Q rx ry q k => by
  unfold dB0 at q
  split at q
  · rename_i i j
    cases q
    cases rx
    cases ry
    exact ⟨i, j, rfl, rfl, k _ (.bl _)⟩
  · cases q
noncomputable def flatD : D → Bool
  | .non => true
  | .bl _ => true
  | .int _ => true
  | .str _ => true
  | _ => false
noncomputable def vD : D → V
  | .bl b => .bl b
  | .int i => .int i
  | .str x => .str x
  | _ => .non
noncomputable def inD (x : D) (xs : List D) : Bool := inV (vD x) (xs.map vD)
theorem vD_of {R : Hp} {v : V} {d : D} (r : Rp K R v d) (h : flatD d = true) : v = vD d ∧ flatV v = true := by
  cases r with
  | non => exact ⟨rfl, rfl⟩
  | bl b => exact ⟨rfl, rfl⟩
  | int i => exact ⟨rfl, rfl⟩
  | str x => exact ⟨rfl, rfl⟩
  | _ => cases h
theorem vDs_of {R : Hp} : ∀ {xs : List V} {ds : List D}, Rps K R xs ds → ds.all flatD = true → xs = ds.map vD ∧ xs.all flatV = true
  | _, _, .nil, _ => ⟨rfl, rfl⟩
  | _, _, .cons h r, e => by
    rw [List.all_cons, Bool.and_eq_true] at e
    obtain ⟨h1, h2⟩ := vD_of h e.1
    obtain ⟨r1, r2⟩ := vDs_of r e.2
    exact ⟨by rw [List.map_cons, ← h1, ← r1], by rw [List.all_cons, h2, r2]; rfl⟩
noncomputable def dInG (neg : Bool) (x y : D) : Option D := match dSeq y with
  | some ys => if flatD x = true ∧ ys.all flatD = true then some (.bl (if neg then !inD x ys else inD x ys)) else none
  | none => none
theorem os_in {neg : Bool} : OpS K (rIn K neg) (dInG neg) := fun H x y d e u Q rx ry q k => by
  unfold dInG at q
  have go : ∀ {p : Addr} {xs : List V} {ds : List D}, y = .ref p → (SqL K H p xs ∨ SqT K H p xs) → Rps K H xs ds → (if flatD d = true ∧ ds.all flatD = true then some (D.bl (if neg then !inD d ds else inD d ds)) else none) = some u → rIn K neg x y H Q := fun {p xs ds} ey hs r q' => by
    split at q'
    · rename_i z
      cases q'
      obtain ⟨h1, h2⟩ := vD_of rx z.1
      obtain ⟨r1, r2⟩ := vDs_of r z.2
      refine ⟨p, xs, ey, hs, h2, r2, ?_⟩
      subst h1 r1
      exact k _ (.bl _)
    · cases q'
  cases ry with
  | lst h r => exact go rfl (.inl h) r q
  | tup h r => exact go rfl (.inr (SqT.of h)) r q
  | _ => cases q
noncomputable def mDivmod (f : Rho → Option (List D × Rho)) : Rho → Option (D × Rho) := mBind f fun ds => mLift (match ds with
  | [.int i, .int j] => if 0 < j ∧ j < 1073741824 then some (.tup [.int (i / j), .int (i % j)]) else none
  | _ => none)
noncomputable def mMM (g : Int → Int → Int) (f : Rho → Option (List D × Rho)) : Rho → Option (D × Rho) := mBind f fun ds => mLift (match ds with
  | [.int i, .int j] => some (.int (g i j))
  | _ => none)
noncomputable def iZipG (K : PySem.W.Frag) (ta : TA) : TI := fun σ H R => (iZip K true true ta σ H R ∨ iZip K true false ta σ H R) ∨ (iZip K false true ta σ H R ∨ iZip K false false ta σ H R)
theorem pi_zipG {X : Cx} {a b : Expr} {ta : TA} {p pos : Pos} {elts : List Expr} {x1 : Nat} {tp : Pos} (hK : X.K = K) (hg : Gl X "zip") (hm : X.mg "zip" = none) (ha : PA X [a, b] ta) (he : starEach [a, b] X.env = (false, eval a X.env) :: starEach [b] X.env := by rfl) (hpl : (backTo pos (starEach [b] X.env)).any (·.1) = false := by rfl) :
    PI X (.Tuple elts x1 tp) (.Call (.Name "zip" p) [a, b] [] pos) (iZipG K ta) := fun pins s σ H R I q => by
  rcases q with (q | q) | (q | q)
  · exact pi_zip true true hK hg hm ha he hpl pins s σ H R I q
  · exact pi_zip true false hK hg hm ha he hpl pins s σ H R I q
  · exact pi_zip false true hK hg hm ha he hpl pins s σ H R I q
  · exact pi_zip false false hK hg hm ha he hpl pins s σ H R I q
noncomputable def zipD (xs ys : List D) : List D := List.zipWith (fun x y => D.tup [x, y]) xs ys
noncomputable def mZip (f : Rho → Option (List D × Rho)) : Rho → Option (List D × Rho) := mBind f fun ds => mLift (match ds with
  | [x, y] => match dSeq x, dSeq y with
    | some xs, some ys => some (zipD xs ys)
    | _, _ => none
  | _ => none)
theorem SqB.inj_same {K : PySem.W.Frag} {b : Bool} {R H : Hp} {p : Addr} {xs : List V} (s : Same R H) (h : SqB K b R p xs) : SqB K b H p xs := by
  cases b
  · exact Same.tup s h
  · exact Same.sqL s h
theorem it_zip {R : Hp} {b1 b2 : Bool} {p1 p2 : Addr} {xs ys : List V} {ds es : List D} (h1 : SqB K b1 R p1 xs) (h2 : SqB K b2 R p2 ys) (r1 : Rps K R xs ds) (r2 : Rps K R ys es) : ItOk K (Itz K b1 b2 p1 p2) R (zipD ds es) := fun H' R' s b i => by
  have q1 := (SqB.inj_same s h1)
  have q2 := (SqB.inj_same s h2)
  have g1 := (SqB.inj_same b q1)
  have g2 := (SqB.inj_same b q2)
  have len : (zipD ds es).length = min ds.length es.length := by simp [zipD]
  have l1 := r1.length
  have l2 := r2.length
  refine ⟨fun e => ⟨xs, ys, g1, g2, by omega⟩, fun d e => ?_⟩
  unfold zipD at e
  rw [List.getElem?_zipWith] at e
  cases e1 : ds[i]? with
  | none => rw [e1] at e; cases e
  | some d1 =>
    cases e2 : es[i]? with
    | none => rw [e1, e2] at e; cases e
    | some d2 =>
      rw [e1, e2] at e
      cases e
      obtain ⟨v1, a1, a2⟩ := r1.get e1
      obtain ⟨v2, c1, c2⟩ := r2.get e2
      refine ⟨⟨xs, ys, v1, v2, g1, g2, a1, c1⟩, fun x H'' y => ?_⟩
      obtain ⟨T, x1, y1, rfl, hT, rfl, z1, z2⟩ := y
      have w1 := z1 xs g1
      have w2 := z2 ys g2
      rw [a1] at w1
      rw [c1] at w2
      cases w1
      cases w2
      have y := Ext.new (o := .tup [v1, v2]) b hT
      exact ⟨_, y, .tup upd_same (.cons ((a2.mono s).mono y.r) (.cons ((c2.mono s).mono y.r) .nil))⟩
theorem dSeq_some {x : D} {ds : List D} (h : dSeq x = some ds) : x = .lst ds ∨ x = .tup ds := by
  unfold dSeq at h
  split at h
  · cases h; exact .inl rfl
  · cases h; exact .inr rfl
  · cases h
theorem mi_zip (h : MA K O tr fs) : MI K O (iZipG K tr) (mZip fs) := fun Z σ H R ρ ds ρ' Q S e k => by
  obtain ⟨xs, ρ1, e1, e⟩ := mBind_some e
  obtain ⟨e2, rfl⟩ := mLift_some e
  have go : ∀ (b1 b2 : Bool) (x y : D) (as bs : List D), xs = [x, y] → ds = zipD as bs → (∀ (R1 : Hp) (v : V), Rp K R1 v x → ∃ p vs, v = .ref p ∧ SqB K b1 R1 p vs ∧ Rps K R1 vs as) → (∀ (R1 : Hp) (v : V), Rp K R1 v y → ∃ p vs, v = .ref p ∧ SqB K b2 R1 p vs ∧ Rps K R1 vs bs) → iZip K b1 b2 tr σ H Q := fun b1 b2 x y as bs hx hd g1 g2 => by
    subst hx hd
    refine h Z σ H R ρ _ _ _ S e1 fun vs H1 R1 S1 st1 r1 => ?_
    cases r1 with
    | cons q r =>
      cases r with
      | cons q' r =>
        cases r
        obtain ⟨p1, us, rfl, s1, t1⟩ := g1 _ _ q
        obtain ⟨p2, ws, rfl, s2, t2⟩ := g2 _ _ q'
        exact ⟨p1, p2, rfl, ⟨us, SqB.inj_same S1.same s1⟩, ⟨ws, SqB.inj_same S1.same s2⟩, k _ H1 R1 S1 st1 (it_zip s1 s2 t1 t2)⟩
  have gl : ∀ (as : List D) (R1 : Hp) (v : V), Rp K R1 v (.lst as) → ∃ p vs, v = .ref p ∧ SqB K true R1 p vs ∧ Rps K R1 vs as := fun as R1 v r => by
    cases r with
    | lst h q => exact ⟨_, _, rfl, h, q⟩
  have gt : ∀ (as : List D) (R1 : Hp) (v : V), Rp K R1 v (.tup as) → ∃ p vs, v = .ref p ∧ SqB K false R1 p vs ∧ Rps K R1 vs as := fun as R1 v r => by
    cases r with
    | tup h q => exact ⟨_, _, rfl, SqT.of h, q⟩
  split at e2
  · rename_i x y
    split at e2
    · rename_i as bs h1 h2
      cases e2
      rcases dSeq_some h1 with rfl | rfl <;> rcases dSeq_some h2 with rfl | rfl
      · exact .inl (.inl (go true true _ _ as bs rfl rfl (gl as) (gl bs)))
      · exact .inl (.inr (go true false _ _ as bs rfl rfl (gl as) (gt bs)))
      · exact .inr (.inl (go false true _ _ as bs rfl rfl (gt as) (gl bs)))
      · exact .inr (.inr (go false false _ _ as bs rfl rfl (gt as) (gt bs)))
    · cases e2
  · cases e2
end
inductive TyO (K : PySem.W.Frag) (H : Hp) : V → Value → Prop where
  | of {x : V} {t : Value} (h : TyOf K H x t) : TyO K H x t
  | sl {a : Addr} {xs : List V} (h : SqL K H a xs) : TyO K H (.ref a) (.type "list")
  | st {a : Addr} {xs : List V} (h : SqT K H a xs) : TyO K H (.ref a) (.type "tuple")
noncomputable def rIsO (K : PySem.W.Frag) : List V → Hp → VK → Prop := fun xs H Q => ∃ x y t c b, xs = [x, y] ∧ clsV y = some c ∧ TyO K H x t ∧ PySem.W.kitOne K t c = some b ∧ Q (.bl b) H
section
variable {X : Cx} {K : PySem.W.Frag} {O : List Nat} {t : TE} {fa : Rho → Option (D × Rho)}
theorem call_isO (hK : X.K = K) : CallR X (.builtin "isinstance") (rIsO K) := by
  subst hK
  intro pins s σ H xs us Q I r h
  obtain ⟨x, y, t, c, b, rfl, hc, ty, e, q⟩ := h
  cases ty with
  | of h => exact call_isi rfl pins s σ H [x, y] us Q I r ⟨x, y, t, c, b, rfl, hc, h, e, q⟩
  | sl h =>
    obtain ⟨u, w, rfl, ru, rw'⟩ := vals2 r
    cases ru
    have ew : w = c := by
      cases y with
      | ref a => exact (show w = Value.ref a from rw').trans (Option.some.inj hc)
      | ty n => exact (show w = Value.type n from rw').trans (Option.some.inj hc)
      | _ => cases hc
    subst ew
    obtain ⟨its, rv, pl, _⟩ := I.list h
    obtain ⟨o, e1, c1, _⟩ := pl.isList
    exact PySem.W.kia_one PySem.W.kitx_list I.kIn ⟨o, e1, c1⟩ e (fun z => nomatch z) fun tk => ⟨.bl b, H, I.tok tk, rfl, q⟩
  | st h =>
    obtain ⟨u, w, rfl, ru, rw'⟩ := vals2 r
    cases ru
    have ew : w = c := by
      cases y with
      | ref a => exact (show w = Value.ref a from rw').trans (Option.some.inj hc)
      | ty n => exact (show w = Value.type n from rw').trans (Option.some.inj hc)
      | _ => cases hc
    subst ew
    obtain ⟨its, rv, pl, _⟩ := I.tuple h
    obtain ⟨o, e1, c1, _⟩ := pl
    exact PySem.W.kia_one PySem.W.kitx_tuple I.kIn ⟨o, e1, c1⟩ e (fun z => nomatch z) fun tk => ⟨.bl b, H, I.tok tk, rfl, q⟩
noncomputable def tyN : D → Option String
  | .non => some "NoneType"
  | .bl _ => some "bool"
  | .int _ => some "int"
  | .str _ => some "str"
  | .lst _ => some "list"
  | .tup _ => some "tuple"
  | .dct _ => some "dict"
  | .exc _ => none
  | .fn _ => none
  | .dit _ => some "dict"
  | .obj _ _ => none
theorem tyO_of {H : Hp} {v : V} {d : D} {n : String} (r : Rp K H v d) (e : tyN d = some n) : TyO K H v (.type n) := by
  cases r with
  | non => cases e; exact .of .non
  | bl b => cases e; exact .of (.bl b)
  | int i => cases e; exact .of (.int i)
  | str x => cases e; exact .of (.str x)
  | lst h _ => cases e; exact .sl h
  | tup h _ => cases e; exact .st (SqT.of h)
  | dct h _ => cases e; exact .of (.dK h)
  | dit h _ => cases e; exact .of (.dT h)
  | obj _ _ => cases e
  | exc _ _ _ => cases e
  | fn _ => cases e
noncomputable def KitB (K : PySem.W.Frag) (Y : String) (f : String → Option Bool) : Prop := ∀ s b, f s = some b → PySem.W.kitOne K (.type s) (.type Y) = some b
noncomputable def isTab (Y : String) : String → Option Bool := fun s =>
  if s = "NoneType" then some (decide (Y = "NoneType")) else if s = "bool" then some (decide (Y = "bool") || decide (Y = "int")) else if s = "int" then some (decide (Y = "int")) else if s = "str" then some (decide (Y = "str"))
  else if s = "list" then some (decide (Y = "list")) else if s = "tuple" then some (decide (Y = "tuple")) else if s = "dict" then some (decide (Y = "dict")) else none
theorem kitB_mk {Y : String} (h1 : PySem.W.kitOne K (.type "NoneType") (.type Y) = some (decide (Y = "NoneType"))) (h2 : PySem.W.kitOne K (.type "bool") (.type Y) = some (decide (Y = "bool") || decide (Y = "int"))) (h3 : PySem.W.kitOne K (.type "int") (.type Y) = some (decide (Y = "int")))
    (h4 : PySem.W.kitOne K (.type "str") (.type Y) = some (decide (Y = "str"))) (h5 : PySem.W.kitOne K (.type "list") (.type Y) = some (decide (Y = "list"))) (h6 : PySem.W.kitOne K (.type "tuple") (.type Y) = some (decide (Y = "tuple"))) (h7 : PySem.W.kitOne K (.type "dict") (.type Y) = some (decide (Y = "dict"))) : KitB K Y (isTab Y) := fun s b e => by
  unfold isTab at e
  split at e
  · rename_i z; subst z; rw [← e]; exact h1
  split at e
  · rename_i z; subst z; rw [← e]; exact h2
  split at e
  · rename_i z; subst z; rw [← e]; exact h3
  split at e
  · rename_i z; subst z; rw [← e]; exact h4
  split at e
  · rename_i z; subst z; rw [← e]; exact h5
  split at e
  · rename_i z; subst z; rw [← e]; exact h6
  split at e
  · rename_i z; subst z; rw [← e]; exact h7
  · cases e
noncomputable def dIsi (f : String → Option Bool) (d : D) : Option D := match tyN d with
  | some s => (f s).map .bl
  | none => none
theorem me_isi {Y : String} {f : String → Option Bool} (hk : KitB K Y f) (ha : MB K O t fa) : ME K O (tCB (rIsO K) (tCons t (tCons (tC (.ty Y)) tNil))) (mOp1 (dIsi f) fa) := fun Z σ H R ρ d ρ' Q S e k => by
  obtain ⟨x, ρ1, e1, e⟩ := mBind_some e
  obtain ⟨e2, rfl⟩ := mLift_some e
  refine ha Z σ H R ρ x _ _ S e1 fun v H1 R1 S1 st1 r1 => ?_
  unfold dIsi at e2
  cases e3 : tyN x with
  | none => rw [e3] at e2; cases e2
  | some s =>
    rw [e3] at e2
    dsimp only at e2
    cases e4 : f s with
    | none => rw [e4] at e2; cases e2
    | some b =>
      rw [e4] at e2
      cases e2
      exact ⟨v, .ty Y, .type s, .type Y, b, rfl, rfl, tyO_of r1 e3, hk s b e4, k _ H1 R1 S1 st1 (.bl b)⟩
end
end L2
set_option Elab.async false
set_option linter.all false
set_option maxRecDepth 100000
set_option maxHeartbeats 4000000
namespace L2
open PySem PySem.Spec PyProof.Rows
noncomputable def mOf (f : Rho → Option (List D × Rho)) : Rho → Option (D × Rho) := mBind f fun ds => mRet (D.lst ds)
section
variable {K : PySem.W.Frag} {O O1 O' : List Nat} {t : TE} {c : MC} {u : TS} {f : Rho → Option Out} {fn : Rho → Option (List D × Rho)}
theorem me_new (h : MN K O t fn) : ME K O t (mOf fn) := h.me
theorem ms_weak (h : MS c O O1 u f) (hs : subO c O1 O' = true) : MS c O O' u f := fun Z E σ H R ρ o hP S e k => by
  refine h Z E σ H R ρ o hP S e ?_
  cases o with
  | nx ρ' =>
    intro σ' H' R' S' s'
    obtain ⟨S2, s2⟩ := S'.sub' hP hs
    exact k σ' H' _ S2 (s'.trans s2)
  | bk ρ' => exact k
  | ct ρ' => exact k
  | rt d ρ' => exact k
theorem ms_setC {k n : Nat} {js : List Nat} {wi : TI} {g : TG} {tt : TT} {te : TE} (he : MN c.K O (tComp n js wi g tt te) fn) (hs : subO c O O' = true) (hi : k ∉ O') : MS c O O' (sComp k n js wi g tt te) (sSet k (mOf fn)) :=
  show MS c O O' (tAsg (tComp n js wi g tt te) (gName k)) (sSet k (mOf fn)) from ms_set (me_new he) hs hi
noncomputable def sDrop (fe : Rho → Option (D × Rho)) : Rho → Option Out := fun ρ => match fe ρ with
  | none => none
  | some (_, ρ1) => some (.nx ρ1)
theorem ms_expr {fe : Rho → Option (D × Rho)} (he : ME c.K O t fe) (hs : subO c O O' = true) : MS c O O' (tDrop t) (sDrop fe) := fun Z E σ H R ρ o hP S e k => by
  unfold sDrop at e
  cases e1 : fe ρ with
  | none => rw [e1] at e; cases e
  | some p =>
    obtain ⟨d, ρ1⟩ := p
    rw [e1] at e
    cases e
    refine he Z σ H R ρ d ρ1 _ S e1 fun v H1 R1 S1 st1 r1 => ?_
    obtain ⟨S2, s2⟩ := S1.sub' hP hs
    exact k σ H1 _ S2 (st1.r.trans s2)
end
noncomputable def okMul (i j : Int) : Bool := (decide (-(2 ^ 64) < i) && decide (i < 2 ^ 64)) || (decide (-(2 ^ 64) < j) && decide (j < 2 ^ 64))
noncomputable def okDiv (_ j : Int) : Bool := decide (0 < j) && decide (j < 1073741824)
noncomputable def okMod (_ j : Int) : Bool := decide (0 < j)
noncomputable def okPow (i j : Int) : Bool := decide (0 ≤ j) && decide (j ≤ 1000000) && decide (i.natAbs < 2 ^ 64)
noncomputable def okShr (_ j : Int) : Bool := decide (0 ≤ j)
noncomputable abbrev dDiv : D → D → Option D := dI2 okDiv fun i j => i / j
noncomputable abbrev dMod : D → D → Option D := dI2 okMod fun i j => i % j
noncomputable abbrev dPow : D → D → Option D := dI2 okPow fun i j => i ^ j.toNat
noncomputable abbrev dShl : D → D → Option D := dI2 okPow fun i j => i * 2 ^ j.toNat
noncomputable abbrev dSub : D → D → Option D := dI0 fun i j => i - j
noncomputable abbrev dLt : D → D → Option D := dB0 fun i j => decide (i < j)
noncomputable abbrev dLe : D → D → Option D := dB0 fun i j => decide (i ≤ j)
noncomputable abbrev dGt : D → D → Option D := dB0 fun i j => decide (j < i)
noncomputable abbrev dGe : D → D → Option D := dB0 fun i j => decide (j ≤ i)
section
variable {K : PySem.W.Frag}
theorem og_div : OpG K (rI CDiv fun i j => .int (i / j)) dDiv := op_i fun i j h => by
  unfold okDiv at h
  simp only [Bool.and_eq_true, decide_eq_true_eq] at h
  exact h
theorem og_mod : OpG K (rI (fun _ j => 0 < j) fun i j => .int (i % j)) dMod := op_i fun i j h => of_decide_eq_true h
theorem og_pow : OpG K (rI CPow fun i j => .int (i ^ j.toNat)) dPow := op_i fun i j h => by
  unfold okPow at h
  simp only [Bool.and_eq_true, decide_eq_true_eq] at h
  exact ⟨h.1.1, h.1.2, h.2⟩
theorem og_shl : OpG K (rI CPow fun i j => .int (i * 2 ^ j.toNat)) dShl := op_i fun i j h => by
  unfold okPow at h
  simp only [Bool.and_eq_true, decide_eq_true_eq] at h
  exact ⟨h.1.1, h.1.2, h.2⟩
theorem og_sub : OpG K (rI0 fun i j => .int (i - j)) dSub := op_i0
noncomputable def spLaw (K : PySem.W.Frag) (n : Nat) : Sp := fun vs H Q _ => ∃ (b : Addr) (ns : List Int), vs = [.ref b] ∧ SqL K H b (ns.map V.int) ∧ ns.length ≤ n ∧ ∀ H', Q (.bl true) H'
theorem law_of {P : Program} {w : World} {mg : Str → Option Value} {base : Heap} {CX : CXT} {k n : Nat} {fa : Addr} {fd : FuncData} {x : Str} {f : List D → Option D} (F : FnOk P w K mg base CX k fa fd [x] (spP K false 1 f)) (h : ∀ ns : List Int, ns.length ≤ n → f [.lst (ns.map D.int)] = some (.bl true)) : FnOk P w K mg base CX k fa fd [x] (spLaw K n) :=
  F.imp fun vs H Q E q => by
    obtain ⟨b, ns, rfl, hb, hl, k⟩ := q
    refine ⟨rfl, H, [.lst (ns.map D.int)], .bl true, fun _ _ e => e, .cons (.lst hb (Rps.ints ns)) .nil, h ns hl, fun v H' R' _ r => ?_⟩
    have r' : Rp K R' v (.bl true) := r
    cases r'
    exact k H'
end
end L2
set_option Elab.async false
set_option linter.all false
set_option maxRecDepth 100000
set_option maxHeartbeats 4000000
namespace L2
open PySem PySem.Spec PyProof.Rows
section
variable {K : PySem.W.Frag} {O O' : List Nat} {t ta tb : TE} {fa fb : Rho → Option (D × Rho)} {fn : Rho → Option (List D × Rho)} {c : MC}
noncomputable def isBl (d : D) (b : Bool) : Bool := match d with
  | .bl x => x == b
  | _ => false
noncomputable def dIsB (d e : D) : Option D := match e with
  | .bl b => some (.bl (isBl d b))
  | _ => none
noncomputable def dNotB (d e : D) : Option D := match e with
  | .bl b => some (.bl (!isBl d b))
  | _ => none
theorem isBl_of {R : Hp} {v : V} {d : D} {b : Bool} (r : Rp K R v d) : decide (v = .bl b) = isBl d b := by
  cases r with
  | bl x => cases x <;> cases b <;> rfl
  | _ => rfl
theorem os_notB : OpS K (fun x y H Q => ∃ b, y = .bl b ∧ Q (.bl (!decide (x = .bl b))) H) dNotB := fun H x y d e u Q rx ry q k => by
  cases ry with
  | bl b => cases q; exact ⟨b, rfl, by rw [isBl_of rx]; exact k _ (.bl _)⟩
  | _ => cases q
noncomputable def dNeg : D → Option D
  | .int i => some (.int (-i))
  | _ => none
theorem me_neg (h : ME K O t fa) : ME K O (tUn (rU fun i => .int (-i)) t) (mOp1 dNeg fa) := fun Z σ H R ρ d ρ' Q S e k => by
  obtain ⟨x, ρ1, e1, e⟩ := mBind_some e
  obtain ⟨e2, rfl⟩ := mLift_some e
  refine h Z σ H R ρ x _ _ S e1 fun v H1 R1 S1 st1 r1 => ?_
  cases r1 with
  | int i => cases e2; exact ⟨i, rfl, k _ H1 R1 S1 st1 (.int _)⟩
  | _ => cases e2
theorem Rps.empty {R : Hp} {xs : List V} {ds : List D} (r : Rps K R xs ds) : xs.isEmpty = ds.isEmpty := by cases r <;> rfl
theorem range_any {α : Type} (l : List α) (f : α → Bool) (tr : Nat → Bool) (h : ∀ i x, l[i]? = some x → tr i = f x) : (List.range l.length).any tr = l.any f := by
  induction l generalizing tr with
  | nil => rfl
  | cons a l ih =>
    rw [List.length_cons, List.range_succ_eq_map, List.any_cons, List.any_map, List.any_cons, h 0 a rfl]
    congr 1
    exact ih (fun i => tr (i + 1)) fun i x e => h (i + 1) x (by simpa using e)
theorem call_any {X : Cx} (hK : X.K = K) (hc : X.calm = true) : CallR X (.builtin "any") (fun xs H Q => ∃ (p : Addr) (bs : List Bool), xs = [.ref p] ∧ SqL K H p (bs.map V.bl) ∧ Q (.bl (bs.any id)) H) := by
  subst hK
  intro pins s σ H xs us Q I r h
  obtain ⟨p, bs, rfl, hq, q⟩ := h
  obtain ⟨u, rfl, ru⟩ := vals1 r
  cases ru
  obtain ⟨its, rv, pl, hz⟩ := I.list hq
  have hh : X.A.in1.handled = none := I.ok.hd hc
  have eits := vals_bools rv
  have hl := pl.isList
  have hlt : p < s.heap.objs.size := by obtain ⟨_, e, _⟩ := hl; exact Heap.lt_size e
  refine call_any_walk (wpAny_pyIter_list hl ?_)
  refine ⟨_, _, _, _, _, _, fun i => bs.getD i false, rfl, Walks.list hh s.heap.objs.size p (Nat.ne_of_lt hlt) its.toArray, ⟨⟨_, Heap.get?_push_size _ rfl, rfl, rfl⟩, hl.push _⟩, fun i v s' Q' E' hP hQ => ?_, fun h' tk hk => ?_⟩
  · have e : (bs.map Value.bool)[i]? = some v := by rw [← eits]; simpa using hP
    rw [List.getElem?_map] at e
    cases z : bs[i]? with
    | none => rw [z] at e; cases e
    | some b =>
      rw [z] at e
      have e' : v = Value.bool b := (Option.some.inj e).symm
      subst e'
      refine wpAny_truthy_bool ?_
      have : bs.getD i false = b := by rw [List.getD_eq_getElem?_getD, z]; rfl
      dsimp only at hQ
      rw [this] at hQ
      exact hQ
  · have len : its.toArray.size = bs.length := by rw [eits]; simp
    refine ⟨.bl (bs.any id), H, I.kept (t' := tk) fun b o e => hk b o (fun z => ?_) (Heap.get?_push_of_some _ e), ?_, q⟩
    · have := Heap.lt_size e
      rw [List.mem_singleton.mp z] at this
      exact Nat.lt_irrefl _ this
    · show Value.bool _ = Value.bool _
      rw [len, range_any bs id]
      intro i x e
      rw [List.getD_eq_getElem?_getD, e]
      rfl
noncomputable def dAny : D → Option D
  | .lst xs => (boolsD xs).map fun bs => .bl (bs.any id)
  | _ => none
theorem cs_any : CallS K (fun xs H Q => ∃ (p : Addr) (bs : List Bool), xs = [.ref p] ∧ SqL K H p (bs.map V.bl) ∧ Q (.bl (bs.any id)) H) dAny := fun H x d u Q r e k => by
  cases r with
  | lst h q =>
    rename_i ds
    have e' : (boolsD ds).map (fun bs => D.bl (bs.any id)) = some u := e
    cases z : boolsD ds with
    | none => rw [z] at e'; cases e'
    | some ns =>
      rw [z] at e'
      cases e'
      have ex := boolsD_rps q z
      subst ex
      exact ⟨_, ns, rfl, h, k _ (.bl _)⟩
  | _ => cases e
noncomputable def sExt (i : Nat) (fn : Rho → Option (List D × Rho)) : Rho → Option Out := fun ρ => if isL ρ i = true then (match fn ρ with
  | none => none
  | some (ys, ρ1) => match ρ1[i]? with
    | some (some (.lst xs)) => if xs.length + ys.length ≤ sizeLine then some (.nx (ρ1.set i (some (.lst (xs ++ ys))))) else none
    | _ => none) else none
noncomputable def mRep (fn : Rho → Option (List D × Rho)) (fb : Rho → Option (D × Rho)) : Rho → Option (List D × Rho) := mBind fn fun xs => mBind fb fun y => mLift (match y with
  | .int k => if -(2 ^ 63) ≤ k ∧ k < 2 ^ 63 ∧ xs.length * k.toNat ≤ sizeLine then some (List.replicate k.toNat xs).flatten else none
  | _ => none)
theorem Rps.rep {R : Hp} {xs : List V} {ds : List D} (r : Rps K R xs ds) : ∀ k : Nat, Rps K R (List.replicate k xs).flatten (List.replicate k ds).flatten
  | 0 => .nil
  | k + 1 => by
    rw [List.replicate_succ, List.replicate_succ, List.flatten_cons, List.flatten_cons]
    exact r.append (Rps.rep r k)
end
end L2
set_option Elab.async false
set_option linter.all false
set_option maxRecDepth 100000
set_option maxHeartbeats 4000000
namespace L2
open PySem PySem.Spec PyProof.Rows
section
variable {M : Model} {A : Around} {E : Value → Shared → Prop} {s : Shared}
end
section
variable {X : Cx} {K : PySem.W.Frag}
end
section
variable {c : MC} {O O' : List Nat} {te : TE} {fn : Rho → Option (List D × Rho)}
end
theorem foldl_size {α : Type} (a : Array α) : ∀ (k : Nat) (acc : Array α), (List.foldl (fun x1 x2 => x1 ++ x2) acc (List.replicate k a)).size = acc.size + k * a.size
  | 0, acc => by simp
  | k + 1, acc => by
    rw [List.replicate_succ, List.foldl_cons, foldl_size a k, Array.size_append, Nat.succ_mul]
    omega
theorem noFill_tuple_mul : fillsNumberSlot (.type "tuple") "mul" = pure false :=
  PySem.fillsNumberSlot_seq (id := "tuple.__mul__") (r := some (.builtin "tuple.__rmul__")) F.slot_tuple_mul.lookup (by decide +kernel) F.slot_tuple_rmul.lookup (by decide +kernel)
theorem repeat_tuple : seqRepeat? (.type "tuple") = pure (some (.builtin "tuple.__mul__")) := by
  unfold seqRepeat?
  rw [PySem.seqSlot_of (T := "tuple") (name := "__mul__") (id := "tuple.__mul__") F.slot_tuple_mul.lookup (by decide +kernel), PySem.seqSlot_of (T := "tuple") (name := "__rmul__") (id := "tuple.__rmul__") F.slot_tuple_rmul.lookup (by decide +kernel)]
  rfl
theorem int_rmul_tuple (a : Int) (t : Tok) (l : Addr) (items : Array Value) (n : Nat) (dd : Option Addr) (sl : Array (Option Value)) :
    Meets (Builtin.«int.__rmul__» ⟨[.int a t, .ref l], []⟩) (fun _ R s => s.heap.get? l = some { cls := .type "tuple", dict := dd, data := .seq items n, slots := sl } ∧ R (.ok (.ret Value.notImplemented)) s) :=
  .of_wp fun prog w A R s h => by obtain ⟨hp, g, d, tk, os⟩ := s; obtain ⟨hl, h⟩ := h; wp_walk; exact ⟨_, rfl, h⟩
theorem tuple_mulW (l : Addr) (items : Array Value) (n : Nat) (dd : Option Addr) (sl : Array (Option Value)) (x : Int) (u : Tok) (h1 : 1 < x) (h2 : x ≤ 1000) (he : items.isEmpty = false) (hz : items.size ≤ 1000) :
    Meets (Builtin.«tuple.__mul__» ⟨[.ref l, .int x u], []⟩) (fun _ R s => s.heap.get? l = some { cls := .type "tuple", dict := dd, data := .seq items n, slots := sl } ∧ R (.ok (.ret (Value.ref s.heap.objs.size))) { s with heap := s.heap.push { cls := Value.type "tuple", data := Data.seq (List.foldl (fun x1 x2 => x1 ++ x2) #[] (List.replicate x.toNat items)) }, toks := s.toks }) :=
  .of_wp fun prog w A R s h => by
    obtain ⟨hp, g, d, tk, os⟩ := s; obtain ⟨hl, h⟩ := h
    have f1 := AutoSeq1.idx_int
    have f2 := AutoSeq1.sub_tuple_tuple
    have hc0 : ¬ (decide (x < -2 ^ 63) || decide (x ≥ 2 ^ 63)) = true := by
      simp only [Bool.or_eq_true, decide_eq_true_eq]
      omega
    have hc1 : ¬ (items.isEmpty || x == 1) = true := by
      rw [he, Bool.false_or]
      simp
      omega
    have hc2 : ¬ (decide (x ≤ 0) || items.isEmpty) = true := by
      rw [he, Bool.or_false]
      simp
      omega
    have hm : (items.size : Int) * x ≤ 1000 * 1000 := Int.le_trans (Int.mul_le_mul_of_nonneg_left h2 (Int.natCast_nonneg _)) (Int.mul_le_mul_of_nonneg_right (by omega) (by decide))
    have hc3 : ¬ (items.size : Int) * x > (2 ^ 63 - 1) / 8 := by omega
    have hc4 : ¬ Builtin.Tuple.tupleTooMany ((items.size : Int) * x) = true := by
      unfold Builtin.Tuple.tupleTooMany
      have : (sizeLine : Int) ≥ 1000 * 1000 := by decide
      simp
      omega
    wp_walk using wpAny_loadPart' hl
    rw [if_neg hc0]
    wp_walk using wpAny_loadPart' hl
    rw [if_neg hc1]
    rw [if_neg hc2]
    rw [if_neg hc3]
    rw [if_neg hc4]
    wp_walk using wpAny_loadPart' hl
    have hc5 : ¬ (List.foldl (fun x1 x2 => x1 ++ x2) #[] (List.replicate x.toNat items)).size > sizeLine := by
      rw [foldl_size]
      have h7 : x.toNat * items.size ≤ 1000 * 1000 := Nat.mul_le_mul (by omega) hz
      have h8 : (sizeLine : Nat) ≥ 1000 * 1000 := by decide
      simp
      omega
    rw [if_neg hc5]
    wp_walk using wpAny_loadPart' hl
    exact ⟨_, rfl, h⟩
noncomputable def rRepT (K : PySem.W.Frag) : R2 := fun x y H Q => ∃ l k xs, x = .ref l ∧ y = .int k ∧ SqT K H l xs ∧ 1 < k ∧ k ≤ 1000 ∧ xs ≠ [] ∧ xs.length ≤ 1000 ∧ ∀ p, H p = none → Q (.ref p) (upd H p (.tup (List.replicate k.toNat xs).flatten))
section
variable {X : Cx} {K : PySem.W.Frag}
theorem op_repT (hK : X.K = K) : OpR X (binaryOp .Mult) (rRepT K) := by
  subst hK
  intro pins s σ H x y v u Q I rx ry h
  obtain ⟨l, k, xs, rfl, rfl, hH, h1, h2, hx, hz, q⟩ := h
  cases rx
  obtain ⟨t, rfl⟩ := ry
  obtain ⟨its, r1, p1, _⟩ := I.tuple hH
  obtain ⟨⟨cls, dd, data, sl⟩, ho, hc, n, hd⟩ := id p1
  simp only at hc hd
  subst hc hd
  have hlen := r1.length
  have he : its.toArray.isEmpty = false := by
    cases its with
    | nil => exact absurd (r1.nil_iff.mp rfl) hx
    | cons a r => rfl
  have f0 : List.foldl (fun x1 x2 => x1 ++ x2) #[] (List.replicate k.toNat its.toArray) = (List.replicate k.toNat its).flatten.toArray := by
    have := foldl_rep its k.toNat []
    rw [List.nil_append] at this
    exact this
  refine wpAny_binaryOp_repeat_ref (T := "tuple") (U := "int") (by decide) ⟨_, ho, rfl⟩ (fun s' => typeIs_int s' k t) noFill_tuple_mul F.fills_int_mul F.slot_int_rmul repeat_tuple F.slot_int_index.lookup
    (call_meets F.slot_int_rmul (typeIs_int s k t) F.entry_int_rmul (F.args_int_rmul_2 _ _) (int_rmul_tuple k t l its.toArray n dd sl)
      ⟨ho, rfl, ⟨_, ho, rfl⟩, call_meets F.slot_tuple_mul ⟨_, ho, rfl⟩ F.entry_tuple_mul (F.args_tuple_mul_2 _ _) (tuple_mulW l its.toArray n dd sl k t h1 h2 he (by rw [List.size_toArray]; omega)) ⟨ho, ?_⟩⟩)
  rw [f0]
  have hsz : (List.replicate k.toNat xs).flatten.length ≤ sizeLine := by
    rw [len_rep]
    exact Nat.le_trans (Nat.mul_le_mul (by omega : k.toNat ≤ 1000) hz) (by decide)
  refine ⟨.ref s.heap.objs.size, _, I.laid (t' := s.toks) (o := .tup (List.replicate k.toNat xs).flatten) (fun b ob q => Heap.get?_push_of_some _ q) (Nat.le_refl _) ?_, rfl, q _ (I.hok.fresh (Nat.le_refl _))⟩
  exact ⟨hsz, _, r1.rep k.toNat, TupN.new _ _⟩
noncomputable def strRep (z : Str) (k : Int) : Str := if (k == 1 || z.length == 0) = true then z else ⟨List.foldl (fun x1 x2 => x1 ++ x2) #[] (List.replicate k.toNat z.cps)⟩
theorem op_repStr : OpR X (binaryOp .Mult) (fun x y H Q => ∃ z k, x = .str z ∧ y = .int k ∧ 0 < k ∧ k ≤ 1000 ∧ 0 < z.length ∧ z.length ≤ 1000 ∧ Q (.str (strRep z k)) H) := by
  intro pins s σ H x y v u Q I rx ry h
  obtain ⟨z, k, rfl, rfl, h1, h2, h3, h4, q⟩ := h
  obtain ⟨t, rfl⟩ := rx
  obtain ⟨t', rfl⟩ := ry
  have hm : z.length * k.toNat ≤ 1000 * 1000 := Nat.mul_le_mul h4 (by omega)
  refine PySem.P.mul_str (by simp; omega) (fun _ _ => ?_) (fun _ _ => ?_) ?_
  · intro hgt
    have h5 : ((2 : Int) ^ 63 - 1) / 1000 ≤ (2 ^ 63 - 1) / k := by
      refine Int.le_ediv_of_mul_le h1 ?_
      have : ((2 : Int) ^ 63 - 1) / 1000 * k ≤ (2 ^ 63 - 1) / 1000 * 1000 := Int.mul_le_mul_of_nonneg_left h2 (by decide)
      exact Int.le_trans this (by decide)
    have h6 : (1000 : Int) < (2 ^ 63 - 1) / 1000 := by decide
    omega
  · unfold Builtin.Str.tooLong
    have : (sizeLine : Nat) ≥ 1000 * 1000 := by decide
    simp
    omega
  · rw [if_neg (by omega)]
    unfold strRep at q
    split
    · rename_i hh
      rw [if_pos hh] at q
      exact ⟨.str z, H, I, ⟨t, rfl⟩, q⟩
    · rename_i hh
      rw [if_neg hh] at q
      refine ⟨?_, ⟨.str _, H, I.tok _, ⟨_, rfl⟩, q⟩⟩
      show (List.foldl (fun x1 x2 => x1 ++ x2) #[] (List.replicate k.toNat z.cps)).size ≤ sizeLine
      rw [foldl_size]
      have h7 : k.toNat * z.cps.size ≤ 1000 * 1000 := Nat.mul_le_mul (by omega) h4
      have h8 : (sizeLine : Nat) ≥ 1000 * 1000 := by decide
      simp
      omega
noncomputable def CMul2 (i j : Int) : Prop := CMul i j ∨ (i.natAbs < 2 ^ 250 ∧ j.natAbs < 2 ^ 250)
theorem bits250 {k : Int} (h : k.natAbs < 2 ^ 250) : Builtin.Int.intBits k ≤ 250 := by
  unfold Builtin.Int.intBits
  split
  · exact Nat.zero_le _
  · rename_i h0
    have hk : k.natAbs ≠ 0 := fun z => h0 (by simpa using z)
    have : k.natAbs.log2 < 250 := (Nat.log2_lt hk).mpr h
    omega
theorem CMul2.ok {i j : Int} (h : CMul2 i j) : IntMulOk i j := by
  rcases h with h | ⟨h1, h2⟩
  · exact h.ok
  · exact IntMulOk.of_le (bits250 h1) (bits250 h2) (by decide)
theorem op_mul2 : OpR X (binaryOp .Mult) (rI CMul2 fun i j => .int (i * j)) := opI fun _ _ _ _ _ _ _ hc q => mul_int q hc.ok
noncomputable def bigM (i : Int) : Bool := decide (i.natAbs < 2 ^ 250)
noncomputable def okMul2 (i j : Int) : Bool := okMul i j || (bigM i && bigM j)
theorem okMul2_of {i j : Int} (h : okMul2 i j = true) : CMul2 i j := by
  unfold okMul2 okMul bigM at h
  simp only [Bool.or_eq_true, Bool.and_eq_true, decide_eq_true_eq] at h
  rcases h with h | h
  · exact .inl h
  · exact .inr h
noncomputable def rMulG (K : PySem.W.Frag) : R2 := fun x y H Q => rI CMul2 (fun i j => .int (i * j)) x y H Q ∨ rRepT K x y H Q ∨ ∃ z k, x = .str z ∧ y = .int k ∧ 0 < k ∧ k ≤ 1000 ∧ 0 < z.length ∧ z.length ≤ 1000 ∧ Q (.str (strRep z k)) H
theorem op_mulG (hK : X.K = K) : OpR X (binaryOp .Mult) (rMulG K) := op_mul2.or ((op_repT hK).or op_repStr)
end
noncomputable def dMulG : D → D → Option D
  | .int i, .int j => if okMul2 i j = true then some (.int (i * j)) else none
  | .tup xs, .int k => if 1 < k ∧ k ≤ 1000 ∧ xs ≠ [] ∧ xs.length ≤ 1000 then some (.tup (List.replicate k.toNat xs).flatten) else none
  | .str z, .int k => if 0 < k ∧ k ≤ 1000 ∧ 0 < z.length ∧ z.length ≤ 1000 then some (.str (strRep z k)) else none
  | _, _ => none
theorem og_mulG {K : PySem.W.Frag} : OpG K (rMulG K) dMulG := fun H R x y d e u Q s rx ry q k => by
  unfold dMulG at q
  split at q
  · rename_i i j
    split at q
    · rename_i h
      cases q
      cases rx
      cases ry
      exact .inl ⟨i, j, rfl, rfl, okMul2_of h, k _ H R (Ext.refl s) (.int _)⟩
    · cases q
  · rename_i ds j
    split at q
    · rename_i hc
      cases q
      cases ry
      cases rx with
      | @tup a xs ds h r =>
        refine .inr (.inl ⟨a, j, xs, rfl, rfl, SqT.of (s _ _ h), hc.1, hc.2.1, fun z => ?_, by rw [r.length]; exact hc.2.2.2, fun p np => ?_⟩)
        · subst z
          cases r
          exact hc.2.2.1 rfl
        · have y := Ext.new (o := .tup (List.replicate j.toNat xs).flatten) s np
          exact k _ _ _ y (.tup upd_same ((r.rep _).mono y.r))
    · cases q
  · rename_i z j
    split at q
    · rename_i hc
      cases q
      cases ry
      cases rx
      exact .inr (.inr ⟨z, j, rfl, rfl, hc.1, hc.2.1, hc.2.2.1, hc.2.2.2, k _ H R (Ext.refl s) (.str _)⟩)
    · cases q
  · cases q
section
variable {X : Cx} {K : PySem.W.Frag} {O : List Nat} {pos : Pos}
end
noncomputable def strsD : List D → Option (List Str)
  | [] => some []
  | .str i :: r => (strsD r).map (i :: ·)
  | _ => none
theorem strsD_rps {K : PySem.W.Frag} {R : Hp} : ∀ {xs : List V} {ds : List D} {ns : List Str}, Rps K R xs ds → strsD ds = some ns → xs = ns.map V.str
  | _, _, ns, .nil, e => by cases e; rfl
  | _, _, ns, .cons (d := d) h r, e => by
    cases h with
    | str i =>
      unfold strsD at e
      cases q : strsD _ with
      | none => rw [q] at e; cases e
      | some ms => rw [q] at e; cases e; rw [strsD_rps r q]; rfl
    | _ => cases e
theorem strsAre_of : ∀ {ns : List Str} {us : List Value}, Vals (ns.map V.str) us → StrsAre us ns
  | [], us, r => by cases r; exact .nil
  | n :: ns, us, r => by
    cases r with
    | cons h t =>
      obtain ⟨tk, e⟩ := (show ∃ t, _ = Value.str n t from h)
      subst e
      exact .cons n tk (strsAre_of t)
noncomputable def rJoin (K : PySem.W.Frag) : V → List V → Hp → VK → Prop := fun x vs H Q => ∃ z p ns, x = .str z ∧ vs = [.ref p] ∧ SqL K H p (ns.map V.str) ∧ (ns.map (·.length)).sum + ns.length * z.length ≤ 16777216 ∧ Q (.str (Txt.join z ns)) H
theorem mt_joinS {X : Cx} {K : PySem.W.Frag} (hK : X.K = K) : MtM X "str.join" (rJoin K) := by
  subst hK
  intro pins s σ H x vs v us Q I rx rv h
  obtain ⟨z, p, ns, rfl, rfl, hs, hz, q⟩ := h
  obtain ⟨t, rfl⟩ := rx
  obtain ⟨u, rfl, ru⟩ := rv.one
  cases ru
  obtain ⟨its, r, pl, _⟩ := I.list hs
  refine PyProof.Rows.join_list pl.isList (by simpa using strsAre_of r) hz fun t' k => ?_
  exact ⟨.str _, H, I.tok k, ⟨t', rfl⟩, q⟩
noncomputable def dJoin (x y : D) : Option D := match x, y with
  | .str z, .lst ds => match strsD ds with
    | some ns => if (ns.map (·.length)).sum + ns.length * z.length ≤ 16777216 then some (.str (Txt.join z ns)) else none
    | none => none
  | _, _ => none
theorem me_join {K : PySem.W.Frag} {O : List Nat} {t ta : TE} {fa fb : Rho → Option (D × Rho)} (h : ME K O t fa) (h2 : ME K O ta fb) : ME K O (tBM K "str" (rJoin K) t (tCons ta tNil)) (mOp2 dJoin fa fb) := fun Z σ H R ρ d ρ' Q S e k => by
  obtain ⟨x, ρ1, e1, e⟩ := mBind_some e
  obtain ⟨y, ρ2, e2, e⟩ := mBind_some e
  obtain ⟨e3, rfl⟩ := mLift_some e
  unfold dJoin at e3
  split at e3
  · rename_i z ds
    split at e3
    · rename_i ns z3
      split at e3
      · rename_i hz
        cases e3
        refine h Z σ H R ρ _ ρ1 _ S e1 fun v H1 R1 S1 st1 r1 => ?_
        cases r1
        refine ⟨rfl, h2 Z σ H1 R1 ρ1 _ _ _ S1 e2 fun w H2 R2 S2 st2 r2 => ?_⟩
        cases r2 with
        | @lst a xs ds q r =>
          have ex := strsD_rps r z3
          subst ex
          exact ⟨_, a, ns, rfl, rfl, Same.sqL S2.same q, hz, k _ H2 R2 S2 (st1.trans st2) (.str _)⟩
      · cases e3
    · cases e3
  · cases e3
theorem os_inK {K : PySem.W.Frag} {O : List Nat} {neg : Bool} {p : Addr} {xs : List V} {t : TE} {ds : List D} {f : Rho → Option (D × Rho)} (hs : ∀ H, SqT K H p xs) (hx : xs = ds.map vD) (hf : xs.all flatV = true) (h : ME K O t f) :
    ME K O (tOp (rIn K neg) t (tC (.ref p))) (mOp1 (fun d => if flatD d = true then some (.bl (if neg then !inD d ds else inD d ds)) else none) f) := fun Z σ H R ρ d ρ' Q S e k => by
  obtain ⟨x, ρ1, e1, e⟩ := mBind_some e
  obtain ⟨e3, rfl⟩ := mLift_some e
  refine h Z σ H R ρ x _ _ S e1 fun v H1 R1 S1 st1 r1 => ?_
  have e4 : (if flatD x = true then some (D.bl (if neg then !inD x ds else inD x ds)) else none) = some d := e3
  by_cases hz : flatD x = true
  · rw [if_pos hz] at e4
    cases e4
    obtain ⟨h1, h2⟩ := vD_of r1 hz
    refine ⟨p, xs, rfl, .inr (hs H1), h2, hf, ?_⟩
    subst h1 hx
    exact k _ H1 R1 S1 st1 (.bl _)
  · rw [if_neg hz] at e4
    cases e4
end L2
set_option Elab.async false
set_option linter.all false
set_option maxRecDepth 100000
set_option maxHeartbeats 4000000
namespace L2
open PySem PySem.Spec PyProof.Rows
inductive TyX (K : PySem.W.Frag) (H : Hp) : V → Value → Prop where
  | exc {a C : Addr} (h : H a = some (excO a (.ref C))) (k : ExcK K C) : TyX K H (.ref a) (.ref C)
  | non : TyX K H .non (.type "NoneType")
section
variable {X : Cx} {K : PySem.W.Frag} {O : List Nat} {t : TE} {fa : Rho → Option (D × Rho)}
noncomputable def dIsX (sub : Str → Option Bool) : D → Option D
  | .exc x => (sub x).map .bl
  | .non => some (.bl false)
  | _ => none
structure KitE (K : PySem.W.Frag) (c : Value) (sub : Str → Option Bool) : Prop where
  exc : ∀ x C b, PySem.W.nsIn K mainGlobals x = some (some (.ref C)) → sub x = some b → PySem.W.kitOne K (.ref C) c = some b
  non : PySem.W.kitOne K (.type "NoneType") c = some false
structure KitEs (K : PySem.W.Frag) (cs : List Value) (sub : Str → Option Bool) : Prop where
  exc : ∀ x C b, PySem.W.nsIn K mainGlobals x = some (some (.ref C)) → sub x = some b → PySem.W.kitAny K (.ref C) cs = some b
  non : PySem.W.kitAny K (.type "NoneType") cs = some false
end
end L2
set_option Elab.async false
set_option linter.all false
set_option maxRecDepth 100000
set_option maxHeartbeats 4000000
namespace L2
open PySem PySem.Spec PyProof.Rows
noncomputable abbrev Xr := Rho → Option (Str × Rho)
noncomputable def ExE (K : PySem.W.Frag) (E : XK) (C : Str) (H : Hp) : Prop := ∀ v, PySem.W.nsIn K mainGlobals C = some (some v) → E v none H
section
variable (K : PySem.W.Frag) (O : List Nat)
end
noncomputable def xNo : Xr := fun _ => none
noncomputable def xThen {α : Type} (fa : Rho → Option (α × Rho)) (xa xb : Xr) : Xr := fun ρ => match xa ρ with
  | some r => some r
  | none => match fa ρ with
    | some (_, ρ1) => xb ρ1
    | none => none
section
variable {K : PySem.W.Frag} {O : List Nat} {E : XK} {t ta tb : TE} {tr : TA} {tt : TT} {fa fb : Rho → Option (D × Rho)} {fs : Rho → Option (List D × Rho)} {xa xb xs : Xr}
noncomputable def xCall (fx : List D → Option Str) (fs : Rho → Option (List D × Rho)) (xs : Xr) : Xr := fun ρ => match xs ρ with
  | some r => some r
  | none => match fs ρ with
    | some (ds, ρ1) => (fx ds).map fun C => (C, ρ1)
    | none => none
end
noncomputable def MSX (c : MC) (O : List Nat) (t : TS) (E : XK) (fx : Xr) : Prop := ∀ (Z : Anc) (D : Ends) (σ : St) (H R : Hp) (ρ : Rho) (C : Str) (ρ' : Rho), Z.P = c.P → StR c.K Z O σ H R ρ → fx ρ = some (C, ρ') → (∀ O' σ' H' R', StR c.K Z O' σ' H' R' ρ' → ExE c.K E C H') → t D σ H
noncomputable def MSXa (c : MC) (O : List Nat) (t : TS) (E : XK) (fx : Xr) : Prop := ∀ (Z : Anc) (D : Ends) (σ : St) (H R : Hp) (ρ : Rho) (C : Str) (ρ' : Rho), Z.P = c.P → StR c.K Z O σ H R ρ → fx ρ = some (C, ρ') → (∀ H' R', StR c.K Z O σ H' R' ρ' → Same R R' → ExE c.K E C H') → t D σ H
theorem MSXa.g {c : MC} {O : List Nat} {t : TS} {E : XK} {fx : Xr} (h : MSXa c O t E fx) : MSX c O t E fx := fun Z D σ H R ρ C ρ' hP S e k => h Z D σ H R ρ C ρ' hP S e fun H' R' S' _ => k O σ H' R' S'
section
variable {c : MC} {O O' O1 : List Nat} {t u : TS} {te : TE} {tt : TT} {tr : TA} {g : TG} {f h : Rho → Option Out} {fe : Rho → Option (D × Rho)} {fs : Rho → Option (List D × Rho)} {ft : Rho → Option (Bool × Rho)} {E : XK} {xe xt fx hx : Xr}
noncomputable def xRaise (C : Str) (fs : Rho → Option (List D × Rho)) : Xr := fun ρ => match fs ρ with
  | some (ds, ρ1) => if ds.length ≤ sizeLine then some (C, ρ1) else none
  | none => none
noncomputable def xIf (ft : Rho → Option (Bool × Rho)) (xt fx hx : Xr) : Xr := fun ρ => match xt ρ with
  | some r => some r
  | none => match ft ρ with
    | some (true, ρ1) => fx ρ1
    | some (false, ρ1) => hx ρ1
    | none => none
noncomputable def xSeq (f : Rho → Option Out) (fx hx : Xr) : Xr := fun ρ => match fx ρ with
  | some r => some r
  | none => match f ρ with
    | some (.nx ρ1) => hx ρ1
    | _ => none
end
noncomputable def outLess (i : Nat) : Out → Out
  | .nx ρ => .nx (ρ.set i none)
  | .bk ρ => .bk (ρ.set i none)
  | .ct ρ => .ct (ρ.set i none)
  | .rt d ρ => .rt d (ρ.set i none)
noncomputable def sTryAs (i : Nat) (sub : Str → Bool) (fb : Rho → Option Out) (xb : Xr) (fh : Rho → Option Out) : Rho → Option Out := fun ρ => match xb ρ with
  | some (C, ρ1) => if sub C = true then (fh (ρ1.set i (some (.exc C)))).map (outLess i) else none
  | none => fb ρ
noncomputable def sTry (sub : Str → Bool) (fb : Rho → Option Out) (xb : Xr) (fh : Rho → Option Out) : Rho → Option Out := fun ρ => match xb ρ with
  | some (C, ρ1) => if sub C = true then fh ρ1 else none
  | none => fb ρ
section
variable {c : MC} {O O' : List Nat} {cv : Value} {i : Nat} {sub : Str → Bool} {tb : XK → TS} {ts : TS} {fb fh : Rho → Option Out} {xb : Xr}
end
noncomputable def runX (n N : Nat) (fx : Xr) (ds : List D) : Option Str := if ds.length = n then (fx (ds.map some ++ List.replicate (N - n) none)).map (·.1) else none
end L2
set_option Elab.async false
set_option linter.all false
set_option maxRecDepth 100000
set_option maxHeartbeats 4000000
namespace L2
open PySem PySem.Spec PyProof.Rows
section
variable {K : PySem.W.Frag} {O : List Nat} {tr : TA} {fs : Rho → Option (List D × Rho)} {E : XK} {n : Nat}
end
section
variable {K : PySem.W.Frag}
end
end L2
set_option Elab.async false
set_option linter.all false
set_option maxRecDepth 100000
set_option maxHeartbeats 4000000
namespace L2
open PySem PySem.Spec PyProof.Rows
theorem PS.nox {X : Cx} {st : Stmt} {t : TS} (h : PS X.nox st t) : PS X st t := fun pins s σ H D I hw =>
  wpAny_mono (h pins s σ H D (I.wish _) hw) (fun _ _ q => q.unwish) fun _ _ z => False.elim z
theorem PS.or {X : Cx} {st : Stmt} {t u : TS} (h1 : PS X st t) (h2 : PS X st u) : PS X st (fun D σ H => t D σ H ∨ u D σ H) := fun pins s σ H D I h => by
  rcases h with h | h
  · exact h1 pins s σ H D I h
  · exact h2 pins s σ H D I h
section
variable (K : PySem.W.Frag) (O : List Nat)
end
section
variable {K : PySem.W.Frag} {O : List Nat} {ta : TE} {tr : TA} {fa : Rho → Option (D × Rho)} {fs : Rho → Option (List D × Rho)} {E : XK} {n : Nat}
noncomputable def scD : D → Bool
  | .non => true
  | .bl _ => true
  | .int _ => true
  | .str _ => true
  | _ => false
noncomputable def mCallB (f : List D → Option D) (fs : Rho → Option (List D × Rho)) : Rho → Option (D × Rho) := mBind fs fun ds => mLift (match f ds with
  | some d => if scD d = true then some d else none
  | none => none)
end
end L2
set_option Elab.async false
set_option linter.all false
set_option maxRecDepth 100000
set_option maxHeartbeats 4000000
namespace L2
open PySem PySem.Spec PyProof.Rows
theorem fst_some {α : Type} {o : Option (α × Rho)} {x : α} (h : o.map (·.1) = some x) : ∃ ρ, o = some (x, ρ) := by
  cases o with
  | none => cases h
  | some p => cases h; exact ⟨p.2, rfl⟩
theorem cm_map {n : Nat} {js : List Nat} {fg : D → Rho → Option Rho} {fe : Rho → Option (D × Rho)} {ρ : Rho} (g : D → D) : ∀ (xs : List D), (∀ x ∈ xs, ∃ ρ1, fg x (capsR n js ρ) = some ρ1 ∧ (fe ρ1).map (·.1) = some (g x)) → compRun n js none fg (mRet true) fe xs ρ = some (xs.map g, ρ)
  | [], _ => rfl
  | x :: xs, h => by
    obtain ⟨ρ1, h1, h2⟩ := h x List.mem_cons_self
    obtain ⟨ρ2, h2⟩ := fst_some h2
    have ih := cm_map (n := n) (js := js) (fg := fg) (fe := fe) (ρ := ρ) g xs fun y hy => h y (List.mem_cons_of_mem _ hy)
    simp only [compRun, h1, mRet, h2, backR]
    rw [ih]
    rfl
theorem cm_state {n p q : Nat} {js : List Nat} {fg : D → Rho → Option Rho} {fe : Rho → Option (D × Rho)} {S : Type} (ρ : S → Rho) (G : D → Prop) : ∀ (xs : List D), (∀ x ∈ xs, ∀ s, ∃ ρ1 ρ2 y s', fg x (capsR n js (ρ s)) = some ρ1 ∧ fe ρ1 = some (y, ρ2) ∧ backR (some (p, q)) (ρ s) ρ2 = ρ s' ∧ G y) → ∀ s, ∃ ys s', compRun n js (some (p, q)) fg (mRet true) fe xs (ρ s) = some (ys, ρ s') ∧ ys.length = xs.length ∧ ∀ y ∈ ys, G y
  | [], _, s => ⟨[], s, rfl, rfl, fun _ h => nomatch h⟩
  | x :: xs, h, s => by
    obtain ⟨ρ1, ρ2, y, s1, h1, h2, h3, h4⟩ := h x List.mem_cons_self s
    obtain ⟨ys, s2, g1, g2, g3⟩ := cm_state ρ G xs (fun y hy => h y (List.mem_cons_of_mem _ hy)) s1
    refine ⟨y :: ys, s2, ?_, by rw [List.length_cons, List.length_cons, g2], fun z hz => ?_⟩
    · simp only [compRun, h1, mRet, h2, h3]
      rw [g1]
    · rcases List.mem_cons.mp hz with rfl | hz
      · exact h4
      · exact g3 z hz
theorem for_inv {fg : D → Rho → Option Rho} {fb : Rho → Option Out} (I : Nat → Rho → Prop) : ∀ (xs : List D) (k : Nat) (ρ : Rho), I k ρ → (∀ i x ρ, xs[i]? = some x → I (k + i) ρ → ∃ ρ1 ρ2, fg x ρ = some ρ1 ∧ (fb ρ1 = some (.nx ρ2) ∨ fb ρ1 = some (.ct ρ2)) ∧ I (k + i + 1) ρ2) → ∃ ρ', forRun fg fb xs ρ = some (.nx ρ') ∧ I (k + xs.length) ρ'
  | [], k, ρ, h0, _ => ⟨ρ, rfl, h0⟩
  | x :: xs, k, ρ, h0, hs => by
    obtain ⟨ρ1, ρ2, h1, h2, h3⟩ := hs 0 x ρ rfl h0
    obtain ⟨ρ', g1, g2⟩ := for_inv I xs (k + 1) ρ2 h3 fun i y ρ e hi => by
      have e1 : k + 1 + i = k + (i + 1) := by omega
      rw [e1] at hi ⊢
      exact hs (i + 1) y ρ (by simpa using e) hi
    refine ⟨ρ', ?_, by rw [List.length_cons]; have e1 : k + (xs.length + 1) = k + 1 + xs.length := by omega
                       rw [e1]; exact g2⟩
    simp only [forRun, h1]
    rcases h2 with h2 | h2
    · rw [h2]; exact g1
    · rw [h2]; exact g1
theorem for_all {fg : D → Rho → Option Rho} {fb : Rho → Option Out} (I : Rho → Prop) : ∀ (xs : List D) (ρ : Rho), I ρ → (∀ x ρ, x ∈ xs → I ρ → ∃ ρ1 ρ2, fg x ρ = some ρ1 ∧ (fb ρ1 = some (.nx ρ2) ∨ fb ρ1 = some (.ct ρ2)) ∧ I ρ2) → ∃ ρ', forRun fg fb xs ρ = some (.nx ρ') ∧ I ρ' := fun xs ρ h0 hs => by
  obtain ⟨ρ', h1, h2⟩ := for_inv (fg := fg) (fb := fb) (fun _ => I) xs 0 ρ h0 fun i x ρ e hi => hs x ρ (List.mem_of_getElem? e) hi
  exact ⟨ρ', h1, h2⟩
theorem at0 {α : Type} (x : α) (xs : List α) : atI (x :: xs) 0 = some x := by
  unfold atI ixN
  simp
theorem at1 {α : Type} (x y : α) (xs : List α) : atI (x :: y :: xs) 1 = some y := atI_nat (j := 1) rfl
theorem at2 {α : Type} (x y z : α) (xs : List α) : atI (x :: y :: z :: xs) 2 = some z := atI_nat (j := 2) rfl
theorem at3 {α : Type} (x y z u : α) (xs : List α) : atI (x :: y :: z :: u :: xs) 3 = some u := atI_nat (j := 3) rfl
theorem at4 {α : Type} (x y z u v : α) (xs : List α) : atI (x :: y :: z :: u :: v :: xs) 4 = some v := atI_nat (j := 4) rfl
theorem at5 {α : Type} (x y z u v w : α) (xs : List α) : atI (x :: y :: z :: u :: v :: w :: xs) 5 = some w := atI_nat (j := 5) rfl
theorem line_of {n : Nat} (h : n ≤ 1000000) : n ≤ sizeLine := Nat.le_trans h (by decide)
theorem rangeD_len (lo : Int) (n : Nat) : (rangeD lo n).length = n := by simp [rangeD]
theorem rangeD_get {lo : Int} {n i : Nat} {d : D} (h : (rangeD lo n)[i]? = some d) : i < n ∧ d = .int (lo + (i : Int)) := by
  have hi : i < n := by
    have := (List.getElem?_eq_some_iff.mp h).1
    rwa [rangeD_len] at this
  refine ⟨hi, ?_⟩
  unfold rangeD at h
  rw [List.getElem?_map, List.getElem?_range hi] at h
  exact (Option.some.inj h).symm
noncomputable def nx (s : Int) : Int := (s * 1181783497276652981 + 12345678910987) % (2 ^ 61 - 1)
noncomputable def dr (s m : Int) : Int := nx s / 65537 % m
theorem dr_lo (s : Int) {m : Int} (h : 0 < m) : 0 ≤ dr s m := Int.emod_nonneg _ (by omega)
theorem dr_hi (s : Int) {m : Int} (h : 0 < m) : dr s m < m := Int.emod_lt_of_pos _ h
theorem eqD_int (i j : Int) : eqD (.int i) (.int j) = some (i == j) := by
  simp [eqD, D.toP, SeqAt.shaped, PyData.canLay0, PyData.depth, PyData.eqv]
theorem eqD_bl (i j : Bool) : eqD (.bl i) (.bl j) = some (i == j) := by
  simp [eqD, D.toP, SeqAt.shaped, PyData.canLay0, PyData.depth, PyData.eqv]
theorem eqD_str {i j : Str} (hi : PyData.strOk i = true) (hj : PyData.strOk j = true) : eqD (.str i) (.str j) = some (i == j) := by
  simp [eqD, D.toP, SeqAt.shaped, PyData.canLay0, PyData.depth, PyData.eqv, hi, hj]
theorem eqD_none_int (j : Int) : eqD .non (.int j) = some false := by
  simp [eqD, D.toP, SeqAt.shaped, PyData.canLay0, PyData.depth, PyData.eqv]
theorem eqD_int_none (j : Int) : eqD (.int j) .non = some false := by
  simp [eqD, D.toP, SeqAt.shaped, PyData.canLay0, PyData.depth, PyData.eqv]
theorem eqD_none : eqD .non .non = some true := by
  simp [eqD, D.toP, SeqAt.shaped, PyData.canLay0, PyData.depth, PyData.eqv]
theorem toPs_ints : ∀ xs : List Int, D.toPs (xs.map D.int) = some (xs.map PyData.int)
  | [] => by simp [D.toPs]
  | x :: xs => by simp [D.toPs, D.toP, toPs_ints xs]
theorem eqvAll_ints : ∀ xs ys : List Int, PyData.eqvAll (xs.map PyData.int) (ys.map PyData.int) = decide (xs = ys)
  | [], [] => by simp [PyData.eqvAll]
  | [], y :: ys => by simp [PyData.eqvAll]
  | x :: xs, [] => by simp [PyData.eqvAll]
  | x :: xs, y :: ys => by
    simp only [List.map_cons, PyData.eqvAll, PyData.eqv, eqvAll_ints xs ys, List.cons.injEq]
    by_cases h : x = y
    · subst h; simp
    · have : (x == y) = false := beq_eq_false_iff_ne.mpr h
      rw [this]; simp [h]
theorem eqD_ints (xs ys : List Int) : eqD (.lst (xs.map D.int)) (.lst (ys.map D.int)) = some (decide (xs = ys)) := by
  have h1 : SeqAt.shaped (.list (xs.map PyData.int)) = true := shaped_nums xs
  have h2 : SeqAt.shaped (.list (ys.map PyData.int)) = true := shaped_nums ys
  simp only [eqD, D.toP, toPs_ints, Option.map_some]
  rw [if_pos ⟨h1, h2⟩]
  simp only [PyData.eqv, eqvAll_ints]
theorem join_one' (z : Str) : PySem.Txt.join "" [z] = z := rfl
section
variable {α β : Type} {a : Rho → Option (α × Rho)} {k : α → Rho → Option (β × Rho)} {ρ : Rho} {fa fb fc : Rho → Option (D × Rho)} {ga gb : Rho → Option (Bool × Rho)} {fs : Rho → Option (List D × Rho)} {g g' : D → D → Option D} {g1 : D → Option D} {gl : D → Option (List D)} {g2 : D → D → Option (List D)} {fl fh : Rho → Option (Option Int × Rho)}
theorem ev_bind : mBind a k ρ = (a ρ).bind fun p => k p.1 p.2 := by
  unfold mBind
  cases a ρ <;> rfl
theorem ev_ret {x : α} : mRet x ρ = some (x, ρ) := rfl
theorem ev_lift {o : Option α} : mLift o ρ = o.map fun x => (x, ρ) := by cases o <;> rfl
theorem ev_var {i : Nat} : mVar i ρ = (ρ[i]?).join.map fun d => (d, ρ) := by
  unfold mVar
  cases h : ρ[i]? with
  | none => rfl
  | some o => cases o <;> rfl
theorem ev_op2 : mOp2 g fa fb ρ = (fa ρ).bind fun p => (fb p.2).bind fun q => (g p.1 q.1).map fun x => (x, q.2) := by
  unfold mOp2
  rw [ev_bind]
  congr 1; funext p
  rw [ev_bind]
  congr 1; funext q
  rw [ev_lift]
theorem ev_op1 : mOp1 g1 fa ρ = (fa ρ).bind fun p => (g1 p.1).map fun x => (x, p.2) := by
  unfold mOp1
  rw [ev_bind]
  congr 1; funext p
  rw [ev_lift]
theorem ev_op1L : mOp1L gl fa ρ = (fa ρ).bind fun p => (gl p.1).map fun x => (x, p.2) := by
  unfold mOp1L
  rw [ev_bind]
  congr 1; funext p
  rw [ev_lift]
theorem ev_op2L : mOp2L g2 fa fb ρ = (fa ρ).bind fun p => (fb p.2).bind fun q => (g2 p.1 q.1).map fun x => (x, q.2) := by
  unfold mOp2L
  rw [ev_bind]
  congr 1; funext p
  rw [ev_bind]
  congr 1; funext q
  rw [ev_lift]
theorem ev_opO {i : Nat} : mOpO g i fb ρ = (fb ρ).bind fun q => ((q.2[i]?).join).bind fun x => (g x q.1).map fun z => (z, q.2) := by
  unfold mOpO
  rw [ev_bind]
  congr 1; funext q
  rw [ev_bind, ev_var]
  cases (q.2[i]?).join with
  | none => rfl
  | some x => show mLift _ _ = _; rw [ev_lift]; rfl
noncomputable def ixO : D → D → Option D
  | .lst xs, .int j => atI xs j
  | _, _ => none
theorem ev_ixO {i : Nat} : mIxO i fb ρ = (fb ρ).bind fun q => ((q.2[i]?).join).bind fun x => (ixO x q.1).map fun z => (z, q.2) := by
  unfold mIxO
  rw [ev_bind]
  congr 1; funext q
  rw [ev_bind, ev_var]
  cases (q.2[i]?).join with
  | none => rfl
  | some x => show mLift _ _ = _; rw [ev_lift]; cases x <;> (cases q.1 <;> rfl)
noncomputable def blO : D → Option Bool
  | .bl b => some b
  | _ => none
theorem ev_test : mTest fa ρ = (fa ρ).bind fun p => (blO p.1).map fun x => (x, p.2) := by
  unfold mTest
  rw [ev_bind]
  congr 1; funext p
  rw [ev_lift]
  cases p.1 <;> rfl
theorem ev_not : mNot ga ρ = (ga ρ).map fun p => (!p.1, p.2) := by
  unfold mNot
  rw [ev_bind]
  cases ga ρ <;> rfl
theorem ev_and : mAnd ga gb ρ = (ga ρ).bind fun p => if p.1 = true then gb p.2 else some (false, p.2) := by
  unfold mAnd
  rw [ev_bind]
  congr 1; funext p
  split <;> rfl
theorem ev_or : mOr ga gb ρ = (ga ρ).bind fun p => if p.1 = true then some (true, p.2) else gb p.2 := by
  unfold mOr
  rw [ev_bind]
  congr 1; funext p
  split <;> rfl
theorem ev_andV : mAndV fa fb ρ = (mTest fa ρ).bind fun p => if p.1 = true then fb p.2 else some (.bl false, p.2) := by
  unfold mAndV
  rw [ev_bind]
  congr 1; funext p
  split <;> rfl
theorem ev_orV : mOrV fa fb ρ = (mTest fa ρ).bind fun p => if p.1 = true then some (.bl true, p.2) else fb p.2 := by
  unfold mOrV
  rw [ev_bind]
  congr 1; funext p
  split <;> rfl
theorem ev_notV : mNotV fa ρ = (mTest fa ρ).map fun p => (.bl (!p.1), p.2) := by
  unfold mNotV
  rw [ev_bind]
  cases mTest fa ρ <;> rfl
theorem ev_if : mIf ga fa fb ρ = (ga ρ).bind fun p => if p.1 = true then fa p.2 else fb p.2 := by
  unfold mIf
  rw [ev_bind]
  congr 1; funext p
  split <;> rfl
theorem ev_nil : mNil ρ = some ([], ρ) := rfl
theorem ev_cons : mCons fa fs ρ = (fa ρ).bind fun p => (fs p.2).map fun q => (p.1 :: q.1, q.2) := by
  unfold mCons
  rw [ev_bind]
  congr 1; funext p
  rw [ev_bind]
  cases fs p.2 <;> rfl
theorem ev_tup : mTup fs ρ = (fs ρ).bind fun p => if p.1.length ≤ sizeLine then some (.tup p.1, p.2) else none := by
  unfold mTup
  rw [ev_bind]
  congr 1; funext p
  rw [ev_lift]
  split <;> rfl
theorem ev_lst : mLst fs ρ = (fs ρ).bind fun p => if p.1.length ≤ sizeLine then some (p.1, p.2) else none := by
  unfold mLst
  rw [ev_bind]
  congr 1; funext p
  rw [ev_lift]
  split <;> rfl
theorem ev_of : mOf fs ρ = (fs ρ).map fun p => (.lst p.1, p.2) := by
  unfold mOf
  rw [ev_bind]
  cases fs ρ <;> rfl
theorem ev_call {f : List D → Option D} : mCall f fs ρ = (fs ρ).bind fun p => (f p.1).map fun x => (x, p.2) := by
  unfold mCall
  rw [ev_bind]
  congr 1; funext p
  rw [ev_lift]
theorem ev_callL {f : List D → Option D} : mCallL f fs ρ = (fs ρ).bind fun p => (lstOf (f p.1)).map fun x => (x, p.2) := by
  unfold mCallL
  rw [ev_bind]
  congr 1; funext p
  rw [ev_lift]
noncomputable def lsO : D → Option (List D)
  | .lst xs => some xs
  | _ => none
theorem ev_callS {f : List D → List D → Option (D × List D)} {i : Nat} : mCallS f i fs ρ = (fs ρ).bind fun p => ((p.2[i]?).join.bind lsO).bind fun xs => (f xs p.1).map fun r => (r.1, p.2.set i (some (.lst r.2))) := by
  unfold mCallS
  rw [ev_bind]
  congr 1; funext p
  cases h : p.2[i]? with
  | none => rfl
  | some o =>
    cases o with
    | none => rfl
    | some d =>
      cases d with
      | lst xs =>
        show (match f xs p.1 with | some (d, ys) => some (d, p.2.set i (some (.lst ys))) | none => none) = _
        show _ = (f xs p.1).map _
        cases f xs p.1 <;> rfl
      | _ => rfl
theorem ev_comp {n : Nat} {js : List Nat} {bw : Option (Nat × Nat)} {fg : D → Rho → Option Rho} : mComp n js bw fs fg ga fa ρ = (fs ρ).bind fun p => if p.1.length ≤ sizeLine then compRun n js bw fg ga fa p.1 p.2 else none := by
  unfold mComp
  rw [ev_bind]
theorem ev_seq : mSeq fa ρ = (fa ρ).bind fun p => (dSeq p.1).map fun x => (x, p.2) := by
  unfold mSeq
  rw [ev_bind]
  congr 1; funext p
  rw [ev_lift]
  cases p.1 <;> rfl
noncomputable def rng1 : List D → Option (List D)
  | [.int j] => if big j = true then some (rangeD 0 j.toNat) else none
  | _ => none
theorem ev_rng1 : mRng1 fs ρ = (fs ρ).bind fun p => (rng1 p.1).map fun x => (x, p.2) := by
  unfold mRng1
  rw [ev_bind]
  congr 1; funext p
  rw [ev_lift]
  rfl
noncomputable def rng2 : List D → Option (List D)
  | [.int i, .int j] => if (big i && big j) = true then some (rangeD i (j - i).toNat) else none
  | _ => none
theorem ev_rng2 : mRng2 fs ρ = (fs ρ).bind fun p => (rng2 p.1).map fun x => (x, p.2) := by
  unfold mRng2
  rw [ev_bind]
  congr 1; funext p
  rw [ev_lift]
  rfl
noncomputable def zip2 : List D → Option (List D)
  | [x, y] => match dSeq x, dSeq y with
    | some xs, some ys => some (zipD xs ys)
    | _, _ => none
  | _ => none
theorem ev_zip : mZip fs ρ = (fs ρ).bind fun p => (zip2 p.1).map fun x => (x, p.2) := by
  unfold mZip
  rw [ev_bind]
  congr 1; funext p
  rw [ev_lift]
  rfl
noncomputable def inO : D → Option (Option Int)
  | .int i => some (some i)
  | _ => none
theorem ev_part : mPart fa ρ = (fa ρ).bind fun p => (inO p.1).map fun x => (x, p.2) := by
  unfold mPart
  rw [ev_bind]
  congr 1; funext p
  rw [ev_lift]
  cases p.1 <;> rfl
theorem ev_sl : mSl fa fl fh ρ = (fa ρ).bind fun p => (fl p.2).bind fun q => (fh q.2).bind fun r => (dSl p.1 q.1 r.1).map fun x => (x, r.2) := by
  unfold mSl
  rw [ev_bind]
  congr 1; funext p
  rw [ev_bind]
  congr 1; funext q
  rw [ev_bind]
  congr 1; funext r
  rw [ev_lift]
noncomputable def slO (d : D) (lo hi : Option Int) : Option (List D) := match d with
  | .lst xs => some (cutD xs lo hi)
  | _ => none
theorem ev_slL : mSlL fa fl fh ρ = (fa ρ).bind fun p => (fl p.2).bind fun q => (fh q.2).bind fun r => (slO p.1 q.1 r.1).map fun x => (x, r.2) := by
  unfold mSlL
  rw [ev_bind]
  congr 1; funext p
  rw [ev_bind]
  congr 1; funext q
  rw [ev_bind]
  congr 1; funext r
  rw [ev_lift]
  rfl
theorem ev_chain : mChain g g' fa fb fc ρ = (fa ρ).bind fun p => (fb p.2).bind fun q => ((g p.1 q.1).bind blO).bind fun b => if b = true then (fc q.2).bind fun r => (g' q.1 r.1).map fun x => (x, r.2) else some (.bl false, q.2) := by
  unfold mChain
  rw [ev_bind]
  congr 1; funext p
  rw [ev_bind]
  congr 1; funext q
  rw [ev_bind, ev_test, ev_lift]
  cases g p.1 q.1 with
  | none => rfl
  | some d =>
    cases d with
    | bl b =>
      cases b with
      | true =>
        show mBind fc (fun z => mLift (g' q.1 z)) q.2 = _
        rw [ev_bind]
        show _ = (fc q.2).bind _
        congr 1; funext r
        rw [ev_lift]
      | false => rfl
    | _ => rfl
theorem ev_sseq {f h : Rho → Option Out} : sSeq f h ρ = (f ρ).bind fun o => match o with
    | .nx ρ1 => h ρ1
    | o => some o := by
  unfold sSeq
  cases f ρ with
  | none => rfl
  | some o => cases o <;> rfl
theorem ev_sset {i : Nat} : sSet i fa ρ = (fa ρ).map fun p => .nx (p.2.set i (some p.1)) := by
  unfold sSet
  cases fa ρ <;> rfl
theorem ev_sown {i : Nat} : sOwn i fs ρ = (fs ρ).bind fun p => if i < p.2.length then some (.nx (p.2.set i (some (.lst p.1)))) else none := by
  unfold sOwn
  cases fs ρ <;> rfl
theorem ev_sasg {fg : D → Rho → Option Rho} : sAsg fa fg ρ = (fa ρ).bind fun p => (fg p.1 p.2).map .nx := by
  unfold sAsg
  cases fa ρ with
  | none => rfl
  | some p =>
    obtain ⟨d, ρ1⟩ := p
    show (match fg d ρ1 with | none => none | some ρ2 => some (Out.nx ρ2)) = (fg d ρ1).map _
    cases fg d ρ1 <;> rfl
theorem ev_sif {f h : Rho → Option Out} : sIf ga f h ρ = (ga ρ).bind fun p => if p.1 = true then f p.2 else h p.2 := by
  unfold sIf
  cases ga ρ <;> rfl
theorem ev_sret : sRet fa ρ = (fa ρ).map fun p => .rt p.1 p.2 := by
  unfold sRet
  cases fa ρ <;> rfl
theorem ev_sretL : sRetL fs ρ = (fs ρ).map fun p => .rt (.lst p.1) p.2 := by
  unfold sRetL
  cases fs ρ <;> rfl
theorem ev_sretO {i : Nat} : sRetO i ρ = ((ρ[i]?).join.bind lsO).map fun d => .rt (.lst d) (ρ.set i none) := by
  unfold sRetO
  cases h : ρ[i]? with
  | none => rfl
  | some o =>
    cases o with
    | none => rfl
    | some d => cases d <;> rfl
theorem isL_bind {α : Type} (i : Nat) (x : Option α) : (if isL ρ i = true then x else none) = ((ρ[i]?).join.bind lsO).bind fun _ => x := by
  unfold isL
  cases h : ρ[i]? with
  | none => rfl
  | some o =>
    cases o with
    | none => rfl
    | some d => cases d <;> rfl
theorem ev_snil : sNil ρ = some (.nx ρ) := rfl
theorem ev_sretN : sRetN ρ = some (.rt .non ρ) := rfl
theorem ev_sbk : sBk ρ = some (.bk ρ) := rfl
theorem ev_sct : sCt ρ = some (.ct ρ) := rfl
theorem ev_sdrop : sDrop fa ρ = (fa ρ).map fun p => .nx p.2 := by
  unfold sDrop
  cases fa ρ <;> rfl
theorem ev_smut {gm : List D → List D → Option (List D)} {i : Nat} : sMut gm i fs ρ = ((ρ[i]?).join.bind lsO).bind fun _ => (fs ρ).bind fun p => ((p.2[i]?).join.bind lsO).bind fun xs => (gm xs p.1).map fun ys => .nx (p.2.set i (some (.lst ys))) := by
  refine Eq.trans ?_ (isL_bind _ _)
  unfold sMut
  congr 1
  cases fs ρ with
  | none => rfl
  | some p =>
    show (match p.2[i]? with | some (some (.lst xs)) => _ | _ => none) = _
    show _ = ((p.2[i]?).join.bind lsO).bind _
    cases h : p.2[i]? with
    | none => rfl
    | some o =>
      cases o with
      | none => rfl
      | some d =>
        cases d with
        | lst xs =>
          show (match gm xs p.1 with | some ys => some (Out.nx _) | none => none) = (gm xs p.1).map _
          cases gm xs p.1 <;> rfl
        | _ => rfl
theorem ev_sext {i : Nat} : sExt i fs ρ = ((ρ[i]?).join.bind lsO).bind fun _ => (fs ρ).bind fun p => ((p.2[i]?).join.bind lsO).bind fun xs => if xs.length + p.1.length ≤ sizeLine then some (.nx (p.2.set i (some (.lst (xs ++ p.1))))) else none := by
  refine Eq.trans ?_ (isL_bind _ _)
  unfold sExt
  congr 1
  cases fs ρ with
  | none => rfl
  | some p =>
    show (match p.2[i]? with | some (some (.lst xs)) => _ | _ => none) = _
    show _ = ((p.2[i]?).join.bind lsO).bind _
    cases h : p.2[i]? with
    | none => rfl
    | some o =>
      cases o with
      | none => rfl
      | some d => cases d <;> rfl
noncomputable def setI (x d k : D) : Option D := match x, k with
  | .lst xs, .int j => (ixN xs.length j).map fun m => .lst (xs.set m d)
  | _, _ => none
theorem ev_sseti {i : Nat} : sSetI i fa fb ρ = (fa ρ).bind fun p => (fb p.2).bind fun q => ((q.2[i]?).join).bind fun x => (setI x p.1 q.1).map fun y => .nx (q.2.set i (some y)) := by
  unfold sSetI
  cases fa ρ with
  | none => rfl
  | some p =>
    show (match fb p.2 with | some (.int k, ρ2) => _ | _ => none) = (fb p.2).bind _
    cases fb p.2 with
    | none => rfl
    | some q =>
      obtain ⟨y, ρ2⟩ := q
      cases y with
      | int j =>
        show (match ρ2[i]? with | some (some (.lst xs)) => _ | _ => none) = ((ρ2[i]?).join).bind _
        cases h : ρ2[i]? with
        | none => rfl
        | some o =>
          cases o with
          | none => rfl
          | some d =>
            cases d with
            | lst xs =>
              show (match ixN xs.length j with | some m => some (Out.nx _) | none => none) = ((ixN xs.length j).map _).map _
              cases ixN xs.length j <;> rfl
            | _ => rfl
      | _ =>
        show none = ((ρ2[i]?).join).bind _
        cases h : (ρ2[i]?).join with
        | none => rfl
        | some x => cases x <;> rfl
theorem ev_sfor {fg : D → Rho → Option Rho} {f : Rho → Option Out} : sFor fs fg f ρ = (fs ρ).bind fun p => forRun fg f p.1 p.2 := by
  unfold sFor
  cases fs ρ <;> rfl
theorem ev_gset {i : Nat} {d : D} : gSet i d ρ = some (ρ.set i (some d)) := rfl
theorem ev_saug {gi : Int → Int → Int} {i : Nat} : sAug gi i fa ρ = ((ρ[i]?).join).bind fun x => (fa ρ).bind fun p => (dI0 gi x p.1).map fun z => .nx (p.2.set i (some z)) := by
  unfold sAug
  cases h : ρ[i]? with
  | none => rfl
  | some o =>
    cases o with
    | none => rfl
    | some d =>
      cases d with
      | int x =>
        show (match fa ρ with | some (.int y, ρ1) => some (Out.nx _) | _ => none) = (fa ρ).bind _
        cases fa ρ with
        | none => rfl
        | some p =>
          obtain ⟨y, ρ1⟩ := p
          cases y <;> rfl
      | _ =>
        show none = (fa ρ).bind _
        cases fa ρ with
        | none => rfl
        | some p =>
          obtain ⟨y, ρ1⟩ := p
          cases y <;> rfl
end
theorem le_line {n : Nat} (h : n ≤ 1000000) : (n ≤ sizeLine) = True := eq_true (line_of h)
theorem lt_line {n : Nat} (h : n ≤ 1000000) : (n < sizeLine) = True := eq_true (Nat.lt_of_le_of_lt h (by decide))
theorem sIx_pos {n d : Nat} {k : Int} (h : 0 ≤ k) : HT.sIx n d (some k) = min k.toNat n := by
  show (if k < 0 then (k + (n : Int)).toNat else min k.toNat n) = _
  rw [if_neg (by omega)]
theorem cutD_to (xs : List D) {k : Int} (h : 0 ≤ k) : cutD xs none (some k) = xs.take k.toNat := by
  unfold cutD
  rw [sIx_pos h, HT.sIx_none, List.drop_zero, Nat.sub_zero]
  exact List.take_eq_take_min.symm
theorem cutD_from (xs : List D) {k : Int} (h : 0 ≤ k) : cutD xs (some k) none = xs.drop k.toNat := by
  unfold cutD
  rw [sIx_pos h, HT.sIx_none]
  by_cases hk : k.toNat ≤ xs.length
  · rw [Nat.min_eq_left hk]
    exact List.take_of_length_le (by rw [List.length_drop]; exact Nat.le_refl _)
  · rw [Nat.min_eq_right (by omega), List.drop_eq_nil_of_le (Nat.le_refl _), List.drop_eq_nil_of_le (by omega)]
    simp
theorem dSl_tto {xs : List D} {k : Int} (h0 : 0 ≤ k) (h : k < (xs.length : Int)) : dSl (.tup xs) none (some k) = some (.tup (xs.take k.toNat)) := by
  show (if HT.sIx xs.length 0 none = 0 ∧ HT.sIx xs.length xs.length (some k) = xs.length then none else some (D.tup (cutD xs none (some k)))) = _
  rw [sIx_pos h0, if_neg (by omega), cutD_to xs h0]
theorem dSl_tfrom {xs : List D} {k : Int} (h0 : 0 < k) (h : xs ≠ []) : dSl (.tup xs) (some k) none = some (.tup (xs.drop k.toNat)) := by
  have hl : 0 < xs.length := List.length_pos_iff.mpr h
  show (if HT.sIx xs.length 0 (some k) = 0 ∧ HT.sIx xs.length xs.length none = xs.length then none else some (D.tup (cutD xs (some k) none))) = _
  rw [sIx_pos (by omega), if_neg (by omega), cutD_from xs (by omega)]
theorem dSl_lto {xs : List D} {k : Int} (h0 : 0 ≤ k) : dSl (.lst xs) none (some k) = some (.lst (xs.take k.toNat)) := by
  show some (D.lst (cutD xs none (some k))) = _
  rw [cutD_to xs h0]
theorem dSl_lfrom {xs : List D} {k : Int} (h0 : 0 ≤ k) : dSl (.lst xs) (some k) none = some (.lst (xs.drop k.toNat)) := by
  show some (D.lst (cutD xs (some k) none)) = _
  rw [cutD_from xs h0]
end L2
set_option Elab.async false
set_option linter.all false
set_option maxRecDepth 100000
set_option maxHeartbeats 4000000
namespace L2
open PySem PySem.Spec PyProof.Rows
section
variable {X : Cx} {a : Expr} {ta : TE} {p pos : Pos} {elts : List Expr} {x1 : Nat} {tp : Pos}
end
noncomputable def enumD (xs : List D) : List D := xs.zipIdx.map fun q => D.tup [.int (q.2 : Int), q.1]
section
variable {K : PySem.W.Frag} {O : List Nat} {t : TE} {fa : Rho → Option (D × Rho)}
noncomputable def mEnum (f : Rho → Option (D × Rho)) : Rho → Option (List D × Rho) := mBind f fun d => mLift (match d with
  | .lst xs => some (enumD xs)
  | _ => none)
noncomputable def enumO : D → Option (List D)
  | .lst xs => some (enumD xs)
  | _ => none
theorem ev_enum {ρ : Rho} : mEnum fa ρ = (fa ρ).bind fun p => (enumO p.1).map fun x => (x, p.2) := by
  unfold mEnum
  rw [ev_bind]
  congr 1; funext p
  rw [ev_lift]
  cases p.1 <;> rfl
end
section
variable {X : Cx} {K : PySem.W.Frag} {c : MC} {O O' : List Nat} {t : TE} {fa : Rho → Option (D × Rho)}
noncomputable def sExtT (i : Nat) (fa : Rho → Option (D × Rho)) : Rho → Option Out := fun ρ => if isL ρ i = true then (match fa ρ with
  | some (.tup ys, ρ1) => match ρ1[i]? with
    | some (some (.lst xs)) => if xs.length + ys.length ≤ sizeLine then some (.nx (ρ1.set i (some (.lst (xs ++ ys))))) else none
    | _ => none
  | _ => none) else none
end
section
variable {ρ : Rho} {fa fb : Rho → Option (D × Rho)} {fs : Rho → Option (List D × Rho)}
noncomputable def tupO : D → Option (List D)
  | .tup xs => some xs
  | _ => none
theorem ev_sextT {i : Nat} : sExtT i fa ρ = ((ρ[i]?).join.bind lsO).bind fun _ => (fa ρ).bind fun p => (tupO p.1).bind fun ys => ((p.2[i]?).join.bind lsO).bind fun xs => if xs.length + ys.length ≤ sizeLine then some (.nx (p.2.set i (some (.lst (xs ++ ys))))) else none := by
  refine Eq.trans ?_ (isL_bind _ _)
  unfold sExtT
  congr 1
  cases fa ρ with
  | none => rfl
  | some p =>
    obtain ⟨d, ρ1⟩ := p
    cases d with
    | tup ys =>
      show (match ρ1[i]? with | some (some (.lst xs)) => _ | _ => none) = ((ρ1[i]?).join.bind lsO).bind _
      cases h : ρ1[i]? with
      | none => rfl
      | some o =>
        cases o with
        | none => rfl
        | some d => cases d <;> rfl
    | _ => rfl
noncomputable def repO (xs : List D) : D → Option (List D)
  | .int k => if -(2 ^ 63) ≤ k ∧ k < 2 ^ 63 ∧ xs.length * k.toNat ≤ sizeLine then some (List.replicate k.toNat xs).flatten else none
  | _ => none
theorem ev_rep : mRep fs fb ρ = (fs ρ).bind fun p => (fb p.2).bind fun q => (repO p.1 q.1).map fun x => (x, q.2) := by
  unfold mRep
  rw [ev_bind]
  congr 1; funext p
  rw [ev_bind]
  congr 1; funext q
  rw [ev_lift]
  cases q.1 <;> rfl
noncomputable def dvm : List D → Option D
  | [.int i, .int j] => if 0 < j ∧ j < 1073741824 then some (.tup [.int (i / j), .int (i % j)]) else none
  | _ => none
theorem ev_divmod : mDivmod fs ρ = (fs ρ).bind fun p => (dvm p.1).map fun x => (x, p.2) := by
  unfold mDivmod
  rw [ev_bind]
  congr 1; funext p
  rw [ev_lift]
  rfl
theorem zipD_ints (xs ys : List Int) : zipD (xs.map D.int) (ys.map D.int) = (xs.zip ys).map fun q => D.tup [.int q.1, .int q.2] := by
  unfold zipD
  rw [List.zipWith_map, List.zip, List.map_zipWith]
end
end L2
set_option Elab.async false
set_option linter.all false
set_option maxRecDepth 100000
set_option maxHeartbeats 4000000
namespace L2
open PySem PySem.Spec PyProof.Rows
section
variable {prog : Program} {w : World} {A : Around} {E : Value → Shared → Prop} {s : Shared} {a₀ : Array Keyed}
theorem up_pairs {vs : List Value} {ns : List Int} (hI : IntsAre vs ns) (o : ns.Pairwise (· ≤ ·)) : SortedTo (pairsOf vs) (pairsOf vs).size := by
  have hl := hI.length
  have at_ : ∀ i (hi : i < ns.length), PyProof.Rows.K (pairsOf vs) i = ns[i] := by
    intro i hi
    obtain ⟨t, e⟩ := hI.get i ns[i] (List.getElem?_eq_getElem hi)
    obtain ⟨h1, h2⟩ := List.getElem?_eq_some_iff.mp e
    unfold PyProof.Rows.K pairsOf
    simp [h1, h2, numOf]
  intro i j ij hj
  rw [pairsOf_size] at hj
  rw [at_ i (by omega), at_ j (by omega)]
  by_cases z : i = j
  · subst z; exact Int.le_refl _
  · exact List.pairwise_iff_getElem.mp o i j (by omega) (by omega) (by omega)
end
section
variable {X : Cx} {K : PySem.W.Frag}
end
section
variable {K : PySem.W.Frag} {O : List Nat} {t tb : TE} {fa fb : Rho → Option (D × Rho)}
noncomputable def dUp : D → Option (List D)
  | .lst ds => match intsD ds with
    | some ns => if ns.Pairwise (· ≤ ·) then some ds else none
    | none => none
  | _ => none
noncomputable def dCnt (x y : D) : Option D := match x, y with
  | .lst ds, .int k => (intsD ds).map fun ns => .int (ns.count k : Nat)
  | _, _ => none
noncomputable def dCntT (x y : D) : Option D := match x, y with
  | .tup ds, .int k => (intsD ds).map fun ns => .int (ns.count k : Nat)
  | _, _ => none
noncomputable def mLend (f : Rho → Option (Bool × Rho)) : Rho → Option (Bool × Rho) := fun ρ => (f ρ).map fun p => (p.1, ρ)
end
end L2
set_option Elab.async false
set_option linter.all false
set_option maxRecDepth 100000
set_option maxHeartbeats 4000000
namespace L2
open PySem PySem.Spec PyProof.Rows
section
variable {X : Cx}
noncomputable def rStrI : List V → Hp → VK → Prop := fun xs H Q => ∃ i : Int, xs = [.int i] ∧ i.natAbs.log2 < 1920 ∧ Q (.str (Str.ofString (toString i))) H
theorem call_strI : CallR X (.type "str") rStrI := by
  intro pins s σ H xs us Q I r h
  obtain ⟨i, rfl, hz, q⟩ := h
  obtain ⟨u, rfl, ru⟩ := vals1 r
  obtain ⟨t, rfl⟩ := ru
  exact PySem.P.str_of_int hz ⟨.str _, H, I.tok _, ⟨_, rfl⟩, q⟩
noncomputable def rIntT : List V → Hp → VK → Prop := fun xs H Q => ∃ (x : Str) (n : Int), xs = [.str x] ∧ intText? x = some n ∧ x.length ≤ 640 ∧ Q (.int n) H
theorem call_intT : CallR X (.type "int") rIntT := by
  intro pins s σ H xs us Q I r h
  obtain ⟨x, n, rfl, hn, hz, q⟩ := h
  obtain ⟨u, rfl, ru⟩ := vals1 r
  obtain ⟨t, rfl⟩ := ru
  exact PySem.W.KIN.call_text hn hz ⟨.int _, H, I.tok _, ⟨_, rfl⟩, q⟩
theorem vals_strs : ∀ (xs : List Str) (k : Nat), Vals (xs.map V.str) (strsFrom k xs)
  | [], _ => .nil
  | x :: xs, k => .cons ⟨_, rfl⟩ (vals_strs xs (k + 1))
noncomputable def rSplit : V → List V → Hp → VK → Prop := fun x vs H Q => ∃ a b : Str, x = .str a ∧ vs = [.str b] ∧ (b.length == 0) = false ∧ a.length ≤ sizeLine ∧ (Txt.split a b).length ≤ sizeLine ∧ ∀ l, H l = none → Q (.ref l) (upd H l (.lst ((Txt.split a b).map V.str)))
theorem mt_split : MtR X "str.split" rSplit := by
  intro pins s σ H x vs v us Q I rx rv h
  obtain ⟨a, b, rfl, rfl, hb, ha, hn, q⟩ := h
  obtain ⟨t, rfl⟩ := rx
  obtain ⟨u, rfl, ru⟩ := rv.one
  obtain ⟨t2, rfl⟩ := ru
  unfold Txt.split at hn q
  by_cases h1 : (decide (a.length < b.length) || decide (Builtin.Str.strKind a < Builtin.Str.strKind b)) = true
  · rw [if_pos h1] at hn q
    exact call_meets F.slot_str_split (typeIs_str _ _ _) F.entry_str_split (F.args_str_split_2 _ _) (meets_str_split_cannot_occur a b t t2 h1) ⟨.ref _, _, I.lnew (its := [.str a t]) (ys := [.str a]) (t' := s.toks) (.cons ⟨_, rfl⟩ .nil) (by show 1 ≤ sizeLine; decide), rfl, q _ I.fresh⟩
  · rw [if_neg h1] at hn q
    have h1' : (decide (a.length < b.length) || decide (Builtin.Str.strKind a < Builtin.Str.strKind b)) = false := by simpa using h1
    by_cases h2 : (Builtin.Str.occurrences a b 0 a.length (a.length + 1)).isEmpty = true
    · rw [if_pos h2] at hn q
      exact call_meets F.slot_str_split (typeIs_str _ _ _) F.entry_str_split (F.args_str_split_2 _ _) (meets_str_split_not_found a b t t2 h1' hb h2) ⟨.ref _, _, I.lnew (its := [.str a t]) (ys := [.str a]) (t' := s.toks) (.cons ⟨_, rfl⟩ .nil) (by show 1 ≤ sizeLine; decide), rfl, q _ I.fresh⟩
    · rw [if_neg h2] at hn q
      exact call_meets F.slot_str_split (typeIs_str _ _ _) F.entry_str_split (F.args_str_split_2 _ _) (meets_str_split_sep a b t t2 h1' hb (by simpa using h2) ha hn) ⟨.ref _, _, I.lnew (vals_strs _ _) (by rw [List.length_map]; exact hn), rfl, q _ I.fresh⟩
noncomputable def Its (x : Str) : It :=
  ⟨fun i _ => ∃ c, x.cps[i]? = some c, fun i H v H' => H' = H ∧ ∃ c, x.cps[i]? = some c ∧ v = .str ⟨#[c]⟩, fun i _ => x.cps.size ≤ i⟩
theorem turn_strA {P : Program} {w : World} {K : PySem.W.Frag} {tg : Expr} (x : Str) (t : Tok) (it : Addr) : Turn P w K tg (Its x) [it] it (fun i h => h.IsStrIter it "str_ascii_iterator" x t i) where
  mem := by simp
  obj := fun i h st b hb => by
    obtain ⟨o, e, c, d⟩ := st
    rw [List.mem_singleton.mp hb]
    exact ⟨o, e, fun v z => by rw [d] at z; cases z⟩
  keep := fun i h h' st k => by
    obtain ⟨o, e, r⟩ := st
    exact ⟨o, k it (by simp) o e, r⟩
  item := by
    intro X hP hw hK hc i pins s σ H E I hf st hg
    subst hP hw hK
    obtain ⟨c, hx⟩ := hg
    obtain ⟨f0, f1, f2, f3, f4, f5⟩ := hf it (by simp)
    refine wpAny_pyNext_ascii_item st hx fun h' st' sb => ?_
    have I1 : Inv X pins σ H { s with heap := h', toks := s.toks + 1 } := I.turned (t' := s.toks + 1) (fun b o hb e => (sb.2 b hb).trans e) f0 f1 f3 f4 f5
    obtain ⟨o, e1, c1, d1⟩ := id st'
    exact ⟨_, rfl, go_of (s := { s with heap := h', toks := s.toks + 1 }) e1 c1 d1 (by decide) ⟨.str ⟨#[c]⟩, H, I1, ⟨_, rfl⟩, ⟨rfl, c, hx, rfl⟩, st', fun b hb => (hf b hb).1⟩⟩
  done := by
    intro X hP hw hK hc i pins s σ H E I hf st hg
    subst hP hw hK
    obtain ⟨f0, f1, f2, f3, f4, f5⟩ := hf it (by simp)
    exact wpAny_pyNext_ascii_end (I.ok.hd hc) st (Array.getElem?_eq_none hg) fun h' eb => ⟨rfl, I.turned (t' := s.toks) (fun b o hb e => eb b o hb e) f0 f1 f3 f4 f5⟩
  self := fun _ _ _ _ _ st h => wpAny_pyIter_striter_ascii st h
theorem turn_strW {P : Program} {w : World} {K : PySem.W.Frag} {tg : Expr} (x : Str) (t : Tok) (it : Addr) : Turn P w K tg (Its x) [it] it (fun i h => h.IsStrIter it "str_iterator" x t i) where
  mem := by simp
  obj := fun i h st b hb => by
    obtain ⟨o, e, c, d⟩ := st
    rw [List.mem_singleton.mp hb]
    exact ⟨o, e, fun v z => by rw [d] at z; cases z⟩
  keep := fun i h h' st k => by
    obtain ⟨o, e, r⟩ := st
    exact ⟨o, k it (by simp) o e, r⟩
  item := by
    intro X hP hw hK hc i pins s σ H E I hf st hg
    subst hP hw hK
    obtain ⟨c, hx⟩ := hg
    obtain ⟨f0, f1, f2, f3, f4, f5⟩ := hf it (by simp)
    refine wpAny_pyNext_wide_item st hx fun h' st' sb => ?_
    have I1 : Inv X pins σ H { s with heap := h', toks := s.toks + 1 } := I.turned (t' := s.toks + 1) (fun b o hb e => (sb.2 b hb).trans e) f0 f1 f3 f4 f5
    obtain ⟨o, e1, c1, d1⟩ := id st'
    exact ⟨_, rfl, go_of (s := { s with heap := h', toks := s.toks + 1 }) e1 c1 d1 (by decide) ⟨.str ⟨#[c]⟩, H, I1, ⟨_, rfl⟩, ⟨rfl, c, hx, rfl⟩, st', fun b hb => (hf b hb).1⟩⟩
  done := by
    intro X hP hw hK hc i pins s σ H E I hf st hg
    subst hP hw hK
    obtain ⟨f0, f1, f2, f3, f4, f5⟩ := hf it (by simp)
    exact wpAny_pyNext_wide_end (I.ok.hd hc) st (Array.getElem?_eq_none hg) fun h' eb => ⟨rfl, I.turned (t' := s.toks) (fun b o hb e => eb b o hb e) f0 f1 f3 f4 f5⟩
  self := fun _ _ _ _ _ st h => wpAny_pyIter_striter_wide st h
noncomputable def iStr (td : TE) : TI := fun σ H R => td σ H fun v H1 => ∃ x, v = .str x ∧ R (Its x) H1
theorem pi_str {tg l : Expr} {td : TE} (hl : PE X l td) : PI X tg l (iStr td) := by
  intro pins s σ H R I h
  refine thn (hl pins s σ H _ I h) fun v s1 ⟨y, H1, I1, rx, x, ex, q⟩ => ?_
  subst ex
  obtain ⟨t, rfl⟩ := rx
  have fp : ∀ b ∈ [s1.heap.objs.size], FpOk X pins H1 b := fun b hb => by
    rw [List.mem_singleton.mp hb]
    exact I1.fpOk (Nat.le_refl _) (I1.hok.fresh (Nat.le_refl _))
  cases ha : x.cps.all (· < 128)
  · exact wpAny_pyIter_wide ha ⟨s1.heap.objs.size, [s1.heap.objs.size], _, _, H1, rfl, I1.kept (t' := s1.toks) fun b o e => Heap.get?_push_of_some _ e, turn_strW x t _, ⟨_, Heap.get?_push_size _ rfl, rfl, rfl⟩, fp, q⟩
  · exact wpAny_pyIter_ascii ha ⟨s1.heap.objs.size, [s1.heap.objs.size], _, _, H1, rfl, I1.kept (t' := s1.toks) fun b o e => Heap.get?_push_of_some _ e, turn_strA x t _, ⟨_, Heap.get?_push_size _ rfl, rfl, rfl⟩, fp, q⟩
end
end L2
set_option Elab.async false
set_option linter.all false
set_option maxRecDepth 100000
set_option maxHeartbeats 4000000
namespace L2
open PySem PySem.Spec PyProof.Rows
section
variable {X : Cx}
noncomputable def rSlS : V → Option Int → Option Int → Hp → VK → Prop := fun x lo hi H Q => ∃ a : Str, x = .str a ∧ a.length ≤ sizeLine ∧ Q (.str (Txt.slice a lo hi)) H
theorem sl_str : SlR X rSlS := by
  intro pins s σ H x v vl vu lo hi sl Q I rx hs pl pu h
  obtain ⟨a, rfl, hz, q⟩ := h
  obtain ⟨t, rfl⟩ := rx
  obtain ⟨o, e, c, d⟩ := hs
  refine ⟨"str", _, F.slot_str_getitem.lookup, typeIs_str _ _ _, ?_⟩
  cases pl with
  | none =>
    cases pu with
    | none => exact wpAny_getItem_str_slice (l := none) (u := none) (st := none) ⟨o, e, c, d⟩ rfl (post_val_or_str ⟨Nat.le_trans (Txt.slice_le a none none) hz, fun t' k => ⟨.str _, H, I.tok k, ⟨_, rfl⟩, q⟩⟩)
    | int j tj => exact wpAny_getItem_str_slice (l := none) (u := some (j, tj)) (st := none) ⟨o, e, c, d⟩ rfl (post_val_or_str ⟨Nat.le_trans (Txt.slice_le a none (some j)) hz, fun t' k => ⟨.str _, H, I.tok k, ⟨_, rfl⟩, q⟩⟩)
  | int i ti =>
    cases pu with
    | none => exact wpAny_getItem_str_slice (l := some (i, ti)) (u := none) (st := none) ⟨o, e, c, d⟩ rfl (post_val_or_str ⟨Nat.le_trans (Txt.slice_le a (some i) none) hz, fun t' k => ⟨.str _, H, I.tok k, ⟨_, rfl⟩, q⟩⟩)
    | int j tj => exact wpAny_getItem_str_slice (l := some (i, ti)) (u := some (j, tj)) (st := none) ⟨o, e, c, d⟩ rfl (post_val_or_str ⟨Nat.le_trans (Txt.slice_le a (some i) (some j)) hz, fun t' k => ⟨.str _, H, I.tok k, ⟨_, rfl⟩, q⟩⟩)
end
section
variable {K : PySem.W.Frag} {O : List Nat} {t tb : TE} {fa fb : Rho → Option (D × Rho)}
noncomputable def dStr : D → Option D
  | .int i => if i.natAbs.log2 < 1920 then some (.str (Str.ofString (toString i))) else none
  | _ => none
theorem cs_str : CallS K rStrI dStr := fun H x d u Q r e k => by
  cases r with
  | int i =>
    unfold dStr at e
    dsimp only at e
    split at e
    · rename_i hz
      cases e
      exact ⟨i, rfl, hz, k _ (.str _)⟩
    · cases e
  | _ => cases e
noncomputable def dIntT : D → Option D
  | .str x => if x.length ≤ 640 then (intText? x).map D.int else none
  | _ => none
theorem cs_intT : CallS K rIntT dIntT := fun H x d u Q r e k => by
  cases r with
  | str x =>
    unfold dIntT at e
    dsimp only at e
    split at e
    · rename_i hz
      cases z : intText? x with
      | none => rw [z] at e; cases e
      | some n =>
        rw [z] at e
        cases e
        exact ⟨x, n, rfl, z, hz, k _ (.int _)⟩
    · cases e
  | _ => cases e
noncomputable def dLenS : D → Option D
  | .str x => if x.length ≤ sizeLine then some (.int x.length) else none
  | _ => none
theorem cs_lenS : CallS K (fun xs H Q => ∃ z : Str, xs = [.str z] ∧ z.length ≤ sizeLine ∧ Q (.int z.length) H) dLenS := fun H x d u Q r e k => by
  cases r with
  | str x =>
    unfold dLenS at e
    dsimp only at e
    split at e
    · rename_i hz
      cases e
      exact ⟨x, rfl, hz, k _ (.int _)⟩
    · cases e
  | _ => cases e
theorem Rps.strs {R : Hp} : ∀ xs : List Str, Rps K R (xs.map V.str) (xs.map D.str)
  | [] => .nil
  | x :: xs => .cons (.str x) (Rps.strs xs)
noncomputable def dSplit (x y : D) : Option (List D) := match x, y with
  | .str a, .str b => if (b.length == 0) = false ∧ a.length ≤ sizeLine ∧ (Txt.split a b).length ≤ sizeLine then some ((Txt.split a b).map D.str) else none
  | _, _ => none
theorem mn_split (ha : ME K O t fa) (hb : ME K O tb fb) : MN K O (tBM K "str" rSplit t (tCons tb tNil)) (mOp2L dSplit fa fb) := fun Z σ H R ρ ds ρ' Q S e k => by
  obtain ⟨x, ρ1, e1, e⟩ := mBind_some e
  obtain ⟨y, ρ2, e2, e⟩ := mBind_some e
  obtain ⟨e3, rfl⟩ := mLift_some e
  unfold dSplit at e3
  split at e3
  · split at e3
    · rename_i hz
      cases e3
      refine ha Z σ H R ρ _ ρ1 _ S e1 fun v H1 R1 S1 st1 r1 => ?_
      cases r1
      refine ⟨rfl, hb Z σ H1 R1 ρ1 _ _ _ S1 e2 fun w H2 R2 S2 st2 r2 => ?_⟩
      cases r2
      refine ⟨_, _, rfl, rfl, hz.1, hz.2.1, hz.2.2, fun l hl => ?_⟩
      exact k l _ _ _ (S2.ext (Ext.hid S2.sub hl)) ((st1.trans st2).trans (Ext.hid S2.sub hl).stp) ((st1.trans st2).new hl) upd_same (S2.out hl) (Rps.strs _)
    · cases e3
  · cases e3
noncomputable def SM (r : V → List V → Hp → VK → Prop) (g : Str → Str → Option D) : Prop := ∀ (H : Hp) (a b : Str) (d : D) (Q : VK), g a b = some d → (∀ v, Sc v d → Q v H) → r (.str a) [.str b] H Q
noncomputable def dSM (g : Str → Str → Option D) (x y : D) : Option D := match x, y with
  | .str a, .str b => g a b
  | _, _ => none
theorem me_sm {r : V → List V → Hp → VK → Prop} {g : Str → Str → Option D} (h : SM r g) (ha : ME K O t fa) (hb : ME K O tb fb) : ME K O (tBM K "str" r t (tCons tb tNil)) (mOp2 (dSM g) fa fb) := fun Z σ H R ρ d ρ' Q S e k => by
  obtain ⟨x, ρ1, e1, e⟩ := mBind_some e
  obtain ⟨y, ρ2, e2, e⟩ := mBind_some e
  obtain ⟨e3, rfl⟩ := mLift_some e
  unfold dSM at e3
  split at e3
  · refine ha Z σ H R ρ _ ρ1 _ S e1 fun v H1 R1 S1 st1 r1 => ?_
    cases r1
    refine ⟨rfl, hb Z σ H1 R1 ρ1 _ _ _ S1 e2 fun w H2 R2 S2 st2 r2 => ?_⟩
    cases r2
    exact h H2 _ _ d Q e3 fun v z => k v H2 R2 S2 (st1.trans st2) z.rp
  · cases e3
noncomputable def dInS (x y : D) : Option D := match x, y with
  | .str i, .str j => some (.bl (!(Builtin.Str.occurrences j i 0 j.length 1).isEmpty))
  | _, _ => none
theorem os_inS : OpS K (fun x y H Q => ∃ i j : Str, x = .str i ∧ y = .str j ∧ Q (.bl (!(Builtin.Str.occurrences j i 0 j.length 1).isEmpty)) H) dInS := fun H v w x y d Q r1 r2 e k => by
  unfold dInS at e
  split at e
  · cases e
    cases r1
    cases r2
    exact ⟨_, _, rfl, rfl, k _ (.bl _)⟩
  · cases e
noncomputable def mSlS (f : Rho → Option (D × Rho)) (fl fh : Rho → Option (Option Int × Rho)) : Rho → Option (D × Rho) := mBind f fun d => mBind fl fun lo => mBind fh fun hi => mLift (match d with
  | .str a => if a.length ≤ sizeLine then some (.str (Txt.slice a lo hi)) else none
  | _ => none)
theorem me_sliceS {tl th : TO} {fl fh : Rho → Option (Option Int × Rho)} (h : ME K O t fa) (hl : MO K O tl fl) (hh : MO K O th fh) : ME K O (tSl rSlS t tl th) (mSlS fa fl fh) := fun Z σ H R ρ d ρ' Q S e k => by
  obtain ⟨x, ρ1, e1, e⟩ := mBind_some e
  obtain ⟨lo, ρ2, e2, e⟩ := mBind_some e
  obtain ⟨hi, ρ3, e3, e⟩ := mBind_some e
  obtain ⟨e4, rfl⟩ := mLift_some e
  refine h Z σ H R ρ x _ _ S e1 fun v H1 R1 S1 st1 r1 => hl Z σ H1 R1 ρ1 lo _ _ S1 e2 fun H2 R2 S2 st2 => hh Z σ H2 R2 ρ2 hi _ _ S2 e3 fun H3 R3 S3 st3 => ?_
  cases r1 with
  | str a =>
    dsimp only at e4
    split at e4
    · rename_i hz
      cases e4
      exact ⟨a, rfl, hz, k _ H3 R3 S3 ((st1.trans st2).trans st3) (.str _)⟩
    · cases e4
  | _ => cases e4
noncomputable def signsD (x : Str) : List D := x.cps.toList.map fun c => .str ⟨#[c]⟩
noncomputable def mSigns (f : Rho → Option (D × Rho)) : Rho → Option (List D × Rho) := mBind f fun d => mLift (match d with
  | .str x => some (signsD x)
  | _ => none)
theorem it_str {R : Hp} (x : Str) : ItOk K (Its x) R (signsD x) := fun H' R' s b i => by
  refine ⟨fun e => ?_, fun d e => ?_⟩
  · show x.cps.size ≤ i
    rw [e]
    simp [signsD]
  · unfold signsD at e
    rw [List.getElem?_map] at e
    cases g : x.cps.toList[i]? with
    | none => rw [g] at e; cases e
    | some c =>
      rw [g] at e
      cases e
      have g' : x.cps[i]? = some c := by simpa using g
      refine ⟨⟨c, g'⟩, fun v H'' y => ?_⟩
      obtain ⟨rfl, c', h1, rfl⟩ := y
      rw [g'] at h1
      cases h1
      exact ⟨R', Ext.refl b, .str _⟩
theorem mi_str (h : ME K O t fa) : MI K O (iStr t) (mSigns fa) := fun Z σ H R ρ ds ρ' Q S e k => by
  obtain ⟨d, ρ1, e1, e⟩ := mBind_some e
  obtain ⟨e2, rfl⟩ := mLift_some e
  refine h Z σ H R ρ d _ _ S e1 fun v H1 R1 S1 st1 r1 => ?_
  cases r1 with
  | str x => cases e2; exact ⟨x, rfl, k _ H1 R1 S1 st1 (it_str x)⟩
  | _ => cases e2
end
section
variable {c : MC} {O O' : List Nat} {te : TE} {fe : Rho → Option (D × Rho)}
end
end L2
set_option Elab.async false
set_option linter.all false
set_option maxRecDepth 100000
set_option maxHeartbeats 4000000
namespace L2
open PySem PySem.Spec PyProof.Rows
noncomputable def runS1 (fr : Bool) (n N : Nat) (f : Rho → Option Out) (xs ds : List D) : Option (D × List D) := match ds with
  | [] => none
  | d0 :: ds => if ds.length + 2 = n then match f (some d0 :: some (.lst xs) :: (ds.map some ++ List.replicate (N - n) none)) with
    | some (.rt d ρ) => (match (ρ[1]? : Option (Option D)) with
      | some (some (D.lst ys)) => some (d, ys)
      | _ => none)
    | some (.nx ρ) => if fr = true then none else (match (ρ[1]? : Option (Option D)) with
      | some (some (D.lst ys)) => some (.non, ys)
      | _ => none)
    | _ => none
  else none
noncomputable def spS1 (K : PySem.W.Frag) (fr : Bool) (n : Nat) (f : List D → List D → Option (D × List D)) : Sp := fun vs H Q _ => vs.length = n ∧ ∃ l w0 ws R us xs ds d ys, vs = w0 :: .ref l :: ws ∧ H l = some (.lst us) ∧ R l = none ∧ (∀ a o, R a = some o → H a = some o) ∧ Rps K R us xs ∧ Rps K R (w0 :: ws) ds ∧ f xs ds = some (d, ys) ∧
  ∀ v H' R' us', ExtS l H R H' R' → H' l = some (.lst us') → R' l = none → Rps K R' us' ys → Res K fr H v d H' R' → Q v H'
theorem spS1_body {K : PySem.W.Frag} {fr : Bool} {n : Nat} {Nms : List Str} {O' : List Nat} {t : TS} {f : Rho → Option Out} {vs : List V} {H : Hp} {Q : VK} {E : XK} (hm : MS ⟨K, fr, [1], []⟩ [1] [1] t f) (h : spS1 K fr n (runS1 fr n Nms.length f) vs H Q E) : t { nx := fun _ H' => Q .non H', rt := Q } (start Nms vs) H := by
  obtain ⟨hn, l, w0, ws, R, us, xs, ds, d, ys, rfl, hH, hR, sub, ru, r, e, k⟩ := h
  unfold runS1 at e
  cases r with
  | cons r0 r =>
  rename_i d0 ds
  dsimp only at e
  split at e
  · rename_i hl
    have ln : ws.length + 2 = n := by simpa using hn
    have S : StR K ⟨H, R, fun a => a = l, [1]⟩ [1] (start Nms (w0 :: .ref l :: ws)) H R (some d0 :: some (.lst xs) :: (ds.map some ++ List.replicate (Nms.length - n) none)) := by
      have one : ∀ i, i ∈ [1] → i = 1 := fun i hi => by simpa using hi
      refine ⟨sub, ?_, fun i d hi q => ?_, fun i hi => ?_, fun i j hi hj z => absurd ((one i hi).trans (one j hj).symm) z, fun a o q _ => q, Same.refl _, fun a q => .inl q, fun a q => .refl q, fun i hi z => absurd hi z, fun i hi _ a q => ?_⟩
      · unfold start
        simp only [List.map_cons, List.cons_append, List.length_cons, List.length_append, List.length_map, List.length_replicate]
        omega
      · cases i with
        | zero =>
          have q' : some (some d0) = some (some d) := q
          cases q'
          exact ⟨w0, start_get rfl, r0⟩
        | succ i =>
          cases i with
          | zero => exact absurd (by simp) hi
          | succ i =>
          rw [List.getElem?_cons_succ, List.getElem?_cons_succ] at q
          obtain ⟨v, h1, h2⟩ := r.get (slots_get q)
          exact ⟨v, start_get (by rw [List.getElem?_cons_succ, List.getElem?_cons_succ]; exact h1), h2⟩
      · cases one i hi
        exact ⟨l, .lst us, .lst xs, rfl, rfl, hH, hR, .lst ru⟩
      · cases one i hi
        have q' : some (some (V.ref l)) = some (some (V.ref a)) := q
        cases q'
        rfl
    have ext : ∀ {σ' : St} {H' R' : Hp} {ρ' : Rho}, StR K ⟨H, R, fun a => a = l, [1]⟩ [1] σ' H' R' ρ' → ExtS l H R H' R' ∧ ∃ us' zs, ρ'[1]? = some (some zs) ∧ H' l = some us' ∧ R' l = none ∧ Ob K R' us' zs := fun {σ' H' R' ρ'} S' => by
      refine ⟨⟨fun a o n q => S'.ah a o q n, S'.ar, S'.sub, S'.an, S'.ad⟩, ?_⟩
      obtain ⟨l', us', zs, h1, h2, h3, h4, h5⟩ := S'.own 1 (by simp)
      have el : l' = l := S'.ap 1 (by simp) (by simp) l' h2
      subst el
      exact ⟨us', zs, h1, h3, h4, h5⟩
    cases e1 : f (some d0 :: some (.lst xs) :: (ds.map some ++ List.replicate (Nms.length - n) none)) with
    | none => rw [e1] at e; cases e
    | some o =>
      rw [e1] at e
      refine hm _ _ _ _ _ _ o rfl S e1 ?_
      cases o with
      | nx ρ' =>
        dsimp only at e
        split at e
        · cases e
        · rename_i hf
          refine fun σ' H' R' S' _ => ?_
          obtain ⟨x, us', zs, q1, q2, q3, q4⟩ := ext S'
          rw [q1] at e
          cases q4 with
          | dct _ => cases e
          | dit _ => cases e
          | lst q4 =>
          cases e
          refine k .non H' R' _ x q2 q3 q4 ?_
          cases fr with
          | false => exact .non
          | true => exact absurd rfl hf
      | bk ρ' => cases e
      | ct ρ' => cases e
      | rt d' ρ' =>
        dsimp only at e
        refine fun v σ' H' R' S' q => ?_
        obtain ⟨x, us', zs, q1, q2, q3, q4⟩ := ext S'
        rw [q1] at e
        cases q4 with
        | dct _ => cases e
        | dit _ => cases e
        | lst q4 =>
        cases e
        exact k v H' R' _ x q2 q3 q4 q
  · cases e
section
variable {K : PySem.W.Frag} {O : List Nat} {tr : TA} {fs : Rho → Option (List D × Rho)} {E : XK} {n : Nat}
noncomputable def mCallS1 (f : List D → List D → Option (D × List D)) (i : Nat) (f0 : Rho → Option (D × Rho)) (fs : Rho → Option (List D × Rho)) : Rho → Option (D × Rho) := mBind f0 fun d0 => mBind fs fun ds ρ => match ρ[i]? with
  | some (some (.lst xs)) => match f xs (d0 :: ds) with
    | some (d, ys) => some (d, ρ.set i (some (.lst ys)))
    | none => none
  | _ => none
noncomputable def runsS1 (n : Nat) (f : List D → List D → Option (D × List D)) : Prop := ∀ xs d0 ds r, f xs (d0 :: ds) = some r → ds.length + 2 = n
theorem runS1_n {fr : Bool} {n N : Nat} {f : Rho → Option Out} : runsS1 n (runS1 fr n N f) := fun xs d0 ds r e => by
  unfold runS1 at e
  dsimp only at e
  split at e
  · assumption
  · cases e
theorem me_callS1 {f : List D → List D → Option (D × List D)} {i : Nat} {t0 : TE} {f0 : Rho → Option (D × Rho)} (hf : runsS1 n f) (hi : i ∈ O) (h0 : ME K O t0 f0) (h : MA K O tr fs) : ME K O (tCall (spS1 K false n f) [] E (tCons t0 (tCons (tVar i) tr))) (mCallS1 f i f0 fs) := fun Z σ H R ρ d ρ' Q S e k => by
  obtain ⟨d0, ρ0, e0, e⟩ := mBind_some e
  obtain ⟨ds, ρ1, e1, e⟩ := mBind_some e
  refine h0 Z σ H R ρ d0 ρ0 _ S e0 fun v0 H0 R0 S0 st0 r0 => ?_
  obtain ⟨l, vs0, ds0, h1, h2, h3, h4, h5⟩ := S0.own i hi
  refine ⟨.ref l, h2, h Z σ H0 R0 ρ0 ds ρ1 _ S0 e1 fun vs H1 R1 S1 st1 r1 => ?_⟩
  obtain ⟨l', us, xs, g1, g2, g3, g4, g5⟩ := S1.own i hi
  rw [h2] at g2
  cases g2
  rw [g1] at e
  cases g5 with
  | dct _ => cases e
  | dit _ => cases e
  | lst g5 =>
  rename_i us xs
  dsimp only at e
  cases e2 : f xs (d0 :: ds) with
  | none => rw [e2] at e; cases e
  | some p =>
    obtain ⟨d', ys⟩ := p
    rw [e2] at e
    cases e
    show spS1 K false n f (v0 :: .ref l :: vs ++ []) H1 Q E
    rw [List.append_nil]
    refine ⟨by rw [List.length_cons, List.length_cons, r1.length]; exact hf _ _ _ _ e2, l, v0, vs, R1, us, xs, d0 :: ds, d, ys, rfl, g3, g4, S1.sub, g5, .cons (r0.mono st1.r) r1, e2, fun v H2 R2 us' x hH hR ru q => ?_⟩
    have hlen : i < ρ1.length := (List.getElem?_eq_some_iff.mp g1).1
    have st2 : Stp O σ H1 R1 H2 R2 := ⟨x.r, fun a o e n => x.h a o (fun z => by subst z; exact n i hi h2) e, x.n, x.d⟩
    have other : ∀ j, j ∈ O → i ≠ j → ∀ m, σ[j]? = some (some (.ref m)) → m ≠ l := fun j hj n m e z => by
      subst z
      exact S1.dis i j hi hj n m h2 e
    refine k v H2 R2 ⟨x.s, by rw [List.length_set]; exact S1.len, fun j e hj q => ?_, fun j hj => ?_, S1.dis, fun a o e n => ?_, S1.ar.trans x.r, fun a h => ?_, fun a h => (S1.ad a h).trans (x.d a (S1.ad a h).1), S1.ao, S1.ap⟩ (st0.trans (st1.trans st2)) q
    · have n : i ≠ j := fun z => hj (z ▸ hi)
      rw [List.getElem?_set_ne n] at q
      obtain ⟨w, q1, q2⟩ := S1.env j e hj q
      exact ⟨w, q1, q2.mono x.r⟩
    · by_cases n : i = j
      · subst n
        exact ⟨l, .lst us', .lst ys, by rw [List.getElem?_set_self hlen], h2, hH, hR, .lst ru⟩
      · obtain ⟨m, vs', ds', q1, q2, q3, q4, q5⟩ := S1.own j hj
        refine ⟨m, vs', ds', by rw [List.getElem?_set_ne n]; exact q1, q2, x.h _ _ (other j hj n m q2) q3, ?_, q5.mono x.r⟩
        cases z : R2 m with
        | none => rfl
        | some o =>
          rcases x.n m (by rw [z]; exact fun y => nomatch y) with y | y
          · exact absurd q4 y
          · exact (q5.noF q3 y).elim
    · have ne : a ≠ l := fun z => by
        subst z
        by_cases hp : i ∈ Z.P
        · exact n (S1.ap i hi hp a h2)
        · rw [S1.ao i hi hp a h2] at e; cases e
      exact x.h a o ne (S1.ah a o e n)
    · rcases x.n a h with z | z
      · exact S1.an a z
      · exact .inr (z.back (S1.ad a))
end
section
variable {X : Cx} {K : PySem.W.Frag} {o e : Expr} {es : List Expr} {to : TE} {t : TA} {name : Str} {apos cpos : Pos} {T id : String} {r : V → List V → Hp → VK → Prop}
theorem pe_bmK (hK : X.K = K) (pa : PlainAttrs T) (slot : Slot T name id) (hty : typeOf (.builtin id) = pure (.type "method_descriptor")) (hm : MtR X id r) (ho : PE X o to) (ha : PA X (e :: es) t)
    (hbase : attributeBase o name X.env (eval o X.env) = eval o X.env := by rfl)
    (hfew : ((backTo cpos (starEach (e :: es) X.env)).all (fun x => !x.1) && (backToKw cpos (keywordEach [] X.env)).all (fun x => x.1.isSome)
      && decide ((e :: es).length + ([] : List Keyword).length + (if ([] : List Keyword).isEmpty then 0 else 1) < 30)) = true := by rfl)
    (hline : (apos.endLine == cpos.line) = true := by rfl) (hs : starEach (e :: es) X.env = (false, eval e X.env) :: starEach es X.env := by rfl) (hplain : (backTo cpos (starEach es X.env)).any (·.1) = false := by rfl) :
    PE X (.Call (.Attribute o name apos) (e :: es) [] cpos) (tBM K T r to t) := hK ▸ pe_bm pa slot hty hm ho ha hbase hfew hline hs hplain
end
end L2
set_option Elab.async false
set_option linter.all false
set_option maxRecDepth 100000
set_option maxHeartbeats 4000000
namespace L2
open PySem PySem.NumText
theorem digs_ok (m : Nat) : AllDigits ((Nat.toDigits 10 m).map Char.toNat) := fun c hc => by
  obtain ⟨ch, hch, e⟩ := List.mem_map.mp hc
  rw [← e]
  have d := Nat.isDigit_of_mem_toDigits (by decide) (by decide) hch
  unfold Char.isDigit at d
  simp only [Bool.and_eq_true, decide_eq_true_eq] at d
  exact ⟨d.1, d.2⟩
theorem digs_ne (m : Nat) : (Nat.toDigits 10 m).map Char.toNat ≠ [] := fun h => by
  have := W.KIN.val_back m
  rw [h] at this
  have m0 : m = 0 := by simpa [digitsVal] using this.symm
  subst m0
  rw [Nat.toDigits_of_lt_base (by decide)] at h
  cases h
theorem text_nat (m : Nat) : (Str.ofString (toString (m : Int))).cps.toList = (Nat.toDigits 10 m).map Char.toNat := W.KIN.signs_num m
theorem text_neg (m : Nat) : (Str.ofString (toString (-((m + 1 : Nat) : Int)))).cps.toList = 45 :: (Nat.toDigits 10 (m + 1)).map Char.toNat := by
  rw [PyProof.Rows.signs_ofString]
  show (Int.repr (Int.negSucc m)).toList.map Char.toNat = _
  show (("-" ++ Nat.repr (m + 1) : String)).toList.map Char.toNat = _
  rw [String.toList_append, List.map_append, Nat.toList_repr]
  rfl
theorem reads_back (n : Int) (h : (Str.ofString (toString n)).length ≤ 4300) : intText? (Str.ofString (toString n)) = some n := by
  rcases Int.eq_nat_or_neg n with ⟨m, rfl | rfl⟩
  · have e := intText_digits (x := Str.ofString (toString (m : Int))) (by rw [text_nat]; exact digs_ok m) (by rw [text_nat]; exact digs_ne m) h
    rw [e, text_nat, W.KIN.val_back]
  · cases m with
    | zero =>
      have e := intText_digits (x := Str.ofString (toString ((0 : Nat) : Int))) (by rw [text_nat]; exact digs_ok 0) (by rw [text_nat]; exact digs_ne 0) h
      rw [text_nat, W.KIN.val_back] at e
      exact e
    | succ m =>
      have e := intText_neg (text_neg m) (digs_ok (m + 1)) (digs_ne (m + 1)) h
      rw [e, W.KIN.val_back]
theorem str_ext {x y : Str} (h : x.cps.toList = y.cps.toList) : x = y := by
  cases x; cases y
  simp only [Str.mk.injEq]
  exact Array.toList_inj.mp h
theorem cps_append (x y : Str) : (x ++ y).cps.toList = x.cps.toList ++ y.cps.toList := by
  show (x.cps ++ y.cps).toList = _
  rw [Array.toList_append]
theorem cut_one {c : Nat} : ∀ {a b r s : List Nat}, c ∉ a → c ∉ b → a ++ c :: r = b ++ c :: s → a = b ∧ r = s
  | [], [], _, _, _, _, e => by cases e; exact ⟨rfl, rfl⟩
  | [], y :: b, _, _, _, hb, e => by cases e; exact absurd List.mem_cons_self hb
  | x :: a, [], _, _, ha, _, e => by cases e; exact absurd List.mem_cons_self ha
  | x :: a, y :: b, r, s, ha, hb, e => by
    rw [List.cons_append, List.cons_append, List.cons.injEq] at e
    obtain ⟨rfl, e⟩ := e
    obtain ⟨rfl, rfl⟩ := cut_one (fun h => ha (List.mem_cons_of_mem _ h)) (fun h => hb (List.mem_cons_of_mem _ h)) e
    exact ⟨rfl, rfl⟩
theorem join_cons (c : Nat) (x y : Str) (r : List Str) : (Str.join ⟨#[c]⟩ (x :: y :: r)).cps.toList = x.cps.toList ++ c :: (Str.join ⟨#[c]⟩ (y :: r)).cps.toList := by
  show (x ++ ⟨#[c]⟩ ++ Str.join ⟨#[c]⟩ (y :: r)).cps.toList = _
  rw [cps_append, cps_append]
  simp
theorem join_inj (c : Nat) : ∀ {ps qs : List Str}, ps ≠ [] → qs ≠ [] → (∀ p ∈ ps, c ∉ p.cps.toList) → (∀ p ∈ qs, c ∉ p.cps.toList) → Str.join ⟨#[c]⟩ ps = Str.join ⟨#[c]⟩ qs → ps = qs
  | [], _, h, _, _, _, _ => absurd rfl h
  | _, [], _, h, _, _, _ => absurd rfl h
  | [x], [y], _, _, _, _, e => by
    have : x = y := e
    rw [this]
  | [x], y :: z :: r, _, _, hx, _, e => by
    have : x.cps.toList = (Str.join ⟨#[c]⟩ (y :: z :: r)).cps.toList := congrArg (fun s : Str => s.cps.toList) e
    rw [join_cons] at this
    exact absurd (by rw [this]; simp) (hx x List.mem_cons_self)
  | x :: w :: r, [y], _, _, _, hy, e => by
    have : (Str.join ⟨#[c]⟩ (x :: w :: r)).cps.toList = y.cps.toList := congrArg (fun s : Str => s.cps.toList) e
    rw [join_cons] at this
    exact absurd (by rw [← this]; simp) (hy y List.mem_cons_self)
  | x :: w :: r, y :: z :: t, _, _, hx, hy, e => by
    have q : (Str.join ⟨#[c]⟩ (x :: w :: r)).cps.toList = (Str.join ⟨#[c]⟩ (y :: z :: t)).cps.toList := congrArg (fun s : Str => s.cps.toList) e
    rw [join_cons, join_cons] at q
    obtain ⟨e1, e2⟩ := cut_one (hx x List.mem_cons_self) (hy y List.mem_cons_self) q
    have ih := join_inj c (ps := w :: r) (qs := z :: t) (by simp) (by simp) (fun p h => hx p (List.mem_cons_of_mem _ h)) (fun p h => hy p (List.mem_cons_of_mem _ h)) (str_ext e2)
    rw [str_ext e1, ih]
theorem split_ne (x y : Str) : Txt.split x y ≠ [] := by
  unfold Txt.split
  split
  · simp
  · split
    · simp
    · rw [StrLaws.partsBetween_eq]
      cases Builtin.Str.occurrences x y 0 x.length (x.length + 1) <;> simp [StrLaws.partsFrom]
theorem split_join (c : Nat) (ps : List Str) (hn : ps ≠ []) (h : ∀ p ∈ ps, c ∉ p.cps.toList) : Txt.split (Str.join ⟨#[c]⟩ ps) ⟨#[c]⟩ = ps :=
  join_inj c (split_ne _ _) hn (StrLaws.split_free _ c) h (StrLaws.join_split _ _)
theorem txt_join (sep : Str) (ps : List Str) : Txt.join sep ps = Str.join sep ps := StrLaws.glued_eq_join sep ps
end L2
set_option Elab.async false
set_option linter.all false
set_option maxRecDepth 100000
set_option maxHeartbeats 4000000
namespace L2
open PySem PySem.NumText
noncomputable def digs (m : Nat) : List Nat := (Nat.toDigits 10 m).map Char.toNat
noncomputable def tx (n : Int) : Str := Str.ofString (toString n)
theorem digs_len {m k : Nat} (h : m < 10 ^ k) (hk : 0 < k) : (digs m).length ≤ k := by
  unfold digs
  rw [List.length_map]
  exact (Nat.length_toDigits_le_iff (by decide) hk).mpr h
theorem digs_pos (m : Nat) : 0 < (digs m).length := by
  have := digs_ne m
  unfold digs
  exact List.length_pos_iff.mpr this
theorem digs_dig {m c : Nat} (h : c ∈ digs m) : 48 ≤ c ∧ c ≤ 57 := digs_ok m c h
theorem digs_small {m : Nat} (h : m < 10) : digs m = [48 + m] := by
  unfold digs
  rw [Nat.toDigits_of_lt_base h, List.map_cons, List.map_nil, Nat.toNat_digitChar_of_lt_ten h]
theorem digs_big {m : Nat} (h : 10 ≤ m) : digs m = digs (m / 10) ++ [48 + m % 10] := by
  unfold digs
  rw [Nat.toDigits_of_base_le (by decide) h, List.map_append, List.map_cons, List.map_nil, Nat.toNat_digitChar_of_lt_ten (Nat.mod_lt _ (by decide))]
theorem digs_head : ∀ {m c : Nat} {r : List Nat}, 0 < m → digs m = c :: r → c ≠ 48 := fun {m} => by
  induction m using Nat.strongRecOn with
  | _ m ih =>
    intro c r h e
    by_cases q : m < 10
    · rw [digs_small q] at e
      cases e
      omega
    · rw [digs_big (by omega)] at e
      cases f : digs (m / 10) with
      | nil => have := digs_pos (m / 10); rw [f] at this; cases this
      | cons d t =>
        rw [f] at e
        cases e
        exact ih (m / 10) (by omega) (by omega) f
theorem tx_nat (m : Nat) : (tx (m : Int)).cps.toList = digs m := text_nat m
theorem tx_neg {m : Nat} (h : 0 < m) : (tx (-(m : Int))).cps.toList = 45 :: digs m := by
  cases m with
  | zero => cases h
  | succ m => exact text_neg m
theorem tx_cases (n : Int) : (0 ≤ n ∧ (tx n).cps.toList = digs n.natAbs) ∨ (n < 0 ∧ (tx n).cps.toList = 45 :: digs n.natAbs) := by
  rcases Int.eq_nat_or_neg n with ⟨m, rfl | rfl⟩
  · exact .inl ⟨by omega, by rw [tx_nat]; rfl⟩
  · cases m with
    | zero => exact .inl ⟨by decide, tx_nat 0⟩
    | succ m => exact .inr ⟨by omega, by rw [tx_neg (by omega)]; congr 2⟩
theorem len_toList (x : Str) : x.length = x.cps.toList.length := rfl
theorem tx_len {n : Int} {k : Nat} (h : n.natAbs < 10 ^ k) (hk : 0 < k) : (tx n).length ≤ k + 1 := by
  rw [len_toList]
  have := digs_len h hk
  rcases tx_cases n with ⟨_, e⟩ | ⟨_, e⟩ <;> rw [e]
  · omega
  · rw [List.length_cons]; omega
theorem tx_sign {n : Int} {c : Nat} (h : c ∈ (tx n).cps.toList) : c = 45 ∨ (48 ≤ c ∧ c ≤ 57) := by
  rcases tx_cases n with ⟨_, e⟩ | ⟨_, e⟩ <;> rw [e] at h
  · exact .inr (digs_dig h)
  · rcases List.mem_cons.mp h with h | h
    · exact .inl h
    · exact .inr (digs_dig h)
theorem strOk_of {x : Str} (h : ∀ c ∈ x.cps.toList, c < 0x110000) : PyData.strOk x = true := by
  unfold PyData.strOk
  rw [← Array.all_toList]
  exact List.all_eq_true.mpr fun c hc => decide_eq_true (h c hc)
theorem tx_ok (n : Int) : PyData.strOk (tx n) = true := strOk_of fun c hc => by
  rcases tx_sign hc with h | h <;> omega
theorem tx_ne (n : Int) : (tx n).cps.toList ≠ [] := by
  have := digs_pos n.natAbs
  rcases tx_cases n with ⟨_, e⟩ | ⟨_, e⟩ <;> rw [e] <;> intro z
  · rw [z] at this; cases this
  · cases z
theorem log2_small {m k : Nat} (h : m < 2 ^ k) (hk : 0 < k) : m.log2 < k := by
  by_cases q : m = 0
  · subst q; simpa using hk
  · exact (Nat.log2_lt q).mpr h
theorem dStr_tx {n : Int} (h : n.natAbs < 2 ^ 1920) : dStr (.int n) = some (.str (tx n)) := by
  unfold dStr
  dsimp only
  rw [if_pos (log2_small h (by decide))]
  rfl
theorem dIntT_tx {n : Int} (h : (tx n).length ≤ 640) : dIntT (.str (tx n)) = some (.int n) := by
  unfold dIntT
  dsimp only
  rw [if_pos h]
  have e := reads_back n (Nat.le_trans h (by decide))
  show Option.map D.int (intText? (Str.ofString (toString n))) = _
  rw [e]
  rfl
end L2
set_option Elab.async false
set_option linter.all false
set_option maxRecDepth 100000
set_option maxHeartbeats 4000000
namespace L2
end L2
namespace L2
open PySem
noncomputable def rowD (row : List Int) : D := .tup (row.map D.int)
noncomputable def schD (r : Int) (taps : List Int) (rows : List (List Int)) (e : Str) : D := .tup [.int r, .tup (taps.map D.int), .tup (rows.map rowD), .str e]
structure SchOk (r : Int) (taps : List Int) (rows : List (List Int)) (e : Str) : Prop where
  r0 : 0 ≤ r
  r4 : r ≤ 4
  t1 : 1 ≤ taps.length
  t4 : taps.length ≤ 4
  tb : ∀ t ∈ taps, 0 ≤ t ∧ t < 2 * 2 ^ r.toNat
  m1 : 1 ≤ rows.length
  m6 : rows.length ≤ 6
  rw : ∀ row ∈ rows, row.length = taps.length ∧ ∀ b ∈ row, b = 0 ∨ b = 1
  en : e = "open" ∨ e = "ended" ∨ e = "ring"
theorem pickD {a b : Int} (k : Prop) [Decidable k] : ∃ r : Int, atI [D.int a, D.int b] (if k then 1 else 0) = some (.int r) ∧ (r = a ∨ r = b) := by
  by_cases h : k
  · rw [if_pos h]; exact ⟨b, rfl, .inr rfl⟩
  · rw [if_neg h]; exact ⟨a, rfl, .inl rfl⟩
theorem ints_of {P : Int → Prop} : ∀ {ys : List D}, (∀ y ∈ ys, ∃ t, y = .int t ∧ P t) → ∃ ts : List Int, ys = ts.map D.int ∧ ∀ t ∈ ts, P t
  | [], _ => ⟨[], rfl, fun _ h => nomatch h⟩
  | y :: ys, h => by
    obtain ⟨t, rfl, ht⟩ := h y List.mem_cons_self
    obtain ⟨ts, rfl, hs⟩ := ints_of (P := P) fun z hz => h z (List.mem_cons_of_mem _ hz)
    refine ⟨t :: ts, rfl, fun u hu => ?_⟩
    rcases List.mem_cons.mp hu with rfl | hu
    · exact ht
    · exact hs u hu
theorem at_last {α : Type} (xs : List α) (x : α) : atI (xs ++ [x]) (-1) = some x := by
  unfold atI ixN
  have h1 : ¬ ((0 : Int) ≤ -1) := by decide
  have h2 : (-(((xs ++ [x]).length : Nat) : Int) ≤ -1) := by rw [List.length_append, List.length_singleton]; omega
  have h3 : ((-1 : Int) + (((xs ++ [x]).length : Nat) : Int)).toNat = xs.length := by rw [List.length_append, List.length_singleton]; omega
  rw [if_neg h1, if_pos h2, h3]
  show (xs ++ [x])[xs.length]? = some x
  rw [List.getElem?_append_right (Nat.le_refl _), Nat.sub_self]
  rfl
end L2
set_option Elab.async false
set_option linter.all false
set_option maxRecDepth 100000
set_option maxHeartbeats 4000000
namespace L2
open PySem PySem.Spec
theorem dSplit_join {c : Nat} {xs : List Str} (hn : xs ≠ []) (h : ∀ x ∈ xs, c ∉ x.cps.toList) (h1 : (Txt.join ⟨#[c]⟩ xs).length ≤ sizeLine) (h2 : xs.length ≤ sizeLine) : dSplit (.str (Txt.join ⟨#[c]⟩ xs)) (.str ⟨#[c]⟩) = some (xs.map D.str) := by
  unfold dSplit
  dsimp only
  have e : Txt.split (Txt.join ⟨#[c]⟩ xs) ⟨#[c]⟩ = xs := by
    rw [txt_join]
    exact split_join c xs hn h
  rw [e, if_pos ⟨rfl, h1, h2⟩]
theorem str_of {x : Str} {l : List Nat} (h : x.cps.toList = l) : x = ⟨l.toArray⟩ := str_ext (by rw [h])
theorem sl_rest {x : Str} {c : Nat} {r : List Nat} (h : x.cps.toList = c :: r) : Txt.slice x (some 1) none = ⟨r.toArray⟩ := by
  have e := eq_of_beq (PyProof.Rows.slice_closes_fromL (x := x) (i := 1) (b := x.length) (by decide) (by rw [len_toList, h, List.length_cons]; omega) rfl)
  rw [e, len_toList, h, List.length_cons]
  have : (((r.length + 1 : Nat) : Int) - 1).toNat = r.length := by omega
  rw [this]
  show (⟨(r.take r.length).toArray⟩ : Str) = _
  rw [List.take_length]
theorem join_len (c : Nat) : ∀ (xs : List Str) (k : Nat), (∀ x ∈ xs, x.length ≤ k) → (Txt.join ⟨#[c]⟩ xs).length ≤ xs.length * (k + 1) := by
  intro xs k h
  rw [txt_join]
  induction xs with
  | nil =>
    rw [List.length_nil, Nat.zero_mul]
    exact Nat.le_of_eq rfl
  | cons x r ih =>
    cases r with
    | nil =>
      have e : Str.join ⟨#[c]⟩ [x] = x := by
        rw [← txt_join]
        rfl
      rw [e]
      have := h x List.mem_cons_self
      rw [List.length_singleton]
      omega
    | cons y r =>
      have h1 := h x List.mem_cons_self
      have h2 := ih fun z hz => h z (List.mem_cons_of_mem _ hz)
      rw [len_toList, join_cons, List.length_append, List.length_cons, ← len_toList, ← len_toList]
      simp only [List.length_cons] at h2 ⊢
      rw [Nat.add_mul (r.length + 1) 1 (k + 1)]
      omega
noncomputable def dSlS (d : D) (lo hi : Option Int) : Option D := match d with
  | .str a => if a.length ≤ sizeLine then some (.str (Txt.slice a lo hi)) else none
  | _ => none
noncomputable def sgO (d : D) : Option (List D) := match d with
  | .str x => some (signsD x)
  | _ => none
section
variable {fa : Rho → Option (D × Rho)} {fl fh : Rho → Option (Option Int × Rho)} {ρ : Rho}
theorem ev_slS : mSlS fa fl fh ρ = (fa ρ).bind fun p => (fl p.2).bind fun q => (fh q.2).bind fun r => (dSlS p.1 q.1 r.1).map fun x => (x, r.2) := by
  unfold mSlS
  rw [ev_bind]
  congr 1; funext p
  rw [ev_bind]
  congr 1; funext q
  rw [ev_bind]
  congr 1; funext r
  rw [ev_lift]
  rfl
theorem ev_signs : mSigns fa ρ = (fa ρ).bind fun p => (sgO p.1).map fun x => (x, p.2) := by
  unfold mSigns
  rw [ev_bind]
  congr 1; funext p
  rw [ev_lift]
  rfl
end
theorem dSlS_is {x y : Str} {lo hi : Option Int} (h : x.length ≤ sizeLine) (e : Txt.slice x lo hi = y) : dSlS (.str x) lo hi = some (.str y) := by
  unfold dSlS
  dsimp only
  rw [if_pos h, e]
theorem dLenS_is {x : Str} {n : Int} (h : x.length ≤ sizeLine) (e : (x.length : Int) = n) : dLenS (.str x) = some (.int n) := by
  unfold dLenS
  dsimp only
  rw [if_pos h, e]
end L2
set_option Elab.async false
set_option linter.all false
set_option maxRecDepth 100000
set_option maxHeartbeats 4000000
namespace L2
open PySem PySem.Spec
noncomputable def DOk (n : Nat) (d : D) : Prop := ∃ p, d.toP = some p ∧ p.canLay0 = true ∧ p.depth ≤ n
noncomputable def DOks (n : Nat) (ds : List D) : Prop := ∃ ps, D.toPs ds = some ps ∧ PyData.canLayAll0 ps = true ∧ PyData.depthAll ps ≤ n
theorem DOk.int (n : Nat) (i : Int) : DOk n (.int i) := ⟨.int i, by simp only [D.toP], by simp only [PyData.canLay0], by simp only [PyData.depth]; exact Nat.zero_le _⟩
theorem DOk.bl (n : Nat) (i : Bool) : DOk n (.bl i) := ⟨.bool i, by simp only [D.toP], by simp only [PyData.canLay0], by simp only [PyData.depth]; exact Nat.zero_le _⟩
theorem DOk.str (n : Nat) {x : Str} (h : PyData.strOk x = true) : DOk n (.str x) := ⟨.str x, by simp only [D.toP], by simp only [PyData.canLay0]; exact h, by simp only [PyData.depth]; exact Nat.zero_le _⟩
theorem DOks.nil (n : Nat) : DOks n [] := ⟨[], by simp only [D.toPs], by simp only [PyData.canLayAll0], by simp only [PyData.depthAll]; exact Nat.zero_le _⟩
theorem DOks.cons {n : Nat} {d : D} {ds : List D} (h : DOk n d) (r : DOks n ds) : DOks n (d :: ds) := by
  obtain ⟨p, h1, h2, h3⟩ := h
  obtain ⟨ps, g1, g2, g3⟩ := r
  refine ⟨p :: ps, by simp only [D.toPs, h1, g1], by simp only [PyData.canLayAll0, h2, g2]; rfl, ?_⟩
  simp only [PyData.depthAll]
  exact Nat.max_le.mpr ⟨h3, g3⟩
theorem DOks.all {n : Nat} : ∀ {ds : List D}, (∀ d ∈ ds, DOk n d) → DOks n ds
  | [], _ => DOks.nil n
  | d :: ds, h => DOks.cons (h d List.mem_cons_self) (DOks.all fun x hx => h x (List.mem_cons_of_mem _ hx))
theorem DOks.lst {n : Nat} {ds : List D} (h : DOks n ds) : DOk (n + 1) (.lst ds) := by
  obtain ⟨ps, g1, g2, g3⟩ := h
  exact ⟨.list ps, by simp only [D.toP, g1]; rfl, by simp only [PyData.canLay0]; exact g2, by simp only [PyData.depth]; omega⟩
theorem DOks.tup {n : Nat} {ds : List D} (h : DOks n ds) : DOk (n + 1) (.tup ds) := by
  obtain ⟨ps, g1, g2, g3⟩ := h
  exact ⟨.tuple ps, by simp only [D.toP, g1]; rfl, by simp only [PyData.canLay0]; exact g2, by simp only [PyData.depth]; omega⟩
theorem eqD_self {n : Nat} {d : D} (h : DOk n d) (hn : n ≤ 64) : eqD d d = some true := by
  obtain ⟨p, h1, h2, h3⟩ := h
  have hs : SeqAt.shaped p = true := by
    unfold SeqAt.shaped
    rw [h2, decide_eq_true (by omega : p.depth ≤ 64)]
    rfl
  unfold eqD
  rw [h1]
  show (if SeqAt.shaped p = true ∧ SeqAt.shaped p = true then some (PyData.eqv p p) else none) = some true
  rw [if_pos ⟨hs, hs⟩, SeqAt.eqv_refl p h2]
theorem DOk.ints (xs : List Int) : DOk 1 (.lst (xs.map D.int)) := DOks.lst (.all fun d hd => by
  obtain ⟨i, _, rfl⟩ := List.mem_map.mp hd
  exact .int _ i)
theorem DOk.le {n m : Nat} {d : D} (h : DOk n d) (hn : n ≤ m) : DOk m d := by
  obtain ⟨p, h1, h2, h3⟩ := h
  exact ⟨p, h1, h2, by omega⟩
theorem eqD_not_nil {n : Nat} {d : D} {ds : List D} (h : DOk n d) (r : DOks n ds) (hn : n < 64) : eqD (.lst (d :: ds)) (.lst []) = some false := by
  obtain ⟨p, h1, h2, h3⟩ := DOks.lst (DOks.cons h r)
  obtain ⟨q, g1, g2, g3⟩ := h
  obtain ⟨qs, k1, k2, k3⟩ := r
  have e : D.toP (.lst (d :: ds)) = some (.list (q :: qs)) := by simp only [D.toP, D.toPs, g1, k1]; rfl
  rw [e] at h1
  cases h1
  have hs : SeqAt.shaped (.list (q :: qs)) = true := by
    unfold SeqAt.shaped
    rw [h2, decide_eq_true (by omega : (PyData.list (q :: qs)).depth ≤ 64)]
    rfl
  have e0 : D.toP (.lst []) = some (.list []) := by simp only [D.toP, D.toPs]; rfl
  have hs0 : SeqAt.shaped (.list []) = true := by decide +kernel
  unfold eqD
  rw [e, e0]
  show (if SeqAt.shaped (.list (q :: qs)) = true ∧ SeqAt.shaped (.list []) = true then some (PyData.eqv (.list (q :: qs)) (.list [])) else none) = some false
  rw [if_pos ⟨hs, hs0⟩]
  simp [PyData.eqv, PyData.eqvAll]
theorem DOks.strs {xs : List Str} (h : ∀ x ∈ xs, PyData.strOk x = true) : DOks 0 (xs.map D.str) := .all fun d hd => by
  obtain ⟨x, hx, rfl⟩ := List.mem_map.mp hd
  exact .str _ (h x hx)
end L2
namespace L2
open PySem PySem.Spec
theorem join0_cons (x : Str) (r : List Str) : (Txt.join "" (x :: r)).cps.toList = x.cps.toList ++ (Txt.join "" r).cps.toList := by
  rw [txt_join, txt_join]
  cases r with
  | nil =>
    have e : Str.join "" [x] = x := by rw [← txt_join]; rfl
    rw [e]
    show _ = x.cps.toList ++ []
    rw [List.append_nil]
  | cons y r =>
    show (x ++ ("" : Str) ++ Str.join "" (y :: r)).cps.toList = _
    rw [cps_append, cps_append, List.append_assoc]
    rfl
theorem join0_cps : ∀ xs : List Str, (Txt.join "" xs).cps.toList = (xs.map (·.cps.toList)).flatten
  | [] => rfl
  | x :: r => by rw [join0_cons, join0_cps r, List.map_cons, List.flatten_cons]
end L2
set_option Elab.async false
set_option linter.all false
set_option maxRecDepth 100000
set_option maxHeartbeats 4000000
namespace L2
open PySem PySem.Spec PyProof.Rows
section
variable {X : Cx}
noncomputable def rStarts : V → List V → Hp → VK → Prop := fun x vs H Q => ∃ a b : Str, x = .str a ∧ vs = [.str b] ∧ Q (.bl (Txt.startswith a b)) H
theorem mt_startswith : MtR X "str.startswith" rStarts := by
  intro pins s σ H x vs v us Q I rx rv h
  obtain ⟨a, b, rfl, rfl, q⟩ := h
  obtain ⟨t, rfl⟩ := rx
  obtain ⟨u, rfl, ru⟩ := rv.one
  obtain ⟨t2, rfl⟩ := ru
  exact call_gives F.slot_str_startswith (typeIs_str _ _ _) F.entry_str_startswith (F.args_str_startswith_2 _ _) (gives_str_startswith a b t t2) ⟨.bl _, H, I, rfl, q⟩
noncomputable def gStartswith (a b : Str) : Option D := some (.bl (Txt.startswith a b))
theorem sm_startswith : SM rStarts gStartswith := fun H a b d Q e k => by
  cases e
  exact ⟨a, b, rfl, rfl, k _ (.bl _)⟩
noncomputable def partT (a b : Str) : List Str := match Builtin.Str.occurrences a b 0 a.length 1 with
  | i :: _ => [Builtin.Str.strSub a 0 i, b, Builtin.Str.strSub a (i + b.length) a.length]
  | [] => [a, Str.empty, Str.empty]
noncomputable def rPartition : V → List V → Hp → VK → Prop := fun x vs H Q => ∃ a b : Str, x = .str a ∧ vs = [.str b] ∧ (b.length == 0) = false ∧ a.length ≤ sizeLine ∧ ∀ p, H p = none → Q (.ref p) (upd H p (.tup ((partT a b).map V.str)))
theorem mt_partition : MtR X "str.partition" rPartition := by
  intro pins s σ H x vs v us Q I rx rv h
  obtain ⟨a, b, rfl, rfl, hb, ha, q⟩ := h
  obtain ⟨t, rfl⟩ := rx
  obtain ⟨u, rfl, ru⟩ := rv.one
  obtain ⟨t2, rfl⟩ := ru
  refine call_meets F.slot_str_partition (typeIs_str _ _ _) F.entry_str_partition (F.args_str_partition_2 _ _) (meets_str_partition a b t t2 hb ha) ?_
  have hn : H s.heap.objs.size = none := I.hok.fresh (Nat.le_refl _)
  unfold partT at q
  cases ho : Builtin.Str.occurrences a b 0 a.length 1 with
  | nil =>
    rw [ho] at q
    refine ⟨.ref s.heap.objs.size, _, ?_, rfl, q _ hn⟩
    refine I.laid (fun b o e => Heap.get?_push_of_some _ e) (Nat.le_refl _) ⟨by show 3 ≤ sizeLine; decide, [.str a t, .str Str.empty s.toks, .str Str.empty s.toks], .cons ⟨_, rfl⟩ (.cons ⟨_, rfl⟩ (.cons ⟨_, rfl⟩ .nil)), ?_⟩
    exact ⟨_, Heap.get?_push_size s.heap rfl, ⟨rfl, 0, rfl⟩, rfl⟩
  | cons i r =>
    rw [ho] at q
    refine ⟨.ref s.heap.objs.size, _, ?_, rfl, q _ hn⟩
    refine I.laid (fun b o e => Heap.get?_push_of_some _ e) (Nat.le_refl _) ⟨by show 3 ≤ sizeLine; decide, [.str (Builtin.Str.strSub a 0 i) s.toks, .str b t2, .str (Builtin.Str.strSub a (i + b.length) a.length) (s.toks + 1)], .cons ⟨_, rfl⟩ (.cons ⟨_, rfl⟩ (.cons ⟨_, rfl⟩ .nil)), ?_⟩
    exact ⟨_, Heap.get?_push_size s.heap rfl, ⟨rfl, 0, rfl⟩, rfl⟩
end
section
variable {K : PySem.W.Frag} {O : List Nat} {t tb : TE} {fa fb : Rho → Option (D × Rho)}
noncomputable def dPartition (x y : D) : Option D := match x, y with
  | .str a, .str b => if (b.length == 0) = false ∧ a.length ≤ sizeLine then some (.tup ((partT a b).map D.str)) else none
  | _, _ => none
theorem me_partition (ha : ME K O t fa) (hb : ME K O tb fb) : ME K O (tBM K "str" rPartition t (tCons tb tNil)) (mOp2 dPartition fa fb) := fun Z σ H R ρ d ρ' Q S e k => by
  obtain ⟨x, ρ1, e1, e⟩ := mBind_some e
  obtain ⟨y, ρ2, e2, e⟩ := mBind_some e
  obtain ⟨e3, rfl⟩ := mLift_some e
  unfold dPartition at e3
  split at e3
  · split at e3
    · rename_i hz
      cases e3
      refine ha Z σ H R ρ _ ρ1 _ S e1 fun v H1 R1 S1 st1 r1 => ?_
      cases r1
      refine ⟨rfl, hb Z σ H1 R1 ρ1 _ _ _ S1 e2 fun w H2 R2 S2 st2 r2 => ?_⟩
      cases r2
      refine ⟨_, _, rfl, rfl, hz.1, hz.2, fun p hp => ?_⟩
      exact k _ _ _ (S2.ext (Ext.new S2.sub hp)) ((st1.trans st2).trans (Ext.new S2.sub hp).stp) (.tup upd_same (Rps.strs _))
    · cases e3
  · cases e3
noncomputable def mIfL (f : Rho → Option (Bool × Rho)) (g h : Rho → Option (List D × Rho)) : Rho → Option (List D × Rho) := mBind f fun b => if b = true then g else h
theorem ev_ifL {ga : Rho → Option (Bool × Rho)} {fa fb : Rho → Option (List D × Rho)} {ρ : Rho} : mIfL ga fa fb ρ = (ga ρ).bind fun p => if p.1 = true then fa p.2 else fb p.2 := by
  unfold mIfL
  rw [ev_bind]
  congr 1; funext p
  split <;> rfl
end
end L2
set_option Elab.async false
set_option linter.all false
set_option maxRecDepth 100000
set_option maxHeartbeats 4000000
namespace L2
open PySem PySem.Spec
theorem sat_one (x : Str) (c i : Nat) : StrLaws.At x ⟨#[c]⟩ x.length i ↔ x.cps.toList[i]? = some c := StrLaws.subAt_one x c i
theorem occ_at {x : Str} {c : Nat} {l r : List Nat} (h : x.cps.toList = l ++ c :: r) (hc : c ∉ l) : ∃ t, Builtin.Str.occurrences x ⟨#[c]⟩ 0 x.length 1 = l.length :: t := by
  rcases StrLaws.occ_head x ⟨#[c]⟩ 1 (by decide) with ⟨_, hn⟩ | ⟨i, t, e, ha, hk⟩
  · exact absurd ((sat_one x c l.length).mpr (by rw [h]; simp)) (hn _)
  · have hi := (sat_one x c i).mp ha
    rw [h] at hi
    have q : i = l.length := by
      rcases Nat.lt_trichotomy i l.length with q | q | q
      · rw [List.getElem?_append_left q] at hi
        exact absurd (List.mem_of_getElem? hi) hc
      · exact q
      · exact absurd ((sat_one x c l.length).mpr (by rw [h]; simp)) (hk _ q)
    subst q
    exact ⟨t, e⟩
theorem part_at {x : Str} {c : Nat} {l r : List Nat} (h : x.cps.toList = l ++ c :: r) (hc : c ∉ l) : partT x ⟨#[c]⟩ = [⟨l.toArray⟩, ⟨#[c]⟩, ⟨r.toArray⟩] := by
  obtain ⟨t, e⟩ := occ_at h hc
  unfold partT
  rw [e]
  dsimp only
  have e1 : Builtin.Str.strSub x 0 l.length = ⟨l.toArray⟩ := str_of (by
    rw [StrLaws.strSub_toList, h]
    simp)
  have e2 : Builtin.Str.strSub x (l.length + (⟨#[c]⟩ : Str).length) x.length = ⟨r.toArray⟩ := str_of (by
    rw [StrLaws.strSub_toList, len_toList x, h]
    show ((l ++ c :: r).drop (l.length + 1)).take ((l ++ c :: r).length - (l.length + 1)) = r
    rw [List.drop_append, List.drop_eq_nil_of_le (by omega), List.nil_append, List.length_append, List.length_cons]
    have : l.length + 1 - l.length = 1 := by omega
    rw [this]
    show r.take _ = r
    exact List.take_of_length_le (by omega))
  rw [e1, e2]
theorem dPartition_at {x : Str} {c : Nat} {l r : List Nat} (h : x.cps.toList = l ++ c :: r) (hc : c ∉ l) (hx : x.length ≤ sizeLine) : dPartition (.str x) (.str ⟨#[c]⟩) = some (.tup [.str ⟨l.toArray⟩, .str ⟨#[c]⟩, .str ⟨r.toArray⟩]) := by
  unfold dPartition
  dsimp only
  rw [if_pos ⟨rfl, hx⟩, part_at h hc]
  rfl
theorem starts_one (x : Str) (c : Nat) : gStartswith x ⟨#[c]⟩ = some (.bl (decide (x.cps.toList[0]? = some c))) := by
  unfold gStartswith
  congr 2
  rw [Bool.eq_iff_iff, decide_eq_true_eq, ← StrLaws.subAt_one x c 0]
  show (decide (0 + (⟨#[c]⟩ : Str).length ≤ x.length) && Builtin.Str.subAt x ⟨#[c]⟩ 0) = true ↔ _
  rw [Bool.and_eq_true, decide_eq_true_eq]
theorem in_one (x : Str) (c : Nat) : dInS (.str ⟨#[c]⟩) (.str x) = some (.bl (decide (c ∈ x.cps.toList))) := by
  show some (D.bl _) = _
  rw [StrLaws.found_one]
theorem in_figs {c : Nat} (h : 48 ≤ c ∧ c ≤ 57) : dInS (.str ⟨#[c]⟩) (.str "0123456789") = some (.bl true) := by
  have e : ("0123456789" : Str).cps.toList = [48, 49, 50, 51, 52, 53, 54, 55, 56, 57] := by decide +kernel
  rw [in_one, e, decide_eq_true]
  simp only [List.mem_cons, List.not_mem_nil, or_false]
  omega
theorem any_no : ∀ ys : List D, boolsD (ys.map fun _ => D.bl false) = some (ys.map fun _ => false)
  | [] => rfl
  | y :: ys => by simp [boolsD, any_no ys]
theorem any_id (ys : List D) : (ys.map fun _ => false).any id = false := by
  induction ys with
  | nil => rfl
  | cons y ys ih => simp
end L2
set_option Elab.async false
set_option linter.all false
set_option maxRecDepth 100000
set_option maxHeartbeats 4000000
namespace L2
open PySem PySem.Spec PyProof.Rows
section
variable {X : Cx}
noncomputable abbrev TJ := St → Hp → Str → (Str → Hp → Prop) → Prop
noncomputable def tFmt (te : TE) : TE := fun σ H Q => te σ H fun v H1 => (∃ x : Str, v = .str x ∧ x.length ≤ sizeLine ∧ Q (.str x) H1) ∨ (∃ i : Int, v = .int i ∧ i.natAbs.log2 < 1920 ∧ Q (.str (Str.ofString (toString i))) H1)
theorem pe_fmt {e : Expr} {te : TE} {pos : Pos} (h : PE X e te) : PE X (.FormattedValue e (-1) none pos) (tFmt te) := by
  intro pins s σ H Q I hq
  refine PyProof.Rows.FormattedValue_plain (thn (h pins s σ H _ I hq) fun v s1 ⟨y, H1, I1, r1, q1⟩ => ?_)
  rcases q1 with ⟨x, rfl, hz, q⟩ | ⟨i, rfl, hz, q⟩
  · obtain ⟨t, rfl⟩ := r1
    exact PyProof.Rows.formatField_str (fun t' tk => ⟨.str x, H1, I1.tok tk, ⟨_, rfl⟩, q⟩) hz
  · obtain ⟨t, rfl⟩ := r1
    exact PyProof.Rows.formatField_int_small hz ⟨.str _, H1, I1.tok _, ⟨_, rfl⟩, q⟩
noncomputable def PJ (X : Cx) (es : List Expr) (t : TJ) : Prop := ∀ (pins : List (Addr × Obj)) (s : Shared) (σ : St) (H : Hp) (acc : Str) (R : Str → Hp → Prop) (Qs : Str → Shared → Prop), Inv X pins σ H s → t σ H acc R → (∀ out s1 H1, Inv X pins σ H1 s1 → R out H1 → Qs out s1) → Joins (model X.prog X.w) X.A X.xe (evalEach es X.env) acc Qs s
noncomputable def jNil : TJ := fun σ H acc R => R acc H
noncomputable def jCons (te : TE) (t : TJ) : TJ := fun σ H acc R => te σ H fun v H1 => ∃ y : Str, v = .str y ∧ (acc ++ y).length ≤ sizeLine ∧ t σ H1 (acc ++ y) R
theorem pj_nil : PJ X [] jNil := fun pins s σ H acc R Qs I h k => k _ _ H I h
theorem pj_cons {e : Expr} {es : List Expr} {te : TE} {t : TJ} (he : PE X e te) (hs : PJ X es t) : PJ X (e :: es) (jCons te t) := by
  intro pins s σ H acc R Qs I h k
  show wpAny _ _ (eval e X.env) _ _ s
  refine thn (he pins s σ H _ I h) fun v s1 ⟨u, H1, I1, r1, y, ey, hz, q⟩ => ?_
  subst ey
  obtain ⟨t, rfl⟩ := r1
  exact ⟨y, t, rfl, hz, hs pins s1 σ H1 _ R Qs I1 q k⟩
noncomputable def tJoin (t : TJ) : TE := fun σ H Q => t σ H Str.empty fun x H1 => x.length ≤ sizeLine ∧ Q (.str x) H1
theorem pe_join {a b : Expr} {es : List Expr} {pos : Pos} {t : TJ} (h : PJ X (a :: b :: es) t) : PE X (.JoinedStr (a :: b :: es) pos) (tJoin t) := by
  intro pins s σ H Q I hq
  exact wpAny_JoinedStr (h pins s σ H _ _ _ I hq fun out s1 H1 I1 q => ⟨q.1, .str out, H1, I1.tok _, ⟨_, rfl⟩, q.2⟩)
theorem isStr_at (k : Str) : ∀ {vs : List Value} {ys : List Str}, StrsAre vs ys → ∀ (j : Nat) (h1 : j < vs.length) (h2 : j < ys.length), isStrOf k vs[j] = (ys[j] == k)
  | _, _, .cons n t _, 0, _, _ => rfl
  | _, _, .cons n t r, j + 1, h1, h2 => isStr_at k r j (Nat.lt_of_succ_lt_succ h1) (Nat.lt_of_succ_lt_succ h2)
theorem strsAre_len : ∀ {vs : List Value} {ys : List Str}, StrsAre vs ys → vs.length = ys.length
  | _, _, .nil => rfl
  | _, _, .cons _ _ r => congrArg Nat.succ (strsAre_len r)
theorem ne_idx {k : Str} : ∀ {ns : List Str} {j : Nat}, j < ns.idxOf k → ∀ (h2 : j < ns.length), (ns[j] == k) = false
  | n :: r, 0, h, _ => by
    by_cases e : n = k
    · subst e; simp at h
    · simpa using e
  | n :: r, j + 1, h, h2 => by
    by_cases e : n = k
    · subst e; simp at h
    · have hb : (n == k) = false := by simpa using e
      have h' : j < r.idxOf k := by
        rw [List.idxOf_cons, hb] at h
        exact Nat.lt_of_succ_lt_succ h
      exact ne_idx h' (Nat.lt_of_succ_lt_succ h2)
noncomputable def rIdx (K : PySem.W.Frag) : V → List V → Hp → VK → Prop := fun x vs H Q => ∃ (p : Addr) (ws : List Str) (k : Str), x = .ref p ∧ vs = [.str k] ∧ SqL K H p (ws.map V.str) ∧ k ∈ ws ∧ Q (.int (ws.idxOf k : Nat)) H
theorem mt_idx {K : PySem.W.Frag} (hK : X.K = K) : MtR X "list.index" (rIdx K) := by
  subst hK
  intro pins s σ H x vs v us Q I rx rv h
  obtain ⟨p, ws, k, rfl, rfl, hq, hk, q⟩ := h
  cases rx
  obtain ⟨u, rfl, ru⟩ := rv.one
  obtain ⟨t, rfl⟩ := ru
  obtain ⟨its, ri, pl, hz⟩ := I.list hq
  obtain ⟨⟨cls, dd, data, sl⟩, ho, hc, n, hd⟩ := pl.isList
  simp only at hc hd
  subst hc hd
  have hi := strsAre_of ri
  have hlen := strsAre_len hi
  have hj : ws.idxOf k < ws.length := List.idxOf_lt_length_iff.mpr hk
  have hb : ws.length < 2 ^ 62 := by
    rw [List.length_map] at hz
    exact Nat.lt_of_le_of_lt hz (by rw [sizeLine_eq]; decide)
  refine call_meets PySem.F.slot_list_index ⟨_, ho, rfl⟩ PySem.F.entry_list_index (PySem.F.args_list_index_2 _ _)
    (PySem.SeqAt.list_indexAt p its.toArray n dd sl (.str k t) (isStrOf k) (ws.idxOf k) (by simpa [hlen] using hj) (by omega) ?_ ?_) ⟨ho, fun y hy => (eq_isStrOf k t hi y (by simpa using hy)).at _ _, ⟨.int _, H, I.tok _, ⟨_, rfl⟩, q⟩⟩
  · show isStrOf k its[ws.idxOf k] = true
    rw [isStr_at k hi _ (by omega) hj]
    simpa using List.getElem_idxOf hj
  · intro j hjs hlt
    show isStrOf k its[j] = false
    rw [isStr_at k hi j (by simpa using hjs) (by omega)]
    exact ne_idx hlt _
end
section
variable {K : PySem.W.Frag} {O : List Nat} {t tb : TE} {fa fb : Rho → Option (D × Rho)}
noncomputable def dIdx (x y : D) : Option D := match x, y with
  | .lst ds, .str k => match strsD ds with
    | some ws => if k ∈ ws then some (.int (ws.idxOf k : Nat)) else none
    | none => none
  | _, _ => none
theorem me_idxL (ha : ME K O t fa) (hb : ME K O tb fb) : ME K O (tBM K "list" (rIdx K) t (tCons tb tNil)) (mOp2 dIdx fa fb) := fun Z σ H R ρ d ρ' Q S e k => by
  obtain ⟨x, ρ1, e1, e⟩ := mBind_some e
  obtain ⟨y, ρ2, e2, e⟩ := mBind_some e
  obtain ⟨e3, rfl⟩ := mLift_some e
  unfold dIdx at e3
  split at e3
  · split at e3
    · rename_i z
      split at e3
      · rename_i hm
        cases e3
        refine ha Z σ H R ρ _ ρ1 _ S e1 fun v H1 R1 S1 st1 r1 => ?_
        cases r1 with
        | lst h r =>
          refine ⟨.inl ⟨rfl, _, Same.sqL S1.same h⟩, hb Z σ H1 R1 ρ1 _ _ _ S1 e2 fun w H2 R2 S2 st2 r2 => ?_⟩
          cases r2
          have ex := strsD_rps r z
          subst ex
          exact ⟨_, _, _, rfl, rfl, Same.sqL S2.same (Same.sqL st2.r h), hm, k _ H2 R2 S2 (st1.trans st2) (.int _)⟩
      · cases e3
    · cases e3
  · cases e3
noncomputable def dFmt : D → Option D
  | .str x => if x.length ≤ sizeLine then some (.str x) else none
  | .int i => if i.natAbs.log2 < 1920 then some (.str (Str.ofString (toString i))) else none
  | _ => none
theorem me_fmt (h : ME K O t fa) : ME K O (tFmt t) (mOp1 dFmt fa) := fun Z σ H R ρ d ρ' Q S e k => by
  obtain ⟨x, ρ1, e1, e⟩ := mBind_some e
  obtain ⟨e3, rfl⟩ := mLift_some e
  refine h Z σ H R ρ x _ _ S e1 fun v H1 R1 S1 st1 r1 => ?_
  cases r1 with
  | str a =>
    unfold dFmt at e3
    dsimp only at e3
    split at e3
    · rename_i hz
      cases e3
      exact .inl ⟨a, rfl, hz, k _ H1 R1 S1 st1 (.str _)⟩
    · cases e3
  | int i =>
    unfold dFmt at e3
    dsimp only at e3
    split at e3
    · rename_i hz
      cases e3
      exact .inr ⟨i, rfl, hz, k _ H1 R1 S1 st1 (.str _)⟩
    · cases e3
  | _ => cases e3
noncomputable def MJ (K : PySem.W.Frag) (O : List Nat) (t : TJ) (f : Str → Rho → Option (Str × Rho)) : Prop := ∀ (Z : Anc) (σ : St) (H R : Hp) (ρ : Rho) (acc x : Str) (ρ' : Rho) (Q : Str → Hp → Prop), StR K Z O σ H R ρ → f acc ρ = some (x, ρ') → (∀ H' R', StR K Z O σ H' R' ρ' → Stp O σ H R H' R' → Q x H') → t σ H acc Q
noncomputable def fNil : Str → Rho → Option (Str × Rho) := fun acc ρ => some (acc, ρ)
noncomputable def strO : D → Option Str
  | .str y => some y
  | _ => none
noncomputable def fCons (fe : Rho → Option (D × Rho)) (g : Str → Rho → Option (Str × Rho)) : Str → Rho → Option (Str × Rho) := fun acc ρ => (fe ρ).bind fun p => (strO p.1).bind fun y => if (acc ++ y).length ≤ sizeLine then g (acc ++ y) p.2 else none
noncomputable def mJoinF (g : Str → Rho → Option (Str × Rho)) : Rho → Option (D × Rho) := fun ρ => (g Str.empty ρ).bind fun p => if p.1.length ≤ sizeLine then some (.str p.1, p.2) else none
theorem mj_nil : MJ K O jNil fNil := fun Z σ H R ρ acc x ρ' Q S e k => by
  cases e
  exact k H R S (Stp.refl _ _ _ _)
theorem mj_cons {tj : TJ} {g : Str → Rho → Option (Str × Rho)} (h : ME K O t fa) (hs : MJ K O tj g) : MJ K O (jCons t tj) (fCons fa g) := fun Z σ H R ρ acc x ρ' Q S e k => by
  unfold fCons at e
  cases e1 : fa ρ with
  | none => rw [e1] at e; cases e
  | some p =>
    obtain ⟨d, ρ1⟩ := p
    rw [e1] at e
    refine h Z σ H R ρ d ρ1 _ S e1 fun v H1 R1 S1 st1 r1 => ?_
    cases r1 with
    | str y =>
      have e' : (if (acc ++ y).length ≤ sizeLine then g (acc ++ y) ρ1 else none) = some (x, ρ') := e
      split at e'
      · rename_i hz
        exact ⟨y, rfl, hz, hs Z σ H1 R1 ρ1 _ x ρ' Q S1 e' fun H2 R2 S2 st2 => k H2 R2 S2 (st1.trans st2)⟩
      · cases e'
    | _ => cases e
theorem me_joinF {tj : TJ} {g : Str → Rho → Option (Str × Rho)} (h : MJ K O tj g) : ME K O (tJoin tj) (mJoinF g) := fun Z σ H R ρ d ρ' Q S e k => by
  unfold mJoinF at e
  cases e1 : g Str.empty ρ with
  | none => rw [e1] at e; cases e
  | some p =>
    obtain ⟨x, ρ1⟩ := p
    rw [e1] at e
    have e' : (if x.length ≤ sizeLine then some (D.str x, ρ1) else none) = some (d, ρ') := e
    split at e'
    · rename_i hz
      cases e'
      exact h Z σ H R ρ Str.empty x _ _ S e1 fun H1 R1 S1 st1 => ⟨hz, k _ H1 R1 S1 st1 (.str _)⟩
    · cases e'
end
end L2
set_option Elab.async false
set_option linter.all false
set_option maxRecDepth 100000
set_option maxHeartbeats 4000000
namespace L2
open PySem PySem.Spec PyProof.Rows
section
variable {X : Cx} {pins : List (Addr × Obj)} {σ : St} {CX : CXT} {k : Nat} {f : Addr} {fd : FuncData} {ps : List Str} {sp : Sp} {dvs : List V} {ds : List Value} {E : XK} {x : Str} {p pos : Pos} {e : Expr} {es : List Expr} {t : TA} {i : Nat}
theorem PEat.or {e : Expr} {t u : TE} (h : PEat X pins σ e t) (k : PEat X pins σ e u) : PEat X pins σ e fun σ H Q => t σ H Q ∨ u σ H Q := fun s H Q I q => by
  rcases q with q | q
  · exact h s H Q I q
  · exact k s H Q I q
end
section
variable {K : PySem.W.Frag} {O : List Nat} {tr : TA} {fs : Rho → Option (List D × Rho)} {E : XK} {n : Nat}
end
end L2
set_option Elab.async false
set_option linter.all false
set_option maxRecDepth 100000
set_option maxHeartbeats 4000000
namespace L2
open PySem PySem.Spec PyProof.Rows
noncomputable def sk (x : Str) : String := if x.cps.all (· < 128) = true then "str_ascii_iterator" else "str_iterator"
noncomputable def strObj (x : Str) (t : Tok) : Obj := { cls := .type (sk x), data := .fields #[.str x t, .int 0 0] }
section
variable {prog : Program} {w : World} {A : Around} {E : Value → Shared → Prop} {s : Shared}
noncomputable abbrev zs1 (b1 : Bool) (h : Heap) (l1 : Addr) : Heap := h.push (iterObj b1 l1)
noncomputable abbrev zs2 (b1 : Bool) (h : Heap) (l1 : Addr) (x2 : Str) (t2 : Tok) : Heap := (zs1 b1 h l1).push (strObj x2 t2)
end
section
variable {X : Cx} {a b : Expr} {ta : TA} {p pos : Pos} {elts : List Expr} {x1 : Nat} {tp : Pos}
end
section
variable {K : PySem.W.Frag} {O : List Nat} {tr : TA} {fs : Rho → Option (List D × Rho)}
end
end L2
set_option Elab.async false
set_option linter.all false
set_option maxRecDepth 100000
set_option maxHeartbeats 4000000
namespace L2
open PySem PySem.Spec PySem.NumText
section
variable {K : PySem.W.Frag} {O : List Nat} {E : XK}
end
end L2
set_option Elab.async false
set_option linter.all false
set_option maxRecDepth 100000
set_option maxHeartbeats 4000000
namespace K55
open PySem L2
noncomputable def top (i : Nat) : Stmt := PySem.Challenge.pw_trellisway_k55_shown_and_read.main.body.getD i (.Pass ⟨0, 0, 0, 0⟩)
noncomputable abbrev s_shown_bits : Stmt := top 1
theorem sc_shown_bits : FnScope ["bits"] ["bits"] (defScope s_shown_bits) := ⟨rfl, rfl, rfl, by decide +kernel, rfl, by decide +kernel, by decide +kernel⟩
noncomputable abbrev s_shown_word : Stmt := top 2
theorem sc_shown_word : FnScope ["word"] ["word"] (defScope s_shown_word) := ⟨rfl, rfl, rfl, by decide +kernel, rfl, by decide +kernel, by decide +kernel⟩
noncomputable abbrev s_shown_scheme : Stmt := top 3
theorem sc_shown_scheme : FnScope ["scheme", "reach", "taps", "rows", "ending"] ["scheme"] (defScope s_shown_scheme) := ⟨rfl, rfl, rfl, by decide +kernel, rfl, by decide +kernel, by decide +kernel⟩
noncomputable abbrev s_shown_sign : Stmt := top 4
theorem sc_shown_sign : FnScope ["told"] ["told"] (defScope s_shown_sign) := ⟨rfl, rfl, rfl, by decide +kernel, rfl, by decide +kernel, by decide +kernel⟩
noncomputable abbrev s_shown_heard : Stmt := top 5
theorem sc_shown_heard : FnScope ["heard"] ["heard"] (defScope s_shown_heard) := ⟨rfl, rfl, rfl, by decide +kernel, rfl, by decide +kernel, by decide +kernel⟩
noncomputable abbrev s_shown_places : Stmt := top 6
theorem sc_shown_places : FnScope ["places"] ["places"] (defScope s_shown_places) := ⟨rfl, rfl, rfl, by decide +kernel, rfl, by decide +kernel, by decide +kernel⟩
noncomputable abbrev s_is_whole : Stmt := top 16
theorem sc_is_whole : FnScope ["found"] ["found"] (defScope s_is_whole) := ⟨rfl, rfl, rfl, by decide +kernel, rfl, by decide +kernel, by decide +kernel⟩
noncomputable abbrev s_plain_parts : Stmt := top 17
theorem sc_plain_parts : FnScope ["found"] ["found"] (defScope s_plain_parts) := ⟨rfl, rfl, rfl, by decide +kernel, rfl, by decide +kernel, by decide +kernel⟩
noncomputable abbrev s_plain_number : Stmt := top 18
theorem sc_plain_number : FnScope ["found", "end", "number"] ["found", "end"] (defScope s_plain_number) := ⟨rfl, rfl, rfl, by decide +kernel, rfl, by decide +kernel, by decide +kernel⟩
noncomputable abbrev s_plain_text : Stmt := top 19
theorem sc_plain_text : FnScope ["found"] ["found"] (defScope s_plain_text) := ⟨rfl, rfl, rfl, by decide +kernel, rfl, by decide +kernel, by decide +kernel⟩
noncomputable abbrev s_all_below : Stmt := top 20
theorem sc_all_below : FnScope ["parts", "end"] ["parts", "end"] (defScope s_all_below) := ⟨rfl, rfl, rfl, by decide +kernel, rfl, by decide +kernel, by decide +kernel⟩
noncomputable abbrev s_is_row : Stmt := top 21
theorem sc_is_row : FnScope ["found", "size", "bits"] ["found", "size"] (defScope s_is_row) := ⟨rfl, rfl, rfl, by decide +kernel, rfl, by decide +kernel, by decide +kernel⟩
noncomputable abbrev s_rooms_at : Stmt := top 23
theorem sc_rooms_at : FnScope ["reach"] ["reach"] (defScope s_rooms_at) := ⟨rfl, rfl, rfl, by decide +kernel, rfl, by decide +kernel, by decide +kernel⟩
noncomputable abbrev s_is_scheme : Stmt := top 22
theorem sc_is_scheme : FnScope ["found", "parts", "reach", "taps", "rows"] ["found"] (defScope s_is_scheme) := ⟨rfl, rfl, rfl, by decide +kernel, rfl, by decide +kernel, by decide +kernel⟩
noncomputable abbrev s_check_text : Stmt := top 28
theorem sc_check_text : FnScope ["found"] ["found"] (defScope s_check_text) := ⟨rfl, rfl, rfl, by decide +kernel, rfl, by decide +kernel, by decide +kernel⟩
noncomputable abbrev s_is_made_of : Stmt := top 29
theorem sc_is_made_of : FnScope ["text", "signs"] ["text", "signs"] (defScope s_is_made_of) := ⟨rfl, rfl, rfl, by decide +kernel, rfl, by decide +kernel, by decide +kernel⟩
noncomputable abbrev s_read_figures : Stmt := top 30
theorem sc_read_figures : FnScope ["text", "most"] ["text", "most"] (defScope s_read_figures) := ⟨rfl, rfl, rfl, by decide +kernel, rfl, by decide +kernel, by decide +kernel⟩
noncomputable abbrev s_read_small : Stmt := top 31
theorem sc_read_small : FnScope ["text"] ["text"] (defScope s_read_small) := ⟨rfl, rfl, rfl, by decide +kernel, rfl, by decide +kernel, by decide +kernel⟩
noncomputable abbrev s_read_number : Stmt := top 32
theorem sc_read_number : FnScope ["text", "number"] ["text"] (defScope s_read_number) := ⟨rfl, rfl, rfl, by decide +kernel, rfl, by decide +kernel, by decide +kernel⟩
noncomputable abbrev s_read_bits : Stmt := top 33
theorem sc_read_bits : FnScope ["text"] ["text"] (defScope s_read_bits) := ⟨rfl, rfl, rfl, by decide +kernel, rfl, by decide +kernel, by decide +kernel⟩
noncomputable abbrev s_read_word : Stmt := top 34
theorem sc_read_word : FnScope ["text"] ["text"] (defScope s_read_word) := ⟨rfl, rfl, rfl, by decide +kernel, rfl, by decide +kernel, by decide +kernel⟩
noncomputable abbrev s_has_scheme_form : Stmt := top 35
theorem sc_has_scheme_form : FnScope ["words"] ["words"] (defScope s_has_scheme_form) := ⟨rfl, rfl, rfl, by decide +kernel, rfl, by decide +kernel, by decide +kernel⟩
noncomputable abbrev s_read_scheme : Stmt := top 36
theorem sc_read_scheme : FnScope ["text", "words", "split_at", "taps", "rows", "reach", "scheme"] ["text"] (defScope s_read_scheme) := ⟨rfl, rfl, rfl, by decide +kernel, rfl, by decide +kernel, by decide +kernel⟩
noncomputable abbrev s_read_sign : Stmt := top 37
theorem sc_read_sign : FnScope ["word", "parts"] ["word"] (defScope s_read_sign) := ⟨rfl, rfl, rfl, by decide +kernel, rfl, by decide +kernel, by decide +kernel⟩
noncomputable abbrev s_read_heard : Stmt := top 38
theorem sc_read_heard : FnScope ["text"] ["text"] (defScope s_read_heard) := ⟨rfl, rfl, rfl, by decide +kernel, rfl, by decide +kernel, by decide +kernel⟩
noncomputable abbrev s_read_places : Stmt := top 39
theorem sc_read_places : FnScope ["text", "places"] ["text"] (defScope s_read_places) := ⟨rfl, rfl, rfl, by decide +kernel, rfl, by decide +kernel, by decide +kernel⟩
noncomputable abbrev s__law_next : Stmt := top 41
theorem sc__law_next : FnScope ["_law_state", "_law_many"] ["_law_state", "_law_many"] (defScope s__law_next) := ⟨rfl, rfl, rfl, by decide +kernel, rfl, by decide +kernel, by decide +kernel⟩
noncomputable abbrev s__law_seed : Stmt := top 42
theorem sc__law_seed : FnScope ["_law_script", "_law_seed_here", "_law_cell"] ["_law_script"] (defScope s__law_seed) := ⟨rfl, rfl, rfl, by decide +kernel, rfl, by decide +kernel, by decide +kernel⟩
noncomputable abbrev s__law_scheme : Stmt := top 43
theorem sc__law_scheme : FnScope ["_law_state", "_law_reach", "_law_taps", "_law_many", "_law_rows", "_law_k", "_law_full"] ["_law_state"] (defScope s__law_scheme) := ⟨rfl, rfl, rfl, by decide +kernel, rfl, by decide +kernel, by decide +kernel⟩
noncomputable abbrev s__law_number : Stmt := top 44
theorem sc__law_number : FnScope ["_law_state", "_law_number_here", "_law_k"] ["_law_state"] (defScope s__law_number) := ⟨rfl, rfl, rfl, by decide +kernel, rfl, by decide +kernel, by decide +kernel⟩
noncomputable abbrev s__law_heard : Stmt := top 45
theorem sc__law_heard : FnScope ["_law_script", "_law_state", "_law_heard_here", "_law_cell", "_law_drawn", "_law_way", "_law_zero"] ["_law_script", "_law_state"] (defScope s__law_heard) := ⟨rfl, rfl, rfl, by decide +kernel, rfl, by decide +kernel, by decide +kernel⟩
noncomputable abbrev s__law_places : Stmt := top 46
theorem sc__law_places : FnScope ["_law_script", "_law_state", "_law_places_here", "_law_last", "_law_cell", "_law_drawn", "_law_gap"] ["_law_script", "_law_state"] (defScope s__law_places) := ⟨rfl, rfl, rfl, by decide +kernel, rfl, by decide +kernel, by decide +kernel⟩
noncomputable abbrev s__law_pieces : Stmt := top 47
theorem sc__law_pieces : FnScope ["_law_text", "_law_sign", "_law_due"] ["_law_text", "_law_sign", "_law_due"] (defScope s__law_pieces) := ⟨rfl, rfl, rfl, by decide +kernel, rfl, by decide +kernel, by decide +kernel⟩
noncomputable abbrev s__law_heard_piece : Stmt := top 48
theorem sc__law_heard_piece : FnScope ["_law_told"] ["_law_told"] (defScope s__law_heard_piece) := ⟨rfl, rfl, rfl, by decide +kernel, rfl, by decide +kernel, by decide +kernel⟩
noncomputable abbrev s_law : Stmt := top 49
theorem sc_law : FnScope ["_law_script", "_law_state", "_law_scheme_here", "_law_due", "_law_row", "_law_text", "_law_word", "_law_heard_here", "_law_handed", "_law_places_here"] ["_law_script"] (defScope s_law) := ⟨rfl, rfl, rfl, by decide +kernel, rfl, by decide +kernel, by decide +kernel⟩
set_option genInjectivity false in
structure Ad where
  f_shown_bits : Addr
  fd_shown_bits : FuncData
  f_shown_word : Addr
  fd_shown_word : FuncData
  f_shown_scheme : Addr
  fd_shown_scheme : FuncData
  f_shown_sign : Addr
  fd_shown_sign : FuncData
  f_shown_heard : Addr
  fd_shown_heard : FuncData
  f_shown_places : Addr
  fd_shown_places : FuncData
  f_is_whole : Addr
  fd_is_whole : FuncData
  f_plain_parts : Addr
  fd_plain_parts : FuncData
  f_plain_number : Addr
  fd_plain_number : FuncData
  f_plain_text : Addr
  fd_plain_text : FuncData
  f_all_below : Addr
  fd_all_below : FuncData
  f_is_row : Addr
  fd_is_row : FuncData
  f_rooms_at : Addr
  fd_rooms_at : FuncData
  f_is_scheme : Addr
  fd_is_scheme : FuncData
  f_check_text : Addr
  fd_check_text : FuncData
  f_is_made_of : Addr
  fd_is_made_of : FuncData
  f_read_figures : Addr
  fd_read_figures : FuncData
  f_read_small : Addr
  fd_read_small : FuncData
  f_read_number : Addr
  fd_read_number : FuncData
  f_read_bits : Addr
  fd_read_bits : FuncData
  f_read_word : Addr
  fd_read_word : FuncData
  f_has_scheme_form : Addr
  fd_has_scheme_form : FuncData
  f_read_scheme : Addr
  fd_read_scheme : FuncData
  f_read_sign : Addr
  fd_read_sign : FuncData
  f_read_heard : Addr
  fd_read_heard : FuncData
  f_read_places : Addr
  fd_read_places : FuncData
  f__law_next : Addr
  fd__law_next : FuncData
  f__law_seed : Addr
  fd__law_seed : FuncData
  f__law_scheme : Addr
  fd__law_scheme : FuncData
  f__law_number : Addr
  fd__law_number : FuncData
  f__law_heard : Addr
  fd__law_heard : FuncData
  f__law_places : Addr
  fd__law_places : FuncData
  f__law_pieces : Addr
  fd__law_pieces : FuncData
  f__law_heard_piece : Addr
  fd__law_heard_piece : FuncData
  f_law : Addr
  fd_law : FuncData
  k_MOST_REACH : Tok
  k_MOST_ROWS : Tok
  k_MOST_TAPS : Tok
  k_MOST_SMALL_FIGURES : Tok
  k_MOST_FIGURES : Tok
  k_FIGURES : Tok
  t_ENDINGS : Addr
structure Txt (K : PySem.W.Frag) (mg : Str → Option Value) (a : Ad) : Prop where
  mg_MOST_REACH : mg "MOST_REACH" = some (.int (4) a.k_MOST_REACH)
  mg_MOST_ROWS : mg "MOST_ROWS" = some (.int (6) a.k_MOST_ROWS)
  mg_MOST_TAPS : mg "MOST_TAPS" = some (.int (4) a.k_MOST_TAPS)
  mg_MOST_SMALL_FIGURES : mg "MOST_SMALL_FIGURES" = some (.int (2) a.k_MOST_SMALL_FIGURES)
  mg_MOST_FIGURES : mg "MOST_FIGURES" = some (.int (60) a.k_MOST_FIGURES)
  mg_FIGURES : mg "FIGURES" = some (.str "0123456789" a.k_FIGURES)
  mg_ENDINGS : mg "ENDINGS" = some (.ref a.t_ENDINGS)
  tq_ENDINGS : ∀ H : Hp, SqT K H a.t_ENDINGS [.str "open", .str "ended", .str "ring"]
  F_shown_bits : Fun K "shown_bits" "shown_bits" s_shown_bits a.f_shown_bits a.fd_shown_bits
  B_shown_bits : Binds K a.fd_shown_bits ["bits"] []
  mg_shown_bits : mg "shown_bits" = some (.ref a.f_shown_bits)
  kp_shown_bits : PySem.W.keepIn K (.ref a.f_shown_bits) = true
  F_shown_word : Fun K "shown_word" "shown_word" s_shown_word a.f_shown_word a.fd_shown_word
  B_shown_word : Binds K a.fd_shown_word ["word"] []
  mg_shown_word : mg "shown_word" = some (.ref a.f_shown_word)
  kp_shown_word : PySem.W.keepIn K (.ref a.f_shown_word) = true
  F_shown_scheme : Fun K "shown_scheme" "shown_scheme" s_shown_scheme a.f_shown_scheme a.fd_shown_scheme
  B_shown_scheme : Binds K a.fd_shown_scheme ["scheme"] []
  mg_shown_scheme : mg "shown_scheme" = some (.ref a.f_shown_scheme)
  kp_shown_scheme : PySem.W.keepIn K (.ref a.f_shown_scheme) = true
  F_shown_sign : Fun K "shown_sign" "shown_sign" s_shown_sign a.f_shown_sign a.fd_shown_sign
  B_shown_sign : Binds K a.fd_shown_sign ["told"] []
  mg_shown_sign : mg "shown_sign" = some (.ref a.f_shown_sign)
  kp_shown_sign : PySem.W.keepIn K (.ref a.f_shown_sign) = true
  F_shown_heard : Fun K "shown_heard" "shown_heard" s_shown_heard a.f_shown_heard a.fd_shown_heard
  B_shown_heard : Binds K a.fd_shown_heard ["heard"] []
  mg_shown_heard : mg "shown_heard" = some (.ref a.f_shown_heard)
  kp_shown_heard : PySem.W.keepIn K (.ref a.f_shown_heard) = true
  F_shown_places : Fun K "shown_places" "shown_places" s_shown_places a.f_shown_places a.fd_shown_places
  B_shown_places : Binds K a.fd_shown_places ["places"] []
  mg_shown_places : mg "shown_places" = some (.ref a.f_shown_places)
  kp_shown_places : PySem.W.keepIn K (.ref a.f_shown_places) = true
  F_is_whole : Fun K "is_whole" "is_whole" s_is_whole a.f_is_whole a.fd_is_whole
  B_is_whole : Binds K a.fd_is_whole ["found"] []
  mg_is_whole : mg "is_whole" = some (.ref a.f_is_whole)
  kp_is_whole : PySem.W.keepIn K (.ref a.f_is_whole) = true
  F_plain_parts : Fun K "plain_parts" "plain_parts" s_plain_parts a.f_plain_parts a.fd_plain_parts
  B_plain_parts : Binds K a.fd_plain_parts ["found"] []
  mg_plain_parts : mg "plain_parts" = some (.ref a.f_plain_parts)
  kp_plain_parts : PySem.W.keepIn K (.ref a.f_plain_parts) = true
  F_plain_number : Fun K "plain_number" "plain_number" s_plain_number a.f_plain_number a.fd_plain_number
  B_plain_number : Binds K a.fd_plain_number ["found", "end"] []
  mg_plain_number : mg "plain_number" = some (.ref a.f_plain_number)
  kp_plain_number : PySem.W.keepIn K (.ref a.f_plain_number) = true
  F_plain_text : Fun K "plain_text" "plain_text" s_plain_text a.f_plain_text a.fd_plain_text
  B_plain_text : Binds K a.fd_plain_text ["found"] []
  mg_plain_text : mg "plain_text" = some (.ref a.f_plain_text)
  kp_plain_text : PySem.W.keepIn K (.ref a.f_plain_text) = true
  F_all_below : Fun K "all_below" "all_below" s_all_below a.f_all_below a.fd_all_below
  B_all_below : Binds K a.fd_all_below ["parts", "end"] []
  mg_all_below : mg "all_below" = some (.ref a.f_all_below)
  kp_all_below : PySem.W.keepIn K (.ref a.f_all_below) = true
  F_is_row : Fun K "is_row" "is_row" s_is_row a.f_is_row a.fd_is_row
  B_is_row : Binds K a.fd_is_row ["found", "size"] []
  mg_is_row : mg "is_row" = some (.ref a.f_is_row)
  kp_is_row : PySem.W.keepIn K (.ref a.f_is_row) = true
  F_rooms_at : Fun K "rooms_at" "rooms_at" s_rooms_at a.f_rooms_at a.fd_rooms_at
  B_rooms_at : Binds K a.fd_rooms_at ["reach"] []
  mg_rooms_at : mg "rooms_at" = some (.ref a.f_rooms_at)
  kp_rooms_at : PySem.W.keepIn K (.ref a.f_rooms_at) = true
  F_is_scheme : Fun K "is_scheme" "is_scheme" s_is_scheme a.f_is_scheme a.fd_is_scheme
  B_is_scheme : Binds K a.fd_is_scheme ["found"] []
  mg_is_scheme : mg "is_scheme" = some (.ref a.f_is_scheme)
  kp_is_scheme : PySem.W.keepIn K (.ref a.f_is_scheme) = true
  F_check_text : Fun K "check_text" "check_text" s_check_text a.f_check_text a.fd_check_text
  B_check_text : Binds K a.fd_check_text ["found"] []
  mg_check_text : mg "check_text" = some (.ref a.f_check_text)
  kp_check_text : PySem.W.keepIn K (.ref a.f_check_text) = true
  F_is_made_of : Fun K "is_made_of" "is_made_of" s_is_made_of a.f_is_made_of a.fd_is_made_of
  B_is_made_of : Binds K a.fd_is_made_of ["text", "signs"] []
  mg_is_made_of : mg "is_made_of" = some (.ref a.f_is_made_of)
  kp_is_made_of : PySem.W.keepIn K (.ref a.f_is_made_of) = true
  F_read_figures : Fun K "read_figures" "read_figures" s_read_figures a.f_read_figures a.fd_read_figures
  B_read_figures : Binds K a.fd_read_figures ["text", "most"] []
  mg_read_figures : mg "read_figures" = some (.ref a.f_read_figures)
  kp_read_figures : PySem.W.keepIn K (.ref a.f_read_figures) = true
  F_read_small : Fun K "read_small" "read_small" s_read_small a.f_read_small a.fd_read_small
  B_read_small : Binds K a.fd_read_small ["text"] []
  mg_read_small : mg "read_small" = some (.ref a.f_read_small)
  kp_read_small : PySem.W.keepIn K (.ref a.f_read_small) = true
  F_read_number : Fun K "read_number" "read_number" s_read_number a.f_read_number a.fd_read_number
  B_read_number : Binds K a.fd_read_number ["text"] []
  mg_read_number : mg "read_number" = some (.ref a.f_read_number)
  kp_read_number : PySem.W.keepIn K (.ref a.f_read_number) = true
  F_read_bits : Fun K "read_bits" "read_bits" s_read_bits a.f_read_bits a.fd_read_bits
  B_read_bits : Binds K a.fd_read_bits ["text"] []
  mg_read_bits : mg "read_bits" = some (.ref a.f_read_bits)
  kp_read_bits : PySem.W.keepIn K (.ref a.f_read_bits) = true
  F_read_word : Fun K "read_word" "read_word" s_read_word a.f_read_word a.fd_read_word
  B_read_word : Binds K a.fd_read_word ["text"] []
  mg_read_word : mg "read_word" = some (.ref a.f_read_word)
  kp_read_word : PySem.W.keepIn K (.ref a.f_read_word) = true
  F_has_scheme_form : Fun K "has_scheme_form" "has_scheme_form" s_has_scheme_form a.f_has_scheme_form a.fd_has_scheme_form
  B_has_scheme_form : Binds K a.fd_has_scheme_form ["words"] []
  mg_has_scheme_form : mg "has_scheme_form" = some (.ref a.f_has_scheme_form)
  kp_has_scheme_form : PySem.W.keepIn K (.ref a.f_has_scheme_form) = true
  F_read_scheme : Fun K "read_scheme" "read_scheme" s_read_scheme a.f_read_scheme a.fd_read_scheme
  B_read_scheme : Binds K a.fd_read_scheme ["text"] []
  mg_read_scheme : mg "read_scheme" = some (.ref a.f_read_scheme)
  kp_read_scheme : PySem.W.keepIn K (.ref a.f_read_scheme) = true
  F_read_sign : Fun K "read_sign" "read_sign" s_read_sign a.f_read_sign a.fd_read_sign
  B_read_sign : Binds K a.fd_read_sign ["word"] []
  mg_read_sign : mg "read_sign" = some (.ref a.f_read_sign)
  kp_read_sign : PySem.W.keepIn K (.ref a.f_read_sign) = true
  F_read_heard : Fun K "read_heard" "read_heard" s_read_heard a.f_read_heard a.fd_read_heard
  B_read_heard : Binds K a.fd_read_heard ["text"] []
  mg_read_heard : mg "read_heard" = some (.ref a.f_read_heard)
  kp_read_heard : PySem.W.keepIn K (.ref a.f_read_heard) = true
  F_read_places : Fun K "read_places" "read_places" s_read_places a.f_read_places a.fd_read_places
  B_read_places : Binds K a.fd_read_places ["text"] []
  mg_read_places : mg "read_places" = some (.ref a.f_read_places)
  kp_read_places : PySem.W.keepIn K (.ref a.f_read_places) = true
  F__law_next : Fun K "_law_next" "_law_next" s__law_next a.f__law_next a.fd__law_next
  B__law_next : Binds K a.fd__law_next ["_law_state", "_law_many"] []
  mg__law_next : mg "_law_next" = some (.ref a.f__law_next)
  kp__law_next : PySem.W.keepIn K (.ref a.f__law_next) = true
  F__law_seed : Fun K "_law_seed" "_law_seed" s__law_seed a.f__law_seed a.fd__law_seed
  B__law_seed : Binds K a.fd__law_seed ["_law_script"] []
  mg__law_seed : mg "_law_seed" = some (.ref a.f__law_seed)
  kp__law_seed : PySem.W.keepIn K (.ref a.f__law_seed) = true
  F__law_scheme : Fun K "_law_scheme" "_law_scheme" s__law_scheme a.f__law_scheme a.fd__law_scheme
  B__law_scheme : Binds K a.fd__law_scheme ["_law_state"] []
  mg__law_scheme : mg "_law_scheme" = some (.ref a.f__law_scheme)
  kp__law_scheme : PySem.W.keepIn K (.ref a.f__law_scheme) = true
  F__law_number : Fun K "_law_number" "_law_number" s__law_number a.f__law_number a.fd__law_number
  B__law_number : Binds K a.fd__law_number ["_law_state"] []
  mg__law_number : mg "_law_number" = some (.ref a.f__law_number)
  kp__law_number : PySem.W.keepIn K (.ref a.f__law_number) = true
  F__law_heard : Fun K "_law_heard" "_law_heard" s__law_heard a.f__law_heard a.fd__law_heard
  B__law_heard : Binds K a.fd__law_heard ["_law_script", "_law_state"] []
  mg__law_heard : mg "_law_heard" = some (.ref a.f__law_heard)
  kp__law_heard : PySem.W.keepIn K (.ref a.f__law_heard) = true
  F__law_places : Fun K "_law_places" "_law_places" s__law_places a.f__law_places a.fd__law_places
  B__law_places : Binds K a.fd__law_places ["_law_script", "_law_state"] []
  mg__law_places : mg "_law_places" = some (.ref a.f__law_places)
  kp__law_places : PySem.W.keepIn K (.ref a.f__law_places) = true
  F__law_pieces : Fun K "_law_pieces" "_law_pieces" s__law_pieces a.f__law_pieces a.fd__law_pieces
  B__law_pieces : Binds K a.fd__law_pieces ["_law_text", "_law_sign", "_law_due"] []
  mg__law_pieces : mg "_law_pieces" = some (.ref a.f__law_pieces)
  kp__law_pieces : PySem.W.keepIn K (.ref a.f__law_pieces) = true
  F__law_heard_piece : Fun K "_law_heard_piece" "_law_heard_piece" s__law_heard_piece a.f__law_heard_piece a.fd__law_heard_piece
  B__law_heard_piece : Binds K a.fd__law_heard_piece ["_law_told"] []
  mg__law_heard_piece : mg "_law_heard_piece" = some (.ref a.f__law_heard_piece)
  kp__law_heard_piece : PySem.W.keepIn K (.ref a.f__law_heard_piece) = true
  F_law : Fun K "law" "law" s_law a.f_law a.fd_law
  B_law : Binds K a.fd_law ["_law_script"] []
  mg_law : mg "law" = some (.ref a.f_law)
  kp_law : PySem.W.keepIn K (.ref a.f_law) = true
  z_all : mg "all" = none
  z_any : mg "any" = none
  z_int : mg "int" = none
  z_isinstance : mg "isinstance" = none
  z_len : mg "len" = none
  z_list : mg "list" = none
  z_range : mg "range" = none
  z_str : mg "str" = none
  z_tuple : mg "tuple" = none
  z_zip : mg "zip" = none
  kit_ty_NoneType_ty_int : PySem.W.kitOne K (.type "NoneType") (.type "int") = some false
  kit_ty_bool_ty_int : PySem.W.kitOne K (.type "bool") (.type "int") = some true
  kit_ty_int_ty_int : PySem.W.kitOne K (.type "int") (.type "int") = some true
  kit_ty_str_ty_int : PySem.W.kitOne K (.type "str") (.type "int") = some false
  kit_ty_list_ty_int : PySem.W.kitOne K (.type "list") (.type "int") = some false
  kit_ty_tuple_ty_int : PySem.W.kitOne K (.type "tuple") (.type "int") = some false
  kit_ty_dict_ty_int : PySem.W.kitOne K (.type "dict") (.type "int") = some false
  kit_ty_NoneType_ty_str : PySem.W.kitOne K (.type "NoneType") (.type "str") = some false
  kit_ty_bool_ty_str : PySem.W.kitOne K (.type "bool") (.type "str") = some false
  kit_ty_int_ty_str : PySem.W.kitOne K (.type "int") (.type "str") = some false
  kit_ty_str_ty_str : PySem.W.kitOne K (.type "str") (.type "str") = some true
  kit_ty_list_ty_str : PySem.W.kitOne K (.type "list") (.type "str") = some false
  kit_ty_tuple_ty_str : PySem.W.kitOne K (.type "tuple") (.type "str") = some false
  kit_ty_dict_ty_str : PySem.W.kitOne K (.type "dict") (.type "str") = some false
  kit_ty_NoneType_ty_tuple : PySem.W.kitOne K (.type "NoneType") (.type "tuple") = some false
  kit_ty_bool_ty_tuple : PySem.W.kitOne K (.type "bool") (.type "tuple") = some false
  kit_ty_int_ty_tuple : PySem.W.kitOne K (.type "int") (.type "tuple") = some false
  kit_ty_str_ty_tuple : PySem.W.kitOne K (.type "str") (.type "tuple") = some false
  kit_ty_list_ty_tuple : PySem.W.kitOne K (.type "list") (.type "tuple") = some false
  kit_ty_tuple_ty_tuple : PySem.W.kitOne K (.type "tuple") (.type "tuple") = some true
  kit_ty_dict_ty_tuple : PySem.W.kitOne K (.type "dict") (.type "tuple") = some false
theorem isi_int {K : PySem.W.Frag} {mg : Str → Option Value} {a : Ad} (T : Txt K mg a) : KitB K "int" (isTab "int") := kitB_mk T.kit_ty_NoneType_ty_int T.kit_ty_bool_ty_int T.kit_ty_int_ty_int T.kit_ty_str_ty_int T.kit_ty_list_ty_int T.kit_ty_tuple_ty_int T.kit_ty_dict_ty_int
theorem isi_str {K : PySem.W.Frag} {mg : Str → Option Value} {a : Ad} (T : Txt K mg a) : KitB K "str" (isTab "str") := kitB_mk T.kit_ty_NoneType_ty_str T.kit_ty_bool_ty_str T.kit_ty_int_ty_str T.kit_ty_str_ty_str T.kit_ty_list_ty_str T.kit_ty_tuple_ty_str T.kit_ty_dict_ty_str
theorem isi_tuple {K : PySem.W.Frag} {mg : Str → Option Value} {a : Ad} (T : Txt K mg a) : KitB K "tuple" (isTab "tuple") := kitB_mk T.kit_ty_NoneType_ty_tuple T.kit_ty_bool_ty_tuple T.kit_ty_int_ty_tuple T.kit_ty_str_ty_tuple T.kit_ty_list_ty_tuple T.kit_ty_tuple_ty_tuple T.kit_ty_dict_ty_tuple
section
variable {P : Program} {w : World} {K : PySem.W.Frag} {mg : Str → Option Value} {base : Heap} {a : Ad}
noncomputable def b_shown_bits : Rho → Option Out :=
  (sRet (mOp2 dJoin (mRet (.str "")) (mOf (mComp 1 [] none (mSeq (mVar 0)) (gSet 0)
      (mRet true) (mOp1 dStr (mVar 0))))))
noncomputable def f_shown_bits : List D → Option D := runP false 1 1 b_shown_bits
theorem n_shown_bits : runsN 1 f_shown_bits := runP_n
theorem ok_shown_bits (T : Txt K mg a) : FnOk P w K mg base CX0 1 a.f_shown_bits a.fd_shown_bits ["bits"] (spP K false 1 f_shown_bits) := by
  refine T.F_shown_bits.ok sc_shown_bits (fun vs H Q E h => ?_) (fun cdv A outer s H vs Q E hr h => ?_)
  · exact h.1
  · refine ⟨_, (pss_one (ps_ret (pe_bm PySem.F.plainAttrs_str PySem.F.slot_str_join PySem.F.type_str_join (mt_joinS (K := K) rfl) pe_str (pa_cons (pe_comp (sc := defScope s_shown_bits) (N0 := ["bits"]) rfl rfl rfl (show compOk _ _ ["bit"] 1 [] _ = true by decide +kernel) (pi_seqK (K := K) rfl (pv 0)) (fun _ _ _ _ _ => (pg_name (i := 0) (show List.Nodup (["bit"] : List Str) from (by decide +kernel)) rfl (Or.inl rfl))) (own_name (by decide)) (fun _ _ _ _ _ => pif_nil) (fun _ _ _ _ _ => (pe_callTy call_strI (by rfl) T.z_str (by rfl) (pa_cons (pv 0) pa_nil)))) pa_nil)))), ?_⟩
    exact spP_body (O' := []) (Nms := ["bits"]) (f := b_shown_bits) (by
      unfold b_shown_bits
      exact (ms_ret rfl (me_join me_str (me_new (mn_comp (bw := none) (mi_seq (me_var (i := 0) (by decide))) (mg_name (i := 0) (by decide)) mt_yes (me_call1 cs_str mb_var)))) rfl)) h
noncomputable def b_shown_word : Rho → Option Out :=
  (sRet (mIf (mTest (mOp2 dGt (mOp1 dLen (mVar 0)) (mRet (.int 0)))) (mCall f_shown_bits (mCons (mVar 0) mNil)) (mRet (.str "-"))))
noncomputable def f_shown_word : List D → Option D := runP false 1 1 b_shown_word
theorem n_shown_word : runsN 1 f_shown_word := runP_n
theorem ok_shown_word (T : Txt K mg a) : FnOk P w K mg base CX0 2 a.f_shown_word a.fd_shown_word ["word"] (spP K false 1 f_shown_word) := by
  have G_shown_bits := ok_shown_bits (P := P) (w := w) (base := base) T
  have B_shown_bits := T.B_shown_bits
  refine T.F_shown_word.ok sc_shown_word (fun vs H Q E h => ?_) (fun cdv A outer s H vs Q E hr h => ?_)
  · exact h.1
  · refine ⟨_, (pss_one (ps_ret (pe_ifExp (pt_cmpR op_gt (pe_callB (call_lenK (K := K) rfl) (by rfl) T.z_len (by rfl) (pa_cons (pv 0) pa_nil)) pe_int (nomark _)) (pe_call G_shown_bits (hr.mono (by decide)) (by rfl) T.mg_shown_bits T.kp_shown_bits B_shown_bits .nil pass0 (pa_cons (pv 0) pa_nil)) pe_str))), ?_⟩
    exact spP_body (O' := []) (Nms := ["word"]) (f := b_shown_word) (by
      unfold b_shown_word
      exact (ms_ret rfl (me_if (mt_test (me_opB os_b0 (me_call1 cs_len mb_var) me_int.mb)) (me_callP n_shown_bits (ma_cons (me_var (i := 0) (by decide)) ma_nil)) me_str) rfl)) h
noncomputable def b_shown_scheme : Rho → Option Out :=
  (sSeq (sSet 1 (mOp2 dIx (mVar 0) (mRet (.int 0))))
  (sSeq (sSet 2 (mOp2 dJoin (mRet (.str " ")) (mOf (mComp 1 [] none (mSeq (mOp2 dIx (mVar 0) (mRet (.int 1)))) (gSet 0)
      (mRet true) (mOp1 dStr (mVar 0))))))
  (sSeq (sSet 3 (mOp2 dJoin (mRet (.str " ")) (mOf (mComp 1 [] none (mSeq (mOp2 dIx (mVar 0) (mRet (.int 2)))) (gSet 0)
      (mRet true) (mCall f_shown_bits (mCons (mVar 0) mNil))))))
  (sSeq (sSet 4 (mOp2 dIx (mVar 0) (mRet (.int 3))))
  (sRet (mJoinF (fCons (mRet (.str "reach ")) (fCons (mOp1 dFmt (mVar 1)) (fCons (mRet (.str " taps ")) (fCons (mOp1 dFmt (mVar 2)) (fCons (mRet (.str " rows ")) (fCons (mOp1 dFmt (mVar 3)) (fCons (mRet (.str " ")) (fCons (mOp1 dFmt (mVar 4)) fNil))))))))))))))
noncomputable def f_shown_scheme : List D → Option D := runP false 1 5 b_shown_scheme
theorem n_shown_scheme : runsN 1 f_shown_scheme := runP_n
theorem ok_shown_scheme (T : Txt K mg a) : FnOk P w K mg base CX0 2 a.f_shown_scheme a.fd_shown_scheme ["scheme"] (spP K false 1 f_shown_scheme) := by
  have G_shown_bits := ok_shown_bits (P := P) (w := w) (base := base) T
  have B_shown_bits := T.B_shown_bits
  refine T.F_shown_scheme.ok sc_shown_scheme (fun vs H Q E h => ?_) (fun cdv A outer s H vs Q E hr h => ?_)
  · exact h.1
  · refine ⟨_, (pss_cons (ps_set (i := 1) sc_shown_scheme.nd rfl (by first | exact Or.inl rfl | exact Or.inr rfl) (pe_ix (ix_seqK (K := K) rfl) (pv 0) pe_int (fun _ _ => rfl)))
      (pss_cons (ps_set (i := 2) sc_shown_scheme.nd rfl (by first | exact Or.inl rfl | exact Or.inr rfl) (pe_bm PySem.F.plainAttrs_str PySem.F.slot_str_join PySem.F.type_str_join (mt_joinS (K := K) rfl) pe_str (pa_cons (pe_comp (sc := defScope s_shown_scheme) (N0 := ["scheme", "reach", "taps", "rows", "ending"]) rfl rfl rfl (show compOk _ _ ["tap"] 1 [] _ = true by decide +kernel) (pi_seqK (K := K) rfl (pe_ix (ix_seqK (K := K) rfl) (pv 0) pe_int (fun _ _ => rfl))) (fun _ _ _ _ _ => (pg_name (i := 0) (show List.Nodup (["tap"] : List Str) from (by decide +kernel)) rfl (Or.inl rfl))) (own_name (by decide)) (fun _ _ _ _ _ => pif_nil) (fun _ _ _ _ _ => (pe_callTy call_strI (by rfl) T.z_str (by rfl) (pa_cons (pv 0) pa_nil)))) pa_nil)))
      (pss_cons (ps_set (i := 3) sc_shown_scheme.nd rfl (by first | exact Or.inl rfl | exact Or.inr rfl) (pe_bm PySem.F.plainAttrs_str PySem.F.slot_str_join PySem.F.type_str_join (mt_joinS (K := K) rfl) pe_str (pa_cons (pe_comp (sc := defScope s_shown_scheme) (N0 := ["scheme", "reach", "taps", "rows", "ending"]) rfl rfl rfl (show compOk _ _ ["row"] 1 [] _ = true by decide +kernel) (pi_seqK (K := K) rfl (pe_ix (ix_seqK (K := K) rfl) (pv 0) pe_int (fun _ _ => rfl))) (fun _ _ _ _ _ => (pg_name (i := 0) (show List.Nodup (["row"] : List Str) from (by decide +kernel)) rfl (Or.inl rfl))) (own_name (by decide)) (fun _ _ _ _ _ => pif_nil) (fun _ _ _ _ _ => (pe_call G_shown_bits (hr.mono (by decide)) (by rfl) T.mg_shown_bits T.kp_shown_bits B_shown_bits .nil pass0 (pa_cons (pv 0) pa_nil)))) pa_nil)))
      (pss_cons (ps_set (i := 4) sc_shown_scheme.nd rfl (by first | exact Or.inl rfl | exact Or.inr rfl) (pe_ix (ix_seqK (K := K) rfl) (pv 0) pe_int (fun _ _ => rfl)))
      (pss_one (ps_ret (pe_join (pj_cons pe_str (pj_cons (pe_fmt (pv 1)) (pj_cons pe_str (pj_cons (pe_fmt (pv 2)) (pj_cons pe_str (pj_cons (pe_fmt (pv 3)) (pj_cons pe_str (pj_cons (pe_fmt (pv 4)) pj_nil))))))))))))))), ?_⟩
    exact spP_body (O' := []) (Nms := ["scheme", "reach", "taps", "rows", "ending"]) (f := b_shown_scheme) (by
      unfold b_shown_scheme
      exact (ms_seq (O1 := []) (ms_set (me_op op_ix (me_var (i := 0) (by decide)) me_int) rfl (by decide))
      (ms_seq (O1 := []) (ms_set (me_join me_str (me_new (mn_comp (bw := none) (mi_seq (me_op op_ix (me_var (i := 0) (by decide)) me_int)) (mg_name (i := 0) (by decide)) mt_yes (me_call1 cs_str mb_var)))) rfl (by decide))
      (ms_seq (O1 := []) (ms_set (me_join me_str (me_new (mn_comp (bw := none) (mi_seq (me_op op_ix (me_var (i := 0) (by decide)) me_int)) (mg_name (i := 0) (by decide)) mt_yes (me_callP n_shown_bits (ma_cons (me_var (i := 0) (by decide)) ma_nil))))) rfl (by decide))
      (ms_seq (O1 := []) (ms_set (me_op op_ix (me_var (i := 0) (by decide)) me_int) rfl (by decide))
      (ms_ret rfl (me_joinF (mj_cons me_str (mj_cons (me_fmt (me_var (i := 1) (by decide))) (mj_cons me_str (mj_cons (me_fmt (me_var (i := 2) (by decide))) (mj_cons me_str (mj_cons (me_fmt (me_var (i := 3) (by decide))) (mj_cons me_str (mj_cons (me_fmt (me_var (i := 4) (by decide))) mj_nil))))))))) rfl)))))) h
noncomputable def b_shown_sign : Rho → Option Out :=
  (sSeq (sIf (mTest (mOp2 dEq (mOp2 dIx (mVar 0) (mRet (.int 0))) (mRet (.str "gap"))))
    (sRet (mRet (.str "?")))
    sNil)
  (sRet (mOp2 dJoin (mRet (.str "/")) (mOf (mComp 1 [] none (mSeq (mSl (mVar 0) (mPart (mRet (.int 1))) (mRet none))) (gSet 0)
      (mRet true) (mOp1 dStr (mVar 0)))))))
noncomputable def f_shown_sign : List D → Option D := runP false 1 1 b_shown_sign
theorem n_shown_sign : runsN 1 f_shown_sign := runP_n
theorem ok_shown_sign (T : Txt K mg a) : FnOk P w K mg base CX0 1 a.f_shown_sign a.fd_shown_sign ["told"] (spP K false 1 f_shown_sign) := by
  refine T.F_shown_sign.ok sc_shown_sign (fun vs H Q E h => ?_) (fun cdv A outer s H vs Q E hr h => ?_)
  · exact h.1
  · refine ⟨_, (pss_cons (ps_if (pt_cmpR (op_eqD (K := K) rfl hr.units) (pe_ix (ix_seqK (K := K) rfl) (pv 0) pe_int (fun _ _ => rfl)) pe_str (nomark _)) (pss_one (ps_ret pe_str)) pss_nil)
      (pss_one (ps_ret (pe_bm PySem.F.plainAttrs_str PySem.F.slot_str_join PySem.F.type_str_join (mt_joinS (K := K) rfl) pe_str (pa_cons (pe_comp (sc := defScope s_shown_sign) (N0 := ["told"]) rfl rfl rfl (show compOk _ _ ["number"] 1 [] _ = true by decide +kernel) (pi_seqK (K := K) rfl (pe_slice (sl_seqK (K := K) rfl) (pv 0) (po_some pe_int) po_none)) (fun _ _ _ _ _ => (pg_name (i := 0) (show List.Nodup (["number"] : List Str) from (by decide +kernel)) rfl (Or.inl rfl))) (own_name (by decide)) (fun _ _ _ _ _ => pif_nil) (fun _ _ _ _ _ => (pe_callTy call_strI (by rfl) T.z_str (by rfl) (pa_cons (pv 0) pa_nil)))) pa_nil))))), ?_⟩
    exact spP_body (O' := []) (Nms := ["told"]) (f := b_shown_sign) (by
      unfold b_shown_sign
      exact (ms_seq (O1 := []) (ms_if (mt_test (me_opB os_eq (me_op op_ix (me_var (i := 0) (by decide)) me_int) me_str.mb)) (ms_ret rfl me_str rfl) (ms_nil rfl))
      (ms_ret rfl (me_join me_str (me_new (mn_comp (bw := none) (mi_seq (me_slice (me_var (i := 0) (by decide)) (mo_some me_int) mo_none)) (mg_name (i := 0) (by decide)) mt_yes (me_call1 cs_str mb_var)))) rfl))) h
noncomputable def b_shown_heard : Rho → Option Out :=
  (sRet (mOp2 dJoin (mRet (.str " ")) (mOf (mComp 1 [] none (mSeq (mVar 0)) (gSet 0)
      (mRet true) (mCall f_shown_sign (mCons (mVar 0) mNil))))))
noncomputable def f_shown_heard : List D → Option D := runP false 1 1 b_shown_heard
theorem n_shown_heard : runsN 1 f_shown_heard := runP_n
theorem ok_shown_heard (T : Txt K mg a) : FnOk P w K mg base CX0 2 a.f_shown_heard a.fd_shown_heard ["heard"] (spP K false 1 f_shown_heard) := by
  have G_shown_sign := ok_shown_sign (P := P) (w := w) (base := base) T
  have B_shown_sign := T.B_shown_sign
  refine T.F_shown_heard.ok sc_shown_heard (fun vs H Q E h => ?_) (fun cdv A outer s H vs Q E hr h => ?_)
  · exact h.1
  · refine ⟨_, (pss_one (ps_ret (pe_bm PySem.F.plainAttrs_str PySem.F.slot_str_join PySem.F.type_str_join (mt_joinS (K := K) rfl) pe_str (pa_cons (pe_comp (sc := defScope s_shown_heard) (N0 := ["heard"]) rfl rfl rfl (show compOk _ _ ["told"] 1 [] _ = true by decide +kernel) (pi_seqK (K := K) rfl (pv 0)) (fun _ _ _ _ _ => (pg_name (i := 0) (show List.Nodup (["told"] : List Str) from (by decide +kernel)) rfl (Or.inl rfl))) (own_name (by decide)) (fun _ _ _ _ _ => pif_nil) (fun _ _ _ _ _ => (pe_call G_shown_sign (hr.mono (by decide)) (by rfl) T.mg_shown_sign T.kp_shown_sign B_shown_sign .nil pass0 (pa_cons (pv 0) pa_nil)))) pa_nil)))), ?_⟩
    exact spP_body (O' := []) (Nms := ["heard"]) (f := b_shown_heard) (by
      unfold b_shown_heard
      exact (ms_ret rfl (me_join me_str (me_new (mn_comp (bw := none) (mi_seq (me_var (i := 0) (by decide))) (mg_name (i := 0) (by decide)) mt_yes (me_callP n_shown_sign (ma_cons (me_var (i := 0) (by decide)) ma_nil))))) rfl)) h
noncomputable def b_shown_places : Rho → Option Out :=
  (sRet (mIf (mTest (mOp2 dGt (mOp1 dLen (mVar 0)) (mRet (.int 0)))) (mOp2 dJoin (mRet (.str ",")) (mOf (mComp 1 [] none (mSeq (mVar 0)) (gSet 0)
      (mRet true) (mOp1 dStr (mVar 0))))) (mRet (.str "-"))))
noncomputable def f_shown_places : List D → Option D := runP false 1 1 b_shown_places
theorem n_shown_places : runsN 1 f_shown_places := runP_n
theorem ok_shown_places (T : Txt K mg a) : FnOk P w K mg base CX0 1 a.f_shown_places a.fd_shown_places ["places"] (spP K false 1 f_shown_places) := by
  refine T.F_shown_places.ok sc_shown_places (fun vs H Q E h => ?_) (fun cdv A outer s H vs Q E hr h => ?_)
  · exact h.1
  · refine ⟨_, (pss_one (ps_ret (pe_ifExp (pt_cmpR op_gt (pe_callB (call_lenK (K := K) rfl) (by rfl) T.z_len (by rfl) (pa_cons (pv 0) pa_nil)) pe_int (nomark _)) (pe_bm PySem.F.plainAttrs_str PySem.F.slot_str_join PySem.F.type_str_join (mt_joinS (K := K) rfl) pe_str (pa_cons (pe_comp (sc := defScope s_shown_places) (N0 := ["places"]) rfl rfl rfl (show compOk _ _ ["place"] 1 [] _ = true by decide +kernel) (pi_seqK (K := K) rfl (pv 0)) (fun _ _ _ _ _ => (pg_name (i := 0) (show List.Nodup (["place"] : List Str) from (by decide +kernel)) rfl (Or.inl rfl))) (own_name (by decide)) (fun _ _ _ _ _ => pif_nil) (fun _ _ _ _ _ => (pe_callTy call_strI (by rfl) T.z_str (by rfl) (pa_cons (pv 0) pa_nil)))) pa_nil)) pe_str))), ?_⟩
    exact spP_body (O' := []) (Nms := ["places"]) (f := b_shown_places) (by
      unfold b_shown_places
      exact (ms_ret rfl (me_if (mt_test (me_opB os_b0 (me_call1 cs_len mb_var) me_int.mb)) (me_join me_str (me_new (mn_comp (bw := none) (mi_seq (me_var (i := 0) (by decide))) (mg_name (i := 0) (by decide)) mt_yes (me_call1 cs_str mb_var)))) me_str) rfl)) h
noncomputable def b_is_whole : Rho → Option Out :=
  (sRet (mAndV (mOp1 (dIsi (isTab "int")) (mVar 0)) (mAndV (mOp2 dNotB (mVar 0) (mRet (.bl true))) (mOp2 dNotB (mVar 0) (mRet (.bl false))))))
noncomputable def f_is_whole : List D → Option D := runP false 1 1 b_is_whole
theorem n_is_whole : runsN 1 f_is_whole := runP_n
theorem ok_is_whole (T : Txt K mg a) : FnOk P w K mg base CX0 1 a.f_is_whole a.fd_is_whole ["found"] (spP K false 1 f_is_whole) := by
  refine T.F_is_whole.ok sc_is_whole (fun vs H Q E h => ?_) (fun cdv A outer s H vs Q E hr h => ?_)
  · exact h.1
  · refine ⟨_, (pss_one (ps_ret (pe_and (pe_callB (call_isO (K := K) rfl) (by rfl) T.z_isinstance (by rfl) (pa_cons (pv 0) (pa_cons (pe_bltn (v := .ty "int") (by rfl) T.z_int (by rfl) rfl) pa_nil))) (pe_and (pe_cmpR op_isnotB (pv 0) pe_bl (nomark _)) (pe_one (pe_cmpR op_isnotB (pv 0) pe_bl (nomark _))))))), ?_⟩
    exact spP_body (O' := []) (Nms := ["found"]) (f := b_is_whole) (by
      unfold b_is_whole
      exact (ms_ret rfl (me_and (me_isi (isi_int T) mb_var) (me_and (me_opB os_notB (me_var (i := 0) (by decide)) me_bl.mb) (me_opB os_notB (me_var (i := 0) (by decide)) me_bl.mb))) rfl)) h
noncomputable def b_plain_parts : Rho → Option Out :=
  (sSeq (sIf (mTest (mOp1 (dIsi (isTab "tuple")) (mVar 0)))
    (sRet (mOp2 dAdd (mTup mNil) (mVar 0)))
    sNil)
  (sRet (mTup mNil)))
noncomputable def f_plain_parts : List D → Option D := runP false 1 1 b_plain_parts
theorem n_plain_parts : runsN 1 f_plain_parts := runP_n
theorem ok_plain_parts (T : Txt K mg a) : FnOk P w K mg base CX0 1 a.f_plain_parts a.fd_plain_parts ["found"] (spP K false 1 f_plain_parts) := by
  refine T.F_plain_parts.ok sc_plain_parts (fun vs H Q E h => ?_) (fun cdv A outer s H vs Q E hr h => ?_)
  · exact h.1
  · refine ⟨_, (pss_cons (ps_if (pt_val (pe_callB (call_isO (K := K) rfl) (by rfl) T.z_isinstance (by rfl) (pa_cons (pv 0) (pa_cons (pe_bltn (v := .ty "tuple") (by rfl) T.z_tuple (by rfl) rfl) pa_nil)))) (pss_one (ps_ret (pe_op (op_addG (K := K) rfl) (pe_tup pa_nil) (pv 0)))) pss_nil)
      (pss_one (ps_ret (pe_tup pa_nil)))), ?_⟩
    exact spP_body (O' := []) (Nms := ["found"]) (f := b_plain_parts) (by
      unfold b_plain_parts
      exact (ms_seq (O1 := []) (ms_if (mt_val (me_isi (isi_tuple T) mb_var)) (ms_ret rfl (me_op og_add (me_tup ma_nil) (me_var (i := 0) (by decide))) rfl) (ms_nil rfl))
      (ms_ret rfl (me_tup ma_nil) rfl))) h
noncomputable def b_plain_number : Rho → Option Out :=
  (sSeq (sIf (mTest (mCall f_is_whole (mCons (mVar 0) mNil)))
    (sFor (mRng2 (mCons (mVar 0) (mCons (mVar 1) mNil))) (gSet 2)
    (sRet (mIf (mTest (mOp2 dGe (mVar 2) (mRet (.int 0)))) (mVar 2) (mRet .non))))
    sNil)
  (sRet (mRet .non)))
noncomputable def f_plain_number : List D → Option D := runP false 2 3 b_plain_number
theorem n_plain_number : runsN 2 f_plain_number := runP_n
theorem ok_plain_number (T : Txt K mg a) : FnOk P w K mg base CX0 2 a.f_plain_number a.fd_plain_number ["found", "end"] (spP K false 2 f_plain_number) := by
  have G_is_whole := ok_is_whole (P := P) (w := w) (base := base) T
  have B_is_whole := T.B_is_whole
  refine T.F_plain_number.ok sc_plain_number (fun vs H Q E h => ?_) (fun cdv A outer s H vs Q E hr h => ?_)
  · exact h.1
  · refine ⟨_, (pss_cons (ps_if (pt_val (pe_call G_is_whole (hr.mono (by decide)) (by rfl) T.mg_is_whole T.kp_is_whole B_is_whole .nil pass0 (pa_cons (pv 0) pa_nil))) (pss_one (ps_for PassesOwn.never rfl (pi_range2 (by rfl) T.z_range (pa_cons (pv 0) (pa_cons (pv 1) pa_nil))) (pg_name (i := 2) sc_plain_number.nd rfl (by first | exact Or.inl rfl | exact Or.inr rfl)) (pss_one (ps_ret (pe_ifExp (pt_cmpR op_ge (pv 2) pe_int (nomark _)) (pv 2) pe_non))))) pss_nil)
      (pss_one (ps_ret pe_non))), ?_⟩
    exact spP_body (O' := []) (Nms := ["found", "end", "number"]) (f := b_plain_number) (by
      unfold b_plain_number
      exact (ms_seq (O1 := []) (ms_if (mt_val (me_callP n_is_whole (ma_cons (me_var (i := 0) (by decide)) ma_nil))) (ms_for (O' := []) (mi_range2 (ma_cons (me_var (i := 0) (by decide)) (ma_cons (me_var (i := 1) (by decide)) ma_nil))) rfl (mg_name (i := 2) (by decide))
      (ms_ret rfl (me_if (mt_test (me_opB os_b0 (me_var (i := 2) (by decide)) me_int.mb)) (me_var (i := 2) (by decide)) me_non) rfl)) (ms_nil rfl))
      (ms_ret rfl me_non rfl))) h
noncomputable def b_plain_text : Rho → Option Out :=
  (sRet (mIf (mTest (mOp1 (dIsi (isTab "str")) (mVar 0))) (mOp2 dJoin (mRet (.str "")) (mOf (mLst (mCons (mVar 0) mNil)))) (mRet (.str ""))))
noncomputable def f_plain_text : List D → Option D := runP false 1 1 b_plain_text
theorem n_plain_text : runsN 1 f_plain_text := runP_n
theorem ok_plain_text (T : Txt K mg a) : FnOk P w K mg base CX0 1 a.f_plain_text a.fd_plain_text ["found"] (spP K false 1 f_plain_text) := by
  refine T.F_plain_text.ok sc_plain_text (fun vs H Q E h => ?_) (fun cdv A outer s H vs Q E hr h => ?_)
  · exact h.1
  · refine ⟨_, (pss_one (ps_ret (pe_ifExp (pt_val (pe_callB (call_isO (K := K) rfl) (by rfl) T.z_isinstance (by rfl) (pa_cons (pv 0) (pa_cons (pe_bltn (v := .ty "str") (by rfl) T.z_str (by rfl) rfl) pa_nil)))) (pe_bm PySem.F.plainAttrs_str PySem.F.slot_str_join PySem.F.type_str_join (mt_joinS (K := K) rfl) pe_str (pa_cons (pe_lst (pa_cons (pv 0) pa_nil)) pa_nil)) pe_str))), ?_⟩
    exact spP_body (O' := []) (Nms := ["found"]) (f := b_plain_text) (by
      unfold b_plain_text
      exact (ms_ret rfl (me_if (mt_val (me_isi (isi_str T) mb_var)) (me_join me_str (me_new (mn_lst (ma_cons (me_var (i := 0) (by decide)) ma_nil)))) me_str) rfl)) h
noncomputable def b_all_below : Rho → Option Out :=
  (sRet (mOp1 dAll (mOf (mComp 1 [1] none (mSeq (mVar 0)) (gSet 0)
      (mRet true) (mOp2 dNotN (mCall f_plain_number (mCons (mVar 0) (mCons (mVar 1) mNil))) (mRet .non))))))
noncomputable def f_all_below : List D → Option D := runP false 2 2 b_all_below
theorem n_all_below : runsN 2 f_all_below := runP_n
theorem ok_all_below (T : Txt K mg a) : FnOk P w K mg base CX0 3 a.f_all_below a.fd_all_below ["parts", "end"] (spP K false 2 f_all_below) := by
  have G_plain_number := ok_plain_number (P := P) (w := w) (base := base) T
  have B_plain_number := T.B_plain_number
  refine T.F_all_below.ok sc_all_below (fun vs H Q E h => ?_) (fun cdv A outer s H vs Q E hr h => ?_)
  · exact h.1
  · refine ⟨_, (pss_one (ps_ret (pe_callB (call_all (K := K) rfl rfl) (by rfl) T.z_all (by rfl) (pa_cons (pe_comp (sc := defScope s_all_below) (N0 := ["parts", "end"]) rfl rfl rfl (show compOk _ _ ["part", "end"] 1 [1] _ = true by decide +kernel) (pi_seqK (K := K) rfl (pv 0)) (fun _ _ _ _ _ => (pg_name (i := 0) (show List.Nodup (["part", "end"] : List Str) from (by decide +kernel)) rfl (Or.inl rfl))) (own_name (by decide)) (fun _ _ _ _ _ => pif_nil) (fun _ _ _ _ _ => (pe_cmpR op_notN (pe_call G_plain_number (hr.mono (by decide)) (by rfl) T.mg_plain_number T.kp_plain_number B_plain_number .nil pass0 (pa_cons (pv 0) (pa_cons (pv 1) pa_nil))) pe_non (nomark _)))) pa_nil)))), ?_⟩
    exact spP_body (O' := []) (Nms := ["parts", "end"]) (f := b_all_below) (by
      unfold b_all_below
      exact (ms_ret rfl (me_call1 cs_all (me_new (mn_comp (bw := none) (mi_seq (me_var (i := 0) (by decide))) (mg_name (i := 0) (by decide)) mt_yes (me_opB os_notN (me_callP n_plain_number (ma_cons (me_var (i := 0) (by decide)) (ma_cons (me_var (i := 1) (by decide)) ma_nil))) me_non.mb))).mb) rfl)) h
noncomputable def b_is_row : Rho → Option Out :=
  (sSeq (sSet 2 (mCall f_plain_parts (mCons (mVar 0) mNil)))
  (sRet (mAndV (mOp2 dEq (mOp1 dLen (mVar 2)) (mVar 1)) (mCall f_all_below (mCons (mVar 2) (mCons (mRet (.int 2)) mNil))))))
noncomputable def f_is_row : List D → Option D := runP false 2 3 b_is_row
theorem n_is_row : runsN 2 f_is_row := runP_n
theorem ok_is_row (T : Txt K mg a) : FnOk P w K mg base CX0 4 a.f_is_row a.fd_is_row ["found", "size"] (spP K false 2 f_is_row) := by
  have G_plain_parts := ok_plain_parts (P := P) (w := w) (base := base) T
  have B_plain_parts := T.B_plain_parts
  have G_all_below := ok_all_below (P := P) (w := w) (base := base) T
  have B_all_below := T.B_all_below
  refine T.F_is_row.ok sc_is_row (fun vs H Q E h => ?_) (fun cdv A outer s H vs Q E hr h => ?_)
  · exact h.1
  · refine ⟨_, (pss_cons (ps_set (i := 2) sc_is_row.nd rfl (by first | exact Or.inl rfl | exact Or.inr rfl) (pe_call G_plain_parts (hr.mono (by decide)) (by rfl) T.mg_plain_parts T.kp_plain_parts B_plain_parts .nil pass0 (pa_cons (pv 0) pa_nil)))
      (pss_one (ps_ret (pe_and (pe_cmpR (op_eqD (K := K) rfl hr.units) (pe_callB (call_lenK (K := K) rfl) (by rfl) T.z_len (by rfl) (pa_cons (pv 2) pa_nil)) (pv 1) (nomark _)) (pe_one (pe_call G_all_below (hr.mono (by decide)) (by rfl) T.mg_all_below T.kp_all_below B_all_below .nil pass0 (pa_cons (pv 2) (pa_cons pe_int pa_nil)))))))), ?_⟩
    exact spP_body (O' := []) (Nms := ["found", "size", "bits"]) (f := b_is_row) (by
      unfold b_is_row
      exact (ms_seq (O1 := []) (ms_set (me_callP n_plain_parts (ma_cons (me_var (i := 0) (by decide)) ma_nil)) rfl (by decide))
      (ms_ret rfl (me_and (me_opB os_eq (me_call1 cs_len mb_var) mb_var) (me_callP n_all_below (ma_cons (me_var (i := 2) (by decide)) (ma_cons me_int ma_nil)))) rfl))) h
noncomputable def b_rooms_at : Rho → Option Out :=
  (sRet (mOp2 dShl (mRet (.int 1)) (mVar 0)))
noncomputable def f_rooms_at : List D → Option D := runP false 1 1 b_rooms_at
theorem n_rooms_at : runsN 1 f_rooms_at := runP_n
theorem ok_rooms_at (T : Txt K mg a) : FnOk P w K mg base CX0 1 a.f_rooms_at a.fd_rooms_at ["reach"] (spP K false 1 f_rooms_at) := by
  refine T.F_rooms_at.ok sc_rooms_at (fun vs H Q E h => ?_) (fun cdv A outer s H vs Q E hr h => ?_)
  · exact h.1
  · refine ⟨_, (pss_one (ps_ret (pe_op op_shl pe_int (pv 0)))), ?_⟩
    exact spP_body (O' := []) (Nms := ["reach"]) (f := b_rooms_at) (by
      unfold b_rooms_at
      exact (ms_ret rfl (me_op og_shl me_int (me_var (i := 0) (by decide))) rfl)) h
noncomputable def b_is_scheme : Rho → Option Out :=
  (sSeq (sSet 1 (mCall f_plain_parts (mCons (mVar 0) mNil)))
  (sSeq (sIf (mTest (mOp2 dNe (mOp1 dLen (mVar 1)) (mRet (.int 4))))
    (sRet (mRet (.bl false)))
    sNil)
  (sSeq (sSet 2 (mCall f_plain_number (mCons (mOp2 dIx (mVar 1) (mRet (.int 0))) (mCons (mOp2 dAdd (mRet (.int (4))) (mRet (.int 1))) mNil))))
  (sSeq (sSet 3 (mCall f_plain_parts (mCons (mOp2 dIx (mVar 1) (mRet (.int 1))) mNil)))
  (sSeq (sSet 4 (mCall f_plain_parts (mCons (mOp2 dIx (mVar 1) (mRet (.int 2))) mNil)))
  (sSeq (sIf (mOr (mTest (mOp2 dIsN (mVar 2) (mRet .non))) (mOr (mNot (mTest (mChain dLe dLe (mRet (.int 1)) (mOp1 dLen (mVar 3)) (mRet (.int (4)))))) (mNot (mTest (mChain dLe dLe (mRet (.int 1)) (mOp1 dLen (mVar 4)) (mRet (.int (6))))))))
    (sRet (mRet (.bl false)))
    sNil)
  (sRet (mAndV (mCall f_all_below (mCons (mVar 3) (mCons (mOp2 dMulG (mRet (.int 2)) (mCall f_rooms_at (mCons (mVar 2) mNil))) mNil))) (mAndV (mOp1 dAll (mOf (mComp 1 [3] none (mSeq (mVar 4)) (gSet 0)
      (mRet true) (mCall f_is_row (mCons (mVar 0) (mCons (mOp1 dLen (mVar 1)) mNil)))))) (mOp1 (fun d => if flatD d = true then some (.bl (if false then !inD d [.str "open", .str "ended", .str "ring"] else inD d [.str "open", .str "ended", .str "ring"])) else none) (mCall f_plain_text (mCons (mOp2 dIx (mVar 1) (mRet (.int 3))) mNil))))))))))))
noncomputable def f_is_scheme : List D → Option D := runP false 1 5 b_is_scheme
theorem n_is_scheme : runsN 1 f_is_scheme := runP_n
theorem ok_is_scheme (T : Txt K mg a) : FnOk P w K mg base CX0 5 a.f_is_scheme a.fd_is_scheme ["found"] (spP K false 1 f_is_scheme) := by
  have G_plain_parts := ok_plain_parts (P := P) (w := w) (base := base) T
  have B_plain_parts := T.B_plain_parts
  have G_plain_number := ok_plain_number (P := P) (w := w) (base := base) T
  have B_plain_number := T.B_plain_number
  have G_plain_text := ok_plain_text (P := P) (w := w) (base := base) T
  have B_plain_text := T.B_plain_text
  have G_is_row := ok_is_row (P := P) (w := w) (base := base) T
  have B_is_row := T.B_is_row
  have G_rooms_at := ok_rooms_at (P := P) (w := w) (base := base) T
  have B_rooms_at := T.B_rooms_at
  have G_all_below := ok_all_below (P := P) (w := w) (base := base) T
  have B_all_below := T.B_all_below
  refine T.F_is_scheme.ok sc_is_scheme (fun vs H Q E h => ?_) (fun cdv A outer s H vs Q E hr h => ?_)
  · exact h.1
  · refine ⟨_, (pss_cons (ps_set (i := 1) sc_is_scheme.nd rfl (by first | exact Or.inl rfl | exact Or.inr rfl) (pe_call G_plain_parts (hr.mono (by decide)) (by rfl) T.mg_plain_parts T.kp_plain_parts B_plain_parts .nil pass0 (pa_cons (pv 0) pa_nil)))
      (pss_cons (ps_if (pt_cmpR (op_neD (K := K) rfl hr.units) (pe_callB (call_lenK (K := K) rfl) (by rfl) T.z_len (by rfl) (pa_cons (pv 1) pa_nil)) pe_int (nomark _)) (pss_one (ps_ret pe_bl)) pss_nil)
      (pss_cons (ps_set (i := 2) sc_is_scheme.nd rfl (by first | exact Or.inl rfl | exact Or.inr rfl) (pe_call G_plain_number (hr.mono (by decide)) (by rfl) T.mg_plain_number T.kp_plain_number B_plain_number .nil pass0 (pa_cons (pe_ix (ix_seqK (K := K) rfl) (pv 1) pe_int (fun _ _ => rfl)) (pa_cons (pe_op (op_addG (K := K) rfl) (pe_glob (v := .int (4)) (by rfl) T.mg_MOST_REACH ⟨_, rfl⟩) pe_int) pa_nil))))
      (pss_cons (ps_set (i := 3) sc_is_scheme.nd rfl (by first | exact Or.inl rfl | exact Or.inr rfl) (pe_call G_plain_parts (hr.mono (by decide)) (by rfl) T.mg_plain_parts T.kp_plain_parts B_plain_parts .nil pass0 (pa_cons (pe_ix (ix_seqK (K := K) rfl) (pv 1) pe_int (fun _ _ => rfl)) pa_nil)))
      (pss_cons (ps_set (i := 4) sc_is_scheme.nd rfl (by first | exact Or.inl rfl | exact Or.inr rfl) (pe_call G_plain_parts (hr.mono (by decide)) (by rfl) T.mg_plain_parts T.kp_plain_parts B_plain_parts .nil pass0 (pa_cons (pe_ix (ix_seqK (K := K) rfl) (pv 1) pe_int (fun _ _ => rfl)) pa_nil)))
      (pss_cons (ps_if (PW.pt (pw_or (pt_cmpR op_isN (pv 2) pe_non (nomark _)) (pw_or (pt_not (pt_chain op_le op_le pe_int (pe_callB (call_lenK (K := K) rfl) (by rfl) T.z_len (by rfl) (pa_cons (pv 3) pa_nil)) (pe_glob (v := .int (4)) (by rfl) T.mg_MOST_TAPS ⟨_, rfl⟩))) (pw_or1 (pt_not (pt_chain op_le op_le pe_int (pe_callB (call_lenK (K := K) rfl) (by rfl) T.z_len (by rfl) (pa_cons (pv 4) pa_nil)) (pe_glob (v := .int (6)) (by rfl) T.mg_MOST_ROWS ⟨_, rfl⟩))))))) (pss_one (ps_ret pe_bl)) pss_nil)
      (pss_one (ps_ret (pe_and (pe_call G_all_below (hr.mono (by decide)) (by rfl) T.mg_all_below T.kp_all_below B_all_below .nil pass0 (pa_cons (pv 3) (pa_cons (pe_op (op_mulG (K := K) rfl) pe_int (pe_call G_rooms_at (hr.mono (by decide)) (by rfl) T.mg_rooms_at T.kp_rooms_at B_rooms_at .nil pass0 (pa_cons (pv 2) pa_nil))) pa_nil))) (pe_and (pe_callB (call_all (K := K) rfl rfl) (by rfl) T.z_all (by rfl) (pa_cons (pe_comp (sc := defScope s_is_scheme) (N0 := ["found", "parts", "reach", "taps", "rows"]) rfl rfl rfl (show compOk _ _ ["row", "taps"] 1 [3] _ = true by decide +kernel) (pi_seqK (K := K) rfl (pv 4)) (fun _ _ _ _ _ => (pg_name (i := 0) (show List.Nodup (["row", "taps"] : List Str) from (by decide +kernel)) rfl (Or.inl rfl))) (own_name (by decide)) (fun _ _ _ _ _ => pif_nil) (fun _ _ _ _ _ => (pe_call G_is_row (hr.mono (by decide)) (by rfl) T.mg_is_row T.kp_is_row B_is_row .nil pass0 (pa_cons (pv 0) (pa_cons (pe_callB (call_lenK (K := K) rfl) (by rfl) T.z_len (by rfl) (pa_cons (pv 1) pa_nil)) pa_nil))))) pa_nil)) (pe_one (pe_cmpR (op_inK (K := K) rfl) (pe_call G_plain_text (hr.mono (by decide)) (by rfl) T.mg_plain_text T.kp_plain_text B_plain_text .nil pass0 (pa_cons (pe_ix (ix_seqK (K := K) rfl) (pv 1) pe_int (fun _ _ => rfl)) pa_nil)) (pe_glob (v := .ref a.t_ENDINGS) (by rfl) T.mg_ENDINGS rfl) (by with_unfolding_all rfl))))))))))))), ?_⟩
    exact spP_body (O' := []) (Nms := ["found", "parts", "reach", "taps", "rows"]) (f := b_is_scheme) (by
      unfold b_is_scheme
      exact (ms_seq (O1 := []) (ms_set (me_callP n_plain_parts (ma_cons (me_var (i := 0) (by decide)) ma_nil)) rfl (by decide))
      (ms_seq (O1 := []) (ms_if (mt_test (me_opB os_ne (me_call1 cs_len mb_var) me_int.mb)) (ms_ret rfl me_bl rfl) (ms_nil rfl))
      (ms_seq (O1 := []) (ms_set (me_callP n_plain_number (ma_cons (me_op op_ix (me_var (i := 1) (by decide)) me_int) (ma_cons (me_op og_add me_int me_int) ma_nil))) rfl (by decide))
      (ms_seq (O1 := []) (ms_set (me_callP n_plain_parts (ma_cons (me_op op_ix (me_var (i := 1) (by decide)) me_int) ma_nil)) rfl (by decide))
      (ms_seq (O1 := []) (ms_set (me_callP n_plain_parts (ma_cons (me_op op_ix (me_var (i := 1) (by decide)) me_int) ma_nil)) rfl (by decide))
      (ms_seq (O1 := []) (ms_if (mt_or (mt_test (me_opB os_isN (me_var (i := 2) (by decide)) me_non.mb)) (mt_or (mt_not (mt_test (me_chain os_b0 os_b0 me_int (me_call1 cs_len mb_var) me_int))) (mt_not (mt_test (me_chain os_b0 os_b0 me_int (me_call1 cs_len mb_var) me_int))))) (ms_ret rfl me_bl rfl) (ms_nil rfl))
      (ms_ret rfl (me_and (me_callP n_all_below (ma_cons (me_var (i := 3) (by decide)) (ma_cons (me_op og_mulG me_int (me_callP n_rooms_at (ma_cons (me_var (i := 2) (by decide)) ma_nil))) ma_nil))) (me_and (me_call1 cs_all (me_new (mn_comp (bw := none) (mi_seq (me_var (i := 4) (by decide))) (mg_name (i := 0) (by decide)) mt_yes (me_callP n_is_row (ma_cons (me_var (i := 0) (by decide)) (ma_cons (me_call1 cs_len mb_var) ma_nil))))).mb) (os_inK (neg := false) (ds := [.str "open", .str "ended", .str "ring"]) T.tq_ENDINGS rfl rfl (me_callP n_plain_text (ma_cons (me_op op_ix (me_var (i := 1) (by decide)) me_int) ma_nil))))) rfl)))))))) h
noncomputable def b_check_text : Rho → Option Out :=
  (sIf (mNot (mTest (mOp1 (dIsi (isTab "str")) (mVar 0))))
    (fun _ => none)
    sNil)
noncomputable def f_check_text : List D → Option D := runP false 1 1 b_check_text
theorem n_check_text : runsN 1 f_check_text := runP_n
theorem ok_check_text (T : Txt K mg a) : FnOk P w K mg base CX0 1 a.f_check_text a.fd_check_text ["found"] (spP K false 1 f_check_text) := by
  refine T.F_check_text.ok sc_check_text (fun vs H Q E h => ?_) (fun cdv A outer s H vs Q E hr h => ?_)
  · exact h.1
  · refine ⟨_, (pss_one (ps_if (pt_not (pt_val (pe_callB (call_isO (K := K) rfl) (by rfl) T.z_isinstance (by rfl) (pa_cons (pv 0) (pa_cons (pe_bltn (v := .ty "str") (by rfl) T.z_str (by rfl) rfl) pa_nil))))) (pss_one ps_never) pss_nil)), ?_⟩
    exact spP_body (O' := []) (Nms := ["found"]) (f := b_check_text) (by
      unfold b_check_text
      exact (ms_if (mt_not (mt_val (me_isi (isi_str T) mb_var))) ms_never (ms_nil rfl))) h
noncomputable def b_is_made_of : Rho → Option Out :=
  (sRet (mAndV (mOp2 dGt (mOp1 dLenS (mVar 0)) (mRet (.int 0))) (mOp1 dAll (mOf (mComp 1 [1] none (mSigns (mVar 0)) (gSet 0)
      (mRet true) (mOp2 dInS (mVar 0) (mVar 1)))))))
noncomputable def f_is_made_of : List D → Option D := runP false 2 2 b_is_made_of
theorem n_is_made_of : runsN 2 f_is_made_of := runP_n
theorem ok_is_made_of (T : Txt K mg a) : FnOk P w K mg base CX0 1 a.f_is_made_of a.fd_is_made_of ["text", "signs"] (spP K false 2 f_is_made_of) := by
  refine T.F_is_made_of.ok sc_is_made_of (fun vs H Q E h => ?_) (fun cdv A outer s H vs Q E hr h => ?_)
  · exact h.1
  · refine ⟨_, (pss_one (ps_ret (pe_and (pe_cmpR op_gt (pe_callB call_len_str (by rfl) T.z_len (by rfl) (pa_cons (pv 0) pa_nil)) pe_int (nomark _)) (pe_one (pe_callB (call_all (K := K) rfl rfl) (by rfl) T.z_all (by rfl) (pa_cons (pe_comp (sc := defScope s_is_made_of) (N0 := ["text", "signs"]) rfl rfl rfl (show compOk _ _ ["sign", "signs"] 1 [1] _ = true by decide +kernel) (pi_str (pv 0)) (fun _ _ _ _ _ => (pg_name (i := 0) (show List.Nodup (["sign", "signs"] : List Str) from (by decide +kernel)) rfl (Or.inl rfl))) (own_name (by decide)) (fun _ _ _ _ _ => pif_nil) (fun _ _ _ _ _ => (pe_cmpR op_in_str (pv 0) (pv 1) (by with_unfolding_all rfl)))) pa_nil)))))), ?_⟩
    exact spP_body (O' := []) (Nms := ["text", "signs"]) (f := b_is_made_of) (by
      unfold b_is_made_of
      exact (ms_ret rfl (me_and (me_opB os_b0 (me_call1 cs_lenS mb_var) me_int.mb) (me_call1 cs_all (me_new (mn_comp (bw := none) (mi_str (me_var (i := 0) (by decide))) (mg_name (i := 0) (by decide)) mt_yes (me_opB os_inS (me_var (i := 0) (by decide)) mb_var))).mb)) rfl)) h
noncomputable def b_read_figures : Rho → Option Out :=
  (sSeq (sIf (mOr (mNot (mTest (mCall f_is_made_of (mCons (mVar 0) (mCons (mRet (.str "0123456789")) mNil))))) (mOr (mTest (mOp2 dGt (mOp1 dLenS (mVar 0)) (mVar 1))) (mAnd (mTest (mOp2 dEq (mOp2 dIx (mVar 0) (mRet (.int 0))) (mRet (.str "0")))) (mTest (mOp2 dNe (mVar 0) (mRet (.str "0")))))))
    (fun _ => none)
    sNil)
  (sRet (mOp1 dIntT (mVar 0))))
noncomputable def f_read_figures : List D → Option D := runP false 2 2 b_read_figures
theorem n_read_figures : runsN 2 f_read_figures := runP_n
theorem ok_read_figures (T : Txt K mg a) : FnOk P w K mg base CX0 2 a.f_read_figures a.fd_read_figures ["text", "most"] (spP K false 2 f_read_figures) := by
  have G_is_made_of := ok_is_made_of (P := P) (w := w) (base := base) T
  have B_is_made_of := T.B_is_made_of
  refine T.F_read_figures.ok sc_read_figures (fun vs H Q E h => ?_) (fun cdv A outer s H vs Q E hr h => ?_)
  · exact h.1
  · refine ⟨_, (pss_cons (ps_if (PW.pt (pw_or (pt_not (pt_val (pe_call G_is_made_of (hr.mono (by decide)) (by rfl) T.mg_is_made_of T.kp_is_made_of B_is_made_of .nil pass0 (pa_cons (pv 0) (pa_cons (pe_glob (v := .str "0123456789") (by rfl) T.mg_FIGURES ⟨_, rfl⟩) pa_nil))))) (pw_or (pt_cmpR op_gt (pe_callB call_len_str (by rfl) T.z_len (by rfl) (pa_cons (pv 0) pa_nil)) (pv 1) (nomark _)) (pw_or1 (PW.pt (pw_and (pt_cmpR (op_eqD (K := K) rfl hr.units) (pe_ix (ix_seqK (K := K) rfl) (pv 0) pe_int (fun _ _ => rfl)) pe_str (nomark _)) (pw_and1 (pt_cmpR (op_neD (K := K) rfl hr.units) (pv 0) pe_str (nomark _))))))))) (pss_one ps_never) pss_nil)
      (pss_one (ps_ret (pe_callTy call_intT (by rfl) T.z_int (by rfl) (pa_cons (pv 0) pa_nil))))), ?_⟩
    exact spP_body (O' := []) (Nms := ["text", "most"]) (f := b_read_figures) (by
      unfold b_read_figures
      exact (ms_seq (O1 := []) (ms_if (mt_or (mt_not (mt_val (me_callP n_is_made_of (ma_cons (me_var (i := 0) (by decide)) (ma_cons me_str ma_nil))))) (mt_or (mt_test (me_opB os_b0 (me_call1 cs_lenS mb_var) mb_var)) (mt_and (mt_test (me_opB os_eq (me_op op_ix (me_var (i := 0) (by decide)) me_int) me_str.mb)) (mt_test (me_opB os_ne (me_var (i := 0) (by decide)) me_str.mb))))) ms_never (ms_nil rfl))
      (ms_ret rfl (me_call1 cs_intT mb_var) rfl))) h
noncomputable def b_read_small : Rho → Option Out :=
  (sRet (mCall f_read_figures (mCons (mVar 0) (mCons (mRet (.int (2))) mNil))))
noncomputable def f_read_small : List D → Option D := runP false 1 1 b_read_small
theorem n_read_small : runsN 1 f_read_small := runP_n
theorem ok_read_small (T : Txt K mg a) : FnOk P w K mg base CX0 3 a.f_read_small a.fd_read_small ["text"] (spP K false 1 f_read_small) := by
  have G_read_figures := ok_read_figures (P := P) (w := w) (base := base) T
  have B_read_figures := T.B_read_figures
  refine T.F_read_small.ok sc_read_small (fun vs H Q E h => ?_) (fun cdv A outer s H vs Q E hr h => ?_)
  · exact h.1
  · refine ⟨_, (pss_one (ps_ret (pe_call G_read_figures (hr.mono (by decide)) (by rfl) T.mg_read_figures T.kp_read_figures B_read_figures .nil pass0 (pa_cons (pv 0) (pa_cons (pe_glob (v := .int (2)) (by rfl) T.mg_MOST_SMALL_FIGURES ⟨_, rfl⟩) pa_nil))))), ?_⟩
    exact spP_body (O' := []) (Nms := ["text"]) (f := b_read_small) (by
      unfold b_read_small
      exact (ms_ret rfl (me_callP n_read_figures (ma_cons (me_var (i := 0) (by decide)) (ma_cons me_int ma_nil))) rfl)) h
noncomputable def b_read_number : Rho → Option Out :=
  (sSeq (sDrop (mCall f_check_text (mCons (mVar 0) mNil)))
  (sSeq (sIf (mNot (mTest (mOp2 (dSM gStartswith) (mVar 0) (mRet (.str "-")))))
    (sRet (mCall f_read_figures (mCons (mVar 0) (mCons (mRet (.int (60))) mNil))))
    sNil)
  (sSeq (sSet 1 (mCall f_read_figures (mCons (mSlS (mVar 0) (mPart (mRet (.int 1))) (mRet none)) (mCons (mRet (.int (60))) mNil))))
  (sSeq (sIf (mTest (mOp2 dEq (mVar 1) (mRet (.int 0))))
    (fun _ => none)
    sNil)
  (sRet (mOp1 dNeg (mVar 1)))))))
noncomputable def f_read_number : List D → Option D := runP false 1 2 b_read_number
theorem n_read_number : runsN 1 f_read_number := runP_n
theorem ok_read_number (T : Txt K mg a) : FnOk P w K mg base CX0 3 a.f_read_number a.fd_read_number ["text"] (spP K false 1 f_read_number) := by
  have G_check_text := ok_check_text (P := P) (w := w) (base := base) T
  have B_check_text := T.B_check_text
  have G_read_figures := ok_read_figures (P := P) (w := w) (base := base) T
  have B_read_figures := T.B_read_figures
  refine T.F_read_number.ok sc_read_number (fun vs H Q E h => ?_) (fun cdv A outer s H vs Q E hr h => ?_)
  · exact h.1
  · refine ⟨_, (pss_cons (ps_expr (pe_call G_check_text (hr.mono (by decide)) (by rfl) T.mg_check_text T.kp_check_text B_check_text .nil pass0 (pa_cons (pv 0) pa_nil)))
      (pss_cons (ps_if (pt_not (pt_val (pe_bm PySem.F.plainAttrs_str PySem.F.slot_str_startswith PySem.F.type_str_startswith mt_startswith (pv 0) (pa_cons pe_str pa_nil)))) (pss_one (ps_ret (pe_call G_read_figures (hr.mono (by decide)) (by rfl) T.mg_read_figures T.kp_read_figures B_read_figures .nil pass0 (pa_cons (pv 0) (pa_cons (pe_glob (v := .int (60)) (by rfl) T.mg_MOST_FIGURES ⟨_, rfl⟩) pa_nil))))) pss_nil)
      (pss_cons (ps_set (i := 1) sc_read_number.nd rfl (by first | exact Or.inl rfl | exact Or.inr rfl) (pe_call G_read_figures (hr.mono (by decide)) (by rfl) T.mg_read_figures T.kp_read_figures B_read_figures .nil pass0 (pa_cons (pe_slice sl_str (pv 0) (po_some pe_int) po_none) (pa_cons (pe_glob (v := .int (60)) (by rfl) T.mg_MOST_FIGURES ⟨_, rfl⟩) pa_nil))))
      (pss_cons (ps_if (pt_cmpR (op_eqD (K := K) rfl hr.units) (pv 1) pe_int (nomark _)) (pss_one ps_never) pss_nil)
      (pss_one (ps_ret (pe_un un_neg (pv 1)))))))), ?_⟩
    exact spP_body (O' := []) (Nms := ["text", "number"]) (f := b_read_number) (by
      unfold b_read_number
      exact (ms_seq (O1 := []) (ms_expr (me_callP n_check_text (ma_cons (me_var (i := 0) (by decide)) ma_nil)) rfl)
      (ms_seq (O1 := []) (ms_if (mt_not (mt_val (me_sm sm_startswith (me_var (i := 0) (by decide)) me_str))) (ms_ret rfl (me_callP n_read_figures (ma_cons (me_var (i := 0) (by decide)) (ma_cons me_int ma_nil))) rfl) (ms_nil rfl))
      (ms_seq (O1 := []) (ms_set (me_callP n_read_figures (ma_cons (me_sliceS (me_var (i := 0) (by decide)) (mo_some me_int) mo_none) (ma_cons me_int ma_nil))) rfl (by decide))
      (ms_seq (O1 := []) (ms_if (mt_test (me_opB os_eq (me_var (i := 1) (by decide)) me_int.mb)) ms_never (ms_nil rfl))
      (ms_ret rfl (me_neg (me_var (i := 1) (by decide))) rfl)))))) h
noncomputable def b_read_bits : Rho → Option Out :=
  (sSeq (sIf (mNot (mTest (mCall f_is_made_of (mCons (mVar 0) (mCons (mRet (.str "01")) mNil)))))
    (fun _ => none)
    sNil)
  (sRet (mOf (mComp 1 [] none (mSigns (mVar 0)) (gSet 0)
      (mRet true) (mOp1 dIntT (mVar 0))))))
noncomputable def f_read_bits : List D → Option D := runP false 1 1 b_read_bits
theorem n_read_bits : runsN 1 f_read_bits := runP_n
theorem ok_read_bits (T : Txt K mg a) : FnOk P w K mg base CX0 2 a.f_read_bits a.fd_read_bits ["text"] (spP K false 1 f_read_bits) := by
  have G_is_made_of := ok_is_made_of (P := P) (w := w) (base := base) T
  have B_is_made_of := T.B_is_made_of
  refine T.F_read_bits.ok sc_read_bits (fun vs H Q E h => ?_) (fun cdv A outer s H vs Q E hr h => ?_)
  · exact h.1
  · refine ⟨_, (pss_cons (ps_if (pt_not (pt_val (pe_call G_is_made_of (hr.mono (by decide)) (by rfl) T.mg_is_made_of T.kp_is_made_of B_is_made_of .nil pass0 (pa_cons (pv 0) (pa_cons pe_str pa_nil))))) (pss_one ps_never) pss_nil)
      (pss_one (ps_ret (pe_comp (sc := defScope s_read_bits) (N0 := ["text"]) rfl rfl rfl (show compOk _ _ ["sign"] 1 [] _ = true by decide +kernel) (pi_str (pv 0)) (fun _ _ _ _ _ => (pg_name (i := 0) (show List.Nodup (["sign"] : List Str) from (by decide +kernel)) rfl (Or.inl rfl))) (own_name (by decide)) (fun _ _ _ _ _ => pif_nil) (fun _ _ _ _ _ => (pe_callTy call_intT (by rfl) T.z_int (by rfl) (pa_cons (pv 0) pa_nil))))))), ?_⟩
    exact spP_body (O' := []) (Nms := ["text"]) (f := b_read_bits) (by
      unfold b_read_bits
      exact (ms_seq (O1 := []) (ms_if (mt_not (mt_val (me_callP n_is_made_of (ma_cons (me_var (i := 0) (by decide)) (ma_cons me_str ma_nil))))) ms_never (ms_nil rfl))
      (ms_ret rfl (me_new (mn_comp (bw := none) (mi_str (me_var (i := 0) (by decide))) (mg_name (i := 0) (by decide)) mt_yes (me_call1 cs_intT mb_var))) rfl))) h
noncomputable def b_read_word : Rho → Option Out :=
  (sSeq (sDrop (mCall f_check_text (mCons (mVar 0) mNil)))
  (sRet (mIf (mTest (mOp2 dEq (mVar 0) (mRet (.str "-")))) (mOf (mLst mNil)) (mCall f_read_bits (mCons (mVar 0) mNil)))))
noncomputable def f_read_word : List D → Option D := runP false 1 1 b_read_word
theorem n_read_word : runsN 1 f_read_word := runP_n
theorem ok_read_word (T : Txt K mg a) : FnOk P w K mg base CX0 3 a.f_read_word a.fd_read_word ["text"] (spP K false 1 f_read_word) := by
  have G_check_text := ok_check_text (P := P) (w := w) (base := base) T
  have B_check_text := T.B_check_text
  have G_read_bits := ok_read_bits (P := P) (w := w) (base := base) T
  have B_read_bits := T.B_read_bits
  refine T.F_read_word.ok sc_read_word (fun vs H Q E h => ?_) (fun cdv A outer s H vs Q E hr h => ?_)
  · exact h.1
  · refine ⟨_, (pss_cons (ps_expr (pe_call G_check_text (hr.mono (by decide)) (by rfl) T.mg_check_text T.kp_check_text B_check_text .nil pass0 (pa_cons (pv 0) pa_nil)))
      (pss_one (ps_ret (pe_ifExp (pt_cmpR (op_eqD (K := K) rfl hr.units) (pv 0) pe_str (nomark _)) (pe_lst pa_nil) (pe_call G_read_bits (hr.mono (by decide)) (by rfl) T.mg_read_bits T.kp_read_bits B_read_bits .nil pass0 (pa_cons (pv 0) pa_nil)))))), ?_⟩
    exact spP_body (O' := []) (Nms := ["text"]) (f := b_read_word) (by
      unfold b_read_word
      exact (ms_seq (O1 := []) (ms_expr (me_callP n_check_text (ma_cons (me_var (i := 0) (by decide)) ma_nil)) rfl)
      (ms_ret rfl (me_if (mt_test (me_opB os_eq (me_var (i := 0) (by decide)) me_str.mb)) (me_new (mn_lst ma_nil)) (me_callP n_read_bits (ma_cons (me_var (i := 0) (by decide)) ma_nil))) rfl))) h
noncomputable def b_has_scheme_form : Rho → Option Out :=
  (sRet (mAndV (mOp2 dEq (mOp2 dIx (mVar 0) (mRet (.int 0))) (mRet (.str "reach"))) (mAndV (mOp2 dEq (mSl (mVar 0) (mPart (mRet (.int 2))) (mPart (mRet (.int 3)))) (mOf (mLst (mCons (mRet (.str "taps")) mNil)))) (mAndV (mOp2 (dInG false) (mRet (.str "rows")) (mVar 0)) (mOp1 (fun d => if flatD d = true then some (.bl (if false then !inD d [.str "open", .str "ended", .str "ring"] else inD d [.str "open", .str "ended", .str "ring"])) else none) (mOp2 dIx (mVar 0) (mOp1 dNeg (mRet (.int 1)))))))))
noncomputable def f_has_scheme_form : List D → Option D := runP false 1 1 b_has_scheme_form
theorem n_has_scheme_form : runsN 1 f_has_scheme_form := runP_n
theorem ok_has_scheme_form (T : Txt K mg a) : FnOk P w K mg base CX0 1 a.f_has_scheme_form a.fd_has_scheme_form ["words"] (spP K false 1 f_has_scheme_form) := by
  refine T.F_has_scheme_form.ok sc_has_scheme_form (fun vs H Q E h => ?_) (fun cdv A outer s H vs Q E hr h => ?_)
  · exact h.1
  · refine ⟨_, (pss_one (ps_ret (pe_and (pe_cmpR (op_eqD (K := K) rfl hr.units) (pe_ix (ix_seqK (K := K) rfl) (pv 0) pe_int (fun _ _ => rfl)) pe_str (nomark _)) (pe_and (pe_cmpR (op_eqD (K := K) rfl hr.units) (pe_slice (sl_seqK (K := K) rfl) (pv 0) (po_some pe_int) (po_some pe_int)) (pe_lst (pa_cons pe_str pa_nil)) (nomark _)) (pe_and (pe_cmpR (op_inK (K := K) rfl) pe_str (pv 0) (by with_unfolding_all rfl)) (pe_one (pe_cmpR (op_inK (K := K) rfl) (pe_ix (ix_seqK (K := K) rfl) (pv 0) (pe_un un_neg pe_int) (fun _ _ => rfl)) (pe_glob (v := .ref a.t_ENDINGS) (by rfl) T.mg_ENDINGS rfl) (by with_unfolding_all rfl)))))))), ?_⟩
    exact spP_body (O' := []) (Nms := ["words"]) (f := b_has_scheme_form) (by
      unfold b_has_scheme_form
      exact (ms_ret rfl (me_and (me_opB os_eq (me_op op_ix (me_var (i := 0) (by decide)) me_int) me_str.mb) (me_and (me_opB os_eq (me_slice (me_var (i := 0) (by decide)) (mo_some me_int) (mo_some me_int)) (me_new (mn_lst (ma_cons me_str ma_nil))).mb) (me_and (me_opB os_in me_str mb_var) (os_inK (neg := false) (ds := [.str "open", .str "ended", .str "ring"]) T.tq_ENDINGS rfl rfl (me_op op_ix (me_var (i := 0) (by decide)) (me_neg me_int)))))) rfl)) h
noncomputable def b_read_scheme : Rho → Option Out :=
  (sSeq (sDrop (mCall f_check_text (mCons (mVar 0) mNil)))
  (sSeq (sSet 1 (mOf (mOp2L dSplit (mVar 0) (mRet (.str " ")))))
  (sSeq (sIf (mNot (mTest (mCall f_has_scheme_form (mCons (mVar 1) mNil))))
    (fun _ => none)
    sNil)
  (sSeq (sSet 2 (mOp2 dIdx (mVar 1) (mRet (.str "rows"))))
  (sSeq (sSet 3 (mOf (mComp 1 [] none (mSeq (mSl (mVar 1) (mPart (mRet (.int 3))) (mPart (mVar 2)))) (gSet 0)
      (mRet true) (mCall f_read_small (mCons (mVar 0) mNil)))))
  (sSeq (sSet 4 (mOf (mComp 1 [] none (mSeq (mSl (mVar 1) (mPart (mOp2 dAdd (mVar 2) (mRet (.int 1)))) (mPart (mOp1 dNeg (mRet (.int 1)))))) (gSet 0)
      (mRet true) (mOp1 dTuple (mCall f_read_bits (mCons (mVar 0) mNil))))))
  (sSeq (sSet 5 (mCall f_read_small (mCons (mOp2 dIx (mVar 1) (mRet (.int 1))) mNil)))
  (sSeq (sIf (mOr (mTest (mOp2 dEq (mOp1 dLen (mVar 3)) (mRet (.int 0)))) (mTest (mOp2 dEq (mOp1 dLen (mVar 4)) (mRet (.int 0)))))
    (fun _ => none)
    sNil)
  (sSeq (sSet 6 (mTup (mCons (mVar 5) (mCons (mOp1 dTuple (mVar 3)) (mCons (mOp1 dTuple (mVar 4)) (mCons (mOp2 dIx (mVar 1) (mOp1 dNeg (mRet (.int 1)))) mNil))))))
  (sSeq (sIf (mNot (mTest (mCall f_is_scheme (mCons (mVar 6) mNil))))
    (fun _ => none)
    sNil)
  (sRet (mVar 6))))))))))))
noncomputable def f_read_scheme : List D → Option D := runP false 1 7 b_read_scheme
theorem n_read_scheme : runsN 1 f_read_scheme := runP_n
theorem ok_read_scheme (T : Txt K mg a) : FnOk P w K mg base CX0 6 a.f_read_scheme a.fd_read_scheme ["text"] (spP K false 1 f_read_scheme) := by
  have G_check_text := ok_check_text (P := P) (w := w) (base := base) T
  have B_check_text := T.B_check_text
  have G_has_scheme_form := ok_has_scheme_form (P := P) (w := w) (base := base) T
  have B_has_scheme_form := T.B_has_scheme_form
  have G_read_small := ok_read_small (P := P) (w := w) (base := base) T
  have B_read_small := T.B_read_small
  have G_read_bits := ok_read_bits (P := P) (w := w) (base := base) T
  have B_read_bits := T.B_read_bits
  have G_is_scheme := ok_is_scheme (P := P) (w := w) (base := base) T
  have B_is_scheme := T.B_is_scheme
  refine T.F_read_scheme.ok sc_read_scheme (fun vs H Q E h => ?_) (fun cdv A outer s H vs Q E hr h => ?_)
  · exact h.1
  · refine ⟨_, (pss_cons (ps_expr (pe_call G_check_text (hr.mono (by decide)) (by rfl) T.mg_check_text T.kp_check_text B_check_text .nil pass0 (pa_cons (pv 0) pa_nil)))
      (pss_cons (ps_set (i := 1) sc_read_scheme.nd rfl (by first | exact Or.inl rfl | exact Or.inr rfl) (pe_bm PySem.F.plainAttrs_str PySem.F.slot_str_split PySem.F.type_str_split mt_split (pv 0) (pa_cons pe_str pa_nil)))
      (pss_cons (ps_if (pt_not (pt_val (pe_call G_has_scheme_form (hr.mono (by decide)) (by rfl) T.mg_has_scheme_form T.kp_has_scheme_form B_has_scheme_form .nil pass0 (pa_cons (pv 1) pa_nil)))) (pss_one ps_never) pss_nil)
      (pss_cons (ps_set (i := 2) sc_read_scheme.nd rfl (by first | exact Or.inl rfl | exact Or.inr rfl) (pe_bm PySem.F.plainAttrs_list PySem.F.slot_list_index PySem.F.type_list_index (mt_idx (K := K) rfl) (pv 1) (pa_cons pe_str pa_nil)))
      (pss_cons (ps_comp (k := 3) (sc := defScope s_read_scheme) (N0 := ["text", "words", "split_at", "taps", "rows", "reach", "scheme"]) rfl rfl rfl (show compOk _ _ ["word"] 1 [] _ = true by decide +kernel) sc_read_scheme.nd rfl (Or.inl rfl) (pi_seqK (K := K) rfl (pe_slice (sl_seqK (K := K) rfl) (pv 1) (po_some pe_int) (po_some (pv 2)))) (fun _ _ _ _ _ => (pg_name (i := 0) (show List.Nodup (["word"] : List Str) from (by decide +kernel)) rfl (Or.inl rfl))) (own_name (by decide)) (fun _ _ _ _ _ => pif_nil) (fun _ _ _ _ _ => (pe_call G_read_small (hr.mono (by decide)) (by rfl) T.mg_read_small T.kp_read_small B_read_small .nil pass0 (pa_cons (pv 0) pa_nil))))
      (pss_cons (ps_comp (k := 4) (sc := defScope s_read_scheme) (N0 := ["text", "words", "split_at", "taps", "rows", "reach", "scheme"]) rfl rfl rfl (show compOk _ _ ["word"] 1 [] _ = true by decide +kernel) sc_read_scheme.nd rfl (Or.inl rfl) (pi_seqK (K := K) rfl (pe_slice (sl_seqK (K := K) rfl) (pv 1) (po_some (pe_op (op_addG (K := K) rfl) (pv 2) pe_int)) (po_some (pe_un un_neg pe_int)))) (fun _ _ _ _ _ => (pg_name (i := 0) (show List.Nodup (["word"] : List Str) from (by decide +kernel)) rfl (Or.inl rfl))) (own_name (by decide)) (fun _ _ _ _ _ => pif_nil) (fun _ _ _ _ _ => (pe_callTy (call_tupleK (K := K) rfl) (by rfl) T.z_tuple (by rfl) (pa_cons (pe_call G_read_bits (hr.mono (by decide)) (by rfl) T.mg_read_bits T.kp_read_bits B_read_bits .nil pass0 (pa_cons (pv 0) pa_nil)) pa_nil))))
      (pss_cons (ps_set (i := 5) sc_read_scheme.nd rfl (by first | exact Or.inl rfl | exact Or.inr rfl) (pe_call G_read_small (hr.mono (by decide)) (by rfl) T.mg_read_small T.kp_read_small B_read_small .nil pass0 (pa_cons (pe_ix (ix_seqK (K := K) rfl) (pv 1) pe_int (fun _ _ => rfl)) pa_nil)))
      (pss_cons (ps_if (PW.pt (pw_or (pt_cmpR (op_eqD (K := K) rfl hr.units) (pe_callB (call_lenK (K := K) rfl) (by rfl) T.z_len (by rfl) (pa_cons (pv 3) pa_nil)) pe_int (nomark _)) (pw_or1 (pt_cmpR (op_eqD (K := K) rfl hr.units) (pe_callB (call_lenK (K := K) rfl) (by rfl) T.z_len (by rfl) (pa_cons (pv 4) pa_nil)) pe_int (nomark _))))) (pss_one ps_never) pss_nil)
      (pss_cons (ps_set (i := 6) sc_read_scheme.nd rfl (by first | exact Or.inl rfl | exact Or.inr rfl) (pe_tup (pa_cons (pv 5) (pa_cons (pe_callTy (call_tupleK (K := K) rfl) (by rfl) T.z_tuple (by rfl) (pa_cons (pv 3) pa_nil)) (pa_cons (pe_callTy (call_tupleK (K := K) rfl) (by rfl) T.z_tuple (by rfl) (pa_cons (pv 4) pa_nil)) (pa_cons (pe_ix (ix_seqK (K := K) rfl) (pv 1) (pe_un un_neg pe_int) (fun _ _ => rfl)) pa_nil))))))
      (pss_cons (ps_if (pt_not (pt_val (pe_call G_is_scheme (hr.mono (by decide)) (by rfl) T.mg_is_scheme T.kp_is_scheme B_is_scheme .nil pass0 (pa_cons (pv 6) pa_nil)))) (pss_one ps_never) pss_nil)
      (pss_one (ps_ret (pv 6))))))))))))), ?_⟩
    exact spP_body (O' := []) (Nms := ["text", "words", "split_at", "taps", "rows", "reach", "scheme"]) (f := b_read_scheme) (by
      unfold b_read_scheme
      exact (ms_seq (O1 := []) (ms_expr (me_callP n_check_text (ma_cons (me_var (i := 0) (by decide)) ma_nil)) rfl)
      (ms_seq (O1 := []) (ms_set (me_new (mn_split (me_var (i := 0) (by decide)) me_str)) rfl (by decide))
      (ms_seq (O1 := []) (ms_if (mt_not (mt_val (me_callP n_has_scheme_form (ma_cons (me_var (i := 1) (by decide)) ma_nil)))) ms_never (ms_nil rfl))
      (ms_seq (O1 := []) (ms_set (me_idxL (me_var (i := 1) (by decide)) me_str) rfl (by decide))
      (ms_seq (O1 := []) (ms_setC (mn_comp (bw := none) (mi_seq (me_slice (me_var (i := 1) (by decide)) (mo_some me_int) (mo_some (me_var (i := 2) (by decide))))) (mg_name (i := 0) (by decide)) mt_yes (me_callP n_read_small (ma_cons (me_var (i := 0) (by decide)) ma_nil))) rfl (by decide))
      (ms_seq (O1 := []) (ms_setC (mn_comp (bw := none) (mi_seq (me_slice (me_var (i := 1) (by decide)) (mo_some (me_op og_add (me_var (i := 2) (by decide)) me_int)) (mo_some (me_neg me_int)))) (mg_name (i := 0) (by decide)) mt_yes (me_callG cg_tuple (me_callP n_read_bits (ma_cons (me_var (i := 0) (by decide)) ma_nil)))) rfl (by decide))
      (ms_seq (O1 := []) (ms_set (me_callP n_read_small (ma_cons (me_op op_ix (me_var (i := 1) (by decide)) me_int) ma_nil)) rfl (by decide))
      (ms_seq (O1 := []) (ms_if (mt_or (mt_test (me_opB os_eq (me_call1 cs_len mb_var) me_int.mb)) (mt_test (me_opB os_eq (me_call1 cs_len mb_var) me_int.mb))) ms_never (ms_nil rfl))
      (ms_seq (O1 := []) (ms_set (me_tup (ma_cons (me_var (i := 5) (by decide)) (ma_cons (me_callG cg_tuple (me_var (i := 3) (by decide))) (ma_cons (me_callG cg_tuple (me_var (i := 4) (by decide))) (ma_cons (me_op op_ix (me_var (i := 1) (by decide)) (me_neg me_int)) ma_nil))))) rfl (by decide))
      (ms_seq (O1 := []) (ms_if (mt_not (mt_val (me_callP n_is_scheme (ma_cons (me_var (i := 6) (by decide)) ma_nil)))) ms_never (ms_nil rfl))
      (ms_ret rfl (me_var (i := 6) (by decide)) rfl)))))))))))) h
noncomputable def b_read_sign : Rho → Option Out :=
  (sSeq (sIf (mTest (mOp2 dEq (mVar 0) (mRet (.str "?"))))
    (sRet (mTup (mCons (mRet (.str "gap")) mNil)))
    sNil)
  (sSeq (sIf (mTest (mOp2 dInS (mRet (.str "/")) (mVar 0)))
    (sSeq (sSet 1 (mOp2 dPartition (mVar 0) (mRet (.str "/"))))
  (sRet (mTup (mCons (mRet (.str "soft")) (mCons (mCall f_read_number (mCons (mOp2 dIx (mVar 1) (mRet (.int 0))) mNil)) (mCons (mCall f_read_number (mCons (mOp2 dIx (mVar 1) (mRet (.int 2))) mNil)) mNil))))))
    sNil)
  (sSeq (sIf (mOr (mTest (mOp2 dEq (mVar 0) (mRet (.str "0")))) (mTest (mOp2 dEq (mVar 0) (mRet (.str "1")))))
    (sRet (mTup (mCons (mRet (.str "clear")) (mCons (mOp1 dIntT (mVar 0)) mNil))))
    sNil)
  (fun _ => none))))
noncomputable def f_read_sign : List D → Option D := runP false 1 2 b_read_sign
theorem n_read_sign : runsN 1 f_read_sign := runP_n
theorem ok_read_sign (T : Txt K mg a) : FnOk P w K mg base CX0 4 a.f_read_sign a.fd_read_sign ["word"] (spP K false 1 f_read_sign) := by
  have G_read_number := ok_read_number (P := P) (w := w) (base := base) T
  have B_read_number := T.B_read_number
  refine T.F_read_sign.ok sc_read_sign (fun vs H Q E h => ?_) (fun cdv A outer s H vs Q E hr h => ?_)
  · exact h.1
  · refine ⟨_, (pss_cons (ps_if (pt_cmpR (op_eqD (K := K) rfl hr.units) (pv 0) pe_str (nomark _)) (pss_one (ps_ret (pe_tup (pa_cons pe_str pa_nil)))) pss_nil)
      (pss_cons (ps_if (pt_cmpR op_in_str pe_str (pv 0) (by with_unfolding_all rfl)) (pss_cons (ps_set (i := 1) sc_read_sign.nd rfl (by first | exact Or.inl rfl | exact Or.inr rfl) (pe_bm PySem.F.plainAttrs_str PySem.F.slot_str_partition PySem.F.type_str_partition mt_partition (pv 0) (pa_cons pe_str pa_nil)))
      (pss_one (ps_ret (pe_tup (pa_cons pe_str (pa_cons (pe_call G_read_number (hr.mono (by decide)) (by rfl) T.mg_read_number T.kp_read_number B_read_number .nil pass0 (pa_cons (pe_ix (ix_seqK (K := K) rfl) (pv 1) pe_int (fun _ _ => rfl)) pa_nil)) (pa_cons (pe_call G_read_number (hr.mono (by decide)) (by rfl) T.mg_read_number T.kp_read_number B_read_number .nil pass0 (pa_cons (pe_ix (ix_seqK (K := K) rfl) (pv 1) pe_int (fun _ _ => rfl)) pa_nil)) pa_nil))))))) pss_nil)
      (pss_cons (ps_if (PW.pt (pw_or (pt_cmpR (op_eqD (K := K) rfl hr.units) (pv 0) pe_str (nomark _)) (pw_or1 (pt_cmpR (op_eqD (K := K) rfl hr.units) (pv 0) pe_str (nomark _))))) (pss_one (ps_ret (pe_tup (pa_cons pe_str (pa_cons (pe_callTy call_intT (by rfl) T.z_int (by rfl) (pa_cons (pv 0) pa_nil)) pa_nil))))) pss_nil)
      (pss_one ps_never)))), ?_⟩
    exact spP_body (O' := []) (Nms := ["word", "parts"]) (f := b_read_sign) (by
      unfold b_read_sign
      exact (ms_seq (O1 := []) (ms_if (mt_test (me_opB os_eq (me_var (i := 0) (by decide)) me_str.mb)) (ms_ret rfl (me_tup (ma_cons me_str ma_nil)) rfl) (ms_nil rfl))
      (ms_seq (O1 := []) (ms_if (mt_test (me_opB os_inS me_str mb_var)) (ms_seq (O1 := []) (ms_set (me_partition (me_var (i := 0) (by decide)) me_str) rfl (by decide))
      (ms_ret rfl (me_tup (ma_cons me_str (ma_cons (me_callP n_read_number (ma_cons (me_op op_ix (me_var (i := 1) (by decide)) me_int) ma_nil)) (ma_cons (me_callP n_read_number (ma_cons (me_op op_ix (me_var (i := 1) (by decide)) me_int) ma_nil)) ma_nil)))) rfl)) (ms_nil rfl))
      (ms_seq (O1 := []) (ms_if (mt_or (mt_test (me_opB os_eq (me_var (i := 0) (by decide)) me_str.mb)) (mt_test (me_opB os_eq (me_var (i := 0) (by decide)) me_str.mb))) (ms_ret rfl (me_tup (ma_cons me_str (ma_cons (me_call1 cs_intT mb_var) ma_nil))) rfl) (ms_nil rfl))
      ms_never)))) h
noncomputable def b_read_heard : Rho → Option Out :=
  (sSeq (sDrop (mCall f_check_text (mCons (mVar 0) mNil)))
  (sRet (mIf (mTest (mOp2 dEq (mVar 0) (mRet (.str "")))) (mOf (mLst mNil)) (mOf (mComp 1 [] none (mSeq (mOf (mOp2L dSplit (mVar 0) (mRet (.str " "))))) (gSet 0)
      (mRet true) (mCall f_read_sign (mCons (mVar 0) mNil)))))))
noncomputable def f_read_heard : List D → Option D := runP false 1 1 b_read_heard
theorem n_read_heard : runsN 1 f_read_heard := runP_n
theorem ok_read_heard (T : Txt K mg a) : FnOk P w K mg base CX0 5 a.f_read_heard a.fd_read_heard ["text"] (spP K false 1 f_read_heard) := by
  have G_check_text := ok_check_text (P := P) (w := w) (base := base) T
  have B_check_text := T.B_check_text
  have G_read_sign := ok_read_sign (P := P) (w := w) (base := base) T
  have B_read_sign := T.B_read_sign
  refine T.F_read_heard.ok sc_read_heard (fun vs H Q E h => ?_) (fun cdv A outer s H vs Q E hr h => ?_)
  · exact h.1
  · refine ⟨_, (pss_cons (ps_expr (pe_call G_check_text (hr.mono (by decide)) (by rfl) T.mg_check_text T.kp_check_text B_check_text .nil pass0 (pa_cons (pv 0) pa_nil)))
      (pss_one (ps_ret (pe_ifExp (pt_cmpR (op_eqD (K := K) rfl hr.units) (pv 0) pe_str (nomark _)) (pe_lst pa_nil) (pe_comp (sc := defScope s_read_heard) (N0 := ["text"]) rfl rfl rfl (show compOk _ _ ["word"] 1 [] _ = true by decide +kernel) (pi_seqK (K := K) rfl (pe_bmK (K := K) rfl PySem.F.plainAttrs_str PySem.F.slot_str_split PySem.F.type_str_split mt_split (pv 0) (pa_cons pe_str pa_nil))) (fun _ _ _ _ _ => (pg_name (i := 0) (show List.Nodup (["word"] : List Str) from (by decide +kernel)) rfl (Or.inl rfl))) (own_name (by decide)) (fun _ _ _ _ _ => pif_nil) (fun _ _ _ _ _ => (pe_call G_read_sign (hr.mono (by decide)) (by rfl) T.mg_read_sign T.kp_read_sign B_read_sign .nil pass0 (pa_cons (pv 0) pa_nil)))))))), ?_⟩
    exact spP_body (O' := []) (Nms := ["text"]) (f := b_read_heard) (by
      unfold b_read_heard
      exact (ms_seq (O1 := []) (ms_expr (me_callP n_check_text (ma_cons (me_var (i := 0) (by decide)) ma_nil)) rfl)
      (ms_ret rfl (me_if (mt_test (me_opB os_eq (me_var (i := 0) (by decide)) me_str.mb)) (me_new (mn_lst ma_nil)) (me_new (mn_comp (bw := none) (mi_seq (me_new (mn_split (me_var (i := 0) (by decide)) me_str))) (mg_name (i := 0) (by decide)) mt_yes (me_callP n_read_sign (ma_cons (me_var (i := 0) (by decide)) ma_nil))))) rfl))) h
noncomputable def b_read_places : Rho → Option Out :=
  (sSeq (sDrop (mCall f_check_text (mCons (mVar 0) mNil)))
  (sSeq (sIf (mTest (mOp2 dEq (mVar 0) (mRet (.str "-"))))
    (sRet (mOf (mLst mNil)))
    sNil)
  (sSeq (sSet 1 (mOf (mComp 1 [] none (mSeq (mOf (mOp2L dSplit (mVar 0) (mRet (.str ","))))) (gSet 0)
      (mRet true) (mCall f_read_figures (mCons (mVar 0) (mCons (mRet (.int (60))) mNil))))))
  (sSeq (sIf (mTest (mOp1 dAny (mOf (mComp 2 [] none (mZip (mCons (mVar 1) (mCons (mSl (mVar 1) (mPart (mRet (.int 1))) (mRet none)) mNil))) (gTupD 2 (gsCons (gSet 0) (gsCons (gSet 1) gsNil)))
      (mRet true) (mOp2 dGe (mVar 0) (mVar 1))))))
    (fun _ => none)
    sNil)
  (sRet (mVar 1))))))
noncomputable def f_read_places : List D → Option D := runP false 1 2 b_read_places
theorem n_read_places : runsN 1 f_read_places := runP_n
theorem ok_read_places (T : Txt K mg a) : FnOk P w K mg base CX0 3 a.f_read_places a.fd_read_places ["text"] (spP K false 1 f_read_places) := by
  have G_check_text := ok_check_text (P := P) (w := w) (base := base) T
  have B_check_text := T.B_check_text
  have G_read_figures := ok_read_figures (P := P) (w := w) (base := base) T
  have B_read_figures := T.B_read_figures
  refine T.F_read_places.ok sc_read_places (fun vs H Q E h => ?_) (fun cdv A outer s H vs Q E hr h => ?_)
  · exact h.1
  · refine ⟨_, (pss_cons (ps_expr (pe_call G_check_text (hr.mono (by decide)) (by rfl) T.mg_check_text T.kp_check_text B_check_text .nil pass0 (pa_cons (pv 0) pa_nil)))
      (pss_cons (ps_if (pt_cmpR (op_eqD (K := K) rfl hr.units) (pv 0) pe_str (nomark _)) (pss_one (ps_ret (pe_lst pa_nil))) pss_nil)
      (pss_cons (ps_comp (k := 1) (sc := defScope s_read_places) (N0 := ["text", "places"]) rfl rfl rfl (show compOk _ _ ["word"] 1 [] _ = true by decide +kernel) sc_read_places.nd rfl (Or.inl rfl) (pi_seqK (K := K) rfl (pe_bmK (K := K) rfl PySem.F.plainAttrs_str PySem.F.slot_str_split PySem.F.type_str_split mt_split (pv 0) (pa_cons pe_str pa_nil))) (fun _ _ _ _ _ => (pg_name (i := 0) (show List.Nodup (["word"] : List Str) from (by decide +kernel)) rfl (Or.inl rfl))) (own_name (by decide)) (fun _ _ _ _ _ => pif_nil) (fun _ _ _ _ _ => (pe_call G_read_figures (hr.mono (by decide)) (by rfl) T.mg_read_figures T.kp_read_figures B_read_figures .nil pass0 (pa_cons (pv 0) (pa_cons (pe_glob (v := .int (60)) (by rfl) T.mg_MOST_FIGURES ⟨_, rfl⟩) pa_nil)))))
      (pss_cons (ps_if (pt_val (pe_callB (call_any (K := K) rfl rfl) (by rfl) T.z_any (by rfl) (pa_cons (pe_comp (sc := defScope s_read_places) (N0 := ["text", "places"]) rfl rfl rfl (show compOk _ _ ["place", "later"] 2 [] _ = true by decide +kernel) (pi_zipG (K := K) rfl (by rfl) T.z_zip (pa_cons (pv 1) (pa_cons (pe_slice (sl_seqK (K := K) rfl) (pv 1) (po_some pe_int) po_none) pa_nil))) (fun _ _ _ _ _ => (pg_tupK (K := K) rfl rfl (pgs_cons (pg_name (i := 0) (show List.Nodup (["place", "later"] : List Str) from (by decide +kernel)) rfl (Or.inl rfl)) (pgs_cons (pg_name (i := 1) (show List.Nodup (["place", "later"] : List Str) from (by decide +kernel)) rfl (Or.inl rfl)) pgs_nil)))) (own_tup2 (by decide) (by decide)) (fun _ _ _ _ _ => pif_nil) (fun _ _ _ _ _ => (pe_cmpR op_ge (pv 0) (pv 1) (nomark _)))) pa_nil))) (pss_one ps_never) pss_nil)
      (pss_one (ps_ret (pv 1))))))), ?_⟩
    exact spP_body (O' := []) (Nms := ["text", "places"]) (f := b_read_places) (by
      unfold b_read_places
      exact (ms_seq (O1 := []) (ms_expr (me_callP n_check_text (ma_cons (me_var (i := 0) (by decide)) ma_nil)) rfl)
      (ms_seq (O1 := []) (ms_if (mt_test (me_opB os_eq (me_var (i := 0) (by decide)) me_str.mb)) (ms_ret rfl (me_new (mn_lst ma_nil)) rfl) (ms_nil rfl))
      (ms_seq (O1 := []) (ms_setC (mn_comp (bw := none) (mi_seq (me_new (mn_split (me_var (i := 0) (by decide)) me_str))) (mg_name (i := 0) (by decide)) mt_yes (me_callP n_read_figures (ma_cons (me_var (i := 0) (by decide)) (ma_cons me_int ma_nil)))) rfl (by decide))
      (ms_seq (O1 := []) (ms_if (mt_val (me_call1 cs_any (me_new (mn_comp (bw := none) (mi_zip (ma_cons (me_var (i := 1) (by decide)) (ma_cons (me_slice (me_var (i := 1) (by decide)) (mo_some me_int) mo_none) ma_nil))) (mg_tup (mgs_cons (mg_name (i := 0) (by decide)) (mgs_cons (mg_name (i := 1) (by decide)) mgs_nil))) mt_yes (me_opB os_b0 (me_var (i := 0) (by decide)) mb_var))).mb)) ms_never (ms_nil rfl))
      (ms_ret rfl (me_var (i := 1) (by decide)) rfl)))))) h
noncomputable def b__law_next : Rho → Option Out :=
  (sSeq (sSetI 0 (mOp2 dMod (mOp2 dAdd (mOp2 dMulG (mIxO 0 (mRet (.int 0))) (mRet (.int 1181783497276652981))) (mRet (.int 12345678910987))) (mOp2 dSub (mOp2 dPow (mRet (.int 2)) (mRet (.int 61))) (mRet (.int 1)))) (mRet (.int 0)))
  (sRet (mOp2 dMod (mOp2 dDiv (mIxO 0 (mRet (.int 0))) (mRet (.int 65537))) (mVar 1))))
noncomputable def f__law_next : List D → List D → Option (D × List D) := runS false 2 2 b__law_next
theorem n__law_next : runsS 2 f__law_next := runS_n
theorem ok__law_next (T : Txt K mg a) : FnOk P w K mg base CX0 1 a.f__law_next a.fd__law_next ["_law_state", "_law_many"] (spS K false 2 f__law_next) := by
  refine T.F__law_next.ok sc__law_next (fun vs H Q E h => ?_) (fun cdv A outer s H vs Q E hr h => ?_)
  · exact h.1
  · refine ⟨_, (pss_cons (ps_asg (pe_op op_mod (pe_op (op_addG (K := K) rfl) (pe_op (op_mulG (K := K) rfl) (pe_ix (ix_seqK (K := K) rfl) (pv 0) pe_int (fun _ _ => rfl)) pe_int) pe_int) (pe_op op_sub (pe_op op_pow pe_int pe_int) pe_int)) (pg_sub (pv 0) pe_int set_list))
      (pss_one (ps_ret (pe_op op_mod (pe_op op_fdiv (pe_ix (ix_seqK (K := K) rfl) (pv 0) pe_int (fun _ _ => rfl)) pe_int) (pv 1))))), ?_⟩
    exact spS_body (O' := []) (Nms := ["_law_state", "_law_many"]) (f := b__law_next) (by
      unfold b__law_next
      exact (ms_seq (O1 := [0]) (ms_setI (by decide) (me_op og_mod (me_op og_add (me_op og_mulG (me_ixO (i := 0) (by decide) me_int) me_int) me_int) (me_op og_sub (me_op og_pow me_int me_int) me_int)) me_int rfl)
      (ms_ret rfl (me_op og_mod (me_op og_div (me_ixO (i := 0) (by decide) me_int) me_int) (me_var (i := 1) (by decide))) rfl))) h
noncomputable def b__law_seed : Rho → Option Out :=
  (sSeq (sSet 1 (mRet (.int 1000003)))
  (sSeq (sFor (mSeq (mVar 0)) (gSet 2)
    (sSet 1 (mOp2 dMod (mOp2 dAdd (mOp2 dAdd (mOp2 dMulG (mVar 1) (mRet (.int 7368787))) (mOp2 dMod (mVar 2) (mOp2 dPow (mRet (.int 10)) (mRet (.int 30))))) (mRet (.int 11))) (mOp2 dSub (mOp2 dPow (mRet (.int 2)) (mRet (.int 61))) (mRet (.int 1))))))
  (sRet (mVar 1))))
noncomputable def f__law_seed : List D → Option D := runP false 1 3 b__law_seed
theorem n__law_seed : runsN 1 f__law_seed := runP_n
theorem ok__law_seed (T : Txt K mg a) : FnOk P w K mg base CX0 1 a.f__law_seed a.fd__law_seed ["_law_script"] (spP K false 1 f__law_seed) := by
  refine T.F__law_seed.ok sc__law_seed (fun vs H Q E h => ?_) (fun cdv A outer s H vs Q E hr h => ?_)
  · exact h.1
  · refine ⟨_, (pss_cons (ps_set (i := 1) sc__law_seed.nd rfl (by first | exact Or.inl rfl | exact Or.inr rfl) pe_int)
      (pss_cons (ps_for PassesOwn.never rfl (pi_seqK (K := K) rfl (pv 0)) (pg_name (i := 2) sc__law_seed.nd rfl (by first | exact Or.inl rfl | exact Or.inr rfl)) (pss_one (ps_set (i := 1) sc__law_seed.nd rfl (by first | exact Or.inl rfl | exact Or.inr rfl) (pe_op op_mod (pe_op (op_addG (K := K) rfl) (pe_op (op_addG (K := K) rfl) (pe_op (op_mulG (K := K) rfl) (pv 1) pe_int) (pe_op op_mod (pv 2) (pe_op op_pow pe_int pe_int))) pe_int) (pe_op op_sub (pe_op op_pow pe_int pe_int) pe_int)))))
      (pss_one (ps_ret (pv 1))))), ?_⟩
    exact spP_body (O' := []) (Nms := ["_law_script", "_law_seed_here", "_law_cell"]) (f := b__law_seed) (by
      unfold b__law_seed
      exact (ms_seq (O1 := []) (ms_set me_int rfl (by decide))
      (ms_seq (O1 := []) (ms_for (O' := []) (mi_seq (me_var (i := 0) (by decide))) rfl (mg_name (i := 2) (by decide))
      (ms_set (me_op og_mod (me_op og_add (me_op og_add (me_op og_mulG (me_var (i := 1) (by decide)) me_int) (me_op og_mod (me_var (i := 2) (by decide)) (me_op og_pow me_int me_int))) me_int) (me_op og_sub (me_op og_pow me_int me_int) me_int)) rfl (by decide)))
      (ms_ret rfl (me_var (i := 1) (by decide)) rfl)))) h
noncomputable def b__law_scheme : Rho → Option Out :=
  (sSeq (sSet 1 (mOp2 dIx (mOf (mLst (mCons (mCallS f__law_next 0 (mCons (mRet (.int 4)) mNil)) (mCons (mRet (.int 4)) mNil)))) (mOp1 dInt (mOp2 dEq (mCallS f__law_next 0 (mCons (mRet (.int 8)) mNil)) (mRet (.int 0))))))
  (sSeq (sSet 2 (mOf (mComp 1 [0, 1] (some (0, 1)) (mRng1 (mCons (mOp2 dAdd (mRet (.int 1)) (mCallS f__law_next 0 (mCons (mRet (.int 4)) mNil))) mNil)) (gSet 0)
      (mRet true) (mCallS f__law_next 1 (mCons (mOp2 dShl (mRet (.int 2)) (mVar 2)) mNil)))))
  (sSeq (sSet 3 (mOp2 dIx (mOf (mLst (mCons (mOp2 dAdd (mRet (.int 1)) (mCallS f__law_next 0 (mCons (mRet (.int 3)) mNil))) (mCons (mOp2 dAdd (mRet (.int 4)) (mCallS f__law_next 0 (mCons (mRet (.int 3)) mNil))) mNil)))) (mOp1 dInt (mOp2 dEq (mCallS f__law_next 0 (mCons (mRet (.int 6)) mNil)) (mRet (.int 0))))))
  (sSeq (sOwn 4 (mLst mNil))
  (sSeq (sFor (mRng1 (mCons (mVar 3) mNil)) (gSet 5)
    (sSeq (sSet 6 (mOp2 dGt (mCallS f__law_next 0 (mCons (mRet (.int 3)) mNil)) (mRet (.int 0))))
  (sMut dAppend 4 (mCons (mOp1 dTuple (mOf (mComp 1 [6, 0] (some (0, 2)) (mSeq (mVar 2)) (gSet 0)
      (mRet true) (mOp1 dInt (mOrV (mVar 1) (mOp2 dEq (mCallS f__law_next 2 (mCons (mRet (.int 2)) mNil)) (mRet (.int 0)))))))) mNil))))
  (sRet (mTup (mCons (mVar 1) (mCons (mOp1 dTuple (mVar 2)) (mCons (mOp1 dTuple (mVar 4)) (mCons (mOp2 dIx (mOf (mLst (mCons (mRet (.str "open")) (mCons (mRet (.str "ended")) (mCons (mRet (.str "ring")) mNil))))) (mCallS f__law_next 0 (mCons (mRet (.int 3)) mNil))) mNil)))))))))))
noncomputable def f__law_scheme : List D → List D → Option (D × List D) := runS false 1 7 b__law_scheme
theorem n__law_scheme : runsS 1 f__law_scheme := runS_n
theorem ok__law_scheme (T : Txt K mg a) : FnOk P w K mg base CX0 2 a.f__law_scheme a.fd__law_scheme ["_law_state"] (spS K false 1 f__law_scheme) := by
  have G__law_next := ok__law_next (P := P) (w := w) (base := base) T
  have B__law_next := T.B__law_next
  refine T.F__law_scheme.ok sc__law_scheme (fun vs H Q E h => ?_) (fun cdv A outer s H vs Q E hr h => ?_)
  · exact h.1
  · refine ⟨_, (pss_cons (ps_set (i := 1) sc__law_scheme.nd rfl (by first | exact Or.inl rfl | exact Or.inr rfl) (pe_ix (ix_seqK (K := K) rfl) (pe_lst (pa_cons (pe_call G__law_next (hr.mono (by decide)) (by rfl) T.mg__law_next T.kp__law_next B__law_next .nil pass0 (pa_cons (pv 0) (pa_cons pe_int pa_nil))) (pa_cons pe_int pa_nil))) (pe_callTy call_int1 (by rfl) T.z_int (by rfl) (pa_cons (pe_cmpR (op_eqD (K := K) rfl hr.units) (pe_call G__law_next (hr.mono (by decide)) (by rfl) T.mg__law_next T.kp__law_next B__law_next .nil pass0 (pa_cons (pv 0) (pa_cons pe_int pa_nil))) pe_int (nomark _)) pa_nil)) (fun _ _ => rfl)))
      (pss_cons (ps_comp (k := 2) (sc := defScope s__law_scheme) (N0 := ["_law_state", "_law_reach", "_law_taps", "_law_many", "_law_rows", "_law_k", "_law_full"]) rfl rfl rfl (show compOk _ _ ["_law_k", "_law_state", "_law_reach"] 1 [0, 1] _ = true by decide +kernel) sc__law_scheme.nd rfl (Or.inl rfl) (pi_range1 (by rfl) T.z_range (pa_cons (pe_op (op_addG (K := K) rfl) pe_int (pe_call G__law_next (hr.mono (by decide)) (by rfl) T.mg__law_next T.kp__law_next B__law_next .nil pass0 (pa_cons (pv 0) (pa_cons pe_int pa_nil)))) pa_nil)) (fun _ _ _ _ _ => (pg_name (i := 0) (show List.Nodup (["_law_k", "_law_state", "_law_reach"] : List Str) from (by decide +kernel)) rfl (Or.inl rfl))) (own_name (by decide)) (fun _ _ _ _ _ => pif_nil) (fun _ _ _ _ _ => (pe_call G__law_next (hr.mono (by decide)) (by rfl) T.mg__law_next T.kp__law_next B__law_next .nil pass0 (pa_cons (pv 1) (pa_cons (pe_op op_shl pe_int (pv 2)) pa_nil)))))
      (pss_cons (ps_set (i := 3) sc__law_scheme.nd rfl (by first | exact Or.inl rfl | exact Or.inr rfl) (pe_ix (ix_seqK (K := K) rfl) (pe_lst (pa_cons (pe_op (op_addG (K := K) rfl) pe_int (pe_call G__law_next (hr.mono (by decide)) (by rfl) T.mg__law_next T.kp__law_next B__law_next .nil pass0 (pa_cons (pv 0) (pa_cons pe_int pa_nil)))) (pa_cons (pe_op (op_addG (K := K) rfl) pe_int (pe_call G__law_next (hr.mono (by decide)) (by rfl) T.mg__law_next T.kp__law_next B__law_next .nil pass0 (pa_cons (pv 0) (pa_cons pe_int pa_nil)))) pa_nil))) (pe_callTy call_int1 (by rfl) T.z_int (by rfl) (pa_cons (pe_cmpR (op_eqD (K := K) rfl hr.units) (pe_call G__law_next (hr.mono (by decide)) (by rfl) T.mg__law_next T.kp__law_next B__law_next .nil pass0 (pa_cons (pv 0) (pa_cons pe_int pa_nil))) pe_int (nomark _)) pa_nil)) (fun _ _ => rfl)))
      (pss_cons (ps_set (i := 4) sc__law_scheme.nd rfl (by first | exact Or.inl rfl | exact Or.inr rfl) (pe_lst pa_nil))
      (pss_cons (ps_for PassesOwn.never rfl (pi_range1 (by rfl) T.z_range (pa_cons (pv 3) pa_nil)) (pg_name (i := 5) sc__law_scheme.nd rfl (by first | exact Or.inl rfl | exact Or.inr rfl)) (pss_cons (ps_set (i := 6) sc__law_scheme.nd rfl (by first | exact Or.inl rfl | exact Or.inr rfl) (pe_cmpR op_gt (pe_call G__law_next (hr.mono (by decide)) (by rfl) T.mg__law_next T.kp__law_next B__law_next .nil pass0 (pa_cons (pv 0) (pa_cons pe_int pa_nil))) pe_int (nomark _)))
      (pss_one (ps_expr (pe_bm PySem.F.plainAttrs_list PySem.F.slot_list_append PySem.F.type_list_append mt_append (pv 4) (pa_cons (pe_callTy (call_tupleK (K := K) rfl) (by rfl) T.z_tuple (by rfl) (pa_cons (pe_comp (sc := defScope s__law_scheme) (N0 := ["_law_state", "_law_reach", "_law_taps", "_law_many", "_law_rows", "_law_k", "_law_full"]) rfl rfl rfl (show compOk _ _ ["_law_tap", "_law_full", "_law_state"] 1 [6, 0] _ = true by decide +kernel) (pi_seqK (K := K) rfl (pv 2)) (fun _ _ _ _ _ => (pg_name (i := 0) (show List.Nodup (["_law_tap", "_law_full", "_law_state"] : List Str) from (by decide +kernel)) rfl (Or.inl rfl))) (own_name (by decide)) (fun _ _ _ _ _ => pif_nil) (fun _ _ _ _ _ => (pe_callTy call_int1 (by rfl) T.z_int (by rfl) (pa_cons (pe_or (pv 1) (pe_one (pe_cmpR (op_eqD (K := K) rfl hr.units) (pe_call G__law_next (hr.mono (by decide)) (by rfl) T.mg__law_next T.kp__law_next B__law_next .nil pass0 (pa_cons (pv 2) (pa_cons pe_int pa_nil))) pe_int (nomark _)))) pa_nil)))) pa_nil)) pa_nil))))))
      (pss_one (ps_ret (pe_tup (pa_cons (pv 1) (pa_cons (pe_callTy (call_tupleK (K := K) rfl) (by rfl) T.z_tuple (by rfl) (pa_cons (pv 2) pa_nil)) (pa_cons (pe_callTy (call_tupleK (K := K) rfl) (by rfl) T.z_tuple (by rfl) (pa_cons (pv 4) pa_nil)) (pa_cons (pe_ix (ix_seqK (K := K) rfl) (pe_lst (pa_cons pe_str (pa_cons pe_str (pa_cons pe_str pa_nil)))) (pe_call G__law_next (hr.mono (by decide)) (by rfl) T.mg__law_next T.kp__law_next B__law_next .nil pass0 (pa_cons (pv 0) (pa_cons pe_int pa_nil))) (fun _ _ => rfl)) pa_nil)))))))))))), ?_⟩
    exact spS_body (O' := []) (Nms := ["_law_state", "_law_reach", "_law_taps", "_law_many", "_law_rows", "_law_k", "_law_full"]) (f := b__law_scheme) (by
      unfold b__law_scheme
      exact (ms_seq (O1 := [0]) (ms_set (me_op op_ix (me_new (mn_lst (ma_cons (me_callS (i := 0) n__law_next (by decide) (ma_cons me_int ma_nil)) (ma_cons me_int ma_nil)))) (me_call1 cs_int (me_opB os_eq (me_callS (i := 0) n__law_next (by decide) (ma_cons me_int ma_nil)) me_int.mb).mb)) rfl (by decide))
      (ms_seq (O1 := [0]) (ms_setC (mn_comp (bw := (some (0, 1))) (mi_range1 (ma_cons (me_op og_add me_int (me_callS (i := 0) n__law_next (by decide) (ma_cons me_int ma_nil))) ma_nil)) (mg_name (i := 0) (by decide)) mt_yes (me_callS (i := 1) n__law_next (by decide) (ma_cons (me_op og_shl me_int (me_var (i := 2) (by decide))) ma_nil))) rfl (by decide))
      (ms_seq (O1 := [0]) (ms_set (me_op op_ix (me_new (mn_lst (ma_cons (me_op og_add me_int (me_callS (i := 0) n__law_next (by decide) (ma_cons me_int ma_nil))) (ma_cons (me_op og_add me_int (me_callS (i := 0) n__law_next (by decide) (ma_cons me_int ma_nil))) ma_nil)))) (me_call1 cs_int (me_opB os_eq (me_callS (i := 0) n__law_next (by decide) (ma_cons me_int ma_nil)) me_int.mb).mb)) rfl (by decide))
      (ms_seq (O1 := [0, 4]) (ms_own (mn_lst ma_nil) rfl)
      (ms_seq (O1 := [0]) (ms_weak (ms_for (O' := [0, 4]) (mi_range1 (ma_cons (me_var (i := 3) (by decide)) ma_nil)) rfl (mg_name (i := 5) (by decide))
      (ms_seq (O1 := [0, 4]) (ms_set (me_opB os_b0 (me_callS (i := 0) n__law_next (by decide) (ma_cons me_int ma_nil)) me_int.mb) rfl (by decide))
      (ms_mut mu_append (by decide) (ma_cons (me_callG cg_tuple (me_new (mn_comp (bw := (some (0, 2))) (mi_seq (me_var (i := 2) (by decide))) (mg_name (i := 0) (by decide)) mt_yes (me_call1 cs_int (me_or (me_var (i := 1) (by decide)) (me_opB os_eq (me_callS (i := 2) n__law_next (by decide) (ma_cons me_int ma_nil)) me_int.mb)).mb)))) ma_nil) rfl))) rfl)
      (ms_ret rfl (me_tup (ma_cons (me_var (i := 1) (by decide)) (ma_cons (me_callG cg_tuple (me_var (i := 2) (by decide))) (ma_cons (me_callG cg_tuple (me_var (i := 4) (by decide))) (ma_cons (me_op op_ix (me_new (mn_lst (ma_cons me_str (ma_cons me_str (ma_cons me_str ma_nil))))) (me_callS (i := 0) n__law_next (by decide) (ma_cons me_int ma_nil))) ma_nil))))) rfl))))))) h
noncomputable def b__law_number : Rho → Option Out :=
  (sSeq (sSet 1 (mCallS f__law_next 0 (mCons (mRet (.int 10)) mNil)))
  (sSeq (sIf (mTest (mOp2 dEq (mCallS f__law_next 0 (mCons (mRet (.int 4)) mNil)) (mRet (.int 0))))
    (sSeq (sFor (mRng1 (mCons (mRet (.int 5)) mNil)) (gSet 2)
    (sSet 1 (mOp2 dAdd (mOp2 dMulG (mVar 1) (mOp2 dPow (mRet (.int 10)) (mRet (.int 10)))) (mCallS f__law_next 0 (mCons (mOp2 dPow (mRet (.int 10)) (mRet (.int 10))) mNil)))))
  (sSet 1 (mOp2 dAdd (mOp2 dMulG (mVar 1) (mOp2 dPow (mRet (.int 10)) (mRet (.int 9)))) (mCallS f__law_next 0 (mCons (mOp2 dPow (mRet (.int 10)) (mRet (.int 9))) mNil)))))
    sNil)
  (sSeq (sIf (mTest (mOp2 dEq (mCallS f__law_next 0 (mCons (mRet (.int 2)) mNil)) (mRet (.int 0))))
    (sRet (mOp1 dNeg (mVar 1)))
    sNil)
  (sRet (mVar 1)))))
noncomputable def f__law_number : List D → List D → Option (D × List D) := runS false 1 3 b__law_number
theorem n__law_number : runsS 1 f__law_number := runS_n
theorem ok__law_number (T : Txt K mg a) : FnOk P w K mg base CX0 2 a.f__law_number a.fd__law_number ["_law_state"] (spS K false 1 f__law_number) := by
  have G__law_next := ok__law_next (P := P) (w := w) (base := base) T
  have B__law_next := T.B__law_next
  refine T.F__law_number.ok sc__law_number (fun vs H Q E h => ?_) (fun cdv A outer s H vs Q E hr h => ?_)
  · exact h.1
  · refine ⟨_, (pss_cons (ps_set (i := 1) sc__law_number.nd rfl (by first | exact Or.inl rfl | exact Or.inr rfl) (pe_call G__law_next (hr.mono (by decide)) (by rfl) T.mg__law_next T.kp__law_next B__law_next .nil pass0 (pa_cons (pv 0) (pa_cons pe_int pa_nil))))
      (pss_cons (ps_if (pt_cmpR (op_eqD (K := K) rfl hr.units) (pe_call G__law_next (hr.mono (by decide)) (by rfl) T.mg__law_next T.kp__law_next B__law_next .nil pass0 (pa_cons (pv 0) (pa_cons pe_int pa_nil))) pe_int (nomark _)) (pss_cons (ps_for PassesOwn.never rfl (pi_range1 (by rfl) T.z_range (pa_cons pe_int pa_nil)) (pg_name (i := 2) sc__law_number.nd rfl (by first | exact Or.inl rfl | exact Or.inr rfl)) (pss_one (ps_set (i := 1) sc__law_number.nd rfl (by first | exact Or.inl rfl | exact Or.inr rfl) (pe_op (op_addG (K := K) rfl) (pe_op (op_mulG (K := K) rfl) (pv 1) (pe_op op_pow pe_int pe_int)) (pe_call G__law_next (hr.mono (by decide)) (by rfl) T.mg__law_next T.kp__law_next B__law_next .nil pass0 (pa_cons (pv 0) (pa_cons (pe_op op_pow pe_int pe_int) pa_nil)))))))
      (pss_one (ps_set (i := 1) sc__law_number.nd rfl (by first | exact Or.inl rfl | exact Or.inr rfl) (pe_op (op_addG (K := K) rfl) (pe_op (op_mulG (K := K) rfl) (pv 1) (pe_op op_pow pe_int pe_int)) (pe_call G__law_next (hr.mono (by decide)) (by rfl) T.mg__law_next T.kp__law_next B__law_next .nil pass0 (pa_cons (pv 0) (pa_cons (pe_op op_pow pe_int pe_int) pa_nil))))))) pss_nil)
      (pss_cons (ps_if (pt_cmpR (op_eqD (K := K) rfl hr.units) (pe_call G__law_next (hr.mono (by decide)) (by rfl) T.mg__law_next T.kp__law_next B__law_next .nil pass0 (pa_cons (pv 0) (pa_cons pe_int pa_nil))) pe_int (nomark _)) (pss_one (ps_ret (pe_un un_neg (pv 1)))) pss_nil)
      (pss_one (ps_ret (pv 1)))))), ?_⟩
    exact spS_body (O' := []) (Nms := ["_law_state", "_law_number_here", "_law_k"]) (f := b__law_number) (by
      unfold b__law_number
      exact (ms_seq (O1 := [0]) (ms_set (me_callS (i := 0) n__law_next (by decide) (ma_cons me_int ma_nil)) rfl (by decide))
      (ms_seq (O1 := [0]) (ms_if (mt_test (me_opB os_eq (me_callS (i := 0) n__law_next (by decide) (ma_cons me_int ma_nil)) me_int.mb)) (ms_seq (O1 := [0]) (ms_for (O' := [0]) (mi_range1 (ma_cons me_int ma_nil)) rfl (mg_name (i := 2) (by decide))
      (ms_set (me_op og_add (me_op og_mulG (me_var (i := 1) (by decide)) (me_op og_pow me_int me_int)) (me_callS (i := 0) n__law_next (by decide) (ma_cons (me_op og_pow me_int me_int) ma_nil))) rfl (by decide)))
      (ms_set (me_op og_add (me_op og_mulG (me_var (i := 1) (by decide)) (me_op og_pow me_int me_int)) (me_callS (i := 0) n__law_next (by decide) (ma_cons (me_op og_pow me_int me_int) ma_nil))) rfl (by decide))) (ms_nil rfl))
      (ms_seq (O1 := [0]) (ms_if (mt_test (me_opB os_eq (me_callS (i := 0) n__law_next (by decide) (ma_cons me_int ma_nil)) me_int.mb)) (ms_ret rfl (me_neg (me_var (i := 1) (by decide))) rfl) (ms_nil rfl))
      (ms_ret rfl (me_var (i := 1) (by decide)) rfl))))) h
noncomputable def b__law_heard : Rho → Option Out :=
  (sSeq (sOwn 2 (mLst mNil))
  (sSeq (sFor (mSeq (mSl (mVar 0) (mPart (mRet (.int 1))) (mPart (mRet (.int 81))))) (gSet 3)
    (sSeq (sOwn 4 (mLst (mCons (mOp2 dMod (mOp2 dAdd (mIxO 1 (mRet (.int 0))) (mOp2 dMod (mVar 3) (mOp2 dPow (mRet (.int 10)) (mRet (.int 30))))) (mOp2 dSub (mOp2 dPow (mRet (.int 2)) (mRet (.int 61))) (mRet (.int 1)))) mNil)))
  (sSeq (sSet 5 (mCallS f__law_next 4 (mCons (mRet (.int 5)) mNil)))
  (sIf (mTest (mOp2 dLt (mVar 5) (mRet (.int 2))))
    (sMut dAppend 2 (mCons (mTup (mCons (mRet (.str "clear")) (mCons (mVar 5) mNil))) mNil))
    (sIf (mTest (mOp2 dEq (mVar 5) (mRet (.int 2))))
    (sMut dAppend 2 (mCons (mTup (mCons (mRet (.str "gap")) mNil)) mNil))
    (sSeq (sSet 6 (mCallS f__law_number 4 mNil))
  (sMut dAppend 2 (mCons (mTup (mCons (mRet (.str "soft")) (mCons (mVar 6) (mCons (mCallS f__law_number 4 mNil) mNil)))) mNil))))))))
  (sRet (mVar 2))))
noncomputable def f__law_heard : List D → List D → Option (D × List D) := runS1 false 2 7 b__law_heard
theorem n__law_heard : runsS1 2 f__law_heard := runS1_n
theorem ok__law_heard (T : Txt K mg a) : FnOk P w K mg base CX0 3 a.f__law_heard a.fd__law_heard ["_law_script", "_law_state"] (spS1 K false 2 f__law_heard) := by
  have G__law_next := ok__law_next (P := P) (w := w) (base := base) T
  have B__law_next := T.B__law_next
  have G__law_number := ok__law_number (P := P) (w := w) (base := base) T
  have B__law_number := T.B__law_number
  refine T.F__law_heard.ok sc__law_heard (fun vs H Q E h => ?_) (fun cdv A outer s H vs Q E hr h => ?_)
  · exact h.1
  · refine ⟨_, (pss_cons (ps_set (i := 2) sc__law_heard.nd rfl (by first | exact Or.inl rfl | exact Or.inr rfl) (pe_lst pa_nil))
      (pss_cons (ps_for PassesOwn.never rfl (pi_seqK (K := K) rfl (pe_slice (sl_seqK (K := K) rfl) (pv 0) (po_some pe_int) (po_some pe_int))) (pg_name (i := 3) sc__law_heard.nd rfl (by first | exact Or.inl rfl | exact Or.inr rfl)) (pss_cons (ps_set (i := 4) sc__law_heard.nd rfl (by first | exact Or.inl rfl | exact Or.inr rfl) (pe_lst (pa_cons (pe_op op_mod (pe_op (op_addG (K := K) rfl) (pe_ix (ix_seqK (K := K) rfl) (pv 1) pe_int (fun _ _ => rfl)) (pe_op op_mod (pv 3) (pe_op op_pow pe_int pe_int))) (pe_op op_sub (pe_op op_pow pe_int pe_int) pe_int)) pa_nil)))
      (pss_cons (ps_set (i := 5) sc__law_heard.nd rfl (by first | exact Or.inl rfl | exact Or.inr rfl) (pe_call G__law_next (hr.mono (by decide)) (by rfl) T.mg__law_next T.kp__law_next B__law_next .nil pass0 (pa_cons (pv 4) (pa_cons pe_int pa_nil))))
      (pss_one (ps_if (pt_cmpR op_lt (pv 5) pe_int (nomark _)) (pss_one (ps_expr (pe_bm PySem.F.plainAttrs_list PySem.F.slot_list_append PySem.F.type_list_append mt_append (pv 2) (pa_cons (pe_tup (pa_cons pe_str (pa_cons (pv 5) pa_nil))) pa_nil)))) (pss_one (ps_if (pt_cmpR (op_eqD (K := K) rfl hr.units) (pv 5) pe_int (nomark _)) (pss_one (ps_expr (pe_bm PySem.F.plainAttrs_list PySem.F.slot_list_append PySem.F.type_list_append mt_append (pv 2) (pa_cons (pe_tup (pa_cons pe_str pa_nil)) pa_nil)))) (pss_cons (ps_set (i := 6) sc__law_heard.nd rfl (by first | exact Or.inl rfl | exact Or.inr rfl) (pe_call G__law_number (hr.mono (by decide)) (by rfl) T.mg__law_number T.kp__law_number B__law_number .nil pass0 (pa_cons (pv 4) pa_nil)))
      (pss_one (ps_expr (pe_bm PySem.F.plainAttrs_list PySem.F.slot_list_append PySem.F.type_list_append mt_append (pv 2) (pa_cons (pe_tup (pa_cons pe_str (pa_cons (pv 6) (pa_cons (pe_call G__law_number (hr.mono (by decide)) (by rfl) T.mg__law_number T.kp__law_number B__law_number .nil pass0 (pa_cons (pv 4) pa_nil)) pa_nil)))) pa_nil))))))))))))
      (pss_one (ps_ret (pv 2))))), ?_⟩
    exact spS1_body (O' := []) (Nms := ["_law_script", "_law_state", "_law_heard_here", "_law_cell", "_law_drawn", "_law_way", "_law_zero"]) (f := b__law_heard) (by
      unfold b__law_heard
      exact (ms_seq (O1 := [1, 2]) (ms_own (mn_lst ma_nil) rfl)
      (ms_seq (O1 := [1]) (ms_weak (ms_for (O' := [1, 2]) (mi_seq (me_slice (me_var (i := 0) (by decide)) (mo_some me_int) (mo_some me_int))) rfl (mg_name (i := 3) (by decide))
      (ms_seq (O1 := [1, 2, 4]) (ms_own (mn_lst (ma_cons (me_op og_mod (me_op og_add (me_ixO (i := 1) (by decide) me_int) (me_op og_mod (me_var (i := 3) (by decide)) (me_op og_pow me_int me_int))) (me_op og_sub (me_op og_pow me_int me_int) me_int)) ma_nil)) rfl)
      (ms_seq (O1 := [1, 2, 4]) (ms_set (me_callS (i := 4) n__law_next (by decide) (ma_cons me_int ma_nil)) rfl (by decide))
      (ms_if (mt_test (me_opB os_b0 (me_var (i := 5) (by decide)) me_int.mb)) (ms_mut mu_append (by decide) (ma_cons (me_tup (ma_cons me_str (ma_cons (me_var (i := 5) (by decide)) ma_nil))) ma_nil) rfl) (ms_if (mt_test (me_opB os_eq (me_var (i := 5) (by decide)) me_int.mb)) (ms_mut mu_append (by decide) (ma_cons (me_tup (ma_cons me_str ma_nil)) ma_nil) rfl) (ms_seq (O1 := [1, 2, 4]) (ms_set (me_callS (i := 4) n__law_number (by decide) ma_nil) rfl (by decide))
      (ms_mut mu_append (by decide) (ma_cons (me_tup (ma_cons me_str (ma_cons (me_var (i := 6) (by decide)) (ma_cons (me_callS (i := 4) n__law_number (by decide) ma_nil) ma_nil)))) ma_nil) rfl))))))) rfl)
      (ms_ret rfl (me_var (i := 2) (by decide)) rfl)))) h
noncomputable def b__law_places : Rho → Option Out :=
  (sSeq (sOwn 2 (mLst mNil))
  (sSeq (sSet 3 (mOp1 dNeg (mRet (.int 1))))
  (sSeq (sFor (mSeq (mSl (mVar 0) (mPart (mRet (.int 1))) (mPart (mRet (.int 61))))) (gSet 4)
    (sSeq (sOwn 5 (mLst (mCons (mOp2 dMod (mOp2 dAdd (mIxO 1 (mRet (.int 0))) (mOp2 dMod (mVar 4) (mOp2 dPow (mRet (.int 10)) (mRet (.int 30))))) (mOp2 dSub (mOp2 dPow (mRet (.int 2)) (mRet (.int 61))) (mRet (.int 1)))) mNil)))
  (sSeq (sSet 6 (mOp2 dIx (mOf (mLst (mCons (mOp2 dAdd (mRet (.int 1)) (mCallS f__law_next 5 (mCons (mRet (.int 3)) mNil))) (mCons (mOp2 dAdd (mRet (.int 1)) (mCallS f__law_next 5 (mCons (mOp2 dPow (mRet (.int 10)) (mRet (.int 10))) mNil))) mNil)))) (mOp1 dInt (mOp2 dEq (mCallS f__law_next 5 (mCons (mRet (.int 9)) mNil)) (mRet (.int 0))))))
  (sSeq (sSet 3 (mOp2 dAdd (mVar 3) (mVar 6)))
  (sMut dAppend 2 (mCons (mVar 3) mNil))))))
  (sSeq (sOwn 2 (mSlL (mVar 2) (mRet none) (mPart (mCallS f__law_next 1 (mCons (mRet (.int 61)) mNil)))))
  (sSeq (sIf (mTest (mOp2 dEq (mCallS f__law_next 1 (mCons (mRet (.int 4)) mNil)) (mRet (.int 0))))
    (sMut dAppend 2 (mCons (mOp2 dSub (mOp2 dSub (mOp2 dPow (mRet (.int 10)) (mRet (.int 60))) (mRet (.int 1))) (mCallS f__law_next 1 (mCons (mOp2 dPow (mRet (.int 10)) (mRet (.int 10))) mNil))) mNil))
    sNil)
  (sRet (mVar 2)))))))
noncomputable def f__law_places : List D → List D → Option (D × List D) := runS1 false 2 7 b__law_places
theorem n__law_places : runsS1 2 f__law_places := runS1_n
theorem ok__law_places (T : Txt K mg a) : FnOk P w K mg base CX0 2 a.f__law_places a.fd__law_places ["_law_script", "_law_state"] (spS1 K false 2 f__law_places) := by
  have G__law_next := ok__law_next (P := P) (w := w) (base := base) T
  have B__law_next := T.B__law_next
  refine T.F__law_places.ok sc__law_places (fun vs H Q E h => ?_) (fun cdv A outer s H vs Q E hr h => ?_)
  · exact h.1
  · refine ⟨_, (pss_cons (ps_set (i := 2) sc__law_places.nd rfl (by first | exact Or.inl rfl | exact Or.inr rfl) (pe_lst pa_nil))
      (pss_cons (ps_set (i := 3) sc__law_places.nd rfl (by first | exact Or.inl rfl | exact Or.inr rfl) (pe_un un_neg pe_int))
      (pss_cons (ps_for PassesOwn.never rfl (pi_seqK (K := K) rfl (pe_slice (sl_seqK (K := K) rfl) (pv 0) (po_some pe_int) (po_some pe_int))) (pg_name (i := 4) sc__law_places.nd rfl (by first | exact Or.inl rfl | exact Or.inr rfl)) (pss_cons (ps_set (i := 5) sc__law_places.nd rfl (by first | exact Or.inl rfl | exact Or.inr rfl) (pe_lst (pa_cons (pe_op op_mod (pe_op (op_addG (K := K) rfl) (pe_ix (ix_seqK (K := K) rfl) (pv 1) pe_int (fun _ _ => rfl)) (pe_op op_mod (pv 4) (pe_op op_pow pe_int pe_int))) (pe_op op_sub (pe_op op_pow pe_int pe_int) pe_int)) pa_nil)))
      (pss_cons (ps_set (i := 6) sc__law_places.nd rfl (by first | exact Or.inl rfl | exact Or.inr rfl) (pe_ix (ix_seqK (K := K) rfl) (pe_lst (pa_cons (pe_op (op_addG (K := K) rfl) pe_int (pe_call G__law_next (hr.mono (by decide)) (by rfl) T.mg__law_next T.kp__law_next B__law_next .nil pass0 (pa_cons (pv 5) (pa_cons pe_int pa_nil)))) (pa_cons (pe_op (op_addG (K := K) rfl) pe_int (pe_call G__law_next (hr.mono (by decide)) (by rfl) T.mg__law_next T.kp__law_next B__law_next .nil pass0 (pa_cons (pv 5) (pa_cons (pe_op op_pow pe_int pe_int) pa_nil)))) pa_nil))) (pe_callTy call_int1 (by rfl) T.z_int (by rfl) (pa_cons (pe_cmpR (op_eqD (K := K) rfl hr.units) (pe_call G__law_next (hr.mono (by decide)) (by rfl) T.mg__law_next T.kp__law_next B__law_next .nil pass0 (pa_cons (pv 5) (pa_cons pe_int pa_nil))) pe_int (nomark _)) pa_nil)) (fun _ _ => rfl)))
      (pss_cons (ps_set (i := 3) sc__law_places.nd rfl (by first | exact Or.inl rfl | exact Or.inr rfl) (pe_op (op_addG (K := K) rfl) (pv 3) (pv 6)))
      (pss_one (ps_expr (pe_bm PySem.F.plainAttrs_list PySem.F.slot_list_append PySem.F.type_list_append mt_append (pv 2) (pa_cons (pv 3) pa_nil))))))))
      (pss_cons (ps_set (i := 2) sc__law_places.nd rfl (by first | exact Or.inl rfl | exact Or.inr rfl) (pe_slice (sl_seqK (K := K) rfl) (pv 2) po_none (po_some (pe_call G__law_next (hr.mono (by decide)) (by rfl) T.mg__law_next T.kp__law_next B__law_next .nil pass0 (pa_cons (pv 1) (pa_cons pe_int pa_nil))))))
      (pss_cons (ps_if (pt_cmpR (op_eqD (K := K) rfl hr.units) (pe_call G__law_next (hr.mono (by decide)) (by rfl) T.mg__law_next T.kp__law_next B__law_next .nil pass0 (pa_cons (pv 1) (pa_cons pe_int pa_nil))) pe_int (nomark _)) (pss_one (ps_expr (pe_bm PySem.F.plainAttrs_list PySem.F.slot_list_append PySem.F.type_list_append mt_append (pv 2) (pa_cons (pe_op op_sub (pe_op op_sub (pe_op op_pow pe_int pe_int) pe_int) (pe_call G__law_next (hr.mono (by decide)) (by rfl) T.mg__law_next T.kp__law_next B__law_next .nil pass0 (pa_cons (pv 1) (pa_cons (pe_op op_pow pe_int pe_int) pa_nil)))) pa_nil)))) pss_nil)
      (pss_one (ps_ret (pv 2)))))))), ?_⟩
    exact spS1_body (O' := []) (Nms := ["_law_script", "_law_state", "_law_places_here", "_law_last", "_law_cell", "_law_drawn", "_law_gap"]) (f := b__law_places) (by
      unfold b__law_places
      exact (ms_seq (O1 := [1, 2]) (ms_own (mn_lst ma_nil) rfl)
      (ms_seq (O1 := [1, 2]) (ms_set (me_neg me_int) rfl (by decide))
      (ms_seq (O1 := [1]) (ms_weak (ms_for (O' := [1, 2]) (mi_seq (me_slice (me_var (i := 0) (by decide)) (mo_some me_int) (mo_some me_int))) rfl (mg_name (i := 4) (by decide))
      (ms_seq (O1 := [1, 2, 5]) (ms_own (mn_lst (ma_cons (me_op og_mod (me_op og_add (me_ixO (i := 1) (by decide) me_int) (me_op og_mod (me_var (i := 4) (by decide)) (me_op og_pow me_int me_int))) (me_op og_sub (me_op og_pow me_int me_int) me_int)) ma_nil)) rfl)
      (ms_seq (O1 := [1, 2]) (ms_set (me_op op_ix (me_new (mn_lst (ma_cons (me_op og_add me_int (me_callS (i := 5) n__law_next (by decide) (ma_cons me_int ma_nil))) (ma_cons (me_op og_add me_int (me_callS (i := 5) n__law_next (by decide) (ma_cons (me_op og_pow me_int me_int) ma_nil))) ma_nil)))) (me_call1 cs_int (me_opB os_eq (me_callS (i := 5) n__law_next (by decide) (ma_cons me_int ma_nil)) me_int.mb).mb)) rfl (by decide))
      (ms_seq (O1 := [1, 2]) (ms_set (me_op og_add (me_var (i := 3) (by decide)) (me_var (i := 6) (by decide))) rfl (by decide))
      (ms_mut mu_append (by decide) (ma_cons (me_var (i := 3) (by decide)) ma_nil) rfl))))) rfl)
      (ms_seq (O1 := [1, 2]) (ms_own (mn_slice (me_var (i := 2) (by decide)) mo_none (mo_some (me_callS (i := 1) n__law_next (by decide) (ma_cons me_int ma_nil)))) rfl)
      (ms_seq (O1 := [1]) (ms_if (mt_test (me_opB os_eq (me_callS (i := 1) n__law_next (by decide) (ma_cons me_int ma_nil)) me_int.mb)) (ms_mut mu_append (by decide) (ma_cons (me_op og_sub (me_op og_sub (me_op og_pow me_int me_int) me_int) (me_callS (i := 1) n__law_next (by decide) (ma_cons (me_op og_pow me_int me_int) ma_nil))) ma_nil) rfl) (ms_nil rfl))
      (ms_ret rfl (me_var (i := 2) (by decide)) rfl))))))) h
noncomputable def b__law_pieces : Rho → Option Out :=
  (sSeq (sIf (mNot (mTest (mOp1 (dIsi (isTab "str")) (mVar 0))))
    (sRet (mRet (.bl false)))
    sNil)
  (sSeq (sIf (mTest (mOp2 dEq (mVar 2) (mOf (mLst mNil))))
    (sRet (mOp2 dEq (mVar 0) (mRet (.str ""))))
    sNil)
  (sRet (mOp2 dEq (mOf (mOp2L dSplit (mVar 0) (mVar 1))) (mVar 2)))))
noncomputable def f__law_pieces : List D → Option D := runP false 3 3 b__law_pieces
theorem n__law_pieces : runsN 3 f__law_pieces := runP_n
theorem ok__law_pieces (T : Txt K mg a) : FnOk P w K mg base CX0 1 a.f__law_pieces a.fd__law_pieces ["_law_text", "_law_sign", "_law_due"] (spP K false 3 f__law_pieces) := by
  refine T.F__law_pieces.ok sc__law_pieces (fun vs H Q E h => ?_) (fun cdv A outer s H vs Q E hr h => ?_)
  · exact h.1
  · refine ⟨_, (pss_cons (ps_if (pt_not (pt_val (pe_callB (call_isO (K := K) rfl) (by rfl) T.z_isinstance (by rfl) (pa_cons (pv 0) (pa_cons (pe_bltn (v := .ty "str") (by rfl) T.z_str (by rfl) rfl) pa_nil))))) (pss_one (ps_ret pe_bl)) pss_nil)
      (pss_cons (ps_if (pt_cmpR (op_eqD (K := K) rfl hr.units) (pv 2) (pe_lst pa_nil) (nomark _)) (pss_one (ps_ret (pe_cmpR (op_eqD (K := K) rfl hr.units) (pv 0) pe_str (nomark _)))) pss_nil)
      (pss_one (ps_ret (pe_cmpR (op_eqD (K := K) rfl hr.units) (pe_bm PySem.F.plainAttrs_str PySem.F.slot_str_split PySem.F.type_str_split mt_split (pv 0) (pa_cons (pv 1) pa_nil)) (pv 2) (nomark _)))))), ?_⟩
    exact spP_body (O' := []) (Nms := ["_law_text", "_law_sign", "_law_due"]) (f := b__law_pieces) (by
      unfold b__law_pieces
      exact (ms_seq (O1 := []) (ms_if (mt_not (mt_val (me_isi (isi_str T) mb_var))) (ms_ret rfl me_bl rfl) (ms_nil rfl))
      (ms_seq (O1 := []) (ms_if (mt_test (me_opB os_eq (me_var (i := 2) (by decide)) (me_new (mn_lst ma_nil)).mb)) (ms_ret rfl (me_opB os_eq (me_var (i := 0) (by decide)) me_str.mb) rfl) (ms_nil rfl))
      (ms_ret rfl (me_opB os_eq (me_new (mn_split (me_var (i := 0) (by decide)) (me_var (i := 1) (by decide)))) mb_var) rfl)))) h
noncomputable def b__law_heard_piece : Rho → Option Out :=
  (sSeq (sIf (mTest (mOp2 dEq (mOp2 dIx (mVar 0) (mRet (.int 0))) (mRet (.str "soft"))))
    (sRet (mOp2 dAdd (mOp2 dAdd (mOp1 dStr (mOp2 dIx (mVar 0) (mRet (.int 1)))) (mRet (.str "/"))) (mOp1 dStr (mOp2 dIx (mVar 0) (mRet (.int 2))))))
    sNil)
  (sSeq (sIf (mTest (mOp2 dEq (mOp2 dIx (mVar 0) (mRet (.int 0))) (mRet (.str "clear"))))
    (sRet (mOp2 dIx (mOf (mLst (mCons (mRet (.str "0")) (mCons (mRet (.str "1")) mNil)))) (mOp2 dIx (mVar 0) (mRet (.int 1)))))
    sNil)
  (sRet (mRet (.str "?")))))
noncomputable def f__law_heard_piece : List D → Option D := runP false 1 1 b__law_heard_piece
theorem n__law_heard_piece : runsN 1 f__law_heard_piece := runP_n
theorem ok__law_heard_piece (T : Txt K mg a) : FnOk P w K mg base CX0 1 a.f__law_heard_piece a.fd__law_heard_piece ["_law_told"] (spP K false 1 f__law_heard_piece) := by
  refine T.F__law_heard_piece.ok sc__law_heard_piece (fun vs H Q E h => ?_) (fun cdv A outer s H vs Q E hr h => ?_)
  · exact h.1
  · refine ⟨_, (pss_cons (ps_if (pt_cmpR (op_eqD (K := K) rfl hr.units) (pe_ix (ix_seqK (K := K) rfl) (pv 0) pe_int (fun _ _ => rfl)) pe_str (nomark _)) (pss_one (ps_ret (pe_op (op_addG (K := K) rfl) (pe_op (op_addG (K := K) rfl) (pe_callTy call_strI (by rfl) T.z_str (by rfl) (pa_cons (pe_ix (ix_seqK (K := K) rfl) (pv 0) pe_int (fun _ _ => rfl)) pa_nil)) pe_str) (pe_callTy call_strI (by rfl) T.z_str (by rfl) (pa_cons (pe_ix (ix_seqK (K := K) rfl) (pv 0) pe_int (fun _ _ => rfl)) pa_nil))))) pss_nil)
      (pss_cons (ps_if (pt_cmpR (op_eqD (K := K) rfl hr.units) (pe_ix (ix_seqK (K := K) rfl) (pv 0) pe_int (fun _ _ => rfl)) pe_str (nomark _)) (pss_one (ps_ret (pe_ix (ix_seqK (K := K) rfl) (pe_lst (pa_cons pe_str (pa_cons pe_str pa_nil))) (pe_ix (ix_seqK (K := K) rfl) (pv 0) pe_int (fun _ _ => rfl)) (fun _ _ => rfl)))) pss_nil)
      (pss_one (ps_ret pe_str)))), ?_⟩
    exact spP_body (O' := []) (Nms := ["_law_told"]) (f := b__law_heard_piece) (by
      unfold b__law_heard_piece
      exact (ms_seq (O1 := []) (ms_if (mt_test (me_opB os_eq (me_op op_ix (me_var (i := 0) (by decide)) me_int) me_str.mb)) (ms_ret rfl (me_op og_add (me_op og_add (me_call1 cs_str (me_op op_ix (me_var (i := 0) (by decide)) me_int).mb) me_str) (me_call1 cs_str (me_op op_ix (me_var (i := 0) (by decide)) me_int).mb)) rfl) (ms_nil rfl))
      (ms_seq (O1 := []) (ms_if (mt_test (me_opB os_eq (me_op op_ix (me_var (i := 0) (by decide)) me_int) me_str.mb)) (ms_ret rfl (me_op op_ix (me_new (mn_lst (ma_cons me_str (ma_cons me_str ma_nil)))) (me_op op_ix (me_var (i := 0) (by decide)) me_int)) rfl) (ms_nil rfl))
      (ms_ret rfl me_str rfl)))) h
noncomputable def b_law : Rho → Option Out :=
  (sSeq (sOwn 1 (mLst (mCons (mCall f__law_seed (mCons (mVar 0) mNil)) mNil)))
  (sSeq (sSet 2 (mCallS f__law_scheme 1 mNil))
  (sSeq (sOwn 3 (mOp2L dCatL (mOp2 dAdd (mOf (mLst (mCons (mRet (.str "reach")) (mCons (mOp1 dStr (mOp2 dIx (mVar 2) (mRet (.int 0)))) (mCons (mRet (.str "taps")) mNil))))) (mOf (mComp 1 [] none (mSeq (mOp2 dIx (mVar 2) (mRet (.int 1)))) (gSet 0)
      (mRet true) (mOp1 dStr (mVar 0))))) (mOf (mLst (mCons (mRet (.str "rows")) mNil)))))
  (sSeq (sFor (mSeq (mOp2 dIx (mVar 2) (mRet (.int 2)))) (gSet 4)
    (sMut dAppend 3 (mCons (mOp2 dJoin (mRet (.str "")) (mOf (mComp 1 [] none (mSeq (mVar 4)) (gSet 0)
      (mRet true) (mOp2 dIx (mOf (mLst (mCons (mRet (.str "0")) (mCons (mRet (.str "1")) mNil)))) (mVar 0))))) mNil)))
  (sSeq (sSet 5 (mCall f_shown_scheme (mCons (mVar 2) mNil)))
  (sSeq (sIf (mOr (mNot (mTest (mCall f__law_pieces (mCons (mVar 5) (mCons (mRet (.str " ")) (mCons (mOp2 dAdd (mVar 3) (mOf (mLst (mCons (mOp2 dIx (mVar 2) (mRet (.int 3))) mNil)))) mNil)))))) (mTest (mOp2 dNe (mCall f_read_scheme (mCons (mVar 5) mNil)) (mVar 2))))
    (sRet (mRet (.bl false)))
    sNil)
  (sSeq (sSet 6 (mOf (mComp 1 [] none (mSeq (mSl (mVar 0) (mRet none) (mPart (mRet (.int 60))))) (gSet 0)
      (mRet true) (mOp2 dMod (mOp2 dAdd (mVar 0) (mRet (.int 1))) (mRet (.int 2))))))
  (sSeq (sSet 5 (mCall f_shown_word (mCons (mOf (mOp1L dSeq (mVar 6))) mNil)))
  (sSeq (sIf (mOr (mTest (mOp2 dNe (mCall f_read_word (mCons (mVar 5) mNil)) (mVar 6))) (mTest (mOp2 dNe (mVar 5) (mOp2 dIx (mOf (mLst (mCons (mRet (.str "-")) (mCons (mOp2 dJoin (mRet (.str "")) (mOf (mComp 1 [] none (mSeq (mVar 6)) (gSet 0)
      (mRet true) (mOp2 dIx (mOf (mLst (mCons (mRet (.str "0")) (mCons (mRet (.str "1")) mNil)))) (mVar 0))))) mNil)))) (mOp1 dInt (mOp2 dGt (mOp1 dLen (mVar 6)) (mRet (.int 0))))))))
    (sRet (mRet (.bl false)))
    sNil)
  (sSeq (sSet 7 (mCallS1 f__law_heard 1 (mVar 0) mNil))
  (sSeq (sSet 8 (mOf (mOp1L dSeq (mVar 7))))
  (sSeq (sSet 5 (mCall f_shown_heard (mCons (mVar 8) mNil)))
  (sSeq (sIf (mOr (mNot (mTest (mCall f__law_pieces (mCons (mVar 5) (mCons (mRet (.str " ")) (mCons (mOf (mComp 1 [] none (mSeq (mVar 7)) (gSet 0)
      (mRet true) (mCall f__law_heard_piece (mCons (mVar 0) mNil)))) mNil)))))) (mTest (mOp2 dNe (mVar 8) (mVar 7))))
    (sRet (mRet (.bl false)))
    sNil)
  (sSeq (sIf (mTest (mOp2 dNe (mCall f_read_heard (mCons (mVar 5) mNil)) (mVar 7)))
    (sRet (mRet (.bl false)))
    sNil)
  (sSeq (sSet 9 (mCallS1 f__law_places 1 (mVar 0) mNil))
  (sSeq (sSet 5 (mCall f_shown_places (mCons (mOf (mOp1L dSeq (mVar 9))) mNil)))
  (sSeq (sIf (mTest (mOp2 dNe (mCall f_read_places (mCons (mVar 5) mNil)) (mVar 9)))
    (sRet (mRet (.bl false)))
    sNil)
  (sRet (mOrV (mAndV (mOp2 dEq (mVar 5) (mRet (.str "-"))) (mOp2 dEq (mVar 9) (mOf (mLst mNil)))) (mCall f__law_pieces (mCons (mVar 5) (mCons (mRet (.str ",")) (mCons (mOf (mComp 1 [] none (mSeq (mVar 9)) (gSet 0)
      (mRet true) (mOp1 dStr (mVar 0)))) mNil)))))))))))))))))))))))
noncomputable def f_law : List D → Option D := runP false 1 10 b_law
theorem ok_law (T : Txt K mg a) : FnOk P w K mg base CX0 7 a.f_law a.fd_law ["_law_script"] (spP K false 1 f_law) := by
  have G__law_seed := ok__law_seed (P := P) (w := w) (base := base) T
  have B__law_seed := T.B__law_seed
  have G__law_scheme := ok__law_scheme (P := P) (w := w) (base := base) T
  have B__law_scheme := T.B__law_scheme
  have G_shown_scheme := ok_shown_scheme (P := P) (w := w) (base := base) T
  have B_shown_scheme := T.B_shown_scheme
  have G_read_scheme := ok_read_scheme (P := P) (w := w) (base := base) T
  have B_read_scheme := T.B_read_scheme
  have G__law_pieces := ok__law_pieces (P := P) (w := w) (base := base) T
  have B__law_pieces := T.B__law_pieces
  have G_shown_word := ok_shown_word (P := P) (w := w) (base := base) T
  have B_shown_word := T.B_shown_word
  have G_read_word := ok_read_word (P := P) (w := w) (base := base) T
  have B_read_word := T.B_read_word
  have G__law_heard := ok__law_heard (P := P) (w := w) (base := base) T
  have B__law_heard := T.B__law_heard
  have G_shown_heard := ok_shown_heard (P := P) (w := w) (base := base) T
  have B_shown_heard := T.B_shown_heard
  have G__law_heard_piece := ok__law_heard_piece (P := P) (w := w) (base := base) T
  have B__law_heard_piece := T.B__law_heard_piece
  have G_read_heard := ok_read_heard (P := P) (w := w) (base := base) T
  have B_read_heard := T.B_read_heard
  have G__law_places := ok__law_places (P := P) (w := w) (base := base) T
  have B__law_places := T.B__law_places
  have G_shown_places := ok_shown_places (P := P) (w := w) (base := base) T
  have B_shown_places := T.B_shown_places
  have G_read_places := ok_read_places (P := P) (w := w) (base := base) T
  have B_read_places := T.B_read_places
  refine T.F_law.ok sc_law (fun vs H Q E h => ?_) (fun cdv A outer s H vs Q E hr h => ?_)
  · exact h.1
  · refine ⟨_, (pss_cons (ps_set (i := 1) sc_law.nd rfl (by first | exact Or.inl rfl | exact Or.inr rfl) (pe_lst (pa_cons (pe_call G__law_seed (hr.mono (by decide)) (by rfl) T.mg__law_seed T.kp__law_seed B__law_seed .nil pass0 (pa_cons (pv 0) pa_nil)) pa_nil)))
      (pss_cons (ps_set (i := 2) sc_law.nd rfl (by first | exact Or.inl rfl | exact Or.inr rfl) (pe_call G__law_scheme (hr.mono (by decide)) (by rfl) T.mg__law_scheme T.kp__law_scheme B__law_scheme .nil pass0 (pa_cons (pv 1) pa_nil)))
      (pss_cons (ps_set (i := 3) sc_law.nd rfl (by first | exact Or.inl rfl | exact Or.inr rfl) (pe_op (op_addG (K := K) rfl) (pe_op (op_addG (K := K) rfl) (pe_lst (pa_cons pe_str (pa_cons (pe_callTy call_strI (by rfl) T.z_str (by rfl) (pa_cons (pe_ix (ix_seqK (K := K) rfl) (pv 2) pe_int (fun _ _ => rfl)) pa_nil)) (pa_cons pe_str pa_nil)))) (pe_comp (sc := defScope s_law) (N0 := ["_law_script", "_law_state", "_law_scheme_here", "_law_due", "_law_row", "_law_text", "_law_word", "_law_heard_here", "_law_handed", "_law_places_here"]) rfl rfl rfl (show compOk _ _ ["_law_tap"] 1 [] _ = true by decide +kernel) (pi_seqK (K := K) rfl (pe_ix (ix_seqK (K := K) rfl) (pv 2) pe_int (fun _ _ => rfl))) (fun _ _ _ _ _ => (pg_name (i := 0) (show List.Nodup (["_law_tap"] : List Str) from (by decide +kernel)) rfl (Or.inl rfl))) (own_name (by decide)) (fun _ _ _ _ _ => pif_nil) (fun _ _ _ _ _ => (pe_callTy call_strI (by rfl) T.z_str (by rfl) (pa_cons (pv 0) pa_nil))))) (pe_lst (pa_cons pe_str pa_nil))))
      (pss_cons (ps_for PassesOwn.never rfl (pi_seqK (K := K) rfl (pe_ix (ix_seqK (K := K) rfl) (pv 2) pe_int (fun _ _ => rfl))) (pg_name (i := 4) sc_law.nd rfl (by first | exact Or.inl rfl | exact Or.inr rfl)) (pss_one (ps_expr (pe_bm PySem.F.plainAttrs_list PySem.F.slot_list_append PySem.F.type_list_append mt_append (pv 3) (pa_cons (pe_bm PySem.F.plainAttrs_str PySem.F.slot_str_join PySem.F.type_str_join (mt_joinS (K := K) rfl) pe_str (pa_cons (pe_comp (sc := defScope s_law) (N0 := ["_law_script", "_law_state", "_law_scheme_here", "_law_due", "_law_row", "_law_text", "_law_word", "_law_heard_here", "_law_handed", "_law_places_here"]) rfl rfl rfl (show compOk _ _ ["_law_bit"] 1 [] _ = true by decide +kernel) (pi_seqK (K := K) rfl (pv 4)) (fun _ _ _ _ _ => (pg_name (i := 0) (show List.Nodup (["_law_bit"] : List Str) from (by decide +kernel)) rfl (Or.inl rfl))) (own_name (by decide)) (fun _ _ _ _ _ => pif_nil) (fun _ _ _ _ _ => (pe_ix (ix_seqK (K := K) rfl) (pe_lst (pa_cons pe_str (pa_cons pe_str pa_nil))) (pv 0) (fun _ _ => rfl)))) pa_nil)) pa_nil)))))
      (pss_cons (ps_set (i := 5) sc_law.nd rfl (by first | exact Or.inl rfl | exact Or.inr rfl) (pe_call G_shown_scheme (hr.mono (by decide)) (by rfl) T.mg_shown_scheme T.kp_shown_scheme B_shown_scheme .nil pass0 (pa_cons (pv 2) pa_nil)))
      (pss_cons (ps_if (PW.pt (pw_or (pt_not (pt_val (pe_call G__law_pieces (hr.mono (by decide)) (by rfl) T.mg__law_pieces T.kp__law_pieces B__law_pieces .nil pass0 (pa_cons (pv 5) (pa_cons pe_str (pa_cons (pe_op (op_addG (K := K) rfl) (pv 3) (pe_lst (pa_cons (pe_ix (ix_seqK (K := K) rfl) (pv 2) pe_int (fun _ _ => rfl)) pa_nil))) pa_nil)))))) (pw_or1 (pt_cmpR (op_neD (K := K) rfl hr.units) (pe_call G_read_scheme (hr.mono (by decide)) (by rfl) T.mg_read_scheme T.kp_read_scheme B_read_scheme .nil pass0 (pa_cons (pv 5) pa_nil)) (pv 2) (nomark _))))) (pss_one (ps_ret pe_bl)) pss_nil)
      (pss_cons (ps_comp (k := 6) (sc := defScope s_law) (N0 := ["_law_script", "_law_state", "_law_scheme_here", "_law_due", "_law_row", "_law_text", "_law_word", "_law_heard_here", "_law_handed", "_law_places_here"]) rfl rfl rfl (show compOk _ _ ["_law_cell"] 1 [] _ = true by decide +kernel) sc_law.nd rfl (Or.inl rfl) (pi_seqK (K := K) rfl (pe_slice (sl_seqK (K := K) rfl) (pv 0) po_none (po_some pe_int))) (fun _ _ _ _ _ => (pg_name (i := 0) (show List.Nodup (["_law_cell"] : List Str) from (by decide +kernel)) rfl (Or.inl rfl))) (own_name (by decide)) (fun _ _ _ _ _ => pif_nil) (fun _ _ _ _ _ => (pe_op op_mod (pe_op (op_addG (K := K) rfl) (pv 0) pe_int) pe_int)))
      (pss_cons (ps_set (i := 5) sc_law.nd rfl (by first | exact Or.inl rfl | exact Or.inr rfl) (pe_call G_shown_word (hr.mono (by decide)) (by rfl) T.mg_shown_word T.kp_shown_word B_shown_word .nil pass0 (pa_cons (pe_callTy (call_listK (K := K) rfl) (by rfl) T.z_list (by rfl) (pa_cons (pv 6) pa_nil)) pa_nil)))
      (pss_cons (ps_if (PW.pt (pw_or (pt_cmpR (op_neD (K := K) rfl hr.units) (pe_call G_read_word (hr.mono (by decide)) (by rfl) T.mg_read_word T.kp_read_word B_read_word .nil pass0 (pa_cons (pv 5) pa_nil)) (pv 6) (nomark _)) (pw_or1 (pt_cmpR (op_neD (K := K) rfl hr.units) (pv 5) (pe_ix (ix_seqK (K := K) rfl) (pe_lst (pa_cons pe_str (pa_cons (pe_bm PySem.F.plainAttrs_str PySem.F.slot_str_join PySem.F.type_str_join (mt_joinS (K := K) rfl) pe_str (pa_cons (pe_comp (sc := defScope s_law) (N0 := ["_law_script", "_law_state", "_law_scheme_here", "_law_due", "_law_row", "_law_text", "_law_word", "_law_heard_here", "_law_handed", "_law_places_here"]) rfl rfl rfl (show compOk _ _ ["_law_bit"] 1 [] _ = true by decide +kernel) (pi_seqK (K := K) rfl (pv 6)) (fun _ _ _ _ _ => (pg_name (i := 0) (show List.Nodup (["_law_bit"] : List Str) from (by decide +kernel)) rfl (Or.inl rfl))) (own_name (by decide)) (fun _ _ _ _ _ => pif_nil) (fun _ _ _ _ _ => (pe_ix (ix_seqK (K := K) rfl) (pe_lst (pa_cons pe_str (pa_cons pe_str pa_nil))) (pv 0) (fun _ _ => rfl)))) pa_nil)) pa_nil))) (pe_callTy call_int1 (by rfl) T.z_int (by rfl) (pa_cons (pe_cmpR op_gt (pe_callB (call_lenK (K := K) rfl) (by rfl) T.z_len (by rfl) (pa_cons (pv 6) pa_nil)) pe_int (nomark _)) pa_nil)) (fun _ _ => rfl)) (nomark _))))) (pss_one (ps_ret pe_bl)) pss_nil)
      (pss_cons (ps_set (i := 7) sc_law.nd rfl (by first | exact Or.inl rfl | exact Or.inr rfl) (pe_call G__law_heard (hr.mono (by decide)) (by rfl) T.mg__law_heard T.kp__law_heard B__law_heard .nil pass0 (pa_cons (pv 0) (pa_cons (pv 1) pa_nil))))
      (pss_cons (ps_set (i := 8) sc_law.nd rfl (by first | exact Or.inl rfl | exact Or.inr rfl) (pe_callTy (call_listK (K := K) rfl) (by rfl) T.z_list (by rfl) (pa_cons (pv 7) pa_nil)))
      (pss_cons (ps_set (i := 5) sc_law.nd rfl (by first | exact Or.inl rfl | exact Or.inr rfl) (pe_call G_shown_heard (hr.mono (by decide)) (by rfl) T.mg_shown_heard T.kp_shown_heard B_shown_heard .nil pass0 (pa_cons (pv 8) pa_nil)))
      (pss_cons (ps_if (PW.pt (pw_or (pt_not (pt_val (pe_call G__law_pieces (hr.mono (by decide)) (by rfl) T.mg__law_pieces T.kp__law_pieces B__law_pieces .nil pass0 (pa_cons (pv 5) (pa_cons pe_str (pa_cons (pe_comp (sc := defScope s_law) (N0 := ["_law_script", "_law_state", "_law_scheme_here", "_law_due", "_law_row", "_law_text", "_law_word", "_law_heard_here", "_law_handed", "_law_places_here"]) rfl rfl rfl (show compOk _ _ ["_law_told"] 1 [] _ = true by decide +kernel) (pi_seqK (K := K) rfl (pv 7)) (fun _ _ _ _ _ => (pg_name (i := 0) (show List.Nodup (["_law_told"] : List Str) from (by decide +kernel)) rfl (Or.inl rfl))) (own_name (by decide)) (fun _ _ _ _ _ => pif_nil) (fun _ _ _ _ _ => (pe_call G__law_heard_piece (hr.mono (by decide)) (by rfl) T.mg__law_heard_piece T.kp__law_heard_piece B__law_heard_piece .nil pass0 (pa_cons (pv 0) pa_nil)))) pa_nil)))))) (pw_or1 (pt_cmpR (op_neD (K := K) rfl hr.units) (pv 8) (pv 7) (nomark _))))) (pss_one (ps_ret pe_bl)) pss_nil)
      (pss_cons (ps_if (pt_cmpR (op_neD (K := K) rfl hr.units) (pe_call G_read_heard (hr.mono (by decide)) (by rfl) T.mg_read_heard T.kp_read_heard B_read_heard .nil pass0 (pa_cons (pv 5) pa_nil)) (pv 7) (nomark _)) (pss_one (ps_ret pe_bl)) pss_nil)
      (pss_cons (ps_set (i := 9) sc_law.nd rfl (by first | exact Or.inl rfl | exact Or.inr rfl) (pe_call G__law_places (hr.mono (by decide)) (by rfl) T.mg__law_places T.kp__law_places B__law_places .nil pass0 (pa_cons (pv 0) (pa_cons (pv 1) pa_nil))))
      (pss_cons (ps_set (i := 5) sc_law.nd rfl (by first | exact Or.inl rfl | exact Or.inr rfl) (pe_call G_shown_places (hr.mono (by decide)) (by rfl) T.mg_shown_places T.kp_shown_places B_shown_places .nil pass0 (pa_cons (pe_callTy (call_listK (K := K) rfl) (by rfl) T.z_list (by rfl) (pa_cons (pv 9) pa_nil)) pa_nil)))
      (pss_cons (ps_if (pt_cmpR (op_neD (K := K) rfl hr.units) (pe_call G_read_places (hr.mono (by decide)) (by rfl) T.mg_read_places T.kp_read_places B_read_places .nil pass0 (pa_cons (pv 5) pa_nil)) (pv 9) (nomark _)) (pss_one (ps_ret pe_bl)) pss_nil)
      (pss_one (ps_ret (pe_or (pe_and (pe_cmpR (op_eqD (K := K) rfl hr.units) (pv 5) pe_str (nomark _)) (pe_one (pe_cmpR (op_eqD (K := K) rfl hr.units) (pv 9) (pe_lst pa_nil) (nomark _)))) (pe_one (pe_call G__law_pieces (hr.mono (by decide)) (by rfl) T.mg__law_pieces T.kp__law_pieces B__law_pieces .nil pass0 (pa_cons (pv 5) (pa_cons pe_str (pa_cons (pe_comp (sc := defScope s_law) (N0 := ["_law_script", "_law_state", "_law_scheme_here", "_law_due", "_law_row", "_law_text", "_law_word", "_law_heard_here", "_law_handed", "_law_places_here"]) rfl rfl rfl (show compOk _ _ ["_law_place"] 1 [] _ = true by decide +kernel) (pi_seqK (K := K) rfl (pv 9)) (fun _ _ _ _ _ => (pg_name (i := 0) (show List.Nodup (["_law_place"] : List Str) from (by decide +kernel)) rfl (Or.inl rfl))) (own_name (by decide)) (fun _ _ _ _ _ => pif_nil) (fun _ _ _ _ _ => (pe_callTy call_strI (by rfl) T.z_str (by rfl) (pa_cons (pv 0) pa_nil)))) pa_nil))))))))))))))))))))))))), ?_⟩
    exact spP_body (O' := []) (Nms := ["_law_script", "_law_state", "_law_scheme_here", "_law_due", "_law_row", "_law_text", "_law_word", "_law_heard_here", "_law_handed", "_law_places_here"]) (f := b_law) (by
      unfold b_law
      exact (ms_seq (O1 := [1]) (ms_own (mn_lst (ma_cons (me_callP n__law_seed (ma_cons (me_var (i := 0) (by decide)) ma_nil)) ma_nil)) rfl)
      (ms_seq (O1 := [1]) (ms_set (me_callS (i := 1) n__law_scheme (by decide) ma_nil) rfl (by decide))
      (ms_seq (O1 := [1, 3]) (ms_own (mn_op on_cat (me_op og_add (me_new (mn_lst (ma_cons me_str (ma_cons (me_call1 cs_str (me_op op_ix (me_var (i := 2) (by decide)) me_int).mb) (ma_cons me_str ma_nil))))) (me_new (mn_comp (bw := none) (mi_seq (me_op op_ix (me_var (i := 2) (by decide)) me_int)) (mg_name (i := 0) (by decide)) mt_yes (me_call1 cs_str mb_var)))) (me_new (mn_lst (ma_cons me_str ma_nil)))) rfl)
      (ms_seq (O1 := [1]) (ms_weak (ms_for (O' := [1, 3]) (mi_seq (me_op op_ix (me_var (i := 2) (by decide)) me_int)) rfl (mg_name (i := 4) (by decide))
      (ms_mut mu_append (by decide) (ma_cons (me_join me_str (me_new (mn_comp (bw := none) (mi_seq (me_var (i := 4) (by decide))) (mg_name (i := 0) (by decide)) mt_yes (me_op op_ix (me_new (mn_lst (ma_cons me_str (ma_cons me_str ma_nil)))) (me_var (i := 0) (by decide)))))) ma_nil) rfl)) rfl)
      (ms_seq (O1 := [1]) (ms_set (me_callP n_shown_scheme (ma_cons (me_var (i := 2) (by decide)) ma_nil)) rfl (by decide))
      (ms_seq (O1 := [1]) (ms_if (mt_or (mt_not (mt_val (me_callP n__law_pieces (ma_cons (me_var (i := 5) (by decide)) (ma_cons me_str (ma_cons (me_op og_add (me_var (i := 3) (by decide)) (me_new (mn_lst (ma_cons (me_op op_ix (me_var (i := 2) (by decide)) me_int) ma_nil)))) ma_nil)))))) (mt_test (me_opB os_ne (me_callP n_read_scheme (ma_cons (me_var (i := 5) (by decide)) ma_nil)) mb_var))) (ms_ret rfl me_bl rfl) (ms_nil rfl))
      (ms_seq (O1 := [1]) (ms_setC (mn_comp (bw := none) (mi_seq (me_slice (me_var (i := 0) (by decide)) mo_none (mo_some me_int))) (mg_name (i := 0) (by decide)) mt_yes (me_op og_mod (me_op og_add (me_var (i := 0) (by decide)) me_int) me_int)) rfl (by decide))
      (ms_seq (O1 := [1]) (ms_set (me_callP n_shown_word (ma_cons (me_new (mn_call1 cn_list (me_var (i := 6) (by decide)))) ma_nil)) rfl (by decide))
      (ms_seq (O1 := [1]) (ms_if (mt_or (mt_test (me_opB os_ne (me_callP n_read_word (ma_cons (me_var (i := 5) (by decide)) ma_nil)) mb_var)) (mt_test (me_opB os_ne (me_var (i := 5) (by decide)) (me_op op_ix (me_new (mn_lst (ma_cons me_str (ma_cons (me_join me_str (me_new (mn_comp (bw := none) (mi_seq (me_var (i := 6) (by decide))) (mg_name (i := 0) (by decide)) mt_yes (me_op op_ix (me_new (mn_lst (ma_cons me_str (ma_cons me_str ma_nil)))) (me_var (i := 0) (by decide)))))) ma_nil)))) (me_call1 cs_int (me_opB os_b0 (me_call1 cs_len mb_var) me_int.mb).mb)).mb))) (ms_ret rfl me_bl rfl) (ms_nil rfl))
      (ms_seq (O1 := [1]) (ms_set (me_callS1 (i := 1) n__law_heard (by decide) (me_var (i := 0) (by decide)) ma_nil) rfl (by decide))
      (ms_seq (O1 := [1]) (ms_set (me_new (mn_call1 cn_list (me_var (i := 7) (by decide)))) rfl (by decide))
      (ms_seq (O1 := [1]) (ms_set (me_callP n_shown_heard (ma_cons (me_var (i := 8) (by decide)) ma_nil)) rfl (by decide))
      (ms_seq (O1 := [1]) (ms_if (mt_or (mt_not (mt_val (me_callP n__law_pieces (ma_cons (me_var (i := 5) (by decide)) (ma_cons me_str (ma_cons (me_new (mn_comp (bw := none) (mi_seq (me_var (i := 7) (by decide))) (mg_name (i := 0) (by decide)) mt_yes (me_callP n__law_heard_piece (ma_cons (me_var (i := 0) (by decide)) ma_nil)))) ma_nil)))))) (mt_test (me_opB os_ne (me_var (i := 8) (by decide)) mb_var))) (ms_ret rfl me_bl rfl) (ms_nil rfl))
      (ms_seq (O1 := [1]) (ms_if (mt_test (me_opB os_ne (me_callP n_read_heard (ma_cons (me_var (i := 5) (by decide)) ma_nil)) mb_var)) (ms_ret rfl me_bl rfl) (ms_nil rfl))
      (ms_seq (O1 := []) (ms_set (me_callS1 (i := 1) n__law_places (by decide) (me_var (i := 0) (by decide)) ma_nil) rfl (by decide))
      (ms_seq (O1 := []) (ms_set (me_callP n_shown_places (ma_cons (me_new (mn_call1 cn_list (me_var (i := 9) (by decide)))) ma_nil)) rfl (by decide))
      (ms_seq (O1 := []) (ms_if (mt_test (me_opB os_ne (me_callP n_read_places (ma_cons (me_var (i := 5) (by decide)) ma_nil)) mb_var)) (ms_ret rfl me_bl rfl) (ms_nil rfl))
      (ms_ret rfl (me_or (me_and (me_opB os_eq (me_var (i := 5) (by decide)) me_str.mb) (me_opB os_eq (me_var (i := 9) (by decide)) (me_new (mn_lst ma_nil)).mb)) (me_callP n__law_pieces (ma_cons (me_var (i := 5) (by decide)) (ma_cons me_str (ma_cons (me_new (mn_comp (bw := none) (mi_seq (me_var (i := 9) (by decide))) (mg_name (i := 0) (by decide)) mt_yes (me_call1 cs_str mb_var))) ma_nil))))) rfl))))))))))))))))))) h
end
end K55
set_option Elab.async false
set_option linter.all false
set_option maxRecDepth 100000
set_option maxHeartbeats 4000000
namespace K55
open PySem L2
set_option compiler.extract_closed false in
local macro_rules | `(tactic| walk_at "ev") => `(tactic| simp [runS, runP, ev_bind, ev_ret, ev_lift, ev_var, ev_op2, ev_op1, ev_op1L, ev_op2L, ev_opO, ev_ixO, ev_test, ev_not, ev_and, ev_or, ev_andV, ev_orV, ev_notV, ev_if, ev_nil, ev_cons, ev_tup, ev_lst, ev_of, ev_call, ev_callL, ev_callS, ev_comp, ev_seq, ev_rng1, ev_rng2, ev_zip, ev_part, ev_sl, ev_slL, ev_chain, ev_sseq, ev_sset, ev_sown, ev_sasg, ev_sif, ev_sret, ev_sretL, ev_sretO, ev_snil, ev_sretN, ev_sdrop, ev_smut, ev_sext, ev_sseti, ev_sfor, ev_gset, ev_saug, forRun, ixO, blO, lsO, lstOf, rng1, rng2, zip2, inO, slO, flatD, setI, gsNil, gsCons, gTupD, dI2, dI0, dB0, dAdd, dMulG, dIx, dLen, dInt, dSum, dAll, dAny, dTuple, dSeq, dSl_tto, dSl_tfrom, dSl_lto, dSl_lfrom, dNeg, dNotB, dIsB, isBl, dIsN, dNotN, dIsi, tyN, isTab, dAppend, okMul, okMul2, okMod, okDiv, okPow, okShr, at0, at1, at2, at3, at4, at5, ixN, dEq, dNe, eqD_int, eqD_bl, eqD_none, eqD_int_none, eqD_none_int, dJoin, strsD, join_one', le_line, lt_line, mCallB, runS1, mCallS1, scD, dCatL, ev_slS, ev_signs, ev_ifL, dSM, *])
theorem v_next (s m : Int) (h : 0 < m) : f__law_next [.int s] [.int m] = some (.int (dr s m), [.int (nx s)]) := by
  unfold f__law_next b__law_next
  walk_at "ev"
  simp [nx, dr]
theorem v_seed (ns : List Int) : ∃ y : Int, f__law_seed [.lst (ns.map D.int)] = some (.int y) := by
  obtain ⟨ρ', h1, y, v, rfl⟩ := for_all (fg := gSet 2) (fb := sSet 1 (mOp2 dMod (mOp2 dAdd (mOp2 dAdd (mOp2 dMulG (mVar 1) (mRet (.int 7368787))) (mOp2 dMod (mVar 2) (mOp2 dPow (mRet (.int 10)) (mRet (.int 30))))) (mRet (.int 11))) (mOp2 dSub (mOp2 dPow (mRet (.int 2)) (mRet (.int 61))) (mRet (.int 1)))))
    (fun ρ => ∃ (y : Int) (v : Option D), ρ = [some (.lst (ns.map D.int)), some (.int y), v]) (ns.map D.int) [some (.lst (ns.map D.int)), some (.int 1000003), none] ⟨_, _, rfl⟩ (by
      rintro x ρ hx ⟨y, v, rfl⟩
      obtain ⟨c, _, rfl⟩ := List.mem_map.mp hx
      refine ⟨_, _, rfl, .inl ?_, (y * 7368787 + c % 10 ^ Int.toNat 30 + 11) % (2 ^ Int.toNat 61 - 1), some (.int c), rfl⟩
      walk_at "ev")
  refine ⟨y, ?_⟩
  unfold f__law_seed b__law_seed
  walk_at "ev"
theorem num_loop (s n : Int) (h0 : 0 ≤ n) (h1 : n < 10) : ∃ s' n' v, forRun (gSet 2) (sSet 1 (mOp2 dAdd (mOp2 dMulG (mVar 1) (mOp2 dPow (mRet (.int 10)) (mRet (.int 10)))) (mCallS f__law_next 0 (mCons (mOp2 dPow (mRet (.int 10)) (mRet (.int 10))) mNil))))
    (rangeD 0 5) [some (.lst [.int s]), some (.int n), none] = some (.nx [some (.lst [.int s']), some (.int n'), v]) ∧ 0 ≤ n' ∧ n' < 1000000000000000000000000000000000000000000000000000 := by
  obtain ⟨ρ', l1, s', n', v, hρ, a1, a2⟩ := for_inv (fg := gSet 2) (fb := sSet 1 (mOp2 dAdd (mOp2 dMulG (mVar 1) (mOp2 dPow (mRet (.int 10)) (mRet (.int 10)))) (mCallS f__law_next 0 (mCons (mOp2 dPow (mRet (.int 10)) (mRet (.int 10))) mNil))))
    (fun k ρ => ∃ s n v, ρ = [some (.lst [.int s]), some (.int n), v] ∧ 0 ≤ n ∧ n < 10 * (10000000000 : Int) ^ k) (rangeD 0 5) 0 [some (.lst [.int s]), some (.int n), none] ⟨s, n, none, rfl, h0, by simpa using h1⟩ (fun i x ρ hx ⟨s, n, v, hρ, b0, b1⟩ => by
      subst hρ
      have hn := v_next
      have d0 := dr_lo s (m := 10000000000) (by decide)
      have d1 := dr_hi s (m := 10000000000) (by decide)
      refine ⟨_, [some (.lst [.int (nx s)]), some (.int (n * 10000000000 + dr s 10000000000)), some x], rfl, .inl ?_, nx s, _, _, rfl, by omega, ?_⟩
      · clear b0 b1 d0 d1 hx
        walk_at "ev"
      · rw [Nat.zero_add] at b1 ⊢
        rw [Int.pow_succ]
        generalize (10000000000 : Int) ^ i = p at b1 ⊢
        omega)
  subst hρ
  refine ⟨s', n', v, l1, a1, ?_⟩
  rw [rangeD_len] at a2
  have e : 10 * (10000000000 : Int) ^ (0 + 5) = 1000000000000000000000000000000000000000000000000000 := by decide +kernel
  omega
theorem v_number (s : Int) : ∃ n s', f__law_number [.int s] [] = some (.int n, [.int s']) ∧ -1000000000000000000000000000000000000000000000000000000000000 < n ∧ n < 1000000000000000000000000000000000000000000000000000000000000 := by
  have hn := v_next
  have a0 := dr_lo s (m := 10) (by decide)
  have a1 := dr_hi s (m := 10) (by decide)
  by_cases c : dr (nx s) 4 = 0
  · obtain ⟨s3, n, v, l1, b0, b1⟩ := num_loop (nx (nx s)) (dr s 10) a0 a1
    have d0 := dr_lo s3 (m := 1000000000) (by decide)
    have d1 := dr_hi s3 (m := 1000000000) (by decide)
    have bg : big 5 = true := by decide
    by_cases e : dr (nx s3) 2 = 0
    · refine ⟨-(n * 1000000000 + dr s3 1000000000), nx (nx s3), ?_, by omega, by omega⟩
      clear a0 a1 b0 b1 d0 d1
      unfold f__law_number b__law_number
      walk_at "ev"
    · refine ⟨n * 1000000000 + dr s3 1000000000, nx (nx s3), ?_, by omega, by omega⟩
      clear a0 a1 b0 b1 d0 d1
      unfold f__law_number b__law_number
      walk_at "ev"
  · by_cases e : dr (nx (nx s)) 2 = 0
    · refine ⟨-(dr s 10), nx (nx (nx s)), ?_, by omega, by omega⟩
      clear a0 a1
      unfold f__law_number b__law_number
      walk_at "ev"
    · refine ⟨dr s 10, nx (nx (nx s)), ?_, by omega, by omega⟩
      clear a0 a1
      unfold f__law_number b__law_number
      walk_at "ev"
theorem v_lawscheme (s : Int) : ∃ r taps rows e s', f__law_scheme [.int s] [] = some (schD r taps rows e, [.int s']) ∧ SchOk r taps rows e := by
  have hn := v_next
  obtain ⟨r, er, hr⟩ := pickD (a := dr s 4) (b := 4) (dr (nx s) 8 = 0)
  have r0 : 0 ≤ r := by have := dr_lo s (m := 4) (by decide); omega
  have r4 : r ≤ 4 := by have := dr_hi s (m := 4) (by decide); omega
  have r6 : r ≤ 1000000 := by omega
  have pos2 : (0 : Int) < 2 * 2 ^ r.toNat := Int.mul_pos (by decide) (Int.pow_pos (by decide))
  have d0 := dr_lo (nx (nx s)) (m := 4) (by decide)
  have d4 := dr_hi (nx (nx s)) (m := 4) (by decide)
  have bg1 : big (1 + dr (nx (nx s)) 4) = true := by unfold big; simp; omega
  have l1 : (rangeD 0 (1 + dr (nx (nx s)) 4).toNat).length ≤ sizeLine := by rw [rangeD_len]; exact line_of (by omega)
  have two : 2 ≤ sizeLine := by decide
  have zero : 0 ≤ sizeLine := by decide
  -- taps
  obtain ⟨ts, s2, c1, c2, c3⟩ := cm_state (n := 1) (p := 0) (q := 1) (js := [0, 1]) (fg := gSet 0) (fe := mCallS f__law_next 1 (mCons (mOp2 dShl (mRet (.int 2)) (mVar 2)) mNil))
    (fun s : Int => [some (.lst [.int s]), some (.int r), none, none, none, none, none]) (fun y => ∃ t : Int, y = .int t ∧ 0 ≤ t ∧ t < 2 * 2 ^ r.toNat) (rangeD 0 (1 + dr (nx (nx s)) 4).toNat) (fun x hx s => by
      refine ⟨[some x, some (.lst [.int s]), some (.int r)], [some x, some (.lst [.int (nx s)]), some (.int r)], .int (dr s (2 * 2 ^ r.toNat)), nx s, rfl, ?_, rfl, _, rfl, dr_lo s pos2, dr_hi s pos2⟩
      walk_at "ev") (nx (nx (nx s)))
  obtain ⟨taps, rfl, tb⟩ := ints_of c3
  rw [List.length_map, rangeD_len] at c2
  have t1 : 1 ≤ taps.length := by omega
  have t4 : taps.length ≤ 4 := by omega
  clear c2
  -- how many rows
  obtain ⟨m, em, hm⟩ := pickD (a := 1 + dr s2 3) (b := 4 + dr (nx s2) 3) (dr (nx (nx s2)) 6 = 0)
  have m1 : 1 ≤ m := by
    have h1 := dr_lo s2 (m := 3) (by decide)
    have h2 := dr_lo (nx s2) (m := 3) (by decide)
    omega
  have m6 : m ≤ 6 := by
    have h1 := dr_hi s2 (m := 3) (by decide)
    have h2 := dr_hi (nx s2) (m := 3) (by decide)
    omega
  have bg2 : big m = true := by unfold big; simp; omega
  have l2 : taps.length ≤ sizeLine := line_of (by omega)
  -- the rows
  obtain ⟨ρ', f1, rows, s3, v5, v6, rfl, lr, hrow⟩ := for_inv (fg := gSet 5) (fb := sSeq (sSet 6 (mOp2 dGt (mCallS f__law_next 0 (mCons (mRet (.int 3)) mNil)) (mRet (.int 0))))
    (sMut dAppend 4 (mCons (mOp1 dTuple (mOf (mComp 1 [6, 0] (some (0, 2)) (mSeq (mVar 2)) (gSet 0) (mRet true) (mOp1 dInt (mOrV (mVar 1) (mOp2 dEq (mCallS f__law_next 2 (mCons (mRet (.int 2)) mNil)) (mRet (.int 0)))))))) mNil)))
    (fun i ρ => ∃ (rows : List (List Int)) (s : Int) (v5 v6 : Option D), ρ = [some (.lst [.int s]), some (.int r), some (.lst (taps.map D.int)), some (.int m), some (.lst (rows.map rowD)), v5, v6] ∧ rows.length = i ∧ ∀ row ∈ rows, row.length = taps.length ∧ ∀ b ∈ row, b = 0 ∨ b = 1)
    (rangeD 0 m.toNat) 0 [some (.lst [.int (nx (nx (nx s2)))]), some (.int r), some (.lst (taps.map D.int)), some (.int m), some (.lst []), none, none] ⟨[], _, none, none, rfl, rfl, fun _ h => nomatch h⟩ (by
      rintro i x ρ hx ⟨rows, s, v5, v6, rfl, lr, hrow⟩
      obtain ⟨hi, rfl⟩ := rangeD_get hx
      obtain ⟨bs, s4, g1, g2, g3⟩ := cm_state (n := 1) (p := 0) (q := 2) (js := [6, 0]) (fg := gSet 0) (fe := mOp1 dInt (mOrV (mVar 1) (mOp2 dEq (mCallS f__law_next 2 (mCons (mRet (.int 2)) mNil)) (mRet (.int 0)))))
        (fun s' : Int => [some (.lst [.int s']), some (.int r), some (.lst (taps.map D.int)), some (.int m), some (.lst (rows.map rowD)), some (.int (i : Int)), some (.bl (decide (0 < dr s 3)))]) (fun y => ∃ t : Int, y = .int t ∧ (t = 0 ∨ t = 1)) (taps.map D.int) (fun x hx s' => by
          cases hf : decide (0 < dr s 3) with
          | true =>
            refine ⟨[some x, some (.bl true), some (.lst [.int s'])], [some x, some (.bl true), some (.lst [.int s'])], .int 1, s', rfl, ?_, rfl, 1, rfl, .inr rfl⟩
            clear hf
            walk_at "ev"
          | false =>
            refine ⟨[some x, some (.bl false), some (.lst [.int s'])], [some x, some (.bl false), some (.lst [.int (nx s')])], .int (if (dr s' 2 == 0) = true then 1 else 0), nx s', rfl, ?_, rfl, _, rfl, ?_⟩
            · clear hf
              walk_at "ev"
            · split
              · exact .inr rfl
              · exact .inl rfl) (nx s)
      obtain ⟨row, rfl, hb⟩ := ints_of g3
      rw [List.length_map, List.length_map] at g2
      have l5 : rows.length < sizeLine := Nat.lt_of_lt_of_le (by omega : rows.length < 1000) (by decide)
      refine ⟨[some (.lst [.int s]), some (.int r), some (.lst (taps.map D.int)), some (.int m), some (.lst (rows.map rowD)), some (.int (0 + (i : Int))), v6],
        [some (.lst [.int s4]), some (.int r), some (.lst (taps.map D.int)), some (.int m), some (.lst ((rows ++ [row]).map rowD)), some (.int (i : Int)), some (.bl (decide (0 < dr s 3)))], rfl, .inl ?_, rows ++ [row], s4, _, _, rfl, by rw [List.length_append, lr]; simp, fun z hz => ?_⟩
      · clear lr hrow hb g2 g3
        walk_at "ev"
        rfl
      · rcases List.mem_append.mp hz with hz | hz
        · exact hrow z hz
        · rw [List.mem_singleton.mp hz]
          exact ⟨g2, hb⟩)
  rw [rangeD_len] at lr
  have h3 := dr_lo s3 (m := 3) (by decide)
  have h4 := dr_hi s3 (m := 3) (by decide)
  obtain ⟨e, ee, he⟩ : ∃ e : Str, atI [D.str "open", D.str "ended", D.str "ring"] (dr s3 3) = some (.str e) ∧ (e = "open" ∨ e = "ended" ∨ e = "ring") := by
    rcases (by omega : dr s3 3 = 0 ∨ dr s3 3 = 1 ∨ dr s3 3 = 2) with q | q | q
    · rw [q]; exact ⟨_, rfl, .inl rfl⟩
    · rw [q]; exact ⟨_, rfl, .inr (.inl rfl)⟩
    · rw [q]; exact ⟨_, rfl, .inr (.inr rfl)⟩
  refine ⟨r, taps, rows, e, nx s3, ?_, ⟨r0, r4, t1, t4, tb, by omega, by omega, hrow, he⟩⟩
  have three : 3 ≤ sizeLine := by decide
  have four : 4 ≤ sizeLine := by decide
  unfold f__law_scheme b__law_scheme
  clear lr hrow tb hr hm he
  walk_at "ev"
  rfl
inductive Sg where
  | clear (b : Int)
  | gap
  | soft (z o : Int)
noncomputable def sgD : Sg → D
  | .clear b => .tup [.str "clear", .int b]
  | .gap => .tup [.str "gap"]
  | .soft z o => .tup [.str "soft", .int z, .int o]
noncomputable def N60 (n : Int) : Prop := -1000000000000000000000000000000000000000000000000000000000000 < n ∧ n < 1000000000000000000000000000000000000000000000000000000000000
noncomputable def SgOk : Sg → Prop
  | .clear b => b = 0 ∨ b = 1
  | .gap => True
  | .soft z o => N60 z ∧ N60 o
noncomputable def wr : Sg → Str
  | .clear b => tx b
  | .gap => "?"
  | .soft z o => tx z ++ "/" ++ tx o
theorem N60.abs {n : Int} (h : N60 n) : n.natAbs < 10 ^ 60 := by
  have e : (10 : Nat) ^ 60 = 1000000000000000000000000000000000000000000000000000000000000 := by decide +kernel
  rw [e]
  unfold N60 at h
  omega
theorem N60.len {n : Int} (h : N60 n) : (tx n).length ≤ 61 := tx_len h.abs (by decide)
theorem N60.str {n : Int} (h : N60 n) : dStr (.int n) = some (.str (tx n)) := dStr_tx (Nat.lt_trans h.abs (by decide +kernel))
theorem N60.back {n : Int} (h : N60 n) : dIntT (.str (tx n)) = some (.int n) := dIntT_tx (Nat.le_trans h.len (by decide))
theorem s_cg : eqD (.str "clear") (.str "gap") = some false := by rw [eqD_str (by decide +kernel) (by decide +kernel)]; decide +kernel
theorem s_gg : eqD (.str "gap") (.str "gap") = some true := by rw [eqD_str (by decide +kernel) (by decide +kernel)]; decide +kernel
theorem s_sg : eqD (.str "soft") (.str "gap") = some false := by rw [eqD_str (by decide +kernel) (by decide +kernel)]; decide +kernel
theorem s_cc : eqD (.str "clear") (.str "clear") = some true := by rw [eqD_str (by decide +kernel) (by decide +kernel)]; decide +kernel
theorem s_ss : eqD (.str "soft") (.str "soft") = some true := by rw [eqD_str (by decide +kernel) (by decide +kernel)]; decide +kernel
theorem bit60 {b : Int} (h : b = 0 ∨ b = 1) : N60 b := by unfold N60; omega
theorem wr_len {g : Sg} (h : SgOk g) : (wr g).length ≤ 200 := by
  cases g with
  | clear b => exact Nat.le_trans (bit60 h).len (by decide)
  | gap => decide
  | soft z o =>
    have l1 := h.1.len
    have l2 := h.2.len
    show (tx z ++ "/" ++ tx o).length ≤ 200
    rw [len_toList, cps_append, cps_append, List.length_append, List.length_append, ← len_toList, ← len_toList]
    show (tx z).length + 1 + (tx o).length ≤ 200
    omega
theorem soft_cps (z o : Int) : (tx z ++ "/" ++ tx o : Str).cps.toList = (tx z).cps.toList ++ 47 :: (tx o).cps.toList := by
  rw [cps_append, cps_append, List.append_assoc]
  rfl
theorem wr_sign {g : Sg} {c : Nat} (h : c ∈ (wr g).cps.toList) : c = 45 ∨ c = 47 ∨ (48 ≤ c ∧ c ≤ 57) ∨ c = 63 := by
  cases g with
  | clear b =>
    rcases tx_sign h with h | h
    · exact .inl h
    · exact .inr (.inr (.inl h))
  | gap =>
    have : c = 63 := by
      have h' : c ∈ [63] := h
      simpa using h'
    exact .inr (.inr (.inr this))
  | soft z o =>
    have h' : c ∈ (tx z).cps.toList ++ 47 :: (tx o).cps.toList := soft_cps z o ▸ h
    rcases List.mem_append.mp h' with h' | h'
    · rcases tx_sign h' with h | h
      · exact .inl h
      · exact .inr (.inr (.inl h))
    · rcases List.mem_cons.mp h' with h' | h'
      · exact .inr (.inl h')
      · rcases tx_sign h' with h | h
        · exact .inl h
        · exact .inr (.inr (.inl h))
theorem wr_ok (g : Sg) : PyData.strOk (wr g) = true := strOk_of fun c hc => by
  have := wr_sign hc
  omega
theorem tx0 : tx 0 = "0" := str_ext ((tx_nat 0).trans (digs_small (by decide)))
theorem tx1 : tx 1 = "1" := str_ext ((tx_nat 1).trans (digs_small (by decide)))
theorem s_gs : eqD (.str "gap") (.str "soft") = some false := by rw [eqD_str (by decide +kernel) (by decide +kernel)]; decide +kernel
theorem s_cs : eqD (.str "clear") (.str "soft") = some false := by rw [eqD_str (by decide +kernel) (by decide +kernel)]; decide +kernel
theorem s_gc : eqD (.str "gap") (.str "clear") = some false := by rw [eqD_str (by decide +kernel) (by decide +kernel)]; decide +kernel
theorem bit_at {b : Int} (h : b = 0 ∨ b = 1) : atI [D.str "0", D.str "1"] b = some (.str (tx b)) := by
  rcases h with rfl | rfl
  · rw [at0, tx0]
  · rw [at1, tx1]
theorem v_piece {g : Sg} (h : SgOk g) : f__law_heard_piece [sgD g] = some (.str (wr g)) := by
  have h1 := s_gs
  have h2 := s_cs
  have h3 := s_ss
  have h4 := s_cc
  have h5 := s_gc
  have two : 2 ≤ sizeLine := by decide
  cases g with
  | clear b =>
    have hs := bit_at h
    clear h
    show f__law_heard_piece [.tup [.str "clear", .int b]] = some (.str (tx b))
    generalize tx b = x at hs ⊢
    unfold f__law_heard_piece b__law_heard_piece
    walk_at "ev"
  | gap =>
    clear h
    unfold f__law_heard_piece b__law_heard_piece sgD wr
    walk_at "ev"
  | soft z o =>
    have hz := h.1.str
    have ho := h.2.str
    have l1 := h.1.len
    have l2 := h.2.len
    have k1 : (tx z).length + ("/" : Str).length ≤ sizeLine := line_of (by show (tx z).length + 1 ≤ _; omega)
    have k2 : (tx z ++ ("/" : Str)).length + (tx o).length ≤ sizeLine := line_of (by
      rw [len_toList, cps_append, List.length_append, ← len_toList]
      show (tx z).length + 1 + _ ≤ _
      omega)
    clear h l1 l2
    show f__law_heard_piece [.tup [.str "soft", .int z, .int o]] = some (.str (tx z ++ "/" ++ tx o))
    generalize tx z = a at hz k1 k2 ⊢
    generalize tx o = b at ho k2 ⊢
    unfold f__law_heard_piece b__law_heard_piece
    walk_at "ev"
theorem pc_none (s : Str) (z0 : 0 ≤ sizeLine) (h1 : eqD (.lst []) (.lst []) = some true) (h2 : eqD (.str "") (.str "") = some true) : f__law_pieces [.str "", .str s, .lst []] = some (.bl true) := by
  unfold f__law_pieces b__law_pieces
  walk_at "ev"
theorem pc_some (t s : Str) (X : List D) (z0 : 0 ≤ sizeLine) (h1 : eqD (.lst X) (.lst []) = some false) (h2 : dSplit (.str t) (.str s) = some X) (h3 : eqD (.lst X) (.lst X) = some true) : f__law_pieces [.str t, .str s, .lst X] = some (.bl true) := by
  unfold f__law_pieces b__law_pieces
  walk_at "ev"
theorem v_pieces {c : Nat} {xs : List Str} (hok : ∀ x ∈ xs, PyData.strOk x = true) (hc : ∀ x ∈ xs, c ∉ x.cps.toList) (hl : ∀ x ∈ xs, x.length ≤ 200) (hn : xs.length ≤ 2000) : f__law_pieces [.str (Txt.join ⟨#[c]⟩ xs), .str ⟨#[c]⟩, .lst (xs.map D.str)] = some (.bl true) := by
  cases xs with
  | nil => exact pc_none _ (by decide) (eqD_ints [] []) (by rw [eqD_str (by decide +kernel) (by decide +kernel)]; rfl)
  | cons x r =>
    refine pc_some _ _ _ (by decide) ?_ (dSplit_join (by simp) hc (line_of (Nat.le_trans (join_len c _ 200 hl) (by omega))) (line_of (by omega))) (eqD_self (DOks.lst (DOks.strs hok)) (by decide))
    exact eqD_not_nil (.str 0 (hok x List.mem_cons_self)) (DOks.strs fun y hy => hok y (List.mem_cons_of_mem _ hy)) (by decide)
theorem cut_any (ns : List Int) (lo hi : Option Int) : ∃ ms : List Int, cutD (ns.map D.int) lo hi = ms.map D.int ∧ ms.length ≤ ns.length := by
  refine ⟨(ns.drop (HT.sIx ns.length 0 lo)).take (HT.sIx ns.length ns.length hi - HT.sIx ns.length 0 lo), ?_, ?_⟩
  · unfold cutD
    rw [List.length_map, List.map_take, List.map_drop]
  · rw [List.length_take, List.length_drop]
    omega
section
variable {N v4 v5 v6 : Option D} {s c : Int} {L : List D}
theorem h_clear (ln : L.length < sizeLine) (hw : dr ((s + c % 1000000000000000000000000000000) % 2305843009213693951) 5 < 2) :
    (sSeq (sOwn 4 (mLst (mCons (mOp2 dMod (mOp2 dAdd (mIxO 1 (mRet (.int 0))) (mOp2 dMod (mVar 3) (mOp2 dPow (mRet (.int 10)) (mRet (.int 30))))) (mOp2 dSub (mOp2 dPow (mRet (.int 2)) (mRet (.int 61))) (mRet (.int 1)))) mNil)))
  (sSeq (sSet 5 (mCallS f__law_next 4 (mCons (mRet (.int 5)) mNil)))
  (sIf (mTest (mOp2 dLt (mVar 5) (mRet (.int 2))))
    (sMut dAppend 2 (mCons (mTup (mCons (mRet (.str "clear")) (mCons (mVar 5) mNil))) mNil))
    (sIf (mTest (mOp2 dEq (mVar 5) (mRet (.int 2))))
    (sMut dAppend 2 (mCons (mTup (mCons (mRet (.str "gap")) mNil)) mNil))
    (sSeq (sSet 6 (mCallS f__law_number 4 mNil))
  (sMut dAppend 2 (mCons (mTup (mCons (mRet (.str "soft")) (mCons (mVar 6) (mCons (mCallS f__law_number 4 mNil) mNil)))) mNil))))))) [N, some (.lst [.int s]), some (.lst L), some (.int c), v4, v5, v6] = some (.nx [N, some (.lst [.int s]), some (.lst (L ++ [.tup [.str "clear", .int (dr ((s + c % 1000000000000000000000000000000) % 2305843009213693951) 5)]])), some (.int c), some (.lst [.int (nx ((s + c % 1000000000000000000000000000000) % 2305843009213693951))]), some (.int (dr ((s + c % 1000000000000000000000000000000) % 2305843009213693951) 5)), v6]) := by
  have hn := v_next
  have l1 : 1 ≤ sizeLine := by decide
  have l2 : 2 ≤ sizeLine := by decide
  generalize hq : (s + c % 1000000000000000000000000000000) % 2305843009213693951 = q at hw ⊢
  walk_at "ev"
theorem h_gap (ln : L.length < sizeLine) (hw : dr ((s + c % 1000000000000000000000000000000) % 2305843009213693951) 5 = 2) :
    (sSeq (sOwn 4 (mLst (mCons (mOp2 dMod (mOp2 dAdd (mIxO 1 (mRet (.int 0))) (mOp2 dMod (mVar 3) (mOp2 dPow (mRet (.int 10)) (mRet (.int 30))))) (mOp2 dSub (mOp2 dPow (mRet (.int 2)) (mRet (.int 61))) (mRet (.int 1)))) mNil)))
  (sSeq (sSet 5 (mCallS f__law_next 4 (mCons (mRet (.int 5)) mNil)))
  (sIf (mTest (mOp2 dLt (mVar 5) (mRet (.int 2))))
    (sMut dAppend 2 (mCons (mTup (mCons (mRet (.str "clear")) (mCons (mVar 5) mNil))) mNil))
    (sIf (mTest (mOp2 dEq (mVar 5) (mRet (.int 2))))
    (sMut dAppend 2 (mCons (mTup (mCons (mRet (.str "gap")) mNil)) mNil))
    (sSeq (sSet 6 (mCallS f__law_number 4 mNil))
  (sMut dAppend 2 (mCons (mTup (mCons (mRet (.str "soft")) (mCons (mVar 6) (mCons (mCallS f__law_number 4 mNil) mNil)))) mNil))))))) [N, some (.lst [.int s]), some (.lst L), some (.int c), v4, v5, v6] = some (.nx [N, some (.lst [.int s]), some (.lst (L ++ [.tup [.str "gap"]])), some (.int c), some (.lst [.int (nx ((s + c % 1000000000000000000000000000000) % 2305843009213693951))]), some (.int 2), v6]) := by
  have hn := v_next
  have l1 : 1 ≤ sizeLine := by decide
  have l2 : 2 ≤ sizeLine := by decide
  generalize hq : (s + c % 1000000000000000000000000000000) % 2305843009213693951 = q at hw ⊢
  walk_at "ev"
theorem h_soft {n1 n2 s1 s2 : Int} (ln : L.length < sizeLine) (hw : 2 < dr ((s + c % 1000000000000000000000000000000) % 2305843009213693951) 5)
    (e1 : f__law_number [.int (nx ((s + c % 1000000000000000000000000000000) % 2305843009213693951))] [] = some (.int n1, [.int s1])) (e2 : f__law_number [.int s1] [] = some (.int n2, [.int s2])) :
    (sSeq (sOwn 4 (mLst (mCons (mOp2 dMod (mOp2 dAdd (mIxO 1 (mRet (.int 0))) (mOp2 dMod (mVar 3) (mOp2 dPow (mRet (.int 10)) (mRet (.int 30))))) (mOp2 dSub (mOp2 dPow (mRet (.int 2)) (mRet (.int 61))) (mRet (.int 1)))) mNil)))
  (sSeq (sSet 5 (mCallS f__law_next 4 (mCons (mRet (.int 5)) mNil)))
  (sIf (mTest (mOp2 dLt (mVar 5) (mRet (.int 2))))
    (sMut dAppend 2 (mCons (mTup (mCons (mRet (.str "clear")) (mCons (mVar 5) mNil))) mNil))
    (sIf (mTest (mOp2 dEq (mVar 5) (mRet (.int 2))))
    (sMut dAppend 2 (mCons (mTup (mCons (mRet (.str "gap")) mNil)) mNil))
    (sSeq (sSet 6 (mCallS f__law_number 4 mNil))
  (sMut dAppend 2 (mCons (mTup (mCons (mRet (.str "soft")) (mCons (mVar 6) (mCons (mCallS f__law_number 4 mNil) mNil)))) mNil))))))) [N, some (.lst [.int s]), some (.lst L), some (.int c), v4, v5, v6] = some (.nx [N, some (.lst [.int s]), some (.lst (L ++ [.tup [.str "soft", .int n1, .int n2]])), some (.int c), some (.lst [.int s2]), some (.int (dr ((s + c % 1000000000000000000000000000000) % 2305843009213693951) 5)), some (.int n1)]) := by
  have hn := v_next
  have l1 : 1 ≤ sizeLine := by decide
  have l2 : 2 ≤ sizeLine := by decide
  have l3 : 3 ≤ sizeLine := by decide
  generalize hq : (s + c % 1000000000000000000000000000000) % 2305843009213693951 = q at hw e1 ⊢
  have n1 : ¬ dr q 5 < 2 := by omega
  have n2 : ¬ dr q 5 = 2 := by omega
  clear hw
  walk_at "ev"
end
theorem heard_end (N S F : List D) (s : Int) (v3 v4 v5 v6 : Option D) (z0 : 0 ≤ sizeLine) (hs : dSl (.lst N) (some 1) (some 81) = some (.lst S))
    (l1 : forRun (gSet 3) (sSeq (sOwn 4 (mLst (mCons (mOp2 dMod (mOp2 dAdd (mIxO 1 (mRet (.int 0))) (mOp2 dMod (mVar 3) (mOp2 dPow (mRet (.int 10)) (mRet (.int 30))))) (mOp2 dSub (mOp2 dPow (mRet (.int 2)) (mRet (.int 61))) (mRet (.int 1)))) mNil)))
  (sSeq (sSet 5 (mCallS f__law_next 4 (mCons (mRet (.int 5)) mNil)))
  (sIf (mTest (mOp2 dLt (mVar 5) (mRet (.int 2))))
    (sMut dAppend 2 (mCons (mTup (mCons (mRet (.str "clear")) (mCons (mVar 5) mNil))) mNil))
    (sIf (mTest (mOp2 dEq (mVar 5) (mRet (.int 2))))
    (sMut dAppend 2 (mCons (mTup (mCons (mRet (.str "gap")) mNil)) mNil))
    (sSeq (sSet 6 (mCallS f__law_number 4 mNil))
  (sMut dAppend 2 (mCons (mTup (mCons (mRet (.str "soft")) (mCons (mVar 6) (mCons (mCallS f__law_number 4 mNil) mNil)))) mNil))))))) S [some (.lst N), some (.lst [.int s]), some (.lst []), none, none, none, none] = some (.nx [some (.lst N), some (.lst [.int s]), some (.lst F), v3, v4, v5, v6])) : f__law_heard [.int s] [.lst N] = some (.lst F, [.int s]) := by
  unfold f__law_heard b__law_heard
  walk_at "ev"
theorem v_heard (ns : List Int) (s : Int) (hn : ns.length ≤ 1000) : ∃ gs : List Sg, f__law_heard [.int s] [.lst (ns.map D.int)] = some (.lst (gs.map sgD), [.int s]) ∧ gs.length ≤ 1000 ∧ ∀ g ∈ gs, SgOk g := by
  obtain ⟨ms, em, hm⟩ := cut_any ns (some 1) (some 81)
  obtain ⟨ρ', l1, gs, v3, v4, v5, v6, hρ, hl, hg⟩ := for_inv (fg := gSet 3) (fb := (sSeq (sOwn 4 (mLst (mCons (mOp2 dMod (mOp2 dAdd (mIxO 1 (mRet (.int 0))) (mOp2 dMod (mVar 3) (mOp2 dPow (mRet (.int 10)) (mRet (.int 30))))) (mOp2 dSub (mOp2 dPow (mRet (.int 2)) (mRet (.int 61))) (mRet (.int 1)))) mNil)))
  (sSeq (sSet 5 (mCallS f__law_next 4 (mCons (mRet (.int 5)) mNil)))
  (sIf (mTest (mOp2 dLt (mVar 5) (mRet (.int 2))))
    (sMut dAppend 2 (mCons (mTup (mCons (mRet (.str "clear")) (mCons (mVar 5) mNil))) mNil))
    (sIf (mTest (mOp2 dEq (mVar 5) (mRet (.int 2))))
    (sMut dAppend 2 (mCons (mTup (mCons (mRet (.str "gap")) mNil)) mNil))
    (sSeq (sSet 6 (mCallS f__law_number 4 mNil))
  (sMut dAppend 2 (mCons (mTup (mCons (mRet (.str "soft")) (mCons (mVar 6) (mCons (mCallS f__law_number 4 mNil) mNil)))) mNil))))))))
    (fun k ρ => ∃ (gs : List Sg) (v3 v4 v5 v6 : Option D), ρ = [some (.lst (ns.map D.int)), some (.lst [.int s]), some (.lst (gs.map sgD)), v3, v4, v5, v6] ∧ gs.length = k ∧ ∀ g ∈ gs, SgOk g) (ms.map D.int) 0
    [some (.lst (ns.map D.int)), some (.lst [.int s]), some (.lst []), none, none, none, none] ⟨[], none, none, none, none, rfl, rfl, fun _ h => nomatch h⟩ (fun i x ρ hx ⟨gs, v3, v4, v5, v6, hρ, hl, hg⟩ => by
      subst hρ
      have hi := (List.getElem?_eq_some_iff.mp hx).1
      rw [List.length_map] at hi
      obtain ⟨c, _, rfl⟩ := List.mem_map.mp (List.mem_of_getElem? hx)
      have ln : (gs.map sgD).length < sizeLine := by rw [List.length_map]; exact Nat.lt_of_lt_of_le (by omega : gs.length < 1001) (by decide)
      have w0 := dr_lo ((s + c % 1000000000000000000000000000000) % 2305843009213693951) (m := 5) (by decide)
      have more : ∀ g : Sg, SgOk g → ∀ h ∈ gs ++ [g], SgOk h := fun g og h hh => by
        rcases List.mem_append.mp hh with hh | hh
        · exact hg h hh
        · rw [List.mem_singleton.mp hh]; exact og
      have em : ∀ g : Sg, gs.map sgD ++ [sgD g] = (gs ++ [g]).map sgD := fun g => by rw [List.map_append]; rfl
      by_cases w1 : dr ((s + c % 1000000000000000000000000000000) % 2305843009213693951) 5 < 2
      · exact ⟨_, _, rfl, .inl ((h_clear ln w1).trans rfl), gs ++ [.clear (dr ((s + c % 1000000000000000000000000000000) % 2305843009213693951) 5)], _, _, _, _, by rw [← em]; rfl, by rw [List.length_append, hl]; rfl, more _ (by show _ = _ ∨ _ = _; omega)⟩
      · by_cases w2 : dr ((s + c % 1000000000000000000000000000000) % 2305843009213693951) 5 = 2
        · exact ⟨_, _, rfl, .inl (h_gap ln w2), gs ++ [.gap], _, _, _, _, by rw [← em]; rfl, by rw [List.length_append, hl]; rfl, more .gap trivial⟩
        · obtain ⟨n1, s1, e1, a1⟩ := v_number (nx ((s + c % 1000000000000000000000000000000) % 2305843009213693951))
          obtain ⟨n2, s2, e2, a2⟩ := v_number s1
          exact ⟨_, _, rfl, .inl (h_soft ln (by omega) e1 e2), gs ++ [.soft n1 n2], _, _, _, _, by rw [← em]; rfl, by rw [List.length_append, hl]; rfl, more (.soft n1 n2) ⟨a1, a2⟩⟩)
  subst hρ
  rw [List.length_map, Nat.zero_add] at hl
  exact ⟨gs, heard_end _ _ _ _ _ _ _ _ (by decide) (by show some (D.lst (cutD _ _ _)) = _; rw [em]) l1, by omega, hg⟩
theorem cut_sub (ns : List Int) (lo hi : Option Int) : ∃ ms : List Int, cutD (ns.map D.int) lo hi = ms.map D.int ∧ ms.Sublist ns := by
  refine ⟨(ns.drop (HT.sIx ns.length 0 lo)).take (HT.sIx ns.length ns.length hi - HT.sIx ns.length 0 lo), ?_, (List.take_sublist _ _).trans (List.drop_sublist _ _)⟩
  unfold cutD
  rw [List.length_map, List.map_take, List.map_drop]
noncomputable def Up (ps : List Int) : Prop := ps.Pairwise (· < ·) ∧ ∀ p ∈ ps, 0 ≤ p ∧ p < 1000000000000000000000000000000000000000000000000000000000000
section
variable {N v4 v5 v6 : Option D} {s c last gap : Int} {L : List D}
theorem p_body (ln : L.length < sizeLine) (hg : atI [D.int (1 + dr ((s + c % 1000000000000000000000000000000) % 2305843009213693951) 3), D.int (1 + dr (nx ((s + c % 1000000000000000000000000000000) % 2305843009213693951)) 10000000000)] (if dr (nx (nx ((s + c % 1000000000000000000000000000000) % 2305843009213693951))) 9 = 0 then 1 else 0) = some (.int gap)) :
    (sSeq (sOwn 5 (mLst (mCons (mOp2 dMod (mOp2 dAdd (mIxO 1 (mRet (.int 0))) (mOp2 dMod (mVar 4) (mOp2 dPow (mRet (.int 10)) (mRet (.int 30))))) (mOp2 dSub (mOp2 dPow (mRet (.int 2)) (mRet (.int 61))) (mRet (.int 1)))) mNil)))
  (sSeq (sSet 6 (mOp2 dIx (mOf (mLst (mCons (mOp2 dAdd (mRet (.int 1)) (mCallS f__law_next 5 (mCons (mRet (.int 3)) mNil))) (mCons (mOp2 dAdd (mRet (.int 1)) (mCallS f__law_next 5 (mCons (mOp2 dPow (mRet (.int 10)) (mRet (.int 10))) mNil))) mNil)))) (mOp1 dInt (mOp2 dEq (mCallS f__law_next 5 (mCons (mRet (.int 9)) mNil)) (mRet (.int 0))))))
  (sSeq (sSet 3 (mOp2 dAdd (mVar 3) (mVar 6)))
  (sMut dAppend 2 (mCons (mVar 3) mNil))))) [N, some (.lst [.int s]), some (.lst L), some (.int last), some (.int c), v5, v6] = some (.nx [N, some (.lst [.int s]), some (.lst (L ++ [.int (last + gap)])), some (.int (last + gap)), some (.int c), some (.lst [.int (nx (nx (nx ((s + c % 1000000000000000000000000000000) % 2305843009213693951))))]), some (.int gap)]) := by
  have hn := v_next
  have l1 : 1 ≤ sizeLine := by decide
  have l2 : 2 ≤ sizeLine := by decide
  generalize hq : (s + c % 1000000000000000000000000000000) % 2305843009213693951 = q at hg ⊢
  walk_at "ev"
end
theorem places_a (N S F G : List D) (s : Int) (v3 v4 v5 v6 : Option D) (z0 : 0 ≤ sizeLine) (hs : dSl (.lst N) (some 1) (some 61) = some (.lst S)) (hc : cutD F none (some (dr s 61)) = G) (hl : G.length < sizeLine) (hq : dr (nx s) 4 = 0)
    (l1 : forRun (gSet 4) (sSeq (sOwn 5 (mLst (mCons (mOp2 dMod (mOp2 dAdd (mIxO 1 (mRet (.int 0))) (mOp2 dMod (mVar 4) (mOp2 dPow (mRet (.int 10)) (mRet (.int 30))))) (mOp2 dSub (mOp2 dPow (mRet (.int 2)) (mRet (.int 61))) (mRet (.int 1)))) mNil)))
  (sSeq (sSet 6 (mOp2 dIx (mOf (mLst (mCons (mOp2 dAdd (mRet (.int 1)) (mCallS f__law_next 5 (mCons (mRet (.int 3)) mNil))) (mCons (mOp2 dAdd (mRet (.int 1)) (mCallS f__law_next 5 (mCons (mOp2 dPow (mRet (.int 10)) (mRet (.int 10))) mNil))) mNil)))) (mOp1 dInt (mOp2 dEq (mCallS f__law_next 5 (mCons (mRet (.int 9)) mNil)) (mRet (.int 0))))))
  (sSeq (sSet 3 (mOp2 dAdd (mVar 3) (mVar 6)))
  (sMut dAppend 2 (mCons (mVar 3) mNil))))) S [some (.lst N), some (.lst [.int s]), some (.lst []), some (.int (-1)), none, none, none] = some (.nx [some (.lst N), some (.lst [.int s]), some (.lst F), v3, v4, v5, v6])) : f__law_places [.int s] [.lst N] = some (.lst (G ++ [.int (1000000000000000000000000000000000000000000000000000000000000 - 1 - dr (nx (nx s)) 10000000000)]), [.int (nx (nx (nx s)))]) := by
  have hn := v_next
  unfold f__law_places b__law_places
  walk_at "ev"
theorem places_b (N S F G : List D) (s : Int) (v3 v4 v5 v6 : Option D) (z0 : 0 ≤ sizeLine) (hs : dSl (.lst N) (some 1) (some 61) = some (.lst S)) (hc : cutD F none (some (dr s 61)) = G) (hl : G.length < sizeLine) (hq : ¬ dr (nx s) 4 = 0)
    (l1 : forRun (gSet 4) (sSeq (sOwn 5 (mLst (mCons (mOp2 dMod (mOp2 dAdd (mIxO 1 (mRet (.int 0))) (mOp2 dMod (mVar 4) (mOp2 dPow (mRet (.int 10)) (mRet (.int 30))))) (mOp2 dSub (mOp2 dPow (mRet (.int 2)) (mRet (.int 61))) (mRet (.int 1)))) mNil)))
  (sSeq (sSet 6 (mOp2 dIx (mOf (mLst (mCons (mOp2 dAdd (mRet (.int 1)) (mCallS f__law_next 5 (mCons (mRet (.int 3)) mNil))) (mCons (mOp2 dAdd (mRet (.int 1)) (mCallS f__law_next 5 (mCons (mOp2 dPow (mRet (.int 10)) (mRet (.int 10))) mNil))) mNil)))) (mOp1 dInt (mOp2 dEq (mCallS f__law_next 5 (mCons (mRet (.int 9)) mNil)) (mRet (.int 0))))))
  (sSeq (sSet 3 (mOp2 dAdd (mVar 3) (mVar 6)))
  (sMut dAppend 2 (mCons (mVar 3) mNil))))) S [some (.lst N), some (.lst [.int s]), some (.lst []), some (.int (-1)), none, none, none] = some (.nx [some (.lst N), some (.lst [.int s]), some (.lst F), v3, v4, v5, v6])) : f__law_places [.int s] [.lst N] = some (.lst G, [.int (nx (nx s))]) := by
  have hn := v_next
  unfold f__law_places b__law_places
  walk_at "ev"
theorem v_places (ns : List Int) (s : Int) (hn : ns.length ≤ 1000) : ∃ (ps : List Int) (s' : Int), f__law_places [.int s] [.lst (ns.map D.int)] = some (.lst (ps.map D.int), [.int s']) ∧ ps.length ≤ 1001 ∧ Up ps := by
  obtain ⟨ms, em, hm⟩ := cut_any ns (some 1) (some 61)
  obtain ⟨ρ', l1, ps, last, v4, v5, v6, hρ, hl, hp, hb, h0, h1⟩ := for_inv (fg := gSet 4) (fb := (sSeq (sOwn 5 (mLst (mCons (mOp2 dMod (mOp2 dAdd (mIxO 1 (mRet (.int 0))) (mOp2 dMod (mVar 4) (mOp2 dPow (mRet (.int 10)) (mRet (.int 30))))) (mOp2 dSub (mOp2 dPow (mRet (.int 2)) (mRet (.int 61))) (mRet (.int 1)))) mNil)))
  (sSeq (sSet 6 (mOp2 dIx (mOf (mLst (mCons (mOp2 dAdd (mRet (.int 1)) (mCallS f__law_next 5 (mCons (mRet (.int 3)) mNil))) (mCons (mOp2 dAdd (mRet (.int 1)) (mCallS f__law_next 5 (mCons (mOp2 dPow (mRet (.int 10)) (mRet (.int 10))) mNil))) mNil)))) (mOp1 dInt (mOp2 dEq (mCallS f__law_next 5 (mCons (mRet (.int 9)) mNil)) (mRet (.int 0))))))
  (sSeq (sSet 3 (mOp2 dAdd (mVar 3) (mVar 6)))
  (sMut dAppend 2 (mCons (mVar 3) mNil))))))
    (fun k ρ => ∃ (ps : List Int) (last : Int) (v4 v5 v6 : Option D), ρ = [some (.lst (ns.map D.int)), some (.lst [.int s]), some (.lst (ps.map D.int)), some (.int last), v4, v5, v6] ∧ ps.length = k ∧ ps.Pairwise (· < ·) ∧ (∀ p ∈ ps, 0 ≤ p ∧ p ≤ last) ∧ -1 ≤ last ∧ last ≤ (k : Int) * 10000000000) (ms.map D.int) 0
    [some (.lst (ns.map D.int)), some (.lst [.int s]), some (.lst []), some (.int (-1)), none, none, none] ⟨[], -1, none, none, none, rfl, rfl, List.Pairwise.nil, fun _ h => (nomatch h), by decide, by decide⟩ (fun i x ρ hx ⟨ps, last, v4, v5, v6, hρ, hl, hp, hb, h0, h1⟩ => by
      subst hρ
      have hi := (List.getElem?_eq_some_iff.mp hx).1
      rw [List.length_map] at hi
      obtain ⟨c, _, rfl⟩ := List.mem_map.mp (List.mem_of_getElem? hx)
      have ln : (ps.map D.int).length < sizeLine := by rw [List.length_map]; exact Nat.lt_of_lt_of_le (by omega : ps.length < 1001) (by decide)
      obtain ⟨gap, eg, hg⟩ := pickD (a := 1 + dr ((s + c % 1000000000000000000000000000000) % 2305843009213693951) 3) (b := 1 + dr (nx ((s + c % 1000000000000000000000000000000) % 2305843009213693951)) 10000000000) (dr (nx (nx ((s + c % 1000000000000000000000000000000) % 2305843009213693951))) 9 = 0)
      have a0 := dr_lo ((s + c % 1000000000000000000000000000000) % 2305843009213693951) (m := 3) (by decide)
      have a1 := dr_hi ((s + c % 1000000000000000000000000000000) % 2305843009213693951) (m := 3) (by decide)
      have b0 := dr_lo (nx ((s + c % 1000000000000000000000000000000) % 2305843009213693951)) (m := 10000000000) (by decide)
      have b1 := dr_hi (nx ((s + c % 1000000000000000000000000000000) % 2305843009213693951)) (m := 10000000000) (by decide)
      have g0 : 1 ≤ gap := by omega
      have g1 : gap ≤ 10000000000 := by omega
      clear a0 a1 b0 b1 hg
      refine ⟨_, _, rfl, .inl (p_body ln eg), ps ++ [last + gap], last + gap, _, _, _, by rw [List.map_append]; rfl, by rw [List.length_append, hl]; rfl, ?_, ?_, by omega, by omega⟩
      · refine List.pairwise_append.mpr ⟨hp, List.pairwise_singleton _ _, fun a ha b hb' => ?_⟩
        rw [List.mem_singleton.mp hb']
        have := (hb a ha).2
        show a < last + gap
        omega
      · intro p hp'
        rcases List.mem_append.mp hp' with hp' | hp'
        · have := hb p hp'
          omega
        · rw [List.mem_singleton.mp hp']
          omega)
  subst hρ
  rw [List.length_map, Nat.zero_add] at hl h1
  have hs : dSl (.lst (ns.map D.int)) (some 1) (some 61) = some (.lst (ms.map D.int)) := by show some (D.lst (cutD _ _ _)) = _; rw [em]
  obtain ⟨ts, et, ht⟩ := cut_sub ps none (some (dr s 61))
  have hc := et
  have tl := ht.length_le
  have lt : (ts.map D.int).length < sizeLine := by rw [List.length_map]; exact Nat.lt_of_lt_of_le (by omega : ts.length < 1001) (by decide)
  have tp : ts.Pairwise (· < ·) := hp.sublist ht
  have d0 := dr_lo (nx (nx s)) (m := 10000000000) (by decide)
  have d1 := dr_hi (nx (nx s)) (m := 10000000000) (by decide)
  have tb : ∀ p ∈ ts, 0 ≤ p ∧ p ≤ 10000000000000 := fun p hp' => by
    have := hb p (ht.subset hp')
    have k1 : (ms.length : Int) ≤ 1000 := by omega
    omega
  by_cases hq : dr (nx s) 4 = 0
  · have e := places_a _ _ _ _ s _ _ _ _ (by decide) hs hc lt hq l1
    refine ⟨ts ++ [1000000000000000000000000000000000000000000000000000000000000 - 1 - dr (nx (nx s)) 10000000000], _, by rw [e, List.map_append]; rfl, by rw [List.length_append, List.length_singleton]; omega, ?_, ?_⟩
    · refine List.pairwise_append.mpr ⟨tp, List.pairwise_singleton _ _, fun a ha b hb' => ?_⟩
      rw [List.mem_singleton.mp hb']
      have := (tb a ha).2
      show a < _
      omega
    · intro p hp'
      rcases List.mem_append.mp hp' with hp' | hp'
      · have := tb p hp'
        omega
      · rw [List.mem_singleton.mp hp']
        omega
  · have e := places_b _ _ _ _ s _ _ _ _ (by decide) hs hc lt hq l1
    exact ⟨ts, _, e, by omega, tp, fun p hp' => by have := tb p hp'; omega⟩
theorem seq_nx {f g : Rho → Option Out} {ρ ρ1 : Rho} (h : f ρ = some (.nx ρ1)) : sSeq f g ρ = g ρ1 := by
  rw [ev_sseq, h]
  rfl
theorem run_of {b : Rho → Option Out} {n k : Nat} {ds : List D} {d : D} (hl : ds.length = n) (h : ∃ ρ, b (ds.map some ++ List.replicate (k - n) none) = some (.rt d ρ)) : runP false n k b ds = some d := by
  obtain ⟨ρ, h⟩ := h
  unfold runP
  rw [if_pos hl, h]
theorem strsD_map : ∀ xs : List Str, strsD (xs.map D.str) = some xs
  | [] => rfl
  | x :: xs => by
    show (strsD (xs.map D.str)).map (x :: ·) = _
    rw [strsD_map xs]
    rfl
theorem sum_le : ∀ (xs : List Str), (∀ x ∈ xs, x.length ≤ 200) → (xs.map (·.length)).sum ≤ xs.length * 200
  | [], _ => Nat.le_refl _
  | x :: xs, h => by
    have h1 := h x List.mem_cons_self
    have h2 := sum_le xs fun y hy => h y (List.mem_cons_of_mem _ hy)
    rw [List.map_cons, List.sum_cons, List.length_cons]
    omega
theorem join_is {sep : Str} {xs : List Str} (hs : sep.length ≤ 1) (hl : xs.length ≤ 2000) (h : ∀ x ∈ xs, x.length ≤ 200) : dJoin (.str sep) (.lst (xs.map D.str)) = some (.str (Txt.join sep xs)) := by
  unfold dJoin
  dsimp only
  rw [strsD_map]
  have := sum_le xs h
  have m : xs.length * sep.length ≤ xs.length := by
    have := Nat.mul_le_mul_left xs.length hs
    omega
  dsimp only
  rw [if_pos (by omega)]
noncomputable def rowT (row : List Int) : Str := Txt.join "" (row.map tx)
noncomputable def dueL (r : Int) (taps : List Int) : List Str := "reach" :: tx r :: "taps" :: (taps.map tx ++ (["rows"] : List Str))
noncomputable def schL (r : Int) (taps : List Int) (rows : List (List Int)) (e : Str) : List Str := (dueL r taps ++ rows.map rowT) ++ [e]
noncomputable def schT (r : Int) (taps : List Int) (rows : List (List Int)) (e : Str) : Str := Txt.join " " (schL r taps rows e)
noncomputable def wordT (w : List Int) : Str := if w = [] then "-" else rowT w
noncomputable def lineOf (ps : List Int) : Str := if ps = [] then "-" else Txt.join "," (ps.map tx)
section
variable {N L1 G P W Q TP RW A C : List D} {T U X E : Str} {y y' r : Int} {S R : D} {v3 v4 v5 v6 v7 v8 v9 : Option D}
theorem l0 (one : 1 ≤ sizeLine) (hy : f__law_seed [.lst N] = some (.int y)) : (sOwn 1 (mLst (mCons (mCall f__law_seed (mCons (mVar 0) mNil)) mNil))) [some (.lst N), none, none, none, none, none, none, none, none, none] = some (.nx [some (.lst N), some (.lst [.int y]), none, none, none, none, none, none, none, none]) := by
  walk_at "ev"
theorem l1 (h : f__law_scheme [.int y] [] = some (S, [.int y'])) : (sSet 2 (mCallS f__law_scheme 1 mNil)) [some (.lst N), some (.lst [.int y]), none, none, none, none, none, none, none, none] = some (.nx [some (.lst N), some (.lst [.int y']), some S, none, none, none, none, none, none, none]) := by
  walk_at "ev"
theorem l2 (hA : (D.str "reach" :: D.str T :: D.str "taps" :: (W ++ [D.str "rows"])) = A) (l1 : 1 ≤ sizeLine) (l3 : 3 ≤ sizeLine) (hr : dStr (.int r) = some (.str T)) (lt : TP.length ≤ sizeLine) (lw : 3 + W.length ≤ sizeLine) (lw' : 3 + W.length + 1 ≤ sizeLine)
    (cm : compRun 1 [] none (gSet 0) (mRet true) (mOp1 dStr (mVar 0)) TP [some (.lst N), some (.lst L1), some (.tup [.int r, .tup TP, .tup RW, .str E]), none, none, none, none, none, none, none] = some (W, [some (.lst N), some (.lst L1), some (.tup [.int r, .tup TP, .tup RW, .str E]), none, none, none, none, none, none, none])) :
    (sOwn 3 (mOp2L dCatL (mOp2 dAdd (mOf (mLst (mCons (mRet (.str "reach")) (mCons (mOp1 dStr (mOp2 dIx (mVar 2) (mRet (.int 0)))) (mCons (mRet (.str "taps")) mNil))))) (mOf (mComp 1 [] none (mSeq (mOp2 dIx (mVar 2) (mRet (.int 1)))) (gSet 0)
      (mRet true) (mOp1 dStr (mVar 0))))) (mOf (mLst (mCons (mRet (.str "rows")) mNil))))) [some (.lst N), some (.lst L1), some (.tup [.int r, .tup TP, .tup RW, .str E]), none, none, none, none, none, none, none] = some (.nx [some (.lst N), some (.lst L1), some (.tup [.int r, .tup TP, .tup RW, .str E]), some (.lst A), none, none, none, none, none, none]) := by
  subst hA
  have lw2 : W.length + 1 + 1 + 1 ≤ sizeLine := by omega
  have lw3 : W.length + 1 + 1 + 1 + 1 ≤ sizeLine := by omega
  have lw4 : 1 + 1 + 1 + W.length ≤ sizeLine := by omega
  walk_at "ev"
theorem l3b (lb : Q.length ≤ sizeLine) (la : A.length < sizeLine) (l2 : 2 ≤ sizeLine) (hj : dJoin (.str "") (.lst W) = some (.str T))
    (cm : compRun 1 [] none (gSet 0) (mRet true) (mOp2 dIx (mOf (mLst (mCons (mRet (.str "0")) (mCons (mRet (.str "1")) mNil)))) (mVar 0)) Q [some (.lst N), some (.lst L1), some S, some (.lst A), some (.tup Q), v5, v6, v7, v8, v9] = some (W, [some (.lst N), some (.lst L1), some S, some (.lst A), some (.tup Q), v5, v6, v7, v8, v9])) :
    (sMut dAppend 3 (mCons (mOp2 dJoin (mRet (.str "")) (mOf (mComp 1 [] none (mSeq (mVar 4)) (gSet 0)
      (mRet true) (mOp2 dIx (mOf (mLst (mCons (mRet (.str "0")) (mCons (mRet (.str "1")) mNil)))) (mVar 0))))) mNil)) [some (.lst N), some (.lst L1), some S, some (.lst A), some (.tup Q), v5, v6, v7, v8, v9] = some (.nx [some (.lst N), some (.lst L1), some S, some (.lst (A ++ [.str T])), some (.tup Q), v5, v6, v7, v8, v9]) := by
  generalize hJ : dJoin = J at hj ⊢
  generalize hF : (mOp2 dIx (mOf (mLst (mCons (mRet (D.str "0")) (mCons (mRet (D.str "1")) mNil)))) (mVar 0)) = F at cm ⊢
  walk_at "ev"
theorem l3 (lr : RW.length ≤ sizeLine) (h : forRun (gSet 4) (sMut dAppend 3 (mCons (mOp2 dJoin (mRet (.str "")) (mOf (mComp 1 [] none (mSeq (mVar 4)) (gSet 0)
      (mRet true) (mOp2 dIx (mOf (mLst (mCons (mRet (.str "0")) (mCons (mRet (.str "1")) mNil)))) (mVar 0))))) mNil)) RW [some (.lst N), some (.lst L1), some (.tup [.int r, .tup TP, .tup RW, .str E]), some (.lst A), none, none, none, none, none, none] = some (.nx [some (.lst N), some (.lst L1), some (.tup [.int r, .tup TP, .tup RW, .str E]), some (.lst C), v4, none, none, none, none, none])) :
    (sFor (mSeq (mOp2 dIx (mVar 2) (mRet (.int 2)))) (gSet 4)
    (sMut dAppend 3 (mCons (mOp2 dJoin (mRet (.str "")) (mOf (mComp 1 [] none (mSeq (mVar 4)) (gSet 0)
      (mRet true) (mOp2 dIx (mOf (mLst (mCons (mRet (.str "0")) (mCons (mRet (.str "1")) mNil)))) (mVar 0))))) mNil))) [some (.lst N), some (.lst L1), some (.tup [.int r, .tup TP, .tup RW, .str E]), some (.lst A), none, none, none, none, none, none] = some (.nx [some (.lst N), some (.lst L1), some (.tup [.int r, .tup TP, .tup RW, .str E]), some (.lst C), v4, none, none, none, none, none]) := by
  walk_at "ev"
theorem l4 (h : f_shown_scheme [S] = some (.str X)) : (sSet 5 (mCall f_shown_scheme (mCons (mVar 2) mNil))) [some (.lst N), some (.lst L1), some S, some (.lst C), v4, none, none, none, none, none] = some (.nx [some (.lst N), some (.lst L1), some S, some (.lst C), v4, some (.str X), none, none, none, none]) := by
  walk_at "ev"
theorem l5 (l1 : 1 ≤ sizeLine) (lc : C.length + 1 ≤ sizeLine) (hp : f__law_pieces [.str X, .str " ", .lst (C ++ [.str E])] = some (.bl true)) (hr : f_read_scheme [.str X] = some (.tup [.int r, .tup TP, .tup RW, .str E])) (he : eqD (.tup [.int r, .tup TP, .tup RW, .str E]) (.tup [.int r, .tup TP, .tup RW, .str E]) = some true) :
    (sIf (mOr (mNot (mTest (mCall f__law_pieces (mCons (mVar 5) (mCons (mRet (.str " ")) (mCons (mOp2 dAdd (mVar 3) (mOf (mLst (mCons (mOp2 dIx (mVar 2) (mRet (.int 3))) mNil)))) mNil)))))) (mTest (mOp2 dNe (mCall f_read_scheme (mCons (mVar 5) mNil)) (mVar 2))))
    (sRet (mRet (.bl false)))
    sNil) [some (.lst N), some (.lst L1), some (.tup [.int r, .tup TP, .tup RW, .str E]), some (.lst C), v4, some (.str X), none, none, none, none] = some (.nx [some (.lst N), some (.lst L1), some (.tup [.int r, .tup TP, .tup RW, .str E]), some (.lst C), v4, some (.str X), none, none, none, none]) := by
  walk_at "ev"
theorem l6 (lp : min 60 N.length ≤ sizeLine) (cm : compRun 1 [] none (gSet 0) (mRet true) (mOp2 dMod (mOp2 dAdd (mVar 0) (mRet (.int 1))) (mRet (.int 2))) (List.take 60 N) [some (.lst N), some (.lst L1), some S, some (.lst C), v4, v5, none, none, none, none] = some (W, [some (.lst N), some (.lst L1), some S, some (.lst C), v4, v5, none, none, none, none])) :
    (sSet 6 (mOf (mComp 1 [] none (mSeq (mSl (mVar 0) (mRet none) (mPart (mRet (.int 60))))) (gSet 0)
      (mRet true) (mOp2 dMod (mOp2 dAdd (mVar 0) (mRet (.int 1))) (mRet (.int 2)))))) [some (.lst N), some (.lst L1), some S, some (.lst C), v4, v5, none, none, none, none] = some (.nx [some (.lst N), some (.lst L1), some S, some (.lst C), v4, v5, some (.lst W), none, none, none]) := by
  generalize hF : (mOp2 dMod (mOp2 dAdd (mVar 0) (mRet (D.int 1))) (mRet (D.int 2))) = F at cm ⊢
  walk_at "ev"
theorem l7 (lw : W.length ≤ sizeLine) (h : f_shown_word [.lst W] = some (.str X)) : (sSet 5 (mCall f_shown_word (mCons (mOf (mOp1L dSeq (mVar 6))) mNil))) [some (.lst N), some (.lst L1), some S, some (.lst C), v4, v5, some (.lst W), none, none, none] = some (.nx [some (.lst N), some (.lst L1), some S, some (.lst C), v4, some (.str X), some (.lst W), none, none, none]) := by
  walk_at "ev"
theorem l8 (l2 : 2 ≤ sizeLine) (lw : W.length ≤ sizeLine) (hr : f_read_word [.str X] = some (.lst W)) (he : eqD (.lst W) (.lst W) = some true) (hj : dJoin (.str "") (.lst Q) = some (.str T)) (hx : eqD (.str X) (.str U) = some true) (hu : atI [D.str "-", D.str T] (if 0 < W.length then 1 else 0) = some (.str U))
    (cm : compRun 1 [] none (gSet 0) (mRet true) (mOp2 dIx (mOf (mLst (mCons (mRet (.str "0")) (mCons (mRet (.str "1")) mNil)))) (mVar 0)) W [some (.lst N), some (.lst L1), some S, some (.lst C), v4, some (.str X), some (.lst W), none, none, none] = some (Q, [some (.lst N), some (.lst L1), some S, some (.lst C), v4, some (.str X), some (.lst W), none, none, none])) :
    (sIf (mOr (mTest (mOp2 dNe (mCall f_read_word (mCons (mVar 5) mNil)) (mVar 6))) (mTest (mOp2 dNe (mVar 5) (mOp2 dIx (mOf (mLst (mCons (mRet (.str "-")) (mCons (mOp2 dJoin (mRet (.str "")) (mOf (mComp 1 [] none (mSeq (mVar 6)) (gSet 0)
      (mRet true) (mOp2 dIx (mOf (mLst (mCons (mRet (.str "0")) (mCons (mRet (.str "1")) mNil)))) (mVar 0))))) mNil)))) (mOp1 dInt (mOp2 dGt (mOp1 dLen (mVar 6)) (mRet (.int 0))))))))
    (sRet (mRet (.bl false)))
    sNil) [some (.lst N), some (.lst L1), some S, some (.lst C), v4, some (.str X), some (.lst W), none, none, none] = some (.nx [some (.lst N), some (.lst L1), some S, some (.lst C), v4, some (.str X), some (.lst W), none, none, none]) := by
  generalize hJ : dJoin = J at hj ⊢
  generalize hF : (mOp2 dIx (mOf (mLst (mCons (mRet (D.str "0")) (mCons (mRet (D.str "1")) mNil)))) (mVar 0)) = F at cm ⊢
  walk_at "ev"
theorem l9 (h : f__law_heard [.int y] [.lst N] = some (.lst G, [.int y])) : (sSet 7 (mCallS1 f__law_heard 1 (mVar 0) mNil)) [some (.lst N), some (.lst [.int y]), some S, some (.lst C), v4, v5, v6, none, none, none] = some (.nx [some (.lst N), some (.lst [.int y]), some S, some (.lst C), v4, v5, v6, some (.lst G), none, none]) := by
  walk_at "ev"
theorem l10 (lg : G.length ≤ sizeLine) : (sSet 8 (mOf (mOp1L dSeq (mVar 7)))) [some (.lst N), some (.lst [.int y]), some S, some (.lst C), v4, v5, v6, some (.lst G), none, none] = some (.nx [some (.lst N), some (.lst [.int y]), some S, some (.lst C), v4, v5, v6, some (.lst G), some (.lst G), none]) := by
  walk_at "ev"
theorem l11 (h : f_shown_heard [.lst G] = some (.str X)) : (sSet 5 (mCall f_shown_heard (mCons (mVar 8) mNil))) [some (.lst N), some (.lst [.int y]), some S, some (.lst C), v4, v5, v6, some (.lst G), some (.lst G), none] = some (.nx [some (.lst N), some (.lst [.int y]), some S, some (.lst C), v4, some (.str X), v6, some (.lst G), some (.lst G), none]) := by
  walk_at "ev"
theorem l12 (lg : G.length ≤ sizeLine) (he : eqD (.lst G) (.lst G) = some true) (hp : f__law_pieces [.str X, .str " ", .lst W] = some (.bl true)) (cm : compRun 1 [] none (gSet 0) (mRet true) (mCall f__law_heard_piece (mCons (mVar 0) mNil)) G [some (.lst N), some (.lst [.int y]), some S, some (.lst C), v4, some (.str X), v6, some (.lst G), some (.lst G), none] = some (W, [some (.lst N), some (.lst [.int y]), some S, some (.lst C), v4, some (.str X), v6, some (.lst G), some (.lst G), none])) :
    (sIf (mOr (mNot (mTest (mCall f__law_pieces (mCons (mVar 5) (mCons (mRet (.str " ")) (mCons (mOf (mComp 1 [] none (mSeq (mVar 7)) (gSet 0)
      (mRet true) (mCall f__law_heard_piece (mCons (mVar 0) mNil)))) mNil)))))) (mTest (mOp2 dNe (mVar 8) (mVar 7))))
    (sRet (mRet (.bl false)))
    sNil) [some (.lst N), some (.lst [.int y]), some S, some (.lst C), v4, some (.str X), v6, some (.lst G), some (.lst G), none] = some (.nx [some (.lst N), some (.lst [.int y]), some S, some (.lst C), v4, some (.str X), v6, some (.lst G), some (.lst G), none]) := by
  walk_at "ev"
theorem l13 (he : eqD (.lst G) (.lst G) = some true) (h : f_read_heard [.str X] = some (.lst G)) : (sIf (mTest (mOp2 dNe (mCall f_read_heard (mCons (mVar 5) mNil)) (mVar 7)))
    (sRet (mRet (.bl false)))
    sNil) [some (.lst N), some (.lst [.int y]), some S, some (.lst C), v4, some (.str X), v6, some (.lst G), v8, none] = some (.nx [some (.lst N), some (.lst [.int y]), some S, some (.lst C), v4, some (.str X), v6, some (.lst G), v8, none]) := by
  walk_at "ev"
theorem l14 (h : f__law_places [.int y] [.lst N] = some (.lst P, [.int y'])) : (sSet 9 (mCallS1 f__law_places 1 (mVar 0) mNil)) [some (.lst N), some (.lst [.int y]), some S, some (.lst C), v4, v5, v6, v7, v8, none] = some (.nx [some (.lst N), some (.lst [.int y']), some S, some (.lst C), v4, v5, v6, v7, v8, some (.lst P)]) := by
  walk_at "ev"
theorem l15 (lp : P.length ≤ sizeLine) (h : f_shown_places [.lst P] = some (.str X)) : (sSet 5 (mCall f_shown_places (mCons (mOf (mOp1L dSeq (mVar 9))) mNil))) [some (.lst N), some (.lst L1), some S, some (.lst C), v4, v5, v6, v7, v8, some (.lst P)] = some (.nx [some (.lst N), some (.lst L1), some S, some (.lst C), v4, some (.str X), v6, v7, v8, some (.lst P)]) := by
  walk_at "ev"
theorem l16 (he : eqD (.lst P) (.lst P) = some true) (h : f_read_places [.str X] = some (.lst P)) : (sIf (mTest (mOp2 dNe (mCall f_read_places (mCons (mVar 5) mNil)) (mVar 9)))
    (sRet (mRet (.bl false)))
    sNil) [some (.lst N), some (.lst L1), some S, some (.lst C), v4, some (.str X), v6, v7, v8, some (.lst P)] = some (.nx [some (.lst N), some (.lst L1), some S, some (.lst C), v4, some (.str X), v6, v7, v8, some (.lst P)]) := by
  walk_at "ev"
theorem l17n (z0 : 0 ≤ sizeLine) (lp : P.length ≤ sizeLine) (he : eqD (.lst P) (.lst []) = some false) {b : Bool} (hx : eqD (.str X) (.str "-") = some b) (hp : f__law_pieces [.str X, .str ",", .lst W] = some (.bl true)) (cm : compRun 1 [] none (gSet 0) (mRet true) (mOp1 dStr (mVar 0)) P [some (.lst N), some (.lst L1), some S, some (.lst C), v4, some (.str X), v6, v7, v8, some (.lst P)] = some (W, [some (.lst N), some (.lst L1), some S, some (.lst C), v4, some (.str X), v6, v7, v8, some (.lst P)])) :
    (sRet (mOrV (mAndV (mOp2 dEq (mVar 5) (mRet (.str "-"))) (mOp2 dEq (mVar 9) (mOf (mLst mNil)))) (mCall f__law_pieces (mCons (mVar 5) (mCons (mRet (.str ",")) (mCons (mOf (mComp 1 [] none (mSeq (mVar 9)) (gSet 0)
      (mRet true) (mOp1 dStr (mVar 0)))) mNil)))))) [some (.lst N), some (.lst L1), some S, some (.lst C), v4, some (.str X), v6, v7, v8, some (.lst P)] = some (.rt (.bl true) [some (.lst N), some (.lst L1), some S, some (.lst C), v4, some (.str X), v6, v7, v8, some (.lst P)]) := by
  cases b <;> walk_at "ev"
theorem l17y (z0 : 0 ≤ sizeLine) (he : eqD (.lst P) (.lst []) = some true) (hx : eqD (.str X) (.str "-") = some true) :
    (sRet (mOrV (mAndV (mOp2 dEq (mVar 5) (mRet (.str "-"))) (mOp2 dEq (mVar 9) (mOf (mLst mNil)))) (mCall f__law_pieces (mCons (mVar 5) (mCons (mRet (.str ",")) (mCons (mOf (mComp 1 [] none (mSeq (mVar 9)) (gSet 0)
      (mRet true) (mOp1 dStr (mVar 0)))) mNil)))))) [some (.lst N), some (.lst L1), some S, some (.lst C), v4, some (.str X), v6, v7, v8, some (.lst P)] = some (.rt (.bl true) [some (.lst N), some (.lst L1), some S, some (.lst C), v4, some (.str X), v6, v7, v8, some (.lst P)]) := by
  walk_at "ev"
end
theorem join_sign {c d : Nat} : ∀ {xs : List Str}, d ∈ (Txt.join ⟨#[c]⟩ xs).cps.toList → d = c ∨ ∃ x ∈ xs, d ∈ x.cps.toList := by
  intro xs
  rw [txt_join]
  induction xs with
  | nil => exact fun h => absurd (show d ∈ ([] : List Nat) from h) (by simp)
  | cons x r ih =>
    cases r with
    | nil =>
      have e : Str.join ⟨#[c]⟩ [x] = x := by rw [← txt_join]; rfl
      rw [e]
      exact fun h => .inr ⟨x, List.mem_cons_self, h⟩
    | cons y r =>
      rw [join_cons]
      intro h
      rcases List.mem_append.mp h with h | h
      · exact .inr ⟨x, List.mem_cons_self, h⟩
      · rcases List.mem_cons.mp h with h | h
        · exact .inl h
        · rcases ih h with h | ⟨z, hz, h⟩
          · exact .inl h
          · exact .inr ⟨z, List.mem_cons_of_mem _ hz, h⟩
theorem bits_cm (row : List Int) (h : ∀ b ∈ row, b = 0 ∨ b = 1) (ρ : Rho) : compRun 1 [] none (gSet 0) (mRet true) (mOp2 dIx (mOf (mLst (mCons (mRet (.str "0")) (mCons (mRet (.str "1")) mNil)))) (mVar 0)) (row.map D.int) ρ = some ((row.map tx).map D.str, ρ) := by
  have l2 : 2 ≤ sizeLine := by decide
  have cm := cm_map (n := 1) (js := []) (fg := gSet 0) (fe := mOp2 dIx (mOf (mLst (mCons (mRet (.str "0")) (mCons (mRet (.str "1")) mNil)))) (mVar 0)) (ρ := ρ) (fun d => match d with | .int b => .str (tx b) | d => d) (row.map D.int) (fun x hx => by
    obtain ⟨b, hb, rfl⟩ := List.mem_map.mp hx
    have e := bit_at (h b hb)
    refine ⟨[some (.int b)], rfl, ?_⟩
    clear hx hb
    dsimp only
    generalize tx b = t at e ⊢
    walk_at "ev")
  rw [cm, List.map_map, List.map_map]
  rfl
theorem strs_cm (ns : List Int) (h : ∀ n ∈ ns, N60 n) (ρ : Rho) : compRun 1 [] none (gSet 0) (mRet true) (mOp1 dStr (mVar 0)) (ns.map D.int) ρ = some ((ns.map tx).map D.str, ρ) := by
  have cm := cm_map (n := 1) (js := []) (fg := gSet 0) (fe := mOp1 dStr (mVar 0)) (ρ := ρ) (fun d => match d with | .int b => .str (tx b) | d => d) (ns.map D.int) (fun x hx => by
    obtain ⟨b, hb, rfl⟩ := List.mem_map.mp hx
    have e := (h b hb).str
    refine ⟨[some (.int b)], rfl, ?_⟩
    clear hx hb
    dsimp only
    generalize tx b = t at e ⊢
    walk_at "ev")
  rw [cm, List.map_map, List.map_map]
  rfl
theorem bit_len {b : Int} (h : b = 0 ∨ b = 1) : (tx b).length = 1 := by
  rcases h with rfl | rfl
  · rw [tx0]; rfl
  · rw [tx1]; rfl
theorem bit_sign {b : Int} {c : Nat} (h : b = 0 ∨ b = 1) (hc : c ∈ (tx b).cps.toList) : c = 48 ∨ c = 49 := by
  rcases h with rfl | rfl
  · rw [tx0] at hc
    have h' : c ∈ [48] := hc
    exact .inl (by simpa using h')
  · rw [tx1] at hc
    have h' : c ∈ [49] := hc
    exact .inr (by simpa using h')
theorem rowT_sign {row : List Int} (h : ∀ b ∈ row, b = 0 ∨ b = 1) {c : Nat} (hc : c ∈ (rowT row).cps.toList) : c = 48 ∨ c = 49 := by
  unfold rowT at hc
  rw [join0_cps] at hc
  obtain ⟨l, hl, hc⟩ := List.mem_flatten.mp hc
  obtain ⟨x, hx, rfl⟩ := List.mem_map.mp hl
  obtain ⟨b, hb, rfl⟩ := List.mem_map.mp hx
  exact bit_sign (h b hb) hc
theorem rowT_len : ∀ {row : List Int}, (∀ b ∈ row, b = 0 ∨ b = 1) → (rowT row).length = row.length
  | [], _ => rfl
  | b :: r, h => by
    unfold rowT
    rw [List.map_cons, len_toList, join0_cons, List.length_append, ← len_toList, ← len_toList, bit_len (h b List.mem_cons_self)]
    have := rowT_len (row := r) fun x hx => h x (List.mem_cons_of_mem _ hx)
    unfold rowT at this
    rw [this, List.length_cons]
    omega
theorem tap60 {r : Int} {taps : List Int} {rows : List (List Int)} {e : Str} (ok : SchOk r taps rows e) : ∀ t ∈ taps, N60 t := fun t ht => by
  have h := ok.tb t ht
  have p : (2 : Int) ^ r.toNat ≤ 2 ^ 4 := by
    have r4 := ok.r4
    have r0 := ok.r0
    have : r.toNat = 0 ∨ r.toNat = 1 ∨ r.toNat = 2 ∨ r.toNat = 3 ∨ r.toNat = 4 := by omega
    rcases this with q | q | q | q | q <;> rw [q] <;> decide
  have q : (2 : Int) ^ 4 = 16 := by decide
  unfold N60
  omega
theorem sch_parts {r : Int} {taps : List Int} {rows : List (List Int)} {e : Str} (ok : SchOk r taps rows e) : ∀ x ∈ schL r taps rows e, PyData.strOk x = true ∧ 32 ∉ x.cps.toList ∧ x.length ≤ 200 := by
  have num : ∀ n : Int, N60 n → PyData.strOk (tx n) = true ∧ 32 ∉ (tx n).cps.toList ∧ (tx n).length ≤ 200 := fun n hn => ⟨tx_ok n, fun q => by rcases tx_sign q with q | q <;> omega, Nat.le_trans hn.len (by decide)⟩
  have r60 : N60 r := by have := ok.r0; have := ok.r4; unfold N60; omega
  intro x hx
  unfold schL dueL at hx
  simp only [List.mem_append, List.mem_cons, List.not_mem_nil, or_false, List.mem_map] at hx
  rcases hx with ((rfl | rfl | rfl | ⟨t, ht, rfl⟩ | rfl) | ⟨row, hrow, rfl⟩) | rfl
  · exact ⟨by decide +kernel, by decide +kernel, by decide +kernel⟩
  · exact num r r60
  · exact ⟨by decide +kernel, by decide +kernel, by decide +kernel⟩
  · exact num t (tap60 ok t ht)
  · exact ⟨by decide +kernel, by decide +kernel, by decide +kernel⟩
  · have hb := (ok.rw row hrow).2
    have hl := (ok.rw row hrow).1
    have t4 := ok.t4
    refine ⟨strOk_of fun c hc => ?_, fun q => ?_, ?_⟩
    · have := rowT_sign hb hc; omega
    · have := rowT_sign hb q; omega
    · rw [rowT_len hb]; omega
  · rcases ok.en with rfl | rfl | rfl <;> exact ⟨by decide +kernel, by decide +kernel, by decide +kernel⟩
theorem sch_len {r : Int} {taps : List Int} {rows : List (List Int)} {e : Str} (ok : SchOk r taps rows e) : (schL r taps rows e).length ≤ 20 := by
  have t4 := ok.t4
  have m6 := ok.m6
  unfold schL dueL
  simp only [List.length_append, List.length_cons, List.length_nil, List.length_map]
  omega
theorem sch_same {r : Int} {taps : List Int} {rows : List (List Int)} {e : Str} (ok : SchOk r taps rows e) : eqD (schD r taps rows e) (schD r taps rows e) = some true := by
  refine eqD_self (n := 3) ?_ (by decide)
  have eo : PyData.strOk e = true := by rcases ok.en with rfl | rfl | rfl <;> decide +kernel
  have allI : ∀ xs : List Int, DOks 0 (xs.map D.int) := fun xs => .all fun d hd => by
    obtain ⟨i, _, rfl⟩ := List.mem_map.mp hd
    exact .int _ i
  have h2 : DOk 2 (.tup (rows.map rowD)) := DOks.tup (.all fun d hd => by
    obtain ⟨row, _, rfl⟩ := List.mem_map.mp hd
    exact DOks.tup (allI row))
  exact DOks.tup (.cons (.int _ _) (.cons ((DOks.tup (allI taps)).le (by decide)) (.cons h2 (.cons (.str _ eo) (.nil _)))))
theorem sgs_same (gs : List Sg) : eqD (.lst (gs.map sgD)) (.lst (gs.map sgD)) = some true := by
  refine eqD_self (n := 2) (DOks.lst (.all fun d hd => ?_)) (by decide)
  obtain ⟨g, _, rfl⟩ := List.mem_map.mp hd
  cases g with
  | clear b => exact DOks.tup (.cons (.str _ (by decide +kernel)) (.cons (.int _ _) (.nil _)))
  | gap => exact DOks.tup (.cons (.str _ (by decide +kernel)) (.nil _))
  | soft z o => exact DOks.tup (.cons (.str _ (by decide +kernel)) (.cons (.int _ _) (.cons (.int _ _) (.nil _))))
theorem due_run (N L1 : List D) (S : D) (rows : List (List Int)) (A : List Str) (la : A.length + rows.length ≤ 1000) (hb : ∀ row ∈ rows, row.length ≤ 100 ∧ ∀ b ∈ row, b = 0 ∨ b = 1) : ∃ v4, forRun (gSet 4) (sMut dAppend 3 (mCons (mOp2 dJoin (mRet (.str "")) (mOf (mComp 1 [] none (mSeq (mVar 4)) (gSet 0)
      (mRet true) (mOp2 dIx (mOf (mLst (mCons (mRet (.str "0")) (mCons (mRet (.str "1")) mNil)))) (mVar 0))))) mNil)) (rows.map rowD) [some (.lst N), some (.lst L1), some S, some (.lst (A.map D.str)), none, none, none, none, none, none] = some (.nx [some (.lst N), some (.lst L1), some S, some (.lst ((A ++ rows.map rowT).map D.str)), v4, none, none, none, none, none]) := by
  obtain ⟨ρ', l1, v4, hρ⟩ := for_inv (fg := gSet 4) (fb := (sMut dAppend 3 (mCons (mOp2 dJoin (mRet (.str "")) (mOf (mComp 1 [] none (mSeq (mVar 4)) (gSet 0)
      (mRet true) (mOp2 dIx (mOf (mLst (mCons (mRet (.str "0")) (mCons (mRet (.str "1")) mNil)))) (mVar 0))))) mNil)))
    (fun k ρ => ∃ v4, ρ = [some (.lst N), some (.lst L1), some S, some (.lst ((A ++ (rows.take k).map rowT).map D.str)), v4, none, none, none, none, none]) (rows.map rowD) 0 [some (.lst N), some (.lst L1), some S, some (.lst (A.map D.str)), none, none, none, none, none, none] ⟨none, by rw [List.take_zero, List.map_nil, List.append_nil]⟩ (fun i x ρ hx ⟨v4, hρ⟩ => by
      subst hρ
      rw [List.getElem?_map] at hx
      cases hr : rows[i]? with
      | none => rw [hr] at hx; cases hx
      | some row =>
        rw [hr] at hx
        cases hx
        have hm := hb row (List.mem_of_getElem? hr)
        have hi := (List.getElem?_eq_some_iff.mp hr).1
        have e : (A ++ (rows.take (0 + i)).map rowT).map D.str ++ [.str (rowT row)] = (A ++ (rows.take (0 + i + 1)).map rowT).map D.str := by
          rw [Nat.zero_add, List.take_succ, hr, List.map_append, List.map_append, List.map_append, List.map_append, List.append_assoc]
          rfl
        refine ⟨_, _, rfl, .inl ((l3b (W := (row.map tx).map D.str) (T := rowT row) ?_ ?_ (by decide) (join_is (by decide) ?_ fun x hx => ?_) (bits_cm row hm.2 _)).trans (by rw [e]; rfl)), some (rowD row), rfl⟩
        · rw [List.length_map]; exact line_of (by omega)
        · rw [List.length_map, List.length_append, List.length_map, List.length_take]
          exact Nat.lt_of_lt_of_le (by omega : _ < 2000) (line_of (by decide))
        · rw [List.length_map]; omega
        · obtain ⟨b, hb', rfl⟩ := List.mem_map.mp hx
          rw [bit_len (hm.2 b hb')]
          decide)
  subst hρ
  refine ⟨v4, ?_⟩
  rw [List.length_map, Nat.zero_add, List.take_length] at l1
  exact l1
theorem law_if (hSs : ∀ r taps rows e, SchOk r taps rows e → f_shown_scheme [schD r taps rows e] = some (.str (schT r taps rows e)))
    (hSr : ∀ r taps rows e, SchOk r taps rows e → f_read_scheme [.str (schT r taps rows e)] = some (schD r taps rows e))
    (hWs : ∀ w : List Int, w.length ≤ 60 → (∀ b ∈ w, b = 0 ∨ b = 1) → f_shown_word [.lst (w.map D.int)] = some (.str (wordT w)))
    (hWr : ∀ w : List Int, w.length ≤ 60 → (∀ b ∈ w, b = 0 ∨ b = 1) → f_read_word [.str (wordT w)] = some (.lst (w.map D.int)))
    (hHs : ∀ gs : List Sg, gs.length ≤ 1000 → (∀ g ∈ gs, SgOk g) → f_shown_heard [.lst (gs.map sgD)] = some (.str (Txt.join " " (gs.map wr))))
    (hHr : ∀ gs : List Sg, gs.length ≤ 1000 → (∀ g ∈ gs, SgOk g) → f_read_heard [.str (Txt.join " " (gs.map wr))] = some (.lst (gs.map sgD)))
    (hPs : ∀ ps : List Int, ps.length ≤ 1001 → Up ps → f_shown_places [.lst (ps.map D.int)] = some (.str (lineOf ps)))
    (hPr : ∀ ps : List Int, ps.length ≤ 1001 → Up ps → f_read_places [.str (lineOf ps)] = some (.lst (ps.map D.int)))
    (ns : List Int) (h : ns.length ≤ 63) : f_law [.lst (ns.map D.int)] = some (.bl true) := by
  obtain ⟨y, hy⟩ := v_seed ns
  obtain ⟨r, taps, rows, e, s', hs, ok⟩ := v_lawscheme y
  have t4 := ok.t4
  have m6 := ok.m6
  have r60 : N60 r := by have := ok.r0; have := ok.r4; unfold N60; omega
  obtain ⟨v4, hdue⟩ := due_run (ns.map D.int) [.int s'] (schD r taps rows e) rows (dueL r taps) (by unfold dueL; simp only [List.length_cons, List.length_append, List.length_map, List.length_nil]; omega) (fun row hrow => ⟨by have := (ok.rw row hrow).1; omega, (ok.rw row hrow).2⟩)
  have sp := sch_parts ok
  have sl := sch_len ok
  have e32 : (" " : Str) = ⟨#[32]⟩ := by decide +kernel
  have e44 : ("," : Str) = ⟨#[44]⟩ := by decide +kernel
  have hpc : f__law_pieces [.str (schT r taps rows e), .str " ", .lst ((dueL r taps ++ rows.map rowT).map D.str ++ [.str e])] = some (.bl true) := by
    have q := v_pieces (c := 32) (xs := schL r taps rows e) (fun x hx => (sp x hx).1) (fun x hx => (sp x hx).2.1) (fun x hx => (sp x hx).2.2) (by omega)
    rw [← e32] at q
    unfold schL at q
    rw [List.map_append] at q
    exact q
  -- the word
  obtain ⟨ms, em, ml⟩ : ∃ ms : List Int, List.take 60 (ns.map D.int) = ms.map D.int ∧ ms.length ≤ 60 := ⟨ns.take 60, by rw [List.map_take], by rw [List.length_take]; omega⟩
  have wb : ∀ b ∈ ms.map (fun c => (c + 1) % 2), b = 0 ∨ b = 1 := fun b hb => by
    obtain ⟨c, _, rfl⟩ := List.mem_map.mp hb
    omega
  have wl : (ms.map fun c => (c + 1) % 2).length ≤ 60 := by rw [List.length_map]; exact ml
  have cmw := fun ρ => cm_map (n := 1) (js := []) (fg := gSet 0) (fe := mOp2 dMod (mOp2 dAdd (mVar 0) (mRet (.int 1))) (mRet (.int 2))) (ρ := ρ) (fun d => match d with | .int c => .int ((c + 1) % 2) | d => d) (ms.map D.int) (fun x hx => by
    obtain ⟨c, _, rfl⟩ := List.mem_map.mp hx
    refine ⟨[some (.int c)], rfl, ?_⟩
    clear hx
    walk_at "ev")
  have mw : (ms.map D.int).map (fun d => match d with | .int c => D.int ((c + 1) % 2) | d => d) = (ms.map fun c => (c + 1) % 2).map D.int := by
    rw [List.map_map, List.map_map]
    rfl
  rw [mw] at cmw
  generalize (ms.map fun c => (c + 1) % 2) = w at wb wl cmw
  have ww := hWs w wl wb
  have wr' := hWr w wl wb
  have lw : (w.map D.int).length ≤ sizeLine := by rw [List.length_map]; exact line_of (by omega)
  have jw : dJoin (.str "") (.lst ((w.map tx).map D.str)) = some (.str (rowT w)) := join_is (by decide) (by rw [List.length_map]; omega) (fun x hx => by
    obtain ⟨b, hb', rfl⟩ := List.mem_map.mp hx
    rw [bit_len (wb b hb')]
    decide)
  have wok : PyData.strOk (wordT w) = true := by
    unfold wordT
    split
    · decide +kernel
    · exact strOk_of fun c hc => by have := rowT_sign wb hc; omega
  have wsame : eqD (.str (wordT w)) (.str (wordT w)) = some true := eqD_self (.str 0 wok) (by decide)
  have wat : atI [D.str "-", D.str (rowT w)] (if 0 < (w.map D.int).length then 1 else 0) = some (.str (wordT w)) := by
    unfold wordT
    cases w with
    | nil => rfl
    | cons b r =>
      rw [if_pos (by rw [List.map_cons, List.length_cons]; omega), at1, if_neg (by simp)]
  -- what is heard
  obtain ⟨gs, hg, gl, go⟩ := v_heard ns s' (by omega)
  have lG : (gs.map sgD).length ≤ sizeLine := by rw [List.length_map]; exact line_of (by omega)
  have hpg : f__law_pieces [.str (Txt.join " " (gs.map wr)), .str " ", .lst ((gs.map wr).map D.str)] = some (.bl true) := by
    rw [e32]
    refine v_pieces (fun x hx => ?_) (fun x hx q => ?_) (fun x hx => ?_) (by rw [List.length_map]; omega) <;> obtain ⟨g, hg', rfl⟩ := List.mem_map.mp hx
    · exact wr_ok g
    · have := wr_sign q; omega
    · exact wr_len (go g hg')
  have cmg := fun ρ => cm_map (n := 1) (js := []) (fg := gSet 0) (fe := mCall f__law_heard_piece (mCons (mVar 0) mNil)) (ρ := ρ) (fun d => ((f__law_heard_piece [d]).getD .non)) (gs.map sgD) (fun x hx => by
    obtain ⟨g, hg, rfl⟩ := List.mem_map.mp hx
    have hw := v_piece (go g hg)
    refine ⟨[some (sgD g)], rfl, ?_⟩
    rw [hw]
    clear hx hg
    walk_at "ev")
  have mg : (gs.map sgD).map (fun d => ((f__law_heard_piece [d]).getD .non)) = (gs.map wr).map D.str := by
    rw [List.map_map, List.map_map]
    refine List.map_congr_left fun g hg => ?_
    show (f__law_heard_piece [sgD g]).getD .non = _
    rw [v_piece (go g hg)]
    rfl
  rw [mg] at cmg
  have gsame := sgs_same gs
  -- places
  obtain ⟨ps, s2, hp, pl, po⟩ := v_places ns s' (by omega)
  have lP : (ps.map D.int).length ≤ sizeLine := by rw [List.length_map]; exact line_of (by omega)
  have psame : eqD (.lst (ps.map D.int)) (.lst (ps.map D.int)) = some true := by rw [eqD_ints, decide_eq_true rfl]
  have p60 : ∀ p ∈ ps, N60 p := fun p hp' => by have := po.2 p hp'; unfold N60; omega
  have eP := eqD_ints ps []
  by_cases hz : ps = []
  · rw [decide_eq_true hz] at eP
    have e5 : lineOf ps = "-" := if_pos hz
    exact run_of rfl ⟨_, (seq_nx (l0 (by decide) hy)).trans <| (seq_nx (l1 hs)).trans <| (seq_nx (l2 (T := tx r) (W := (taps.map tx).map D.str) (A := (dueL r taps).map D.str) (by unfold dueL; simp) (by decide) (by decide) r60.str (by rw [List.length_map]; exact line_of (by omega)) (by rw [List.length_map, List.length_map]; exact line_of (by omega)) (by rw [List.length_map, List.length_map]; exact line_of (by omega)) (strs_cm taps (tap60 ok) _))).trans <|
    (seq_nx (l3 (A := (dueL r taps).map D.str) (by rw [List.length_map]; exact line_of (by omega)) hdue)).trans <| (seq_nx (l4 (hSs r taps rows e ok))).trans <| (seq_nx (l5 (by decide) (by rw [List.length_map]; unfold schL at sl; rw [List.length_append, List.length_singleton] at sl; exact line_of (by omega)) hpc (hSr r taps rows e ok) (sch_same ok))).trans <|
    (seq_nx (l6 (by exact line_of (by omega)) (by rw [em]; exact cmw _))).trans <| (seq_nx (l7 lw ww)).trans <| (seq_nx (l8 (by decide) lw wr' (by rw [eqD_ints, decide_eq_true rfl]) jw wsame wat (bits_cm w wb _))).trans <|
    (seq_nx (l9 hg)).trans <| (seq_nx (l10 lG)).trans <| (seq_nx (l11 (hHs gs gl go))).trans <| (seq_nx (l12 lG gsame hpg (cmg _))).trans <| (seq_nx (l13 gsame (hHr gs gl go))).trans <|
    (seq_nx (l14 hp)).trans <| (seq_nx (l15 lP (hPs ps pl po))).trans <| (seq_nx (l16 psame (hPr ps pl po))).trans (l17y (by decide) eP (by rw [e5]; exact eqD_self (.str 0 (by decide +kernel)) (by decide)))⟩
  · rw [decide_eq_false hz] at eP
    have e5 : lineOf ps = Txt.join "," (ps.map tx) := if_neg hz
    have pok : PyData.strOk (lineOf ps) = true := by
      rw [e5, e44]
      exact strOk_of fun d hd => by
        rcases join_sign hd with h | ⟨x, hx, h⟩
        · omega
        · obtain ⟨g, _, rfl⟩ := List.mem_map.mp hx
          have := tx_sign h
          omega
    have hpp : f__law_pieces [.str (lineOf ps), .str ",", .lst ((ps.map tx).map D.str)] = some (.bl true) := by
      rw [e5, e44]
      refine v_pieces (fun x hx => ?_) (fun x hx q => ?_) (fun x hx => ?_) (by rw [List.length_map]; omega) <;> obtain ⟨g, hg', rfl⟩ := List.mem_map.mp hx
      · exact tx_ok g
      · have := tx_sign q; omega
      · exact Nat.le_trans (p60 g hg').len (by decide)
    exact run_of rfl ⟨_, (seq_nx (l0 (by decide) hy)).trans <| (seq_nx (l1 hs)).trans <| (seq_nx (l2 (T := tx r) (W := (taps.map tx).map D.str) (A := (dueL r taps).map D.str) (by unfold dueL; simp) (by decide) (by decide) r60.str (by rw [List.length_map]; exact line_of (by omega)) (by rw [List.length_map, List.length_map]; exact line_of (by omega)) (by rw [List.length_map, List.length_map]; exact line_of (by omega)) (strs_cm taps (tap60 ok) _))).trans <|
    (seq_nx (l3 (A := (dueL r taps).map D.str) (by rw [List.length_map]; exact line_of (by omega)) hdue)).trans <| (seq_nx (l4 (hSs r taps rows e ok))).trans <| (seq_nx (l5 (by decide) (by rw [List.length_map]; unfold schL at sl; rw [List.length_append, List.length_singleton] at sl; exact line_of (by omega)) hpc (hSr r taps rows e ok) (sch_same ok))).trans <|
    (seq_nx (l6 (by exact line_of (by omega)) (by rw [em]; exact cmw _))).trans <| (seq_nx (l7 lw ww)).trans <| (seq_nx (l8 (by decide) lw wr' (by rw [eqD_ints, decide_eq_true rfl]) jw wsame wat (bits_cm w wb _))).trans <|
    (seq_nx (l9 hg)).trans <| (seq_nx (l10 lG)).trans <| (seq_nx (l11 (hHs gs gl go))).trans <| (seq_nx (l12 lG gsame hpg (cmg _))).trans <| (seq_nx (l13 gsame (hHr gs gl go))).trans <|
    (seq_nx (l14 hp)).trans <| (seq_nx (l15 lP (hPs ps pl po))).trans <| (seq_nx (l16 psame (hPr ps pl po))).trans (l17n (by decide) lP eP (eqD_str pok (by decide +kernel)) hpp (strs_cm ps p60 _))⟩
theorem all_yes : ∀ ys : List D, boolsD (ys.map fun _ => D.bl true) = some (ys.map fun _ => true)
  | [] => rfl
  | y :: ys => by simp [boolsD, all_yes ys]
theorem all_id (ys : List D) : (ys.map fun _ => true).all id = true := by
  induction ys with
  | nil => rfl
  | cons y ys ih => simp
theorem made_yes (x F : Str) (L : Int) (Z : List D) (hl : dLenS (.str x) = some (.int L)) (n0 : 0 < L) (hs : sgO (.str x) = some Z) (cm : compRun 1 [1] none (gSet 0) (mRet true) (mOp2 dInS (mVar 0) (mVar 1)) Z [some (.str x), some (.str F)] = some (Z.map (fun _ => .bl true), [some (.str x), some (.str F)])) (lz : Z.length ≤ sizeLine) : f_is_made_of [.str x, .str F] = some (.bl true) := by
  have a2 := all_yes Z
  have a3 := all_id Z
  unfold f_is_made_of b_is_made_of
  generalize hd : (mOp2 dInS (mVar 0) (mVar 1)) = fe at cm ⊢
  walk_at "ev"
theorem figs_cm (F : Str) (l : List Nat) (h : ∀ c ∈ l, dInS (.str ⟨#[c]⟩) (.str F) = some (.bl true)) (X : Option D) : compRun 1 [1] none (gSet 0) (mRet true) (mOp2 dInS (mVar 0) (mVar 1)) (l.map fun c => D.str ⟨#[c]⟩) [X, some (.str F)] = some ((l.map fun c => D.str ⟨#[c]⟩).map (fun _ => .bl true), [X, some (.str F)]) :=
  cm_map _ _ fun x hx => by
    obtain ⟨c, hc, rfl⟩ := List.mem_map.mp hx
    have e := h c hc
    refine ⟨[some (.str ⟨#[c]⟩), some (.str F)], rfl, ?_⟩
    clear hx hc h
    generalize dInS = J at e ⊢
    walk_at "ev"
theorem p_made {x F : Str} (ne : x.cps.toList ≠ []) (h : ∀ c ∈ x.cps.toList, dInS (.str ⟨#[c]⟩) (.str F) = some (.bl true)) (lx : x.length ≤ sizeLine) : f_is_made_of [.str x, .str F] = some (.bl true) :=
  made_yes x F (x.length : Nat) (signsD x) (dLenS_is lx rfl) (by
    rw [len_toList]
    have := List.length_pos_iff.mpr ne
    omega) rfl (figs_cm F _ h _) (by
    unfold signsD
    rw [List.length_map, ← len_toList]
    exact lx)
theorem one_ok {c : Nat} (h : c ≤ 57) : PyData.strOk ⟨#[c]⟩ = true := strOk_of fun d hd => by
  have : d = c := by simpa using hd
  omega
theorem eq_one {c d : Nat} (h : c ≤ 57) (h' : d ≤ 57) : eqD (.str ⟨#[c]⟩) (.str ⟨#[d]⟩) = some (decide (c = d)) := by
  rw [eqD_str (one_ok h) (one_ok h')]
  by_cases q : c = d
  · subst q; simp
  · rw [decide_eq_false q]
    congr 1
    rw [beq_eq_false_iff_ne]
    intro z
    exact q (by simpa using congrArg (fun s : Str => s.cps.toList) z)
theorem eq_txt {x : Str} (ho : PyData.strOk x = true) {d : Nat} (h' : d ≤ 57) : eqD (.str x) (.str ⟨#[d]⟩) = some (decide (x.cps.toList = [d])) := by
  rw [eqD_str ho (one_ok h')]
  by_cases q : x.cps.toList = [d]
  · rw [decide_eq_true q]
    congr 1
    rw [beq_iff_eq]
    exact str_ext q
  · rw [decide_eq_false q]
    congr 1
    rw [beq_eq_false_iff_ne]
    intro z
    exact q (by rw [z])
theorem rf_ok (x : Str) (c : Nat) (most L n : Int) (b b' : Bool) (lx : x.length ≤ sizeLine) (hm : f_is_made_of [.str x, .str "0123456789"] = some (.bl true)) (hl : dLenS (.str x) = some (.int L)) (n1 : ¬ most < L) (e3 : atI x.cps.toList 0 = some c) (e4 : eqD (.str ⟨#[c]⟩) (.str "0") = some b) (e2 : eqD (.str x) (.str "0") = some b') (hb : b = false ∨ b' = true) (hi : dIntT (.str x) = some (.int n)) : f_read_figures [.str x, .int most] = some (.int n) := by
  unfold f_read_figures b_read_figures
  cases b with
  | false =>
    clear hb e2
    walk_at "ev"
  | true =>
    cases b' with
    | false => exact absurd hb (by decide)
    | true =>
      clear hb
      walk_at "ev"
theorem p_figsK {n most : Int} (h : N60 n) (n0 : 0 ≤ n) (hl : ((tx n).length : Int) ≤ most) : f_read_figures [.str (tx n), .int most] = some (.int n) := by
  have lx : (tx n).length ≤ sizeLine := line_of (Nat.le_trans h.len (by decide))
  have dp := digs_pos n.natAbs
  have ok := tx_ok n
  have e : (tx n).cps.toList = digs n.natAbs := by
    rcases tx_cases n with ⟨_, e⟩ | ⟨q, _⟩
    · exact e
    · omega
  have hm : f_is_made_of [.str (tx n), .str "0123456789"] = some (.bl true) := p_made (tx_ne n) (fun c hc => in_figs (digs_dig (e ▸ hc))) lx
  cases hd : digs n.natAbs with
  | nil => rw [hd] at dp; cases dp
  | cons c r =>
    have c0 := digs_dig (m := n.natAbs) (c := c) (hd ▸ List.mem_cons_self)
    rw [hd] at e
    refine rf_ok (tx n) c most ((tx n).length : Nat) n (decide (c = 48)) (decide ((tx n).cps.toList = [48])) lx hm (dLenS_is lx rfl) (by omega) (by rw [e, at0]) (eq_one c0.2 (by decide)) (eq_txt ok (by decide)) ?_ h.back
    by_cases z : n = 0
    · right
      subst z
      rw [e]
      have : digs 0 = [48] := digs_small (by decide)
      have hd' : digs 0 = c :: r := hd
      rw [this] at hd'
      cases hd'
      rfl
    · left
      exact decide_eq_false (digs_head (by omega) hd)
theorem tx_pos_len {n : Int} {k : Nat} (n0 : 0 ≤ n) (h : n.natAbs < 10 ^ k) (hk : 0 < k) : (tx n).length ≤ k := by
  rw [len_toList]
  have := digs_len h hk
  rcases tx_cases n with ⟨_, e⟩ | ⟨_, e⟩
  · rw [e]; exact this
  · omega
theorem p_figures {n : Int} (h : N60 n) (n0 : 0 ≤ n) : f_read_figures [.str (tx n), .int 60] = some (.int n) := p_figsK h n0 (by
  have := tx_pos_len n0 h.abs (by decide)
  omega)
theorem ct_ok (x : Str) : f_check_text [.str x] = some .non := by
  unfold f_check_text b_check_text
  walk_at "ev"
theorem rn_pos (x : Str) (n : Int) (hc : f_check_text [.str x] = some .non) (hs : gStartswith x "-" = some (.bl false)) (hf : f_read_figures [.str x, .int 60] = some (.int n)) : f_read_number [.str x] = some (.int n) := by
  unfold f_read_number b_read_number
  walk_at "ev"
theorem rn_neg (x y : Str) (m : Int) (hc : f_check_text [.str x] = some .non) (hs : gStartswith x "-" = some (.bl true)) (h2 : dSlS (.str x) (some 1) none = some (.str y)) (hf : f_read_figures [.str y, .int 60] = some (.int m)) (n0 : ¬ m = 0) : f_read_number [.str x] = some (.int (-m)) := by
  unfold f_read_number b_read_number
  walk_at "ev"
theorem p_number {n : Int} (h : N60 n) : f_read_number [.str (tx n)] = some (.int n) := by
  have e45 : ("-" : Str) = ⟨#[45]⟩ := by decide +kernel
  have lx : (tx n).length ≤ sizeLine := line_of (Nat.le_trans h.len (by decide))
  rcases tx_cases n with ⟨n0, e⟩ | ⟨n0, e⟩
  · refine rn_pos _ _ (ct_ok _) ?_ (p_figures h n0)
    rw [e45, starts_one, decide_eq_false]
    intro z
    have := digs_dig (m := n.natAbs) (c := 45) (e ▸ List.mem_of_getElem? z)
    omega
  · have e2 : tx (n.natAbs : Int) = ⟨(digs n.natAbs).toArray⟩ := str_of (tx_nat _)
    have q := rn_neg (tx n) (tx (n.natAbs : Int)) (n.natAbs : Int) (ct_ok _) (by rw [e45, starts_one, e]; rfl) (dSlS_is lx (by rw [sl_rest e, e2])) (p_figures (by unfold N60 at h ⊢; omega) (by omega)) (by omega)
    rw [q]
    congr 2
    omega
theorem rs_clear (x : Str) (b : Int) (b1 b2 : Bool) (h3 : eqD (.str x) (.str "?") = some false) (hn : dInS (.str "/") (.str x) = some (.bl false)) (h1 : eqD (.str x) (.str "0") = some b1) (h2 : eqD (.str x) (.str "1") = some b2) (hb : b1 = true ∨ b2 = true) (hi : dIntT (.str x) = some (.int b)) (l2 : 2 ≤ sizeLine) : f_read_sign [.str x] = some (.tup [.str "clear", .int b]) := by
  unfold f_read_sign b_read_sign
  generalize dInS = J at hn ⊢
  cases b1 <;> cases b2 <;> simp at hb <;> walk_at "ev"
theorem rs_gap (x : Str) (h3 : eqD (.str x) (.str "?") = some true) (l1 : 1 ≤ sizeLine) : f_read_sign [.str x] = some (.tup [.str "gap"]) := by
  unfold f_read_sign b_read_sign
  generalize dInS = J
  walk_at "ev"
theorem rs_soft (x y s z : Str) (n m : Int) (h3 : eqD (.str x) (.str "?") = some false) (hin : dInS (.str "/") (.str x) = some (.bl true)) (hs : dPartition (.str x) (.str "/") = some (.tup [.str y, .str s, .str z])) (hn : f_read_number [.str y] = some (.int n)) (hm : f_read_number [.str z] = some (.int m)) (l2 : 2 ≤ sizeLine) (l3 : 3 ≤ sizeLine) : f_read_sign [.str x] = some (.tup [.str "soft", .int n, .int m]) := by
  unfold f_read_sign b_read_sign
  generalize dInS = J at hin ⊢
  generalize dPartition = J2 at hs ⊢
  walk_at "ev"
theorem eq_q {x : Str} (ho : PyData.strOk x = true) : eqD (.str x) (.str "?") = some (decide (x.cps.toList = [63])) := by
  rw [eqD_str ho (by decide +kernel)]
  by_cases q : x.cps.toList = [63]
  · rw [decide_eq_true q]
    congr 1
    rw [beq_iff_eq]
    exact str_ext q
  · rw [decide_eq_false q]
    congr 1
    rw [beq_eq_false_iff_ne]
    intro z
    exact q (by rw [z]; rfl)
theorem tx0c : (tx 0).cps.toList = [48] := (tx_nat 0).trans (digs_small (by decide))
theorem tx1c : (tx 1).cps.toList = [49] := (tx_nat 1).trans (digs_small (by decide))
theorem soft_ne {z o : Int} {c : Nat} (h : c ≠ 47) : ¬ (wr (.soft z o)).cps.toList = [c] := fun q => by
  have e : (tx z).cps.toList ++ 47 :: (tx o).cps.toList = [c] := (soft_cps z o).symm.trans q
  have : 47 ∈ [c] := e ▸ List.mem_append.mpr (.inr List.mem_cons_self)
  exact h (List.mem_singleton.mp this).symm
theorem e47 : ("/" : Str) = ⟨#[47]⟩ := by decide +kernel
theorem p_sign {g : Sg} (h : SgOk g) : f_read_sign [.str (wr g)] = some (sgD g) := by
  have ok := wr_ok g
  cases g with
  | clear b =>
    have q : (tx b).cps.toList = [48] ∨ (tx b).cps.toList = [49] := by
      rcases h with rfl | rfl
      · exact .inl tx0c
      · exact .inr tx1c
    refine rs_clear _ b _ _ ((eq_q ok).trans ?_) ?_ (eq_txt ok (d := 48) (by decide)) (eq_txt ok (d := 49) (by decide)) ?_ (bit60 h).back (by decide)
    · rw [decide_eq_false]
      show ¬ (tx b).cps.toList = [63]
      rcases q with q | q <;> rw [q] <;> decide
    · rw [e47, in_one, decide_eq_false]
      show ¬ 47 ∈ (tx b).cps.toList
      rcases q with q | q <;> rw [q] <;> decide
    · rcases q with q | q
      · exact .inl (decide_eq_true q)
      · exact .inr (decide_eq_true q)
  | gap => exact rs_gap _ ((eq_q ok).trans rfl) (by decide)
  | soft z o =>
    have l1 := h.1.len
    have l2 := h.2.len
    have e : (wr (.soft z o)).cps.toList = (tx z).cps.toList ++ 47 :: (tx o).cps.toList := soft_cps z o
    have no : 47 ∉ (tx z).cps.toList := fun q => by
      rcases tx_sign q with q | q <;> omega
    have lx : (wr (.soft z o)).length ≤ sizeLine := line_of (by
      rw [len_toList, e, List.length_append, List.length_cons, ← len_toList, ← len_toList]
      omega)
    refine rs_soft _ (tx z) ⟨#[47]⟩ (tx o) _ _ ((eq_q ok).trans (by rw [decide_eq_false (soft_ne (by decide))])) ?_ ?_ (p_number h.1) (p_number h.2) (by decide) (by decide)
    · rw [e47, in_one, e, decide_eq_true]
      exact List.mem_append.mpr (.inr List.mem_cons_self)
    · rw [e47, dPartition_at e no lx, str_of (x := tx z) rfl, str_of (x := tx o) rfl]
theorem rh_none (he : eqD (.str "") (.str "") = some true) (z0 : 0 ≤ sizeLine) : f_read_heard [.str ""] = some (.lst []) := by
  have hc := ct_ok ""
  unfold f_read_heard b_read_heard
  walk_at "ev"
theorem rh_some (x : Str) (W G : List D) (he : eqD (.str x) (.str "") = some false) (hs : dSplit (.str x) (.str " ") = some W) (lw : W.length ≤ sizeLine) (cm : compRun 1 [] none (gSet 0) (mRet true) (mCall f_read_sign (mCons (mVar 0) mNil)) W [some (.str x)] = some (G, [some (.str x)])) : f_read_heard [.str x] = some (.lst G) := by
  have hc := ct_ok x
  unfold f_read_heard b_read_heard
  walk_at "ev"
theorem wr_ne (g : Sg) : (wr g).cps.toList ≠ [] := by
  cases g with
  | clear b => exact tx_ne b
  | gap => exact fun q => nomatch q
  | soft z o => rw [show (wr (.soft z o)).cps.toList = _ from soft_cps z o]; simp
theorem join_ne {c : Nat} {x : Str} {xs : List Str} (h : x.cps.toList ≠ []) : (Txt.join ⟨#[c]⟩ (x :: xs)).cps.toList ≠ [] := by
  rw [txt_join]
  cases xs with
  | nil =>
    have e : Str.join ⟨#[c]⟩ [x] = x := by rw [← txt_join]; rfl
    rw [e]
    exact h
  | cons y r => rw [join_cons]; simp
theorem p_heard (gs : List Sg) (hl : gs.length ≤ 1000) (hg : ∀ g ∈ gs, SgOk g) : f_read_heard [.str (Txt.join " " (gs.map wr))] = some (.lst (gs.map sgD)) := by
  cases gs with
  | nil => exact rh_none (by rw [eqD_str (by decide +kernel) (by decide +kernel)]; rfl) (by decide)
  | cons g r =>
    have e32 : (" " : Str) = ⟨#[32]⟩ := by decide +kernel
    rw [e32]
    have no : ∀ x ∈ (g :: r).map wr, 32 ∉ x.cps.toList := fun x hx q => by
      obtain ⟨g, _, rfl⟩ := List.mem_map.mp hx
      have := wr_sign q
      omega
    have sp := dSplit_join (by simp) no (line_of (Nat.le_trans (join_len 32 _ 200 (fun x hx => by
      obtain ⟨g, hg', rfl⟩ := List.mem_map.mp hx
      exact wr_len (hg g hg'))) (by rw [List.length_map]; omega))) (by rw [List.length_map]; exact line_of (by omega))
    have ok : PyData.strOk (Txt.join ⟨#[32]⟩ ((g :: r).map wr)) = true := strOk_of fun d hd => by
      rcases join_sign hd with h | ⟨x, hx, h⟩
      · omega
      · obtain ⟨g, _, rfl⟩ := List.mem_map.mp hx
        have := wr_sign h
        omega
    have ne : eqD (.str (Txt.join ⟨#[32]⟩ ((g :: r).map wr))) (.str "") = some false := by
      rw [eqD_str ok (by decide +kernel)]
      congr 1
      rw [beq_eq_false_iff_ne]
      intro z
      exact join_ne (wr_ne g) (by rw [List.map_cons] at z; rw [z]; rfl)
    refine rh_some _ _ _ ne (by rw [e32]; exact sp) (by rw [List.length_map, List.length_map]; exact line_of (by omega)) ?_
    have cm := fun ρ => cm_map (n := 1) (js := []) (fg := gSet 0) (fe := mCall f_read_sign (mCons (mVar 0) mNil)) (ρ := ρ) (fun d => (f_read_sign [d]).getD .non) (((g :: r).map wr).map D.str) (fun x hx => by
      obtain ⟨y, hy, rfl⟩ := List.mem_map.mp hx
      obtain ⟨g', hg', rfl⟩ := List.mem_map.mp hy
      have hw := p_sign (hg g' hg')
      refine ⟨[some (.str (wr g'))], rfl, ?_⟩
      rw [hw]
      clear hx hy hg'
      walk_at "ev")
    have m : (((g :: r).map wr).map D.str).map (fun d => (f_read_sign [d]).getD .non) = (g :: r).map sgD := by
      rw [List.map_map, List.map_map]
      refine List.map_congr_left fun g' hg' => ?_
      show (f_read_sign [.str (wr g')]).getD .non = _
      rw [p_sign (hg g' hg')]
      rfl
    rw [← m]
    exact cm _
theorem ge_cm (qs : List (Int × Int)) (h : ∀ q ∈ qs, q.1 < q.2) (ρ : Rho) : compRun 2 [] none (gTupD 2 (gsCons (gSet 0) (gsCons (gSet 1) gsNil))) (mRet true) (mOp2 dGe (mVar 0) (mVar 1)) (qs.map fun q => D.tup [.int q.1, .int q.2]) ρ = some ((qs.map fun q => D.tup [.int q.1, .int q.2]).map (fun _ => .bl false), ρ) :=
  cm_map _ _ fun x hx => by
    obtain ⟨⟨p, q⟩, hq, rfl⟩ := List.mem_map.mp hx
    have n : ¬ q ≤ p := by have := h _ hq; simp only at this; omega
    refine ⟨[some (.int p), some (.int q)], rfl, ?_⟩
    clear hx hq h
    walk_at "ev"
theorem rp_none (he : eqD (.str "-") (.str "-") = some true) (z0 : 0 ≤ sizeLine) : f_read_places [.str "-"] = some (.lst []) := by
  have hc := ct_ok "-"
  unfold f_read_places b_read_places
  walk_at "ev"
theorem rp_some (x : Str) (W P Z : List D) (he : eqD (.str x) (.str "-") = some false) (hs : dSplit (.str x) (.str ",") = some W) (lw : W.length ≤ sizeLine) (lp : P.length ≤ sizeLine) (hz : zipD P P.tail = Z) (lz : Z.length ≤ sizeLine)
    (cz : compRun 2 [] none (gTupD 2 (gsCons (gSet 0) (gsCons (gSet 1) gsNil))) (mRet true) (mOp2 dGe (mVar 0) (mVar 1)) Z [some (.str x), some (.lst P)] = some (Z.map (fun _ => .bl false), [some (.str x), some (.lst P)]))
    (cm : compRun 1 [] none (gSet 0) (mRet true) (mCall f_read_figures (mCons (mVar 0) (mCons (mRet (.int 60)) mNil))) W [some (.str x), none] = some (P, [some (.str x), none])) : f_read_places [.str x] = some (.lst P) := by
  have hc := ct_ok x
  have a2 := any_no Z
  have a3 := any_id Z
  unfold f_read_places b_read_places
  walk_at "ev"
theorem up_pairs : ∀ {ps : List Int}, ps.Pairwise (· < ·) → ∀ q ∈ ps.zip ps.tail, q.1 < q.2
  | [], _, q, hq => nomatch hq
  | [p], _, q, hq => nomatch hq
  | p :: r :: ps, h, q, hq => by
    rcases List.mem_cons.mp hq with rfl | hq
    · exact (List.pairwise_cons.mp h).1 r List.mem_cons_self
    · exact up_pairs (List.pairwise_cons.mp h).2 q hq
theorem p_places (ps : List Int) (hl : ps.length ≤ 1001) (h : Up ps) : f_read_places [.str (lineOf ps)] = some (.lst (ps.map D.int)) := by
  cases ps with
  | nil => exact rp_none (by rw [eqD_str (by decide +kernel) (by decide +kernel)]; rfl) (by decide)
  | cons p r =>
    have n6 : ∀ q ∈ p :: r, N60 q := fun q hq => by have := h.2 q hq; unfold N60; omega
    have e44 : ("," : Str) = ⟨#[44]⟩ := by decide +kernel
    have el : lineOf (p :: r) = Txt.join ⟨#[44]⟩ ((p :: r).map tx) := by
      unfold lineOf
      rw [if_neg (by simp), e44]
    rw [el]
    have no : ∀ x ∈ (p :: r).map tx, 44 ∉ x.cps.toList := fun x hx q => by
      obtain ⟨g, _, rfl⟩ := List.mem_map.mp hx
      have := tx_sign q
      omega
    have sp := dSplit_join (by simp) no (line_of (Nat.le_trans (join_len 44 _ 61 (fun x hx => by
      obtain ⟨g, hg', rfl⟩ := List.mem_map.mp hx
      exact (n6 g hg').len)) (by rw [List.length_map]; omega))) (by rw [List.length_map]; exact line_of (by omega))
    have ok : PyData.strOk (Txt.join ⟨#[44]⟩ ((p :: r).map tx)) = true := strOk_of fun d hd => by
      rcases join_sign hd with h | ⟨x, hx, h⟩
      · omega
      · obtain ⟨g, _, rfl⟩ := List.mem_map.mp hx
        have := tx_sign h
        omega
    have ne : eqD (.str (Txt.join ⟨#[44]⟩ ((p :: r).map tx))) (.str "-") = some false := by
      refine (eq_txt ok (d := 45) (by decide)).trans ?_
      rw [decide_eq_false]
      intro z
      have hp := (h.2 p List.mem_cons_self).1
      have c1 : (tx p).cps.toList = digs p.natAbs := by
        rcases tx_cases p with q | q
        · exact q.2
        · omega
      cases hd : digs p.natAbs with
      | nil => have := digs_pos p.natAbs; rw [hd] at this; cases this
      | cons c t =>
        have c2 := digs_dig (m := p.natAbs) (c := c) (hd ▸ List.mem_cons_self)
        have : ∃ u, (Txt.join ⟨#[44]⟩ ((p :: r).map tx)).cps.toList = c :: u := by
          rw [txt_join, List.map_cons]
          cases r with
          | nil =>
            have e : Str.join ⟨#[44]⟩ [tx p] = tx p := by rw [← txt_join]; rfl
            exact ⟨t, by rw [List.map_nil, e, c1, hd]⟩
          | cons q r => exact ⟨_, by rw [List.map_cons, join_cons, c1, hd]; rfl⟩
        obtain ⟨u, e⟩ := this
        rw [e] at z
        cases z
        omega
    have hz : zipD ((p :: r).map D.int) ((p :: r).map D.int).tail = ((p :: r).zip (p :: r).tail).map fun q => D.tup [.int q.1, .int q.2] := by
      rw [← List.map_tail, zipD_ints]
    refine rp_some _ _ _ _ ne (by rw [e44]; exact sp) (by rw [List.length_map, List.length_map]; exact line_of (by omega)) (by rw [List.length_map]; exact line_of (by omega)) hz (by rw [List.length_map, List.length_zip]; exact line_of (by omega)) (ge_cm _ (up_pairs h.1) _) ?_
    have cm := fun ρ => cm_map (n := 1) (js := []) (fg := gSet 0) (fe := mCall f_read_figures (mCons (mVar 0) (mCons (mRet (.int 60)) mNil))) (ρ := ρ) (fun d => (f_read_figures [d, .int 60]).getD .non) (((p :: r).map tx).map D.str) (fun x hx => by
      obtain ⟨y, hy, rfl⟩ := List.mem_map.mp hx
      obtain ⟨g', hg', rfl⟩ := List.mem_map.mp hy
      have hw := p_figures (n6 g' hg') (h.2 g' hg').1
      refine ⟨[some (.str (tx g'))], rfl, ?_⟩
      rw [hw]
      clear hx hy hg'
      walk_at "ev")
    have m : (((p :: r).map tx).map D.str).map (fun d => (f_read_figures [d, .int 60]).getD .non) = (p :: r).map D.int := by
      rw [List.map_map, List.map_map]
      refine List.map_congr_left fun g' hg' => ?_
      show (f_read_figures [.str (tx g'), .int 60]).getD .non = _
      rw [p_figures (n6 g' hg') (h.2 g' hg').1]
      rfl
    rw [← m]
    exact cm _
theorem pow16 {r : Int} (h0 : 0 ≤ r) (h4 : r ≤ 4) : (2 : Int) ^ r.toNat ≤ 16 := by
  rcases (by omega : r = 0 ∨ r = 1 ∨ r = 2 ∨ r = 3 ∨ r = 4) with rfl | rfl | rfl | rfl | rfl <;> decide
theorem q_parts {xs : List D} (h1 : xs.length ≤ sizeLine) (h0 : 0 ≤ sizeLine) : f_plain_parts [.tup xs] = some (.tup xs) := by
  unfold f_plain_parts b_plain_parts
  walk_at "ev"
theorem q_whole (i : Int) : f_is_whole [.int i] = some (.bl true) := by
  unfold f_is_whole b_is_whole
  walk_at "ev"
theorem q_number {i e : Int} {r : List D} (bi : big i = true) (be : big e = true) (h0 : 0 ≤ i) (hr : rangeD i (e - i).toNat = .int i :: r) (lr : (D.int i :: r).length ≤ sizeLine) : f_plain_number [.int i, .int e] = some (.int i) := by
  have hw := q_whole i
  unfold f_plain_number b_plain_number
  walk_at "ev"
theorem p_num0 {i e : Int} (h0 : 0 ≤ i) (hlt : i < e) (he : e ≤ 1000) : f_plain_number [.int i, .int e] = some (.int i) := by
  obtain ⟨r, hr⟩ : ∃ r, rangeD i (e - i).toNat = .int i :: r := by
    obtain ⟨m, hm⟩ : ∃ m, (e - i).toNat = m + 1 := ⟨(e - i).toNat - 1, by omega⟩
    rw [hm]
    unfold rangeD
    rw [List.range_succ_eq_map, List.map_cons]
    simp
  refine q_number (by unfold big; simp; omega) (by unfold big; simp; omega) h0 hr ?_
  rw [← hr, rangeD_len]
  exact line_of (by omega)
theorem q_bel (X : List D) (e : Int) (lx : X.length ≤ sizeLine) (cm : compRun 1 [1] none (gSet 0) (mRet true) (mOp2 dNotN (mCall f_plain_number (mCons (mVar 0) (mCons (mVar 1) mNil))) (mRet .non)) X [some (.tup X), some (.int e)] = some (X.map (fun _ => .bl true), [some (.tup X), some (.int e)])) : f_all_below [.tup X, .int e] = some (.bl true) := by
  have a2 := all_yes X
  have a3 := all_id X
  unfold f_all_below b_all_below
  walk_at "ev"
theorem p_below {xs : List Int} {e : Int} (hl : xs.length ≤ 1000) (h : ∀ x ∈ xs, 0 ≤ x ∧ x < e) (he : e ≤ 1000) : f_all_below [.tup (xs.map D.int), .int e] = some (.bl true) := by
  refine q_bel _ e (by rw [List.length_map]; exact line_of (by omega)) (cm_map _ _ fun x hx => ?_)
  obtain ⟨i, hi, rfl⟩ := List.mem_map.mp hx
  have hn := p_num0 (h i hi).1 (h i hi).2 he
  refine ⟨[some (.int i), some (.int e)], rfl, ?_⟩
  clear hx hi h hl
  walk_at "ev"
theorem q_row (X : List D) (n : Int) (lx : X.length ≤ sizeLine) (z0 : 0 ≤ sizeLine) (hn : (X.length : Int) = n) (h2 : f_all_below [.tup X, .int 2] = some (.bl true)) : f_is_row [.tup X, .int n] = some (.bl true) := by
  have h1 := q_parts lx z0
  subst hn
  unfold f_is_row b_is_row
  walk_at "ev"
theorem q_text {z : Str} (h1 : 1 ≤ sizeLine) (hz2 : z.length + (Str.ofString "").length ≤ 16777216) : f_plain_text [.str z] = some (.str z) := by
  unfold f_plain_text b_plain_text
  walk_at "ev"
theorem q_rooms {r : Int} (h0 : 0 ≤ r) (h6 : r ≤ 1000000) : f_rooms_at [.int r] = some (.int (2 ^ r.toNat)) := by
  unfold f_rooms_at b_rooms_at
  walk_at "ev"
theorem q_end (TP RW : List D) (r b : Int) (e : Str) (h1 : f_plain_parts [.tup [.int r, .tup TP, .tup RW, .str e]] = some (.tup [.int r, .tup TP, .tup RW, .str e])) (ha : f_plain_number [.int r, .int 5] = some (.int r)) (hb : f_plain_parts [.tup TP] = some (.tup TP)) (hc : f_plain_parts [.tup RW] = some (.tup RW)) (lt : TP.length ≤ sizeLine) (lr : RW.length ≤ sizeLine) (l4 : 4 ≤ sizeLine)
    (t1 : (1 : Int) ≤ TP.length) (t4 : (TP.length : Int) ≤ 4) (m1 : (1 : Int) ≤ RW.length) (m6 : (RW.length : Int) ≤ 6) (hrm : f_rooms_at [.int r] = some (.int b)) (hm : dMulG (.int 2) (.int b) = some (.int (2 * b))) (hbl : f_all_below [.tup TP, .int (2 * b)] = some (.bl true))
    (cm : compRun 1 [3] none (gSet 0) (mRet true) (mCall f_is_row (mCons (mVar 0) (mCons (mOp1 dLen (mVar 1)) mNil))) RW [some (.tup [.int r, .tup TP, .tup RW, .str e]), some (.tup [.int r, .tup TP, .tup RW, .str e]), some (.int r), some (.tup TP), some (.tup RW)] = some (RW.map (fun _ => .bl true), [some (.tup [.int r, .tup TP, .tup RW, .str e]), some (.tup [.int r, .tup TP, .tup RW, .str e]), some (.int r), some (.tup TP), some (.tup RW)]))
    (he : f_plain_text [.str e] = some (.str e)) (hin : inD (.str e) [.str "open", .str "ended", .str "ring"] = true) : f_is_scheme [.tup [.int r, .tup TP, .tup RW, .str e]] = some (.bl true) := by
  have a2 := all_yes RW
  have a3 := all_id RW
  unfold f_is_scheme b_is_scheme
  generalize dMulG = J at hm ⊢
  walk_at "ev"
theorem q_cell (X TP : List D) (lt : TP.length ≤ sizeLine) (h : f_is_row [.tup X, .int (TP.length : Int)] = some (.bl true)) : ((mCall f_is_row (mCons (mVar 0) (mCons (mOp1 dLen (mVar 1)) mNil))) [some (.tup X), some (.tup TP)]).map (·.1) = some (.bl true) := by
  walk_at "ev"
section
variable {r : Int} {taps : List Int} {rows : List (List Int)} {e : Str}
theorem p_isSch (ok : SchOk r taps rows e) : f_is_scheme [schD r taps rows e] = some (.bl true) := by
  have r0 := ok.r0
  have r4 := ok.r4
  have t1 := ok.t1
  have t4 := ok.t4
  have m1 := ok.m1
  have m6 := ok.m6
  have z0 : 0 ≤ sizeLine := by decide
  have p16 := pow16 r0 r4
  have pp : (0 : Int) < 2 ^ r.toNat := Int.pow_pos (by decide)
  have lt : (taps.map D.int).length ≤ sizeLine := by rw [List.length_map]; exact line_of (by omega)
  have lr : (rows.map rowD).length ≤ sizeLine := by rw [List.length_map]; exact line_of (by omega)
  refine q_end (taps.map D.int) (rows.map rowD) r (2 ^ r.toNat) e (q_parts (by show 4 ≤ sizeLine; decide) z0) (p_num0 r0 (by omega) (by decide)) (q_parts lt z0) (q_parts lr z0) lt lr (by decide) (by rw [List.length_map]; omega) (by rw [List.length_map]; omega) (by rw [List.length_map]; omega) (by rw [List.length_map]; omega) (q_rooms r0 (by omega)) ?_ (p_below (by omega) ok.tb (by omega)) ?_ (q_text (by decide) (by rcases ok.en with rfl | rfl | rfl <;> decide +kernel)) (by rcases ok.en with rfl | rfl | rfl <;> decide +kernel)
  · clear p16 pp
    rcases (by omega : r = 0 ∨ r = 1 ∨ r = 2 ∨ r = 3 ∨ r = 4) with rfl | rfl | rfl | rfl | rfl <;> rfl
  · refine cm_map _ _ fun x hx => ?_
    obtain ⟨row, hrow, rfl⟩ := List.mem_map.mp hx
    have q := ok.rw row hrow
    refine ⟨[some (rowD row), some (.tup (taps.map D.int))], rfl, ?_⟩
    exact q_cell _ _ lt (q_row _ _ (by rw [List.length_map]; exact line_of (by omega)) z0 (by rw [List.length_map, List.length_map, q.1]) (p_below (by omega) (fun b hb => by have := q.2 b hb; omega) (by decide)))
end
theorem sb_end (X W : List D) (d : D) (hd : d = .lst X ∨ d = .tup X) (x : Str) (lx : X.length ≤ sizeLine) (lw : W.length ≤ sizeLine) (cm : compRun 1 [] none (gSet 0) (mRet true) (mOp1 dStr (mVar 0)) X [some d] = some (W, [some d])) (hj : dJoin (.str "") (.lst W) = some (.str x)) : f_shown_bits [d] = some (.str x) := by
  unfold f_shown_bits b_shown_bits
  generalize dJoin = J at hj ⊢
  rcases hd with rfl | rfl <;> walk_at "ev"
theorem p_sbits {w : List Int} (hl : w.length ≤ 60) (h : ∀ b ∈ w, b = 0 ∨ b = 1) (d : D) (hd : d = .lst (w.map D.int) ∨ d = .tup (w.map D.int)) : f_shown_bits [d] = some (.str (rowT w)) :=
  sb_end _ _ d hd _ (by rw [List.length_map]; exact line_of (by omega)) (by rw [List.length_map, List.length_map]; exact line_of (by omega)) (strs_cm w (fun b hb => bit60 (h b hb)) _) (join_is (by decide) (by rw [List.length_map]; omega) (fun x hx => by
    obtain ⟨b, hb, rfl⟩ := List.mem_map.mp hx
    rw [bit_len (h b hb)]
    decide))
theorem sw_some (X : List D) (x : Str) (hx : f_shown_bits [.lst X] = some (.str x)) (n0 : 0 < X.length) (lx : X.length ≤ sizeLine) : f_shown_word [.lst X] = some (.str x) := by
  unfold f_shown_word b_shown_word
  walk_at "ev"
theorem sw_none (z0 : 0 ≤ sizeLine) : f_shown_word [.lst []] = some (.str "-") := by
  unfold f_shown_word b_shown_word
  walk_at "ev"
theorem p_sword (w : List Int) (hl : w.length ≤ 60) (h : ∀ b ∈ w, b = 0 ∨ b = 1) : f_shown_word [.lst (w.map D.int)] = some (.str (wordT w)) := by
  unfold wordT
  cases w with
  | nil => rw [if_pos rfl]; exact sw_none (by decide)
  | cons b r =>
    rw [if_neg (by simp)]
    exact sw_some _ _ (p_sbits hl h _ (.inl rfl)) (by simp) (by rw [List.length_map]; exact line_of (by omega))
theorem f_step {fe : Rho → Option (D × Rho)} {g : Str → Rho → Option (Str × Rho)} {acc y : Str} {ρ : Rho} (h : fe ρ = some (.str y, ρ)) (hl : (acc ++ y).length ≤ sizeLine) : fCons fe g acc ρ = g (acc ++ y) ρ := by
  simp [fCons, h, strO, hl]
theorem fmt_i {i : Nat} {ρ : Rho} {n : Int} (h : ρ[i]? = some (some (.int n))) (hn : N60 n) : mOp1 dFmt (mVar i) ρ = some (.str (tx n), ρ) := by
  have e := hn.str
  have e' : dFmt (.int n) = some (.str (tx n)) := e
  rw [ev_op1, ev_var, h]
  simp [e']
theorem fmt_s {i : Nat} {ρ : Rho} {x : Str} (h : ρ[i]? = some (some (.str x))) (hx : x.length ≤ sizeLine) : mOp1 dFmt (mVar i) ρ = some (.str x, ρ) := by
  have e' : dFmt (.str x) = some (.str x) := by
    unfold dFmt
    dsimp only
    rw [if_pos hx]
  rw [ev_op1, ev_var, h]
  simp [e']
theorem app_len (x y : Str) : (x ++ y).length = x.length + y.length := by
  rw [len_toList, cps_append, List.length_append]
  rfl
theorem j_end (S : D) (r : Int) (T U E : Str) (hr : N60 r) (lt : T.length ≤ 4000) (lu : U.length ≤ 4000) (le : E.length ≤ 100) : mJoinF (fCons (mRet (.str "reach ")) (fCons (mOp1 dFmt (mVar 1)) (fCons (mRet (.str " taps ")) (fCons (mOp1 dFmt (mVar 2)) (fCons (mRet (.str " rows ")) (fCons (mOp1 dFmt (mVar 3)) (fCons (mRet (.str " ")) (fCons (mOp1 dFmt (mVar 4)) fNil)))))))) [some S, some (.int r), some (.str T), some (.str U), some (.str E)]
    = some (.str (Str.empty ++ "reach " ++ tx r ++ " taps " ++ T ++ " rows " ++ U ++ " " ++ E), [some S, some (.int r), some (.str T), some (.str U), some (.str E)]) := by
  have lr := hr.len
  have z0 : Str.empty.length = 0 := rfl
  have z1 : ("reach " : Str).length = 6 := by decide +kernel
  have z2 : (" taps " : Str).length = 6 := by decide +kernel
  have z3 : (" rows " : Str).length = 6 := by decide +kernel
  have z4 : (" " : Str).length = 1 := by decide +kernel
  unfold mJoinF
  rw [f_step (y := "reach ") rfl (line_of (by simp only [app_len]; omega)), f_step (fmt_i rfl hr) (line_of (by simp only [app_len]; omega)), f_step (y := " taps ") rfl (line_of (by simp only [app_len]; omega)), f_step (fmt_s rfl (line_of (by omega))) (line_of (by simp only [app_len]; omega)),
    f_step (y := " rows ") rfl (line_of (by simp only [app_len]; omega)), f_step (fmt_s rfl (line_of (by omega))) (line_of (by simp only [app_len]; omega)), f_step (y := " ") rfl (line_of (by simp only [app_len]; omega)), f_step (fmt_s rfl (line_of (by omega))) (line_of (by simp only [app_len]; omega))]
  have lz : (Str.empty ++ "reach " ++ tx r ++ " taps " ++ T ++ " rows " ++ U ++ " " ++ E).length ≤ sizeLine := line_of (by simp only [app_len]; omega)
  unfold fNil
  simp only [Option.bind_some]
  rw [if_pos lz]
theorem ss_end (TP RW A C : List D) (r : Int) (T U E X : Str) (lt : TP.length ≤ sizeLine) (lr : RW.length ≤ sizeLine) (la : A.length ≤ sizeLine) (lc : C.length ≤ sizeLine)
    (c1 : compRun 1 [] none (gSet 0) (mRet true) (mOp1 dStr (mVar 0)) TP [some (.tup [.int r, .tup TP, .tup RW, .str E]), some (.int r), none, none, none] = some (A, [some (.tup [.int r, .tup TP, .tup RW, .str E]), some (.int r), none, none, none])) (j1 : dJoin (.str " ") (.lst A) = some (.str T))
    (c2 : compRun 1 [] none (gSet 0) (mRet true) (mCall f_shown_bits (mCons (mVar 0) mNil)) RW [some (.tup [.int r, .tup TP, .tup RW, .str E]), some (.int r), some (.str T), none, none] = some (C, [some (.tup [.int r, .tup TP, .tup RW, .str E]), some (.int r), some (.str T), none, none])) (j2 : dJoin (.str " ") (.lst C) = some (.str U))
    (hJ : mJoinF (fCons (mRet (.str "reach ")) (fCons (mOp1 dFmt (mVar 1)) (fCons (mRet (.str " taps ")) (fCons (mOp1 dFmt (mVar 2)) (fCons (mRet (.str " rows ")) (fCons (mOp1 dFmt (mVar 3)) (fCons (mRet (.str " ")) (fCons (mOp1 dFmt (mVar 4)) fNil)))))))) [some (.tup [.int r, .tup TP, .tup RW, .str E]), some (.int r), some (.str T), some (.str U), some (.str E)] = some (.str X, [some (.tup [.int r, .tup TP, .tup RW, .str E]), some (.int r), some (.str T), some (.str U), some (.str E)])) :
    f_shown_scheme [.tup [.int r, .tup TP, .tup RW, .str E]] = some (.str X) := by
  unfold f_shown_scheme b_shown_scheme
  generalize mJoinF (fCons (mRet (.str "reach ")) (fCons (mOp1 dFmt (mVar 1)) (fCons (mRet (.str " taps ")) (fCons (mOp1 dFmt (mVar 2)) (fCons (mRet (.str " rows ")) (fCons (mOp1 dFmt (mVar 3)) (fCons (mRet (.str " ")) (fCons (mOp1 dFmt (mVar 4)) fNil)))))))) = F at hJ ⊢
  generalize dJoin = J at j1 j2 ⊢
  walk_at "ev"
theorem join_app (c : Nat) : ∀ {xs ys : List Str}, xs ≠ [] → ys ≠ [] → (Txt.join ⟨#[c]⟩ (xs ++ ys)).cps.toList = (Txt.join ⟨#[c]⟩ xs).cps.toList ++ c :: (Txt.join ⟨#[c]⟩ ys).cps.toList := by
  intro xs ys hx hy
  rw [txt_join, txt_join, txt_join]
  induction xs with
  | nil => exact absurd rfl hx
  | cons x r ih =>
    cases r with
    | nil =>
      cases ys with
      | nil => exact absurd rfl hy
      | cons y t =>
        have e : Str.join ⟨#[c]⟩ [x] = x := by rw [← txt_join]; rfl
        rw [e]
        exact join_cons c x y t
    | cons z r =>
      have q := ih (by simp)
      rw [List.cons_append] at q
      rw [List.cons_append, List.cons_append, join_cons, join_cons, q, List.append_assoc]
      rfl
theorem one_join (c : Nat) (x : Str) : (Txt.join ⟨#[c]⟩ [x]).cps.toList = x.cps.toList := by
  have e : Txt.join ⟨#[c]⟩ [x] = x := rfl
  rw [e]
theorem schT_is {r : Int} {taps : List Int} {rows : List (List Int)} {e : Str} (t1 : taps ≠ []) (m1 : rows ≠ []) : Str.empty ++ "reach " ++ tx r ++ " taps " ++ Txt.join " " (taps.map tx) ++ " rows " ++ Txt.join " " (rows.map rowT) ++ " " ++ e = schT r taps rows e := by
  have e32 : (" " : Str) = ⟨#[32]⟩ := by decide +kernel
  refine str_ext ?_
  unfold schT schL dueL
  have l : (("reach" : Str) :: tx r :: "taps" :: (taps.map tx ++ (["rows"] : List Str)) ++ rows.map rowT) ++ [e] = [("reach" : Str)] ++ ([tx r] ++ ([("taps" : Str)] ++ (taps.map tx ++ ([("rows" : Str)] ++ (rows.map rowT ++ [e]))))) := by simp
  rw [l, e32, join_app 32 (by simp) (by simp), join_app 32 (by simp) (by simp), join_app 32 (by simp) (by simp), join_app 32 (by simpa using t1) (by simp), join_app 32 (by simp) (by simp), join_app 32 (by simpa using m1) (by simp)]
  simp only [one_join, cps_append]
  have z0 : Str.empty.cps.toList = [] := rfl
  have z1 : ("reach " : Str).cps.toList = ("reach" : Str).cps.toList ++ [32] := by decide +kernel
  have z2 : (" taps " : Str).cps.toList = 32 :: (("taps" : Str).cps.toList ++ [32]) := by decide +kernel
  have z3 : (" rows " : Str).cps.toList = 32 :: (("rows" : Str).cps.toList ++ [32]) := by decide +kernel
  rw [z0, z1, z2, z3]
  simp
theorem p_sscheme (r : Int) (taps : List Int) (rows : List (List Int)) (e : Str) (ok : SchOk r taps rows e) : f_shown_scheme [schD r taps rows e] = some (.str (schT r taps rows e)) := by
  have t1 := ok.t1
  have t4 := ok.t4
  have m1 := ok.m1
  have m6 := ok.m6
  have r60 : N60 r := by have := ok.r0; have := ok.r4; unfold N60; omega
  have le : e.length ≤ 100 := by rcases ok.en with rfl | rfl | rfl <;> decide +kernel
  have e32 : (" " : Str) = ⟨#[32]⟩ := by decide +kernel
  have tl : ∀ x ∈ taps.map tx, x.length ≤ 200 := fun x hx => by
    obtain ⟨t, ht, rfl⟩ := List.mem_map.mp hx
    exact Nat.le_trans (tap60 ok t ht).len (by decide)
  have rl : ∀ x ∈ rows.map rowT, x.length ≤ 200 := fun x hx => by
    obtain ⟨row, hrow, rfl⟩ := List.mem_map.mp hx
    rw [rowT_len (ok.rw row hrow).2, (ok.rw row hrow).1]
    omega
  have j1 := join_len 32 _ 200 tl
  have j2 := join_len 32 _ 200 rl
  rw [List.length_map] at j1 j2
  rw [← schT_is (by intro z; rw [z] at t1; cases t1) (by intro z; rw [z] at m1; cases m1)]
  refine ss_end (taps.map D.int) (rows.map rowD) ((taps.map tx).map D.str) ((rows.map rowT).map D.str) r _ _ e _ (by rw [List.length_map]; exact line_of (by omega)) (by rw [List.length_map]; exact line_of (by omega)) (by rw [List.length_map, List.length_map]; exact line_of (by omega)) (by rw [List.length_map, List.length_map]; exact line_of (by omega))
    (strs_cm taps (tap60 ok) _) (join_is (by decide) (by rw [List.length_map]; omega) tl) ?_ (join_is (by decide) (by rw [List.length_map]; omega) rl) (j_end _ r _ _ e r60 (by rw [e32]; omega) (by rw [e32]; omega) le)
  have cm := fun ρ => cm_map (n := 1) (js := []) (fg := gSet 0) (fe := mCall f_shown_bits (mCons (mVar 0) mNil)) (ρ := ρ) (fun d => (f_shown_bits [d]).getD .non) (rows.map rowD) (fun x hx => by
    obtain ⟨row, hrow, rfl⟩ := List.mem_map.mp hx
    have hw := p_sbits (w := row) (by have := (ok.rw row hrow).1; omega) (ok.rw row hrow).2 (rowD row) (.inr rfl)
    refine ⟨[some (rowD row)], rfl, ?_⟩
    rw [hw]
    clear hx hrow
    generalize rowD row = R at hw ⊢
    walk_at "ev")
  have m : (rows.map rowD).map (fun d => (f_shown_bits [d]).getD .non) = (rows.map rowT).map D.str := by
    rw [List.map_map, List.map_map]
    refine List.map_congr_left fun row hrow => ?_
    show (f_shown_bits [rowD row]).getD .non = _
    rw [p_sbits (w := row) (by have := (ok.rw row hrow).1; omega) (ok.rw row hrow).2 (rowD row) (.inr rfl)]
    rfl
  rw [← m]
  exact cm _
theorem sg_gap (h1 : eqD (.str "gap") (.str "gap") = some true) : f_shown_sign [.tup [.str "gap"]] = some (.str "?") := by
  unfold f_shown_sign b_shown_sign
  walk_at "ev"
theorem sg_else (k x : Str) (N : List D) (W : List D) (h1 : eqD (.str k) (.str "gap") = some false) (hs : dSl (.tup (.str k :: N)) (some 1) none = some (.tup N)) (ln : N.length ≤ sizeLine) (lw : W.length ≤ sizeLine) (cm : compRun 1 [] none (gSet 0) (mRet true) (mOp1 dStr (mVar 0)) N [some (.tup (.str k :: N))] = some (W, [some (.tup (.str k :: N))])) (hj : dJoin (.str "/") (.lst W) = some (.str x)) : f_shown_sign [.tup (.str k :: N)] = some (.str x) := by
  unfold f_shown_sign b_shown_sign
  generalize dSl = J at hs ⊢
  generalize dJoin = J2 at hj ⊢
  walk_at "ev"
theorem sl_told (d : D) (N : List D) : dSl (.tup (d :: N)) (some 1) none = some (.tup N) := by
  rw [dSl_tfrom (by decide) (by simp)]
  rfl
theorem p_ssign {g : Sg} (h : SgOk g) : f_shown_sign [sgD g] = some (.str (wr g)) := by
  have two : 2 ≤ sizeLine := by decide
  have one : 1 ≤ sizeLine := by decide
  cases g with
  | gap => exact sg_gap s_gg
  | clear b =>
    refine sg_else "clear" (tx b) [.int b] [.str (tx b)] s_cg (sl_told _ _) one one ?_ ?_
    · exact strs_cm [b] (fun n hn => by rw [List.mem_singleton.mp hn]; exact bit60 h) _
    · exact join_is (sep := "/") (xs := [tx b]) (by decide) (by show 1 ≤ 2000; decide) (fun x hx => by rw [List.mem_singleton.mp hx]; exact Nat.le_trans (bit60 h).len (by decide))
  | soft z o =>
    have e : Txt.join "/" [tx z, tx o] = wr (.soft z o) := rfl
    refine sg_else "soft" (wr (.soft z o)) [.int z, .int o] [.str (tx z), .str (tx o)] s_sg (sl_told _ _) two two ?_ ?_
    · exact strs_cm [z, o] (fun n hn => by
        rcases List.mem_cons.mp hn with rfl | hn
        · exact h.1
        · rw [List.mem_singleton.mp hn]; exact h.2) _
    · rw [← e]
      exact join_is (sep := "/") (xs := [tx z, tx o]) (by decide) (by show 2 ≤ 2000; decide) (fun x hx => by
        rcases List.mem_cons.mp hx with rfl | hx
        · exact Nat.le_trans h.1.len (by decide)
        · rw [List.mem_singleton.mp hx]; exact Nat.le_trans h.2.len (by decide))
theorem sh_end (G W : List D) (x : Str) (lg : G.length ≤ sizeLine) (lw : W.length ≤ sizeLine) (cm : compRun 1 [] none (gSet 0) (mRet true) (mCall f_shown_sign (mCons (mVar 0) mNil)) G [some (.lst G)] = some (W, [some (.lst G)])) (hj : dJoin (.str " ") (.lst W) = some (.str x)) : f_shown_heard [.lst G] = some (.str x) := by
  unfold f_shown_heard b_shown_heard
  generalize dJoin = J at hj ⊢
  walk_at "ev"
theorem p_sheard (gs : List Sg) (hl : gs.length ≤ 1000) (hg : ∀ g ∈ gs, SgOk g) : f_shown_heard [.lst (gs.map sgD)] = some (.str (Txt.join " " (gs.map wr))) := by
  refine sh_end _ ((gs.map wr).map D.str) _ (by rw [List.length_map]; exact line_of (by omega)) (by rw [List.length_map, List.length_map]; exact line_of (by omega)) ?_ (join_is (by decide) (by rw [List.length_map]; omega) (fun x hx => by
    obtain ⟨g, hg', rfl⟩ := List.mem_map.mp hx
    exact wr_len (hg g hg')))
  have cm := fun ρ => cm_map (n := 1) (js := []) (fg := gSet 0) (fe := mCall f_shown_sign (mCons (mVar 0) mNil)) (ρ := ρ) (fun d => (f_shown_sign [d]).getD .non) (gs.map sgD) (fun x hx => by
    obtain ⟨g, hg', rfl⟩ := List.mem_map.mp hx
    have hw := p_ssign (hg g hg')
    refine ⟨[some (sgD g)], rfl, ?_⟩
    rw [hw]
    clear hx hg'
    generalize sgD g = R at hw ⊢
    walk_at "ev")
  have m : (gs.map sgD).map (fun d => (f_shown_sign [d]).getD .non) = (gs.map wr).map D.str := by
    rw [List.map_map, List.map_map]
    refine List.map_congr_left fun g hg' => ?_
    show (f_shown_sign [sgD g]).getD .non = _
    rw [p_ssign (hg g hg')]
    rfl
  rw [← m]
  exact cm _
theorem sp_none (z0 : 0 ≤ sizeLine) : f_shown_places [.lst []] = some (.str "-") := by
  unfold f_shown_places b_shown_places
  walk_at "ev"
theorem sp_some (P W : List D) (x : Str) (n0 : 0 < P.length) (lp : P.length ≤ sizeLine) (lw : W.length ≤ sizeLine) (cm : compRun 1 [] none (gSet 0) (mRet true) (mOp1 dStr (mVar 0)) P [some (.lst P)] = some (W, [some (.lst P)])) (hj : dJoin (.str ",") (.lst W) = some (.str x)) : f_shown_places [.lst P] = some (.str x) := by
  unfold f_shown_places b_shown_places
  generalize dJoin = J at hj ⊢
  walk_at "ev"
theorem p_splaces (ps : List Int) (hl : ps.length ≤ 1001) (h : Up ps) : f_shown_places [.lst (ps.map D.int)] = some (.str (lineOf ps)) := by
  unfold lineOf
  cases ps with
  | nil => rw [if_pos rfl]; exact sp_none (by decide)
  | cons p r =>
    rw [if_neg (by simp)]
    have n6 : ∀ q ∈ p :: r, N60 q := fun q hq => by have := h.2 q hq; unfold N60; omega
    exact sp_some _ (((p :: r).map tx).map D.str) _ (by simp) (by rw [List.length_map]; exact line_of (by omega)) (by rw [List.length_map, List.length_map]; exact line_of (by omega)) (strs_cm (p :: r) n6 _) (join_is (by decide) (by rw [List.length_map]; omega) (fun x hx => by
      obtain ⟨g, hg', rfl⟩ := List.mem_map.mp hx
      exact Nat.le_trans (n6 g hg').len (by decide)))
theorem rowT_cps : ∀ {row : List Int}, (∀ b ∈ row, b = 0 ∨ b = 1) → signsD (rowT row) = (row.map tx).map D.str
  | [], _ => rfl
  | b :: row, h => by
    have ih := rowT_cps (row := row) fun x hx => h x (List.mem_cons_of_mem _ hx)
    have e : (rowT (b :: row)).cps.toList = (tx b).cps.toList ++ (rowT row).cps.toList := by
      unfold rowT
      rw [txt_join, txt_join]
      cases row with
      | nil =>
        have e1 : Str.join "" [tx b] = tx b := by rw [← txt_join]; rfl
        rw [List.map_cons, List.map_nil, e1]
        show _ = _ ++ []
        rw [List.append_nil]
      | cons c r =>
        show (tx b ++ "" ++ Str.join "" ((c :: r).map tx)).cps.toList = _
        rw [cps_append, cps_append]
        show (_ ++ []) ++ _ = _
        rw [List.append_nil]
    have one : (tx b).cps.toList.map (fun c => D.str ⟨#[c]⟩) = [D.str (tx b)] := by
      rcases h b List.mem_cons_self with rfl | rfl
      · rw [tx0c, show tx 0 = ⟨#[48]⟩ from str_of tx0c]; rfl
      · rw [tx1c, show tx 1 = ⟨#[49]⟩ from str_of tx1c]; rfl
    show (rowT (b :: row)).cps.toList.map (fun c => D.str ⟨#[c]⟩) = _
    rw [e, List.map_append, one]
    show [D.str (tx b)] ++ signsD (rowT row) = _
    rw [ih]
    rfl
theorem in_bits {c : Nat} (h : c = 48 ∨ c = 49) : dInS (.str ⟨#[c]⟩) (.str "01") = some (.bl true) := by
  rw [in_one]
  have e : ("01" : Str).cps.toList = [48, 49] := by decide +kernel
  rw [e, decide_eq_true]
  simpa using h
theorem rb_end (x : Str) (Z W : List D) (hm : f_is_made_of [.str x, .str "01"] = some (.bl true)) (hs : sgO (.str x) = some Z) (lz : Z.length ≤ sizeLine) (cm : compRun 1 [] none (gSet 0) (mRet true) (mOp1 dIntT (mVar 0)) Z [some (.str x)] = some (W, [some (.str x)])) : f_read_bits [.str x] = some (.lst W) := by
  unfold f_read_bits b_read_bits
  walk_at "ev"
theorem p_rbits {w : List Int} (hl : w.length ≤ 60) (h : ∀ b ∈ w, b = 0 ∨ b = 1) (hn : w ≠ []) : f_read_bits [.str (rowT w)] = some (.lst (w.map D.int)) := by
  have ln := rowT_len h
  have lx : (rowT w).length ≤ sizeLine := line_of (by omega)
  have ne : (rowT w).cps.toList ≠ [] := fun z => by
    have q : (rowT w).length = 0 := by rw [len_toList, z]; rfl
    rw [ln] at q
    exact hn (List.length_eq_zero_iff.mp q)
  refine rb_end _ (signsD (rowT w)) _ (p_made ne (fun c hc => in_bits (rowT_sign h hc)) lx) rfl (by rw [rowT_cps h, List.length_map, List.length_map]; exact line_of (by omega)) ?_
  rw [rowT_cps h]
  have cm := fun ρ => cm_map (n := 1) (js := []) (fg := gSet 0) (fe := mOp1 dIntT (mVar 0)) (ρ := ρ) (fun d => (dIntT d).getD .non) ((w.map tx).map D.str) (fun x hx => by
    obtain ⟨y, hy, rfl⟩ := List.mem_map.mp hx
    obtain ⟨b, hb, rfl⟩ := List.mem_map.mp hy
    have e := (bit60 (h b hb)).back
    refine ⟨[some (.str (tx b))], rfl, ?_⟩
    rw [e]
    clear hx hy hb
    generalize dIntT = J at e ⊢
    walk_at "ev")
  have m : ((w.map tx).map D.str).map (fun d => (dIntT d).getD .non) = w.map D.int := by
    rw [List.map_map, List.map_map]
    refine List.map_congr_left fun b hb => ?_
    show (dIntT (.str (tx b))).getD .non = _
    rw [(bit60 (h b hb)).back]
    rfl
  rw [← m]
  exact cm _
theorem rw_none (he : eqD (.str "-") (.str "-") = some true) (z0 : 0 ≤ sizeLine) : f_read_word [.str "-"] = some (.lst []) := by
  have hc := ct_ok "-"
  unfold f_read_word b_read_word
  walk_at "ev"
theorem rw_some (x : Str) (W : List D) (he : eqD (.str x) (.str "-") = some false) (hb : f_read_bits [.str x] = some (.lst W)) : f_read_word [.str x] = some (.lst W) := by
  have hc := ct_ok x
  unfold f_read_word b_read_word
  walk_at "ev"
theorem rowT_ok {row : List Int} (h : ∀ b ∈ row, b = 0 ∨ b = 1) : PyData.strOk (rowT row) = true := strOk_of fun c hc => by
  have := rowT_sign h hc
  omega
theorem p_rword (w : List Int) (hl : w.length ≤ 60) (h : ∀ b ∈ w, b = 0 ∨ b = 1) : f_read_word [.str (wordT w)] = some (.lst (w.map D.int)) := by
  unfold wordT
  cases w with
  | nil =>
    rw [if_pos rfl]
    exact rw_none (by rw [eqD_str (by decide +kernel) (by decide +kernel)]; rfl) (by decide)
  | cons b r =>
    rw [if_neg (by simp)]
    refine rw_some _ _ ((eq_txt (rowT_ok h) (d := 45) (by decide)).trans ?_) (p_rbits hl h (by simp))
    rw [decide_eq_false]
    intro z
    have := rowT_sign h (c := 45) (by rw [z]; simp)
    omega
theorem hs_end (W : List D) (e : Str) (lw : W.length ≤ sizeLine) (l1 : 1 ≤ sizeLine) (h0 : atI W 0 = some (.str "reach")) (q0 : eqD (.str "reach") (.str "reach") = some true) (h2 : dSl (.lst W) (some 2) (some 3) = some (.lst [.str "taps"])) (q2 : eqD (.lst [.str "taps"]) (.lst [.str "taps"]) = some true)
    (h3 : dInG false (.str "rows") (.lst W) = some (.bl true)) (h4 : atI W (-1) = some (.str e)) (h5 : inD (.str e) [.str "open", .str "ended", .str "ring"] = true) : f_has_scheme_form [.lst W] = some (.bl true) := by
  unfold f_has_scheme_form b_has_scheme_form
  generalize dInG = J at h3 ⊢
  walk_at "ev"
theorem rsch_end (x rt e : Str) (W A B TP RW : List D) (k r : Int) (hc : f_check_text [.str x] = some .non) (hs : dSplit (.str x) (.str " ") = some W) (lw : W.length ≤ sizeLine) (hf : f_has_scheme_form [.lst W] = some (.bl true)) (hi : dIdx (.lst W) (.str "rows") = some (.int k))
    (h1 : dSl (.lst W) (some 3) (some k) = some (.lst A)) (la : A.length ≤ sizeLine) (c1 : compRun 1 [] none (gSet 0) (mRet true) (mCall f_read_small (mCons (mVar 0) mNil)) A [some (.str x), some (.lst W), some (.int k), none, none, none, none] = some (TP, [some (.str x), some (.lst W), some (.int k), none, none, none, none]))
    (h2 : dSl (.lst W) (some (k + 1)) (some (-1)) = some (.lst B)) (lb : B.length ≤ sizeLine) (c2 : compRun 1 [] none (gSet 0) (mRet true) (mOp1 dTuple (mCall f_read_bits (mCons (mVar 0) mNil))) B [some (.str x), some (.lst W), some (.int k), some (.lst TP), none, none, none] = some (RW, [some (.str x), some (.lst W), some (.int k), some (.lst TP), none, none, none]))
    (h3 : atI W 1 = some (.str rt)) (h4 : f_read_small [.str rt] = some (.int r)) (lt : TP.length ≤ sizeLine) (lr : RW.length ≤ sizeLine) (nt : ¬ TP = []) (nr : ¬ RW = []) (h5 : atI W (-1) = some (.str e)) (his : f_is_scheme [.tup [.int r, .tup TP, .tup RW, .str e]] = some (.bl true)) (l4 : 4 ≤ sizeLine) :
    f_read_scheme [.str x] = some (.tup [.int r, .tup TP, .tup RW, .str e]) := by
  unfold f_read_scheme b_read_scheme
  generalize dIdx = J at hi ⊢
  walk_at "ev"
theorem rsm_end (x : Str) (n : Int) (h : f_read_figures [.str x, .int 2] = some (.int n)) : f_read_small [.str x] = some (.int n) := by
  unfold f_read_small b_read_small
  walk_at "ev"
theorem p_rsmall {n : Int} (n0 : 0 ≤ n) (h : n < 100) : f_read_small [.str (tx n)] = some (.int n) := rsm_end _ _ (p_figsK (by unfold N60; omega) n0 (by
  have := tx_pos_len (k := 2) n0 (by omega) (by decide)
  omega))
theorem cut2 {α : Type} {a b : Nat} (xs ys zs : List α) (h1 : xs.length = a) (h2 : a + ys.length = b) : ((xs ++ (ys ++ zs)).drop a).take (b - a) = ys := by
  rw [← h1, List.drop_left, ← h2, h1, Nat.add_sub_cancel_left, List.take_left]
theorem cutD_two {xs ys zs : List D} {a b : Int} (ha : 0 ≤ a) (hb : 0 ≤ b) (h1 : (xs.length : Int) = a) (h2 : a + ys.length = b) : dSl (.lst (xs ++ (ys ++ zs))) (some a) (some b) = some (.lst ys) := by
  show some (D.lst (cutD _ _ _)) = _
  unfold cutD
  rw [sIx_pos ha, sIx_pos hb]
  have n : (xs ++ (ys ++ zs)).length = xs.length + (ys.length + zs.length) := by rw [List.length_append, List.length_append]
  rw [n, Nat.min_eq_left (by omega), Nat.min_eq_left (by omega), cut2 xs ys zs (by omega) (by omega)]
theorem sIx_neg1 {n d : Nat} (h : 0 < n) : HT.sIx n d (some (-1)) = n - 1 := by
  show (if (-1 : Int) < 0 then ((-1 : Int) + (n : Int)).toNat else min (-1 : Int).toNat n) = _
  rw [if_pos (by decide)]
  omega
theorem cutD_last {xs ys : List D} {z : D} {a : Int} (ha : 0 ≤ a) (h1 : (xs.length : Int) = a) : dSl (.lst (xs ++ (ys ++ [z]))) (some a) (some (-1)) = some (.lst ys) := by
  show some (D.lst (cutD _ _ _)) = _
  unfold cutD
  have n : (xs ++ (ys ++ [z])).length = xs.length + (ys.length + 1) := by rw [List.length_append, List.length_append, List.length_singleton]
  rw [sIx_pos ha, sIx_neg1 (by omega), n, Nat.min_eq_left (by omega), cut2 xs ys [z] (by omega) (by omega)]
theorem at_last {α : Type} (xs : List α) (z : α) : atI (xs ++ [z]) (-1) = some z := by
  unfold atI ixN
  have n : (xs ++ [z]).length = xs.length + 1 := by rw [List.length_append, List.length_singleton]
  rw [if_neg (by decide), n, if_pos (by omega)]
  have e : ((-1 : Int) + ((xs.length + 1 : Nat) : Int)).toNat = xs.length := by omega
  simp only [Option.bind_some]
  rw [e]
  simp
theorem in_list {k : Str} {ws : List Str} (h : k ∈ ws) : dInG false (.str k) (.lst (ws.map D.str)) = some (.bl true) := by
  unfold dInG
  simp only [dSeq]
  have f : (ws.map D.str).all flatD = true := by
    rw [List.all_map, List.all_eq_true]
    intro x _
    rfl
  rw [if_pos ⟨rfl, f⟩]
  have e : inD (.str k) (ws.map D.str) = true := by
    unfold inD inV
    rw [List.any_map, List.any_map, List.any_eq_true]
    exact ⟨k, h, by show (k == k) = true; simp⟩
  rw [e]
  rfl
theorem idx_is {xs zs : List Str} {k : Str} (h : k ∉ xs) : dIdx (.lst ((xs ++ k :: zs).map D.str)) (.str k) = some (.int (xs.length : Nat)) := by
  unfold dIdx
  dsimp only
  rw [strsD_map]
  dsimp only
  rw [if_pos (by simp), List.idxOf_append, if_neg h]
  simp
theorem no_rows {r : Int} {taps : List Int} : ("rows" : Str) ∉ ("reach" : Str) :: tx r :: "taps" :: taps.map tx := by
  have ht : ∀ t : Int, ("rows" : Str) ≠ tx t := fun t z => by
    have : 114 ∈ (tx t).cps.toList := by rw [← z]; decide +kernel
    have := tx_sign this
    omega
  intro h
  rcases List.mem_cons.mp h with h | h
  · exact absurd h (by decide +kernel)
  · rcases List.mem_cons.mp h with h | h
    · exact ht r h
    · rcases List.mem_cons.mp h with h | h
      · exact absurd h (by decide +kernel)
      · obtain ⟨t, _, h⟩ := List.mem_map.mp h
        exact ht t h.symm
theorem p_rscheme (r : Int) (taps : List Int) (rows : List (List Int)) (e : Str) (ok : SchOk r taps rows e) : f_read_scheme [.str (schT r taps rows e)] = some (schD r taps rows e) := by
  have t1 := ok.t1
  have t4 := ok.t4
  have m1 := ok.m1
  have m6 := ok.m6
  have r0 := ok.r0
  have r4 := ok.r4
  have e32 : (" " : Str) = ⟨#[32]⟩ := by decide +kernel
  have pt := sch_parts ok
  have ln := sch_len ok
  have sp : dSplit (.str (schT r taps rows e)) (.str " ") = some ((schL r taps rows e).map D.str) := by
    unfold schT
    rw [e32]
    exact dSplit_join (by unfold schL; simp) (fun x hx => (pt x hx).2.1) (line_of (Nat.le_trans (join_len 32 _ 200 (fun x hx => (pt x hx).2.2)) (by omega))) (line_of (by omega))
  have w1 : (schL r taps rows e).map D.str = [D.str "reach", D.str (tx r), D.str "taps"] ++ ((taps.map tx).map D.str ++ (D.str "rows" :: ((rows.map rowT).map D.str ++ [D.str e]))) := by
    unfold schL dueL
    simp
  have w2 : (schL r taps rows e).map D.str = ([D.str "reach", D.str (tx r), D.str "taps"] ++ ((taps.map tx).map D.str ++ [D.str "rows"])) ++ ((rows.map rowT).map D.str ++ [D.str e]) := by
    rw [w1]
    simp
  have w3 : (schL r taps rows e).map D.str = [D.str "reach", D.str (tx r)] ++ ([D.str "taps"] ++ ((taps.map tx).map D.str ++ (D.str "rows" :: ((rows.map rowT).map D.str ++ [D.str e])))) := by
    rw [w1]
    simp
  have w4 : (schL r taps rows e).map D.str = ([D.str "reach", D.str (tx r), D.str "taps"] ++ ((taps.map tx).map D.str ++ (D.str "rows" :: (rows.map rowT).map D.str))) ++ [D.str e] := by
    rw [w1]
    simp
  have w5 : schL r taps rows e = (("reach" : Str) :: tx r :: "taps" :: taps.map tx) ++ (("rows" : Str) :: (rows.map rowT ++ [e])) := by
    unfold schL dueL
    simp
  have lw : ((schL r taps rows e).map D.str).length ≤ sizeLine := by rw [List.length_map]; exact line_of (by omega)
  have h4 : atI ((schL r taps rows e).map D.str) (-1) = some (.str e) := by rw [w4]; exact at_last _ _
  have hf : f_has_scheme_form [.lst ((schL r taps rows e).map D.str)] = some (.bl true) := by
    refine hs_end _ e lw (by decide) (by rw [w1]; exact at0 _ _) (by rw [eqD_str (by decide +kernel) (by decide +kernel)]; decide +kernel) (by rw [w3]; exact cutD_two (by decide) (by decide) rfl rfl) (eqD_self (DOks.lst (DOks.strs (xs := ["taps"]) (fun x hx => by rw [List.mem_singleton.mp hx]; decide +kernel))) (by decide)) (in_list (by rw [w5]; simp)) h4 ?_
    rcases ok.en with rfl | rfl | rfl <;> decide +kernel
  have hi : dIdx (.lst ((schL r taps rows e).map D.str)) (.str "rows") = some (.int ((3 + taps.length : Nat) : Int)) := by
    rw [w5, idx_is no_rows]
    simp only [List.length_cons, List.length_map]
    congr 2
    omega
  refine rsch_end _ (tx r) e _ ((taps.map tx).map D.str) ((rows.map rowT).map D.str) (taps.map D.int) (rows.map rowD) _ r (ct_ok _) sp lw hf hi ?_ (by rw [List.length_map, List.length_map]; exact line_of (by omega)) ?_ ?_ (by rw [List.length_map, List.length_map]; exact line_of (by omega)) ?_ (by rw [w1]; exact at1 _ _ _) (p_rsmall r0 (by omega)) (by rw [List.length_map]; exact line_of (by omega)) (by rw [List.length_map]; exact line_of (by omega)) ?_ ?_ h4 (p_isSch ok) (by decide)
  · rw [w1]
    exact cutD_two (by decide) (by omega) rfl (by rw [List.length_map, List.length_map]; omega)
  · have cm := fun ρ => cm_map (n := 1) (js := []) (fg := gSet 0) (fe := mCall f_read_small (mCons (mVar 0) mNil)) (ρ := ρ) (fun d => (f_read_small [d]).getD .non) ((taps.map tx).map D.str) (fun x hx => by
      obtain ⟨y, hy, rfl⟩ := List.mem_map.mp hx
      obtain ⟨t, ht, rfl⟩ := List.mem_map.mp hy
      have tb := ok.tb t ht
      have p16 := pow16 r0 r4
      have hw := p_rsmall (n := t) tb.1 (by omega)
      refine ⟨[some (.str (tx t))], rfl, ?_⟩
      rw [hw]
      clear hx hy ht tb p16
      walk_at "ev")
    have m : ((taps.map tx).map D.str).map (fun d => (f_read_small [d]).getD .non) = taps.map D.int := by
      rw [List.map_map, List.map_map]
      refine List.map_congr_left fun t ht => ?_
      have tb := ok.tb t ht
      have p16 := pow16 r0 r4
      show (f_read_small [.str (tx t)]).getD .non = _
      rw [p_rsmall (n := t) tb.1 (by omega)]
      rfl
    rw [← m]
    exact cm _
  · rw [w2]
    exact cutD_last (by omega) (by simp only [List.length_append, List.length_map, List.length_cons, List.length_nil]; omega)
  · have rb : ∀ row ∈ rows, f_read_bits [.str (rowT row)] = some (.lst (row.map D.int)) := fun row hrow => by
      have q := ok.rw row hrow
      exact p_rbits (by omega) q.2 (by intro z; rw [z] at q; have := q.1; simp at this; omega)
    have cm := fun ρ => cm_map (n := 1) (js := []) (fg := gSet 0) (fe := mOp1 dTuple (mCall f_read_bits (mCons (mVar 0) mNil))) (ρ := ρ) (fun d => match f_read_bits [d] with | some (.lst ds) => .tup ds | _ => .non) ((rows.map rowT).map D.str) (fun x hx => by
      obtain ⟨y, hy, rfl⟩ := List.mem_map.mp hx
      obtain ⟨row, hrow, rfl⟩ := List.mem_map.mp hy
      have hw := rb row hrow
      refine ⟨[some (.str (rowT row))], rfl, ?_⟩
      rw [hw]
      clear hx hy hrow
      generalize rowT row = X at hw ⊢
      walk_at "ev")
    have m : ((rows.map rowT).map D.str).map (fun d => match f_read_bits [d] with | some (.lst ds) => D.tup ds | _ => .non) = rows.map rowD := by
      rw [List.map_map, List.map_map]
      refine List.map_congr_left fun row hrow => ?_
      show (match f_read_bits [.str (rowT row)] with | some (.lst ds) => D.tup ds | _ => .non) = _
      rw [rb row hrow]
      rfl
    rw [← m]
    exact cm _
  · intro z
    rw [List.map_eq_nil_iff] at z
    rw [z] at t1
    cases t1
  · intro z
    rw [List.map_eq_nil_iff] at z
    rw [z] at m1
    cases m1
theorem law_true (ns : List Int) (h : ns.length ≤ 63) : f_law [.lst (ns.map D.int)] = some (.bl true) := law_if p_sscheme p_rscheme p_sword p_rword p_sheard p_heard p_splaces p_places ns h
end K55
set_option Elab.async false
set_option linter.all false
set_option maxRecDepth 100000
set_option maxHeartbeats 4000000
namespace K55
open PySem L2
theorem law_ok {P : Program} {w : World} {K mg a base} (T : Txt K mg a) : FnOk P w K mg base CX0 7 a.f_law a.fd_law ["_law_script"] (spLaw K 63) := law_of (ok_law T) law_true
theorem txt_mk {K : PySem.W.Frag} {h : Heap} {mg : Str → Option Value} {fa : Addr} (X : K.In h) (G : h.Ns mainGlobals mg) (hfa : mg "law" = some (.ref fa))
    {tk_MOST_REACH : Tok} {tk_MOST_ROWS : Tok} {tk_MOST_TAPS : Tok} {tk_MOST_SMALL_FIGURES : Tok} {tk_MOST_FIGURES : Tok} {tk_FIGURES : Tok} {t_ENDINGS : Addr} {tn_ENDINGS : Nat} {tsl_ENDINGS : Array (Option Value)} {tk0_ENDINGS tk1_ENDINGS tk2_ENDINGS : Tok} {f_shown_bits : Addr} {od_shown_bits an_shown_bits : Option Addr} {sl_shown_bits : Array (Option Value)} {oc_shown_bits kV_shown_bits dc_shown_bits pm_shown_bits cd_shown_bits ct_shown_bits : Value} {f_shown_word : Addr} {od_shown_word an_shown_word : Option Addr} {sl_shown_word : Array (Option Value)} {oc_shown_word kV_shown_word dc_shown_word pm_shown_word cd_shown_word ct_shown_word : Value} {f_shown_scheme : Addr} {od_shown_scheme an_shown_scheme : Option Addr} {sl_shown_scheme : Array (Option Value)} {oc_shown_scheme kV_shown_scheme dc_shown_scheme pm_shown_scheme cd_shown_scheme ct_shown_scheme : Value} {f_shown_sign : Addr} {od_shown_sign an_shown_sign : Option Addr} {sl_shown_sign : Array (Option Value)} {oc_shown_sign kV_shown_sign dc_shown_sign pm_shown_sign cd_shown_sign ct_shown_sign : Value} {f_shown_heard : Addr} {od_shown_heard an_shown_heard : Option Addr} {sl_shown_heard : Array (Option Value)} {oc_shown_heard kV_shown_heard dc_shown_heard pm_shown_heard cd_shown_heard ct_shown_heard : Value} {f_shown_places : Addr} {od_shown_places an_shown_places : Option Addr} {sl_shown_places : Array (Option Value)} {oc_shown_places kV_shown_places dc_shown_places pm_shown_places cd_shown_places ct_shown_places : Value} {f_is_whole : Addr} {od_is_whole an_is_whole : Option Addr} {sl_is_whole : Array (Option Value)} {oc_is_whole kV_is_whole dc_is_whole pm_is_whole cd_is_whole ct_is_whole : Value} {f_plain_parts : Addr} {od_plain_parts an_plain_parts : Option Addr} {sl_plain_parts : Array (Option Value)} {oc_plain_parts kV_plain_parts dc_plain_parts pm_plain_parts cd_plain_parts ct_plain_parts : Value} {f_plain_number : Addr} {od_plain_number an_plain_number : Option Addr} {sl_plain_number : Array (Option Value)} {oc_plain_number kV_plain_number dc_plain_number pm_plain_number cd_plain_number ct_plain_number : Value} {f_plain_text : Addr} {od_plain_text an_plain_text : Option Addr} {sl_plain_text : Array (Option Value)} {oc_plain_text kV_plain_text dc_plain_text pm_plain_text cd_plain_text ct_plain_text : Value} {f_all_below : Addr} {od_all_below an_all_below : Option Addr} {sl_all_below : Array (Option Value)} {oc_all_below kV_all_below dc_all_below pm_all_below cd_all_below ct_all_below : Value} {f_is_row : Addr} {od_is_row an_is_row : Option Addr} {sl_is_row : Array (Option Value)} {oc_is_row kV_is_row dc_is_row pm_is_row cd_is_row ct_is_row : Value} {f_rooms_at : Addr} {od_rooms_at an_rooms_at : Option Addr} {sl_rooms_at : Array (Option Value)} {oc_rooms_at kV_rooms_at dc_rooms_at pm_rooms_at cd_rooms_at ct_rooms_at : Value} {f_is_scheme : Addr} {od_is_scheme an_is_scheme : Option Addr} {sl_is_scheme : Array (Option Value)} {oc_is_scheme kV_is_scheme dc_is_scheme pm_is_scheme cd_is_scheme ct_is_scheme : Value} {f_check_text : Addr} {od_check_text an_check_text : Option Addr} {sl_check_text : Array (Option Value)} {oc_check_text kV_check_text dc_check_text pm_check_text cd_check_text ct_check_text : Value} {f_is_made_of : Addr} {od_is_made_of an_is_made_of : Option Addr} {sl_is_made_of : Array (Option Value)} {oc_is_made_of kV_is_made_of dc_is_made_of pm_is_made_of cd_is_made_of ct_is_made_of : Value} {f_read_figures : Addr} {od_read_figures an_read_figures : Option Addr} {sl_read_figures : Array (Option Value)} {oc_read_figures kV_read_figures dc_read_figures pm_read_figures cd_read_figures ct_read_figures : Value} {f_read_small : Addr} {od_read_small an_read_small : Option Addr} {sl_read_small : Array (Option Value)} {oc_read_small kV_read_small dc_read_small pm_read_small cd_read_small ct_read_small : Value} {f_read_number : Addr} {od_read_number an_read_number : Option Addr} {sl_read_number : Array (Option Value)} {oc_read_number kV_read_number dc_read_number pm_read_number cd_read_number ct_read_number : Value} {f_read_bits : Addr} {od_read_bits an_read_bits : Option Addr} {sl_read_bits : Array (Option Value)} {oc_read_bits kV_read_bits dc_read_bits pm_read_bits cd_read_bits ct_read_bits : Value} {f_read_word : Addr} {od_read_word an_read_word : Option Addr} {sl_read_word : Array (Option Value)} {oc_read_word kV_read_word dc_read_word pm_read_word cd_read_word ct_read_word : Value} {f_has_scheme_form : Addr} {od_has_scheme_form an_has_scheme_form : Option Addr} {sl_has_scheme_form : Array (Option Value)} {oc_has_scheme_form kV_has_scheme_form dc_has_scheme_form pm_has_scheme_form cd_has_scheme_form ct_has_scheme_form : Value} {f_read_scheme : Addr} {od_read_scheme an_read_scheme : Option Addr} {sl_read_scheme : Array (Option Value)} {oc_read_scheme kV_read_scheme dc_read_scheme pm_read_scheme cd_read_scheme ct_read_scheme : Value} {f_read_sign : Addr} {od_read_sign an_read_sign : Option Addr} {sl_read_sign : Array (Option Value)} {oc_read_sign kV_read_sign dc_read_sign pm_read_sign cd_read_sign ct_read_sign : Value} {f_read_heard : Addr} {od_read_heard an_read_heard : Option Addr} {sl_read_heard : Array (Option Value)} {oc_read_heard kV_read_heard dc_read_heard pm_read_heard cd_read_heard ct_read_heard : Value} {f_read_places : Addr} {od_read_places an_read_places : Option Addr} {sl_read_places : Array (Option Value)} {oc_read_places kV_read_places dc_read_places pm_read_places cd_read_places ct_read_places : Value} {f__law_next : Addr} {od__law_next an__law_next : Option Addr} {sl__law_next : Array (Option Value)} {oc__law_next kV__law_next dc__law_next pm__law_next cd__law_next ct__law_next : Value} {f__law_seed : Addr} {od__law_seed an__law_seed : Option Addr} {sl__law_seed : Array (Option Value)} {oc__law_seed kV__law_seed dc__law_seed pm__law_seed cd__law_seed ct__law_seed : Value} {f__law_scheme : Addr} {od__law_scheme an__law_scheme : Option Addr} {sl__law_scheme : Array (Option Value)} {oc__law_scheme kV__law_scheme dc__law_scheme pm__law_scheme cd__law_scheme ct__law_scheme : Value} {f__law_number : Addr} {od__law_number an__law_number : Option Addr} {sl__law_number : Array (Option Value)} {oc__law_number kV__law_number dc__law_number pm__law_number cd__law_number ct__law_number : Value} {f__law_heard : Addr} {od__law_heard an__law_heard : Option Addr} {sl__law_heard : Array (Option Value)} {oc__law_heard kV__law_heard dc__law_heard pm__law_heard cd__law_heard ct__law_heard : Value} {f__law_places : Addr} {od__law_places an__law_places : Option Addr} {sl__law_places : Array (Option Value)} {oc__law_places kV__law_places dc__law_places pm__law_places cd__law_places ct__law_places : Value} {f__law_pieces : Addr} {od__law_pieces an__law_pieces : Option Addr} {sl__law_pieces : Array (Option Value)} {oc__law_pieces kV__law_pieces dc__law_pieces pm__law_pieces cd__law_pieces ct__law_pieces : Value} {f__law_heard_piece : Addr} {od__law_heard_piece an__law_heard_piece : Option Addr} {sl__law_heard_piece : Array (Option Value)} {oc__law_heard_piece kV__law_heard_piece dc__law_heard_piece pm__law_heard_piece cd__law_heard_piece ct__law_heard_piece : Value} {f_law : Addr} {od_law an_law : Option Addr} {sl_law : Array (Option Value)} {oc_law kV_law dc_law pm_law cd_law ct_law : Value}
    (v_MOST_REACH : PySem.W.nsIn K mainGlobals "MOST_REACH" = some (some (.int (4) tk_MOST_REACH)))
    (v_MOST_ROWS : PySem.W.nsIn K mainGlobals "MOST_ROWS" = some (some (.int (6) tk_MOST_ROWS)))
    (v_MOST_TAPS : PySem.W.nsIn K mainGlobals "MOST_TAPS" = some (some (.int (4) tk_MOST_TAPS)))
    (v_MOST_SMALL_FIGURES : PySem.W.nsIn K mainGlobals "MOST_SMALL_FIGURES" = some (some (.int (2) tk_MOST_SMALL_FIGURES)))
    (v_MOST_FIGURES : PySem.W.nsIn K mainGlobals "MOST_FIGURES" = some (some (.int (60) tk_MOST_FIGURES)))
    (v_FIGURES : PySem.W.nsIn K mainGlobals "FIGURES" = some (some (.str "0123456789" tk_FIGURES)))
    (v_ENDINGS : PySem.W.nsIn K mainGlobals "ENDINGS" = some (some (.ref t_ENDINGS)))
    (w_ENDINGS : K.lookup t_ENDINGS = some ⟨.type "tuple", none, .seq #[.str "open" tk0_ENDINGS, .str "ended" tk1_ENDINGS, .str "ring" tk2_ENDINGS] tn_ENDINGS, tsl_ENDINGS⟩)
    (a_shown_bits : PySem.W.nsIn K mainGlobals "shown_bits" = some (some (.ref f_shown_bits)))
    (l_shown_bits : K.lookup f_shown_bits = some ⟨oc_shown_bits, od_shown_bits, .func (PySem.W.fnOf "shown_bits" "shown_bits" (defArgs s_shown_bits) (defBody s_shown_bits) (defScope s_shown_bits) .none kV_shown_bits dc_shown_bits pm_shown_bits an_shown_bits cd_shown_bits ct_shown_bits), sl_shown_bits⟩)
    (c_shown_bits : PySem.W.codeIn K cd_shown_bits "shown_bits" = true)
    (k_shown_bits : PySem.W.keepIn K (.ref f_shown_bits) = true)
    (a_shown_word : PySem.W.nsIn K mainGlobals "shown_word" = some (some (.ref f_shown_word)))
    (l_shown_word : K.lookup f_shown_word = some ⟨oc_shown_word, od_shown_word, .func (PySem.W.fnOf "shown_word" "shown_word" (defArgs s_shown_word) (defBody s_shown_word) (defScope s_shown_word) .none kV_shown_word dc_shown_word pm_shown_word an_shown_word cd_shown_word ct_shown_word), sl_shown_word⟩)
    (c_shown_word : PySem.W.codeIn K cd_shown_word "shown_word" = true)
    (k_shown_word : PySem.W.keepIn K (.ref f_shown_word) = true)
    (a_shown_scheme : PySem.W.nsIn K mainGlobals "shown_scheme" = some (some (.ref f_shown_scheme)))
    (l_shown_scheme : K.lookup f_shown_scheme = some ⟨oc_shown_scheme, od_shown_scheme, .func (PySem.W.fnOf "shown_scheme" "shown_scheme" (defArgs s_shown_scheme) (defBody s_shown_scheme) (defScope s_shown_scheme) .none kV_shown_scheme dc_shown_scheme pm_shown_scheme an_shown_scheme cd_shown_scheme ct_shown_scheme), sl_shown_scheme⟩)
    (c_shown_scheme : PySem.W.codeIn K cd_shown_scheme "shown_scheme" = true)
    (k_shown_scheme : PySem.W.keepIn K (.ref f_shown_scheme) = true)
    (a_shown_sign : PySem.W.nsIn K mainGlobals "shown_sign" = some (some (.ref f_shown_sign)))
    (l_shown_sign : K.lookup f_shown_sign = some ⟨oc_shown_sign, od_shown_sign, .func (PySem.W.fnOf "shown_sign" "shown_sign" (defArgs s_shown_sign) (defBody s_shown_sign) (defScope s_shown_sign) .none kV_shown_sign dc_shown_sign pm_shown_sign an_shown_sign cd_shown_sign ct_shown_sign), sl_shown_sign⟩)
    (c_shown_sign : PySem.W.codeIn K cd_shown_sign "shown_sign" = true)
    (k_shown_sign : PySem.W.keepIn K (.ref f_shown_sign) = true)
    (a_shown_heard : PySem.W.nsIn K mainGlobals "shown_heard" = some (some (.ref f_shown_heard)))
    (l_shown_heard : K.lookup f_shown_heard = some ⟨oc_shown_heard, od_shown_heard, .func (PySem.W.fnOf "shown_heard" "shown_heard" (defArgs s_shown_heard) (defBody s_shown_heard) (defScope s_shown_heard) .none kV_shown_heard dc_shown_heard pm_shown_heard an_shown_heard cd_shown_heard ct_shown_heard), sl_shown_heard⟩)
    (c_shown_heard : PySem.W.codeIn K cd_shown_heard "shown_heard" = true)
    (k_shown_heard : PySem.W.keepIn K (.ref f_shown_heard) = true)
    (a_shown_places : PySem.W.nsIn K mainGlobals "shown_places" = some (some (.ref f_shown_places)))
    (l_shown_places : K.lookup f_shown_places = some ⟨oc_shown_places, od_shown_places, .func (PySem.W.fnOf "shown_places" "shown_places" (defArgs s_shown_places) (defBody s_shown_places) (defScope s_shown_places) .none kV_shown_places dc_shown_places pm_shown_places an_shown_places cd_shown_places ct_shown_places), sl_shown_places⟩)
    (c_shown_places : PySem.W.codeIn K cd_shown_places "shown_places" = true)
    (k_shown_places : PySem.W.keepIn K (.ref f_shown_places) = true)
    (a_is_whole : PySem.W.nsIn K mainGlobals "is_whole" = some (some (.ref f_is_whole)))
    (l_is_whole : K.lookup f_is_whole = some ⟨oc_is_whole, od_is_whole, .func (PySem.W.fnOf "is_whole" "is_whole" (defArgs s_is_whole) (defBody s_is_whole) (defScope s_is_whole) .none kV_is_whole dc_is_whole pm_is_whole an_is_whole cd_is_whole ct_is_whole), sl_is_whole⟩)
    (c_is_whole : PySem.W.codeIn K cd_is_whole "is_whole" = true)
    (k_is_whole : PySem.W.keepIn K (.ref f_is_whole) = true)
    (a_plain_parts : PySem.W.nsIn K mainGlobals "plain_parts" = some (some (.ref f_plain_parts)))
    (l_plain_parts : K.lookup f_plain_parts = some ⟨oc_plain_parts, od_plain_parts, .func (PySem.W.fnOf "plain_parts" "plain_parts" (defArgs s_plain_parts) (defBody s_plain_parts) (defScope s_plain_parts) .none kV_plain_parts dc_plain_parts pm_plain_parts an_plain_parts cd_plain_parts ct_plain_parts), sl_plain_parts⟩)
    (c_plain_parts : PySem.W.codeIn K cd_plain_parts "plain_parts" = true)
    (k_plain_parts : PySem.W.keepIn K (.ref f_plain_parts) = true)
    (a_plain_number : PySem.W.nsIn K mainGlobals "plain_number" = some (some (.ref f_plain_number)))
    (l_plain_number : K.lookup f_plain_number = some ⟨oc_plain_number, od_plain_number, .func (PySem.W.fnOf "plain_number" "plain_number" (defArgs s_plain_number) (defBody s_plain_number) (defScope s_plain_number) .none kV_plain_number dc_plain_number pm_plain_number an_plain_number cd_plain_number ct_plain_number), sl_plain_number⟩)
    (c_plain_number : PySem.W.codeIn K cd_plain_number "plain_number" = true)
    (k_plain_number : PySem.W.keepIn K (.ref f_plain_number) = true)
    (a_plain_text : PySem.W.nsIn K mainGlobals "plain_text" = some (some (.ref f_plain_text)))
    (l_plain_text : K.lookup f_plain_text = some ⟨oc_plain_text, od_plain_text, .func (PySem.W.fnOf "plain_text" "plain_text" (defArgs s_plain_text) (defBody s_plain_text) (defScope s_plain_text) .none kV_plain_text dc_plain_text pm_plain_text an_plain_text cd_plain_text ct_plain_text), sl_plain_text⟩)
    (c_plain_text : PySem.W.codeIn K cd_plain_text "plain_text" = true)
    (k_plain_text : PySem.W.keepIn K (.ref f_plain_text) = true)
    (a_all_below : PySem.W.nsIn K mainGlobals "all_below" = some (some (.ref f_all_below)))
    (l_all_below : K.lookup f_all_below = some ⟨oc_all_below, od_all_below, .func (PySem.W.fnOf "all_below" "all_below" (defArgs s_all_below) (defBody s_all_below) (defScope s_all_below) .none kV_all_below dc_all_below pm_all_below an_all_below cd_all_below ct_all_below), sl_all_below⟩)
    (c_all_below : PySem.W.codeIn K cd_all_below "all_below" = true)
    (k_all_below : PySem.W.keepIn K (.ref f_all_below) = true)
    (a_is_row : PySem.W.nsIn K mainGlobals "is_row" = some (some (.ref f_is_row)))
    (l_is_row : K.lookup f_is_row = some ⟨oc_is_row, od_is_row, .func (PySem.W.fnOf "is_row" "is_row" (defArgs s_is_row) (defBody s_is_row) (defScope s_is_row) .none kV_is_row dc_is_row pm_is_row an_is_row cd_is_row ct_is_row), sl_is_row⟩)
    (c_is_row : PySem.W.codeIn K cd_is_row "is_row" = true)
    (k_is_row : PySem.W.keepIn K (.ref f_is_row) = true)
    (a_rooms_at : PySem.W.nsIn K mainGlobals "rooms_at" = some (some (.ref f_rooms_at)))
    (l_rooms_at : K.lookup f_rooms_at = some ⟨oc_rooms_at, od_rooms_at, .func (PySem.W.fnOf "rooms_at" "rooms_at" (defArgs s_rooms_at) (defBody s_rooms_at) (defScope s_rooms_at) .none kV_rooms_at dc_rooms_at pm_rooms_at an_rooms_at cd_rooms_at ct_rooms_at), sl_rooms_at⟩)
    (c_rooms_at : PySem.W.codeIn K cd_rooms_at "rooms_at" = true)
    (k_rooms_at : PySem.W.keepIn K (.ref f_rooms_at) = true)
    (a_is_scheme : PySem.W.nsIn K mainGlobals "is_scheme" = some (some (.ref f_is_scheme)))
    (l_is_scheme : K.lookup f_is_scheme = some ⟨oc_is_scheme, od_is_scheme, .func (PySem.W.fnOf "is_scheme" "is_scheme" (defArgs s_is_scheme) (defBody s_is_scheme) (defScope s_is_scheme) .none kV_is_scheme dc_is_scheme pm_is_scheme an_is_scheme cd_is_scheme ct_is_scheme), sl_is_scheme⟩)
    (c_is_scheme : PySem.W.codeIn K cd_is_scheme "is_scheme" = true)
    (k_is_scheme : PySem.W.keepIn K (.ref f_is_scheme) = true)
    (a_check_text : PySem.W.nsIn K mainGlobals "check_text" = some (some (.ref f_check_text)))
    (l_check_text : K.lookup f_check_text = some ⟨oc_check_text, od_check_text, .func (PySem.W.fnOf "check_text" "check_text" (defArgs s_check_text) (defBody s_check_text) (defScope s_check_text) .none kV_check_text dc_check_text pm_check_text an_check_text cd_check_text ct_check_text), sl_check_text⟩)
    (c_check_text : PySem.W.codeIn K cd_check_text "check_text" = true)
    (k_check_text : PySem.W.keepIn K (.ref f_check_text) = true)
    (a_is_made_of : PySem.W.nsIn K mainGlobals "is_made_of" = some (some (.ref f_is_made_of)))
    (l_is_made_of : K.lookup f_is_made_of = some ⟨oc_is_made_of, od_is_made_of, .func (PySem.W.fnOf "is_made_of" "is_made_of" (defArgs s_is_made_of) (defBody s_is_made_of) (defScope s_is_made_of) .none kV_is_made_of dc_is_made_of pm_is_made_of an_is_made_of cd_is_made_of ct_is_made_of), sl_is_made_of⟩)
    (c_is_made_of : PySem.W.codeIn K cd_is_made_of "is_made_of" = true)
    (k_is_made_of : PySem.W.keepIn K (.ref f_is_made_of) = true)
    (a_read_figures : PySem.W.nsIn K mainGlobals "read_figures" = some (some (.ref f_read_figures)))
    (l_read_figures : K.lookup f_read_figures = some ⟨oc_read_figures, od_read_figures, .func (PySem.W.fnOf "read_figures" "read_figures" (defArgs s_read_figures) (defBody s_read_figures) (defScope s_read_figures) .none kV_read_figures dc_read_figures pm_read_figures an_read_figures cd_read_figures ct_read_figures), sl_read_figures⟩)
    (c_read_figures : PySem.W.codeIn K cd_read_figures "read_figures" = true)
    (k_read_figures : PySem.W.keepIn K (.ref f_read_figures) = true)
    (a_read_small : PySem.W.nsIn K mainGlobals "read_small" = some (some (.ref f_read_small)))
    (l_read_small : K.lookup f_read_small = some ⟨oc_read_small, od_read_small, .func (PySem.W.fnOf "read_small" "read_small" (defArgs s_read_small) (defBody s_read_small) (defScope s_read_small) .none kV_read_small dc_read_small pm_read_small an_read_small cd_read_small ct_read_small), sl_read_small⟩)
    (c_read_small : PySem.W.codeIn K cd_read_small "read_small" = true)
    (k_read_small : PySem.W.keepIn K (.ref f_read_small) = true)
    (a_read_number : PySem.W.nsIn K mainGlobals "read_number" = some (some (.ref f_read_number)))
    (l_read_number : K.lookup f_read_number = some ⟨oc_read_number, od_read_number, .func (PySem.W.fnOf "read_number" "read_number" (defArgs s_read_number) (defBody s_read_number) (defScope s_read_number) .none kV_read_number dc_read_number pm_read_number an_read_number cd_read_number ct_read_number), sl_read_number⟩)
    (c_read_number : PySem.W.codeIn K cd_read_number "read_number" = true)
    (k_read_number : PySem.W.keepIn K (.ref f_read_number) = true)
    (a_read_bits : PySem.W.nsIn K mainGlobals "read_bits" = some (some (.ref f_read_bits)))
    (l_read_bits : K.lookup f_read_bits = some ⟨oc_read_bits, od_read_bits, .func (PySem.W.fnOf "read_bits" "read_bits" (defArgs s_read_bits) (defBody s_read_bits) (defScope s_read_bits) .none kV_read_bits dc_read_bits pm_read_bits an_read_bits cd_read_bits ct_read_bits), sl_read_bits⟩)
    (c_read_bits : PySem.W.codeIn K cd_read_bits "read_bits" = true)
    (k_read_bits : PySem.W.keepIn K (.ref f_read_bits) = true)
    (a_read_word : PySem.W.nsIn K mainGlobals "read_word" = some (some (.ref f_read_word)))
    (l_read_word : K.lookup f_read_word = some ⟨oc_read_word, od_read_word, .func (PySem.W.fnOf "read_word" "read_word" (defArgs s_read_word) (defBody s_read_word) (defScope s_read_word) .none kV_read_word dc_read_word pm_read_word an_read_word cd_read_word ct_read_word), sl_read_word⟩)
    (c_read_word : PySem.W.codeIn K cd_read_word "read_word" = true)
    (k_read_word : PySem.W.keepIn K (.ref f_read_word) = true)
    (a_has_scheme_form : PySem.W.nsIn K mainGlobals "has_scheme_form" = some (some (.ref f_has_scheme_form)))
    (l_has_scheme_form : K.lookup f_has_scheme_form = some ⟨oc_has_scheme_form, od_has_scheme_form, .func (PySem.W.fnOf "has_scheme_form" "has_scheme_form" (defArgs s_has_scheme_form) (defBody s_has_scheme_form) (defScope s_has_scheme_form) .none kV_has_scheme_form dc_has_scheme_form pm_has_scheme_form an_has_scheme_form cd_has_scheme_form ct_has_scheme_form), sl_has_scheme_form⟩)
    (c_has_scheme_form : PySem.W.codeIn K cd_has_scheme_form "has_scheme_form" = true)
    (k_has_scheme_form : PySem.W.keepIn K (.ref f_has_scheme_form) = true)
    (a_read_scheme : PySem.W.nsIn K mainGlobals "read_scheme" = some (some (.ref f_read_scheme)))
    (l_read_scheme : K.lookup f_read_scheme = some ⟨oc_read_scheme, od_read_scheme, .func (PySem.W.fnOf "read_scheme" "read_scheme" (defArgs s_read_scheme) (defBody s_read_scheme) (defScope s_read_scheme) .none kV_read_scheme dc_read_scheme pm_read_scheme an_read_scheme cd_read_scheme ct_read_scheme), sl_read_scheme⟩)
    (c_read_scheme : PySem.W.codeIn K cd_read_scheme "read_scheme" = true)
    (k_read_scheme : PySem.W.keepIn K (.ref f_read_scheme) = true)
    (a_read_sign : PySem.W.nsIn K mainGlobals "read_sign" = some (some (.ref f_read_sign)))
    (l_read_sign : K.lookup f_read_sign = some ⟨oc_read_sign, od_read_sign, .func (PySem.W.fnOf "read_sign" "read_sign" (defArgs s_read_sign) (defBody s_read_sign) (defScope s_read_sign) .none kV_read_sign dc_read_sign pm_read_sign an_read_sign cd_read_sign ct_read_sign), sl_read_sign⟩)
    (c_read_sign : PySem.W.codeIn K cd_read_sign "read_sign" = true)
    (k_read_sign : PySem.W.keepIn K (.ref f_read_sign) = true)
    (a_read_heard : PySem.W.nsIn K mainGlobals "read_heard" = some (some (.ref f_read_heard)))
    (l_read_heard : K.lookup f_read_heard = some ⟨oc_read_heard, od_read_heard, .func (PySem.W.fnOf "read_heard" "read_heard" (defArgs s_read_heard) (defBody s_read_heard) (defScope s_read_heard) .none kV_read_heard dc_read_heard pm_read_heard an_read_heard cd_read_heard ct_read_heard), sl_read_heard⟩)
    (c_read_heard : PySem.W.codeIn K cd_read_heard "read_heard" = true)
    (k_read_heard : PySem.W.keepIn K (.ref f_read_heard) = true)
    (a_read_places : PySem.W.nsIn K mainGlobals "read_places" = some (some (.ref f_read_places)))
    (l_read_places : K.lookup f_read_places = some ⟨oc_read_places, od_read_places, .func (PySem.W.fnOf "read_places" "read_places" (defArgs s_read_places) (defBody s_read_places) (defScope s_read_places) .none kV_read_places dc_read_places pm_read_places an_read_places cd_read_places ct_read_places), sl_read_places⟩)
    (c_read_places : PySem.W.codeIn K cd_read_places "read_places" = true)
    (k_read_places : PySem.W.keepIn K (.ref f_read_places) = true)
    (a__law_next : PySem.W.nsIn K mainGlobals "_law_next" = some (some (.ref f__law_next)))
    (l__law_next : K.lookup f__law_next = some ⟨oc__law_next, od__law_next, .func (PySem.W.fnOf "_law_next" "_law_next" (defArgs s__law_next) (defBody s__law_next) (defScope s__law_next) .none kV__law_next dc__law_next pm__law_next an__law_next cd__law_next ct__law_next), sl__law_next⟩)
    (c__law_next : PySem.W.codeIn K cd__law_next "_law_next" = true)
    (k__law_next : PySem.W.keepIn K (.ref f__law_next) = true)
    (a__law_seed : PySem.W.nsIn K mainGlobals "_law_seed" = some (some (.ref f__law_seed)))
    (l__law_seed : K.lookup f__law_seed = some ⟨oc__law_seed, od__law_seed, .func (PySem.W.fnOf "_law_seed" "_law_seed" (defArgs s__law_seed) (defBody s__law_seed) (defScope s__law_seed) .none kV__law_seed dc__law_seed pm__law_seed an__law_seed cd__law_seed ct__law_seed), sl__law_seed⟩)
    (c__law_seed : PySem.W.codeIn K cd__law_seed "_law_seed" = true)
    (k__law_seed : PySem.W.keepIn K (.ref f__law_seed) = true)
    (a__law_scheme : PySem.W.nsIn K mainGlobals "_law_scheme" = some (some (.ref f__law_scheme)))
    (l__law_scheme : K.lookup f__law_scheme = some ⟨oc__law_scheme, od__law_scheme, .func (PySem.W.fnOf "_law_scheme" "_law_scheme" (defArgs s__law_scheme) (defBody s__law_scheme) (defScope s__law_scheme) .none kV__law_scheme dc__law_scheme pm__law_scheme an__law_scheme cd__law_scheme ct__law_scheme), sl__law_scheme⟩)
    (c__law_scheme : PySem.W.codeIn K cd__law_scheme "_law_scheme" = true)
    (k__law_scheme : PySem.W.keepIn K (.ref f__law_scheme) = true)
    (a__law_number : PySem.W.nsIn K mainGlobals "_law_number" = some (some (.ref f__law_number)))
    (l__law_number : K.lookup f__law_number = some ⟨oc__law_number, od__law_number, .func (PySem.W.fnOf "_law_number" "_law_number" (defArgs s__law_number) (defBody s__law_number) (defScope s__law_number) .none kV__law_number dc__law_number pm__law_number an__law_number cd__law_number ct__law_number), sl__law_number⟩)
    (c__law_number : PySem.W.codeIn K cd__law_number "_law_number" = true)
    (k__law_number : PySem.W.keepIn K (.ref f__law_number) = true)
    (a__law_heard : PySem.W.nsIn K mainGlobals "_law_heard" = some (some (.ref f__law_heard)))
    (l__law_heard : K.lookup f__law_heard = some ⟨oc__law_heard, od__law_heard, .func (PySem.W.fnOf "_law_heard" "_law_heard" (defArgs s__law_heard) (defBody s__law_heard) (defScope s__law_heard) .none kV__law_heard dc__law_heard pm__law_heard an__law_heard cd__law_heard ct__law_heard), sl__law_heard⟩)
    (c__law_heard : PySem.W.codeIn K cd__law_heard "_law_heard" = true)
    (k__law_heard : PySem.W.keepIn K (.ref f__law_heard) = true)
    (a__law_places : PySem.W.nsIn K mainGlobals "_law_places" = some (some (.ref f__law_places)))
    (l__law_places : K.lookup f__law_places = some ⟨oc__law_places, od__law_places, .func (PySem.W.fnOf "_law_places" "_law_places" (defArgs s__law_places) (defBody s__law_places) (defScope s__law_places) .none kV__law_places dc__law_places pm__law_places an__law_places cd__law_places ct__law_places), sl__law_places⟩)
    (c__law_places : PySem.W.codeIn K cd__law_places "_law_places" = true)
    (k__law_places : PySem.W.keepIn K (.ref f__law_places) = true)
    (a__law_pieces : PySem.W.nsIn K mainGlobals "_law_pieces" = some (some (.ref f__law_pieces)))
    (l__law_pieces : K.lookup f__law_pieces = some ⟨oc__law_pieces, od__law_pieces, .func (PySem.W.fnOf "_law_pieces" "_law_pieces" (defArgs s__law_pieces) (defBody s__law_pieces) (defScope s__law_pieces) .none kV__law_pieces dc__law_pieces pm__law_pieces an__law_pieces cd__law_pieces ct__law_pieces), sl__law_pieces⟩)
    (c__law_pieces : PySem.W.codeIn K cd__law_pieces "_law_pieces" = true)
    (k__law_pieces : PySem.W.keepIn K (.ref f__law_pieces) = true)
    (a__law_heard_piece : PySem.W.nsIn K mainGlobals "_law_heard_piece" = some (some (.ref f__law_heard_piece)))
    (l__law_heard_piece : K.lookup f__law_heard_piece = some ⟨oc__law_heard_piece, od__law_heard_piece, .func (PySem.W.fnOf "_law_heard_piece" "_law_heard_piece" (defArgs s__law_heard_piece) (defBody s__law_heard_piece) (defScope s__law_heard_piece) .none kV__law_heard_piece dc__law_heard_piece pm__law_heard_piece an__law_heard_piece cd__law_heard_piece ct__law_heard_piece), sl__law_heard_piece⟩)
    (c__law_heard_piece : PySem.W.codeIn K cd__law_heard_piece "_law_heard_piece" = true)
    (k__law_heard_piece : PySem.W.keepIn K (.ref f__law_heard_piece) = true)
    (a_law : PySem.W.nsIn K mainGlobals "law" = some (some (.ref f_law)))
    (l_law : K.lookup f_law = some ⟨oc_law, od_law, .func (PySem.W.fnOf "law" "law" (defArgs s_law) (defBody s_law) (defScope s_law) .none kV_law dc_law pm_law an_law cd_law ct_law), sl_law⟩)
    (c_law : PySem.W.codeIn K cd_law "law" = true)
    (k_law : PySem.W.keepIn K (.ref f_law) = true)
    (z_all : PySem.W.nsIn K mainGlobals "all" = some none)
    (z_any : PySem.W.nsIn K mainGlobals "any" = some none)
    (z_int : PySem.W.nsIn K mainGlobals "int" = some none)
    (z_isinstance : PySem.W.nsIn K mainGlobals "isinstance" = some none)
    (z_len : PySem.W.nsIn K mainGlobals "len" = some none)
    (z_list : PySem.W.nsIn K mainGlobals "list" = some none)
    (z_range : PySem.W.nsIn K mainGlobals "range" = some none)
    (z_str : PySem.W.nsIn K mainGlobals "str" = some none)
    (z_tuple : PySem.W.nsIn K mainGlobals "tuple" = some none)
    (z_zip : PySem.W.nsIn K mainGlobals "zip" = some none)
    (sub_kit_ty_NoneType_ty_int : PySem.W.subIn K (.type "NoneType") (.type "int") = some false)
    (sub_kit_ty_bool_ty_int : PySem.W.subIn K (.type "bool") (.type "int") = some true)
    (sub_kit_ty_str_ty_int : PySem.W.subIn K (.type "str") (.type "int") = some false)
    (sub_kit_ty_list_ty_int : PySem.W.subIn K (.type "list") (.type "int") = some false)
    (sub_kit_ty_tuple_ty_int : PySem.W.subIn K (.type "tuple") (.type "int") = some false)
    (sub_kit_ty_dict_ty_int : PySem.W.subIn K (.type "dict") (.type "int") = some false)
    (sub_kit_ty_NoneType_ty_str : PySem.W.subIn K (.type "NoneType") (.type "str") = some false)
    (sub_kit_ty_bool_ty_str : PySem.W.subIn K (.type "bool") (.type "str") = some false)
    (sub_kit_ty_int_ty_str : PySem.W.subIn K (.type "int") (.type "str") = some false)
    (sub_kit_ty_list_ty_str : PySem.W.subIn K (.type "list") (.type "str") = some false)
    (sub_kit_ty_tuple_ty_str : PySem.W.subIn K (.type "tuple") (.type "str") = some false)
    (sub_kit_ty_dict_ty_str : PySem.W.subIn K (.type "dict") (.type "str") = some false)
    (sub_kit_ty_NoneType_ty_tuple : PySem.W.subIn K (.type "NoneType") (.type "tuple") = some false)
    (sub_kit_ty_bool_ty_tuple : PySem.W.subIn K (.type "bool") (.type "tuple") = some false)
    (sub_kit_ty_int_ty_tuple : PySem.W.subIn K (.type "int") (.type "tuple") = some false)
    (sub_kit_ty_str_ty_tuple : PySem.W.subIn K (.type "str") (.type "tuple") = some false)
    (sub_kit_ty_list_ty_tuple : PySem.W.subIn K (.type "list") (.type "tuple") = some false)
    (sub_kit_ty_dict_ty_tuple : PySem.W.subIn K (.type "dict") (.type "tuple") = some false)
    : ∃ a : Ad, Txt K mg a ∧ a.f_law = fa ∧ ∀ (s : Shared) (v : Value), BindsTo s a.fd_law ⟨[v], []⟩ [("_law_script", v)] := by
  have e0 : f_law = fa := Value.ref.inj (Option.some.inj ((PySem.W.mg_of X G a_law).symm.trans hfa))
  subst e0
  refine ⟨⟨f_shown_bits, (PySem.W.fnOf "shown_bits" "shown_bits" (defArgs s_shown_bits) (defBody s_shown_bits) (defScope s_shown_bits) .none kV_shown_bits dc_shown_bits pm_shown_bits an_shown_bits cd_shown_bits ct_shown_bits), f_shown_word, (PySem.W.fnOf "shown_word" "shown_word" (defArgs s_shown_word) (defBody s_shown_word) (defScope s_shown_word) .none kV_shown_word dc_shown_word pm_shown_word an_shown_word cd_shown_word ct_shown_word), f_shown_scheme, (PySem.W.fnOf "shown_scheme" "shown_scheme" (defArgs s_shown_scheme) (defBody s_shown_scheme) (defScope s_shown_scheme) .none kV_shown_scheme dc_shown_scheme pm_shown_scheme an_shown_scheme cd_shown_scheme ct_shown_scheme), f_shown_sign, (PySem.W.fnOf "shown_sign" "shown_sign" (defArgs s_shown_sign) (defBody s_shown_sign) (defScope s_shown_sign) .none kV_shown_sign dc_shown_sign pm_shown_sign an_shown_sign cd_shown_sign ct_shown_sign), f_shown_heard, (PySem.W.fnOf "shown_heard" "shown_heard" (defArgs s_shown_heard) (defBody s_shown_heard) (defScope s_shown_heard) .none kV_shown_heard dc_shown_heard pm_shown_heard an_shown_heard cd_shown_heard ct_shown_heard), f_shown_places, (PySem.W.fnOf "shown_places" "shown_places" (defArgs s_shown_places) (defBody s_shown_places) (defScope s_shown_places) .none kV_shown_places dc_shown_places pm_shown_places an_shown_places cd_shown_places ct_shown_places), f_is_whole, (PySem.W.fnOf "is_whole" "is_whole" (defArgs s_is_whole) (defBody s_is_whole) (defScope s_is_whole) .none kV_is_whole dc_is_whole pm_is_whole an_is_whole cd_is_whole ct_is_whole), f_plain_parts, (PySem.W.fnOf "plain_parts" "plain_parts" (defArgs s_plain_parts) (defBody s_plain_parts) (defScope s_plain_parts) .none kV_plain_parts dc_plain_parts pm_plain_parts an_plain_parts cd_plain_parts ct_plain_parts), f_plain_number, (PySem.W.fnOf "plain_number" "plain_number" (defArgs s_plain_number) (defBody s_plain_number) (defScope s_plain_number) .none kV_plain_number dc_plain_number pm_plain_number an_plain_number cd_plain_number ct_plain_number), f_plain_text, (PySem.W.fnOf "plain_text" "plain_text" (defArgs s_plain_text) (defBody s_plain_text) (defScope s_plain_text) .none kV_plain_text dc_plain_text pm_plain_text an_plain_text cd_plain_text ct_plain_text), f_all_below, (PySem.W.fnOf "all_below" "all_below" (defArgs s_all_below) (defBody s_all_below) (defScope s_all_below) .none kV_all_below dc_all_below pm_all_below an_all_below cd_all_below ct_all_below), f_is_row, (PySem.W.fnOf "is_row" "is_row" (defArgs s_is_row) (defBody s_is_row) (defScope s_is_row) .none kV_is_row dc_is_row pm_is_row an_is_row cd_is_row ct_is_row), f_rooms_at, (PySem.W.fnOf "rooms_at" "rooms_at" (defArgs s_rooms_at) (defBody s_rooms_at) (defScope s_rooms_at) .none kV_rooms_at dc_rooms_at pm_rooms_at an_rooms_at cd_rooms_at ct_rooms_at), f_is_scheme, (PySem.W.fnOf "is_scheme" "is_scheme" (defArgs s_is_scheme) (defBody s_is_scheme) (defScope s_is_scheme) .none kV_is_scheme dc_is_scheme pm_is_scheme an_is_scheme cd_is_scheme ct_is_scheme), f_check_text, (PySem.W.fnOf "check_text" "check_text" (defArgs s_check_text) (defBody s_check_text) (defScope s_check_text) .none kV_check_text dc_check_text pm_check_text an_check_text cd_check_text ct_check_text), f_is_made_of, (PySem.W.fnOf "is_made_of" "is_made_of" (defArgs s_is_made_of) (defBody s_is_made_of) (defScope s_is_made_of) .none kV_is_made_of dc_is_made_of pm_is_made_of an_is_made_of cd_is_made_of ct_is_made_of), f_read_figures, (PySem.W.fnOf "read_figures" "read_figures" (defArgs s_read_figures) (defBody s_read_figures) (defScope s_read_figures) .none kV_read_figures dc_read_figures pm_read_figures an_read_figures cd_read_figures ct_read_figures), f_read_small, (PySem.W.fnOf "read_small" "read_small" (defArgs s_read_small) (defBody s_read_small) (defScope s_read_small) .none kV_read_small dc_read_small pm_read_small an_read_small cd_read_small ct_read_small), f_read_number, (PySem.W.fnOf "read_number" "read_number" (defArgs s_read_number) (defBody s_read_number) (defScope s_read_number) .none kV_read_number dc_read_number pm_read_number an_read_number cd_read_number ct_read_number), f_read_bits, (PySem.W.fnOf "read_bits" "read_bits" (defArgs s_read_bits) (defBody s_read_bits) (defScope s_read_bits) .none kV_read_bits dc_read_bits pm_read_bits an_read_bits cd_read_bits ct_read_bits), f_read_word, (PySem.W.fnOf "read_word" "read_word" (defArgs s_read_word) (defBody s_read_word) (defScope s_read_word) .none kV_read_word dc_read_word pm_read_word an_read_word cd_read_word ct_read_word), f_has_scheme_form, (PySem.W.fnOf "has_scheme_form" "has_scheme_form" (defArgs s_has_scheme_form) (defBody s_has_scheme_form) (defScope s_has_scheme_form) .none kV_has_scheme_form dc_has_scheme_form pm_has_scheme_form an_has_scheme_form cd_has_scheme_form ct_has_scheme_form), f_read_scheme, (PySem.W.fnOf "read_scheme" "read_scheme" (defArgs s_read_scheme) (defBody s_read_scheme) (defScope s_read_scheme) .none kV_read_scheme dc_read_scheme pm_read_scheme an_read_scheme cd_read_scheme ct_read_scheme), f_read_sign, (PySem.W.fnOf "read_sign" "read_sign" (defArgs s_read_sign) (defBody s_read_sign) (defScope s_read_sign) .none kV_read_sign dc_read_sign pm_read_sign an_read_sign cd_read_sign ct_read_sign), f_read_heard, (PySem.W.fnOf "read_heard" "read_heard" (defArgs s_read_heard) (defBody s_read_heard) (defScope s_read_heard) .none kV_read_heard dc_read_heard pm_read_heard an_read_heard cd_read_heard ct_read_heard), f_read_places, (PySem.W.fnOf "read_places" "read_places" (defArgs s_read_places) (defBody s_read_places) (defScope s_read_places) .none kV_read_places dc_read_places pm_read_places an_read_places cd_read_places ct_read_places), f__law_next, (PySem.W.fnOf "_law_next" "_law_next" (defArgs s__law_next) (defBody s__law_next) (defScope s__law_next) .none kV__law_next dc__law_next pm__law_next an__law_next cd__law_next ct__law_next), f__law_seed, (PySem.W.fnOf "_law_seed" "_law_seed" (defArgs s__law_seed) (defBody s__law_seed) (defScope s__law_seed) .none kV__law_seed dc__law_seed pm__law_seed an__law_seed cd__law_seed ct__law_seed), f__law_scheme, (PySem.W.fnOf "_law_scheme" "_law_scheme" (defArgs s__law_scheme) (defBody s__law_scheme) (defScope s__law_scheme) .none kV__law_scheme dc__law_scheme pm__law_scheme an__law_scheme cd__law_scheme ct__law_scheme), f__law_number, (PySem.W.fnOf "_law_number" "_law_number" (defArgs s__law_number) (defBody s__law_number) (defScope s__law_number) .none kV__law_number dc__law_number pm__law_number an__law_number cd__law_number ct__law_number), f__law_heard, (PySem.W.fnOf "_law_heard" "_law_heard" (defArgs s__law_heard) (defBody s__law_heard) (defScope s__law_heard) .none kV__law_heard dc__law_heard pm__law_heard an__law_heard cd__law_heard ct__law_heard), f__law_places, (PySem.W.fnOf "_law_places" "_law_places" (defArgs s__law_places) (defBody s__law_places) (defScope s__law_places) .none kV__law_places dc__law_places pm__law_places an__law_places cd__law_places ct__law_places), f__law_pieces, (PySem.W.fnOf "_law_pieces" "_law_pieces" (defArgs s__law_pieces) (defBody s__law_pieces) (defScope s__law_pieces) .none kV__law_pieces dc__law_pieces pm__law_pieces an__law_pieces cd__law_pieces ct__law_pieces), f__law_heard_piece, (PySem.W.fnOf "_law_heard_piece" "_law_heard_piece" (defArgs s__law_heard_piece) (defBody s__law_heard_piece) (defScope s__law_heard_piece) .none kV__law_heard_piece dc__law_heard_piece pm__law_heard_piece an__law_heard_piece cd__law_heard_piece ct__law_heard_piece), f_law, (PySem.W.fnOf "law" "law" (defArgs s_law) (defBody s_law) (defScope s_law) .none kV_law dc_law pm_law an_law cd_law ct_law), tk_MOST_REACH, tk_MOST_ROWS, tk_MOST_TAPS, tk_MOST_SMALL_FIGURES, tk_MOST_FIGURES, tk_FIGURES, t_ENDINGS⟩, ?_, rfl, fun s v => .of_eq rfl⟩
  exact {
    mg_MOST_REACH := PySem.W.mg_of X G v_MOST_REACH
    mg_MOST_ROWS := PySem.W.mg_of X G v_MOST_ROWS
    mg_MOST_TAPS := PySem.W.mg_of X G v_MOST_TAPS
    mg_MOST_SMALL_FIGURES := PySem.W.mg_of X G v_MOST_SMALL_FIGURES
    mg_MOST_FIGURES := PySem.W.mg_of X G v_MOST_FIGURES
    mg_FIGURES := PySem.W.mg_of X G v_FIGURES
    mg_ENDINGS := PySem.W.mg_of X G v_ENDINGS
    tq_ENDINGS := fun H => .inr ⟨_, _, _, w_ENDINGS, rfl, rfl, rfl, (by show 3 ≤ sizeLine; decide), (.cons ⟨_, rfl⟩ (.cons ⟨_, rfl⟩ (.cons ⟨_, rfl⟩ .nil)))⟩
    F_shown_bits := fun_mk (st := s_shown_bits) l_shown_bits c_shown_bits k_shown_bits
    B_shown_bits := (fun_mk (st := s_shown_bits) l_shown_bits c_shown_bits k_shown_bits).binds (ps := ["bits"]) fun _ _ _ _ _ _ us hl => match us, hl with | [_], _ => rfl
    mg_shown_bits := PySem.W.mg_of X G a_shown_bits
    kp_shown_bits := k_shown_bits
    F_shown_word := fun_mk (st := s_shown_word) l_shown_word c_shown_word k_shown_word
    B_shown_word := (fun_mk (st := s_shown_word) l_shown_word c_shown_word k_shown_word).binds (ps := ["word"]) fun _ _ _ _ _ _ us hl => match us, hl with | [_], _ => rfl
    mg_shown_word := PySem.W.mg_of X G a_shown_word
    kp_shown_word := k_shown_word
    F_shown_scheme := fun_mk (st := s_shown_scheme) l_shown_scheme c_shown_scheme k_shown_scheme
    B_shown_scheme := (fun_mk (st := s_shown_scheme) l_shown_scheme c_shown_scheme k_shown_scheme).binds (ps := ["scheme"]) fun _ _ _ _ _ _ us hl => match us, hl with | [_], _ => rfl
    mg_shown_scheme := PySem.W.mg_of X G a_shown_scheme
    kp_shown_scheme := k_shown_scheme
    F_shown_sign := fun_mk (st := s_shown_sign) l_shown_sign c_shown_sign k_shown_sign
    B_shown_sign := (fun_mk (st := s_shown_sign) l_shown_sign c_shown_sign k_shown_sign).binds (ps := ["told"]) fun _ _ _ _ _ _ us hl => match us, hl with | [_], _ => rfl
    mg_shown_sign := PySem.W.mg_of X G a_shown_sign
    kp_shown_sign := k_shown_sign
    F_shown_heard := fun_mk (st := s_shown_heard) l_shown_heard c_shown_heard k_shown_heard
    B_shown_heard := (fun_mk (st := s_shown_heard) l_shown_heard c_shown_heard k_shown_heard).binds (ps := ["heard"]) fun _ _ _ _ _ _ us hl => match us, hl with | [_], _ => rfl
    mg_shown_heard := PySem.W.mg_of X G a_shown_heard
    kp_shown_heard := k_shown_heard
    F_shown_places := fun_mk (st := s_shown_places) l_shown_places c_shown_places k_shown_places
    B_shown_places := (fun_mk (st := s_shown_places) l_shown_places c_shown_places k_shown_places).binds (ps := ["places"]) fun _ _ _ _ _ _ us hl => match us, hl with | [_], _ => rfl
    mg_shown_places := PySem.W.mg_of X G a_shown_places
    kp_shown_places := k_shown_places
    F_is_whole := fun_mk (st := s_is_whole) l_is_whole c_is_whole k_is_whole
    B_is_whole := (fun_mk (st := s_is_whole) l_is_whole c_is_whole k_is_whole).binds (ps := ["found"]) fun _ _ _ _ _ _ us hl => match us, hl with | [_], _ => rfl
    mg_is_whole := PySem.W.mg_of X G a_is_whole
    kp_is_whole := k_is_whole
    F_plain_parts := fun_mk (st := s_plain_parts) l_plain_parts c_plain_parts k_plain_parts
    B_plain_parts := (fun_mk (st := s_plain_parts) l_plain_parts c_plain_parts k_plain_parts).binds (ps := ["found"]) fun _ _ _ _ _ _ us hl => match us, hl with | [_], _ => rfl
    mg_plain_parts := PySem.W.mg_of X G a_plain_parts
    kp_plain_parts := k_plain_parts
    F_plain_number := fun_mk (st := s_plain_number) l_plain_number c_plain_number k_plain_number
    B_plain_number := (fun_mk (st := s_plain_number) l_plain_number c_plain_number k_plain_number).binds (ps := ["found", "end"]) fun _ _ _ _ _ _ us hl => match us, hl with | [_, _], _ => rfl
    mg_plain_number := PySem.W.mg_of X G a_plain_number
    kp_plain_number := k_plain_number
    F_plain_text := fun_mk (st := s_plain_text) l_plain_text c_plain_text k_plain_text
    B_plain_text := (fun_mk (st := s_plain_text) l_plain_text c_plain_text k_plain_text).binds (ps := ["found"]) fun _ _ _ _ _ _ us hl => match us, hl with | [_], _ => rfl
    mg_plain_text := PySem.W.mg_of X G a_plain_text
    kp_plain_text := k_plain_text
    F_all_below := fun_mk (st := s_all_below) l_all_below c_all_below k_all_below
    B_all_below := (fun_mk (st := s_all_below) l_all_below c_all_below k_all_below).binds (ps := ["parts", "end"]) fun _ _ _ _ _ _ us hl => match us, hl with | [_, _], _ => rfl
    mg_all_below := PySem.W.mg_of X G a_all_below
    kp_all_below := k_all_below
    F_is_row := fun_mk (st := s_is_row) l_is_row c_is_row k_is_row
    B_is_row := (fun_mk (st := s_is_row) l_is_row c_is_row k_is_row).binds (ps := ["found", "size"]) fun _ _ _ _ _ _ us hl => match us, hl with | [_, _], _ => rfl
    mg_is_row := PySem.W.mg_of X G a_is_row
    kp_is_row := k_is_row
    F_rooms_at := fun_mk (st := s_rooms_at) l_rooms_at c_rooms_at k_rooms_at
    B_rooms_at := (fun_mk (st := s_rooms_at) l_rooms_at c_rooms_at k_rooms_at).binds (ps := ["reach"]) fun _ _ _ _ _ _ us hl => match us, hl with | [_], _ => rfl
    mg_rooms_at := PySem.W.mg_of X G a_rooms_at
    kp_rooms_at := k_rooms_at
    F_is_scheme := fun_mk (st := s_is_scheme) l_is_scheme c_is_scheme k_is_scheme
    B_is_scheme := (fun_mk (st := s_is_scheme) l_is_scheme c_is_scheme k_is_scheme).binds (ps := ["found"]) fun _ _ _ _ _ _ us hl => match us, hl with | [_], _ => rfl
    mg_is_scheme := PySem.W.mg_of X G a_is_scheme
    kp_is_scheme := k_is_scheme
    F_check_text := fun_mk (st := s_check_text) l_check_text c_check_text k_check_text
    B_check_text := (fun_mk (st := s_check_text) l_check_text c_check_text k_check_text).binds (ps := ["found"]) fun _ _ _ _ _ _ us hl => match us, hl with | [_], _ => rfl
    mg_check_text := PySem.W.mg_of X G a_check_text
    kp_check_text := k_check_text
    F_is_made_of := fun_mk (st := s_is_made_of) l_is_made_of c_is_made_of k_is_made_of
    B_is_made_of := (fun_mk (st := s_is_made_of) l_is_made_of c_is_made_of k_is_made_of).binds (ps := ["text", "signs"]) fun _ _ _ _ _ _ us hl => match us, hl with | [_, _], _ => rfl
    mg_is_made_of := PySem.W.mg_of X G a_is_made_of
    kp_is_made_of := k_is_made_of
    F_read_figures := fun_mk (st := s_read_figures) l_read_figures c_read_figures k_read_figures
    B_read_figures := (fun_mk (st := s_read_figures) l_read_figures c_read_figures k_read_figures).binds (ps := ["text", "most"]) fun _ _ _ _ _ _ us hl => match us, hl with | [_, _], _ => rfl
    mg_read_figures := PySem.W.mg_of X G a_read_figures
    kp_read_figures := k_read_figures
    F_read_small := fun_mk (st := s_read_small) l_read_small c_read_small k_read_small
    B_read_small := (fun_mk (st := s_read_small) l_read_small c_read_small k_read_small).binds (ps := ["text"]) fun _ _ _ _ _ _ us hl => match us, hl with | [_], _ => rfl
    mg_read_small := PySem.W.mg_of X G a_read_small
    kp_read_small := k_read_small
    F_read_number := fun_mk (st := s_read_number) l_read_number c_read_number k_read_number
    B_read_number := (fun_mk (st := s_read_number) l_read_number c_read_number k_read_number).binds (ps := ["text"]) fun _ _ _ _ _ _ us hl => match us, hl with | [_], _ => rfl
    mg_read_number := PySem.W.mg_of X G a_read_number
    kp_read_number := k_read_number
    F_read_bits := fun_mk (st := s_read_bits) l_read_bits c_read_bits k_read_bits
    B_read_bits := (fun_mk (st := s_read_bits) l_read_bits c_read_bits k_read_bits).binds (ps := ["text"]) fun _ _ _ _ _ _ us hl => match us, hl with | [_], _ => rfl
    mg_read_bits := PySem.W.mg_of X G a_read_bits
    kp_read_bits := k_read_bits
    F_read_word := fun_mk (st := s_read_word) l_read_word c_read_word k_read_word
    B_read_word := (fun_mk (st := s_read_word) l_read_word c_read_word k_read_word).binds (ps := ["text"]) fun _ _ _ _ _ _ us hl => match us, hl with | [_], _ => rfl
    mg_read_word := PySem.W.mg_of X G a_read_word
    kp_read_word := k_read_word
    F_has_scheme_form := fun_mk (st := s_has_scheme_form) l_has_scheme_form c_has_scheme_form k_has_scheme_form
    B_has_scheme_form := (fun_mk (st := s_has_scheme_form) l_has_scheme_form c_has_scheme_form k_has_scheme_form).binds (ps := ["words"]) fun _ _ _ _ _ _ us hl => match us, hl with | [_], _ => rfl
    mg_has_scheme_form := PySem.W.mg_of X G a_has_scheme_form
    kp_has_scheme_form := k_has_scheme_form
    F_read_scheme := fun_mk (st := s_read_scheme) l_read_scheme c_read_scheme k_read_scheme
    B_read_scheme := (fun_mk (st := s_read_scheme) l_read_scheme c_read_scheme k_read_scheme).binds (ps := ["text"]) fun _ _ _ _ _ _ us hl => match us, hl with | [_], _ => rfl
    mg_read_scheme := PySem.W.mg_of X G a_read_scheme
    kp_read_scheme := k_read_scheme
    F_read_sign := fun_mk (st := s_read_sign) l_read_sign c_read_sign k_read_sign
    B_read_sign := (fun_mk (st := s_read_sign) l_read_sign c_read_sign k_read_sign).binds (ps := ["word"]) fun _ _ _ _ _ _ us hl => match us, hl with | [_], _ => rfl
    mg_read_sign := PySem.W.mg_of X G a_read_sign
    kp_read_sign := k_read_sign
    F_read_heard := fun_mk (st := s_read_heard) l_read_heard c_read_heard k_read_heard
    B_read_heard := (fun_mk (st := s_read_heard) l_read_heard c_read_heard k_read_heard).binds (ps := ["text"]) fun _ _ _ _ _ _ us hl => match us, hl with | [_], _ => rfl
    mg_read_heard := PySem.W.mg_of X G a_read_heard
    kp_read_heard := k_read_heard
    F_read_places := fun_mk (st := s_read_places) l_read_places c_read_places k_read_places
    B_read_places := (fun_mk (st := s_read_places) l_read_places c_read_places k_read_places).binds (ps := ["text"]) fun _ _ _ _ _ _ us hl => match us, hl with | [_], _ => rfl
    mg_read_places := PySem.W.mg_of X G a_read_places
    kp_read_places := k_read_places
    F__law_next := fun_mk (st := s__law_next) l__law_next c__law_next k__law_next
    B__law_next := (fun_mk (st := s__law_next) l__law_next c__law_next k__law_next).binds (ps := ["_law_state", "_law_many"]) fun _ _ _ _ _ _ us hl => match us, hl with | [_, _], _ => rfl
    mg__law_next := PySem.W.mg_of X G a__law_next
    kp__law_next := k__law_next
    F__law_seed := fun_mk (st := s__law_seed) l__law_seed c__law_seed k__law_seed
    B__law_seed := (fun_mk (st := s__law_seed) l__law_seed c__law_seed k__law_seed).binds (ps := ["_law_script"]) fun _ _ _ _ _ _ us hl => match us, hl with | [_], _ => rfl
    mg__law_seed := PySem.W.mg_of X G a__law_seed
    kp__law_seed := k__law_seed
    F__law_scheme := fun_mk (st := s__law_scheme) l__law_scheme c__law_scheme k__law_scheme
    B__law_scheme := (fun_mk (st := s__law_scheme) l__law_scheme c__law_scheme k__law_scheme).binds (ps := ["_law_state"]) fun _ _ _ _ _ _ us hl => match us, hl with | [_], _ => rfl
    mg__law_scheme := PySem.W.mg_of X G a__law_scheme
    kp__law_scheme := k__law_scheme
    F__law_number := fun_mk (st := s__law_number) l__law_number c__law_number k__law_number
    B__law_number := (fun_mk (st := s__law_number) l__law_number c__law_number k__law_number).binds (ps := ["_law_state"]) fun _ _ _ _ _ _ us hl => match us, hl with | [_], _ => rfl
    mg__law_number := PySem.W.mg_of X G a__law_number
    kp__law_number := k__law_number
    F__law_heard := fun_mk (st := s__law_heard) l__law_heard c__law_heard k__law_heard
    B__law_heard := (fun_mk (st := s__law_heard) l__law_heard c__law_heard k__law_heard).binds (ps := ["_law_script", "_law_state"]) fun _ _ _ _ _ _ us hl => match us, hl with | [_, _], _ => rfl
    mg__law_heard := PySem.W.mg_of X G a__law_heard
    kp__law_heard := k__law_heard
    F__law_places := fun_mk (st := s__law_places) l__law_places c__law_places k__law_places
    B__law_places := (fun_mk (st := s__law_places) l__law_places c__law_places k__law_places).binds (ps := ["_law_script", "_law_state"]) fun _ _ _ _ _ _ us hl => match us, hl with | [_, _], _ => rfl
    mg__law_places := PySem.W.mg_of X G a__law_places
    kp__law_places := k__law_places
    F__law_pieces := fun_mk (st := s__law_pieces) l__law_pieces c__law_pieces k__law_pieces
    B__law_pieces := (fun_mk (st := s__law_pieces) l__law_pieces c__law_pieces k__law_pieces).binds (ps := ["_law_text", "_law_sign", "_law_due"]) fun _ _ _ _ _ _ us hl => match us, hl with | [_, _, _], _ => rfl
    mg__law_pieces := PySem.W.mg_of X G a__law_pieces
    kp__law_pieces := k__law_pieces
    F__law_heard_piece := fun_mk (st := s__law_heard_piece) l__law_heard_piece c__law_heard_piece k__law_heard_piece
    B__law_heard_piece := (fun_mk (st := s__law_heard_piece) l__law_heard_piece c__law_heard_piece k__law_heard_piece).binds (ps := ["_law_told"]) fun _ _ _ _ _ _ us hl => match us, hl with | [_], _ => rfl
    mg__law_heard_piece := PySem.W.mg_of X G a__law_heard_piece
    kp__law_heard_piece := k__law_heard_piece
    F_law := fun_mk (st := s_law) l_law c_law k_law
    B_law := (fun_mk (st := s_law) l_law c_law k_law).binds (ps := ["_law_script"]) fun _ _ _ _ _ _ us hl => match us, hl with | [_], _ => rfl
    mg_law := PySem.W.mg_of X G a_law
    kp_law := k_law
    z_all := PySem.W.mg_none_of X G z_all
    z_any := PySem.W.mg_none_of X G z_any
    z_int := PySem.W.mg_none_of X G z_int
    z_isinstance := PySem.W.mg_none_of X G z_isinstance
    z_len := PySem.W.mg_none_of X G z_len
    z_list := PySem.W.mg_none_of X G z_list
    z_range := PySem.W.mg_none_of X G z_range
    z_str := PySem.W.mg_none_of X G z_str
    z_tuple := PySem.W.mg_none_of X G z_tuple
    z_zip := PySem.W.mg_none_of X G z_zip
    kit_ty_NoneType_ty_int := kit_ty (by decide +kernel) sub_kit_ty_NoneType_ty_int (by decide +kernel)
    kit_ty_bool_ty_int := kit_ty (by decide +kernel) sub_kit_ty_bool_ty_int (by decide +kernel)
    kit_ty_int_ty_int := kit_self
    kit_ty_str_ty_int := kit_ty (by decide +kernel) sub_kit_ty_str_ty_int (by decide +kernel)
    kit_ty_list_ty_int := kit_ty (by decide +kernel) sub_kit_ty_list_ty_int (by decide +kernel)
    kit_ty_tuple_ty_int := kit_ty (by decide +kernel) sub_kit_ty_tuple_ty_int (by decide +kernel)
    kit_ty_dict_ty_int := kit_ty (by decide +kernel) sub_kit_ty_dict_ty_int (by decide +kernel)
    kit_ty_NoneType_ty_str := kit_ty (by decide +kernel) sub_kit_ty_NoneType_ty_str (by decide +kernel)
    kit_ty_bool_ty_str := kit_ty (by decide +kernel) sub_kit_ty_bool_ty_str (by decide +kernel)
    kit_ty_int_ty_str := kit_ty (by decide +kernel) sub_kit_ty_int_ty_str (by decide +kernel)
    kit_ty_str_ty_str := kit_self
    kit_ty_list_ty_str := kit_ty (by decide +kernel) sub_kit_ty_list_ty_str (by decide +kernel)
    kit_ty_tuple_ty_str := kit_ty (by decide +kernel) sub_kit_ty_tuple_ty_str (by decide +kernel)
    kit_ty_dict_ty_str := kit_ty (by decide +kernel) sub_kit_ty_dict_ty_str (by decide +kernel)
    kit_ty_NoneType_ty_tuple := kit_ty (by decide +kernel) sub_kit_ty_NoneType_ty_tuple (by decide +kernel)
    kit_ty_bool_ty_tuple := kit_ty (by decide +kernel) sub_kit_ty_bool_ty_tuple (by decide +kernel)
    kit_ty_int_ty_tuple := kit_ty (by decide +kernel) sub_kit_ty_int_ty_tuple (by decide +kernel)
    kit_ty_str_ty_tuple := kit_ty (by decide +kernel) sub_kit_ty_str_ty_tuple (by decide +kernel)
    kit_ty_list_ty_tuple := kit_ty (by decide +kernel) sub_kit_ty_list_ty_tuple (by decide +kernel)
    kit_ty_tuple_ty_tuple := kit_self
    kit_ty_dict_ty_tuple := kit_ty (by decide +kernel) sub_kit_ty_dict_ty_tuple (by decide +kernel)
  }
theorem walk {l : PySem.W.OpenLaw} {q : Program} {loose : List Str} {XP : (Str → Option Value) → Heap → Prop} {YP : World → Heap → Prop} {d : DefRec} {K : Params → PySem.W.Frag} (hn : l.most = some 63) (hdf : d.params.defaults = []) (hd : d.name = "law")
    (hY : ∀ (w : World) (h : Heap), YP w h → (K w.params).In h)
    (F : ∀ (w : World) (mg : Str → Option Value) (fa : Addr) (h : Heap), (K w.params).In h → h.Ns mainGlobals mg → mg "law" = some (.ref fa) → ∃ a : Ad, Txt (K w.params) mg a ∧ a.f_law = fa ∧ ∀ (s : Shared) (v : Value), BindsTo s a.fd_law ⟨[v], []⟩ [("_law_script", v)]) :
    PySem.W.WalkO q loose XP YP l.row.toRowW d [] (fun f vs => PySem.call f vs) :=
  L2.walk_of (n := 63) (k := 7) (x := "_law_script") (CX := fun _ => CX0) (sp := fun w => spLaw (K w.params) 63) hn (by decide) hdf ⟨rfl, by decide, by decide⟩ hY
    (fun w mg fa h KX G hm => by
      rw [hd] at hm
      obtain ⟨a, T, e, b⟩ := F w mg fa h KX G hm
      subst e
      exact ⟨a.fd_law, b, fun base _ _ => law_ok T⟩)
    (fun _ _ a ns hl _ hS => ⟨a, ns, rfl, hS, hl, fun _ => rfl⟩) fun _ _ _ _ _ z => z
end K55
open PySem PySem.W PyProof.Rows
set_option maxRecDepth 100000 in
set_option maxHeartbeats 0 in
theorem PySem.Challenge.cw_trellisway_k55_shown_and_read_holds : PySem.Challenge.rw_trellisway_k55_shown_and_read.Holds := by
  w_on; o_law; k_head; (case hw => w_witness2)
  k_fill
  refine K55.walk (l := PySem.Challenge.rw_trellisway_k55_shown_and_read) rfl rfl rfl (fun w h Y => PySem.W.kIn_of Y) ?F
  case F =>
    intro w mg fa h KX G hmg
    refine' K55.txt_mk KX G hmg ?v_MOST_REACH ?v_MOST_ROWS ?v_MOST_TAPS ?v_MOST_SMALL_FIGURES ?v_MOST_FIGURES ?v_FIGURES ?v_ENDINGS ?w_ENDINGS ?a_shown_bits ?l_shown_bits ?c_shown_bits ?k_shown_bits ?a_shown_word ?l_shown_word ?c_shown_word ?k_shown_word ?a_shown_scheme ?l_shown_scheme ?c_shown_scheme ?k_shown_scheme ?a_shown_sign ?l_shown_sign ?c_shown_sign ?k_shown_sign ?a_shown_heard ?l_shown_heard ?c_shown_heard ?k_shown_heard ?a_shown_places ?l_shown_places ?c_shown_places ?k_shown_places ?a_is_whole ?l_is_whole ?c_is_whole ?k_is_whole ?a_plain_parts ?l_plain_parts ?c_plain_parts ?k_plain_parts ?a_plain_number ?l_plain_number ?c_plain_number ?k_plain_number ?a_plain_text ?l_plain_text ?c_plain_text ?k_plain_text ?a_all_below ?l_all_below ?c_all_below ?k_all_below ?a_is_row ?l_is_row ?c_is_row ?k_is_row ?a_rooms_at ?l_rooms_at ?c_rooms_at ?k_rooms_at ?a_is_scheme ?l_is_scheme ?c_is_scheme ?k_is_scheme ?a_check_text ?l_check_text ?c_check_text ?k_check_text ?a_is_made_of ?l_is_made_of ?c_is_made_of ?k_is_made_of ?a_read_figures ?l_read_figures ?c_read_figures ?k_read_figures ?a_read_small ?l_read_small ?c_read_small ?k_read_small ?a_read_number ?l_read_number ?c_read_number ?k_read_number ?a_read_bits ?l_read_bits ?c_read_bits ?k_read_bits ?a_read_word ?l_read_word ?c_read_word ?k_read_word ?a_has_scheme_form ?l_has_scheme_form ?c_has_scheme_form ?k_has_scheme_form ?a_read_scheme ?l_read_scheme ?c_read_scheme ?k_read_scheme ?a_read_sign ?l_read_sign ?c_read_sign ?k_read_sign ?a_read_heard ?l_read_heard ?c_read_heard ?k_read_heard ?a_read_places ?l_read_places ?c_read_places ?k_read_places ?a__law_next ?l__law_next ?c__law_next ?k__law_next ?a__law_seed ?l__law_seed ?c__law_seed ?k__law_seed ?a__law_scheme ?l__law_scheme ?c__law_scheme ?k__law_scheme ?a__law_number ?l__law_number ?c__law_number ?k__law_number ?a__law_heard ?l__law_heard ?c__law_heard ?k__law_heard ?a__law_places ?l__law_places ?c__law_places ?k__law_places ?a__law_pieces ?l__law_pieces ?c__law_pieces ?k__law_pieces ?a__law_heard_piece ?l__law_heard_piece ?c__law_heard_piece ?k__law_heard_piece ?a_law ?l_law ?c_law ?k_law ?z_all ?z_any ?z_int ?z_isinstance ?z_len ?z_list ?z_range ?z_str ?z_tuple ?z_zip ?sub_kit_ty_NoneType_ty_int ?sub_kit_ty_bool_ty_int ?sub_kit_ty_str_ty_int ?sub_kit_ty_list_ty_int ?sub_kit_ty_tuple_ty_int ?sub_kit_ty_dict_ty_int ?sub_kit_ty_NoneType_ty_str ?sub_kit_ty_bool_ty_str ?sub_kit_ty_int_ty_str ?sub_kit_ty_list_ty_str ?sub_kit_ty_tuple_ty_str ?sub_kit_ty_dict_ty_str ?sub_kit_ty_NoneType_ty_tuple ?sub_kit_ty_bool_ty_tuple ?sub_kit_ty_int_ty_tuple ?sub_kit_ty_str_ty_tuple ?sub_kit_ty_list_ty_tuple ?sub_kit_ty_dict_ty_tuple
    (case v_MOST_REACH => k_is); (case v_MOST_ROWS => k_is); (case v_MOST_TAPS => k_is); (case v_MOST_SMALL_FIGURES => k_is)
    (case v_MOST_FIGURES => k_is); (case v_FIGURES => k_is); (case v_ENDINGS => k_is); (case w_ENDINGS => k_is)
    (case a_shown_bits => k_is); (case l_shown_bits => k_is); (case c_shown_bits => k_is); (case k_shown_bits => k_is)
    (case a_shown_word => k_is); (case l_shown_word => k_is); (case c_shown_word => k_is); (case k_shown_word => k_is)
    (case a_shown_scheme => k_is); (case l_shown_scheme => k_is); (case c_shown_scheme => k_is); (case k_shown_scheme => k_is)
    (case a_shown_sign => k_is); (case l_shown_sign => k_is); (case c_shown_sign => k_is); (case k_shown_sign => k_is)
    (case a_shown_heard => k_is); (case l_shown_heard => k_is); (case c_shown_heard => k_is); (case k_shown_heard => k_is)
    (case a_shown_places => k_is); (case l_shown_places => k_is); (case c_shown_places => k_is); (case k_shown_places => k_is)
    (case a_is_whole => k_is); (case l_is_whole => k_is); (case c_is_whole => k_is); (case k_is_whole => k_is)
    (case a_plain_parts => k_is); (case l_plain_parts => k_is); (case c_plain_parts => k_is); (case k_plain_parts => k_is)
    (case a_plain_number => k_is); (case l_plain_number => k_is); (case c_plain_number => k_is); (case k_plain_number => k_is)
    (case a_plain_text => k_is); (case l_plain_text => k_is); (case c_plain_text => k_is); (case k_plain_text => k_is)
    (case a_all_below => k_is); (case l_all_below => k_is); (case c_all_below => k_is); (case k_all_below => k_is)
    (case a_is_row => k_is); (case l_is_row => k_is); (case c_is_row => k_is); (case k_is_row => k_is)
    (case a_rooms_at => k_is); (case l_rooms_at => k_is); (case c_rooms_at => k_is); (case k_rooms_at => k_is)
    (case a_is_scheme => k_is); (case l_is_scheme => k_is); (case c_is_scheme => k_is); (case k_is_scheme => k_is)
    (case a_check_text => k_is); (case l_check_text => k_is); (case c_check_text => k_is); (case k_check_text => k_is)
    (case a_is_made_of => k_is); (case l_is_made_of => k_is); (case c_is_made_of => k_is); (case k_is_made_of => k_is)
    (case a_read_figures => k_is); (case l_read_figures => k_is); (case c_read_figures => k_is); (case k_read_figures => k_is)
    (case a_read_small => k_is); (case l_read_small => k_is); (case c_read_small => k_is); (case k_read_small => k_is)
    (case a_read_number => k_is); (case l_read_number => k_is); (case c_read_number => k_is); (case k_read_number => k_is)
    (case a_read_bits => k_is); (case l_read_bits => k_is); (case c_read_bits => k_is); (case k_read_bits => k_is)
    (case a_read_word => k_is); (case l_read_word => k_is); (case c_read_word => k_is); (case k_read_word => k_is)
    (case a_has_scheme_form => k_is); (case l_has_scheme_form => k_is); (case c_has_scheme_form => k_is); (case k_has_scheme_form => k_is)
    (case a_read_scheme => k_is); (case l_read_scheme => k_is); (case c_read_scheme => k_is); (case k_read_scheme => k_is)
    (case a_read_sign => k_is); (case l_read_sign => k_is); (case c_read_sign => k_is); (case k_read_sign => k_is)
    (case a_read_heard => k_is); (case l_read_heard => k_is); (case c_read_heard => k_is); (case k_read_heard => k_is)
    (case a_read_places => k_is); (case l_read_places => k_is); (case c_read_places => k_is); (case k_read_places => k_is)
    (case a__law_next => k_is); (case l__law_next => k_is); (case c__law_next => k_is); (case k__law_next => k_is)
    (case a__law_seed => k_is); (case l__law_seed => k_is); (case c__law_seed => k_is); (case k__law_seed => k_is)
    (case a__law_scheme => k_is); (case l__law_scheme => k_is); (case c__law_scheme => k_is); (case k__law_scheme => k_is)
    (case a__law_number => k_is); (case l__law_number => k_is); (case c__law_number => k_is); (case k__law_number => k_is)
    (case a__law_heard => k_is); (case l__law_heard => k_is); (case c__law_heard => k_is); (case k__law_heard => k_is)
    (case a__law_places => k_is); (case l__law_places => k_is); (case c__law_places => k_is); (case k__law_places => k_is)
    (case a__law_pieces => k_is); (case l__law_pieces => k_is); (case c__law_pieces => k_is); (case k__law_pieces => k_is)
    (case a__law_heard_piece => k_is); (case l__law_heard_piece => k_is); (case c__law_heard_piece => k_is); (case k__law_heard_piece => k_is)
    (case a_law => k_is); (case l_law => k_is); (case c_law => k_is); (case k_law => k_is)
    (case z_all => k_is); (case z_any => k_is); (case z_int => k_is); (case z_isinstance => k_is)
    (case z_len => k_is); (case z_list => k_is); (case z_range => k_is); (case z_str => k_is)
    (case z_tuple => k_is); (case z_zip => k_is); (case sub_kit_ty_NoneType_ty_int => k_is); (case sub_kit_ty_bool_ty_int => k_is)
    (case sub_kit_ty_str_ty_int => k_is); (case sub_kit_ty_list_ty_int => k_is); (case sub_kit_ty_tuple_ty_int => k_is); (case sub_kit_ty_dict_ty_int => k_is)
    (case sub_kit_ty_NoneType_ty_str => k_is); (case sub_kit_ty_bool_ty_str => k_is); (case sub_kit_ty_int_ty_str => k_is); (case sub_kit_ty_list_ty_str => k_is)
    (case sub_kit_ty_tuple_ty_str => k_is); (case sub_kit_ty_dict_ty_str => k_is); (case sub_kit_ty_NoneType_ty_tuple => k_is); (case sub_kit_ty_bool_ty_tuple => k_is)
    (case sub_kit_ty_int_ty_tuple => k_is); (case sub_kit_ty_str_ty_tuple => k_is); (case sub_kit_ty_list_ty_tuple => k_is); (case sub_kit_ty_dict_ty_tuple => k_is)
