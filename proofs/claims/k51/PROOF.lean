import PyProof.Rows.All
import Wide.All
import OpenK.AllK
import Wide.FinOn
import Lean
import KE.KIntText
import PyProof.EqAt
import PyProof.EqKinds
import PyProof.TupleCall
import PySem.Challenge.RW_trellisway_k51_words_and_numbers
set_option Elab.async false
set_option linter.all false
set_option maxRecDepth 100000
namespace L2
open PySem PySem.Spec PyProof.Rows
noncomputable abbrev Key := Sum Int Str
noncomputable def keyIs : Key → Value → Bool
  | .inl k, v => Value.isInt k v
  | .inr x, v => Value.isStrOf x v
noncomputable def keyH (w : World) : Key → Int
  | .inl k => hashInt k
  | .inr x => hashStr w x
theorem keyIs_shape : ∀ {k : Key} {v : Value}, keyIs k v = true → (∃ i t, k = Sum.inl i ∧ v = Value.int i t) ∨ (∃ x t, k = Sum.inr x ∧ v = Value.str x t)
  | .inl i, v, h => by
    obtain ⟨t, e⟩ := Value.isInt_shape (k := i) (v := v) h
    exact .inl ⟨i, t, rfl, e⟩
  | .inr x, v, h => by
    obtain ⟨t, e⟩ := Value.isStrOf_shape (x := x) (v := v) h
    exact .inr ⟨x, t, rfl, e⟩
theorem key_ll (a b : Int) : decide ((Sum.inl a : Key) = Sum.inl b) = (a == b) := by
  by_cases e : a = b
  · subst e; simp
  · have h : ¬ (Sum.inl a : Key) = Sum.inl b := fun q => e (Sum.inl.inj q)
    rw [decide_eq_false h]
    exact (beq_eq_false_iff_ne.mpr e).symm
theorem key_rr (a b : Str) : decide ((Sum.inr a : Key) = Sum.inr b) = decide (a = b) := by
  by_cases e : a = b
  · subst e; simp
  · have h : ¬ (Sum.inr a : Key) = Sum.inr b := fun q => e (Sum.inr.inj q)
    rw [decide_eq_false h, decide_eq_false e]
theorem key_lr (a : Int) (b : Str) : decide ((Sum.inl a : Key) = Sum.inr b) = false := decide_eq_false (fun q => nomatch q)
theorem key_rl (a : Str) (b : Int) : decide ((Sum.inr a : Key) = Sum.inl b) = false := decide_eq_false (fun q => nomatch q)
noncomputable def mixKind (prog : Program) (w : World) : PySem.KeyKind prog w Key where
  is := keyIs
  hash := keyH w
  inj := fun v a b ha hb => by
    rcases keyIs_shape ha with ⟨i, t, rfl, rfl⟩ | ⟨x, t, rfl, rfl⟩
    · rcases keyIs_shape hb with ⟨j, u, rfl, e⟩ | ⟨y, u, rfl, e⟩
      · injection e with e1 _; rw [e1]
      · exact nomatch e
    · rcases keyIs_shape hb with ⟨j, u, rfl, e⟩ | ⟨y, u, rfl, e⟩
      · exact nomatch e
      · injection e with e1 _; rw [e1]
  byValue := fun k v h => by
    rcases keyIs_shape h with ⟨i, t, rfl, rfl⟩ | ⟨x, t, rfl, rfl⟩ <;> rfl
  pyHash := fun hv h => by
    rcases keyIs_shape hv with ⟨i, t, rfl, rfl⟩ | ⟨x, t, rfl, rfl⟩
    · exact wpAny_pyHash_int h
    · exact wpAny_pyHash_str h
  eqBool := fun hu hv h => by
    rcases keyIs_shape hu with ⟨i, t, rfl, rfl⟩ | ⟨x, t, rfl, rfl⟩
    · rcases keyIs_shape hv with ⟨j, u, rfl, rfl⟩ | ⟨y, u, rfl, rfl⟩
      · rw [key_ll] at h; exact wpAny_eqBool_int h
      · rw [key_lr] at h; exact SeqAt.EqAt.int_str i t y u _ _ _ _ h
    · rcases keyIs_shape hv with ⟨j, u, rfl, rfl⟩ | ⟨y, u, rfl, rfl⟩
      · rw [key_rl] at h; exact SeqAt.EqAt.str_int x t j u _ _ _ _ h
      · rw [key_rr] at h; exact wpAny_eqBool_str h
  «strs» := fun k x t v h => by
    rcases keyIs_shape h with ⟨i, u, rfl, e⟩ | ⟨y, u, rfl, e⟩
    · exact nomatch e
    · injection e with e1 _
      subst e1
      cases v <;> rfl
end L2
namespace L2
open PySem PySem.Spec PyProof.Rows
inductive V where
  | non | bl (b : Bool) | int (i : Int) | str (x : Str) | byt (b : Array UInt8) | flt (b : UInt64) | ref (a : Addr) | ty (n : String)
  deriving DecidableEq
noncomputable def RelV : V → Value → Prop
  | .non, u => u = Value.none
  | .bl b, u => u = Value.bool b
  | .int i, u => ∃ t, u = Value.int i t
  | .str x, u => ∃ t, u = Value.str x t
  | .byt b, u => ∃ t, u = Value.bytes b t
  | .flt b, u => ∃ t, u = Value.float b t
  | .ref a, u => u = Value.ref a
  | .ty n, u => u = Value.type n
noncomputable abbrev Vals : List V → List Value → Prop := Paired RelV
theorem Vals.length {xs : List V} {us : List Value} (r : Vals xs us) : xs.length = us.length := Paired.length r
theorem Vals.get : ∀ {xs : List V} {us : List Value} {i : Nat} {x : V}, Vals xs us → xs[i]? = some x → ∃ u, us[i]? = some u ∧ RelV x u
  | _, _, _, _, .nil, e => by simp at e
  | _, _, 0, _, .cons r _, e => by simp at e; subst e; exact ⟨_, rfl, r⟩
  | _, _, i + 1, x, .cons _ t, e => by
    obtain ⟨u, h1, h2⟩ := Vals.get (i := i) (x := x) t (by simpa using e)
    exact ⟨u, by simpa using h1, h2⟩
theorem Vals.set {x : V} {u : Value} (r : RelV x u) : ∀ {xs : List V} {us : List Value} (i : Nat), Vals xs us → Vals (xs.set i x) (us.set i u)
  | _, _, _, .nil => .nil
  | _, _, 0, .cons _ t => .cons r t
  | _, _, i + 1, .cons q t => .cons q (Vals.set r i t)
theorem Vals.append : ∀ {xs ys : List V} {us ws : List Value}, Vals xs us → Vals ys ws → Vals (xs ++ ys) (us ++ ws)
  | _, _, _, _, .nil, s => s
  | _, _, _, _, .cons r t, s => .cons r (Vals.append t s)
theorem Vals.take : ∀ {xs : List V} {us : List Value} (n : Nat), Vals xs us → Vals (xs.take n) (us.take n)
  | _, _, 0, _ => .nil
  | _, _, _ + 1, .nil => .nil
  | _, _, n + 1, .cons r t => .cons r (Vals.take n t)
theorem Vals.drop : ∀ {xs : List V} {us : List Value} (n : Nat), Vals xs us → Vals (xs.drop n) (us.drop n)
  | _, _, 0, r => r
  | _, _, _ + 1, .nil => .nil
  | _, _, n + 1, .cons _ t => Vals.drop n t
noncomputable def RelO : Option V → Option Value → Prop
  | some v, some u => RelV v u
  | none, none => True
  | _, _ => False
noncomputable def KV {κ : Type} : List (κ × V) → List (κ × Value) → Prop := Paired fun (p : κ × V) (q : κ × Value) => p.1 = q.1 ∧ RelV p.2 q.2
noncomputable def kV : Key → V
  | .inl i => .int i
  | .inr x => .str x
inductive HO where
  | lst (xs : List V)
  | tup (xs : List V)
  | dK (kvs : List (Key × V)) | dT (kvs : List (List Key × V))
  | set (S : Int → Bool) (n : Nat)
  | ins (C dx : Addr) (fs : List (Str × V))
  | own (x : Addr)
  | xd (fs : List (Str × V))
  | met (f x : Addr)
  | rng (lo hi : Int)
  | frz (o : Obj) (u : HO)
  | tbl (ps : Array Value)
  | ext (φ : Heap → Prop)
noncomputable abbrev Hp := Addr → Option HO
noncomputable def upd (H : Hp) (a : Addr) (o : HO) : Hp := fun b => if b = a then some o else H b
theorem upd_same {H : Hp} {a : Addr} {o : HO} : upd H a o a = some o := by unfold upd; rw [if_pos rfl]
theorem upd_ne {H : Hp} {a b : Addr} {o : HO} (h : b ≠ a) : upd H a o b = H b := by unfold upd; rw [if_neg h]
theorem ne_of_none {H : Hp} {a b : Addr} {o : HO} (h : H a = some o) (h' : H b = none) : a ≠ b := by
  intro e; subst e; rw [h] at h'; cases h'
noncomputable def TupN (h : Heap) (a : Addr) (items : Array Value) : Prop := ∃ o, h.get? a = some o ∧ (o.cls = .type "tuple" ∧ ∃ n, o.data = .seq items n) ∧ o.dict = none
theorem TupN.tup {h : Heap} {a : Addr} {items : Array Value} (x : TupN h a items) : IsTup h a items := let ⟨o, e, c, _⟩ := x; ⟨o, e, c⟩
theorem TupN.lt {h : Heap} {a : Addr} {items : Array Value} (x : TupN h a items) : a < h.objs.size := let ⟨_, e, _⟩ := x; Heap.lt_size e
theorem TupN.new (h : Heap) (items : Array Value) : TupN (h.push { cls := .type "tuple", data := .seq items }) h.objs.size items := ⟨_, Heap.get?_push_size _ rfl, ⟨rfl, _, rfl⟩, rfl⟩
section
variable (P : Program) (w : World)
noncomputable def ObjOk (H : Hp) (h : Heap) (a : Addr) : HO → Prop
  | .lst xs => xs.length ≤ sizeLine ∧ ∃ (its : List Value) (n : Nat), Vals xs its ∧ h.get? a = some { cls := .type "list", data := .seq its.toArray n }
  | .tup xs => xs.length ≤ sizeLine ∧ ∃ its : List Value, Vals xs its ∧ TupN h a its.toArray
  | .dK kvs => kvs.length ≤ sizeLine ∧ (a == sysModules) = false ∧ ∃ vs, KV kvs vs ∧ h.DictOf (mixKind P w) a vs
  | .dT kvs => kvs.length ≤ sizeLine ∧ (a == sysModules) = false ∧ ∃ xs : List (List Key × Addr × Value),
      Paired (fun (p : List Key × V) (q : List Key × Addr × Value) => p.1 = q.1 ∧ H q.2.1 = some (.tup (p.1.map kV)) ∧ RelV p.2 q.2.2) kvs xs ∧
      ∃ o es ep, h.get? a = some o ∧ o.ExactDict ∧ o.data = .dict es ep ∧ es.toList = xs.map (entryOfKey (tupleKind (mixKind P w))) ∧ (xs.map (·.1)).Nodup ∧ ep = kvs.length
  | .set S n => h.SetOf (intKind P w) a S n
  | .ins C dx fs => H dx = some (.own a) ∧ fs.length ≤ 1000 ∧ dx ≠ a ∧ h.get? a = some (PySem.W.instObj C dx) ∧
      ∃ mA, h.Ns1 dx mA ∧ (∀ f, RelO (fs.lookup f) (mA f)) ∧ PySem.Within mA (fs.map (·.1))
  | .own _ => ∃ o, h.get? a = some o
  | .xd fs => ∃ mA, h.Ns1 a mA ∧ ∀ f, RelO (fs.lookup f) (mA f)
  | .rng lo hi => ∃ t u v, h.get? a = some { cls := .type "range", data := .fields #[.int lo t, .int hi u, .int 1 v] }
  | .frz o u => h.get? a = some o ∧ ObjOk H h a u
  | .tbl ps => h.get? a = some { cls := .none, data := .fields ps }
  | .met f x => h.get? a = some (PySem.W.methodObj (.ref f) (.ref x))
  | .ext φ => φ h ∧ (∃ o, h.get? a = some o) ∧ ∀ h1 h2 : Heap, φ h1 → (∀ o, h1.get? a = some o → h2.get? a = some o) → φ h2
noncomputable def HOk (H : Hp) (h : Heap) : Prop := ∀ a o, H a = some o → ObjOk P w H h a o
end
section
variable {P : Program} {w : World} {H H' : Hp} {h h' : Heap} {a : Addr} {o : HO}
theorem ObjOk.lt (x : ObjOk P w H h a o) : a < h.objs.size := by
  cases o with
  | lst xs => obtain ⟨_, _, _, _, e⟩ := x; exact Heap.lt_size e
  | tup xs => obtain ⟨_, _, _, p⟩ := x; exact p.lt
  | dK kvs => obtain ⟨_, _, _, _, o, _, _, e, _⟩ := x; exact Heap.lt_size e
  | dT kvs => obtain ⟨_, _, _, _, o, _, _, e, _⟩ := x; exact Heap.lt_size e
  | set S n => obtain ⟨o, _, _, _, e, _⟩ := x; exact Heap.lt_size e
  | ins C dx fs => obtain ⟨_, _, _, e, _⟩ := x; exact Heap.lt_size e
  | own y => obtain ⟨_, e⟩ := x; exact Heap.lt_size e
  | xd fs => obtain ⟨_, ⟨_, _, _, e, _⟩, _⟩ := x; exact Heap.lt_size e
  | rng lo hi => obtain ⟨_, _, _, e⟩ := x; exact Heap.lt_size e
  | frz ob u => obtain ⟨e, _⟩ := x; exact Heap.lt_size e
  | tbl ps => exact Heap.lt_size (show h.get? a = some _ from x)
  | met f y => exact Heap.lt_size (show h.get? a = some _ from x)
  | ext φ => obtain ⟨_, ⟨_, e⟩, _⟩ := x; exact Heap.lt_size e
theorem Paired.mapP {α β : Type} {F G : α → β → Prop} : ∀ {l₁ : List α} {l₂ : List β}, Paired F l₁ l₂ → (∀ a b, F a b → G a b) → Paired G l₁ l₂
  | _, _, .nil, _ => .nil
  | _, _, .cons r t, f => .cons (f _ _ r) (Paired.mapP t f)
theorem ObjOk.stay (x : ObjOk P w H h a o) (k : ∀ b u, (b = a ∨ H b = some (.own a)) → h.get? b = some u → h'.get? b = some u)
    (ho : ∀ b, H b = some (.own a) → H' b = some (.own a)) (ht : ∀ b xs, H b = some (.tup xs) → H' b = some (.tup xs)) : ObjOk P w H' h' a o := by
  induction o with
  | lst xs => obtain ⟨z, its, n, r, e⟩ := x; exact ⟨z, its, n, r, k _ _ (.inl rfl) e⟩
  | tup xs => obtain ⟨z, its, r, ob, e, c⟩ := x; exact ⟨z, its, r, ob, k _ _ (.inl rfl) e, c⟩
  | dK kvs => obtain ⟨z, y, vs, r, ob, es, ep, e, c⟩ := x; exact ⟨z, y, vs, r, ob, es, ep, k _ _ (.inl rfl) e, c⟩
  | dT kvs =>
    obtain ⟨z, y, xs, r, ob, es, ep, e, c⟩ := x
    exact ⟨z, y, xs, Paired.mapP r fun p q z => ⟨z.1, ht _ _ z.2.1, z.2.2⟩, ob, es, ep, k _ _ (.inl rfl) e, c⟩
  | set S n => obtain ⟨ob, es, ep, t, e, c⟩ := x; exact ⟨ob, es, ep, t, k _ _ (.inl rfl) e, c⟩
  | ins C dx fs =>
    obtain ⟨d, z, ne, e, mA, ⟨od, es, ep, e2, c⟩, r⟩ := x
    exact ⟨ho _ d, z, ne, k _ _ (.inl rfl) e, mA, ⟨od, es, ep, k _ _ (.inr d) e2, c⟩, r⟩
  | own y => obtain ⟨ob, e⟩ := x; exact ⟨ob, k _ _ (.inl rfl) e⟩
  | xd fs => obtain ⟨mA, ⟨od, es, ep, e, c⟩, r⟩ := x; exact ⟨mA, ⟨od, es, ep, k _ _ (.inl rfl) e, c⟩, r⟩
  | rng lo hi => obtain ⟨t, u, v, e⟩ := x; exact ⟨t, u, v, k _ _ (.inl rfl) e⟩
  | frz ob u ih => obtain ⟨e, q⟩ := x; exact ⟨k _ _ (.inl rfl) e, ih q⟩
  | tbl ps =>
    have e : h.get? a = some { cls := .none, data := .fields ps } := x
    show h'.get? a = some { cls := .none, data := .fields ps }
    exact k a _ (.inl rfl) e
  | met f y =>
    have e : h.get? a = some (PySem.W.methodObj (.ref f) (.ref y)) := x
    show h'.get? a = some (PySem.W.methodObj (.ref f) (.ref y))
    exact k a _ (.inl rfl) e
  | ext φ => obtain ⟨p, ⟨o, e⟩, st⟩ := x; exact ⟨st _ _ p fun o q => k _ _ (.inl rfl) q, ⟨o, k _ _ (.inl rfl) e⟩, st⟩
theorem HOk.lt (x : HOk P w H h) (e : H a = some o) : a < h.objs.size := (x a o e).lt
theorem HOk.fresh (x : HOk P w H h) (e : h.objs.size ≤ a) : H a = none := by
  cases q : H a with
  | none => rfl
  | some u => exact absurd (Nat.lt_of_lt_of_le (x.lt q) e) (Nat.lt_irrefl _)
theorem HOk.kept (x : HOk P w H h) (k : ∀ b u, h.get? b = some u → h'.get? b = some u) : HOk P w H h' := fun a o e =>
  (x a o e).stay (fun b u _ q => k b u q) (fun _ q => q) fun _ _ q => q
theorem HOk.laid (x : HOk P w H h) (k : ∀ b u, h.get? b = some u → h'.get? b = some u) (hp : h.objs.size ≤ a) (new : ObjOk P w (upd H a o) h' a o) : HOk P w (upd H a o) h' := fun b u e => by
  have hn := x.fresh hp
  by_cases hb : b = a
  · subst hb; rw [upd_same] at e; cases e; exact new
  · rw [upd_ne hb] at e
    exact (x b u e).stay (fun c v _ q => k c v q) (fun c q => by rw [upd_ne (ne_of_none q hn)]; exact q) fun c xs q => by rw [upd_ne (ne_of_none q hn)]; exact q
end
noncomputable def Rd (H : Hp) (a : Addr) (u : HO) : Prop := H a = some u ∨ ∃ o, H a = some (.frz o u)
theorem Rd.of {H : Hp} {a : Addr} {u : HO} (h : H a = some u) : Rd H a u := .inl h
theorem Rd.ok {P : Program} {w : World} {H : Hp} {h : Heap} {a : Addr} {u : HO} (r : Rd H a u) (x : HOk P w H h) : ObjOk P w H h a u := by
  rcases r with r | ⟨o, r⟩
  · exact x a u r
  · obtain ⟨_, q⟩ := x a _ r
    exact q
noncomputable def Mut : Option HO → Prop
  | some (.lst _) => True
  | some (.dK _) => True
  | some (.dT _) => True
  | some (.set _ _) => True
  | some (.ins _ _ _) => True
  | some (.ext _) => True
  | _ => False
section
variable {P : Program} {w : World} {H : Hp} {h h' : Heap} {x e : Addr} {o' : HO}
theorem HOk.write (ok : HOk P w H h) (mu : Mut (H x)) (he : e = x ∨ H e = some (.own x)) (k : ∀ b u, b ≠ e → h.get? b = some u → h'.get? b = some u) (heo : ∃ u, h'.get? e = some u)
    (new : ObjOk P w (upd H x o') h' x o') : HOk P w (upd H x o') h' := fun b u q => by
  have nown : ∀ c y, H c = some (.own y) → c ≠ x := fun c y r z => by subst z; rw [r] at mu; exact mu
  have ntup : ∀ c xs, H c = some (.tup xs) → c ≠ x := fun c xs r z => by subst z; rw [r] at mu; exact mu
  by_cases hb : b = x
  · subst hb; rw [upd_same] at q; cases q; exact new
  · rw [upd_ne hb] at q
    by_cases hbe : b = e
    · have q' : H b = some (.own x) := by
        rcases he with z | z
        · exact absurd (hbe.trans z) hb
        · rw [hbe]; exact z
      rw [q] at q'; cases q'
      obtain ⟨v, hv⟩ := heo
      exact ⟨v, by rw [hbe]; exact hv⟩
    · refine (ok b u q).stay (fun c v hc r => k c v ?_ r) (fun c r => by rw [upd_ne (nown c b r)]; exact r) fun c xs r => by rw [upd_ne (ntup c xs r)]; exact r
      rcases hc with rfl | hc
      · exact hbe
      · rintro rfl
        rcases he with z | z
        · exact nown c b hc z
        · rw [hc] at z; cases z; exact hb rfl
end
structure Un (fs ex : List Addr) (H H' : Hp) (h h' : Heap) : Prop where
  keep : ∀ b o, h.get? b = some o → H b = none → b ∉ fs → b ∉ ex → h'.get? b = some o
  slot : ∀ b o, h.get? b = some o → H b = none → b ∈ fs → b ∉ ex → ∃ sl, h'.get? b = some { o with slots := sl }
  free : ∀ b o, h.get? b = some o → H b = none → b ∉ ex → H' b = none
  there : ∀ b o, h.get? b = some o → b ∉ ex → ∃ o', h'.get? b = some o'
  tups : ∀ b xs, H b = some (.tup xs) → H' b = some (.tup xs)
  frzs : ∀ b o u, H b = some (.frz o u) → H' b = some (.frz o u)
  tbls : ∀ b ps, H b = some (.tbl ps) → ∃ more, H' b = some (.tbl (ps ++ more))
section
variable {fs fs' ex ex' : List Addr} {H H1 H2 : Hp} {h h1 h2 h' : Heap} {a x e : Addr} {o : HO}
theorem Un.any (u : Un fs ex H H1 h h1) {b : Addr} {ob : Obj} (q : h.get? b = some ob) (n : H b = none) (hx : b ∉ ex) : ∃ sl, h1.get? b = some { ob with slots := sl } := by
  by_cases hb : b ∈ fs
  · exact u.slot b ob q n hb hx
  · exact ⟨ob.slots, u.keep b ob q n hb hx⟩
theorem Un.trans (a : Un fs ex H H1 h h1) (b : Un fs ex H1 H2 h1 h2) : Un fs ex H H2 h h2 where
  keep := fun c ob q n hc hx => b.keep c ob (a.keep c ob q n hc hx) (a.free c ob q n hx) hc hx
  slot := fun c ob q n hc hx => by
    obtain ⟨sl, e1⟩ := a.slot c ob q n hc hx
    obtain ⟨sl', e2⟩ := b.slot c _ e1 (a.free c ob q n hx) hc hx
    exact ⟨sl', e2⟩
  free := fun c ob q n hx => by
    obtain ⟨o', e1⟩ := a.there c ob q hx
    exact b.free c o' e1 (a.free c ob q n hx) hx
  there := fun c ob q hx => by
    obtain ⟨o', e1⟩ := a.there c ob q hx
    exact b.there c o' e1 hx
  tups := fun c xs q => b.tups c xs (a.tups c xs q)
  frzs := fun c ob xs q => b.frzs c ob xs (a.frzs c ob xs q)
  tbls := fun c ps q => by
    obtain ⟨m1, e1⟩ := a.tbls c ps q
    obtain ⟨m2, e2⟩ := b.tbls c _ e1
    exact ⟨m1 ++ m2, by rw [e2, Array.append_assoc]⟩
theorem Un.kept (k : ∀ b u, h.get? b = some u → h'.get? b = some u) : Un fs ex H H h h' :=
  ⟨fun b ob q _ _ _ => k b ob q, fun b ob q _ _ _ => ⟨ob.slots, k b ob q⟩, fun _ _ _ n _ => n, fun b ob q _ => ⟨ob, k b ob q⟩, fun _ _ q => q, fun _ _ _ q => q, fun _ ps q => ⟨#[], by rw [q]; simp⟩⟩
theorem Un.refl : Un fs ex H H h h := Un.kept fun _ _ q => q
theorem Un.laid (k : ∀ b u, h.get? b = some u → h'.get? b = some u) (hp : h.objs.size ≤ a) (hn : H a = none) : Un fs ex H (upd H a o) h h' where
  keep := fun b u q _ _ _ => k b u q
  slot := fun b u q _ _ _ => ⟨u.slots, k b u q⟩
  free := fun b u q n _ => by rw [upd_ne (Nat.ne_of_lt (Nat.lt_of_lt_of_le (Heap.lt_size q) hp))]; exact n
  there := fun b u q _ => ⟨u, k b u q⟩
  tups := fun b xs q => by rw [upd_ne (ne_of_none q hn)]; exact q
  frzs := fun b u xs q => by rw [upd_ne (ne_of_none q hn)]; exact q
  tbls := fun b ps q => ⟨#[], by rw [upd_ne (ne_of_none q hn), q]; simp⟩
theorem Un.write (mu : Mut (H x)) (he : e = x ∨ H e = some (.own x)) (k : ∀ b u, b ≠ e → h.get? b = some u → h'.get? b = some u) (heo : ∃ u, h'.get? e = some u) : Un fs ex H (upd H x o) h h' := by
  have hx : ∀ b, H b = none → b ≠ x := fun b n z => by subst z; rw [n] at mu; exact mu
  have hb : ∀ b, H b = none → b ≠ e := fun b n z => by
    subst z
    rcases he with r | r
    · exact hx b n r
    · rw [n] at r; cases r
  have hm : ∀ b u, H b = some u → ¬ Mut (some u) → b ≠ x := fun b u q nm z => by subst z; rw [q] at mu; exact nm mu
  refine ⟨fun b u q n _ _ => k b u (hb b n) q, fun b u q n _ _ => ⟨u.slots, k b u (hb b n) q⟩, fun b u q n _ => by rw [upd_ne (hx b n)]; exact n, fun b u q _ => ?_,
    fun b xs q => by rw [upd_ne (hm b _ q fun z => z)]; exact q, fun b u xs q => by rw [upd_ne (hm b _ q fun z => z)]; exact q, fun b ps q => ⟨#[], by rw [upd_ne (hm b _ q fun z => z), q]; simp⟩⟩
  by_cases hbe : b = e
  · subst hbe; exact heo
  · exact ⟨u, k b u hbe q⟩
theorem Un.mono (u : Un fs ex H H1 h h1) (hs : ∀ b ∈ fs, b ∈ fs') (hx : ∀ b ∈ ex, b ∈ ex') : Un fs' ex' H H1 h h1 :=
  ⟨fun b ob q n hb he => u.keep b ob q n (fun z => hb (hs b z)) fun z => he (hx b z), fun _ _ q n _ he => u.any q n fun z => he (hx _ z), fun b ob q n he => u.free b ob q n fun z => he (hx b z), fun b ob q he => u.there b ob q fun z => he (hx b z), u.tups, u.frzs, u.tbls⟩
end
noncomputable def trk (h : Heap) (H : Hp) : List Addr := (List.range h.objs.size).filter fun a => (H a).isSome
noncomputable def hidT (h : Heap) (H : Hp) : Heap := PySem.W.hideAll h (trk h H)
theorem hidT_size (h : Heap) (H : Hp) : (hidT h H).objs.size = h.objs.size := PySem.W.hideAll_size _ _
theorem hidT_get {h : Heap} {H : Hp} {b : Addr} {o : Obj} (e : h.get? b = some o) (n : H b = none) : (hidT h H).get? b = some o :=
  PySem.W.hideAll_get _ e fun hm => by
    have q : (H b).isSome = true := (List.mem_filter.mp hm).2
    rw [n] at q; simp at q
theorem of_hidT {h : Heap} {H : Hp} {b : Addr} {o : Obj} (e : (hidT h H).get? b = some o) : h.get? b = some o ∧ H b = none := by
  have e' : h.get? b = some o := PySem.W.of_hideAll (trk h H) e
  refine ⟨e', ?_⟩
  cases q : H b with
  | none => rfl
  | some x =>
    have hm : b ∈ trk h H := List.mem_filter.mpr ⟨List.mem_range.mpr (Heap.lt_size e'), by simp [q]⟩
    have z : (hidT h H).get? b = none := PySem.W.hideAll_none (trk h H) hm
    rw [z] at e; cases e
noncomputable def allNews (g h : Heap) (L : Addr) : List (Addr × Obj) := (List.range h.objs.size).filterMap fun a => if a = L ∨ (g.get? a).isSome = true then none else (h.get? a).map fun o => (a, o)
noncomputable def rest (g h : Heap) (L d : Addr) : List (Addr × Obj) := (allNews g h L).filter fun p => decide (p.1 ≠ d)
end L2
namespace L2
open PySem PySem.Spec PyProof.Rows
structure Mod (K : PySem.W.Frag) (mg : Str → Option Value) (base : Heap) : Prop where
  kin : K.In base
  glob : base.Ns mainGlobals mg
  blt : ∃ mb, base.Ns builtinsNs mb ∧ ∀ x : Str, x ≠ "__name__" → mb x = bootBuiltins x
  nolimit : base.NoLimit
structure Cx where
  prog : Program
  w : World
  K : PySem.W.Frag
  mg : Str → Option Value
  base : Heap
  A : Around
  N : List Str
  s₀ : Shared
  H₀ : Hp
  env : Env
  outer : List Env
  stack : List Env
  ex : List Addr
  fn : Str → Bool
  calm : Bool
  pn : List (Addr × Obj)
  xe : Value → Shared → Prop
noncomputable def frs (l : List Env) : List Addr := l.filterMap (·.frame)
noncomputable abbrev Cx.fs (X : Cx) : List Addr := frs X.outer
noncomputable def Vis (sc : Scope) (x : Str) : Prop := sc.names.lookup x = some .local ∨ sc.names.lookup x = some .cell ∨ sc.names.lookup x = some .free
noncomputable def Loc (sc : Scope) (x : Str) : Prop := sc.names.lookup x = some .local ∨ sc.names.lookup x = some .cell
noncomputable def Look (env : Env) (h : Heap) (m : Str → Option Value) (x : Str) (u : Value) : Prop :=
  (env.kindOf x = some .local ∧ m x = some u) ∨ ((env.kindOf x = some .cell ∨ env.kindOf x = some .free) ∧ ∃ c, env.cells.lookup x = some c ∧ h.IsCell c (some u))
structure Cx.Ok (X : Cx) : Prop where
  mod : Mod X.K X.mg X.base
  kind : X.env.scope.kind = .function
  glob : X.env.globals = mainGlobals
  blt : X.env.builtins = builtinsNs
  above : X.s₀.heap.objs.size ≤ X.env.locals
  inj : ∀ x y c, X.env.cells.lookup x = some c → X.env.cells.lookup y = some c → x = y
  has : ∀ x, (X.env.kindOf x = some .cell ∨ X.env.kindOf x = some .free) → ∃ c, X.env.cells.lookup x = some c
  cab : ∀ x c, X.fn x = true → X.env.cells.lookup x = some c → X.s₀.heap.objs.size ≤ c
  hd : X.calm = true → X.A.handled = none
  frames : X.A.frames = some X.stack
  stk : X.stack = X.outer ∨ (X.stack = X.env :: X.outer ∧ X.env.frame = some X.env.locals)
  exf : ∀ b ∈ X.ex, b ≠ X.env.locals ∧ ∀ x c, X.env.cells.lookup x = some c → c ≠ b
  bs : ∀ b o, X.base.get? b = some o → X.s₀.heap.get? b = some o ∧ X.H₀ b = none
  bsz : X.base.objs.size ≤ X.s₀.heap.objs.size
  noex : ∀ b o, X.base.get? b = some o → b ∉ X.ex
  exfs : ∀ b ∈ X.ex, b ∉ X.fs
  funs : X.s₀.heap.FunFrames X.base X.outer
  frf : ∀ b ∈ X.fs, X.H₀ b = none
structure Inv (X : Cx) (pins : List (Addr × Obj)) (σ : List (Option V)) (H : Hp) (s : Shared) : Prop where
  ok : X.Ok
  os : s.os = X.s₀.os
  bare : AllBare s.gens
  base : Un X.fs X.ex X.H₀ H X.s₀.heap s.heap
  loc : ∃ m, s.heap.Ns X.env.locals m ∧ ∀ (i : Nat) (x : Str) (v : V), X.N[i]? = some x → σ[i]? = some (some v) → Vis X.env.scope x → ∃ u, RelV v u ∧ Look X.env s.heap m x u
  cell : ∀ x c, X.env.cells.lookup x = some c → ∃ v, s.heap.IsCell c v
  free : H X.env.locals = none
  freeC : ∀ x c, X.env.cells.lookup x = some c → H c = none
  pin : ∀ p ∈ X.pn ++ pins, s.heap.get? p.1 = some p.2 ∧ H p.1 = none ∧ p.1 ≠ X.env.locals ∧ p.1 ∉ X.fs ∧ ∀ v, p.2.data ≠ .cell v
  hok : HOk X.prog X.w H s.heap
  len : σ.length = X.N.length
section
variable {X : Cx} {pins : List (Addr × Obj)} {σ : List (Option V)} {H H' : Hp} {s : Shared} {h' : Heap}
theorem Cx.Ok.nofr (ok : X.Ok) {b : Addr} {o : Obj} (e : X.base.get? b = some o) : b ∉ X.fs := fun hb => by
  have := (ok.funs.mem hb).1
  rw [e] at this; cases this
theorem Inv.bs (I : Inv X pins σ H s) : ∀ b o, X.base.get? b = some o → s.heap.get? b = some o ∧ H b = none := fun b o e =>
  ⟨I.base.keep b o (I.ok.bs b o e).1 (I.ok.bs b o e).2 (I.ok.nofr e) (I.ok.noex b o e), I.base.free b o (I.ok.bs b o e).1 (I.ok.bs b o e).2 (I.ok.noex b o e)⟩
theorem Inv.bk (I : Inv X pins σ H s) : ∀ b o, X.base.get? b = some o → s.heap.get? b = some o := fun b o e => (I.bs b o e).1
theorem Inv.mod (I : Inv X pins σ H s) : Mod X.K X.mg X.base := I.ok.mod
theorem Inv.kIn (I : Inv X pins σ H s) : X.K.In s.heap := I.ok.mod.kin.keeps I.bk
theorem Inv.nolimit (I : Inv X pins σ H s) : s.heap.NoLimit := I.ok.mod.nolimit.keeps I.bk
theorem Inv.fr (I : Inv X pins σ H s) : ∃ m, Fr X.base X.env.locals s.heap m :=
  let ⟨m, hn, _⟩ := I.loc
  ⟨m, hn, I.bk, Nat.le_trans I.ok.bsz I.ok.above⟩
theorem Inv.lt (I : Inv X pins σ H s) : X.env.locals < s.heap.objs.size := let ⟨_, hn, _⟩ := I.loc; hn.lt
theorem Inv.sz (I : Inv X pins σ H s) : X.s₀.heap.objs.size ≤ s.heap.objs.size := Nat.le_trans I.ok.above (Nat.le_of_lt I.lt)
theorem Inv.nofs (I : Inv X pins σ H s) {a : Addr} (h : s.heap.objs.size ≤ a) : a ∉ X.fs := fun hb => by
  obtain ⟨_, o, ho, _⟩ := I.ok.funs.mem hb
  exact absurd (Nat.lt_of_lt_of_le (Heap.lt_size ho) (Nat.le_trans I.sz h)) (Nat.lt_irrefl _)
theorem Inv.cne (I : Inv X pins σ H s) : ∀ x c, X.env.cells.lookup x = some c → c ≠ X.env.locals := fun x c e z => by
  obtain ⟨v, o, ho, hd⟩ := I.cell x c e
  obtain ⟨m, ⟨o', es, ep, ho', hd', _⟩, _⟩ := I.loc
  rw [z, ho'] at ho; cases ho; rw [hd'] at hd; cases hd
theorem Inv.funs (I : Inv X pins σ H s) : s.heap.FunFrames X.base X.outer := by
  have all : ∀ (l : List Env), (∀ b ∈ frs l, b ∈ X.fs) → X.s₀.heap.FunFrames X.base l → s.heap.FunFrames X.base l := by
    intro l
    induction l with
    | nil => intro _ _; trivial
    | cons env r ih =>
      intro hs hl
      obtain ⟨hk, ⟨L, o, hf, hn, ho, hd⟩, hr⟩ := hl
      have hL : L ∈ X.fs := hs L (by unfold frs; rw [List.filterMap_cons, hf]; exact List.mem_cons_self)
      obtain ⟨sl, e⟩ := I.base.slot L o ho (I.ok.frf L hL) hL fun z => I.ok.exfs L z hL
      exact ⟨hk, ⟨L, _, hf, hn, e, hd⟩, ih (fun b hb => hs b (by unfold frs; rw [List.filterMap_cons, hf]; exact List.mem_cons_of_mem _ hb)) hr⟩
  exact all X.outer (fun _ hb => hb) I.ok.funs
theorem Inv.stack (I : Inv X pins σ H s) : s.heap.FunFrames X.base X.stack := by
  rcases I.ok.stk with e | ⟨e, hf⟩
  · rw [e]; exact I.funs
  · rw [e]
    obtain ⟨m, hn, _⟩ := I.loc
    refine .cons (by rw [I.ok.kind]; decide) hf hn ?_ I.funs
    exact Heap.get?_none_of_le (Nat.le_trans I.ok.bsz I.ok.above)
theorem Inv.stkSub (I : Inv X pins σ H s) : ∀ b ∈ frs X.stack, b ∈ X.env.locals :: X.fs := fun b hb => by
  rcases I.ok.stk with e | ⟨e, hf⟩
  · rw [e] at hb; exact List.mem_cons_of_mem _ hb
  · rw [e] at hb
    unfold frs at hb
    rw [List.filterMap_cons, hf] at hb
    exact hb
theorem Inv.stkFree (I : Inv X pins σ H s) : ∀ b ∈ frs X.stack, H b = none := fun b hb => by
  rcases List.mem_cons.mp (I.stkSub b hb) with e | hb
  · rw [e]; exact I.free
  · obtain ⟨_, o, ho, _⟩ := I.ok.funs.mem hb
    exact I.base.free b o ho (I.ok.frf b hb) fun z => I.ok.exfs b z hb
theorem Inv.step {g' : Array GenState} {t' : Nat} {d' : Drawn} {ch : List Addr} (I : Inv X pins σ H s)
    (hch : ∀ b ∈ ch, (b ∈ X.ex ∨ X.s₀.heap.objs.size ≤ b) ∧ b ≠ X.env.locals ∧ (∀ x c, X.env.cells.lookup x = some c → c ≠ b) ∧ ∀ p ∈ X.pn ++ pins, p.1 ≠ b)
    (keep : ∀ b o, b ≠ X.env.locals → b ∉ X.fs → b ∉ ch → s.heap.get? b = some o → H b = none → h'.get? b = some o)
    (slot : ∀ b o, b ≠ X.env.locals → b ∈ X.fs → b ∉ ch → s.heap.get? b = some o → H b = none → ∃ sl, h'.get? b = some { o with slots := sl }) (free : ∀ b o, b ∉ ch → s.heap.get? b = some o → H b = none → H' b = none)
    (there : ∀ b o, b ∉ ch → s.heap.get? b = some o → ∃ o', h'.get? b = some o')
    (tups : ∀ b xs, H b = some (.tup xs) → H' b = some (.tup xs)) (frzs : ∀ b o u, H b = some (.frz o u) → H' b = some (.frz o u)) (tbls : ∀ b ps, H b = some (.tbl ps) → ∃ more, H' b = some (.tbl (ps ++ more)))
    (ns : ∀ m, s.heap.Ns X.env.locals m → h'.Ns X.env.locals m) (hok : HOk X.prog X.w H' h') (hg : AllBare g') :
    Inv X pins σ H' { s with heap := h', gens := g', drawn := d', toks := t' } := by
  have neL : ∀ b o, X.s₀.heap.get? b = some o → b ≠ X.env.locals := fun b o e => Nat.ne_of_lt (Nat.lt_of_lt_of_le (Heap.lt_size e) I.ok.above)
  have neC : ∀ b o, X.s₀.heap.get? b = some o → b ∉ X.ex → b ∉ ch := fun b o e hx hb => by
    rcases (hch b hb).1 with z | z
    · exact hx z
    · exact absurd (Nat.lt_of_lt_of_le (Heap.lt_size e) z) (Nat.lt_irrefl _)
  have cellK : ∀ x c, X.env.cells.lookup x = some c → ∀ v, s.heap.IsCell c v → h'.IsCell c v := fun x c e v ⟨o, ho, hd⟩ => by
    have nch : c ∉ ch := fun z => (hch c z).2.2.1 x c e rfl
    by_cases hc : c ∈ X.fs
    · obtain ⟨sl, q⟩ := slot c o (I.cne x c e) hc nch ho (I.freeC x c e)
      exact ⟨_, q, hd⟩
    · exact ⟨o, keep c o (I.cne x c e) hc nch ho (I.freeC x c e), hd⟩
  refine ⟨I.ok, I.os, hg, ⟨fun b o e n hb hx => ?_, fun b o e n hb hx => ?_, fun b o e n hx => ?_, fun b o e hx => ?_, fun b xs e => tups b xs (I.base.tups b xs e), fun b o xs e => frzs b o xs (I.base.frzs b o xs e), fun b ps e => ?_⟩, ?_, fun x c e => ?_, ?_, fun x c e => ?_, fun p hp => ?_, hok, I.len⟩
  · exact keep b o (neL b o e) hb (neC b o e hx) (I.base.keep b o e n hb hx) (I.base.free b o e n hx)
  · obtain ⟨sl, e1⟩ := I.base.slot b o e n hb hx
    obtain ⟨sl', e2⟩ := slot b _ (neL b o e) hb (neC b o e hx) e1 (I.base.free b o e n hx)
    exact ⟨sl', e2⟩
  · obtain ⟨o', e1⟩ := I.base.there b o e hx
    exact free b o' (neC b o e hx) e1 (I.base.free b o e n hx)
  · obtain ⟨o', e1⟩ := I.base.there b o e hx
    exact there b o' (neC b o e hx) e1
  · obtain ⟨m1, e1⟩ := I.base.tbls b ps e
    obtain ⟨m2, e2⟩ := tbls b _ e1
    exact ⟨m1 ++ m2, by rw [e2, Array.append_assoc]⟩
  · obtain ⟨m, hn, hl⟩ := I.loc
    refine ⟨m, ns m hn, fun i x v e1 e2 e3 => ?_⟩
    obtain ⟨u, r, l⟩ := hl i x v e1 e2 e3
    refine ⟨u, r, ?_⟩
    rcases l with l | ⟨k, c, e, z⟩
    · exact .inl l
    · exact .inr ⟨k, c, e, cellK x c e _ z⟩
  · obtain ⟨v, z⟩ := I.cell x c e
    exact ⟨v, cellK x c e v z⟩
  · obtain ⟨m, ⟨o, _, _, ho, _⟩, _⟩ := I.loc
    exact free _ o (fun z => (hch _ z).2.1 rfl) ho I.free
  · obtain ⟨v, o, ho, hd⟩ := I.cell x c e
    exact free c o (fun z => (hch c z).2.2.1 x c e rfl) ho (I.freeC x c e)
  · obtain ⟨e, n, ne, nf, d⟩ := I.pin p hp
    have nch : p.1 ∉ ch := fun z => (hch p.1 z).2.2.2 p hp rfl
    exact ⟨keep p.1 p.2 ne nf nch e n, free p.1 p.2 nch e n, ne, nf, d⟩
theorem Inv.un {t' : Nat} (I : Inv X pins σ H s) (u : Un X.fs [] H H' s.heap h') (hok : HOk X.prog X.w H' h') : Inv X pins σ H' { s with heap := h', toks := t' } := by
  obtain ⟨m, ⟨o, es, ep, ho, r⟩, _⟩ := id I.loc
  obtain ⟨sl, hL⟩ := u.any ho I.free (by simp)
  exact I.step (g' := s.gens) (d' := s.drawn) (ch := []) (fun _ z => nomatch z) (fun b o _ hb _ e n => u.keep b o e n hb (by simp)) (fun b o _ hb _ e n => u.slot b o e n hb (by simp)) (fun b o _ e n => u.free b o e n (by simp)) (fun b o _ e => u.there b o e (by simp)) u.tups u.frzs u.tbls (fun m' hm => by
    obtain ⟨o', es', ep', ho', r'⟩ := hm
    rw [ho] at ho'; cases ho'
    exact ⟨_, es', ep', hL, r'⟩) hok I.bare
theorem Inv.call {g' : Array GenState} {t' : Nat} {d' : Drawn} {ch : List Addr} (I : Inv X pins σ H s) (u : Un (frs X.stack) ch H H' s.heap h') (hok : HOk X.prog X.w H' h') (hg : AllBare g')
    (hch : ∀ b ∈ ch, (b ∈ X.ex ∨ X.s₀.heap.objs.size ≤ b) ∧ b ≠ X.env.locals ∧ (∀ x c, X.env.cells.lookup x = some c → c ≠ b) ∧ ∀ p ∈ X.pn ++ pins, p.1 ≠ b) :
    Inv X pins σ H' { s with heap := h', gens := g', drawn := d', toks := t' } := by
  obtain ⟨m, ⟨o, es, ep, ho, r⟩, _⟩ := id I.loc
  obtain ⟨sl, hL⟩ := u.any ho I.free fun z => (hch _ z).2.1 rfl
  exact I.step (ch := ch) hch (fun b o hL hb hc e n => u.keep b o e n (fun z => (List.mem_cons.mp (I.stkSub b z)).elim hL hb) hc) (fun b o _ _ hc e n => u.any e n hc) (fun b o hc e n => u.free b o e n hc) (fun b o hc e => u.there b o e hc) u.tups u.frzs u.tbls (fun m' hm => by
    obtain ⟨o', es', ep', ho', r'⟩ := hm
    rw [ho] at ho'; cases ho'
    exact ⟨_, es', ep', hL, r'⟩) hok hg
theorem Inv.turned {t' : Nat} {it : Addr} (I : Inv X pins σ H s) (k : ∀ b o, b ≠ it → s.heap.get? b = some o → h'.get? b = some o) (hn : H it = none) (hL : it ≠ X.env.locals)
    (h1 : it ∈ X.ex ∨ X.s₀.heap.objs.size ≤ it) (h2 : ∀ x c, X.env.cells.lookup x = some c → c ≠ it) (h3 : ∀ p ∈ X.pn ++ pins, p.1 ≠ it) : Inv X pins σ H { s with heap := h', toks := t' } := by
  have nit : ∀ b u, H b = some u → b ≠ it := fun b u e z => by rw [z, hn] at e; cases e
  refine I.step (g' := s.gens) (d' := s.drawn) (ch := [it]) (fun b hb => ?_) (fun b o _ _ hc e _ => k b o (fun z => hc (by simp [z])) e) (fun b o _ _ hc e _ => ⟨o.slots, k b o (fun z => hc (by simp [z])) e⟩) (fun _ _ _ _ n => n)
    (fun b o hc e => ⟨o, k b o (fun z => hc (by simp [z])) e⟩) (fun _ _ e => e) (fun _ _ _ e => e) (fun b ps e => ⟨#[], by rw [e]; simp⟩) (fun m hm => ?_) (fun b u e => ?_) I.bare
  · have e : b = it := by simpa using hb
    subst e
    exact ⟨h1, hL, h2, h3⟩
  · obtain ⟨o, es, ep, ho, r⟩ := hm
    exact ⟨o, es, ep, k _ o (Ne.symm hL) ho, r⟩
  · refine (I.hok b u e).stay (fun c v hc q => k c v ?_ q) (fun _ q => q) fun _ _ q => q
    rcases hc with z | z
    · rw [z]; exact nit b u e
    · exact nit c _ z
theorem Inv.tok (I : Inv X pins σ H s) (t : Nat) : Inv X pins σ H { s with toks := t } := I.un (h' := s.heap) (t' := t) Un.refl I.hok
theorem Inv.kept {t' : Nat} (I : Inv X pins σ H s) (k : ∀ b u, s.heap.get? b = some u → h'.get? b = some u) : Inv X pins σ H { s with heap := h', toks := t' } := I.un (Un.kept k) (I.hok.kept k)
theorem Inv.laid {a : Addr} {o : HO} {t' : Nat} (I : Inv X pins σ H s) (k : ∀ b u, s.heap.get? b = some u → h'.get? b = some u) (hp : s.heap.objs.size ≤ a) (new : ObjOk X.prog X.w (upd H a o) h' a o) :
    Inv X pins σ (upd H a o) { s with heap := h', toks := t' } := I.un (Un.laid k hp (I.hok.fresh hp)) (I.hok.laid k hp new)
theorem Inv.write {x e : Addr} {o : HO} {t' : Nat} (I : Inv X pins σ H s) (mu : Mut (H x)) (he : e = x ∨ H e = some (.own x)) (k : ∀ b u, b ≠ e → s.heap.get? b = some u → h'.get? b = some u) (heo : ∃ u, h'.get? e = some u)
    (new : ObjOk X.prog X.w (upd H x o) h' x o) : Inv X pins σ (upd H x o) { s with heap := h', toks := t' } := I.un (Un.write mu he k heo) (I.hok.write mu he k heo new)
theorem Inv.weak {σ' : List (Option V)} (I : Inv X pins σ H s) (hl : σ'.length = σ.length) (w : ∀ (i : Nat) v, σ'[i]? = some (some v) → σ[i]? = some (some v)) : Inv X pins σ' H s :=
  ⟨I.ok, I.os, I.bare, I.base, let ⟨m, hn, hl'⟩ := I.loc; ⟨m, hn, fun i x v e1 e2 e3 => hl' i x v e1 (w i v e2) e3⟩, I.cell, I.free, I.freeC, I.pin, I.hok, hl.trans I.len⟩
theorem Inv.pins_of {pins' : List (Addr × Obj)} (I : Inv X pins σ H s) (h : ∀ p ∈ pins', s.heap.get? p.1 = some p.2 ∧ H p.1 = none ∧ p.1 ≠ X.env.locals ∧ p.1 ∉ X.fs ∧ ∀ v, p.2.data ≠ .cell v) : Inv X pins' σ H s :=
  ⟨I.ok, I.os, I.bare, I.base, I.loc, I.cell, I.free, I.freeC, fun p hp => (List.mem_append.mp hp).elim (fun z => I.pin p (List.mem_append_left _ z)) (h p), I.hok, I.len⟩
theorem nodup_ix {N : List Str} (hN : N.Nodup) {i j : Nat} {x : Str} (a : N[i]? = some x) (b : N[j]? = some x) : i = j := by
  obtain ⟨h1, e1⟩ := List.getElem?_eq_some_iff.mp a
  obtain ⟨h2, e2⟩ := List.getElem?_eq_some_iff.mp b
  exact (List.getElem_inj hN).mp (e1.trans e2.symm)
theorem store_ok2 {M : Model} {A : Around} {E : Value → Shared → Prop} {i : Nat} {x : Str} {v : V} {u : Value} {Q : Unit → Shared → Prop} (I : Inv X pins σ H s) (hN : X.N.Nodup) (hi : X.N[i]? = some x) (hx : Loc X.env.scope x) (r : RelV v u)
    (h : ∀ s', Inv X pins (σ.set i (some v)) H s' → (∃ a, Heap.SameBut a s.heap s'.heap ∧ (a = X.env.locals ∨ X.env.cells.lookup x = some a)) → Q () s') (hf : X.fn x = true ∨ X.env.scope.names.lookup x = some .local := by first | exact .inl rfl | exact .inr rfl | assumption) : wpAny M A (storeName X.env x u) Q E s := by
  obtain ⟨m, hn, hl⟩ := id I.loc
  have hcls : (X.env.scope.kind == .class || (X.env.scope.kind == .module && X.env.locals != X.env.globals)) = false := by rw [I.ok.kind]; rfl
  have hiσ : i < σ.length := by rw [I.len]; exact (List.getElem?_eq_some_iff.mp hi).1
  have cne := I.cne
  have tracked : ∀ {a : Addr} {h' : Heap}, (∃ o, s.heap.get? a = some o ∧ H a = none) → Heap.SameBut a s.heap h' → HOk X.prog X.w H h' := fun {a h'} ha hs b ob e => by
    obtain ⟨_, _, hfree⟩ := ha
    refine (I.hok b ob e).stay (fun c w' hc q => (hs.2 c ?_).trans q) (fun _ q => q) fun _ _ q => q
    rintro rfl
    rcases hc with rfl | hc
    · rw [hfree] at e; cases e
    · rw [hfree] at hc; cases hc
  rcases hx with hk | hk
  · refine wpAny_storeName_local hk hn (fun h' hn' hs => ?_) hcls
    obtain ⟨oL, _, _, hoL, _⟩ := id hn
    refine h _ ⟨I.ok, I.os, I.bare, ⟨fun b o e n hb hx => ?_, fun b o e n hb hx => ?_, I.base.free, fun b o e hx => ?_, I.base.tups, I.base.frzs, I.base.tbls⟩, ⟨_, hn', fun j y v' e1 e2 e3 => ?_⟩, fun y c e => ?_, I.free, I.freeC, fun p hp => ?_, tracked ⟨oL, hoL, I.free⟩ hs, by simpa using I.len⟩ ⟨_, hs, .inl rfl⟩
    · exact (hs.2 b (Nat.ne_of_lt (Nat.lt_of_lt_of_le (Heap.lt_size e) I.ok.above))).trans (I.base.keep b o e n hb hx)
    · obtain ⟨sl, e1⟩ := I.base.slot b o e n hb hx
      exact ⟨sl, (hs.2 b (Nat.ne_of_lt (Nat.lt_of_lt_of_le (Heap.lt_size e) I.ok.above))).trans e1⟩
    · obtain ⟨o', e1⟩ := I.base.there b o e hx
      exact ⟨o', (hs.2 b (Nat.ne_of_lt (Nat.lt_of_lt_of_le (Heap.lt_size e) I.ok.above))).trans e1⟩
    · by_cases hj : j = i
      · subst hj
        rw [hi] at e1; cases e1
        rw [List.getElem?_set_self hiσ] at e2
        cases e2
        exact ⟨u, r, .inl ⟨hk, by simp⟩⟩
      · rw [List.getElem?_set_ne (Ne.symm hj)] at e2
        obtain ⟨u', r', q⟩ := hl j y v' e1 e2 e3
        refine ⟨u', r', ?_⟩
        rcases q with ⟨k, e⟩ | ⟨k, c, e, z⟩
        · refine .inl ⟨k, ?_⟩
          have : y ≠ x := fun e => hj (nodup_ix hN e1 (e ▸ hi))
          simp [this, e]
        · exact .inr ⟨k, c, e, z.sameBut hs (cne y c e)⟩
    · obtain ⟨w', z⟩ := I.cell y c e
      exact ⟨w', z.sameBut hs (cne y c e)⟩
    · obtain ⟨e, n, ne, nf, d⟩ := I.pin p hp
      exact ⟨(hs.2 p.1 ne).trans e, n, ne, nf, d⟩
  · have hfn : X.fn x = true := by
      rcases hf with z | z
      · exact z
      · rw [z] at hk; cases hk
    obtain ⟨c, hc⟩ := I.ok.has x (.inl hk)
    obtain ⟨w', z⟩ := I.cell x c hc
    refine wpAny_storeName_cell I.ok.kind hk hc z (fun h' hc' hs => ?_)
    obtain ⟨oc, hoc, hocd⟩ := id z
    refine h { s with heap := h' } ⟨I.ok, I.os, I.bare, ⟨fun b o e n hb hx => ?_, fun b o e n hb hx => ?_, I.base.free, fun b o e hx => ?_, I.base.tups, I.base.frzs, I.base.tbls⟩, ⟨m, hn.sameBut hs (Ne.symm (cne x c hc)), fun j y v' e1 e2 e3 => ?_⟩, fun y c' e => ?_, I.free, I.freeC, fun p hp => ?_, tracked ⟨oc, hoc, I.freeC x c hc⟩ hs, by simpa using I.len⟩ ⟨c, hs, .inr hc⟩
    · exact (hs.2 b (Nat.ne_of_lt (Nat.lt_of_lt_of_le (Heap.lt_size e) (I.ok.cab x c hfn hc)))).trans (I.base.keep b o e n hb hx)
    · obtain ⟨sl, e1⟩ := I.base.slot b o e n hb hx
      exact ⟨sl, (hs.2 b (Nat.ne_of_lt (Nat.lt_of_lt_of_le (Heap.lt_size e) (I.ok.cab x c hfn hc)))).trans e1⟩
    · obtain ⟨o', e1⟩ := I.base.there b o e hx
      exact ⟨o', (hs.2 b (Nat.ne_of_lt (Nat.lt_of_lt_of_le (Heap.lt_size e) (I.ok.cab x c hfn hc)))).trans e1⟩
    · by_cases hj : j = i
      · subst hj
        rw [hi] at e1; cases e1
        rw [List.getElem?_set_self hiσ] at e2
        cases e2
        exact ⟨u, r, .inr ⟨.inl hk, c, hc, hc'⟩⟩
      · rw [List.getElem?_set_ne (Ne.symm hj)] at e2
        obtain ⟨u', r', q⟩ := hl j y v' e1 e2 e3
        refine ⟨u', r', ?_⟩
        rcases q with q | ⟨k, c', e, z'⟩
        · exact .inl q
        · refine .inr ⟨k, c', e, z'.sameBut hs ?_⟩
          rintro rfl
          exact hj (nodup_ix hN e1 (I.ok.inj _ _ _ e hc ▸ hi))
    · by_cases hcc : c' = c
      · subst hcc; exact ⟨_, hc'⟩
      · obtain ⟨w2, z2⟩ := I.cell y c' e
        exact ⟨w2, z2.sameBut hs hcc⟩
    · obtain ⟨e, n, ne, nf, d⟩ := I.pin p hp
      refine ⟨(hs.2 p.1 ?_).trans e, n, ne, nf, d⟩
      intro q
      rw [q, hoc] at e
      have q' : oc = p.2 := Option.some.inj e
      exact d w' (by rw [← q']; exact hocd)
theorem store_ok {M : Model} {A : Around} {E : Value → Shared → Prop} {i : Nat} {x : Str} {v : V} {u : Value} {Q : Unit → Shared → Prop} (I : Inv X pins σ H s) (hN : X.N.Nodup) (hi : X.N[i]? = some x) (hx : Loc X.env.scope x) (r : RelV v u)
    (h : ∀ s', Inv X pins (σ.set i (some v)) H s' → Q () s') (hf : X.fn x = true ∨ X.env.scope.names.lookup x = some .local := by first | exact .inl rfl | exact .inr rfl | assumption) : wpAny M A (storeName X.env x u) Q E s :=
  store_ok2 I hN hi hx r (fun s' I' _ => h s' I') hf
theorem Inv.call' {s' : Shared} {ch : List Addr} (I : Inv X pins σ H s) (ho : s'.os = s.os) (u : Un (frs X.stack) ch H H' s.heap s'.heap) (hok : HOk X.prog X.w H' s'.heap) (hg : AllBare s'.gens)
    (hch : ∀ b ∈ ch, (b ∈ X.ex ∨ X.s₀.heap.objs.size ≤ b) ∧ b ≠ X.env.locals ∧ (∀ x c, X.env.cells.lookup x = some c → c ≠ b) ∧ ∀ p ∈ X.pn ++ pins, p.1 ≠ b) : Inv X pins σ H' s' := by
  obtain ⟨h', g', d', t', o'⟩ := s'
  have e : o' = s.os := ho
  subst e
  exact I.call (g' := g') (t' := t') (d' := d') u hok hg hch
end
noncomputable abbrev XK := Value → Option Addr → Hp → Prop
noncomputable abbrev St := List (Option V)
noncomputable abbrev VK := V → Hp → Prop
noncomputable abbrev TE := St → Hp → VK → Prop
noncomputable abbrev TT := St → Hp → (Bool → Hp → Prop) → Prop
noncomputable abbrev TA := St → Hp → (List V → Hp → Prop) → Prop
structure Ends where
  nx : St → Hp → Prop
  rt : VK
  bk : St → Hp → Prop := fun _ _ => False
  ct : St → Hp → Prop := fun _ _ => False
noncomputable abbrev TS := Ends → St → Hp → Prop
noncomputable def EP (X : Cx) (pins : List (Addr × Obj)) (σ : St) (Q : VK) (u : Value) (s' : Shared) : Prop := ∃ v H', Inv X pins σ H' s' ∧ RelV v u ∧ Q v H'
noncomputable def TP (X : Cx) (pins : List (Addr × Obj)) (σ : St) (Q : Bool → Hp → Prop) (b : Bool) (s' : Shared) : Prop := ∃ H', Inv X pins σ H' s' ∧ Q b H'
noncomputable def AP (X : Cx) (pins : List (Addr × Obj)) (σ : St) (Q : List V → Hp → Prop) (us : List Value) (s' : Shared) : Prop := ∃ vs H', Inv X pins σ H' s' ∧ Vals vs us ∧ Q vs H'
noncomputable def SP (X : Cx) (pins : List (Addr × Obj)) (D : Ends) (f : Flow) (s' : Shared) : Prop :=
  match f with
  | .next => ∃ σ' H', Inv X pins σ' H' s' ∧ D.nx σ' H'
  | .brk => ∃ σ' H', Inv X pins σ' H' s' ∧ D.bk σ' H'
  | .cont => ∃ σ' H', Inv X pins σ' H' s' ∧ D.ct σ' H'
  | .ret u => ∃ v σ' H', Inv X pins σ' H' s' ∧ RelV v u ∧ D.rt v H'
noncomputable def PE (X : Cx) (e : Expr) (t : TE) : Prop :=
  ∀ (pins : List (Addr × Obj)) (s : Shared) (σ : St) (H : Hp) (Q : VK), Inv X pins σ H s → t σ H Q → wpAny (model X.prog X.w) X.A (eval e X.env) (EP X pins σ Q) X.xe s
noncomputable def PT (X : Cx) (e : Expr) (t : TT) : Prop :=
  ∀ (pins : List (Addr × Obj)) (s : Shared) (σ : St) (H : Hp) (Q : Bool → Hp → Prop), Inv X pins σ H s → t σ H Q → wpAny (model X.prog X.w) X.A (isTrue e X.env (eval e X.env)) (TP X pins σ Q) X.xe s
noncomputable def PW (X : Cx) (e : Expr) (t : TT) : Prop :=
  ∀ (whole : Sem Value) (pins : List (Addr × Obj)) (s : Shared) (σ : St) (H : Hp) (Q : Bool → Hp → Prop), Inv X pins σ H s → t σ H Q → wpAny (model X.prog X.w) X.A (isTrue e X.env whole) (TP X pins σ Q) X.xe s
theorem PW.pt {X : Cx} {e : Expr} {t : TT} (h : PW X e t) : PT X e t := h _
noncomputable def PA (X : Cx) (es : List Expr) (t : TA) : Prop :=
  ∀ (pos : Pos) (pins : List (Addr × Obj)) (s : Shared) (σ : St) (H : Hp) (Q : List V → Hp → Prop), Inv X pins σ H s → t σ H Q → wpAny (model X.prog X.w) X.A (spliced (backTo pos (starEach es X.env))) (AP X pins σ Q) X.xe s
noncomputable def PS (X : Cx) (st : Stmt) (t : TS) : Prop :=
  ∀ (pins : List (Addr × Obj)) (s : Shared) (σ : St) (H : Hp) (D : Ends), Inv X pins σ H s → t D σ H → wpAny (model X.prog X.w) X.A (exec st X.env) (SP X pins D) X.xe s
noncomputable def PSs (X : Cx) (st : List Stmt) (t : TS) : Prop :=
  ∀ (pins : List (Addr × Obj)) (s : Shared) (σ : St) (H : Hp) (D : Ends), Inv X pins σ H s → t D σ H → wpAny (model X.prog X.w) X.A (execs st X.env) (SP X pins D) X.xe s
theorem thn {α : Type} {t : Sem α} {Q Q' : α → Shared → Prop} {M : Model} {A : Around} {E : Value → Shared → Prop} {s : Shared} (h : wpAny M A t Q E s) (hQ : ∀ a s, Q a s → Q' a s) : wpAny M A t Q' E s := wpAny_mono h hQ fun _ _ x => x
end L2
namespace L2
open PySem PySem.Spec PyProof.Rows
section
variable {X : Cx}
noncomputable def tVar (i : Nat) : TE := fun σ H Q => ∃ v, σ[i]? = some (some v) ∧ Q v H
noncomputable def tC (v : V) : TE := fun _ H Q => Q v H
theorem pe_var {i : Nat} {x : Str} {pos : Pos} (hN : X.N[i]? = some x) (hv : Vis X.env.scope x) (hd : (x == ("__debug__" : Str)) = false := by decide) (hcd : (x == ("__classdict__" : Str)) = false := by decide) : PE X (.Name x pos) (tVar i) := by
  intro pins s σ H Q I h
  obtain ⟨v, e, h⟩ := h
  obtain ⟨m, hn, hl⟩ := I.loc
  obtain ⟨u, r, l⟩ := hl i x v hN e hv
  have fin : EP X pins σ Q u s := ⟨v, H, I, r, h⟩
  rcases l with ⟨hk, hm⟩ | ⟨hk, c, hc, hcell⟩
  · exact wpAny_Name (wpAny_loadName_local I.ok.kind hk hn hm fin) hd
  · rcases hk with hk | hk
    · exact wpAny_Name (wpAny_loadName_cell I.ok.kind hk hc hcell fin) hd
    · exact wpAny_Name (wpAny_loadName_free I.ok.kind hk hc hcell fin hcd) hd
theorem pe_int {i j pos} : PE X (.Constant (.int i) j pos) (tC (.int i)) := fun _ _ _ H _ I h => wpAny_Constant_int ⟨.int i, H, I.tok _, ⟨_, rfl⟩, h⟩
theorem pe_bl {b j pos} : PE X (.Constant (.bool b) j pos) (tC (.bl b)) := fun _ _ _ H _ I h => Constant_bool ⟨.bl b, H, I, rfl, h⟩
theorem pe_non {j pos} : PE X (.Constant .none j pos) (tC .non) := fun _ _ _ H _ I h => Constant_none ⟨.non, H, I, rfl, h⟩
theorem pe_str {x j pos} : PE X (.Constant (.str x) j pos) (tC (.str x)) := fun _ _ _ H _ I h => Calls.Constant_str ⟨.str x, H, I.tok _, ⟨_, rfl⟩, h⟩
noncomputable def Gl (X : Cx) (x : Str) : Prop := X.env.kindOf x = some .globalImplicit
theorem ld_glob {E : Value → Shared → Prop} {pins : List (Addr × Obj)} {s : Shared} {σ : St} {H : Hp} {x : Str} {u : Value} {pos : Pos} {Q : Value → Shared → Prop} (I : Inv X pins σ H s) (hg : Gl X x) (hm : X.mg x = some u) (h : Q u s)
    (hd : (x == ("__debug__" : Str)) = false := by decide) : wpAny (model X.prog X.w) X.A (eval (.Name x pos) X.env) Q E s :=
  Calls.Name_function_global I.ok.kind hg (Calls.loadGlobal_global (by rw [I.ok.glob]; exact I.mod.glob.keeps I.bk) hm h) hd
theorem ld_blt {E : Value → Shared → Prop} {pins : List (Addr × Obj)} {s : Shared} {σ : St} {H : Hp} {x : Str} {u : Value} {pos : Pos} {Q : Value → Shared → Prop} (I : Inv X pins σ H s) (hg : Gl X x) (hm : X.mg x = none) (hv : bootBuiltins x = some u) (h : Q u s)
    (hn : x ≠ "__name__" := by decide) (hd : (x == ("__debug__" : Str)) = false := by decide) : wpAny (model X.prog X.w) X.A (eval (.Name x pos) X.env) Q E s := by
  obtain ⟨mb, h1, h2⟩ := I.mod.blt
  exact Calls.Name_function_global I.ok.kind hg (Calls.loadGlobal_builtin (by rw [I.ok.glob]; exact I.mod.glob.keeps I.bk) hm (by rw [I.ok.blt]; exact h1.keeps I.bk) ((h2 x hn).trans hv) h) hd
theorem pe_glob {x : Str} {v : V} {u : Value} {pos : Pos} (hg : Gl X x) (hm : X.mg x = some u) (r : RelV v u) (hd : (x == ("__debug__" : Str)) = false := by decide) : PE X (.Name x pos) (tC v) :=
  fun _ _ _ H _ I h => ld_glob I hg hm ⟨v, H, I, r, h⟩ hd
theorem pe_bltn {x : Str} {v : V} {u : Value} {pos : Pos} (hg : Gl X x) (hm : X.mg x = none) (hv : bootBuiltins x = some u) (r : RelV v u) (hn : x ≠ "__name__" := by decide) (hd : (x == ("__debug__" : Str)) = false := by decide) : PE X (.Name x pos) (tC v) :=
  fun _ _ _ H _ I h => ld_blt I hg hm hv ⟨v, H, I, r, h⟩ hn hd
variable {a b : Expr} {ta tb : TE} {pos : Pos}
noncomputable def tB (t : TE) : TT := fun σ H Q => t σ H fun x H1 => ∃ c, x = .bl c ∧ Q c H1
theorem pt_val {e : Expr} {t : TE} (h : PE X e t) (he : ∀ whole, isTrue e X.env whole = (do let v ← whole; standAt e.pos; holding [v] (truthy v)) := by intro _; rfl) : PT X e (tB t) := by
  intro pins s σ H Q I hw
  refine isTrue_plain (thn (h pins s σ H _ I hw) fun v s1 ⟨x, H1, I1, r1, q1⟩ => ?_) (he _)
  obtain ⟨d, rfl, q⟩ := q1
  cases r1
  exact wpAny_truthy_bool ⟨H1, I1, q⟩
variable {tA tB' : TT} {rest : List Expr}
noncomputable def tAnd (t u : TT) : TT := fun σ H Q => t σ H fun c H1 => if c = true then u σ H1 Q else Q false H1
noncomputable def tOr (t u : TT) : TT := fun σ H Q => t σ H fun c H1 => if c = true then Q true H1 else u σ H1 Q
noncomputable def tNot (t : TT) : TT := fun σ H Q => t σ H fun c H1 => Q (!c) H1
theorem pw_and1 (ha : PT X a tA) : PW X (.BoolOp .And [a] pos) tA := by
  intro wh pins s σ H Q I h
  refine isTrue_and (thn (ha pins s σ H Q I h) fun c s1 e => ?_)
  cases c with
  | true => exact isTrue_and_nil e
  | false => exact e
theorem pw_or1 (ha : PT X a tA) : PW X (.BoolOp .Or [a] pos) tA := by
  intro wh pins s σ H Q I h
  refine isTrue_or (thn (ha pins s σ H Q I h) fun c s1 e => ?_)
  cases c with
  | false => exact isTrue_or_nil e
  | true => exact e
theorem pw_and (ha : PT X a tA) (hb : PW X (.BoolOp .And (b :: rest) pos) tB') : PW X (.BoolOp .And (a :: b :: rest) pos) (tAnd tA tB') := by
  intro wh pins s σ H Q I h
  refine isTrue_and (thn (ha pins s σ H _ I h) fun c s1 ⟨H1, I1, q1⟩ => ?_)
  cases c with
  | true => exact hb wh pins s1 σ H1 Q I1 q1
  | false => exact ⟨H1, I1, q1⟩
theorem pw_or (ha : PT X a tA) (hb : PW X (.BoolOp .Or (b :: rest) pos) tB') : PW X (.BoolOp .Or (a :: b :: rest) pos) (tOr tA tB') := by
  intro wh pins s σ H Q I h
  refine isTrue_or (thn (ha pins s σ H _ I h) fun c s1 ⟨H1, I1, q1⟩ => ?_)
  cases c with
  | true => exact ⟨H1, I1, q1⟩
  | false => exact hb wh pins s1 σ H1 Q I1 q1
theorem pt_not (ha : PT X a tA) : PT X (.UnaryOp .Not a pos) (tNot tA) := by
  intro pins s σ H Q I h
  exact isTrue_not (ha pins s σ H (fun c H1 => Q (!c) H1) I h)
noncomputable def tAndV (ta tb : TE) : TE := fun σ H Q => ta σ H fun x H1 => ∃ c, x = .bl c ∧ if c = true then tb σ H1 Q else Q (.bl false) H1
noncomputable def tOrV (ta tb : TE) : TE := fun σ H Q => ta σ H fun x H1 => ∃ c, x = .bl c ∧ if c = true then Q (.bl true) H1 else tb σ H1 Q
noncomputable def tNotV (ta : TE) : TE := fun σ H Q => ta σ H fun x H1 => ∃ c, x = .bl c ∧ Q (.bl (!c)) H1
theorem pe_one {op} {t : TE} (h : PE X a t) : PE X (.BoolOp op [a] pos) t := fun pins s σ H Q I hw => BoolOp_one (h pins s σ H Q I hw)
theorem pe_and (ha : PE X a ta) (hb : PE X (.BoolOp .And (b :: rest) pos) tb) : PE X (.BoolOp .And (a :: b :: rest) pos) (tAndV ta tb) := by
  intro pins s σ H Q I h
  refine BoolOp_and (thn (ha pins s σ H _ I h) fun v s1 ⟨x, H1, I1, r1, q1⟩ => ?_)
  obtain ⟨c, rfl, q1⟩ := q1
  cases r1
  refine wpAny_truthy_bool ?_
  cases c with
  | true => exact hb pins s1 σ H1 Q I1 q1
  | false => exact ⟨.bl false, H1, I1, rfl, q1⟩
theorem pe_or (ha : PE X a ta) (hb : PE X (.BoolOp .Or (b :: rest) pos) tb) : PE X (.BoolOp .Or (a :: b :: rest) pos) (tOrV ta tb) := by
  intro pins s σ H Q I h
  refine BoolOp_or (thn (ha pins s σ H _ I h) fun v s1 ⟨x, H1, I1, r1, q1⟩ => ?_)
  obtain ⟨c, rfl, q1⟩ := q1
  cases r1
  refine wpAny_truthy_bool ?_
  cases c with
  | false => exact hb pins s1 σ H1 Q I1 q1
  | true => exact ⟨.bl true, H1, I1, rfl, q1⟩
theorem pe_not (ha : PE X a ta) : PE X (.UnaryOp .Not a pos) (tNotV ta) := by
  intro pins s σ H Q I h
  refine UnaryOp_ (thn (ha pins s σ H _ I h) fun v s1 ⟨x, H1, I1, r1, q1⟩ => ?_)
  obtain ⟨c, rfl, q1⟩ := q1
  cases r1
  exact not_of (wpAny_truthy_bool ⟨.bl (!c), H1, I1, rfl, q1⟩)
noncomputable def tIf (t : TT) (ta tb : TE) : TE := fun σ H Q => t σ H fun c H1 => if c = true then ta σ H1 Q else tb σ H1 Q
theorem pe_ifExp {c : Expr} (hc : PT X c tA) (ha : PE X a ta) (hb : PE X b tb) : PE X (.IfExp c a b pos) (tIf tA ta tb) := by
  intro pins s σ H Q I h
  refine wpAny_IfExp (thn (hc pins s σ H _ I h) fun d s1 ⟨H1, I1, q1⟩ => ?_)
  cases d with
  | true => exact ha pins s1 σ H1 Q I1 q1
  | false => exact hb pins s1 σ H1 Q I1 q1
end
end L2
namespace L2
open PySem PySem.Spec PyProof.Rows
noncomputable def SqL (K : PySem.W.Frag) (H : Hp) (a : Addr) (xs : List V) : Prop :=
  Rd H a (.lst xs) ∨
    ∃ (o : Obj) (its : Array Value) (n : Nat), K.lookup a = some o ∧ o.cls = .type "list" ∧ o.dict = none ∧ o.data = .seq its n ∧ its.size ≤ sizeLine ∧ Vals xs its.toList
noncomputable def SqT (K : PySem.W.Frag) (H : Hp) (a : Addr) (xs : List V) : Prop :=
  Rd H a (.tup xs) ∨
    ∃ (o : Obj) (its : Array Value) (n : Nat), K.lookup a = some o ∧ o.cls = .type "tuple" ∧ o.dict = none ∧ o.data = .seq its n ∧ its.size ≤ sizeLine ∧ Vals xs its.toList
noncomputable def absV : Value → Option V
  | .none => some .non
  | .bool b => some (.bl b)
  | .int i _ => some (.int i)
  | .str x _ => some (.str x)
  | .bytes b _ => some (.byt b)
  | .float b _ => some (.flt b)
  | .ref a => some (.ref a)
  | .type n => some (.ty n)
  | _ => none
theorem RelV.abs {x : V} {u : Value} (r : RelV x u) : absV u = some x := by
  cases x with
  | non => cases r; rfl
  | bl _ => cases r; rfl
  | int _ => obtain ⟨t, rfl⟩ := r; rfl
  | str _ => obtain ⟨t, rfl⟩ := r; rfl
  | byt _ => obtain ⟨t, rfl⟩ := r; rfl
  | flt _ => obtain ⟨t, rfl⟩ := r; rfl
  | ref _ => cases r; rfl
  | ty _ => cases r; rfl
theorem RelV.inj {x y : V} {u : Value} (r : RelV x u) (q : RelV y u) : x = y := Option.some.inj (r.abs.symm.trans q.abs)
theorem Vals.inj : ∀ {xs ys : List V} {us : List Value}, Vals xs us → Vals ys us → xs = ys
  | _, _, _, .nil, .nil => rfl
  | _, _, _, .cons r t, .cons r' t' => by rw [r.inj r', Vals.inj t t']
section
variable {X : Cx} {pins : List (Addr × Obj)} {σ : St} {H : Hp} {s : Shared} {a : Addr} {xs ys : List V}
theorem SqL.of {K : PySem.W.Frag} (h : H a = some (.lst xs)) : SqL K H a xs := .inl (.inl h)
theorem SqT.of {K : PySem.W.Frag} (h : H a = some (.tup xs)) : SqT K H a xs := .inl (.inl h)
theorem Inv.list (I : Inv X pins σ H s) (h : SqL X.K H a xs) : ∃ its : List Value, Vals xs its ∧ PlainL s.heap a its.toArray ∧ xs.length ≤ sizeLine := by
  rcases h with h | ⟨o, its, n, hk, hc, hd, hs, hz, r⟩
  · obtain ⟨z, its, n, r, e⟩ := h.ok I.hok
    exact ⟨its, r, ⟨_, n, e, rfl, rfl, rfl⟩, z⟩
  · refine ⟨its.toList, r, ⟨o, n, I.kIn a o hk, hc, hd, by simpa using hs⟩, ?_⟩
    have e := r.length
    simp only [Array.length_toList] at e
    omega
theorem Inv.tupN (I : Inv X pins σ H s) (h : SqT X.K H a xs) : ∃ its : List Value, Vals xs its ∧ TupN s.heap a its.toArray ∧ xs.length ≤ sizeLine := by
  rcases h with h | ⟨o, its, n, hk, hc, hd, hs, hz, r⟩
  · obtain ⟨z, its, r, p⟩ := h.ok I.hok
    exact ⟨its, r, p, z⟩
  · refine ⟨its.toList, r, ⟨o, I.kIn a o hk, ⟨hc, n, by simpa using hs⟩, hd⟩, ?_⟩
    have e := r.length
    simp only [Array.length_toList] at e
    omega
theorem Inv.tuple (I : Inv X pins σ H s) (h : SqT X.K H a xs) : ∃ its : List Value, Vals xs its ∧ IsTup s.heap a its.toArray ∧ xs.length ≤ sizeLine := let ⟨its, r, p, z⟩ := I.tupN h; ⟨its, r, p.tup, z⟩
theorem Inv.list_inj (I : Inv X pins σ H s) (h : SqL X.K H a xs) (h' : SqL X.K H a ys) : xs = ys := by
  obtain ⟨its, r, ⟨o, n, e, _, _, d⟩, _⟩ := I.list h
  obtain ⟨its', r', ⟨o', n', e', _, _, d'⟩, _⟩ := I.list h'
  rw [e] at e'; cases e'
  rw [d] at d'
  injection d' with d1 _
  have : its = its' := by simpa using congrArg Array.toList d1
  subst this
  exact r.inj r'
theorem Inv.tuple_inj (I : Inv X pins σ H s) (h : SqT X.K H a xs) (h' : SqT X.K H a ys) : xs = ys := by
  obtain ⟨its, r, ⟨o, e, _, n, d⟩, _⟩ := I.tuple h
  obtain ⟨its', r', ⟨o', e', _, n', d'⟩, _⟩ := I.tuple h'
  rw [e] at e'; cases e'
  rw [d] at d'
  injection d' with d1 _
  have : its = its' := by simpa using congrArg Array.toList d1
  subst this
  exact r.inj r'
end
noncomputable abbrev Cx.wish (X : Cx) (E : Value → Shared → Prop) : Cx := { X with xe := E }
noncomputable abbrev Cx.nox (X : Cx) : Cx := X.wish fun _ _ => False
theorem Cx.Ok.wish {X : Cx} (ok : X.Ok) (E : Value → Shared → Prop) : (X.wish E).Ok :=
  ⟨ok.mod, ok.kind, ok.glob, ok.blt, ok.above, ok.inj, ok.has, ok.cab, ok.hd, ok.frames, ok.stk, ok.exf, ok.bs, ok.bsz, ok.noex, ok.exfs, ok.funs, ok.frf⟩
theorem Cx.Ok.unwish {X : Cx} {E : Value → Shared → Prop} (ok : (X.wish E).Ok) : X.Ok :=
  ⟨ok.mod, ok.kind, ok.glob, ok.blt, ok.above, ok.inj, ok.has, ok.cab, ok.hd, ok.frames, ok.stk, ok.exf, ok.bs, ok.bsz, ok.noex, ok.exfs, ok.funs, ok.frf⟩
section
variable {X : Cx} {pins : List (Addr × Obj)} {σ : St} {H : Hp} {s : Shared} {E : Value → Shared → Prop}
theorem Inv.wish (I : Inv X pins σ H s) (E : Value → Shared → Prop) : Inv (X.wish E) pins σ H s := ⟨I.ok.wish E, I.os, I.bare, I.base, I.loc, I.cell, I.free, I.freeC, I.pin, I.hok, I.len⟩
theorem Inv.unwish (I : Inv (X.wish E) pins σ H s) : Inv X pins σ H s := ⟨I.ok.unwish, I.os, I.bare, I.base, I.loc, I.cell, I.free, I.freeC, I.pin, I.hok, I.len⟩
theorem SP.unwish {D : Ends} {f : Flow} {s' : Shared} (h : SP (X.wish E) pins D f s') : SP X pins D f s' := by
  cases f with
  | next => obtain ⟨σ', H', I, q⟩ := h; exact ⟨σ', H', I.unwish, q⟩
  | brk => obtain ⟨σ', H', I, q⟩ := h; exact ⟨σ', H', I.unwish, q⟩
  | cont => obtain ⟨σ', H', I, q⟩ := h; exact ⟨σ', H', I.unwish, q⟩
  | ret u => obtain ⟨v, σ', H', I, r, q⟩ := h; exact ⟨v, σ', H', I.unwish, r, q⟩
theorem PE.nox {e : Expr} {t : TE} (h : PE X.nox e t) : PE X e t := fun pins s σ H Q I hw =>
  wpAny_mono (h pins s σ H Q (I.wish _) hw) (fun _ _ ⟨v, H', I', r, q⟩ => ⟨v, H', I'.unwish, r, q⟩) fun _ _ z => False.elim z
theorem PT.nox {e : Expr} {t : TT} (h : PT X.nox e t) : PT X e t := fun pins s σ H Q I hw =>
  wpAny_mono (h pins s σ H Q (I.wish _) hw) (fun _ _ ⟨H', I', q⟩ => ⟨H', I'.unwish, q⟩) fun _ _ z => False.elim z
theorem PSs.nox {st : List Stmt} {t : TS} (h : PSs X.nox st t) : PSs X st t := fun pins s σ H D I hw =>
  wpAny_mono (h pins s σ H D (I.wish _) hw) (fun _ _ q => q.unwish) fun _ _ z => False.elim z
end
section
variable {X : Cx} {st : Stmt} {rest : List Stmt} {t u : TS} {e : Expr} {te : TE} {pos : Pos}
noncomputable def tNext : TS := fun D σ H => D.nx σ H
noncomputable def tSeq (t u : TS) : TS := fun D σ H => t { D with nx := u D } σ H
theorem pss_nil : PSs X [] tNext := fun _ _ σ H _ I h => wpAny_execs_nil ⟨σ, H, I, h⟩
theorem pss_cons (h1 : PS X st t) (h2 : PSs X rest u) : PSs X (st :: rest) (tSeq t u) := by
  intro pins s σ H D I h
  refine wpAny_execs_cons (thn (h1 pins s σ H { D with nx := u D } I h) fun f s1 q => ?_)
  cases f with
  | next =>
    obtain ⟨σ', H', I', q⟩ := q
    exact h2 pins s1 σ' H' D I' q
  | ret v => exact q
  | brk => exact q
  | cont => exact q
theorem pss_one (h1 : PS X st t) : PSs X [st] t := by
  intro pins s σ H D I h
  refine wpAny_execs_cons (thn (h1 pins s σ H D I h) fun f s1 q => ?_)
  cases f with
  | next => exact wpAny_execs_nil q
  | ret v => exact q
  | brk => exact q
  | cont => exact q
theorem Inv.quiet {pins : List (Addr × Obj)} {σ : St} {H : Hp} {s : Shared} (I : Inv X pins σ H s) : interactive X.env = false := by simp [interactive, I.ok.kind]
noncomputable def tDrop (te : TE) : TS := fun D σ H => te σ H fun _ H1 => D.nx σ H1
theorem ps_expr (he : PE X e te) (hs : swapsWith e none pos.line X.env = pure false := by rfl) : PS X (.Expr e pos) (tDrop te) := by
  intro pins s σ H D I h
  exact wpAny_Expr_any (thn (he pins s σ H _ I h) fun v s1 ⟨x, H1, I1, r1, q1⟩ => ⟨σ, H1, I1, q1⟩) I.quiet hs
noncomputable def tRet (te : TE) : TS := fun D σ H => te σ H D.rt
theorem ps_ret (he : PE X e te) : PS X (.Return (some e) pos) (tRet te) := by
  intro pins s σ H D I h
  exact wpAny_Return_some (thn (he pins s σ H _ I h) fun v s1 ⟨x, H1, I1, r1, q1⟩ => ⟨x, σ, H1, I1, r1, q1⟩)
noncomputable def tIfS (c : TT) (t u : TS) : TS := fun D σ H => c σ H fun b H1 => if b = true then t D σ H1 else u D σ H1
theorem ps_if {c : Expr} {a b : List Stmt} {tc : TT} (hc : PT X c tc) (ha : PSs X a t) (hb : PSs X b u) : PS X (.If c a b pos) (tIfS tc t u) := by
  intro pins s σ H D I h
  refine wpAny_If (thn (hc pins s σ H _ I h) fun d s1 ⟨H1, I1, q1⟩ => ?_)
  cases d with
  | true => exact ha pins s1 σ H1 D I1 q1
  | false => exact hb pins s1 σ H1 D I1 q1
end
noncomputable abbrev TG := V → St → Hp → (St → Hp → Prop) → Prop
noncomputable abbrev TGs := List V → St → Hp → (St → Hp → Prop) → Prop
noncomputable def PG (X : Cx) (target : Expr) (t : TG) : Prop :=
  ∀ (pins : List (Addr × Obj)) (s : Shared) (σ : St) (H : Hp) (v : V) (u : Value) (Q : St → Hp → Prop), Inv X pins σ H s → RelV v u → t v σ H Q →
    wpAny (model X.prog X.w) X.A (assign target X.env u) (fun _ s' => ∃ σ' H', Inv X pins σ' H' s' ∧ Q σ' H') X.xe s
noncomputable def PGs (X : Cx) (ts : List Expr) (t : TGs) : Prop :=
  ∀ (pins : List (Addr × Obj)) (s : Shared) (σ : St) (H : Hp) (vs : List V) (us : List Value) (Q : St → Hp → Prop), Inv X pins σ H s → Vals vs us → t vs σ H Q →
    wpAny (model X.prog X.w) X.A (assignInOrder ((assignEach ts X.env).map (·.2)) us) (fun _ s' => ∃ σ' H', Inv X pins σ' H' s' ∧ Q σ' H') X.xe s
noncomputable abbrev TSet := V → V → V → Hp → (Hp → Prop) → Prop
noncomputable def PSet (X : Cx) (t : TSet) : Prop :=
  ∀ (pins : List (Addr × Obj)) (s : Shared) (σ : St) (H : Hp) (o i v : V) (ov iv u : Value) (Q : Hp → Prop), Inv X pins σ H s → RelV o ov → RelV i iv → RelV v u → t o i v H Q →
    wpAny (model X.prog X.w) X.A (setItem ov iv u) (fun _ s' => ∃ H', Inv X pins σ H' s' ∧ Q H') X.xe s
noncomputable abbrev TIp := V → V → Hp → VK → Prop
noncomputable def PIp (X : Cx) (op : Operator) (t : TIp) : Prop :=
  ∀ (pins : List (Addr × Obj)) (s : Shared) (σ : St) (H : Hp) (x y : V) (v u : Value) (Q : VK), Inv X pins σ H s → RelV x v → RelV y u → t x y H Q →
    wpAny (model X.prog X.w) X.A (inplaceOp op v u) (EP X pins σ Q) X.xe s
section
variable {X : Cx} {pos : Pos}
noncomputable def gName (i : Nat) : TG := fun v σ H Q => Q (σ.set i (some v)) H
theorem pg_name {i : Nat} {x : Str} (hN : X.N.Nodup) (hi : X.N[i]? = some x) (hx : Loc X.env.scope x) (hf : X.fn x = true ∨ X.env.scope.names.lookup x = some .local := by first | exact .inl rfl | exact .inr rfl | assumption) : PG X (.Name x pos) (gName i) := by
  intro pins s σ H v u Q I r h
  exact wpAny_assign_Name (store_ok I hN hi hx r (fun s' I' => ⟨_, H, I', h⟩) hf)
noncomputable def gNil : TGs := fun vs σ H Q => vs = [] ∧ Q σ H
noncomputable def gCons (t : TG) (u : TGs) : TGs := fun vs σ H Q => ∃ v r, vs = v :: r ∧ t v σ H fun σ' H' => u r σ' H' Q
theorem pgs_nil : PGs X [] gNil := by
  intro pins s σ H vs us Q I r h
  obtain ⟨e, h⟩ := h
  subst e
  cases r
  exact assignInOrder_nil ⟨σ, H, I, h⟩
theorem pgs_cons {e : Expr} {es : List Expr} {t : TG} {u : TGs} (h1 : PG X e t) (h2 : PGs X es u)
    (hs : (assignEach (e :: es) X.env).map (·.2) = assign e X.env :: (assignEach es X.env).map (·.2) := by rfl) : PGs X (e :: es) (gCons t u) := by
  intro pins s σ H vs us Q I r h
  obtain ⟨v, vr, e1, h⟩ := h
  subst e1
  cases r with
  | cons r rr =>
    rw [hs]
    refine assignInOrder_cons (thn (h1 pins s σ H _ _ _ I r h) fun _ s1 ⟨σ1, H1, I1, q1⟩ => ?_)
    exact h2 pins s1 σ1 H1 _ _ Q I1 rr q1
noncomputable def gTup (K : PySem.W.Frag) (n : Nat) (t : TGs) : TG := fun v σ H Q => ∃ a xs, v = .ref a ∧ SqT K H a xs ∧ xs.length = n ∧ t xs σ H Q
theorem pg_tup {es : List Expr} {k : Nat} {t : TGs} {n : Nat} (hc : X.calm = true) (h : PGs X es t)
    (hn : (assignEach es X.env).length = n := by rfl) (hst : (assignEach es X.env).findIdx? (·.1) = none := by rfl) : PG X (.Tuple es k pos) (gTup X.K n t) := by
  intro pins s σ H v u Q I r hw
  obtain ⟨a, xs, e1, hq, hl, hw⟩ := hw
  subst e1
  cases r
  obtain ⟨its, rv, ht, hz⟩ := I.tuple hq
  refine assign_Tuple_tuple (I.ok.hd hc) ht (by simp [hn, ← hl, rv.length]) hst fun h' hx => ?_
  have I1 : Inv X pins σ H { s with heap := h' } := I.kept (t' := s.toks) fun b o e => hx b o (Nat.ne_of_lt (Heap.lt_size e)) e
  exact h pins _ σ H xs _ Q I1 (by simpa using rv) hw
noncomputable def gSub (to ti : TE) (t : TSet) : TG := fun v σ H Q => to σ H fun o H1 => ti σ H1 fun i H2 => t o i v H2 fun H3 => Q σ H3
theorem pg_sub {o i : Expr} {to ti : TE} {t : TSet} (ho : PE X o to) (hi : PE X i ti) (hs : PSet X t)
    (ha : ∀ v, assign (.Subscript o i pos) X.env v = (do
      let ov ← holding [v] (eval o X.env)
      let iv ← holding [v, ov] (eval i X.env)
      standAt pos
      holding [v, ov, iv] (setItem ov iv v)
      release [v, ov, iv] []) := by intro _; rfl) : PG X (.Subscript o i pos) (gSub to ti t) := by
  intro pins s σ H v u Q I r h
  rw [ha]
  refine wpAny_bind (wpAny_holding (thn (ho pins s σ H _ I h) fun ov s1 ⟨x, H1, I1, r1, q1⟩ => ?_))
  refine wpAny_bind (wpAny_holding (thn (hi pins s1 σ H1 _ I1 q1) fun iv s2 ⟨y, H2, I2, r2, q2⟩ => ?_))
  refine wpAny_bind (wpAny_standAt (wpAny_bind (wpAny_holding (thn (hs pins s2 σ H2 x y v ov iv u _ I2 r1 r2 r q2) fun _ s3 ⟨H3, I3, q3⟩ => ?_))))
  exact wpAny_release ⟨σ, H3, I3, q3⟩
noncomputable def tAsg (te : TE) (g : TG) : TS := fun D σ H => te σ H fun x H1 => g x σ H1 D.nx
theorem ps_asg {tg e : Expr} {te : TE} {g : TG} (he : PE X e te) (hg : PG X tg g) (hs : swapsWithSole [tg] e pos.line X.env = pure false := by rfl) (hw : swappedStores [tg] e X.env = pure none := by rfl)
    (h1 : (assignEach [tg] X.env).map (·.2) = [assign tg X.env] := by rfl) : PS X (.Assign [tg] e pos) (tAsg te g) := by
  intro pins s σ H D I h
  refine wpAny_Assign_stores (thn (he pins s σ H _ I h) fun v s1 ⟨x, H1, I1, r1, q1⟩ => ?_) hs hw
  rw [h1]
  exact thn (hg pins s1 σ H1 x v _ I1 r1 q1) fun _ s2 q => q
theorem ps_set {i : Nat} {x : Str} {e : Expr} {te : TE} {pos' : Pos} (hN : X.N.Nodup) (hi : X.N[i]? = some x) (hx : Loc X.env.scope x) (he : PE X e te) (hs : swapsWith e (some (.Name x pos')) pos.line X.env = pure false := by rfl) (hf : X.fn x = true ∨ X.env.scope.names.lookup x = some .local := by first | exact .inl rfl | exact .inr rfl | assumption) :
    PS X (.Assign [.Name x pos'] e pos) (tAsg te (gName i)) := by
  intro pins s σ H D I h
  refine wpAny_Assign_Name (thn (he pins s σ H _ I h) fun v s1 ⟨y, H1, I1, r1, q1⟩ => ?_) hs
  exact store_ok I1 hN hi hx r1 (fun s2 I2 => ⟨_, H1, I2, q1⟩) hf
noncomputable def tAug (i : Nat) (te : TE) (ti : TIp) : TS := fun D σ H => ∃ x, σ[i]? = some (some x) ∧ te σ H fun y H1 => ti x y H1 fun z H2 => D.nx (σ.set i (some z)) H2
theorem ps_aug {i : Nat} {x : Str} {e : Expr} {te : TE} {op : Operator} {ti : TIp} {pos' : Pos} (hN : X.N.Nodup) (hi : X.N[i]? = some x) (hx : Loc X.env.scope x) (he : PE X e te) (ho : PIp X op ti) (hf : X.fn x = true ∨ X.env.scope.names.lookup x = some .local := by first | exact .inl rfl | exact .inr rfl | assumption) :
    PS X (.AugAssign (.Name x pos') op e pos) (tAug i te ti) := by
  intro pins s σ H D I h
  obtain ⟨v, e1, h⟩ := h
  obtain ⟨m, hn, hl⟩ := I.loc
  have vis : Vis X.env.scope x := by rcases hx with k | k; exact .inl k; exact .inr (.inl k)
  obtain ⟨u, r, l⟩ := hl i x v hi e1 vis
  refine wpAny_AugAssign_Name ?_
  have go : wpAny (model X.prog X.w) X.A (eval e X.env) (fun w s₂ => wpAny (model X.prog X.w) X.A (inplaceOp op u w) (fun r s₃ => wpAny (model X.prog X.w) X.A (storeName X.env x r) (fun _ => SP X pins D .next) X.xe s₃) X.xe s₂) X.xe s := by
    refine thn (he pins s σ H _ I h) fun w s1 ⟨y, H1, I1, r1, q1⟩ => ?_
    refine thn (ho pins s1 σ H1 v y u w _ I1 r r1 q1) fun z s2 ⟨zv, H2, I2, r2, q2⟩ => ?_
    exact store_ok I2 hN hi hx r2 (fun s3 I3 => ⟨_, H2, I3, q2⟩) hf
  rcases l with ⟨hk, hm⟩ | ⟨hk, c, hc, hcell⟩
  · exact wpAny_loadName_local I.ok.kind hk hn hm go
  · rcases hk with hk | hk
    · exact wpAny_loadName_cell I.ok.kind hk hc hcell go
    · rcases hx with k | k
      · have : X.env.scope.names.lookup x = some .free := hk
        rw [k] at this; cases this
      · have : X.env.scope.names.lookup x = some .free := hk
        rw [k] at this; cases this
end
section
variable {X : Cx} {pos : Pos}
end
structure It where
  go : Nat → Hp → Prop
  yld : Nat → Hp → V → Hp → Prop
  stop : Nat → Hp → Prop
noncomputable def FpOk (X : Cx) (pins : List (Addr × Obj)) (H : Hp) (b : Addr) : Prop :=
  H b = none ∧ b ≠ X.env.locals ∧ b ∉ X.fs ∧ (b ∈ X.ex ∨ X.s₀.heap.objs.size ≤ b) ∧ (∀ x c, X.env.cells.lookup x = some c → c ≠ b) ∧ ∀ p ∈ X.pn ++ pins, p.1 ≠ b
theorem Inv.fpOk {X : Cx} {pins : List (Addr × Obj)} {σ : St} {H H' : Hp} {s : Shared} {b : Addr} (I : Inv X pins σ H s) (hb : s.heap.objs.size ≤ b) (hn : H' b = none) : FpOk X pins H' b := by
  refine ⟨hn, Nat.ne_of_gt (Nat.lt_of_lt_of_le I.lt hb), I.nofs hb, .inr (Nat.le_trans I.sz hb), fun x c e z => ?_, fun p hp z => ?_⟩
  · obtain ⟨v, q⟩ := I.cell x c e
    exact absurd (Nat.lt_of_lt_of_le q.lt (by rw [z]; exact hb)) (Nat.lt_irrefl _)
  · exact absurd (Nat.lt_of_lt_of_le (Heap.lt_size (I.pin p hp).1) (by rw [z]; exact hb)) (Nat.lt_irrefl _)
structure Turn (P : Program) (w : World) (K : PySem.W.Frag) (tg : Expr) (J : It) (fp : List Addr) (it : Addr) (tn : Nat → Heap → Prop) : Prop where
  mem : it ∈ fp
  obj : ∀ i h, tn i h → ∀ b ∈ fp, ∃ o, h.get? b = some o ∧ ∀ v, o.data ≠ .cell v
  keep : ∀ i h h', tn i h → (∀ b ∈ fp, ∀ o, h.get? b = some o → h'.get? b = some o) → tn i h'
  item : ∀ (X : Cx), X.prog = P → X.w = w → X.K = K → X.calm = true → ∀ (i : Nat) (pins : List (Addr × Obj)) (s : Shared) (σ : St) (H : Hp) (E : Value → Shared → Prop), Inv X pins σ H s → (∀ b ∈ fp, FpOk X pins H b) → tn i s.heap → J.go i H →
    wpAny (model P w) X.A (pyNext (.ref it)) (fun r s1 => ∃ u, r = some u ∧
      wpAny (model P w) X.A (letOwnedTupleGo tg (.ref it) u) (fun _ s2 => ∃ x H', Inv X pins σ H' s2 ∧ RelV x u ∧ J.yld i H x H' ∧ tn (i + 1) s2.heap ∧ ∀ b ∈ fp, H' b = none) E s1) E s
  done : ∀ (X : Cx), X.prog = P → X.w = w → X.K = K → X.calm = true → ∀ (i : Nat) (pins : List (Addr × Obj)) (s : Shared) (σ : St) (H : Hp) (E : Value → Shared → Prop), Inv X pins σ H s → (∀ b ∈ fp, FpOk X pins H b) → tn i s.heap → J.stop i H →
    wpAny (model P w) X.A (pyNext (.ref it)) (fun r s1 => r = none ∧ Inv X pins σ H s1) E s
  self : ∀ (A : Around) (i : Nat) (s : Shared) (Q : Value → Shared → Prop) (E : Value → Shared → Prop), tn i s.heap → Q (.ref it) s → wpAny (model P w) A (pyIter (.ref it)) Q E s
noncomputable abbrev TI := St → Hp → (It → Hp → Prop) → Prop
noncomputable def PIE (X : Cx) (pins : List (Addr × Obj)) (σ : St) (tg : Expr) (R : It → Hp → Prop) (itv : Value) (s2 : Shared) : Prop :=
  ∃ (it : Addr) (fp : List Addr) (tn : Nat → Heap → Prop) (J : It) (H' : Hp), itv = .ref it ∧ Inv X pins σ H' s2 ∧ Turn X.prog X.w X.K tg J fp it tn ∧ tn 0 s2.heap ∧ (∀ b ∈ fp, FpOk X pins H' b) ∧ R J H'
noncomputable def PI (X : Cx) (tg iter : Expr) (wi : TI) : Prop :=
  ∀ (pins : List (Addr × Obj)) (s : Shared) (σ : St) (H : Hp) (R : It → Hp → Prop), Inv X pins σ H s → wi σ H R →
    wpAny (model X.prog X.w) X.A (eval iter X.env) (fun v s1 => wpAny (model X.prog X.w) X.A (pyIter v) (PIE X pins σ tg R) X.xe s1) X.xe s
theorem go_of {M : Model} {A : Around} {E : Value → Shared → Prop} {s : Shared} {tg : Expr} {it : Addr} {u : Value} {o : Obj} {n : String} {vs : Array Value} {Q : Unit → Shared → Prop} (ho : s.heap.get? it = some o) (hc : o.cls = .type n) (hd : o.data = .fields vs)
    (hn : ["enumerate", "zip", "dict_itemiterator", "dict_reverseitemiterator", "odict_iterator", "itertools.zip_longest", "itertools.pairwise"].contains n = false) (hQ : Q () s) : wpAny M A (letOwnedTupleGo tg (.ref it) u) Q E s := by
  unfold letOwnedTupleGo
  cases tg <;> first
    | exact wpAny_pure hQ
    | (cases u <;> first
        | exact wpAny_pure hQ
        | (refine wpAny_bind (wpAny_load ho ?_)
           rw [hc, hd]
           show wpAny M A (if (["enumerate", "zip", "dict_itemiterator", "dict_reverseitemiterator", "odict_iterator", "itertools.zip_longest", "itertools.pairwise"].contains n && vs[0]? == some (rawInt _)) = true then _ else _) Q E s
           rw [if_neg (by intro h; rw [hn, Bool.false_and] at h; cases h)]
           exact wpAny_pure hQ))
noncomputable def Itl (K : PySem.W.Frag) (a : Addr) : It :=
  ⟨fun i H => ∃ xs x, SqL K H a xs ∧ xs[i]? = some x, fun i H x H' => H' = H ∧ ∀ xs, SqL K H a xs → xs[i]? = some x, fun i H => ∃ xs, SqL K H a xs ∧ xs.length ≤ i⟩
noncomputable def Itt (K : PySem.W.Frag) (a : Addr) : It :=
  ⟨fun i H => ∃ xs x, SqT K H a xs ∧ xs[i]? = some x, fun i H x H' => H' = H ∧ ∀ xs, SqT K H a xs → xs[i]? = some x, fun i H => ∃ xs, SqT K H a xs ∧ xs.length ≤ i⟩
noncomputable def Itr (lo : Int) (n : Nat) : It := ⟨fun i _ => i < n, fun i H x H' => H' = H ∧ x = .int (lo + i), fun i _ => n ≤ i⟩
theorem turn_list {P : Program} {w : World} {K : PySem.W.Frag} {tg : Expr} (a it : Addr) : Turn P w K tg (Itl K a) [it] it (fun i h => h.IsListIter it a i) where
  mem := by simp
  obj := fun i h st b hb => by
    have e : b = it := by simpa using hb
    subst e
    obtain ⟨o, e, c, d⟩ := st
    exact ⟨o, e, fun v z => by rw [d] at z; cases z⟩
  keep := fun i h h' st k => st.at fun o e => k it (by simp) o e
  item := by
    intro X hP hw hK hc i pins s σ H E I hf st hg
    subst hP hw hK
    obtain ⟨xs, x, hq, hx⟩ := hg
    obtain ⟨its, rv, p, hz⟩ := I.list hq
    obtain ⟨u, hu, ru⟩ := rv.get hx
    obtain ⟨f0, f1, f2, f3, f4, f5⟩ := hf it (by simp)
    refine wpAny_pyNext_list_item st p.isList (x := u) (by simpa using hu) fun h' st' sb => ?_
    have I1 : Inv X pins σ H { s with heap := h' } := I.turned (t' := s.toks) (fun b o hb e => (sb.2 b hb).trans e) f0 f1 f3 f4 f5
    obtain ⟨o, e, c, d⟩ := id st'
    exact ⟨u, rfl, go_of (s := { s with heap := h' }) e c d (by decide) ⟨x, H, I1, ru, ⟨rfl, fun ys hy => by rw [I.list_inj hy hq]; exact hx⟩, st', fun b hb => (hf b hb).1⟩⟩
  done := by
    intro X hP hw hK hc i pins s σ H E I hf st hg
    subst hP hw hK
    obtain ⟨xs, hq, hx⟩ := hg
    obtain ⟨its, rv, p, hz⟩ := I.list hq
    obtain ⟨f0, f1, f2, f3, f4, f5⟩ := hf it (by simp)
    have hl := rv.length
    exact wpAny_pyNext_list_end (I.ok.hd hc) st p.isList (by simp; omega) fun h' eb => ⟨rfl, I.turned (t' := s.toks) (fun b o hb e => eb b o hb e) f0 f1 f3 f4 f5⟩
  self := fun _ _ _ _ _ st h => wpAny_pyIter_listiter st h
theorem turn_tuple {P : Program} {w : World} {K : PySem.W.Frag} {tg : Expr} (a it : Addr) : Turn P w K tg (Itt K a) [it] it (fun i h => h.IsTupleIter it a i) where
  mem := by simp
  obj := fun i h st b hb => by
    have e : b = it := by simpa using hb
    subst e
    obtain ⟨o, e, c, d⟩ := st
    exact ⟨o, e, fun v z => by rw [d] at z; cases z⟩
  keep := fun i h h' st k => st.at fun o e => k it (by simp) o e
  item := by
    intro X hP hw hK hc i pins s σ H E I hf st hg
    subst hP hw hK
    obtain ⟨xs, x, hq, hx⟩ := hg
    obtain ⟨its, rv, p, hz⟩ := I.tuple hq
    obtain ⟨u, hu, ru⟩ := rv.get hx
    obtain ⟨f0, f1, f2, f3, f4, f5⟩ := hf it (by simp)
    refine wpAny_pyNext_tuple_item st (show s.heap.IsTuple a its.toArray from p) (x := u) (by simpa using hu) fun h' st' sb => ?_
    have I1 : Inv X pins σ H { s with heap := h' } := I.turned (t' := s.toks) (fun b o hb e => (sb.2 b hb).trans e) f0 f1 f3 f4 f5
    obtain ⟨o, e, c, d⟩ := id st'
    exact ⟨u, rfl, go_of (s := { s with heap := h' }) e c d (by decide) ⟨x, H, I1, ru, ⟨rfl, fun ys hy => by rw [I.tuple_inj hy hq]; exact hx⟩, st', fun b hb => (hf b hb).1⟩⟩
  done := by
    intro X hP hw hK hc i pins s σ H E I hf st hg
    subst hP hw hK
    obtain ⟨xs, hq, hx⟩ := hg
    obtain ⟨its, rv, p, hz⟩ := I.tuple hq
    obtain ⟨f0, f1, f2, f3, f4, f5⟩ := hf it (by simp)
    have hl := rv.length
    exact wpAny_pyNext_tuple_end (I.ok.hd hc) st (show s.heap.IsTuple a its.toArray from p) (by simp; omega) fun h' eb => ⟨rfl, I.turned (t' := s.toks) (fun b o hb e => eb b o hb e) f0 f1 f3 f4 f5⟩
  self := fun _ _ _ _ _ st h => wpAny_pyIter_tupleiter st h
theorem turn_range {P : Program} {w : World} {K : PySem.W.Frag} {tg : Expr} (it : Addr) (lo : Int) (n : Nat) : Turn P w K tg (Itr lo n) [it] it (fun i h => IsRangeIter h it (lo + (i : Nat) * 1) ((n : Int) - (i : Nat)) 1) where
  mem := by simp
  obj := fun i h st b hb => by
    have e : b = it := by simpa using hb
    subst e
    exact ⟨_, st, fun v z => by
      have z' : Data.fields _ = Data.cell v := z
      cases z'⟩
  keep := fun i h h' st k => k it (by simp) _ st
  item := by
    intro X hP hw hK hc i pins s σ H E I hf st hg
    subst hP hw hK
    obtain ⟨f0, f1, f2, f3, f4, f5⟩ := hf it (by simp)
    have W := Walks.range (prog := X.prog) (w := X.w) (I.ok.hd hc) it lo 1 n
    refine W.item i s _ _ hg st fun v h' tk hv st' kk => ?_
    obtain ⟨t, rfl⟩ := hv
    have I1 : Inv X pins σ H { s with heap := h', toks := tk } := I.turned (fun b o hb e => kk b o (by simpa using hb) e) f0 f1 f3 f4 f5
    refine ⟨_, rfl, go_of (s := { s with heap := h', toks := tk }) (n := "range_iterator") st' rfl rfl (by decide) ⟨.int (lo + i), H, I1, ⟨t, ?_⟩, ⟨rfl, rfl⟩, st', fun b hb => (hf b hb).1⟩⟩
    rw [Int.mul_one]
  done := by
    intro X hP hw hK hc i pins s σ H E I hf st hg
    subst hP hw hK
    obtain ⟨f0, f1, f2, f3, f4, f5⟩ := hf it (by simp)
    exact wpAny_pyNext_range_end (I.ok.hd hc) st (by have : n ≤ i := hg; omega) fun h' eb => ⟨rfl, I.turned (t' := s.toks) (fun b o hb e => eb b o hb e) f0 f1 f3 f4 f5⟩
  self := fun _ _ _ _ _ st h => wpAny_pyIter_rangeiter st h
end L2
namespace L2
open PySem PySem.Spec PyProof.Rows
section
variable {X : Cx} {tg : Expr}
noncomputable def iList (K : PySem.W.Frag) (tl : TE) : TI := fun σ H R => tl σ H fun x H1 => ∃ a, x = .ref a ∧ (∃ xs, SqL K H1 a xs) ∧ R (Itl K a) H1
noncomputable def iTup (K : PySem.W.Frag) (tl : TE) : TI := fun σ H R => tl σ H fun x H1 => ∃ a, x = .ref a ∧ (∃ xs, SqT K H1 a xs) ∧ R (Itt K a) H1
theorem pi_list {l : Expr} {tl : TE} (hl : PE X l tl) : PI X tg l (iList X.K tl) := by
  intro pins s σ H R I h
  refine thn (hl pins s σ H _ I h) fun v s1 ⟨x, H1, I1, r1, q1⟩ => ?_
  obtain ⟨a, e, ⟨xs, hq⟩, q⟩ := q1
  subst e
  cases r1
  obtain ⟨its, rv, p, hz⟩ := I1.list hq
  refine wpAny_pyIter_list p.isList ?_
  refine ⟨s1.heap.objs.size, [s1.heap.objs.size], _, _, H1, rfl, I1.kept (t' := s1.toks) fun b o e => Heap.get?_push_of_some _ e, turn_list a _, ⟨_, Heap.get?_push_size _ rfl, rfl, rfl⟩, fun b hb => ?_, q⟩
  have e : b = s1.heap.objs.size := by simpa using hb
  subst e
  exact I1.fpOk (Nat.le_refl _) (I1.hok.fresh (Nat.le_refl _))
theorem pi_tup {l : Expr} {tl : TE} (hl : PE X l tl) : PI X tg l (iTup X.K tl) := by
  intro pins s σ H R I h
  refine thn (hl pins s σ H _ I h) fun v s1 ⟨x, H1, I1, r1, q1⟩ => ?_
  obtain ⟨a, e, ⟨xs, hq⟩, q⟩ := q1
  subst e
  cases r1
  obtain ⟨its, rv, p, hz⟩ := I1.tuple hq
  refine wpAny_pyIter_tuple (show s1.heap.IsTuple a its.toArray from p) ?_
  refine ⟨s1.heap.objs.size, [s1.heap.objs.size], _, _, H1, rfl, I1.kept (t' := s1.toks) fun b o e => Heap.get?_push_of_some _ e, turn_tuple a _, ⟨_, Heap.get?_push_size _ rfl, rfl, rfl⟩, fun b hb => ?_, q⟩
  have e : b = s1.heap.objs.size := by simpa using hb
  subst e
  exact I1.fpOk (Nat.le_refl _) (I1.hok.fresh (Nat.le_refl _))
theorem range_it {pins : List (Addr × Obj)} {σ : St} {H : Hp} {s : Shared} {R : It → Hp → Prop} {E : Value → Shared → Prop} {lo hi : Int} {t u v : Tok} {tk : Nat} (I : Inv X pins σ H s) (h1 : -(2 ^ 62) ≤ lo) (h2 : lo < 2 ^ 62) (h3 : -(2 ^ 62) ≤ hi) (h4 : hi < 2 ^ 62)
    (q : R (Itr lo (hi - lo).toNat) H) : wpAny (model X.prog X.w) X.A (pyIter (.ref s.heap.objs.size)) (PIE X pins σ tg R) E { s with heap := s.heap.push { cls := .type "range", data := .fields #[.int lo t, .int hi u, .int 1 v] }, toks := tk } := by
  refine wpAny_pyIter_range (IsRange.new ..) (small_one h1 h2 h3 h4) ?_
  have I1 : Inv X pins σ H { s with heap := s.heap.push { cls := .type "range", data := .fields #[.int lo t, .int hi u, .int 1 v] }, toks := tk } := I.kept fun b o e => Heap.get?_push_of_some _ e
  refine ⟨(s.heap.push { cls := .type "range", data := .fields #[.int lo t, .int hi u, .int 1 v] }).objs.size, [(s.heap.push { cls := .type "range", data := .fields #[.int lo t, .int hi u, .int 1 v] }).objs.size], _, _, H, rfl,
    I1.kept (t' := tk) fun b o e => Heap.get?_push_of_some _ e, turn_range _ lo (hi - lo).toNat, ?_, fun b hb => ?_, q⟩
  · have e1 : lo + ((0 : Nat) : Int) * 1 = lo := by simp
    have e2 : (((hi - lo).toNat : Nat) : Int) - ((0 : Nat) : Int) = Builtin.Range.rangeSize lo hi 1 := by rw [rangeSize_one]; split <;> omega
    show IsRangeIter _ _ (lo + ((0 : Nat) : Int) * 1) ((((hi - lo).toNat : Nat) : Int) - ((0 : Nat) : Int)) 1
    rw [e1, e2]
    exact Heap.get?_push_size _ rfl
  · have e : b = (s.heap.push { cls := .type "range", data := .fields #[.int lo t, .int hi u, .int 1 v] }).objs.size := by simpa using hb
    subst e
    exact I1.fpOk (Nat.le_refl _) (I1.hok.fresh (Nat.le_refl _))
noncomputable def iRng1 (ta : TA) : TI := fun σ H R => ta σ H fun vs H1 => ∃ j : Int, vs = [.int j] ∧ -(2 ^ 62) ≤ j ∧ j < 2 ^ 62 ∧ R (Itr 0 j.toNat) H1
theorem pi_range1 {a : Expr} {ta : TA} {p pos : Pos} (hg : Gl X "range") (hm : X.mg "range" = none) (ha : PA X [a] ta) (hs : starEach [a] X.env = [(false, eval a X.env)] := by rfl) : PI X tg (.Call (.Name "range" p) [a] [] pos) (iRng1 ta) := by
  intro pins s σ H R I h
  refine Call_ (ld_blt I hg hm boot_range (PyProof.Rows.callWith_type1 (thn (ha pos pins s σ H _ I h) fun us s1 ⟨vs, H1, I1, r1, q1⟩ => ?_) hs rfl))
  obtain ⟨j, e, q1, q2, q⟩ := q1
  subst e
  cases r1 with
  | cons r rr =>
    cases rr
    obtain ⟨t, rfl⟩ := r
    exact call_range_1 (range_it I1 (by omega) (by omega) q1 q2 (by simpa using q))
noncomputable def tFor (wi : TI) (g : TG) (tb : TS) : TS := fun D σ H => wi σ H fun J H1 => ∃ W : Nat → Nat → St → Hp → Prop, (∃ m, W 0 m σ H1) ∧ ∀ i m σ H, W i m σ H →
  (J.stop i H ∧ D.nx σ H) ∨ (J.go i H ∧ ∃ N : St → Hp → Prop, (∀ σ' H', N σ' H' → ∃ m', m' < m ∧ W (i + 1) m' σ' H') ∧ ∀ x H', J.yld i H x H' → g x σ H' fun σ2 H2 => tb { D with nx := N, ct := N, bk := D.nx } σ2 H2)
noncomputable def pinsAt (fp : List Addr) (h : Heap) : List (Addr × Obj) := fp.filterMap fun b => (h.get? b).map fun o => (b, o)
theorem mem_pinsAt {fp : List Addr} {h : Heap} {b : Addr} {o : Obj} (hb : b ∈ fp) (e : h.get? b = some o) : (b, o) ∈ pinsAt fp h := List.mem_filterMap.mpr ⟨b, hb, by rw [e]; rfl⟩
theorem of_pinsAt {fp : List Addr} {h : Heap} {p : Addr × Obj} (hp : p ∈ pinsAt fp h) : p.1 ∈ fp ∧ h.get? p.1 = some p.2 := by
  obtain ⟨b, hb, e⟩ := List.mem_filterMap.mp hp
  cases q : h.get? b with
  | none => rw [q] at e; cases e
  | some o =>
    rw [q] at e
    have e' : (b, o) = p := Option.some.inj e
    subst e'
    exact ⟨hb, q⟩
theorem Inv.pinned {pins : List (Addr × Obj)} {σ : St} {H : Hp} {s : Shared} {fp : List Addr} (I : Inv X pins σ H s) (hf : ∀ b ∈ fp, FpOk X pins H b) (ho : ∀ b ∈ fp, ∃ o, s.heap.get? b = some o ∧ ∀ v, o.data ≠ .cell v) : Inv X (pins ++ pinsAt fp s.heap) σ H s :=
  I.pins_of fun p hp => (List.mem_append.mp hp).elim (fun z => I.pin p (List.mem_append_right _ z)) fun z => by
    obtain ⟨hb, e⟩ := of_pinsAt z
    obtain ⟨f0, f1, f2, _⟩ := hf p.1 hb
    obtain ⟨o, e', d⟩ := ho p.1 hb
    rw [e] at e'; cases e'
    exact ⟨e, f0, f1, f2, d⟩
theorem Inv.unpinned {pins pl : List (Addr × Obj)} {σ : St} {H : Hp} {s : Shared} (I : Inv X (pins ++ pl) σ H s) : Inv X pins σ H s := I.pins_of fun p hp => I.pin p (List.mem_append_right _ (List.mem_append_left _ hp))
theorem ps_for {iter : Expr} {body : List Stmt} {wi : TI} {g : TG} {tb : TS} {pos : Pos} (hp : PassesOwn (model X.prog X.w) X.A X.env X.xe) (hc : X.calm = true) (hi : PI X tg iter wi) (hg : PG X tg g) (hb : PSs X body tb)
    (hs : ∀ x, foldedSetIterable iter X.env x = pure x := by intro _; rfl) : PS X (.For tg iter body [] pos) (tFor wi g tb) := by
  intro pins s σ H D I h
  refine wpAny_For (thn (hi pins s σ H _ I h) fun v s1 h1 => thn h1 fun itv s2 h2 => ?_) hs
  obtain ⟨it, fp, tn, J, H2, e, I2, T, st2, f2, W, ⟨m0, w0⟩, turn⟩ := h2
  subst e
  -- what stays true of the iterator's objects through the loop
  have stat : ∀ {H' : Hp}, (∀ b ∈ fp, H' b = none) → ∀ b ∈ fp, FpOk X pins H' b := fun hn b hb => ⟨hn b hb, (f2 b hb).2⟩
  refine codeAny_forLoop_any (fun n s' => ∃ i σ' H', Inv X pins σ' H' s' ∧ tn i s'.heap ∧ (∀ b ∈ fp, H' b = none) ∧ W i n σ' H') ?_ m0 ⟨0, σ, H2, I2, st2, fun b hb => (f2 b hb).1, w0⟩
  rintro n s3 ⟨i, σ3, H3, I3, st3, fr3, w3⟩
  rcases turn i n σ3 H3 w3 with ⟨stop, qn⟩ | ⟨go, N, hN, step⟩
  · refine wpAny_passesOwn hp (thn (T.done X rfl rfl rfl hc i pins s3 σ3 H3 X.xe I3 (stat fr3) st3 stop) fun r s4 ⟨hr, I4⟩ => ?_)
    subst hr
    exact wpAny_execs_nil ⟨σ3, H3, I4, qn⟩
  · refine wpAny_passesOwn hp (thn (T.item X rfl rfl rfl hc i pins s3 σ3 H3 X.xe I3 (stat fr3) st3 go) fun r s4 ⟨u, hr, h4⟩ => ?_)
    subst hr
    refine wpAny_passesOwn hp (thn h4 fun _ s5 ⟨x, H5, I5, r5, y5, st5, fr5⟩ => ?_)
    have I5' := I5.pinned (stat fr5) (T.obj _ _ st5)
    refine wpAny_passesOwn hp (thn (hg _ s5 σ3 H5 x u _ I5' r5 (step x H5 y5)) fun _ s6 ⟨σ6, H6, I6, q6⟩ => ?_)
    refine wpAny_passesOwn hp (thn (hb _ s6 σ6 H6 _ I6 q6) fun f s7 q7 => ?_)
    have again : ∀ {σ7 : St} {H7 : Hp}, Inv X (pins ++ pinsAt fp s5.heap) σ7 H7 s7 → N σ7 H7 → ∃ m, m < n ∧ ∃ i σ' H', Inv X pins σ' H' s7 ∧ tn i s7.heap ∧ (∀ b ∈ fp, H' b = none) ∧ W i m σ' H' := fun {σ7 H7} I7 n7 => by
      obtain ⟨m', hm, w7⟩ := hN σ7 H7 n7
      refine ⟨m', hm, i + 1, σ7, H7, I7.unpinned, T.keep _ _ _ st5 fun b hb o e => (I7.pin (b, o) (List.mem_append_right _ (List.mem_append_right _ (mem_pinsAt hb e)))).1, fun b hb => ?_, w7⟩
      obtain ⟨o, e, d⟩ := T.obj _ _ st5 b hb
      exact (I7.pin (b, o) (List.mem_append_right _ (List.mem_append_right _ (mem_pinsAt hb e)))).2.1
    cases f with
    | next => obtain ⟨σ7, H7, I7, n7⟩ := q7; exact again I7 n7
    | cont => obtain ⟨σ7, H7, I7, n7⟩ := q7; exact again I7 n7
    | brk => obtain ⟨σ7, H7, I7, q7⟩ := q7; exact ⟨σ7, H7, I7.unpinned, q7⟩
    | ret v => obtain ⟨x7, σ7, H7, I7, r7, q7⟩ := q7; exact ⟨x7, σ7, H7, I7.unpinned, r7, q7⟩
end
end L2
namespace L2
open PySem PySem.Spec PyProof.Rows
noncomputable abbrev R2 := V → V → Hp → VK → Prop
noncomputable def OpR (X : Cx) (f : Value → Value → Sem Value) (r : R2) : Prop :=
  ∀ (pins : List (Addr × Obj)) (s : Shared) (σ : St) (H : Hp) (x y : V) (v u : Value) (Q : VK), Inv X pins σ H s → RelV x v → RelV y u → r x y H Q →
    wpAny (model X.prog X.w) X.A (f v u) (EP X pins σ Q) X.xe s
noncomputable def UnR (X : Cx) (f : Value → Sem Value) (r : V → Hp → VK → Prop) : Prop :=
  ∀ (pins : List (Addr × Obj)) (s : Shared) (σ : St) (H : Hp) (x : V) (v : Value) (Q : VK), Inv X pins σ H s → RelV x v → r x H Q →
    wpAny (model X.prog X.w) X.A (f v) (EP X pins σ Q) X.xe s
noncomputable def CallR (X : Cx) (f : Value) (r : List V → Hp → VK → Prop) : Prop :=
  ∀ (pins : List (Addr × Obj)) (s : Shared) (σ : St) (H : Hp) (xs : List V) (us : List Value) (Q : VK), Inv X pins σ H s → Vals xs us → r xs H Q →
    wpAny (model X.prog X.w) X.A (call f us) (EP X pins σ Q) X.xe s
noncomputable def tOp (r : R2) (ta tb : TE) : TE := fun σ H Q => ta σ H fun x H1 => tb σ H1 fun y H2 => r x y H2 Q
noncomputable def tUn (r : V → Hp → VK → Prop) (ta : TE) : TE := fun σ H Q => ta σ H fun x H1 => r x H1 Q
noncomputable def rI (C : Int → Int → Prop) (g : Int → Int → V) : R2 := fun x y H Q => ∃ i j, x = .int i ∧ y = .int j ∧ C i j ∧ Q (g i j) H
noncomputable def rI0 (g : Int → Int → V) : R2 := fun x y H Q => ∃ i j, x = .int i ∧ y = .int j ∧ Q (g i j) H
noncomputable def rU (g : Int → V) : V → Hp → VK → Prop := fun x H Q => ∃ i, x = .int i ∧ Q (g i) H
section
variable {X : Cx} {a b c : Expr} {ta tb tc : TE} {pos : Pos}
theorem binT (ha : PE X a ta) (hb : PE X b tb) {pins : List (Addr × Obj)} {s : Shared} {σ : St} {H : Hp} {R : V → V → Hp → Prop} (I : Inv X pins σ H s)
    (h : ta σ H fun x H1 => tb σ H1 fun y H2 => R x y H2) {Q : Value → Shared → Prop} {f : Value → Value → Sem Value}
    (hf : ∀ v u s2 x y H2, Inv X pins σ H2 s2 → RelV x v → RelV y u → R x y H2 → wpAny (model X.prog X.w) X.A (f v u) Q X.xe s2) :
    wpAny (model X.prog X.w) X.A (eval a X.env) (fun v s₁ => wpAny (model X.prog X.w) X.A (eval b X.env) (fun u s₂ => wpAny (model X.prog X.w) X.A (f v u) Q X.xe s₂) X.xe s₁) X.xe s := by
  refine thn (ha pins s σ H _ I h) fun v s1 ⟨x, H1, I1, r1, q1⟩ => ?_
  refine thn (hb pins s1 σ H1 _ I1 q1) fun u s2 ⟨y, H2, I2, r2, q2⟩ => ?_
  exact hf v u s2 x y H2 I2 r1 r2 q2
theorem pe_op {op : Operator} {r : R2} (ho : OpR X (binaryOp op) r) (ha : PE X a ta) (hb : PE X b tb) : PE X (.BinOp a op b pos) (tOp r ta tb) := by
  intro pins s σ H Q I h
  exact wpAny_BinOp (binT ha hb I h fun v u s2 x y H2 I2 rx ry q => ho pins s2 σ H2 x y v u Q I2 rx ry q)
theorem pe_un {op : UnaryOp} {r : V → Hp → VK → Prop} (ho : UnR X (unaryOp op) r) (ha : PE X a ta) : PE X (.UnaryOp op a pos) (tUn r ta) := by
  intro pins s σ H Q I h
  exact UnaryOp_ (thn (ha pins s σ H _ I h) fun v s1 ⟨x, H1, I1, r1, q1⟩ => ho pins s1 σ H1 x v Q I1 r1 q1)
theorem opI {f : Value → Value → Sem Value} {C : Int → Int → Prop} {g : Int → Int → Int}
    (rule : ∀ (i j : Int) (t u : Tok) (s : Shared) (Q : Value → Shared → Prop) (E : Value → Shared → Prop), C i j → Q (.int (g i j) s.toks) { s with toks := s.toks + 1 } → wpAny (model X.prog X.w) X.A (f (.int i t) (.int j u)) Q E s) :
    OpR X f (rI C fun i j => .int (g i j)) := by
  intro pins s σ H x y v u Q I rx ry h
  obtain ⟨i, j, rfl, rfl, hc, q⟩ := h
  obtain ⟨t, rfl⟩ := rx
  obtain ⟨t', rfl⟩ := ry
  exact rule i j t t' s _ _ hc ⟨.int (g i j), H, I.tok _, ⟨_, rfl⟩, q⟩
theorem opI0 {f : Value → Value → Sem Value} {g : Int → Int → Int}
    (rule : ∀ (i j : Int) (t u : Tok) (s : Shared) (Q : Value → Shared → Prop) (E : Value → Shared → Prop), Q (.int (g i j) s.toks) { s with toks := s.toks + 1 } → wpAny (model X.prog X.w) X.A (f (.int i t) (.int j u)) Q E s) :
    OpR X f (rI0 fun i j => .int (g i j)) := by
  intro pins s σ H x y v u Q I rx ry h
  obtain ⟨i, j, rfl, rfl, q⟩ := h
  obtain ⟨t, rfl⟩ := rx
  obtain ⟨t', rfl⟩ := ry
  exact rule i j t t' s _ _ ⟨.int (g i j), H, I.tok _, ⟨_, rfl⟩, q⟩
theorem opB0 {f : Value → Value → Sem Value} {g : Int → Int → Bool}
    (rule : ∀ (i j : Int) (t u : Tok) (s : Shared) (Q : Value → Shared → Prop) (E : Value → Shared → Prop), Q (.bool (g i j)) s → wpAny (model X.prog X.w) X.A (f (.int i t) (.int j u)) Q E s) :
    OpR X f (rI0 fun i j => .bl (g i j)) := by
  intro pins s σ H x y v u Q I rx ry h
  obtain ⟨i, j, rfl, rfl, q⟩ := h
  obtain ⟨t, rfl⟩ := rx
  obtain ⟨t', rfl⟩ := ry
  exact rule i j t t' s _ _ ⟨.bl (g i j), H, I, rfl, q⟩
noncomputable def CDiv (i j : Int) : Prop := 0 < j ∧ j < 1073741824
noncomputable def CPow (i j : Int) : Prop := 0 ≤ j ∧ j ≤ 1000000 ∧ i.natAbs < 2 ^ 64
noncomputable def CMul (i j : Int) : Prop := (-(2 ^ 64) < i ∧ i < 2 ^ 64) ∨ (-(2 ^ 64) < j ∧ j < 2 ^ 64)
theorem CMul.ok {i j : Int} (h : CMul i j) : IntMulOk i j := by
  rcases h with ⟨h1, h2⟩ | ⟨h1, h2⟩
  · exact .of_left (intBits_le_64 h1 h2)
  · exact .of_right (intBits_le_64 h1 h2)
theorem op_add : OpR X (binaryOp .Add) (rI0 fun i j => .int (i + j)) := opI0 fun _ _ _ _ _ _ _ q => add_int q
theorem op_sub : OpR X (binaryOp .Sub) (rI0 fun i j => .int (i - j)) := opI0 fun _ _ _ _ _ _ _ q => sub_int q
theorem op_fdiv : OpR X (binaryOp .FloorDiv) (rI CDiv fun i j => .int (i / j)) := opI fun i j _ _ _ _ _ hc q => by
  have h1 : (0 : Int) < j := hc.1
  have h2 : j < 1073741824 := hc.2
  exact floordiv_int (by omega) (by rw [Int.fdiv_eq_ediv_of_nonneg i (by omega)]; exact q) (.inl (PyProof.noPylong_small (by omega)))
theorem op_mod : OpR X (binaryOp .Mod) (rI (fun _ j => 0 < j) fun i j => .int (i % j)) := opI fun i j _ _ _ _ _ hc q => by
  have h1 : (0 : Int) < j := hc
  exact mod_int' (by omega) (by rw [Int.fmod_eq_emod_of_nonneg i (by omega)]; exact q)
theorem op_pow : OpR X (binaryOp .Pow) (rI CPow fun i j => .int (i ^ j.toNat)) := opI fun _ _ _ _ _ _ _ hc q => pow_int_small hc.1 hc.2.1 hc.2.2 q
theorem unI {f : Value → Sem Value} {g : Int → Int}
    (rule : ∀ (i : Int) (t : Tok) (s : Shared) (Q : Value → Shared → Prop) (E : Value → Shared → Prop), Q (.int (g i) s.toks) { s with toks := s.toks + 1 } → wpAny (model X.prog X.w) X.A (f (.int i t)) Q E s) :
    UnR X f (rU fun i => .int (g i)) := by
  intro pins s σ H x v Q I rx h
  obtain ⟨i, rfl, q⟩ := h
  obtain ⟨t, rfl⟩ := rx
  exact rule i t s _ _ ⟨.int (g i), H, I.tok _, ⟨_, rfl⟩, q⟩
theorem un_neg : UnR X (unaryOp .USub) (rU fun i => .int (-i)) := unI fun _ _ _ _ _ q => neg_int q
end
section
variable {X : Cx} {a b c : Expr} {ta tb tc : TE} {pos : Pos}
theorem fin_bl {pins : List (Addr × Obj)} {σ : St} {H : Hp} {s : Shared} {Q : VK} {k k' : Bool} (I : Inv X pins σ H s) (q : Q (.bl k) H) (e : k = k') : EP X pins σ Q (.bool k') s := by
  subst e
  exact ⟨.bl k, H, I, rfl, q⟩
theorem op_le : OpR X (compareOp .LtE) (rI0 fun i j => .bl (decide (i ≤ j))) := opB0 fun _ _ _ _ _ _ _ q => le_int q
theorem op_gt : OpR X (compareOp .Gt) (rI0 fun i j => .bl (decide (j < i))) := opB0 fun _ _ _ _ _ _ _ q => gt_int q
theorem op_in_str : OpR X (compareOp .In) (fun x y H Q => ∃ i j, x = .str i ∧ y = .str j ∧ Q (.bl (!(Builtin.Str.occurrences j i 0 j.length 1).isEmpty)) H) := by
  intro pins s σ H x y v u Q I rx ry h
  obtain ⟨i, j, rfl, rfl, q⟩ := h
  obtain ⟨t, rfl⟩ := rx
  obtain ⟨t', rfl⟩ := ry
  exact in_str (fin_bl I q rfl)
theorem OpR.or {f : Value → Value → Sem Value} {r r' : R2} (h : OpR X f r) (h' : OpR X f r') : OpR X f (fun x y H Q => r x y H Q ∨ r' x y H Q) := by
  intro pins s σ H x y v u Q I rx ry q
  rcases q with q | q
  · exact h pins s σ H x y v u Q I rx ry q
  · exact h' pins s σ H x y v u Q I rx ry q
theorem nomark (b : Expr) {op : CmpOp} (h : op ≠ .In := by decide) (h2 : op ≠ .NotIn := by decide) : behindInMarks op b = false := by
  have e1 : (op == CmpOp.In) = false := by cases op <;> first | rfl | exact absurd rfl h
  have e2 : (op == CmpOp.NotIn) = false := by cases op <;> first | rfl | exact absurd rfl h2
  cases b <;> simp [behindInMarks, e1, e2]
theorem pe_cmpR {op : CmpOp} {r : R2} (ho : OpR X (compareOp op) r) (ha : PE X a ta) (hb : PE X b tb) (hm : behindInMarks op b = false) : PE X (.Compare a [op] [b] pos) (tOp r ta tb) := by
  intro pins s σ H Q I h
  exact wpAny_Compare1 (binT ha hb I h fun v u s2 x y H2 I2 rx ry q => ho pins s2 σ H2 x y v u Q I2 rx ry q) hm
noncomputable def tTest (t : TE) : TT := fun σ H Q => t σ H fun x H' => ∃ k, x = .bl k ∧ Q k H'
theorem pt_cmpR {op : CmpOp} {r : R2} (ho : OpR X (compareOp op) r) (ha : PE X a ta) (hb : PE X b tb) (hm : behindInMarks op b = false) : PT X (.Compare a [op] [b] pos) (tTest (tOp r ta tb)) := by
  intro pins s σ H Q I h
  refine wpAny_isTrue_Compare1 (thn (ha pins s σ H _ I h) fun v s1 ⟨x, H1, I1, r1, q1⟩ => thn (hb pins s1 σ H1 _ I1 q1) fun u s2 ⟨y, H2, I2, r2, q2⟩ =>
    thn (ho pins s2 σ H2 x y v u _ I2 r1 r2 q2) fun c s3 ⟨z, H3, I3, r3, k, e, q3⟩ => ?_) hm
  subst e
  cases r3
  exact wpAny_truthy_bool ⟨H3, I3, q3⟩
theorem line63 : (sizeLine : Nat) < 2 ^ 63 := by rw [sizeLine_eq]; decide
theorem op_add_str : OpR X (binaryOp .Add) (fun x y H Q => ∃ i j, x = .str i ∧ y = .str j ∧ i.length + j.length ≤ sizeLine ∧ Q (.str (i ++ j)) H) := by
  intro pins s σ H x y v u Q I rx ry h
  obtain ⟨i, j, rfl, rfl, hz, q⟩ := h
  obtain ⟨t, rfl⟩ := rx
  obtain ⟨t', rfl⟩ := ry
  exact add_str (fun t' tk => ⟨.str (i ++ j), H, I.tok _, ⟨_, rfl⟩, q⟩) hz
theorem vals1 {x : V} {us : List Value} (r : Vals [x] us) : ∃ u, us = [u] ∧ RelV x u := by
  cases r with
  | cons r1 r2 => cases r2; exact ⟨_, rfl, r1⟩
theorem vals2 {x y : V} {us : List Value} (r : Vals [x, y] us) : ∃ u w', us = [u, w'] ∧ RelV x u ∧ RelV y w' := by
  cases r with
  | cons r1 r2 =>
    cases r2 with
    | cons r3 r4 => cases r4; exact ⟨_, _, rfl, r1, r3⟩
theorem call_int1 : CallR X (.type "int") (fun xs H Q => (∃ i, xs = [.int i] ∧ Q (.int i) H) ∨ ∃ k, xs = [.bl k] ∧ Q (.int (if k then 1 else 0)) H) := by
  intro pins s σ H xs us Q I r h
  rcases h with ⟨i, rfl, q⟩ | ⟨k, rfl, q⟩
  · obtain ⟨u, rfl, t, rfl⟩ := vals1 r
    exact call_int_int ⟨.int i, H, I, ⟨_, rfl⟩, q⟩
  · obtain ⟨u, rfl, r1⟩ := vals1 r
    cases r1
    exact call_int_bool ⟨.int (if k then 1 else 0), H, I.tok _, ⟨_, rfl⟩, q⟩
end
end L2
namespace L2
open PySem PySem.Spec PyProof.Rows
structure ObjM (h : Heap) (x dx C : Addr) (mA : Str → Option Value) : Prop where
  obj : h.get? x = some (PySem.W.instObj C dx)
  ns : h.Ns1 dx mA
  ne : dx ≠ x
theorem lookIn_ns {h : Heap} {dx : Addr} {mA : Str → Option Value} (n : h.Ns1 dx mA) : ∃ od, h.get? dx = some od ∧ ∀ name, PySem.W.lookIn name od = some (mA name) := by
  obtain ⟨o, es, ep, ho, hd, hk, _, hm⟩ := n
  refine ⟨o, ho, fun name => ?_⟩
  have e := hm name
  unfold nsFind findBy at e
  rw [← Array.find?_toList] at e
  unfold PySem.W.lookIn
  rw [hd]
  dsimp only
  split
  · rename_i y q
    rw [q] at e
    exact congrArg some e
  · rename_i q
    rw [q] at e
    have a : es.toList.any (·.refKey) = false := by
      rw [List.any_eq_false]
      intro y hy
      obtain ⟨z, t, hkey⟩ := hk y (Array.mem_toList_iff.mp hy)
      simp [DictEntry.refKey, hkey]
    have a' : ¬ es.toList.any (·.refKey) = true := by rw [a]; exact Bool.false_ne_true
    rw [if_neg a']
    exact congrArg some e
theorem ObjM.look {h : Heap} {x dx C : Addr} {mA : Str → Option Value} (I : ObjM h x dx C mA) : ∃ od, PySem.W.InstAt h x (PySem.W.instObj C dx) C (some od) ∧ ∀ name, PySem.W.lookIn name od = some (mA name) :=
  let ⟨od, ho, hl⟩ := lookIn_ns I.ns
  ⟨od, ⟨I.obj, rfl, rfl, ho⟩, hl⟩
section
variable {prog : Program} {w : World} {A : Around} {E : Value → Shared → Prop} {s : Shared} {K : PySem.W.Frag} {x dx C f : Addr} {mA : Str → Option Value} {name : Str} {v : Value}
end
section
variable {P : Program} {w : World} {H H' : Hp} {h h' : Heap} {a C dx : Addr} {fs fs' : List (Str × V)}
theorem ins_get (hok : HOk P w H h) (e : H a = some (.ins C dx fs)) : ∃ mA, ObjM h a dx C mA ∧ (∀ f, RelO (fs.lookup f) (mA f)) ∧ PySem.Within mA (fs.map (·.1)) ∧ fs.length ≤ 1000 ∧ H dx = some (.own a) := by
  obtain ⟨d, z, ne, ob, mA, n, r, q⟩ := (show ObjOk P w H h a (.ins C dx fs) from hok a _ e)
  exact ⟨mA, ⟨ob, n, ne⟩, r, q, z, d⟩
end
structure Cls (K : PySem.W.Frag) (C : Addr) : Prop where
  pg : PySem.W.plainGet K C Str.empty = true
  hd : PySem.W.hasDictIn K C = true
  po : PySem.W.plainOver K C = true
  sa : PySem.W.findIn K (.ref C) "__setattr__" = some (some (.builtin "object.__setattr__"))
theorem Cls.get {K : PySem.W.Frag} {C : Addr} (c : Cls K C) (f : Str) : PySem.W.plainGet K C f = true := c.pg
structure Con (K : PySem.W.Frag) (C : Addr) (f : Str) (v : V) (u : Value) : Prop where
  at_ : PySem.W.findIn K (.ref C) f = some (some u)
  rel : RelV v u
  get : PySem.W.specialIn K u "__get__" = some none
  cp : PySem.W.copiedNames.contains f = false
structure Meth (K : PySem.W.Frag) (C : Addr) (m : Str) (f : Addr) : Prop where
  at_ : PySem.W.findIn K (.ref C) m = some (some (.ref f))
  fn : PySem.W.isFn K (.ref f) = true
  kp : PySem.W.keepIn K (.ref f) = true
section
variable {X : Cx} {pins : List (Addr × Obj)} {σ : St} {H : Hp} {s : Shared} {a C dx : Addr} {fs : List (Str × V)} {f : Str} {v : V} {A : Around} {E : Value → Shared → Prop}
end
section
variable {X : Cx} {o e value : Expr} {f : Str} {pos pos' tpos : Pos} {ta tv : TE}
end
section
variable {X : Cx} {pins : List (Addr × Obj)} {σ : St} {H : Hp} {s : Shared} {A : Around} {E : Value → Shared → Prop} {Q : Value → Shared → Prop} {c : Value} {b : Bool}
inductive TyOf (K : PySem.W.Frag) (H : Hp) : V → Value → Prop where
  | non : TyOf K H .non (.type "NoneType")
  | bl (x : Bool) : TyOf K H (.bl x) (.type "bool")
  | int (i : Int) : TyOf K H (.int i) (.type "int")
  | str (x : Str) : TyOf K H (.str x) (.type "str")
  | flt (x : UInt64) : TyOf K H (.flt x) (.type "float")
  | lst {a : Addr} {xs : List V} (e : H a = some (.lst xs)) : TyOf K H (.ref a) (.type "list")
  | frz {a : Addr} {o : Obj} {xs : List V} (e : H a = some (.frz o (.lst xs))) : TyOf K H (.ref a) (.type "list")
  | tup {a : Addr} {xs : List V} (e : H a = some (.tup xs)) : TyOf K H (.ref a) (.type "tuple")
  | dK {a : Addr} {kvs : List (Key × V)} (e : H a = some (.dK kvs)) : TyOf K H (.ref a) (.type "dict")
  | dT {a : Addr} {kvs : List (List Key × V)} (e : H a = some (.dT kvs)) : TyOf K H (.ref a) (.type "dict")
  | ins {a C dx : Addr} {fs : List (Str × V)} (e : H a = some (.ins C dx fs)) (cl : Cls K C) (ha : PySem.W.findIn K (.ref C) "__class__" = some (some (.builtin "object.__class__")))
      (hn : PySem.W.specialIn K (.builtin "object.__class__") "__get__" = some (some (.builtin "getset_descriptor.__get__"))) (htk : PySem.W.takesIn K (.builtin "object.__class__") = some true)
      (hm : PySem.W.mroIn K C (.type "object") = some true) : TyOf K H (.ref a) (.ref C)
theorem isinst_ok {x : V} {u t : Value} (I : Inv X pins σ H s) (rx : RelV x u) (ty : TyOf X.K H x t) (e : PySem.W.kitOne X.K t c = some b) (h : ∀ tk, Q (.bool b) { s with toks := tk }) :
    wpAny (model X.prog X.w) A (call (.builtin "isinstance") [u, c]) Q E s := by
  cases ty with
  | non => cases (show u = Value.none from rx); exact PySem.W.kia_one PySem.W.kitx_none I.kIn True.intro e (fun z => nomatch z) h
  | bl y => cases (show u = Value.bool y from rx); exact PySem.W.kia_one PySem.W.kitx_bool I.kIn True.intro e (fun z => nomatch z) h
  | int i => obtain ⟨t, q⟩ := (show ∃ t, u = Value.int i t from rx); cases q; exact PySem.W.kia_one PySem.W.kitx_int I.kIn True.intro e (fun z => nomatch z) h
  | str y => obtain ⟨t, q⟩ := (show ∃ t, u = Value.str y t from rx); cases q; exact PySem.W.kia_one PySem.W.kitx_str I.kIn True.intro e (fun z => nomatch z) h
  | flt y => obtain ⟨t, q⟩ := (show ∃ t, u = Value.float y t from rx); cases q; exact PySem.W.kia_one PySem.W.kitx_float I.kIn True.intro e (fun z => nomatch z) h
  | @lst a xs ea =>
    cases (show u = Value.ref a from rx)
    obtain ⟨_, _, n, _, h1⟩ := (show ObjOk X.prog X.w H s.heap a (.lst xs) from I.hok a _ ea)
    exact PySem.W.kia_one PySem.W.kitx_list I.kIn ⟨_, h1, rfl⟩ e (fun z => nomatch z) h
  | @frz a ob xs ea =>
    cases (show u = Value.ref a from rx)
    obtain ⟨_, _, _, n, _, h1⟩ := (show ObjOk X.prog X.w H s.heap a (.frz ob (.lst xs)) from I.hok a _ ea)
    exact PySem.W.kia_one PySem.W.kitx_list I.kIn ⟨_, h1, rfl⟩ e (fun z => nomatch z) h
  | @tup a xs ea =>
    cases (show u = Value.ref a from rx)
    obtain ⟨_, _, _, p⟩ := (show ObjOk X.prog X.w H s.heap a (.tup xs) from I.hok a _ ea)
    obtain ⟨o, h1, ⟨h2, _⟩, _⟩ := p
    exact PySem.W.kia_one PySem.W.kitx_tuple I.kIn ⟨o, h1, h2⟩ e (fun z => nomatch z) h
  | @dK a kvs ea =>
    cases (show u = Value.ref a from rx)
    obtain ⟨_, _, vs, _, p⟩ := (show ObjOk X.prog X.w H s.heap a (.dK kvs) from I.hok a _ ea)
    obtain ⟨o, es, ep, h1, h2, _⟩ := p
    exact PySem.W.kia_one PySem.W.kitx_dict I.kIn ⟨o, h1, h2.1⟩ e (fun z => nomatch z) h
  | @dT a kvs ea =>
    cases (show u = Value.ref a from rx)
    obtain ⟨_, _, xs, _, o, es, ep, h1, h2, _⟩ := (show ObjOk X.prog X.w H s.heap a (.dT kvs) from I.hok a _ ea)
    exact PySem.W.kia_one PySem.W.kitx_dict I.kIn ⟨o, h1, h2.1⟩ e (fun z => nomatch z) h
  | @ins a C dx fs ea cl ha hn htk hm =>
    cases (show u = Value.ref a from rx)
    obtain ⟨mA, O, _⟩ := ins_get I.hok ea
    obtain ⟨od, J, _⟩ := O.look
    exact PySem.W.kia_one (PySem.W.kitx_own (cl.get _) cl.hd ha hn htk hm) I.kIn J e (fun z => nomatch z) h
end
end L2
namespace L2
open PySem PySem.Spec PyProof.Rows
structure Room (k : Nat) (A : Around) : Prop where
  hd : A.handled = none
  dp : A.depth + 3 * k + 5 < recursionLimit
  un : A.units + 16 * k + 200 < cLine
theorem Room.mono {j k : Nat} {A : Around} (r : Room k A) (h : j ≤ k) : Room j A := ⟨r.hd, by have := r.dp; omega, by have := r.un; omega⟩
theorem Room.deeper {k : Nat} {A : Around} (r : Room (k + 1) A) (env : Env) : Room k (A.deeper env) :=
  ⟨r.hd, by have := r.dp; show A.depth + 1 + 3 * k + 5 < _; omega, by have := r.un; show A.units + 3 + 16 * k + 200 < _; omega⟩
theorem Room.in1 {k : Nat} {A : Around} (r : Room (k + 1) A) : Room k A.in1 :=
  ⟨r.hd, by have := r.dp; show A.depth + 3 * k + 5 < _; omega, by have := r.un; show A.units + 1 + 16 * k + 200 < _; omega⟩
theorem Room.depth {k : Nat} {A : Around} (r : Room k A) : A.depth < recursionLimit := by have := r.dp; omega
theorem Room.units {k : Nat} {A : Around} (r : Room k A) : A.units + 64 < cLine := by have := r.un; omega
noncomputable def tNil : TA := fun _ H Q => Q [] H
noncomputable def tCons (ta : TE) (tr : TA) : TA := fun σ H Q => ta σ H fun x H1 => tr σ H1 fun xs H2 => Q (x :: xs) H2
section
variable {X : Cx} {e : Expr} {es : List Expr} {te : TE} {t : TA} {pos : Pos}
theorem pa_nil : PA X [] tNil := fun _ _ _ _ H Q I h => Calls.spliced_nil ⟨[], H, I, .nil, h⟩
theorem pa_cons (ha : PE X e te) (hr : PA X es t) (hs : starEach (e :: es) X.env = (false, eval e X.env) :: starEach es X.env := by rfl) : PA X (e :: es) (tCons te t) := by
  intro pos pins s σ H Q I h
  rw [hs]
  show wpAny _ _ (spliced ((false, eval e X.env) :: backTo pos (starEach es X.env))) _ _ s
  refine Calls.spliced_cons (thn (ha pins s σ H _ I h) fun u s1 ⟨x, H1, I1, r1, q1⟩ => ?_)
  exact thn (hr pos pins s1 σ H1 _ I1 q1) fun us s2 ⟨xs, H2, I2, r2, q2⟩ => ⟨x :: xs, H2, I2, .cons r1 r2, q2⟩
noncomputable def tTup (t : TA) : TE := fun σ H Q => t σ H fun xs H1 => xs.length ≤ sizeLine ∧ ∀ p, H1 p = none → Q (.ref p) (upd H1 p (.tup xs))
noncomputable def tLst (t : TA) : TE := fun σ H Q => t σ H fun xs H1 => xs.length ≤ sizeLine ∧ ∀ p, H1 p = none → Q (.ref p) (upd H1 p (.lst xs))
theorem pe_tup {x1} (h : PA X es t) : PE X (.Tuple es x1 pos) (tTup t) := by
  intro pins s σ H Q I hq
  refine wpAny_Tuple_spliced (thn (h pos pins s σ H _ I hq) fun us s1 ⟨xs, H1, I1, r, z, q⟩ => ⟨by rw [← r.length]; exact z, ?_⟩)
  have hf : H1 s1.heap.objs.size = none := I1.hok.fresh (Nat.le_refl _)
  refine ⟨.ref s1.heap.objs.size, upd H1 s1.heap.objs.size (.tup xs), I1.laid (t' := s1.toks) (fun b u e => Heap.get?_push_of_some _ e) (Nat.le_refl _) ?_, rfl, q _ hf⟩
  exact ⟨z, us, r, ⟨_, Heap.get?_push_size _ rfl, ⟨rfl, _, rfl⟩, rfl⟩⟩
theorem pe_lst (h : PA X es t) : PE X (.List es pos) (tLst t) := by
  intro pins s σ H Q I hq
  refine wpAny_List_spliced (thn (h pos pins s σ H _ I hq) fun us s1 ⟨xs, H1, I1, r, z, q⟩ => ⟨by rw [← r.length]; exact z, ?_⟩)
  have hf : H1 s1.heap.objs.size = none := I1.hok.fresh (Nat.le_refl _)
  refine ⟨.ref s1.heap.objs.size, upd H1 s1.heap.objs.size (.lst xs), I1.laid (t' := s1.toks) (fun b u e => Heap.get?_push_of_some _ e) (Nat.le_refl _) ?_, rfl, q _ hf⟩
  exact ⟨z, us, 0, r, Heap.get?_push_size _ rfl⟩
end
noncomputable abbrev Sp := List V → Hp → VK → XK → Prop
noncomputable abbrev CXT := List Env → Hp → Shared → XK → Value → Shared → Prop
structure Env0 (P : Program) (w : World) (K : PySem.W.Frag) (mg : Str → Option Value) (base : Heap) (A : Around) (outer : List Env) (s : Shared) (H : Hp) : Prop where
  frames : A.frames = some outer
  mod : Mod K mg base
  bs : ∀ b o, base.get? b = some o → s.heap.get? b = some o ∧ H b = none
  bsz : base.objs.size ≤ s.heap.objs.size
  funs : s.heap.FunFrames base outer
  frf : ∀ b ∈ frs outer, H b = none
  hok : HOk P w H s.heap
  bare : AllBare s.gens
noncomputable def CE (outer : List Env) (P : Program) (w : World) (H : Hp) (s : Shared) (Q : VK) (u : Value) (s' : Shared) : Prop :=
  ∃ v H', s'.os = s.os ∧ AllBare s'.gens ∧ Un (frs outer) [] H H' s.heap s'.heap ∧ HOk P w H' s'.heap ∧ RelV v u ∧ Q v H'
noncomputable def CR (CX : CXT) (outer : List Env) (P : Program) (w : World) (H : Hp) (s : Shared) (Q : VK) (E : XK) (r : Result) (s' : Shared) : Prop :=
  match r with
  | .ok (.ret u) => CE outer P w H s Q u s'
  | .ok _ => False
  | .error e => CX outer H s E e s'
structure FnOk (P : Program) (w : World) (K : PySem.W.Frag) (mg : Str → Option Value) (base : Heap) (CX : CXT) (k : Nat) (f : Addr) (fd : FuncData) (ps : List Str) (sp : Sp) : Prop where
  len : ∀ vs H Q E, sp vs H Q E → vs.length = ps.length
  run : ∀ (A : Around) (outer : List Env) (s : Shared) (H : Hp) (args : Args) (us : List Value) (vs : List V) (Q : VK) (E : XK), Room k A → Env0 P w K mg base A outer s H → BindsTo s fd args (ps.zip us) → Vals vs us → sp vs H Q E →
    codeAny (model P w) A (.call (.ref f) args) (CR CX outer P w H s Q E) s
theorem FnOk.mono {P : Program} {w : World} {K : PySem.W.Frag} {mg : Str → Option Value} {base : Heap} {CX : CXT} {j k : Nat} {f : Addr} {fd : FuncData} {ps : List Str} {sp : Sp} (F : FnOk P w K mg base CX j f fd ps sp) (h : j ≤ k) :
    FnOk P w K mg base CX k f fd ps sp := ⟨F.len, fun A outer s H args us vs Q E hr => F.run A outer s H args us vs Q E (hr.mono h)⟩
theorem FnOk.imp {P : Program} {w : World} {K : PySem.W.Frag} {mg : Str → Option Value} {base : Heap} {CX : CXT} {k : Nat} {f : Addr} {fd : FuncData} {ps : List Str} {sp sp' : Sp} (F : FnOk P w K mg base CX k f fd ps sp)
    (h : ∀ vs H Q E, sp' vs H Q E → sp vs H Q E) : FnOk P w K mg base CX k f fd ps sp' :=
  ⟨fun vs H Q E q => F.len vs H Q E (h _ _ _ _ q), fun A outer s H args us vs Q E hr he hb hv hs => F.run A outer s H args us vs Q E hr he hb hv (h _ _ _ _ hs)⟩
theorem Env0.in1 {P : Program} {w : World} {K : PySem.W.Frag} {mg : Str → Option Value} {base : Heap} {A : Around} {outer : List Env} {s : Shared} {H : Hp} (e : Env0 P w K mg base A outer s H) :
    Env0 P w K mg base A.in1 outer s H := ⟨e.frames, e.mod, e.bs, e.bsz, e.funs, e.frf, e.hok, e.bare⟩
section
variable {X : Cx} {pins : List (Addr × Obj)} {σ : St} {H : Hp} {s s' : Shared}
theorem Inv.env0 (I : Inv X pins σ H s) : Env0 X.prog X.w X.K X.mg X.base X.A X.stack s H :=
  ⟨I.ok.frames, I.ok.mod, I.bs, Nat.le_trans I.ok.bsz I.sz, I.stack, I.stkFree, I.hok, I.bare⟩
theorem Inv.after {Q : VK} {u : Value} (I : Inv X pins σ H s) (h : CE X.stack X.prog X.w H s Q u s') : EP X pins σ Q u s' := by
  obtain ⟨v, H', os, bare, un, hok, r, q⟩ := h
  obtain ⟨hh, g, d, t, os'⟩ := s'
  obtain rfl : os' = s.os := os
  exact ⟨v, H', I.call (h' := hh) (g' := g) (d' := d) (t' := t) (ch := []) un hok bare (fun b z => absurd z (by simp)), r, q⟩
end
noncomputable def tCall (sp : Sp) (dvs : List V) (E : XK) (t : TA) : TE := fun σ H Q => t σ H fun vs H1 => sp (vs ++ dvs) H1 Q E
noncomputable def Binds (K : PySem.W.Frag) (fd : FuncData) (ps : List Str) (ds : List Value) : Prop :=
  ∀ (s : Shared) (us : List Value), K.In s.heap → (us ++ ds).length = ps.length → BindsTo s fd ⟨us, []⟩ (ps.zip (us ++ ds))
theorem Binds.all {K : PySem.W.Frag} {fd : FuncData} {ps : List Str} (h : ∀ us : List Value, us.length = ps.length → bindArgs fd ⟨us, []⟩ = pure (ps.zip us)) : Binds K fd ps [] := fun s us _ hl => by
  rw [List.append_nil] at hl ⊢
  exact .of_eq (h us hl)
noncomputable def Passes (CX : CXT) (X : Cx) (E : XK) : Prop := ∀ (pins : List (Addr × Obj)) (σ : St) (H : Hp) (s : Shared) (e : Value) (s' : Shared), Inv X pins σ H s → CX X.stack H s E e s' → X.xe e s'
section
variable {X : Cx} {CX : CXT} {k : Nat} {f C : Addr} {fd : FuncData} {ps : List Str} {sp : Sp} {dvs : List V} {ds : List Value} {E : XK} {x m : Str} {p pos apos : Pos} {e o : Expr} {es : List Expr} {ta : TE} {t : TA}
theorem run_fn {pins : List (Addr × Obj)} {σ : St} {H : Hp} {s : Shared} {Q : VK} {us : List Value} {vs : List V} (F : FnOk X.prog X.w X.K X.mg X.base CX k f fd ps sp) (hr : Room k X.A) (hb : Binds X.K fd ps ds) (hd : Vals dvs ds) (hx : Passes CX X E)
    (I : Inv X pins σ H s) (r : Vals vs us) (h : sp (vs ++ dvs) H Q E) : wpAny (model X.prog X.w) X.A (call (.ref f) us) (EP X pins σ Q) X.xe s := by
  have r2 : Vals (vs ++ dvs) (us ++ ds) := r.append hd
  have hl : (us ++ ds).length = ps.length := by rw [← r2.length]; exact F.len _ _ _ _ h
  refine wpAny_call (codeAny_mono (F.run X.A X.stack s H ⟨us, []⟩ (us ++ ds) (vs ++ dvs) Q E hr I.env0 (hb s us I.kIn hl) r2 h) fun r s' hq => ?_)
  cases r with
  | error e => exact hx pins σ H s e s' I hq
  | ok fl =>
    cases fl with
    | ret u => exact I.after hq
    | next => exact False.elim hq
    | brk => exact False.elim hq
    | cont => exact False.elim hq
theorem pe_call (F : FnOk X.prog X.w X.K X.mg X.base CX k f fd ps sp) (hr : Room k X.A) (hg : Gl X x) (hm : X.mg x = some (.ref f)) (hk : PySem.W.keepIn X.K (.ref f) = true) (hb : Binds X.K fd ps ds) (hd : Vals dvs ds) (hx : Passes CX X E)
    (ha : PA X (e :: es) t) (hdb : (x == ("__debug__" : Str)) = false := by decide) (he : starEach (e :: es) X.env = (false, eval e X.env) :: starEach es X.env := by rfl) (hpl : (backTo pos (starEach es X.env)).any (·.1) = false := by rfl) :
    PE X (.Call (.Name x p) (e :: es) [] pos) (tCall sp dvs E t) := by
  intro pins s σ H Q I h
  refine wpAny_Call_Name_kw (ld_glob I hg hm ?_ hdb)
  refine PySem.W.callWith_K (h₀ := X.base) I.ok.mod.kin hk (thn (ha pos pins s σ H _ I h) fun us s1 ⟨vs, H1, I1, r, q⟩ => ⟨I1.kIn, ?_⟩) he hpl
  exact run_fn F hr hb hd hx I1 r q
structure Mk (K : PySem.W.Frag) (C f : Addr) : Prop where
  makes : PySem.W.makesIn K C = true
  init : PySem.W.findIn K (.ref C) "__init__" = some (some (.ref f))
  fn : PySem.W.isFn K (.ref f) = true
  kp : PySem.W.keepIn K (.ref C) = true
end
section
variable {X : Cx} {CX : CXT} {k : Nat} {f C : Addr} {fd : FuncData} {ps ks : List Str} {sp : Sp} {E : XK} {x m : Str} {p pos apos kpos : Pos} {e o : Expr} {es : List Expr} {kws : List Keyword} {te ta : TE} {t tk : TA} {nm : Option Str}
structure KBinds (K : PySem.W.Frag) (fd : FuncData) (ps ks : List Str) (g : List Value → List Value → List Value) (gV : List V → List V → List V) : Prop where
  to : ∀ (s : Shared) (us ws : List Value), K.In s.heap → (g us ws).length = ps.length → BindsTo s fd ⟨us, ks.zip ws⟩ (ps.zip (g us ws))
  rel : ∀ {vs : List V} {us : List Value} {zs : List V} {ws : List Value}, Vals vs us → Vals zs ws → Vals (gV vs zs) (g us ws)
variable {g : List Value → List Value → List Value} {gV : List V → List V → List V}
end
structure FnScope (N P : List Str) (sc : Scope) : Prop where
  kind : sc.kind = .function
  co : sc.isCoroutine = false
  gen : sc.isGenerator = false
  nd : N.Nodup
  pre : N.take P.length = P
  par : ∀ x ∈ P, sc.names.lookup x = some .local ∨ sc.names.lookup x = some .cell
  nofree : ∀ y ∈ sc.names, y.2 ≠ .free
theorem bindL_out {kindOf : Str → Option NameKind} {x : Str} : ∀ {binds : List (Str × Value)} {m : Str → Option Value}, (∀ v, (x, v) ∉ binds) → bindL kindOf binds m x = m x
  | [], _, _ => rfl
  | (n, v) :: r, m, h => by
    unfold bindL
    rw [bindL_out fun w hw => h w (List.mem_cons_of_mem _ hw)]
    split
    · have : x ≠ n := by rintro rfl; exact h v List.mem_cons_self
      simp [this]
    · rfl
theorem bindC_out {kindOf : Str → Option NameKind} {x : Str} : ∀ {binds : List (Str × Value)} {m : Str → Option Value}, (∀ v, (x, v) ∉ binds) → bindC kindOf binds m x = m x
  | [], _, _ => rfl
  | (n, v) :: r, m, h => by
    unfold bindC
    rw [bindC_out fun w hw => h w (List.mem_cons_of_mem _ hw)]
    split
    · rfl
    · have : x ≠ n := by rintro rfl; exact h v List.mem_cons_self
      simp [this]
theorem bindL_get {kindOf : Str → Option NameKind} {x : Str} {v : Value} : ∀ {P : List Str} {vs : List Value} {i : Nat} {m : Str → Option Value}, P.Nodup → P[i]? = some x → vs[i]? = some v → kindOf x = some .local →
    bindL kindOf (P.zip vs) m x = some v
  | [], _, _, _, _, h, _, _ => by simp at h
  | _ :: _, [], _, _, _, _, h, _ => by simp at h
  | p :: P, w :: vs, 0, m, nd, h1, h2, hk => by
    simp at h1 h2; subst h1; subst h2
    show bindL kindOf ((p, w) :: P.zip vs) m p = _
    unfold bindL
    rw [bindL_out fun v hv => (List.nodup_cons.mp nd).1 (List.of_mem_zip hv).1, if_pos hk]
    simp
  | p :: P, w :: vs, i + 1, m, nd, h1, h2, hk => by
    show bindL kindOf ((p, w) :: P.zip vs) m x = _
    unfold bindL
    exact bindL_get (i := i) (List.nodup_cons.mp nd).2 (by simpa using h1) (by simpa using h2) hk
theorem bindC_get {kindOf : Str → Option NameKind} {x : Str} {v : Value} : ∀ {P : List Str} {vs : List Value} {i : Nat} {m : Str → Option Value}, P.Nodup → P[i]? = some x → vs[i]? = some v → kindOf x ≠ some .local →
    bindC kindOf (P.zip vs) m x = some v
  | [], _, _, _, _, h, _, _ => by simp at h
  | _ :: _, [], _, _, _, _, h, _ => by simp at h
  | p :: P, w :: vs, 0, m, nd, h1, h2, hk => by
    simp at h1 h2; subst h1; subst h2
    show bindC kindOf ((p, w) :: P.zip vs) m p = _
    unfold bindC
    rw [bindC_out fun v hv => (List.nodup_cons.mp nd).1 (List.of_mem_zip hv).1, if_neg hk]
    simp
  | p :: P, w :: vs, i + 1, m, nd, h1, h2, hk => by
    show bindC kindOf ((p, w) :: P.zip vs) m x = _
    unfold bindC
    exact bindC_get (i := i) (List.nodup_cons.mp nd).2 (by simpa using h1) (by simpa using h2) hk
noncomputable def start (N : List Str) (vs : List V) : St := vs.map some ++ List.replicate (N.length - vs.length) none
noncomputable def cxOf (CX : CXT) (P : Program) (w : World) (K : PySem.W.Frag) (mg : Str → Option Value) (base : Heap) (N : List Str) (qual : Str) (scope : Scope) (f : Addr) (cd : Value) (A : Around) (outer : List Env) (s : Shared) (H : Hp) (E : XK) : Cx where
  prog := P
  w := w
  K := K
  mg := mg
  base := base
  A := A.deeper (envOfC qual scope s.heap.objs.size f cd)
  N := N
  s₀ := s
  H₀ := H
  env := envOfC qual scope s.heap.objs.size f cd
  outer := outer
  stack := envOfC qual scope s.heap.objs.size f cd :: outer
  ex := []
  calm := true
  fn := fun _ => true
  pn := []
  xe := fun e s' => wpAny (model P w) (A.deeper (envOfC qual scope s.heap.objs.size f cd)) (leaving (envOfC qual scope s.heap.objs.size f cd) e) (fun _ s'' => CX outer H s E e s'') (fun e' s'' => CX outer H s E e' s'') s'
theorem cell_has {sc : Scope} {n : Nat} {x : Str} (h : sc.names.lookup x = some .cell) : ∃ c, (cellsFrom n sc.names []).lookup x = some c := by
  have q := PySem.W.cellsFrom_some sc.names n [] (.inl h)
  exact Option.isSome_iff_exists.mp q
theorem inv_start {CX : CXT} {P : Program} {w : World} {K : PySem.W.Frag} {mg : Str → Option Value} {base : Heap} {N ps : List Str} {qual : Str} {scope : Scope} {f : Addr} {cd : Value} {A : Around} {outer : List Env} {s s1 : Shared} {H : Hp} {E : XK} {us : List Value} {vs : List V}
    (S : FnScope N ps scope) (hd : A.handled = none) (e0 : Env0 P w K mg base A outer s H) (hl : vs.length = ps.length) (r : Vals vs us)
    (x : InCallC s s.heap.objs.size (bindL (envOfC qual scope s.heap.objs.size f cd).kindOf (ps.zip us) fun _ => none) (cellsFrom (s.heap.objs.size + 1) scope.names []) (bindC (envOfC qual scope s.heap.objs.size f cd).kindOf (ps.zip us) fun _ => none) s1) :
    Inv (cxOf CX P w K mg base N qual scope f cd A outer s H E) [] (start N vs) H s1 := by
  have hpl : ps.length ≤ N.length := by have := congrArg List.length S.pre; rw [List.length_take] at this; omega
  obtain ⟨h1, tk, rfl, hk⟩ := x.done
  have noA : ∀ b : Addr, b ∉ (cxOf CX P w K mg base N qual scope f cd A outer s H E).ex := fun b z => absurd (show b ∈ ([] : List Addr) from z) (by simp)
  refine ⟨⟨e0.mod, S.kind, rfl, rfl, Nat.le_refl _, fun y z c h1 h2 => ?_, fun y hy => ?_, fun y c _ h => ?_, fun _ => hd, Around.frames_deeper e0.frames, .inr ⟨rfl, rfl⟩, fun b z => absurd z (noA b), e0.bs, e0.bsz, fun b _ _ => noA b, fun b z => absurd z (noA b), e0.funs, e0.frf⟩,
    rfl, e0.bare, Un.kept hk, ⟨_, x.toInCall.ns, fun i y v h1 h2 h3 => ?_⟩, fun y c h => ⟨_, x.cell y c h⟩, e0.hok.fresh (Nat.le_refl _), fun y c h => ?_, fun p hp => absurd (show p ∈ ([] : List (Addr × Obj)) from hp) (by simp), e0.hok.kept hk, ?_⟩
  · exact name_of_addr x.apart (PySem.mem_of_lookup h1) (PySem.mem_of_lookup h2)
  · have hy : scope.names.lookup y = some .cell ∨ scope.names.lookup y = some .free := hy
    rcases hy with hy | hy
    · exact cell_has hy
    · exact absurd rfl (S.nofree _ (PySem.mem_of_lookup hy))
  · exact Nat.le_of_lt (x.above y c (PySem.mem_of_lookup h))
  · have hi : i < vs.length := by
      unfold start at h2
      by_cases hi : i < vs.length
      · exact hi
      · rw [List.getElem?_append_right (by simpa using hi)] at h2
        rw [List.getElem?_replicate] at h2
        split at h2 <;> cases h2
    have ha : vs[i]? = some v := by
      unfold start at h2
      rw [List.getElem?_append_left (by simpa using hi), List.getElem?_map] at h2
      cases e : vs[i]? with
      | none => rw [e] at h2; cases h2
      | some a => rw [e] at h2; cases h2; rfl
    obtain ⟨u, hu, rv⟩ := r.get ha
    have hp : ps[i]? = some y := by
      rw [← S.pre, List.getElem?_take_of_lt (by omega)]; exact h1
    have ndP : ps.Nodup := by rw [← S.pre]; exact S.nd.sublist (List.take_sublist _ _)
    refine ⟨u, rv, ?_⟩
    rcases S.par y (List.mem_of_getElem? hp) with k | k
    · exact .inl ⟨k, bindL_get ndP hp hu k⟩
    · obtain ⟨c, e⟩ := cell_has (n := s.heap.objs.size + 1) k
      refine .inr ⟨.inl k, c, e, ?_⟩
      have q := x.cell y c e
      rw [bindC_get ndP hp hu (by show scope.names.lookup y ≠ _; rw [k]; decide)] at q
      exact q
  · exact e0.hok.fresh (Nat.le_of_lt (x.above y c (PySem.mem_of_lookup h)))
  · unfold start
    show _ = N.length
    rw [List.length_append, List.length_map, List.length_replicate]
    omega
theorem fn_of {CX : CXT} {P : Program} {w : World} {K : PySem.W.Frag} {mg : Str → Option Value} {base : Heap} {k : Nat} {f : Addr} {name qual : Str} {params : Arguments} {body : List Stmt} {scope : Scope} {dV kV doc pm cdv ct oc : Value} {an od : Option Addr}
    {osl : Array (Option Value)} {N ps : List Str} {sp : Sp} (lk : K.lookup f = some ⟨oc, od, .func (PySem.W.fnOf name qual params body scope dV kV doc pm an cdv ct), osl⟩) (hcd : PySem.W.codeIn K cdv qual = true) (S : FnScope N ps scope)
    (len : ∀ vs H Q E, sp vs H Q E → vs.length = ps.length)
    (hbody : ∀ (A : Around) (outer : List Env) (s : Shared) (H : Hp) (vs : List V) (Q : VK) (E : XK), Room k (A.deeper (envOfC qual scope s.heap.objs.size f cdv)) → sp vs H Q E →
      ∃ t, PSs (cxOf CX P w K mg base N qual scope f cdv A outer s H E) body t ∧ t { nx := fun _ H' => Q .non H', rt := Q } (start N vs) H) :
    FnOk P w K mg base CX (k + 1) f (PySem.W.fnOf name qual params body scope dV kV doc pm an cdv ct) ps sp := by
  refine ⟨len, fun A outer s H args us vs Q E hr e0 hb r hsp => ?_⟩
  have hl := len _ _ _ _ hsp
  have KX : K.In s.heap := e0.mod.kin.keeps fun b o e => (e0.bs b o e).1
  have lim : s.heap.NoLimit := e0.mod.nolimit.keeps fun b o e => (e0.bs b o e).1
  have hkind : ∀ y ∈ ps.zip us, scope.names.lookup y.1 = some .local ∨ (scope.names.lookup y.1 = some .cell ∧ ((cellsFrom (s.heap.objs.size + 1) scope.names []).lookup y.1).isSome = true) := fun ⟨n, v⟩ hy => by
    rcases S.par n (List.of_mem_zip hy).1 with q | q
    · exact .inl q
    · exact .inr ⟨q, PySem.W.cellsFrom_some _ _ _ (.inl q)⟩
  refine codeAny_call_function hr.depth (KX _ _ lk) rfl S.co S.gen rfl (PySem.W.codeRec_of KX hcd) (hb _ _ _ _ ?_)
  refine wpAny_newFunctionEnv_cells S.kind hkind fun env he s1 x => ?_
  subst he
  refine ⟨lim.keeps x.toInCall.keep, codeAny_func ?_⟩
  obtain ⟨t, ht, hq⟩ := hbody A outer s H vs Q E (hr.deeper _) hsp
  have I : Inv (cxOf CX P w K mg base N qual scope f cdv A outer s H E) [] (start N vs) H s1 := inv_start S hr.hd e0 hl r x
  refine wpAny_mono (ht [] s1 (start N vs) H _ I hq) (fun fl s' hs => ?_) fun e s' hs => hs
  have fin : ∀ {σ' : St} {H' : Hp} {v : V} {u : Value}, Inv (cxOf CX P w K mg base N qual scope f cdv A outer s H E) [] σ' H' s' → RelV v u → Q v H' → CE outer P w H s Q u s' :=
    fun {σ' H' v u} J rv q => ⟨v, H', J.os, J.bare, J.base, J.hok, rv, q⟩
  cases fl with
  | ret u =>
    obtain ⟨v, σ', H', J, rv, q⟩ := hs
    exact fin J rv q
  | next =>
    obtain ⟨σ', H', J, q⟩ := hs
    exact fin (v := V.non) (u := Value.none) J rfl q
  | brk =>
    obtain ⟨_, _, _, q⟩ := hs
    exact False.elim q
  | cont =>
    obtain ⟨_, _, _, q⟩ := hs
    exact False.elim q
end L2
namespace L2
open PySem PySem.Spec PyProof.Rows
section
variable {X : Cx} {x : Str} {p pos : Pos} {e : Expr} {es : List Expr} {t : TA} {id T : String} {r : List V → Hp → VK → Prop}
noncomputable def tCB (r : List V → Hp → VK → Prop) (t : TA) : TE := fun σ H Q => t σ H fun vs H1 => r vs H1 Q
theorem pe_callB (hc : CallR X (.builtin id) r) (hg : Gl X x) (hm : X.mg x = none) (hv : bootBuiltins x = some (.builtin id)) (ha : PA X (e :: es) t) (hn : x ≠ "__name__" := by decide) (hdb : (x == ("__debug__" : Str)) = false := by decide)
    (he : starEach (e :: es) X.env = (false, eval e X.env) :: starEach es X.env := by rfl) (hpl : (backTo pos (starEach es X.env)).any (·.1) = false := by rfl) : PE X (.Call (.Name x p) (e :: es) [] pos) (tCB r t) := by
  intro pins s σ H Q I h
  refine wpAny_Call_Name_kw (ld_blt I hg hm hv ?_ hn hdb)
  exact PyProof.Rows.callWith_builtin1 (thn (ha pos pins s σ H _ I h) fun us s1 ⟨vs, H1, I1, r1, q1⟩ => hc pins s1 σ H1 vs us Q I1 r1 q1) he hpl
theorem pe_callTy (hc : CallR X (.type T) r) (hg : Gl X x) (hm : X.mg x = none) (hv : bootBuiltins x = some (.type T)) (ha : PA X (e :: es) t) (hn : x ≠ "__name__" := by decide) (hdb : (x == ("__debug__" : Str)) = false := by decide)
    (he : starEach (e :: es) X.env = (false, eval e X.env) :: starEach es X.env := by rfl) (hpl : (backTo pos (starEach es X.env)).any (·.1) = false := by rfl) : PE X (.Call (.Name x p) (e :: es) [] pos) (tCB r t) := by
  intro pins s σ H Q I h
  refine wpAny_Call_Name_kw (ld_blt I hg hm hv ?_ hn hdb)
  exact PyProof.Rows.callWith_type1 (thn (ha pos pins s σ H _ I h) fun us s1 ⟨vs, H1, I1, r1, q1⟩ => hc pins s1 σ H1 vs us Q I1 r1 q1) he hpl
end
end L2
namespace HT
open PySem PyProof.Rows
section
open PySem.SeqAt
open PySem.AutoSeq1 (wpAny_loadPart')
open PySem.MeetsSeq PySem.MeetsSeq2 PySem.MeetsSeq3
end
section
variable {prog : Program} {w : World} {A : Around} {E : Value → Shared → Prop} {s : Shared}
noncomputable def sIx (n d : Nat) : Option Int → Nat
  | none => d
  | some v => if v < 0 then (v + (n : Int)).toNat else min v.toNat n
theorem sIx_none (n d : Nat) : sIx n d none = d := rfl
theorem sIx_le (n d : Nat) (hd : d ≤ n) (o : Option Int) : sIx n d o ≤ n := by
  cases o with
  | none => exact hd
  | some v =>
    show (if v < 0 then (v + (n : Int)).toNat else min v.toNat n) ≤ n
    by_cases hv : v < 0
    · rw [if_pos hv]; omega
    · rw [if_neg hv]; exact Nat.min_le_right _ _
theorem clip_eq (v : Int) (n d : Nat) : (if v < 0 then max (v + (n : Int)) 0 else min v (n : Int)) = ((sIx n d (some v) : Nat) : Int) := by
  show (if v < 0 then max (v + (n : Int)) 0 else min v (n : Int)) = (((if v < 0 then (v + (n : Int)).toNat else min v.toNat n) : Nat) : Int)
  by_cases hv : v < 0
  · simp only [if_pos hv]; omega
  · simp only [if_neg hv]; omega
theorem adjust_gen (lo hi : Option Int) (n : Nat) : Builtin.Slice.sliceAdjust lo hi 1 (n : Int) = (((sIx n 0 lo : Nat) : Int), ((sIx n n hi : Nat) : Int)) := by
  have h1 : ¬ ((1 : Int) < 0) := by omega
  unfold Builtin.Slice.sliceAdjust
  simp only [h1, if_false]
  refine Prod.ext ?_ ?_
  · cases lo with
    | none => rfl
    | some v => exact clip_eq v n 0
  · cases hi with
    | none => rfl
    | some v => exact clip_eq v n n
theorem places_gen (i j : Nat) : Builtin.Slice.slicePlaces (i : Int) (j : Int) 1 = j - i := by
  unfold Builtin.Slice.slicePlaces
  have h1 : (1 : Int) > 0 := by omega
  simp only [h1, if_true, Int.ediv_one]
  split <;> omega
theorem slicePart_ {v : Value} {o : Option Int} {Q : Option Int → Shared → Prop} (p : IsPart v o) (h : Q o s) : wpAny (model prog w) A (Builtin.Slice.slicePartIndex v) Q E s := by
  cases p with
  | none => exact slicePart_none h
  | int i t => exact slicePart_int h
theorem sliceApplied_gen {sl : Addr} {vl vu : Value} {lo hi : Option Int} {n : Nat} {Q : Int × Int × Nat → Shared → Prop} (hs : s.heap.IsSliceOf sl vl vu .none) (pl : IsPart vl lo) (pu : IsPart vu hi)
    (h : Q (((sIx n 0 lo : Nat) : Int), 1, sIx n n hi - sIx n 0 lo) s) : wpAny (model prog w) A (Builtin.Slice.sliceApplied (.ref sl) (pure (n : Int))) Q E s := by
  obtain ⟨os, hos, hcs, hds⟩ := id hs
  unfold Builtin.Slice.sliceApplied Builtin.Slice.sliceFields
  refine wpAny_bind (wpAny_bind (wpAny_field hos hds (x := vl) rfl (wpAny_bind (wpAny_field hos hds (x := vu) rfl (wpAny_bind (wpAny_field hos hds (x := .none) rfl (wpAny_pure ?_)))))))
  refine wpAny_bind (slicePart_none ?_)
  show wpAny _ _ (if ((1 : Int) == 0) = true then _ else _) _ _ s
  rw [if_neg (by decide)]
  refine wpAny_bind (slicePart_ pl (wpAny_bind (slicePart_ pu (wpAny_bind (wpAny_pure ?_)))))
  show wpAny _ _ (match Builtin.Slice.sliceAdjust lo hi 1 (n : Int) with | (lo, hi) => pure (lo, (1 : Int), Builtin.Slice.slicePlaces lo hi 1)) _ _ s
  rw [adjust_gen lo hi n]
  show wpAny _ _ (pure (((sIx n 0 lo : Nat) : Int), (1 : Int), Builtin.Slice.slicePlaces ((sIx n 0 lo : Nat) : Int) ((sIx n n hi : Nat) : Int) 1)) _ _ s
  rw [places_gen]
  exact wpAny_pure h
theorem pick_gen (xs : Array Value) (i k : Nat) : ((List.range k).filterMap fun (m : Nat) => xs[((i : Int) + (m : Int) * 1).toNat]?).toArray = ((xs.toList.drop i).take k).toArray := by
  have e : (fun (m : Nat) => xs[((i : Int) + (m : Int) * 1).toNat]?) = fun m => xs[i + m]? := by
    funext m
    have : ((i : Int) + (m : Int) * 1).toNat = i + m := by omega
    rw [this]
  rw [e]
  have := pick_run xs i k
  rw [List.filterMap_map] at this
  have e2 : ((fun x => xs[x]?) ∘ fun x => i + x) = fun m => xs[i + m]? := rfl
  rw [e2] at this
  rw [this]
theorem getItem_tuple_cut {t sl : Addr} {items : Array Value} {vl vu : Value} {lo hi : Option Int} {Q : Value → Shared → Prop} (ht : IsTup s.heap t items) (hs : s.heap.IsSliceOf sl vl vu .none) (pl : IsPart vl lo) (pu : IsPart vu hi)
    (hw : ¬ (sIx items.size 0 lo = 0 ∧ sIx items.size items.size hi = items.size))
    (h : Q (.ref s.heap.objs.size) { s with heap := s.heap.push { cls := .type "tuple", data := .seq ((items.toList.drop (sIx items.size 0 lo)).take (sIx items.size items.size hi - sIx items.size 0 lo)).toArray } })
    (hsz : items.size ≤ sizeLine) : wpAny (model prog w) A (getItem (.ref t) (.ref sl)) Q E s := by
  have htake : sizeOk (.seq ((items.toList.drop (sIx items.size 0 lo)).take (sIx items.size items.size hi - sIx items.size 0 lo)).toArray) := by
    show ((items.toList.drop (sIx items.size 0 lo)).take (sIx items.size items.size hi - sIx items.size 0 lo)).toArray.size ≤ sizeLine
    rw [List.size_toArray, List.length_take, List.length_drop, Array.length_toList]
    omega
  have hj : sIx items.size items.size hi ≤ items.size := sIx_le _ _ (Nat.le_refl _) hi
  obtain ⟨os, hos, hcs, hds⟩ := id hs
  have hTs : s.TypeIs (.ref sl) "slice" := ⟨os, hos, hcs⟩
  unfold getItem
  try with_reducible refine wpAny_holding ?_
  first | refine wpAny_bind (wpAny_pure ?_) | skip
  refine wpAny_bind (wpAny_sequenceKey ht.typeIs (by decide) ?_)
  refine wpAny_bind (wpAny_callSpecial?_slot (name := Str.ofString "__getitem__") ht.typeIs PyProof.Rows.slot_tuple_getitem
    (wpAny_call_entry PyProof.Rows.slot_tuple_getitem ht.typeIs entry_tuple_getitem ?_ (args_tuple_getitem _ _)))
  show wpAny _ _ (Builtin.Tuple.tupleItemsOf (.ref t) >>= _) _ _ s
  refine wpAny_bind (tupleItemsOf_ ht ?_)
  refine wpAny_bind (wpAny_typeOf hTs ?_)
  rw [if_pos (by decide)]
  refine wpAny_bind (sliceApplied_gen hs pl pu ?_)
  have hno : ¬ ((((sIx items.size 0 lo : Nat) : Int) == 0 && (1 : Int) == 1 && (sIx items.size items.size hi - sIx items.size 0 lo) == items.size) = true) := by
    intro q
    rw [Bool.and_eq_true, Bool.and_eq_true] at q
    have q1 : ((sIx items.size 0 lo : Nat) : Int) = 0 := eq_of_beq q.1.1
    have q2 : sIx items.size items.size hi - sIx items.size 0 lo = items.size := eq_of_beq q.2
    exact hw ⟨by omega, by omega⟩
  show wpAny _ _ (if (((sIx items.size 0 lo : Nat) : Int) == 0 && (1 : Int) == 1 && (sIx items.size items.size hi - sIx items.size 0 lo) == items.size) = true then _ else _) _ _ s
  rw [if_neg hno, pick_gen]
  first
    | exact wpAny_bind (m := Builtin.Tuple.tupleExact _) (wpAny_newObj_type (wpAny_pure ⟨_, rfl, wpAny_pure h⟩) htake)
    | exact wpAny_bind (m := Builtin.Tuple.tupleExact _) (wpAny_newObj_type (wpAny_bind (wpAny_pure (wpAny_pure ⟨_, rfl, wpAny_pure h⟩))) htake)
    | exact wpAny_bind (wpAny_bind (m := Builtin.Tuple.tupleExact _) (wpAny_newObj_type (wpAny_pure (wpAny_pure ⟨_, rfl, wpAny_pure h⟩)) htake))
    | exact wpAny_bind (wpAny_bind (m := Builtin.Tuple.tupleExact _) (wpAny_newObj_type (wpAny_pure ⟨_, rfl, wpAny_pure h⟩) htake))
end
end HT
namespace L2
open PySem PySem.Spec PyProof.Rows
noncomputable abbrev TO := St → Hp → (Option Int → Hp → Prop) → Prop
noncomputable def PO (X : Cx) (e : Option Expr) (t : TO) : Prop :=
  ∀ (pins : List (Addr × Obj)) (s : Shared) (σ : St) (H : Hp) (Q : Option Int → Hp → Prop), Inv X pins σ H s → t σ H Q →
    wpAny (model X.prog X.w) X.A (evalPart e X.env) (fun u s' => ∃ o H', Inv X pins σ H' s' ∧ IsPart u o ∧ Q o H') X.xe s
noncomputable def tNoPart : TO := fun _ H Q => Q none H
noncomputable def tPart (t : TE) : TO := fun σ H Q => t σ H fun x H1 => ∃ i, x = .int i ∧ Q (some i) H1
section
variable {X : Cx} {e : Expr} {te : TE} {lo hi : Option Expr} {tl th : TO} {pos p2 : Pos}
theorem po_none : PO X none tNoPart := by
  intro pins s σ H Q I h
  rw [evalPart_none]
  exact wpAny_pure ⟨none, H, I, .none, h⟩
theorem po_some (h : PE X e te) : PO X (some e) (tPart te) := by
  intro pins s σ H Q I hw
  rw [evalPart_some]
  refine thn (h pins s σ H _ I hw) fun u s1 ⟨x, H1, I1, r1, q1⟩ => ?_
  obtain ⟨i, rfl, q⟩ := q1
  obtain ⟨t, rfl⟩ := r1
  exact ⟨some i, H1, I1, .int i t, q⟩
noncomputable def SlR (X : Cx) (r : V → Option Int → Option Int → Hp → VK → Prop) : Prop :=
  ∀ (pins : List (Addr × Obj)) (s : Shared) (σ : St) (H : Hp) (x : V) (v vl vu : Value) (lo hi : Option Int) (sl : Addr) (Q : VK), Inv X pins σ H s → RelV x v → s.heap.IsSliceOf sl vl vu .none → IsPart vl lo → IsPart vu hi → r x lo hi H Q →
    ∃ T id, typeLookup (.type T) "__getitem__" = pure (some (.builtin id)) ∧ s.TypeIs v T ∧ wpAny (model X.prog X.w) X.A (getItem v (.ref sl)) (EP X pins σ Q) X.xe s
theorem SlR.or {r r' : V → Option Int → Option Int → Hp → VK → Prop} (h : SlR X r) (h' : SlR X r') : SlR X (fun x lo hi H Q => r x lo hi H Q ∨ r' x lo hi H Q) := by
  intro pins s σ H x v vl vu lo hi sl Q I rx hs pl pu q
  rcases q with q | q
  · exact h pins s σ H x v vl vu lo hi sl Q I rx hs pl pu q
  · exact h' pins s σ H x v vl vu lo hi sl Q I rx hs pl pu q
noncomputable def tSl (r : V → Option Int → Option Int → Hp → VK → Prop) (te : TE) (tl th : TO) : TE := fun σ H Q => te σ H fun x H1 => tl σ H1 fun l H2 => th σ H2 fun u H3 => r x l u H3 Q
theorem pe_slice {r : V → Option Int → Option Int → Hp → VK → Prop} (hr : SlR X r) (he : PE X e te) (hl : PO X lo tl) (hu : PO X hi th) : PE X (.Subscript e (.Slice lo hi none p2) pos) (tSl r te tl th) := by
  intro pins s σ H Q I h
  refine Subscript_ (thn (he pins s σ H _ I h) fun v s1 ⟨x, H1, I1, r1, q1⟩ => ?_)
  refine wpAny_Slice (thn (hl pins s1 σ H1 _ I1 q1) fun vl s2 ⟨l, H2, I2, pl, q2⟩ => thn (hu pins s2 σ H2 _ I2 q2) fun vu s3 ⟨u, H3, I3, pu, q3⟩ => ?_)
  rw [evalPart_none]
  refine wpAny_pure ?_
  have I4 : Inv X pins σ H3 { s3 with heap := s3.heap.push { cls := .type "slice", data := .fields #[vl, vu, .none] } } := I3.kept (t' := s3.toks) fun b ob q => Heap.get?_push_of_some _ q
  obtain ⟨T, id, hT, ht, hg⟩ := hr pins { s3 with heap := s3.heap.push { cls := .type "slice", data := .fields #[vl, vu, .none] } } σ H3 x v vl vu l u s3.heap.objs.size Q I4 r1 (Heap.IsSliceOf.new ..) pl pu q3
  show wpAny (model X.prog X.w) X.A (subscriptTail e (.Slice lo hi none p2) v (.ref s3.heap.objs.size)) (EP X pins σ Q) X.xe { s3 with heap := s3.heap.push { cls := .type "slice", data := .fields #[vl, vu, .none] } }
  exact tail_any (ops := [.ref s3.heap.objs.size, v]) ht hT hg (by with_unfolding_all rfl)
noncomputable def cutV (xs : List V) (lo hi : Option Int) : List V := (xs.drop (HT.sIx xs.length 0 lo)).take (HT.sIx xs.length xs.length hi - HT.sIx xs.length 0 lo)
theorem cutV_length (xs : List V) (lo hi : Option Int) : (cutV xs lo hi).length ≤ xs.length := by
  unfold cutV
  rw [List.length_take, List.length_drop]
  omega
noncomputable def rSlT (K : PySem.W.Frag) : V → Option Int → Option Int → Hp → VK → Prop := fun x lo hi H Q => ∃ a xs, x = .ref a ∧ SqT K H a xs ∧
  ¬ (HT.sIx xs.length 0 lo = 0 ∧ HT.sIx xs.length xs.length hi = xs.length) ∧ ∀ p, H p = none → Q (.ref p) (upd H p (.tup (cutV xs lo hi)))
theorem sl_tup : SlR X (rSlT X.K) := by
  intro pins s σ H x v vl vu lo hi sl Q I rx hs pl pu h
  obtain ⟨a, xs, rfl, hx, hw, q⟩ := h
  cases rx
  obtain ⟨its, r, ht, hz⟩ := I.tuple hx
  have hlen : its.toArray.size = xs.length := by rw [List.size_toArray]; exact r.length.symm
  refine ⟨"tuple", _, PyProof.Rows.slot_tuple_getitem.lookup, ht.typeIs, ?_⟩
  refine HT.getItem_tuple_cut ht hs pl pu (by rw [hlen]; exact hw) ?_ (by rw [hlen]; exact hz)
  rw [hlen]
  refine ⟨.ref s.heap.objs.size, _, I.laid (t' := s.toks) (o := .tup (cutV xs lo hi)) (fun b ob q => Heap.get?_push_of_some _ q) (Nat.le_refl _) ?_, rfl, q _ (I.hok.fresh (Nat.le_refl _))⟩
  exact ⟨Nat.le_trans (cutV_length xs lo hi) hz, _, (r.drop (HT.sIx xs.length 0 lo)).take (HT.sIx xs.length xs.length hi - HT.sIx xs.length 0 lo), TupN.new _ _⟩
theorem Vals.nil_iff {xs : List V} {us : List Value} (r : Vals xs us) : us = [] ↔ xs = [] := by
  cases r with
  | nil => simp
  | cons _ _ => simp
end
end L2
namespace L2
open PySem PySem.Spec PyProof.Rows
noncomputable def ixN (n : Nat) (i : Int) : Option Nat := if 0 ≤ i then (if i < n then some i.toNat else none) else if -(n : Int) ≤ i then some (i + n).toNat else none
noncomputable def atI {α : Type} (xs : List α) (i : Int) : Option α := (ixN xs.length i).bind fun j => xs[j]?
theorem ixN_seq {n : Nat} {i : Int} {j : Nat} (h : ixN n i = some j) : seqIndex? i n = some j ∧ j < n ∧ -(n : Int) ≤ i ∧ i < n := by
  unfold ixN at h
  by_cases h0 : 0 ≤ i
  · rw [if_pos h0] at h
    by_cases h1 : i < n
    · rw [if_pos h1] at h
      have e : i.toNat = j := Option.some.inj h
      exact ⟨by rw [seqIndex_of h0 h1, e], by omega, by omega, h1⟩
    · rw [if_neg h1] at h; cases h
  · rw [if_neg h0] at h
    by_cases h1 : -(n : Int) ≤ i
    · rw [if_pos h1] at h
      have e : (i + n).toNat = j := Option.some.inj h
      exact ⟨by rw [seqIndex_neg (by omega) h1, e], by omega, h1, by omega⟩
    · rw [if_neg h1] at h; cases h
theorem atI_get {α : Type} {xs : List α} {i : Int} {v : α} (h : atI xs i = some v) : ∃ j, seqIndex? i xs.length = some j ∧ xs[j]? = some v ∧ j < xs.length ∧ -(xs.length : Int) ≤ i ∧ i < xs.length := by
  unfold atI at h
  cases e : ixN xs.length i with
  | none => rw [e] at h; cases h
  | some j =>
    rw [e] at h
    obtain ⟨h1, h2, h3, h4⟩ := ixN_seq e
    exact ⟨j, h1, h, h2, h3, h4⟩
theorem atI_nat {α : Type} {xs : List α} {j : Nat} {v : α} (h : xs[j]? = some v) : atI xs (j : Int) = some v := by
  have hj : j < xs.length := (List.getElem?_eq_some_iff.mp h).1
  have e : ixN xs.length (j : Int) = some j := by
    unfold ixN
    rw [if_pos (by omega), if_pos (by omega)]; simp
  unfold atI; rw [e]; exact h
noncomputable def PlainIx (b : Expr) : Prop := ∀ o i, subscripted b false o i = operate [o, i] (getItem o i)
noncomputable def IxR (X : Cx) (r : R2) : Prop :=
  ∀ (value slice : Expr) (pins : List (Addr × Obj)) (s : Shared) (σ : St) (H : Hp) (x y : V) (v u : Value) (Q : VK), Inv X pins σ H s → RelV x v → RelV y u → r x y H Q →
    subscripted slice false v u = operate [v, u] (getItem v u) → wpAny (model X.prog X.w) X.A (subscriptTail value slice v u) (EP X pins σ Q) X.xe s
noncomputable def MtR (X : Cx) (id : String) (r : V → List V → Hp → VK → Prop) : Prop :=
  ∀ (pins : List (Addr × Obj)) (s : Shared) (σ : St) (H : Hp) (x : V) (xs : List V) (v : Value) (us : List Value) (Q : VK), Inv X pins σ H s → RelV x v → Vals xs us → r x xs H Q →
    wpAny (model X.prog X.w) X.A (call (.builtin id) (v :: us)) (EP X pins σ Q) X.xe s
section
variable {X : Cx} {a b : Expr} {ta tb : TE} {pos : Pos}
theorem IxR.or {r r' : R2} (h : IxR X r) (h' : IxR X r') : IxR X (fun x y H Q => r x y H Q ∨ r' x y H Q) := by
  intro value slice pins s σ H x y v u Q I rx ry q hs
  rcases q with q | q
  · exact h value slice pins s σ H x y v u Q I rx ry q hs
  · exact h' value slice pins s σ H x y v u Q I rx ry q hs
theorem MtR.or {id : String} {r r' : V → List V → Hp → VK → Prop} (h : MtR X id r) (h' : MtR X id r') : MtR X id (fun x xs H Q => r x xs H Q ∨ r' x xs H Q) := by
  intro pins s σ H x xs v us Q I rx rs q
  rcases q with q | q
  · exact h pins s σ H x xs v us Q I rx rs q
  · exact h' pins s σ H x xs v us Q I rx rs q
theorem pe_ix {r : R2} (hr : IxR X r) (ha : PE X a ta) (hb : PE X b tb) (hs : PlainIx b) : PE X (.Subscript a b pos) (tOp r ta tb) := by
  intro pins s σ H Q I h
  exact Subscript_ (binT ha hb I h fun v u s2 x y H2 I2 rx ry q => hr a b pins s2 σ H2 x y v u Q I2 rx ry q (hs _ _))
noncomputable def rIxL (K : PySem.W.Frag) : R2 := fun x y H Q => ∃ p xs i v, x = .ref p ∧ y = .int i ∧ SqL K H p xs ∧ atI xs i = some v ∧ Q v H
noncomputable def rIxT (K : PySem.W.Frag) : R2 := fun x y H Q => ∃ p xs i v, x = .ref p ∧ y = .int i ∧ SqT K H p xs ∧ atI xs i = some v ∧ Q v H
noncomputable def rIxS : R2 := fun x y H Q => ∃ z i c, x = .str z ∧ y = .int i ∧ z.length ≤ sizeLine ∧ atI z.cps.toList i = some c ∧ Q (.str ⟨#[c]⟩) H
theorem ix_list : IxR X (rIxL X.K) := by
  intro value slice pins s σ H x y v u Q I rx ry h hs
  obtain ⟨p, xs, i, z, rfl, rfl, hq, he, q⟩ := h
  cases rx
  obtain ⟨t, rfl⟩ := ry
  obtain ⟨its, r, pl, hz⟩ := I.list hq
  obtain ⟨j, h1, h2, h3, h4, h5⟩ := atI_get he
  obtain ⟨w, ew, rw'⟩ := r.get h2
  have hl := r.length
  have hn := line63
  have fin : EP X pins σ Q w s := ⟨z, H, I, rw', q⟩
  by_cases h0 : 0 ≤ i
  · have hj : i.toNat = j := by
      rw [seqIndex_of h0 h5] at h1
      exact Option.some.inj h1
    exact item_listR pl.isList h0 (by omega) (by rw [hj]; simpa using ew) fin hs
  · have hj : (i + (its.toArray.size : Int)).toNat = j := by
      rw [seqIndex_neg (by omega) h4] at h1
      rw [List.size_toArray, ← hl]
      exact Option.some.inj h1
    exact subscriptTail_builtinR (x := w) pl.isList.typeIs slot_list_getitem.lookup
      (wpAny_getItem_list_neg (Q := fun r s' => r = w ∧ EP X pins σ Q r s') pl.isList (by omega) (by rw [List.size_toArray] <;> omega) (by omega) (by rw [hj]; simpa using ew) ⟨rfl, fin⟩) hs
theorem ix_tup : IxR X (rIxT X.K) := by
  intro value slice pins s σ H x y v u Q I rx ry h hs
  obtain ⟨p, xs, i, z, rfl, rfl, hq, he, q⟩ := h
  cases rx
  obtain ⟨t, rfl⟩ := ry
  obtain ⟨its, r, pl, hz⟩ := I.tuple hq
  obtain ⟨j, h1, h2, h3, h4, h5⟩ := atI_get he
  obtain ⟨w, ew, rw'⟩ := r.get h2
  have hl := r.length
  have hn := line63
  have fin : EP X pins σ Q w s := ⟨z, H, I, rw', q⟩
  exact subscriptTail_builtinR (x := w) pl.typeIs slot_tuple_getitem.lookup
    (getItem_tuple (j := j) (Q := fun r s' => r = w ∧ EP X pins σ Q r s') pl (by omega) (by omega) (by rw [List.size_toArray, ← hl]; exact h1) (by simpa using ew) ⟨rfl, fin⟩) hs
theorem ix_str : IxR X rIxS := by
  intro value slice pins s σ H x y v u Q I rx ry h hs
  obtain ⟨z, i, c, rfl, rfl, hz, he, q⟩ := h
  obtain ⟨t, rfl⟩ := rx
  obtain ⟨t', rfl⟩ := ry
  obtain ⟨j, h1, h2, h3, h4, h5⟩ := atI_get he
  have hl : z.cps.toList.length = z.length := by simp [Str.length]
  rw [hl] at h1 h4 h5
  have hn := line63
  exact tail_any (typeIs_str s z t) slot_str_getitem.lookup (getItem_str (c := c) (by
    have e1 : decide (i < -(2 ^ 63 : Int)) = false := decide_eq_false (by omega)
    have e2 : decide (i ≥ 2 ^ 63) = false := decide_eq_false (by omega)
    rw [e1, e2, Bool.or_false]) (by rw [h1]; simpa using h2) ⟨.str ⟨#[c]⟩, H, I.tok _, ⟨_, rfl⟩, q⟩) hs
noncomputable def rIx (K : PySem.W.Frag) : R2 := fun x y H Q => rIxL K x y H Q ∨ rIxT K x y H Q ∨ rIxS x y H Q
theorem ix_seq : IxR X (rIx X.K) := ix_list.or (ix_tup.or ix_str)
theorem mapSeq_set (its : List Value) (n j : Nat) (u : Value) : Obj.mapSeq (·.setIfInBounds j u) { cls := .type "list", data := .seq its.toArray n } = { cls := .type "list", data := .seq (its.set j u).toArray n } := by
  simp [Obj.mapSeq]
theorem Inv.lst {pins : List (Addr × Obj)} {σ : St} {H : Hp} {s : Shared} {p : Addr} {xs : List V} (I : Inv X pins σ H s) (h : H p = some (.lst xs)) :
    ∃ (its : List Value) (n : Nat), Vals xs its ∧ s.heap.get? p = some { cls := .type "list", data := .seq its.toArray n } ∧ xs.length ≤ sizeLine := by
  obtain ⟨z, its, n, r, e⟩ := I.hok p _ h
  exact ⟨its, n, r, e, z⟩
theorem Inv.lstUpd {pins : List (Addr × Obj)} {σ : St} {H : Hp} {s : Shared} {p : Addr} {xs ys : List V} {its its' : List Value} {n n' : Nat} {f : Obj → Obj} (I : Inv X pins σ H s) (h : H p = some (.lst xs))
    (ho : s.heap.get? p = some { cls := .type "list", data := .seq its.toArray n }) (hf : f { cls := .type "list", data := .seq its.toArray n } = { cls := .type "list", data := .seq its'.toArray n' }) (r : Vals ys its') (hz : ys.length ≤ sizeLine) (t : Nat) :
    Inv X pins σ (upd H p (.lst ys)) { s with heap := s.heap.update p f, toks := t } := by
  have e : (s.heap.update p f).get? p = some { cls := .type "list", data := .seq its'.toArray n' } := by
    rw [Heap.get?_update_self f ho (by rw [hf] <;> rfl), hf]
  refine I.write (x := p) (e := p) (by rw [h]; trivial) (.inl rfl) (fun b u hb q => (Heap.get?_update_other _ _ (Ne.symm hb)).trans q) ⟨_, e⟩ ?_
  exact ⟨hz, its', n', r, e⟩
noncomputable def rSetL : V → V → V → Hp → (Hp → Prop) → Prop := fun o i v H Q => ∃ p xs k j, o = .ref p ∧ i = .int k ∧ H p = some (.lst xs) ∧ ixN xs.length k = some j ∧ Q (upd H p (.lst (xs.set j v)))
theorem set_list : PSet X rSetL := by
  intro pins s σ H o i v ov iv u Q I ro ri rv h
  obtain ⟨p, xs, k, j, rfl, rfl, hp, hj, q⟩ := h
  cases ro
  obtain ⟨t, rfl⟩ := ri
  obtain ⟨its, n, r, ho, hz⟩ := I.lst hp
  obtain ⟨h1, h2, h3, h4⟩ := ixN_seq hj
  have hl := r.length
  have hn := line63
  have I' : Inv X pins σ (upd H p (.lst (xs.set j v))) { s with heap := s.heap.update p (Obj.mapSeq (·.setIfInBounds j u)) } :=
    I.lstUpd hp ho (mapSeq_set its n j u) (r.set rv j) (by rw [List.length_set]; exact hz) s.toks
  by_cases h0 : 0 ≤ k
  · have hk : k.toNat = j := by
      rw [seqIndex_of h0 h4] at h1
      exact Option.some.inj h1
    exact PySem.W.ki_setAt ho h0 (by omega) (by rw [List.size_toArray, ← hl]; exact h4) (by rw [hk]; exact ⟨_, I', q⟩)
  · have hk : (k + (its.toArray.size : Int)).toNat = j := by
      rw [seqIndex_neg (by omega) h3] at h1
      rw [List.size_toArray, ← hl]
      exact Option.some.inj h1
    exact PySem.W.ki_setBack ho (by omega) (by rw [List.size_toArray, ← hl]; exact h3) (by omega) (by rw [hk]; exact ⟨_, I', q⟩)
theorem slice_bounds (lo hi : Option Int) (n : Nat) : (sliceBounds lo hi none n).1 = ((HT.sIx n 0 lo : Nat) : Int) ∧ (sliceBounds lo hi none n).2.1 = ((HT.sIx n n hi : Nat) : Int) ∧ (sliceBounds lo hi none n).2.2 = 1 := by
  refine ⟨?_, ?_, rfl⟩
  · cases lo with
    | none => simp [sliceBounds, HT.sIx]
    | some i =>
      simp only [sliceBounds, HT.sIx, Option.getD_none, show (1 : Int) > 0 by decide, if_true]
      by_cases h : i < 0
      · simp only [h, if_true] <;> omega
      · simp only [h, if_false] <;> omega
  · cases hi with
    | none => simp [sliceBounds, HT.sIx]
    | some i =>
      simp only [sliceBounds, HT.sIx, Option.getD_none, show (1 : Int) > 0 by decide, if_true]
      by_cases h : i < 0
      · simp only [h, if_true] <;> omega
      · simp only [h, if_false] <;> omega
theorem slicePick_cut (its : List Value) (lo hi : Option Int) : slicePick its.toArray lo hi none = ((its.drop (HT.sIx its.length 0 lo)).take (HT.sIx its.length its.length hi - HT.sIx its.length 0 lo)).toArray := by
  obtain ⟨h1, h2, h3⟩ := slice_bounds lo hi its.toArray.size
  unfold slicePick
  rw [h1, h2, h3]
  simp only [sliceRange_one, pick_run, List.size_toArray] <;> rfl
noncomputable def rSlL (K : PySem.W.Frag) : V → Option Int → Option Int → Hp → VK → Prop := fun x lo hi H Q => ∃ a xs, x = .ref a ∧ SqL K H a xs ∧ ∀ p, H p = none → Q (.ref p) (upd H p (.lst (cutV xs lo hi)))
theorem sl_list : SlR X (rSlL X.K) := by
  intro pins s σ H x v vl vu lo hi sl Q I rx hs pl pu h
  obtain ⟨a, xs, rfl, hx, q⟩ := h
  cases rx
  obtain ⟨its, r, ht, hz⟩ := I.list hx
  have hlen := r.length
  refine ⟨"list", _, slot_list_getitem.lookup, ht.isList.typeIs, ?_⟩
  refine wpAny_getItem_list_slice ht.isList hs pl pu .none (by simp) ?_ (by rw [List.size_toArray] <;> omega)
  rw [slicePick_cut, ← hlen]
  refine ⟨.ref s.heap.objs.size, _, I.laid (t' := s.toks) (o := .lst (cutV xs lo hi)) (fun b ob q => Heap.get?_push_of_some _ q) (Nat.le_refl _) ?_, rfl, q _ (I.hok.fresh (Nat.le_refl _))⟩
  exact ⟨Nat.le_trans (cutV_length xs lo hi) hz, _, 0, (r.drop (HT.sIx xs.length 0 lo)).take (HT.sIx xs.length xs.length hi - HT.sIx xs.length 0 lo), Heap.get?_push_size _ rfl⟩
theorem call_len_seq : CallR X (.builtin "len") (fun xs H Q => ∃ p ys, xs = [.ref p] ∧ (SqL X.K H p ys ∨ SqT X.K H p ys) ∧ Q (.int ys.length) H) := by
  intro pins s σ H xs us Q I r h
  obtain ⟨p, ys, rfl, hq, q⟩ := h
  obtain ⟨u, rfl, rx⟩ := vals1 r
  cases rx
  have hn := line63
  rcases hq with hq | hq
  · obtain ⟨its, r', pl, hz⟩ := I.list hq
    have hlen := r'.length
    exact Calls.call_len_list pl.isList (by simp only [List.size_toArray] <;> omega) ⟨.int ys.length, H, I.tok _, ⟨s.toks + 1, by rw [List.size_toArray, hlen]⟩, q⟩
  · obtain ⟨its, r', pl, hz⟩ := I.tuple hq
    have hlen := r'.length
    exact len_tuple pl (by simp only [List.size_toArray] <;> omega) ⟨.int ys.length, H, I.tok _, ⟨s.toks + 1, by rw [List.size_toArray, hlen]⟩, q⟩
theorem call_len_str : CallR X (.builtin "len") (fun xs H Q => ∃ z, xs = [.str z] ∧ z.length ≤ sizeLine ∧ Q (.int z.length) H) := by
  intro pins s σ H xs us Q I r h
  obtain ⟨z, rfl, hz, q⟩ := h
  obtain ⟨u, rfl, t, rfl⟩ := vals1 r
  have hn := line63
  exact len_str (by omega) ⟨.int z.length, H, I.tok _, ⟨_, rfl⟩, q⟩
theorem CallR.or {f : Value} {r r' : List V → Hp → VK → Prop} (h : CallR X f r) (h' : CallR X f r') : CallR X f (fun xs H Q => r xs H Q ∨ r' xs H Q) := by
  intro pins s σ H xs us Q I rs q
  rcases q with q | q
  · exact h pins s σ H xs us Q I rs q
  · exact h' pins s σ H xs us Q I rs q
noncomputable def tyV (K : PySem.W.Frag) (T : String) (x : V) (H : Hp) : Prop := match x with
  | .str _ => T = "str"
  | .int _ => T = "int"
  | .ref p => (T = "list" ∧ ∃ xs, SqL K H p xs) ∨ (T = "tuple" ∧ ∃ o, K.lookup p = some o ∧ o.cls = .type "tuple" ∧ o.dict = none) ∨
      (T = "dict" ∧ ((∃ kvs, H p = some (.dK kvs)) ∨ ∃ kvs, H p = some (.dT kvs))) ∨ (T = "set" ∧ ∃ S n, H p = some (.set S n))
  | _ => False
theorem tyV_is {pins : List (Addr × Obj)} {σ : St} {H : Hp} {s : Shared} {T : String} {x : V} {v : Value} (I : Inv X pins σ H s) (r : RelV x v) (ty : tyV X.K T x H) :
    s.TypeIs v T ∧ ∀ a, v = .ref a → ∃ ob, s.heap.get? a = some ob ∧ ob.dict = none := by
  cases x with
  | str z =>
    obtain ⟨t, rfl⟩ := r
    cases (show T = "str" from ty)
    exact ⟨typeIs_str s z t, fun _ e => nomatch e⟩
  | int i =>
    obtain ⟨t, rfl⟩ := r
    cases (show T = "int" from ty)
    exact ⟨typeIs_int s i t, fun _ e => nomatch e⟩
  | ref p =>
    cases r
    rcases ty with ⟨rfl, xs, hq⟩ | ⟨rfl, o, hk, hc, hd⟩ | ⟨rfl, hk⟩ | ⟨rfl, S, n, hk⟩
    · obtain ⟨its, _, pl, _⟩ := I.list hq
      refine ⟨pl.isList.typeIs, fun a e => ?_⟩
      cases e
      obtain ⟨o, n, e, c, hd, _⟩ := pl
      exact ⟨o, e, hd⟩
    · refine ⟨⟨o, I.kIn p o hk, hc⟩, fun a e => ?_⟩
      cases e
      exact ⟨o, I.kIn _ o hk, hd⟩
    · have z : ∃ o, s.heap.get? p = some o ∧ o.ExactDict := by
        rcases hk with ⟨kvs, hk⟩ | ⟨kvs, hk⟩
        · obtain ⟨_, _, _, _, o, _, _, e, ex, _⟩ := I.hok p _ hk
          exact ⟨o, e, ex⟩
        · obtain ⟨_, _, _, _, o, _, _, e, ex, _⟩ := I.hok p _ hk
          exact ⟨o, e, ex⟩
      obtain ⟨o, e, ex⟩ := z
      refine ⟨⟨o, e, ex.1⟩, fun a e2 => ?_⟩
      cases e2
      exact ⟨o, e, ex.2.1⟩
    · obtain ⟨o, _, _, _, e, ex, _⟩ := I.hok p _ hk
      refine ⟨⟨o, e, ex.1⟩, fun a e2 => ?_⟩
      cases e2
      exact ⟨o, e, ex.2.1⟩
  | _ => exact False.elim ty
noncomputable def tBM (K : PySem.W.Frag) (T : String) (r : V → List V → Hp → VK → Prop) (to : TE) (t : TA) : TE := fun σ H Q => to σ H fun x H1 => tyV K T x H1 ∧ t σ H1 fun xs H2 => r x xs H2 Q
variable {o e : Expr} {es : List Expr} {to : TE} {t : TA} {name : Str} {apos cpos : Pos} {T id : String} {r : V → List V → Hp → VK → Prop}
theorem pe_bm (pa : PlainAttrs T) (slot : Slot T name id) (hty : typeOf (.builtin id) = pure (.type "method_descriptor")) (hm : MtR X id r) (ho : PE X o to) (ha : PA X (e :: es) t)
    (hbase : attributeBase o name X.env (eval o X.env) = eval o X.env := by rfl)
    (hfew : ((backTo cpos (starEach (e :: es) X.env)).all (fun x => !x.1) && (backToKw cpos (keywordEach [] X.env)).all (fun x => x.1.isSome)
      && decide ((e :: es).length + ([] : List Keyword).length + (if ([] : List Keyword).isEmpty then 0 else 1) < 30)) = true := by rfl)
    (hline : (apos.endLine == cpos.line) = true := by rfl) (hs : starEach (e :: es) X.env = (false, eval e X.env) :: starEach es X.env := by rfl) (hplain : (backTo cpos (starEach es X.env)).any (·.1) = false := by rfl) :
    PE X (.Call (.Attribute o name apos) (e :: es) [] cpos) (tBM X.K T r to t) := by
  intro pins s σ H Q I h
  refine wpAny_Call_method_late hbase hfew hline rfl (thn (ho pins s σ H _ I h) fun v s1 ⟨x, H1, I1, r1, ty, q1⟩ => ?_)
  obtain ⟨h1, h2⟩ := tyV_is I1 r1 ty
  refine ⟨T, id, pa, slot, hty, h1, h2, ?_⟩
  have hA := ha cpos pins s1 σ H1 _ I1 q1
  rw [hs] at hA ⊢
  refine Calls.callWith_builtin (by show (false || (backTo cpos (starEach es X.env)).any (·.1)) = false; rw [hplain] <;> rfl) (Calls.evalArgs_plain ?_)
  exact thn hA fun us s2 ⟨vs, H2, I2, r2, q2⟩ => hm pins s2 σ H2 x vs v us Q I2 r1 r2 q2
end
end L2
namespace L2
open PySem PySem.Spec PyProof.Rows
noncomputable def MtM (X : Cx) (id : String) (r : V → List V → Hp → VK → Prop) : Prop :=
  ∀ (pins : List (Addr × Obj)) (s : Shared) (σ : St) (H : Hp) (x : V) (xs : List V) (v : Value) (us : List Value) (Q : VK), Inv X pins σ H s → RelV x v → Vals xs us → r x xs H Q →
    wpAny (model X.prog X.w) X.A (call (.builtin id) (v :: us)) (EP X pins σ Q) X.xe s
theorem Vals.one : ∀ {x : V} {us : List Value}, Vals [x] us → ∃ u, us = [u] ∧ RelV x u
  | _, _, .cons r .nil => ⟨_, rfl, r⟩
theorem Vals.two : ∀ {x y : V} {us : List Value}, Vals [x, y] us → ∃ u v, us = [u, v] ∧ RelV x u ∧ RelV y v
  | _, _, _, .cons r (.cons q .nil) => ⟨_, _, rfl, r, q⟩
theorem Vals.zero : ∀ {us : List Value}, Vals [] us → us = []
  | _, .nil => rfl
theorem Vals.dropLast {xs : List V} {us : List Value} (h : Vals xs us) : Vals xs.dropLast us.dropLast := by
  induction h with
  | nil => exact .nil
  | cons r t ih =>
    cases t with
    | nil => exact .nil
    | cons q t' => exact .cons r ih
theorem Vals.rep {xs : List V} {us : List Value} (h : Vals xs us) : ∀ k : Nat, Vals (List.replicate k xs).flatten (List.replicate k us).flatten
  | 0 => .nil
  | k + 1 => by
    rw [List.replicate_succ, List.replicate_succ, List.flatten_cons, List.flatten_cons]
    exact Vals.append h (Vals.rep h k)
theorem foldl_rep (its : List Value) : ∀ (k : Nat) (acc : List Value),
    List.foldl (fun x1 x2 => x1 ++ x2) acc.toArray (List.replicate k its.toArray) = (acc ++ (List.replicate k its).flatten).toArray
  | 0, acc => by simp
  | k + 1, acc => by
    have e : acc.toArray ++ its.toArray = (acc ++ its).toArray := by simp
    have e2 : (acc ++ its) ++ (List.replicate k its).flatten = acc ++ (List.replicate (k + 1) its).flatten := by
      rw [List.replicate_succ, List.flatten_cons, List.append_assoc]
    rw [← e2, ← foldl_rep its k (acc ++ its), ← e, List.replicate_succ, List.foldl_cons]
section
variable {X : Cx} {pins : List (Addr × Obj)} {σ : St} {H : Hp} {s : Shared} {l b : Addr} {xs ys zs : List V}
theorem Inv.lnew {its : List Value} {t' : Nat} (I : Inv X pins σ H s) (hv : Vals ys its) (hz : ys.length ≤ sizeLine) :
    Inv X pins σ (upd H s.heap.objs.size (.lst ys)) { s with heap := s.heap.push { cls := .type "list", data := .seq its.toArray }, toks := t' } :=
  I.laid (fun _ _ q => Heap.get?_push_of_some _ q) (Nat.le_refl _) ⟨hz, its, 0, hv, Heap.get?_push_size _ rfl⟩
theorem Inv.fresh (I : Inv X pins σ H s) : H s.heap.objs.size = none := I.hok.fresh (Nat.le_refl _)
end
section
variable {X : Cx}
theorem len_rep {α : Type} (xs : List α) (k : Nat) : (List.replicate k xs).flatten.length = k * xs.length := by
  induction k with
  | zero => simp
  | succ k ih => rw [List.replicate_succ, List.flatten_cons, List.length_append, ih, Nat.succ_mul, Nat.add_comm]
end
section
variable {prog : Program} {w : World} {A : Around} {E : Value → Shared → Prop} {s : Shared}
end
section
variable {X : Cx}
end
end L2
namespace Att
open PySem PySem.W PySem.Calls PyProof.Rows
theorem ints_of_wellAll {P : Params} {h : Heap} : ∀ (ns : List Int) (vs : List Value), WellAll P h vs (ns.map WData.int) → IntsAre vs ns := by
  intro ns
  induction ns with
  | nil =>
    intro vs w
    rw [List.map_nil] at w
    cases w
    exact .nil
  | cons n ns ih =>
    intro vs w
    rw [List.map_cons] at w
    cases w with
    | cons a b =>
      cases a
      exact .cons _ _ (ih _ b)
theorem script_of {l : OpenLaw} {n : Nat} (hn : l.most = some n) {P : Params} {h : Heap} {args : List WData} {vals : List Value}
    (hpre : l.row.toRowW.claim.pre args = true) (hwl : WellAll P h vals args) :
    ∃ a vs ns, vals = [Value.ref a] ∧ args = [WData.list (ns.map WData.int)] ∧ h.get? a = some { cls := .type "list", data := .seq vs.toArray } ∧ IntsAre vs ns ∧ ns.length ≤ n := by
  have hsh : WShape.hasAll [] args [.list .int] = true := (pre_splitW hpre).1
  have hc : l.pre.holds [] { args := args } = true := (pre_splitW hpre).2
  obtain ⟨d, r, rfl, h1, h2⟩ := hasAllW_cons hsh
  obtain rfl := hasAllW_nil h2
  obtain ⟨xs, rfl, h3⟩ := hasW_list h1
  obtain ⟨ns, rfl⟩ := items_int h3
  have hlen : ns.length ≤ n := by
    unfold OpenLaw.pre at hc
    have h4 : (WTm.not (.lt (.lit (.int (n : Int))) (.len (.arg 0)))).holds [] { args := [.list (ns.map .int)] } = true := by
      have h4 := (holds_andW hc).1
      rw [hn] at h4
      exact h4
    have h5 := condW_of h4 (w_not (w_lt w_lit (w_len_list (w_arg rfl))))
    rw [List.length_map] at h5
    refine Nat.le_of_not_lt fun q => ?_
    have q' : (n : Int) < ((ns.length : Nat) : Int) := by omega
    first
      | (rw [decide_eq_true q'] at h5; exact absurd h5 (by decide))
      | (simp at h5; omega)
  cases hwl with
  | cons w1 w2 =>
    cases w2
    cases w1 with
    | list ho hall => exact ⟨_, _, ns, rfl, rfl, ho, ints_of_wellAll ns _ hall, hlen⟩
theorem post_true (l : OpenLaw) (args : List WData) : l.row.toRowW.claim.post args (.bool true) args = true :=
  postW_of (r := l.row.toRowW) (X := (true == true))
    (show WShape.has [] (.bool true) .bool = true by first | rfl | decide | simp [WShape.has, WShape.arms, WShape.armsAll])
    (show (WTm.eq .res (.lit (.bool true))).value [] { args := args, res := some (.bool true), after := args } = some (.bool (true == true)) from w_eq_bool (w_res rfl) w_lit) rfl
theorem attach_call {l : OpenLaw} {n : Nat} {q : Program} {loose : List Str} {XP : (Str → Option Value) → Heap → Prop} {YP : World → Heap → Prop} {d : DefRec}
    (hn : l.most = some n) (hdf : d.params.defaults = [])
    (call : ∀ (w : World) (s₀ s₁ : Shared) (mg mb : Str → Option Value) (fa : Addr) (o : Obj) (pm cd doc : Value) (a : Addr) (vs : List Value) (ns : List Int),
      Ground q loose [] XP w s₀ mg mb s₁.heap → YP w s₁.heap →
      s₁.heap.get? fa = some o → o.data = .func (docDef d.name d.params d.body d.scope pm cd doc) → s₁.heap.CodeRec cd d.name → mg d.name = some (.ref fa) →
      s₁.heap.get? a = some { cls := .type "list", data := .seq vs.toArray } → IntsAre vs ns → ns.length ≤ n → s₁.gens = #[] →
      codeAny (model l.prog w) callerA (.call (.ref fa) ⟨[.ref a], []⟩) (fun r s' => r = .ok (.ret (.bool true)) ∧ OldK s₁.heap s'.heap ∧ s'.os = s₁.os ∧ AllBare s'.gens) s₁) :
    WalkO q loose XP YP l.row.toRowW d [] (fun f vs => PySem.call f vs) := by
  intro w s₀ s₁ mg mb G Y fa o pm cd doc dV kV ho hd hcd hD hmg hg args vals as hpre hlay hrd hwl hlo
  obtain rfl : dV = .none := Dflts.none hD hdf
  obtain rfl : kV = .none := Dflts.noKw hD
  obtain ⟨a, vs, ns, rfl, rfl, hobj, hints, hlen⟩ := script_of hn hpre hwl
  refine enter_call (codeAny_mono (call w s₀ s₁ mg mb fa o pm cd doc a vs ns G Y ho (fd_plain hd) hcd hmg hobj hints hlen hg) fun r s' hq => ?_)
  obtain ⟨rfl, h2, h3, h4⟩ := hq
  exact ⟨.inl ⟨.bool true, .bool true, [], rfl, fun _ => rfl, .bool true, post_true l _, fun _ => ⟨List.Pairwise.nil, fun _ hm => (nomatch hm)⟩⟩, h2, h3, h4⟩
section
variable {prog : Program} {w : World} {A : Around} {E : Value → Shared → Prop} {s : Shared} {K : Frag}
end
end Att
namespace L2
open PySem PySem.Spec PyProof.Rows
theorem vals_ints : ∀ {vs : List Value} {ns : List Int}, IntsAre vs ns → Vals (ns.map V.int) vs
  | _, _, .nil => .nil
  | _, _, .cons n t h => .cons ⟨t, rfl⟩ (vals_ints h)
noncomputable def Only (H : Hp) : Prop := ∀ b, H b = none ∨ ∃ o xs, H b = some (.frz o (.lst xs))
theorem law_call {P : Program} {w : World} {K : PySem.W.Frag} {mg mb : Str → Option Value} {CX : CXT} {k : Nat} {fa a : Addr} {fd : FuncData} {x : Str} {sp : Sp} {s₁ : Shared} {vs : List Value} {ns : List Int}
    (KX : K.In s₁.heap) (hns : s₁.heap.Ns mainGlobals mg) (hb : s₁.heap.Ns builtinsNs mb) (hbb : ∀ x : Str, x ≠ "__name__" → mb x = bootBuiltins x) (hlim : s₁.heap.NoLimit) (hg : s₁.gens = #[])
    (ha : s₁.heap.get? a = some { cls := .type "list", data := .seq vs.toArray }) (hi : IntsAre vs ns) (hl : ns.length ≤ sizeLine) (hr : Room k callerA)
    (F : ∀ base : Heap, K.In base → base.Ns mainGlobals mg → FnOk P w K mg base CX k fa fd [x] sp) (hbind : ∀ (s : Shared) (u : Value), BindsTo s fd ⟨[u], []⟩ [(x, u)])
    (hsp : ∀ H : Hp, Only H → SqL K H a (ns.map V.int) → sp [.ref a] H (fun v _ => v = .bl true) fun _ _ _ => False)
    (hCX : ∀ H e s', CX [] H s₁ (fun _ _ _ => False) e s' → False) :
    codeAny (model P w) callerA (.call (.ref fa) ⟨[.ref a], []⟩) (fun r s' => r = .ok (.ret (.bool true)) ∧ OldK s₁.heap s'.heap ∧ s'.os = s₁.os ∧ AllBare s'.gens) s₁ := by
  have rv := vals_ints hi
  have lenV := hi.length
  -- from an abstract heap in which nothing but the script may be tracked
  have core : ∀ H : Hp, Only H → SqL K H a (ns.map V.int) → HOk P w H s₁.heap → (∀ b, H b ≠ none → b = a) → (H a ≠ none → K.lookup a = none) →
      codeAny (model P w) callerA (.call (.ref fa) ⟨[.ref a], []⟩) (fun r s' => r = .ok (.ret (.bool true)) ∧ OldK s₁.heap s'.heap ∧ s'.os = s₁.os ∧ AllBare s'.gens) s₁ := by
    intro H hO hS hok hA hK
    have base_of : ∀ {b : Addr} {o : Obj}, s₁.heap.get? b = some o → H b = none → (hidT s₁.heap H).get? b = some o := fun e n => hidT_get e n
    have noA : ∀ {b : Addr} {o : Obj} {es : Array DictEntry} {ep : Nat}, s₁.heap.get? b = some o → o.data = .dict es ep → H b = none := fun {b o es ep} e d => by
      cases q : H b with
      | none => rfl
      | some u =>
        have e' : b = a := hA b (by rw [q]; simp)
        subst e'
        rw [ha] at e; cases e
        have d' : Data.seq vs.toArray _ = Data.dict es ep := d
        cases d'
    have nsK : ∀ {b : Addr} {m : Str → Option Value}, s₁.heap.Ns b m → (hidT s₁.heap H).Ns b m := fun {b m} ⟨o, es, ep, e, d, r⟩ => ⟨o, es, ep, base_of e (noA e d), d, r⟩
    have hKb : K.In (hidT s₁.heap H) := fun b o e => base_of (KX b o e) (by
      cases q : H b with
      | none => rfl
      | some u =>
        have e' : b = a := hA b (by rw [q]; simp)
        subst e'
        rw [hK (by rw [q]; simp)] at e; cases e)
    have hM : Mod K mg (hidT s₁.heap H) := ⟨hKb, nsK hns, ⟨mb, nsK hb, hbb⟩, let ⟨mc, h1, h2⟩ := hlim; ⟨mc, nsK h1, h2⟩⟩
    have e0 : Env0 P w K mg (hidT s₁.heap H) callerA [] s₁ H := ⟨rfl, hM, fun b o e => of_hidT e, Nat.le_of_eq (hidT_size _ _), trivial, fun b hb => absurd (show b ∈ ([] : List Addr) from hb) (by simp), hok, .of_eq hg⟩
    refine codeAny_mono ((F _ hKb (nsK hns)).run callerA [] s₁ H ⟨[.ref a], []⟩ [.ref a] [.ref a] _ _ hr e0 (hbind s₁ (.ref a)) (.cons rfl .nil) (hsp H hO hS)) fun r s' h => ?_
    cases r with
    | error e => exact (hCX H e s' h).elim
    | ok fl =>
      cases fl with
      | next => exact False.elim h
      | brk => exact False.elim h
      | cont => exact False.elim h
      | ret u =>
        obtain ⟨v, H', os, bare, un, hok', r', q⟩ := h
        have q' : v = .bl true := q
        subst q'
        obtain rfl : u = Value.bool true := r'
        refine ⟨rfl, OldK.of_keep fun b o e => ?_, os, bare⟩
        cases q : H b with
        | none => exact un.keep b o e q (by intro z; exact absurd (show b ∈ ([] : List Addr) from z) (by simp)) (by simp)
        | some u =>
          rcases hO b with z | ⟨ob, xs, z⟩
          · rw [q] at z; cases z
          · have z2 := un.frzs b ob _ z
            obtain ⟨e1, _⟩ := hok b _ z
            obtain ⟨e2, _⟩ := hok' b _ z2
            rw [e] at e1; cases e1
            exact e2
  cases hk : K.lookup a with
  | some o =>
    -- the script is one of the module's own objects
    have e := KX a o hk
    rw [ha] at e
    cases e
    refine core (fun _ => none) (fun _ => .inl rfl) (.inr ⟨_, vs.toArray, _, hk, rfl, rfl, rfl, by rw [List.size_toArray, lenV]; exact hl, by simpa using rv⟩) (fun b u z => by have z' : (none : Option HO) = some u := z; cases z') (fun b z => absurd rfl z) fun z => absurd rfl z
  | none =>
    refine core (fun b => if b = a then some (.frz { cls := .type "list", data := .seq vs.toArray } (.lst (ns.map V.int))) else none) (fun b => ?_) (.inl (.inr ⟨{ cls := .type "list", data := .seq vs.toArray }, if_pos rfl⟩)) (fun b u z => ?_) (fun b z => ?_) fun _ => hk
    · by_cases hb : b = a
      · exact .inr ⟨_, _, if_pos hb⟩
      · exact .inl (if_neg hb)
    · by_cases hb : b = a
      · have z' := (if_pos hb).symm.trans z
        cases z'
        subst hb
        exact ⟨ha, by rw [List.length_map]; exact hl, vs, _, rv, ha⟩
      · have z' := (if_neg hb).symm.trans z
        cases z'
    · by_cases hb : b = a
      · exact hb
      · exact absurd (if_neg hb) z
end L2
namespace L2
open PySem PySem.Spec PyProof.Rows
theorem walk_of {l : PySem.W.OpenLaw} {n k : Nat} {q : Program} {loose : List Str} {XP : (Str → Option Value) → Heap → Prop} {YP : World → Heap → Prop} {d : DefRec} {K : Params → PySem.W.Frag} {CX : World → CXT} {sp : World → Sp} {x : Str}
    (hn : l.most = some n) (hn2 : n ≤ sizeLine) (hdf : d.params.defaults = []) (hr : Room k callerA)
    (hY : ∀ (w : World) (h : Heap), YP w h → (K w.params).In h)
    (F : ∀ (w : World) (mg : Str → Option Value) (fa : Addr) (h : Heap), (K w.params).In h → h.Ns mainGlobals mg → mg d.name = some (.ref fa) →
      ∃ fd : FuncData, (∀ (s : Shared) (u : Value), BindsTo s fd ⟨[u], []⟩ [(x, u)]) ∧
        ∀ base : Heap, (K w.params).In base → base.Ns mainGlobals mg → FnOk l.prog w (K w.params) mg base (CX w) k fa fd [x] (sp w))
    (hsp : ∀ (w : World) (H : Hp) (a : Addr) (ns : List Int), ns.length ≤ n → Only H → SqL (K w.params) H a (ns.map V.int) → sp w [.ref a] H (fun v _ => v = .bl true) fun _ _ _ => False)
    (hCX : ∀ (w : World) (H : Hp) (s : Shared) (e : Value) (s' : Shared), CX w [] H s (fun _ _ _ => False) e s' → False) :
    PySem.W.WalkO q loose XP YP l.row.toRowW d [] (fun f vs => PySem.call f vs) := by
  refine Att.attach_call hn hdf fun w s₀ s₁ mg mb fa o pm cd doc a vs ns G Y ho hd hcd hmg hobj hints hlen hg => ?_
  have KX := hY w _ Y
  obtain ⟨fd, hb, hF⟩ := F w mg fa _ KX G.T.g hmg
  exact law_call KX G.T.g G.T.b G.T.builtins G.T.nolimit hg hobj hints (Nat.le_trans hlen hn2) hr hF hb (fun H hO hS => hsp w H a ns hlen hO hS) fun H e s' => hCX w H s₁ e s'
end L2
namespace L2
open PySem PySem.Spec PyProof.Rows
noncomputable def defArgs (s : Stmt) : Arguments := match s with
  | .FunctionDef _ a _ _ _ _ _ _ _ _ => a
  | _ => { posonlyargs := [], args := [], vararg := none, kwonlyargs := [], kw_defaults := [], kwarg := none, defaults := [] }
noncomputable def defBody (s : Stmt) : List Stmt := match s with
  | .FunctionDef _ _ b _ _ _ _ _ _ _ => b
  | _ => []
noncomputable def defScope (s : Stmt) : Scope := match s with
  | .FunctionDef _ _ _ _ _ _ sc _ _ _ => sc
  | _ => { kind := .function, names := [], isGenerator := false, isCoroutine := false }
noncomputable abbrev CX0 : CXT := fun _ _ _ _ _ _ => False
noncomputable abbrev E0 : XK := fun _ _ _ => False
theorem pass0 {X : Cx} : Passes CX0 X E0 := fun _ _ _ _ _ _ _ h => h.elim
structure Fun (K : PySem.W.Frag) (x qual : Str) (st : Stmt) (f : Addr) (fd : FuncData) : Prop where
  ex : ∃ (oc : Value) (od : Option Addr) (kV doc pm : Value) (an : Option Addr) (cdv ct : Value) (osl : Array (Option Value)),
    fd = PySem.W.fnOf x qual (defArgs st) (defBody st) (defScope st) .none kV doc pm an cdv ct ∧ K.lookup f = some ⟨oc, od, .func fd, osl⟩ ∧ PySem.W.codeIn K cdv qual = true
  kp : PySem.W.keepIn K (.ref f) = true
section
variable {P : Program} {w : World} {K : PySem.W.Frag} {mg : Str → Option Value} {base : Heap}
theorem Fun.ok {x qual : Str} {st : Stmt} {f : Addr} {fd : FuncData} {N ps : List Str} {k : Nat} {sp : Sp} (F : Fun K x qual st f fd) (S : FnScope N ps (defScope st)) (len : ∀ vs H Q E, sp vs H Q E → vs.length = ps.length)
    (hbody : ∀ (cdv : Value) (A : Around) (outer : List Env) (s : Shared) (H : Hp) (vs : List V) (Q : VK) (E : XK), Room k (A.deeper (envOfC qual (defScope st) s.heap.objs.size f cdv)) → sp vs H Q E →
      ∃ t, PSs (cxOf CX0 P w K mg base N qual (defScope st) f cdv A outer s H E).nox (defBody st) t ∧ t { nx := fun _ H' => Q .non H', rt := Q } (start N vs) H) : FnOk P w K mg base CX0 (k + 1) f fd ps sp := by
  obtain ⟨oc, od, kV, doc, pm, an, cdv, ct, osl, rfl, lk, hcd⟩ := F.ex
  refine fn_of lk hcd S len fun A outer s H vs Q E hr hsp => ?_
  obtain ⟨t, h, q⟩ := hbody cdv A outer s H vs Q E hr hsp
  exact ⟨t, h.nox, q⟩
theorem Fun.binds {x qual : Str} {st : Stmt} {f : Addr} {fd : FuncData} {ps : List Str} (F : Fun K x qual st f fd)
    (h : ∀ (kV doc pm : Value) (an : Option Addr) (cdv ct : Value) (us : List Value), us.length = ps.length → bindArgs (PySem.W.fnOf x qual (defArgs st) (defBody st) (defScope st) .none kV doc pm an cdv ct) ⟨us, []⟩ = pure (ps.zip us)) : Binds K fd ps [] := by
  obtain ⟨oc, od, kV, doc, pm, an, cdv, ct, osl, rfl, lk, hcd⟩ := F.ex
  exact .all (h kV doc pm an cdv ct)
theorem fun_mk {x qual : Str} {st : Stmt} {f : Addr} {oc : Value} {od an : Option Addr} {osl : Array (Option Value)} {kV doc pm cdv ct : Value} (l : K.lookup f = some ⟨oc, od, .func (PySem.W.fnOf x qual (defArgs st) (defBody st) (defScope st) .none kV doc pm an cdv ct), osl⟩)
    (c : PySem.W.codeIn K cdv qual = true) (k : PySem.W.keepIn K (.ref f) = true) : Fun K x qual st f (PySem.W.fnOf x qual (defArgs st) (defBody st) (defScope st) .none kV doc pm an cdv ct) := ⟨⟨oc, od, kV, doc, pm, an, cdv, ct, osl, rfl, l, c⟩, k⟩
end
section
variable {X : Cx}
theorem pv (i : Nat) {x : Str} {pos : Pos} (hN : X.N[i]? = some x := by rfl) (hv : Vis X.env.scope x := by first | exact Or.inl rfl | exact Or.inr (Or.inl rfl) | exact Or.inr (Or.inr rfl)) (hd : (x == ("__debug__" : Str)) = false := by decide)
    (hcd : (x == ("__classdict__" : Str)) = false := by decide) : PE X (.Name x pos) (tVar i) := pe_var hN hv hd hcd
end
theorem iteF {A B : Prop} (h : B) : if false = true then A else B := by
  rw [if_neg Bool.false_ne_true]
  exact h
theorem iteT {A B : Prop} (h : A) : if true = true then A else B := by
  rw [if_pos rfl]
  exact h
noncomputable def Same (H H' : Hp) : Prop := ∀ b o, H b = some o → H' b = some o
theorem Same.refl (H : Hp) : Same H H := fun _ _ h => h
theorem Same.trans {H H1 H2 : Hp} (a : Same H H1) (b : Same H1 H2) : Same H H2 := fun c o h => b c o (a c o h)
theorem Same.free {H H' : Hp} (e : Same H H') {l : Addr} (h : H' l = Option.none) : H l = Option.none := by
  cases q : H l with
  | none => rfl
  | some o =>
    rw [e l o q] at h
    cases h
theorem Same.seq {K : PySem.W.Frag} {H H' : Hp} {a : Addr} {xs : List V} (e : Same H H') (h : SqL K H a xs) : SqL K H' a xs := by
  rcases h with (h | ⟨o, h⟩) | h
  · exact .inl (.inl (e _ _ h))
  · exact .inl (.inr ⟨o, e _ _ h⟩)
  · exact .inr h
end L2
set_option Elab.async false
set_option linter.all false
set_option maxRecDepth 100000
set_option maxHeartbeats 4000000
namespace L2
open PySem PySem.Spec PyProof.Rows
section
variable {X : Cx} {pins : List (Addr × Obj)} {σ : St} {H : Hp} {s : Shared}
theorem Inv.track {d : Addr} {o : HO} (I : Inv X pins σ H s) (hn : H d = none) (hy : X.s₀.heap.objs.size ≤ d) (hL : d ≠ X.env.locals) (hc : ∀ x c, X.env.cells.lookup x = some c → c ≠ d)
    (hp : ∀ p ∈ X.pn ++ pins, p.1 ≠ d) (new : ObjOk X.prog X.w (upd H d o) s.heap d o) : Inv X pins σ (upd H d o) s := by
  have old : ∀ b ob, X.s₀.heap.get? b = some ob → b ≠ d := fun b ob e => Nat.ne_of_lt (Nat.lt_of_lt_of_le (Heap.lt_size e) hy)
  have was : ∀ b u, H b = some u → b ≠ d := fun b u e => ne_of_none e hn
  refine ⟨I.ok, I.os, I.bare, ⟨I.base.keep, I.base.slot, fun b ob e n hx => ?_, I.base.there, fun b xs e => ?_, fun b ob u e => ?_, fun b ps e => ?_⟩, I.loc, I.cell, ?_, fun x c e => ?_, fun p z => ?_, fun b u e => ?_, I.len⟩
  · rw [upd_ne (old b ob e)]; exact I.base.free b ob e n hx
  · have q := I.base.tups b xs e
    rw [upd_ne (was b _ q)]; exact q
  · have q := I.base.frzs b ob u e
    rw [upd_ne (was b _ q)]; exact q
  · obtain ⟨m, q⟩ := I.base.tbls b ps e
    exact ⟨m, by rw [upd_ne (was b _ q)]; exact q⟩
  · rw [upd_ne (Ne.symm hL)]; exact I.free
  · rw [upd_ne (hc x c e)]; exact I.freeC x c e
  · obtain ⟨e, n, r⟩ := I.pin p z
    exact ⟨e, by rw [upd_ne (hp p z)]; exact n, r⟩
  · by_cases hb : b = d
    · subst hb
      rw [upd_same] at e
      cases e
      exact new
    · rw [upd_ne hb] at e
      refine (I.hok b u e).stay (fun c v _ q => q) (fun c q => ?_) fun c xs q => ?_
      · rw [upd_ne (was c _ q)]; exact q
      · rw [upd_ne (was c _ q)]; exact q
end
theorem closure_of {env : Env} : ∀ (names : List (Str × NameKind)) (acc : List (Str × Addr)), (∀ y ∈ names, y.2 = .free → ∃ c, env.cells.lookup y.1 = some c) →
    ∃ cl, (forIn names acc fun (p : Str × NameKind) (cs : List (Str × Addr)) => (if (p.2 == NameKind.free) = true then do let c ← cellOf env p.1; pure (ForInStep.yield ((p.1, c) :: cs)) else pure (ForInStep.yield cs) : Sem (ForInStep (List (Str × Addr))))) = pure cl ∧
      (∀ x c, cl.lookup x = some c → acc.lookup x = some c ∨ env.cells.lookup x = some c) ∧ (∀ x c, acc.lookup x = some c → ∃ c', cl.lookup x = some c') ∧ ∀ y ∈ names, y.2 = .free → ∃ c, cl.lookup y.1 = some c
  | [], acc, _ => ⟨acc, rfl, fun _ _ h => .inl h, fun _ c h => ⟨c, h⟩, fun _ h => nomatch h⟩
  | (n, k) :: r, acc, hh => by
    by_cases hk : k = .free
    · subst hk
      obtain ⟨c, hc⟩ := hh (n, .free) List.mem_cons_self rfl
      obtain ⟨cl, e, h1, h2, h3⟩ := closure_of (env := env) r ((n, c) :: acc) fun y hy => hh y (List.mem_cons_of_mem _ hy)
      have ec : cellOf env n = pure c := by
        unfold cellOf
        rw [hc]
      have here : ∃ c', cl.lookup n = some c' := h2 n c (by simp [List.lookup_cons])
      refine ⟨cl, ?_, fun x d q => ?_, fun x d q => ?_, fun y hy hf => ?_⟩
      · rw [List.forIn_cons]
        simp only [beq_self_eq_true, if_true, ec, pure_bind]
        exact e
      · rcases h1 x d q with z | z
        · rw [List.lookup_cons] at z
          by_cases hx : x = n
          · subst hx
            simp only [beq_self_eq_true] at z
            cases z
            exact .inr hc
          · rw [beq_eq_false_iff_ne.mpr hx] at z
            exact .inl z
        · exact .inr z
      · by_cases hx : x = n
        · subst hx; exact here
        · exact h2 x d (by rw [List.lookup_cons, beq_eq_false_iff_ne.mpr hx]; exact q)
      · rcases List.mem_cons.mp hy with rfl | hy
        · exact here
        · exact h3 y hy hf
    · obtain ⟨cl, e, h1, h2, h3⟩ := closure_of (env := env) r acc fun y hy => hh y (List.mem_cons_of_mem _ hy)
      refine ⟨cl, ?_, h1, h2, fun y hy hf => ?_⟩
      · rw [List.forIn_cons]
        have hb : (k == NameKind.free) = false := by simpa using hk
        simp only [hb, Bool.false_eq_true, if_false, pure_bind]
        exact e
      · rcases List.mem_cons.mp hy with rfl | hy
        · exact absurd hf hk
        · exact h3 y hy hf
theorem closure_some {env : Env} {scope : Scope} (hh : ∀ y ∈ scope.names, y.2 = .free → ∃ c, env.cells.lookup y.1 = some c) :
    ∃ cl, closureFor scope env = pure cl ∧ (∀ x c, cl.lookup x = some c → env.cells.lookup x = some c) ∧ ∀ y ∈ scope.names, y.2 = .free → ∃ c, cl.lookup y.1 = some c := by
  obtain ⟨cl, e, h1, _, h3⟩ := closure_of (env := env) scope.names [] hh
  refine ⟨cl, ?_, fun x c q => (h1 x c q).elim (fun z => by simp at z) id, h3⟩
  unfold closureFor
  simp only [bind_pure]
  exact e
noncomputable def cxB (X : Cx) (N : List Str) (scope : Scope) (s : Shared) (H : Hp) (C : Addr) (cl : List (Str × Addr)) (fp : List Addr) : Cx where
  prog := X.prog
  w := X.w
  K := X.K
  mg := X.mg
  base := X.base
  A := X.A
  N := N
  s₀ := s
  H₀ := H
  env := compEnvC scope cl C X.env
  outer := X.stack
  stack := X.stack
  ex := fp
  fn := fun _ => false
  calm := X.calm
  pn := []
  xe := fun _ _ => False
noncomputable def caps (n : Nat) (js : List Nat) (σ : St) : St := List.replicate n none ++ js.map fun j => (σ[j]?).join
noncomputable def Own (n : Nat) (g : TG) : Prop := ∀ v σ H Q, g v σ H Q → g v σ H fun σ2 H2 => Q σ2 H2 ∧ σ2.length = σ.length ∧ ∀ i, n ≤ i → σ2[i]? = σ[i]?
theorem own_name {n i : Nat} (h : i < n) : Own n (gName i) := fun v σ H Q q => ⟨q, by simp, fun j hj => by rw [List.getElem?_set_ne (by omega)]⟩
noncomputable def PIf (X : Cx) (ifs : List Expr) (t : TT) : Prop :=
  ∀ (pins : List (Addr × Obj)) (s : Shared) (σ : St) (H : Hp) (Q : Bool → Hp → Prop), Inv X pins σ H s → t σ H Q →
    wpAny (model X.prog X.w) X.A (forIn ifs true fun c r => if r = true then do let ok ← isTrue c X.env (eval c X.env); pure (ForInStep.yield ok) else pure (ForInStep.yield r)) (TP X pins σ Q) X.xe s
noncomputable def tYes : TT := fun _ H Q => Q true H
theorem pif_nil {X : Cx} : PIf X [] tYes := fun _ _ _ H _ I h => wpAny_tests_nil ⟨H, I, h⟩
noncomputable def cGo (g : TG) (tt : TT) (te : TE) (σ0 : St) (Fin : List V → Hp → Prop) (J : It) (H1 : Hp) : Prop :=
  ∃ W : Nat → Nat → List V → Hp → Prop, (∃ m, W 0 m [] H1) ∧ ∀ i m ys H2, W i m ys H2 →
    (J.stop i H2 ∧ ys.length ≤ sizeLine ∧ Fin ys H2) ∨
    (J.go i H2 ∧ ys.length < sizeLine ∧ ∃ N : List V → Hp → Prop, (∀ ys' H', N ys' H' → ∃ m', m' < m ∧ W (i + 1) m' ys' H') ∧ ∀ x H3, J.yld i H2 x H3 → g x σ0 H3 fun σ4 H4 => tt σ4 H4 fun b H5 =>
      if b = true then te σ4 H5 fun y H6 => N (ys ++ [y]) H6 else N ys H5)
noncomputable def tComp (n : Nat) (js : List Nat) (wi : TI) (g : TG) (tt : TT) (te : TE) : TE := fun σ H Q =>
  wi σ H (cGo g tt te (caps n js σ) fun ys H2 => ∀ D, H2 D = none → Q (.ref D) (upd H2 D (.lst ys)))
theorem comp_loop {prog : Program} {w : World} {A : Around} {R : Result → Shared → Prop} {s : Shared} {elt target iter : Expr} {ifs : List Expr} {scope : Scope} {pos : Pos} {it acc : Value} {env : Env} (I : Nat → Shared → Prop)
    (turn : ∀ n s, I n s → wpAny (model prog w) A (pyNext it) (fun r s₁ => (r = none ∧ R (.ok .next) s₁) ∨ ∃ v, r = some v ∧ wpAny (model prog w) A (letOwnedTupleGo target it v) (fun _ s₀ =>
      wpAny (model prog w) A (assign target env v) (fun _ s₂ =>
        wpAny (model prog w) A (forIn ifs true fun c r => if r = true then do let ok ← isTrue c env (eval c env); pure (ForInStep.yield ok) else pure (ForInStep.yield r)) (fun ok s₃ =>
          if ok = true then wpAny (model prog w) A (eval elt env) (fun x s₄ => wpAny (model prog w) A (call (.builtin "list.append") [acc, x]) (fun _ s₅ => ∃ m, m < n ∧ I m s₅) (fun _ _ => False) s₄) (fun _ _ => False) s₃
          else ∃ m, m < n ∧ I m s₃) (fun _ _ => False) s₂) (fun _ _ => False) s₀) (fun _ _ => False) s₁) (fun _ _ => False) s)
    (n : Nat) (h : I n s) : codeAny (model prog w) A (.compLoop (.ListComp elt [⟨target, iter, ifs, 0⟩] scope pos) 0 it acc env) R s := by
  have no : ∀ {E : Value → Shared → Prop} (x : Value) (z : Shared), False → E x z := fun _ _ f => f.elim
  refine codeAny_loop rfl I (fun n s hI => ?_) n h
  show wpAny _ A ((compTurn (.ListComp elt [⟨target, iter, ifs, 0⟩] scope pos) 0 it acc env).onRaise (fun x => do noteFrame x env; theTreesLotGoes x)) _ _ s
  refine wpAny_noted ?_
  rw [compTurn_list]
  refine wpAny_bind (wpAny_standAt (wpAny_bind (wpAny_mono (turn n s hI) (fun r s₁ h₁ => ?_) no)))
  rcases h₁ with ⟨e, h₁⟩ | ⟨v, e, h₁⟩
  · subst e
    exact wpAny_pure h₁
  · subst e
    refine wpAny_bind (wpAny_mono h₁ (fun _ s₀ h₀ => wpAny_bind (wpAny_mono h₀ (fun _ s₂ h₂ => wpAny_bind (wpAny_mono h₂ (fun ok s₃ h₃ => ?_) no)) no)) no)
    cases ok with
    | false => exact wpAny_pure ⟨rfl, h₃⟩
    | true =>
      have q : wpAny (model prog w) A (eval elt env) _ _ s₃ := h₃
      exact wpAny_bind (wpAny_bind (wpAny_mono q (fun x s₄ h₄ => wpAny_bind (wpAny_mono h₄ (fun _ s₅ h₅ => wpAny_pure (wpAny_pure ⟨rfl, h₅⟩)) no)) no))
noncomputable def compOk (sc : Scope) (N0 N : List Str) (n : Nat) (js : List Nat) (scope : Scope) : Bool :=
  decide (scope.kind = .function) && scope.names.all (fun y => decide (y.2 ≠ .cell)) && scope.names.all (fun y => decide (y.2 ≠ .free) || decide (sc.names.lookup y.1 = some .cell) || decide (sc.names.lookup y.1 = some .free)) &&
  scope.names.all (fun y => decide (y.2 ≠ .local) || decide (scope.names.lookup y.1 = some .local)) && decide (js.map (fun j => N0[j]?) = (N.drop n).map some) &&
  (N.drop n).all (fun x => decide (sc.names.lookup x = some .cell) || decide (sc.names.lookup x = some .free)) && (N.drop n).all (fun x => decide (scope.names.lookup x = some .free)) && decide (n + js.length = N.length)
theorem relabel_free {env : Env} : ∀ {names : List (Str × NameKind)} {x : Str}, (names.map fun (n, k) => if (k == NameKind.free && env.scope.kind == .function && env.kindOf n == some .cell) then (n, NameKind.cell) else (n, k)).lookup x = some .cell ∨
    (names.map fun (n, k) => if (k == NameKind.free && env.scope.kind == .function && env.kindOf n == some .cell) then (n, NameKind.cell) else (n, k)).lookup x = some .free → (∀ y ∈ names, y.2 ≠ .cell) → ∃ y ∈ names, y.1 = x ∧ y.2 = .free
  | [], _, h, _ => by rcases h with h | h <;> simp at h
  | (n, k) :: r, x, h, hc => by
    have ih := @relabel_free env r x
    by_cases hx : x = n
    · subst hx
      refine ⟨(x, k), List.mem_cons_self, rfl, ?_⟩
      have hk : k ≠ .cell := hc (x, k) List.mem_cons_self
      by_cases hf : k = .free
      · exact hf
      · exfalso
        have hb : (k == NameKind.free) = false := by simpa using hf
        simp only [List.map_cons, hb, Bool.false_and, Bool.false_eq_true, if_false, List.lookup_cons, beq_self_eq_true] at h
        rcases h with h | h
        · exact hk (Option.some.inj h)
        · exact hf (Option.some.inj h)
    · have hb : (x == n) = false := beq_eq_false_iff_ne.mpr hx
      have step : ∀ (q : Str × NameKind) (l : List (Str × NameKind)), q.1 = n → List.lookup x (q :: l) = List.lookup x l := fun q l e => by
        obtain ⟨a, b⟩ := q
        have e' : a = n := e
        subst e'
        rw [List.lookup_cons, hb]
      have nm : (if (k == NameKind.free && env.scope.kind == .function && env.kindOf n == some .cell) then (n, NameKind.cell) else (n, k)).1 = n := by split <;> rfl
      rw [List.map_cons, step _ _ nm] at h
      obtain ⟨y, hy, r1, r2⟩ := ih h fun y hy => hc y (List.mem_cons_of_mem _ hy)
      exact ⟨y, List.mem_cons_of_mem _ hy, r1, r2⟩
theorem mem_of_lookup {x : Str} {k : NameKind} : ∀ {l : List (Str × NameKind)}, l.lookup x = some k → (x, k) ∈ l
  | [], h => by simp at h
  | (a, b) :: r, h => by
    rw [List.lookup_cons] at h
    by_cases hx : x = a
    · subst hx
      simp only [beq_self_eq_true] at h
      cases h
      exact List.mem_cons_self
    · rw [beq_eq_false_iff_ne.mpr hx] at h
      exact List.mem_cons_of_mem _ (mem_of_lookup h)
theorem relabel_notlocal {env : Env} {x : Str} : ∀ (l : List (Str × NameKind)), l.lookup x = some .free → (l.map fun (n, k) => if (k == NameKind.free && env.scope.kind == .function && env.kindOf n == some .cell) then (n, NameKind.cell) else (n, k)).lookup x ≠ some .local
  | [], q => by simp at q
  | (a, b) :: r, q => fun z => by
    rw [List.lookup_cons] at q
    by_cases hx : x = a
    · subst hx
      simp only [beq_self_eq_true] at q
      cases q
      rw [List.map_cons] at z
      dsimp only at z
      split at z
      · simp [List.lookup_cons] at z
      · simp [List.lookup_cons] at z
    · rw [beq_eq_false_iff_ne.mpr hx] at q
      refine relabel_notlocal (env := env) r q ?_
      by_cases hc : (b == NameKind.free && env.scope.kind == .function && env.kindOf a == some .cell) = true
      · simp only [List.map_cons, if_pos hc, List.lookup_cons, beq_eq_false_iff_ne.mpr hx] at z
        exact z
      · simp only [List.map_cons, if_neg hc, List.lookup_cons, beq_eq_false_iff_ne.mpr hx] at z
        exact z
theorem caps_len (n : Nat) (js : List Nat) (σ : St) : (caps n js σ).length = n + js.length := by simp [caps]
theorem caps_own {n : Nat} {js : List Nat} {σ : St} {i : Nat} (h : i < n) : (caps n js σ)[i]? = some none := by
  unfold caps
  rw [List.getElem?_append_left (by simpa using h), List.getElem?_replicate, if_pos h]
theorem caps_cap {n : Nat} {js : List Nat} {σ : St} {i : Nat} {v : V} (h : n ≤ i) (e : (caps n js σ)[i]? = some (some v)) : ∃ j, js[i - n]? = some j ∧ σ[j]? = some (some v) := by
  unfold caps at e
  rw [List.getElem?_append_right (by simpa using h), List.length_replicate, List.getElem?_map] at e
  cases q : js[i - n]? with
  | none => rw [q] at e; cases e
  | some j =>
    rw [q] at e
    refine ⟨j, rfl, ?_⟩
    have e' : (σ[j]?).join = some v := Option.some.inj e
    cases z : σ[j]? with
    | none => rw [z] at e'; cases e'
    | some o => rw [z] at e'; exact congrArg some e'
section
variable {X : Cx} {tg elt iter : Expr} {ifs : List Expr} {scope : Scope} {pos : Pos} {N N0 : List Str} {n : Nat} {js : List Nat} {sc : Scope} {g : TG} {tt : TT} {te : TE}
theorem comp_block {pins : List (Addr × Obj)} {σ : St} {H : Hp} {s : Shared} {it : Addr} {fp : List Addr} {tn : Nat → Heap → Prop} {J : It} {cl : List (Str × Addr)} {Fin : List V → Hp → Prop} {RR : Value → Addr → Result → Shared → Prop} {E : Value → Shared → Prop}
    (hc : X.calm = true) (hsc : X.env.scope = sc) (hN0 : X.N = N0) (ok : compOk sc N0 N n js scope = true)
    (hg : ∀ s H C cl fp, PG (cxB X N scope s H C cl fp) tg g) (hgo : Own n g) (ht : ∀ s H C cl fp, PIf (cxB X N scope s H C cl fp) ifs tt) (he : ∀ s H C cl fp, PE (cxB X N scope s H C cl fp) elt te)
    (I : Inv X pins σ H s) (T : Turn X.prog X.w X.K tg J fp it tn) (st : tn 0 s.heap) (fo : ∀ b ∈ fp, FpOk X pins H b)
    (hcl : ∀ x c, cl.lookup x = some c → X.env.cells.lookup x = some c) (hcl2 : ∀ y ∈ scope.names, y.2 = .free → ∃ c, cl.lookup y.1 = some c)
    (G : cGo g tt te (caps n js σ) Fin J H)
    (k : ∀ (D C : Addr) (oC : Obj) (m : Str → Option Value) (ys : List V) (H' : Hp) (s' : Shared), Inv X (pins ++ [(C, oC)]) σ (upd H' D (.lst ys)) s' → H' D = none → s'.heap.Ns C m → X.s₀.heap.objs.size ≤ C → C ≠ X.env.locals → (∀ x c, X.env.cells.lookup x = some c → c ≠ C) →
      (∀ p ∈ X.pn ++ pins, p.1 ≠ C) → upd H' D (.lst ys) C = none → Fin ys H' → RR (.ref D) C (.ok .next) s') :
    wpAny (model X.prog X.w) X.A (newList []) (fun acc s₃ => wpAny (model X.prog X.w) X.A (newFunctionEnv scope X.env.globals cl [] X.env.qual none .none (some X.env)) (fun cenv s₄ =>
      codeAny (model X.prog X.w) X.A (.compStart (.ListComp elt [⟨tg, iter, ifs, 0⟩] scope pos) 0 (.ref it) acc { cenv with scope := relabel scope X.env }) (RR acc cenv.locals) s₄) E s₃) E s := by
  simp only [compOk, Bool.and_eq_true, decide_eq_true_eq, List.all_eq_true, Bool.or_eq_true] at ok
  obtain ⟨⟨⟨⟨⟨⟨⟨kind, cell⟩, free⟩, nms⟩, cap⟩, lc⟩, lf⟩, len⟩ := ok
  subst hN0 hsc
  refine wpAny_newObj_type (wpAny_newFunctionEnv cell (by intro y hy; simp at hy) (fun h1 ns1 sb1 => ?_) kind)
  dsimp only at ns1 sb1 ⊢
  generalize eG : s.heap.push { cls := .type "list", dict := none, data := .seq ([] : List Value).toArray } = G2 at ns1 sb1 ⊢
  have eC : G2.objs.size = s.heap.objs.size + 1 := by rw [← eG, Heap.size_push]
  generalize eCC : G2.objs.size = C at ns1 sb1 eC ⊢
  generalize eD : s.heap.objs.size = D at eC ⊢
  have ltD : ∀ b o, s.heap.get? b = some o → b < D := fun b o e => eD ▸ Heap.lt_size e
  have DC : D ≠ C := by rw [eC]; exact Nat.ne_of_lt (Nat.lt_succ_self _)
  have bC : ∀ b : Nat, b < D → b ≠ C := fun b hb z => by rw [z, eC] at hb; exact absurd hb (Nat.not_lt.mpr (Nat.le_succ _))
  have old : ∀ b o, s.heap.get? b = some o → h1.get? b = some o := fun b o e => by
    have hb := ltD b o e
    refine sb1.extBut b o (bC b hb) (Heap.get?_push_of_some _ ?_)
    rw [← eG]
    exact Heap.get?_push_of_some _ e
  have accD : h1.get? D = some { cls := .type "list", data := .seq ([] : List Value).toArray 0 } := by
    refine sb1.extBut _ _ DC (Heap.get?_push_of_some _ ?_)
    rw [← eG, ← eD]
    exact Heap.get?_push_size _ rfl
  have freeD : H D = none := I.hok.fresh (by rw [eD]; exact Nat.le_refl _)
  have freeC : H C = none := I.hok.fresh (by rw [eD, eC]; exact Nat.le_succ _)
  have fpD : ∀ b ∈ fp, b < D := fun b hb => let ⟨o, e, _⟩ := T.obj 0 _ st b hb; ltD b o e
  have cellD : ∀ x c, X.env.cells.lookup x = some c → c < D := fun x c e => let ⟨v, o, ho, _⟩ := I.cell x c e; ltD c o ho
  have pinD : ∀ p ∈ X.pn ++ pins, p.1 < D := fun p hp => ltD _ _ (I.pin p hp).1
  have stkD : ∀ b ∈ frs X.stack, b < D := fun b hb => by
    rcases List.mem_cons.mp (I.stkSub b hb) with e | z
    · subst e; rw [← eD]; exact I.lt
    · obtain ⟨_, o, ho, _⟩ := I.ok.funs.mem z
      rw [← eD]
      exact Nat.lt_of_lt_of_le (Heap.lt_size ho) I.sz
  have fpS : ∀ b ∈ fp, b ∉ frs X.stack := fun b hb z => by
    obtain ⟨_, f1, f2, _⟩ := fo b hb
    rcases List.mem_cons.mp (I.stkSub b z) with e | q
    · exact f1 e
    · exact f2 q
  have kindB : (compEnvC scope cl C X.env).scope.kind = .function := kind
  have okB : (cxB X N scope s H C cl fp).Ok := {
    mod := I.ok.mod
    kind := kind
    glob := I.ok.glob
    blt := I.ok.blt
    above := by show s.heap.objs.size ≤ C; rw [eD, eC]; exact Nat.le_succ _
    inj := fun x y c e1 e2 => I.ok.inj x y c (hcl x c e1) (hcl y c e2)
    has := fun x hx => by
      obtain ⟨y, hy, e, f⟩ := relabel_free (env := X.env) (names := scope.names) (x := x) hx cell
      subst e
      exact hcl2 y hy f
    cab := fun x c z => by cases z
    hd := I.ok.hd
    frames := I.ok.frames
    stk := .inl rfl
    exf := fun b hb => ⟨bC b (fpD b hb), fun x c e => (fo b hb).2.2.2.2.1 x c (hcl x c e)⟩
    bs := fun b o e => I.bs b o e
    bsz := Nat.le_trans I.ok.bsz I.sz
    noex := fun b o e hb => by
      rcases (fo b hb).2.2.2.1 with z | z
      · exact I.ok.noex b o e z
      · exact absurd (Nat.lt_of_lt_of_le (Heap.lt_size e) (Nat.le_trans I.ok.bsz z)) (Nat.lt_irrefl _)
    exfs := fpS
    funs := I.stack
    frf := I.stkFree }
  have upH : ∀ b o, s.heap.get? b = some o → h1.get? b = some o := old
  have IB : Inv (cxB X N scope s H C cl fp) [(D, { cls := .type "list", data := .seq ([] : List Value).toArray 0 })] (caps n js σ) H { s with heap := h1, toks := s.toks + ([] : List (Str × Value)).length } := by
    refine ⟨okB, rfl, I.bare, Un.kept old, ⟨_, ns1, fun i x v e1 e2 e3 => ?_⟩, fun x c e => ?_, freeC, fun x c e => I.freeC x c (hcl x c e), fun p hp => ?_, I.hok.kept old, ?_⟩
    · have hi : n ≤ i := by
        by_cases hlt : i < n
        · rw [caps_own hlt] at e2; cases e2
        · omega
      obtain ⟨j, ej, ev⟩ := caps_cap hi e2
      have hxN : (N.drop n)[i - n]? = some x := by
        rw [List.getElem?_drop, show n + (i - n) = i by omega]
        exact e1
      have hxm : x ∈ N.drop n := List.mem_of_getElem? hxN
      have eN : X.N[j]? = some x := by
        have q : (js.map fun j => X.N[j]?)[i - n]? = some (X.N[j]?) := by rw [List.getElem?_map, ej]; rfl
        rw [cap, List.getElem?_map, hxN] at q
        exact (Option.some.inj q).symm
      obtain ⟨m0, _, hl⟩ := I.loc
      have kx := lc x hxm
      have vis : Vis X.env.scope x := by
        rcases kx with z | z
        · exact .inr (.inl z)
        · exact .inr (.inr z)
      obtain ⟨u, r, lk⟩ := hl j x v eN ev vis
      refine ⟨u, r, ?_⟩
      rcases lk with ⟨q, _⟩ | ⟨_, c, ec, o, ho, hd⟩
      · exfalso
        have q' : X.env.scope.names.lookup x = some .local := q
        rcases kx with z | z
        · rw [z] at q'; cases q'
        · rw [z] at q'; cases q'
      · have fx : scope.names.lookup x = some .free := lf x hxm
        obtain ⟨c', ec'⟩ : ∃ c', cl.lookup x = some c' := by
          have hm : (x, NameKind.free) ∈ scope.names := mem_of_lookup fx
          exact hcl2 _ hm rfl
        have ecc : c' = c := by
          have z := hcl x c' ec'
          rw [ec] at z
          exact (Option.some.inj z).symm
        subst ecc
        refine .inr ⟨?_, c', ec', o, old _ _ ho, hd⟩
        rcases e3 with z | z | z
        · exfalso
          have z' : (relabel scope X.env).names.lookup x = some .local := z
          exact relabel_notlocal _ fx z'
        · exact .inl z
        · exact .inr z
    · obtain ⟨v, o, ho, hd⟩ := I.cell x c (hcl x c e)
      exact ⟨v, o, old _ _ ho, hd⟩
    · have e : p = (D, { cls := .type "list", data := .seq ([] : List Value).toArray 0 }) := by simpa [cxB] using hp
      subst e
      exact ⟨accD, freeD, DC, fun z => absurd (stkD D z) (Nat.lt_irrefl _), fun v => by intro z; cases z⟩
    · show (caps n js σ).length = N.length
      rw [caps_len]
      exact len
  -- what stays true of the iterator's records
  have stat : ∀ {H' : Hp} {oD : Obj}, (∀ b ∈ fp, H' b = none) → ∀ b ∈ fp, FpOk (cxB X N scope s H C cl fp) [(D, oD)] H' b := fun {H' oD} hn b hb =>
    ⟨hn b hb, bC b (fpD b hb), fpS b hb, .inl hb, fun x c e => (fo b hb).2.2.2.2.1 x c (hcl x c e), fun p hp => by
      have e : p = (D, oD) := by simpa [cxB] using hp
      subst e
      exact Nat.ne_of_gt (fpD b hb)⟩
  obtain ⟨W, ⟨m0, w0⟩, turn⟩ := G
  have loop : codeAny (model X.prog X.w) X.A (.compLoop (.ListComp elt [⟨tg, iter, ifs, 0⟩] scope pos) 0 (.ref it) (.ref D) (compEnvC scope cl C X.env)) (RR (.ref D) C) { s with heap := h1, toks := s.toks + ([] : List (Str × Value)).length } := by
    refine comp_loop (fun m s' => ∃ (i : Nat) (ys : List V) (its : List Value) (kk : Nat) (σ' : St) (H' : Hp), Inv (cxB X N scope s H C cl fp) [(D, { cls := .type "list", data := .seq its.toArray kk })] σ' H' s' ∧ Vals ys its ∧ (σ'.length = (caps n js σ).length ∧ ∀ i, n ≤ i → σ'[i]? = (caps n js σ)[i]?) ∧
      tn i s'.heap ∧ (∀ b ∈ fp, H' b = none) ∧ W i m ys H') ?_ m0 ⟨0, [], [], 0, _, H, IB, .nil, ⟨rfl, fun _ _ => rfl⟩, T.keep _ _ _ st fun b hb o e => old b o e, fun b hb => (fo b hb).1, w0⟩
    rintro m s3 ⟨i, ys, its, kk, σ3, H3, I3, r3, ⟨l3, a3⟩, st3, fr3, w3⟩
    have I3' : Inv (cxB X N scope s H C cl fp) [(D, { cls := .type "list", data := .seq its.toArray kk })] (caps n js σ) H3 s3 := I3.weak l3.symm fun j v e => by
      by_cases hj : j < n
      · rw [caps_own hj] at e; cases e
      · rw [a3 j (by omega)]; exact e
    rcases turn i m ys H3 w3 with ⟨stop, hz, fin⟩ | ⟨go, hz, Nn, hNn, step⟩
    · refine wpAny_mono (T.done (cxB X N scope s H C cl fp) rfl rfl rfl hc i _ s3 _ H3 (fun _ _ => False) I3' (stat fr3) st3 stop) (fun r s4 h4 => ?_) fun _ _ z => z
      obtain ⟨hr, I4⟩ := h4
      refine .inl ⟨hr, ?_⟩
      have pD := I4.pin (D, { cls := .type "list", data := .seq its.toArray kk }) (by simp [cxB])
      obtain ⟨mC, nsC, _⟩ := I4.loc
      obtain ⟨oC, es, ep, hoC, dC, rC⟩ := id nsC
      have J4 : Inv X pins σ H3 s4 := I.call' (s' := s4) I4.os (ch := fp) I4.base I4.hok I4.bare fun b hb => by
        obtain ⟨_, f1, f2, f3, f4, f5⟩ := fo b hb
        exact ⟨f3, f1, f4, f5⟩
      have fC : H3 C = none := I4.free
      have ltL : X.env.locals < D := eD ▸ I.lt
      have cL : C ≠ X.env.locals := (bC _ ltL).symm
      have cC : ∀ x c, X.env.cells.lookup x = some c → c ≠ C := fun x c e => bC c (cellD x c e)
      have cP : ∀ p ∈ X.pn ++ pins, p.1 ≠ C := fun p hp => bC p.1 (pinD p hp)
      have cS : X.s₀.heap.objs.size ≤ C := Nat.le_trans I.sz (by rw [eD, eC]; exact Nat.le_succ _)
      have dS : X.s₀.heap.objs.size ≤ D := by have := I.sz; rw [eD] at this; exact this
      have cF : C ∉ X.fs := fun z => by
        obtain ⟨_, o, ho, _⟩ := I.ok.funs.mem z
        exact Nat.lt_irrefl _ (Nat.lt_of_lt_of_le (Heap.lt_size ho) cS)
      have J5 : Inv X (pins ++ [(C, oC)]) σ H3 s4 := J4.pins_of fun p hp => (List.mem_append.mp hp).elim (fun z => J4.pin p (List.mem_append_right _ z)) fun z => by
        have e : p = (C, oC) := by simpa using z
        subst e
        exact ⟨hoC, fC, cL, cF, fun v z => by have z' : oC.data = .cell v := z; rw [dC] at z'; cases z'⟩
      refine k D C oC mC ys H3 s4 (J5.track pD.2.1 dS (Nat.ne_of_gt ltL) (fun x c e => Nat.ne_of_lt (cellD x c e)) (fun p hp => ?_) ?_) pD.2.1 nsC cS cL cC cP ?_ fin
      · rcases List.mem_append.mp hp with z | z
        · exact Nat.ne_of_lt (pinD p (List.mem_append_left _ z))
        · rcases List.mem_append.mp z with z | z
          · exact Nat.ne_of_lt (pinD p (List.mem_append_right _ z))
          · have e : p = (C, oC) := by simpa using z
            subst e
            exact Ne.symm DC
      · exact ⟨hz, its, kk, r3, pD.1⟩
      · rw [upd_ne (Ne.symm DC)]
        exact fC
    · refine wpAny_mono (T.item (cxB X N scope s H C cl fp) rfl rfl rfl hc i _ s3 _ H3 (fun _ _ => False) I3' (stat fr3) st3 go) (fun r s4 h4 => ?_) fun _ _ z => z
      obtain ⟨u, hr, h4⟩ := h4
      refine .inr ⟨u, hr, ?_⟩
      refine thn h4 fun _ s5 h5 => ?_
      obtain ⟨x, H5, I5, r5, y5, st5, fr5⟩ := h5
      have I5' := I5.pinned (stat fr5) (T.obj _ _ st5)
      refine thn (hg s H C cl fp _ s5 _ H5 x u _ I5' r5 (hgo _ _ _ _ (step x H5 y5))) fun _ s6 h6 => ?_
      obtain ⟨σ6, H6, I6, q6, l6, a6⟩ := h6
      refine thn (ht s H C cl fp _ s6 σ6 H6 _ I6 q6) fun ok s7 h7 => ?_
      obtain ⟨H7, I7, q7⟩ := h7
      have stays : ∀ {H8 : Hp} {s8 : Shared}, Inv (cxB X N scope s H C cl fp) ([(D, { cls := .type "list", data := .seq its.toArray kk })] ++ pinsAt fp s5.heap) σ6 H8 s8 → (∀ b ∈ fp, ∀ o, s5.heap.get? b = some o → s8.heap.get? b = some o) ∧ ∀ b ∈ fp, H8 b = none := fun {H8 s8} I8 =>
        ⟨fun b hb o e => (I8.pin (b, o) (List.mem_append_right _ (List.mem_append_right _ (mem_pinsAt hb e)))).1, fun b hb => by
          obtain ⟨o, e, d⟩ := T.obj _ _ st5 b hb
          exact (I8.pin (b, o) (List.mem_append_right _ (List.mem_append_right _ (mem_pinsAt hb e)))).2.1⟩
      cases ok with
      | false =>
        obtain ⟨m', hm, w7⟩ := hNn ys H7 (show Nn ys H7 from q7)
        obtain ⟨z1, z2⟩ := stays I7
        exact ⟨m', hm, i + 1, ys, its, kk, σ6, H7, I7.unpinned, r3, ⟨l6, a6⟩, T.keep _ _ _ st5 z1, z2, w7⟩
      | true =>
        show wpAny _ _ (eval elt _) _ _ s7
        refine thn (he s H C cl fp _ s7 σ6 H7 _ I7 q7) fun y s8 h8 => ?_
        obtain ⟨vy, H8, I8, ry, n8⟩ := h8
        obtain ⟨m', hm, w8⟩ := hNn _ _ n8
        obtain ⟨z1, z2⟩ := stays I8
        have pD := I8.pin (D, { cls := .type "list", data := .seq its.toArray kk }) (by simp [cxB])
        have lenits : its.length < sizeLine := by rw [← r3.length]; exact hz
        refine append_at pD.1 (fun h9 hs9 hD9 => ?_) (by simpa using Nat.le_of_lt lenits)
        have keep9 : ∀ b o, b ≠ D → s8.heap.get? b = some o → h9.get? b = some o := fun b o hb e => hs9.extBut b o hb e
        have I9 : Inv (cxB X N scope s H C cl fp) [] σ6 H8 { s8 with heap := h9 } := (I8.pins_of (pins' := []) fun p hp => nomatch hp).turned (it := D) keep9 pD.2.1 DC (.inr (by show s.heap.objs.size ≤ D; rw [eD]; exact Nat.le_refl _))
          (fun x c e => Nat.ne_of_lt (cellD x c (hcl x c e))) fun p hp => by simp [cxB] at hp
        refine ⟨m', hm, i + 1, ys ++ [vy], its ++ [y], kk + 1, σ6, H8, I9.pins_of fun p hp => ?_, r3.append (.cons ry .nil), ⟨l6, a6⟩, T.keep _ _ _ st5 fun b hb o e => keep9 b o (Nat.ne_of_lt (fpD b hb)) (z1 b hb o e), z2, w8⟩
        have e : p = (D, { cls := .type "list", data := .seq (its ++ [y]).toArray (kk + 1) }) := by simpa using hp
        subst e
        refine ⟨?_, pD.2.1, DC, fun z => absurd (stkD D z) (Nat.lt_irrefl _), fun v z => by cases z⟩
        show h9.get? D = _
        rw [hD9, List.push_toArray]
  exact codeAny_compStart_list loop (T.self _ 0 _ _ _ (T.keep _ _ _ st fun b hb o e => old b o e) loop)
end
end L2
namespace L2
open PySem PySem.Spec PyProof.Rows
section
variable {X : Cx} {tg elt iter : Expr} {ifs : List Expr} {scope : Scope} {pos : Pos} {N N0 : List Str} {n : Nat} {js : List Nat} {sc : Scope} {wi : TI} {g : TG} {tt : TT} {te : TE}
theorem comp_has {pins : List (Addr × Obj)} {σ : St} {H : Hp} {s : Shared} (I : Inv X pins σ H s) (hsc : X.env.scope = sc) (ok : compOk sc N0 N n js scope = true) : ∀ y ∈ scope.names, y.2 = .free → ∃ c, X.env.cells.lookup y.1 = some c := by
  simp only [compOk, Bool.and_eq_true, decide_eq_true_eq, List.all_eq_true, Bool.or_eq_true] at ok
  obtain ⟨⟨⟨⟨⟨⟨⟨kind, cell⟩, free⟩, nms⟩, cap⟩, lc⟩, lf⟩, len⟩ := ok
  subst hsc
  intro y hy hf
  rcases free y hy with (z | z) | z
  · exact absurd hf z
  · exact I.ok.has y.1 (.inl z)
  · exact I.ok.has y.1 (.inr z)
theorem comp_names (ok : compOk sc N0 N n js scope = true) : scope.kind = .function ∧ ∀ x ∈ scope.names, x.2 = .local → scope.names.lookup x.1 = some .local := by
  simp only [compOk, Bool.and_eq_true, decide_eq_true_eq, List.all_eq_true, Bool.or_eq_true] at ok
  obtain ⟨⟨⟨⟨⟨⟨⟨kind, cell⟩, free⟩, nms⟩, cap⟩, lc⟩, lf⟩, len⟩ := ok
  refine ⟨kind, fun x hx hl => ?_⟩
  rcases nms x hx with z | z
  · exact absurd hl z
  · exact z
theorem Inv.butC {pins : List (Addr × Obj)} {σ : St} {H : Hp} {s : Shared} {C : Addr} {oC : Obj} {h' : Heap} (I : Inv X (pins ++ [(C, oC)]) σ H s) (hs : Heap.SameBut C s.heap h') (h1 : X.s₀.heap.objs.size ≤ C) (h2 : C ≠ X.env.locals)
    (h3 : ∀ x c, X.env.cells.lookup x = some c → c ≠ C) (h4 : ∀ p ∈ X.pn ++ pins, p.1 ≠ C) (h5 : H C = none) : Inv X pins σ H { s with heap := h' } :=
  I.unpinned.turned (it := C) (t' := s.toks) (fun b o hb e => hs.extBut b o hb e) h5 h2 (.inr h1) h3 h4
theorem pe_comp (hc : X.calm = true) (hsc : X.env.scope = sc) (hN0 : X.N = N0) (ok : compOk sc N0 N n js scope = true) (hi : PI X tg iter wi)
    (hg : ∀ s H C cl fp, PG (cxB X N scope s H C cl fp) tg g) (hgo : Own n g) (ht : ∀ s H C cl fp, PIf (cxB X N scope s H C cl fp) ifs tt) (he : ∀ s H C cl fp, PE (cxB X N scope s H C cl fp) elt te)
    (hs : ∀ x, foldedSetIterable iter X.env x = pure x := by intro _; rfl) : PE X (.ListComp elt [⟨tg, iter, ifs, 0⟩] scope pos) (tComp n js wi g tt te) := by
  intro pins s σ H Q I h
  obtain ⟨cl, hclos, c1, c2⟩ := closure_some (comp_has I hsc ok)
  obtain ⟨kd, nm⟩ := comp_names ok
  rw [eval_ListComp]
  refine wpAny_comprehension_free (use := none) rfl hs hclos kd nm ?_
  refine thn (hi pins s σ H _ I h) fun v s1 h1 => thn h1 fun itv s2 h2 => ?_
  obtain ⟨it, fp, tn, J, H2, e, I2, T, st2, f2, G⟩ := h2
  subst e
  refine comp_block (RR := fun acc C => compPost (model X.prog X.w) X.A X.xe none (EP X pins σ Q) acc C) hc hsc hN0 ok hg hgo ht he I2 T st2 f2 c1 c2 G ?_
  intro D C oC m ys H' s' I' hD ns k1 k2 k3 k4 k5 fin
  exact ⟨m, ns, fun h' hs' => ⟨.ref D, _, I'.butC hs' k1 k2 k3 k4 k5, rfl, fin D hD⟩⟩
end
end L2
namespace L2
open PySem PySem.Spec PyProof.Rows
theorem Same.new {H : Hp} {l : Addr} {o : HO} (h : H l = none) : Same H (upd H l o) := fun b u e => by rw [upd_ne (ne_of_none e h)]; exact e
theorem Same.tup {K : PySem.W.Frag} {H H' : Hp} {a : Addr} {xs : List V} (e : Same H H') (h : SqT K H a xs) : SqT K H' a xs := by
  rcases h with (h | ⟨o, h⟩) | h
  · exact .inl (.inl (e _ _ h))
  · exact .inl (.inr ⟨o, e _ _ h⟩)
  · exact .inr h
end L2
namespace L2
open PySem PySem.Spec PyProof.Rows
section
variable {X : Cx} {K : PySem.W.Frag}
theorem ix_seqK (h : X.K = K) : IxR X (rIx K) := h ▸ ix_seq
theorem call_lenK (h : X.K = K) : CallR X (.builtin "len") (fun xs H Q => ∃ p ys, xs = [.ref p] ∧ (SqL K H p ys ∨ SqT K H p ys) ∧ Q (.int ys.length) H) := by subst h; exact call_len_seq
theorem pi_listK {tg l : Expr} {tl : TE} (h : X.K = K) (hl : PE X l tl) : PI X tg l (iList K tl) := h ▸ pi_list hl
theorem pi_tupK {tg l : Expr} {tl : TE} (h : X.K = K) (hl : PE X l tl) : PI X tg l (iTup K tl) := h ▸ pi_tup hl
theorem pg_tupK {es : List Expr} {k : Nat} {t : TGs} {n : Nat} {pos : Pos} (hK : X.K = K) (hc : X.calm = true) (h : PGs X es t) (hn : (assignEach es X.env).length = n := by rfl) (hst : (assignEach es X.env).findIdx? (·.1) = none := by rfl) : PG X (.Tuple es k pos) (gTup K n t) := hK ▸ pg_tup hc h hn hst
end
end L2
set_option Elab.async false
set_option linter.all false
set_option maxRecDepth 100000
set_option maxHeartbeats 4000000
namespace L2
open PySem PySem.Spec PyProof.Rows
theorem PE.or {X : Cx} {e : Expr} {t u : TE} (h : PE X e t) (k : PE X e u) : PE X e fun σ H Q => t σ H Q ∨ u σ H Q := fun pins s σ H Q I q => by
  rcases q with q | q
  · exact h pins s σ H Q I q
  · exact k pins s σ H Q I q
theorem PT.or {X : Cx} {e : Expr} {t u : TT} (h : PT X e t) (k : PT X e u) : PT X e fun σ H Q => t σ H Q ∨ u σ H Q := fun pins s σ H Q I q => by
  rcases q with q | q
  · exact h pins s σ H Q I q
  · exact k pins s σ H Q I q
noncomputable def clsV : V → Option Value
  | .ref a => some (.ref a)
  | .ty n => some (.type n)
  | _ => none
noncomputable def rIsi (K : PySem.W.Frag) : List V → Hp → VK → Prop := fun xs H Q => ∃ x y t c b, xs = [x, y] ∧ clsV y = some c ∧ TyOf K H x t ∧ PySem.W.kitOne K t c = some b ∧ Q (.bl b) H
section
variable {X : Cx}
theorem call_isi {K : PySem.W.Frag} (hK : X.K = K) : CallR X (.builtin "isinstance") (rIsi K) := by
  subst hK
  intro pins s σ H xs us Q I r h
  obtain ⟨x, y, t, c, b, rfl, hc, ty, e, q⟩ := h
  obtain ⟨u, w, rfl, ru, rw'⟩ := vals2 r
  have ew : w = c := by
    cases y with
    | ref a =>
      have z : w = Value.ref a := rw'
      rw [z]
      exact Option.some.inj hc
    | ty n =>
      have z : w = Value.type n := rw'
      rw [z]
      exact Option.some.inj hc
    | _ => cases hc
  subst ew
  exact isinst_ok I ru ty e fun tk => ⟨.bl b, H, I.tok tk, rfl, q⟩
theorem kit_self {K : PySem.W.Frag} {v : Value} : PySem.W.kitOne K v v = some true := by
  unfold PySem.W.kitOne
  rw [if_pos (beq_self_eq_true v)]
theorem kit_ref {K : PySem.W.Frag} {t : Value} {d : Addr} {b : Bool} (h1 : PySem.W.isClsIn K d = true) (h2 : PySem.W.typeIn K (.ref d) = some (.type "type")) (h3 : PySem.W.subIn K t (.ref d) = some b) (hn : t ≠ .ref d) : PySem.W.kitOne K t (.ref d) = some b := by
  unfold PySem.W.kitOne
  rw [if_neg (fun z => hn (eq_of_beq z))]
  unfold PySem.W.kitCls
  have e : ((PySem.W.clsIn K d).isSome && PySem.W.typeIn K (.ref d) == some (.type "type")) = true := by
    rw [h2, beq_self_eq_true, Bool.and_true]
    exact h1
  dsimp only
  rw [if_pos e]
  exact h3
theorem kit_ty {K : PySem.W.Frag} {T U : String} {b : Bool} (hm : PySem.W.kitMeta U = true) (h3 : PySem.W.subIn K (.type T) (.type U) = some b) (hn : Value.type T ≠ .type U) : PySem.W.kitOne K (.type T) (.type U) = some b := by
  unfold PySem.W.kitOne
  rw [if_neg (fun z => hn (eq_of_beq z))]
  unfold PySem.W.kitCls
  dsimp only
  rw [if_pos hm]
  exact h3
theorem vals_bools : ∀ {bs : List Bool} {us : List Value}, Vals (bs.map V.bl) us → us = bs.map Value.bool
  | [], us, r => by cases r; rfl
  | b :: bs, us, r => by
    cases r with
    | cons h t =>
      have e : _ = Value.bool b := h
      rw [e, vals_bools t]
      rfl
theorem range_all {α : Type} (l : List α) (f : α → Bool) (tr : Nat → Bool) (h : ∀ i x, l[i]? = some x → tr i = f x) : (List.range l.length).all tr = l.all f := by
  induction l generalizing tr with
  | nil => rfl
  | cons a l ih =>
    rw [List.length_cons, List.range_succ_eq_map, List.all_cons, List.all_map, List.all_cons, h 0 a rfl]
    congr 1
    exact ih (fun i => tr (i + 1)) fun i x e => h (i + 1) x (by simpa using e)
theorem call_all {K : PySem.W.Frag} (hK : X.K = K) (hc : X.calm = true) : CallR X (.builtin "all") (fun xs H Q => ∃ (p : Addr) (bs : List Bool), xs = [.ref p] ∧ SqL K H p (bs.map V.bl) ∧ Q (.bl (bs.all id)) H) := by
  subst hK
  intro pins s σ H xs us Q I r h
  obtain ⟨p, bs, rfl, hq, q⟩ := h
  obtain ⟨u, rfl, ru⟩ := vals1 r
  cases ru
  obtain ⟨its, rv, pl, hz⟩ := I.list hq
  have hh : X.A.in1.handled = none := I.ok.hd hc
  have eits := vals_bools rv
  have hl := pl.isList
  have hlt : p < s.heap.objs.size := by obtain ⟨_, e, _⟩ := hl; exact Heap.lt_size e
  refine call_all_walk (wpAny_pyIter_list hl ?_)
  refine ⟨_, _, _, _, _, _, fun i => bs.getD i false, rfl, Walks.list hh s.heap.objs.size p (Nat.ne_of_lt hlt) its.toArray, ⟨⟨_, Heap.get?_push_size _ rfl, rfl, rfl⟩, hl.push _⟩, fun i v s' Q' E' hP hQ => ?_, fun h' tk hk => ?_⟩
  · have e : (bs.map Value.bool)[i]? = some v := by rw [← eits]; simpa using hP
    rw [List.getElem?_map] at e
    cases z : bs[i]? with
    | none => rw [z] at e; cases e
    | some b =>
      rw [z] at e
      have e' : v = Value.bool b := (Option.some.inj e).symm
      subst e'
      refine wpAny_truthy_bool ?_
      have : bs.getD i false = b := by rw [List.getD_eq_getElem?_getD, z]; rfl
      dsimp only at hQ
      rw [this] at hQ
      exact hQ
  · have len : its.toArray.size = bs.length := by rw [eits]; simp
    refine ⟨.bl (bs.all id), H, I.kept (t' := tk) fun b o e => hk b o (fun z => ?_) (Heap.get?_push_of_some _ e), ?_, q⟩
    · have := Heap.lt_size e
      rw [List.mem_singleton.mp z] at this
      exact Nat.lt_irrefl _ this
    · show Value.bool _ = Value.bool _
      rw [len, range_all bs id]
      intro i x e
      rw [List.getD_eq_getElem?_getD, e]
      rfl
mutual
inductive DV (K : PySem.W.Frag) (H : Hp) : V → PyData → Prop
  | non : DV K H .non .none
  | bl (b : Bool) : DV K H (.bl b) (.bool b)
  | int (i : Int) : DV K H (.int i) (.int i)
  | str (x : Str) : DV K H (.str x) (.str x)
  | lst {a : Addr} {xs : List V} {ds : List PyData} : SqL K H a xs → DVs K H xs ds → DV K H (.ref a) (.list ds)
  | tup {a : Addr} {xs : List V} {ds : List PyData} : SqT K H a xs → DVs K H xs ds → DV K H (.ref a) (.tuple ds)
inductive DVs (K : PySem.W.Frag) (H : Hp) : List V → List PyData → Prop
  | nil : DVs K H [] []
  | cons {x : V} {xs : List V} {d : PyData} {ds : List PyData} : DV K H x d → DVs K H xs ds → DVs K H (x :: xs) (d :: ds)
end
mutual
theorem dv_reads {pins : List (Addr × Obj)} {σ : St} {H : Hp} {s : Shared} (I : Inv X pins σ H s) : ∀ {x : V} {d : PyData} {u : Value}, DV X.K H x d → RelV x u → ∃ as, Reads s.heap u d as
  | _, _, u, .non, r => by cases (show u = Value.none from r); exact ⟨_, .none⟩
  | _, _, u, .bl b, r => by cases (show u = Value.bool b from r); exact ⟨_, .bool b⟩
  | _, _, u, .int i, r => by obtain ⟨t, e⟩ := (show ∃ t, u = Value.int i t from r); cases e; exact ⟨_, .int i t⟩
  | _, _, u, .str x, r => by obtain ⟨t, e⟩ := (show ∃ t, u = Value.str x t from r); cases e; exact ⟨_, .str x t⟩
  | _, _, u, .lst (a := a) hq hs, r => by
    cases (show u = Value.ref a from r)
    obtain ⟨its, rv, pl, _⟩ := I.list hq
    obtain ⟨o, e, c, n, dd⟩ := pl.isList
    obtain ⟨as, q⟩ := dv_readsAll I hs rv
    exact ⟨_, reads_list_at e c dd (by simpa using q)⟩
  | _, _, u, .tup (a := a) hq hs, r => by
    cases (show u = Value.ref a from r)
    obtain ⟨its, rv, pl, _⟩ := I.tuple hq
    obtain ⟨o, e, c, n, dd⟩ := pl
    obtain ⟨as, q⟩ := dv_readsAll I hs rv
    exact ⟨_, reads_tuple_at e c dd (by simpa using q)⟩
theorem dv_readsAll {pins : List (Addr × Obj)} {σ : St} {H : Hp} {s : Shared} (I : Inv X pins σ H s) : ∀ {xs : List V} {ds : List PyData} {us : List Value}, DVs X.K H xs ds → Vals xs us → ∃ as, ReadsAll s.heap us ds as
  | _, _, _, .nil, .nil => ⟨_, .nil⟩
  | _, _, _, .cons h t, .cons r rs => by
    obtain ⟨as, q⟩ := dv_reads I h r
    obtain ⟨bs, p⟩ := dv_readsAll I t rs
    exact ⟨_, .cons q p⟩
end
noncomputable def rEqD (K : PySem.W.Frag) : R2 := fun x y H Q => ∃ d e, DV K H x d ∧ DV K H y e ∧ SeqAt.shaped d = true ∧ SeqAt.shaped e = true ∧ Q (.bl (PyData.eqv d e)) H
noncomputable def rNeD (K : PySem.W.Frag) : R2 := fun x y H Q => ∃ d e, DV K H x d ∧ DV K H y e ∧ SeqAt.shaped d = true ∧ SeqAt.shaped e = true ∧ Q (.bl (!PyData.eqv d e)) H
theorem op_eqD {K : PySem.W.Frag} (hK : X.K = K) (hu : X.A.units + 64 < cLine) : OpR X (compareOp .Eq) (rEqD K) := by
  subst hK
  intro pins s σ H x y v u Q I rx ry h
  obtain ⟨d, e, hd, he, sd, se, q⟩ := h
  obtain ⟨as, ra⟩ := dv_reads I hd rx
  obtain ⟨bs, rb⟩ := dv_reads I he ry
  exact eq_dataH ra rb sd se hu ⟨.bl _, H, I, rfl, q⟩
theorem op_neD {K : PySem.W.Frag} (hK : X.K = K) (hu : X.A.units + 64 < cLine) : OpR X (compareOp .NotEq) (rNeD K) := by
  subst hK
  intro pins s σ H x y v u Q I rx ry h
  obtain ⟨d, e, hd, he, sd, se, q⟩ := h
  obtain ⟨as, ra⟩ := dv_reads I hd rx
  obtain ⟨bs, rb⟩ := dv_reads I he ry
  exact ne_dataH ra rb sd se hu ⟨.bl _, H, I, rfl, q⟩
structure MkN (K : PySem.W.Frag) (C : Addr) : Prop where
  makes : PySem.W.makesIn K C = true
  init : PySem.W.findIn K (.ref C) "__init__" = some (some (.builtin "object.__init__"))
  kp : PySem.W.keepIn K (.ref C) = true
end
end L2
set_option Elab.async false
set_option linter.all false
set_option maxRecDepth 100000
set_option maxHeartbeats 4000000
namespace L2
open PySem PySem.Spec PyProof.Rows
noncomputable def seqIs (b : Bool) (h : Heap) (l : Addr) (xs : Array Value) : Prop := match b with
  | true => h.IsList l xs
  | false => h.IsTuple l xs
noncomputable def iterIs (b : Bool) (h : Heap) (i l : Addr) (k : Nat) : Prop := match b with
  | true => h.IsListIter i l k
  | false => h.IsTupleIter i l k
noncomputable def iterObj (b : Bool) (l : Addr) : Obj := { cls := .type (if b then "list_iterator" else "tuple_iterator"), data := .fields #[.ref l, .int 0 0] }
theorem seqIs.at_ {b : Bool} {h h' : Heap} {l : Addr} {xs : Array Value} (q : seqIs b h l xs) (e : ∀ o, h.get? l = some o → h'.get? l = some o) : seqIs b h' l xs := by
  cases b
  · obtain ⟨o, z, r⟩ := (show h.IsTuple l xs from q)
    exact (show h'.IsTuple l xs from ⟨o, e o z, r⟩)
  · obtain ⟨o, z, r⟩ := (show h.IsList l xs from q)
    exact (show h'.IsList l xs from ⟨o, e o z, r⟩)
theorem iterIs.at_ {b : Bool} {h h' : Heap} {i l : Addr} {k : Nat} (q : iterIs b h i l k) (e : ∀ o, h.get? i = some o → h'.get? i = some o) : iterIs b h' i l k := by
  cases b
  · obtain ⟨o, z, r⟩ := (show h.IsTupleIter i l k from q)
    exact (show h'.IsTupleIter i l k from ⟨o, e o z, r⟩)
  · obtain ⟨o, z, r⟩ := (show h.IsListIter i l k from q)
    exact (show h'.IsListIter i l k from ⟨o, e o z, r⟩)
theorem iterIs.obj {b : Bool} {h : Heap} {i l : Addr} {k : Nat} (q : iterIs b h i l k) : ∃ o, h.get? i = some o ∧ ∀ v, o.data ≠ .cell v := by
  cases b
  · obtain ⟨o, z, _, d⟩ := (show h.IsTupleIter i l k from q)
    exact ⟨o, z, fun v e => by rw [d] at e; cases e⟩
  · obtain ⟨o, z, _, d⟩ := (show h.IsListIter i l k from q)
    exact ⟨o, z, fun v e => by rw [d] at e; cases e⟩
theorem iterIs.mk_ {b : Bool} {h : Heap} {i l : Addr} (q : h.get? i = some (iterObj b l)) : iterIs b h i l 0 := by
  cases b
  · exact (show h.IsTupleIter i l 0 from ⟨_, q, rfl, rfl⟩)
  · exact (show h.IsListIter i l 0 from ⟨_, q, rfl, rfl⟩)
section
variable {prog : Program} {w : World} {A : Around} {E : Value → Shared → Prop} {s : Shared}
theorem pyIter_seq {b : Bool} {l : Addr} {xs : Array Value} {Q : Value → Shared → Prop} (q : seqIs b s.heap l xs) (h : Q (.ref s.heap.objs.size) { s with heap := s.heap.push (iterObj b l) }) : wpAny (model prog w) A (pyIter (.ref l)) Q E s := by
  cases b
  · exact wpAny_pyIter_tuple (show s.heap.IsTuple l xs from q) h
  · exact wpAny_pyIter_list (show s.heap.IsList l xs from q) h
theorem nextOf_tuple {i l : Addr} {k : Nat} {xs : Array Value} {x : Value} {Q : Value → Shared → Prop} (st : s.heap.IsTupleIter i l k) (tp : s.heap.IsTuple l xs) (e : xs[k]? = some x)
    (h : ∀ h', h'.IsTupleIter i l (k + 1) → Heap.SameBut i s.heap h' → Q x { s with heap := h' }) : wpAny (model prog w) A (Builtin.SmallTypes.nextOf (.ref i)) Q E s := by
  obtain ⟨oi, gi, ci, di⟩ := id st
  obtain ⟨ot, gt, _, nt, dt⟩ := tp
  unfold Builtin.SmallTypes.nextOf
  refine wpAny_bind (wpAny_callSpecial?_slot (name := Str.ofString "__next__") st.typeIs F.slot_tuple_iterator_next (wpAny_call_entry F.slot_tuple_iterator_next st.typeIs F.entry_tuple_iterator_next ?_ (F.args_tuple_iterator_next_1 _)))
  show wpAny _ _ (field (.ref i) 0 >>= _) _ _ s
  refine wpAny_bind (wpAny_field gi di (x := .ref l) rfl ?_)
  show wpAny _ _ (if (Value.ref l == Value.none) = true then _ else _) _ _ s
  rw [if_neg (by exact Bool.false_ne_true : ¬ ((Value.ref l == Value.none) = true))]
  show wpAny _ _ (field (.ref i) 1 >>= _) _ _ s
  refine wpAny_bind (wpAny_field gi di (x := .int k 0) rfl ?_)
  show wpAny _ _ (seqItems? (.ref l) >>= _) _ _ s
  refine wpAny_bind (wpAny_seqItems gt dt ?_)
  simp only [Int.toNat_natCast, e]
  refine wpAny_bind (wpAny_setField gi di (by simp) (wpAny_pure ⟨x, rfl, wpAny_pure (h _ ?_ (Heap.SameBut.update ..))⟩))
  refine ⟨_, Heap.get?_update_self _ gi (Obj.isFreed_of_fields (Obj.data_mapFields di _)), (Obj.cls_mapFields ..).trans ci, ?_⟩
  rw [Obj.data_mapFields di]
  simp [rawInt]
theorem nextOf_tuple_end {i l : Addr} {k : Nat} {xs : Array Value} {Q : Value → Shared → Prop} (hh : A.handled = none) (st : s.heap.IsTupleIter i l k) (tp : s.heap.IsTuple l xs) (e : xs[k]? = none)
    (h : ∀ h' x, Heap.ExtBut i s.heap h' → (∃ o, h'.get? x = some o ∧ o.cls = .type "StopIteration") → E (.ref x) { s with heap := h' }) : wpAny (model prog w) A (Builtin.SmallTypes.nextOf (.ref i)) Q E s := by
  obtain ⟨oi, gi, ci, di⟩ := id st
  obtain ⟨ot, gt, _, nt, dt⟩ := tp
  unfold Builtin.SmallTypes.nextOf
  refine wpAny_bind (wpAny_callSpecial?_slot (name := Str.ofString "__next__") st.typeIs F.slot_tuple_iterator_next (wpAny_call_entry F.slot_tuple_iterator_next st.typeIs F.entry_tuple_iterator_next ?_ (F.args_tuple_iterator_next_1 _)))
  show wpAny _ _ (field (.ref i) 0 >>= _) _ _ s
  refine wpAny_bind (wpAny_field gi di (x := .ref l) rfl ?_)
  show wpAny _ _ (if (Value.ref l == Value.none) = true then _ else _) _ _ s
  rw [if_neg (by exact Bool.false_ne_true : ¬ ((Value.ref l == Value.none) = true))]
  show wpAny _ _ (field (.ref i) 1 >>= _) _ _ s
  refine wpAny_bind (wpAny_field gi di (x := .int k 0) rfl ?_)
  show wpAny _ _ (seqItems? (.ref l) >>= _) _ _ s
  refine wpAny_bind (wpAny_seqItems gt dt ?_)
  simp only [Int.toNat_natCast, e]
  refine wpAny_bind (wpAny_rule (wpAny_bind (wpAny_setField gi di (by simp) ?_)))
  show wpAny _ _ (newExc (.type "StopIteration") [] >>= _) _ _ _
  refine wpAny_bind ?_
  simp only [newExc, newTuple]
  refine wpAny_bind (wpAny_newObj_type ?_ (by size_fits))
  refine wpAny_bind (m := firstArgMember _ _) (wpAny_of_eq (a := Value.none) (by first | rfl | (simp only [firstArgMember] <;> rfl)) ?_)
  refine wpAny_newObj_type ?_ (by size_fits)
  simp only [raiseNew]
  refine wpAny_bind (wpAny_handled ?_)
  first | rw [(hh : A.in1.handled = none)] | rw [hh]
  refine wpAny_bind (wpAny_pure (wpAny_throw ?_))
  exact h _ _ (((Heap.SameBut.update ..).extBut.push _).push _) ⟨_, Heap.get?_push_size _ rfl, rfl⟩
theorem nextOf_seq {b : Bool} {i l : Addr} {k : Nat} {xs : Array Value} {x : Value} {Q : Value → Shared → Prop} (st : iterIs b s.heap i l k) (tp : seqIs b s.heap l xs) (e : xs[k]? = some x)
    (h : ∀ h', iterIs b h' i l (k + 1) → Heap.SameBut i s.heap h' → Q x { s with heap := h' }) : wpAny (model prog w) A (Builtin.SmallTypes.nextOf (.ref i)) Q E s := by
  cases b
  · exact nextOf_tuple st tp e h
  · exact wpAny_nextOf_list_item st tp e h
theorem nextOf_seq_end {b : Bool} {i l : Addr} {k : Nat} {xs : Array Value} {Q : Value → Shared → Prop} (hh : A.handled = none) (st : iterIs b s.heap i l k) (tp : seqIs b s.heap l xs) (e : xs[k]? = none)
    (h : ∀ h' x, Heap.ExtBut i s.heap h' → (∃ o, h'.get? x = some o ∧ o.cls = .type "StopIteration") → E (.ref x) { s with heap := h' }) : wpAny (model prog w) A (Builtin.SmallTypes.nextOf (.ref i)) Q E s := by
  cases b
  · exact nextOf_tuple_end hh st tp e h
  · exact wpAny_nextOf_list_end hh st tp e h
end
end L2
namespace L2
open PySem PySem.Spec PyProof.Rows
noncomputable def SqB (K : PySem.W.Frag) (b : Bool) (H : Hp) (p : Addr) (xs : List V) : Prop := match b with
  | true => SqL K H p xs
  | false => SqT K H p xs
section
variable {X : Cx} {pins : List (Addr × Obj)} {σ : St} {H : Hp} {s : Shared} {b b1 b2 : Bool} {p p1 p2 : Addr} {xs ys : List V}
theorem Inv.seqB (I : Inv X pins σ H s) (h : SqB X.K b H p xs) : ∃ its : List Value, Vals xs its ∧ seqIs b s.heap p its.toArray ∧ xs.length ≤ sizeLine := by
  cases b
  · obtain ⟨its, r, q, hz⟩ := I.tuple (show SqT X.K H p xs from h)
    exact ⟨its, r, (show s.heap.IsTuple p its.toArray from q), hz⟩
  · obtain ⟨its, r, q, hz⟩ := I.list (show SqL X.K H p xs from h)
    exact ⟨its, r, (show s.heap.IsList p its.toArray from q.isList), hz⟩
theorem Inv.seqB_inj (I : Inv X pins σ H s) (h : SqB X.K b H p xs) (h' : SqB X.K b H p ys) : xs = ys := by
  cases b
  · exact I.tuple_inj h h'
  · exact I.list_inj h h'
end
section
variable {X : Cx} {a b : Expr} {ta : TA} {p pos : Pos} {elts : List Expr} {x1 : Nat} {tp : Pos}
end
end L2
set_option Elab.async false
set_option linter.all false
set_option maxRecDepth 100000
set_option maxHeartbeats 4000000
namespace L2
open PySem PySem.Spec PyProof.Rows
end L2
set_option Elab.async false
set_option linter.all false
set_option maxRecDepth 100000
set_option maxHeartbeats 4000000
namespace L2
open PySem PySem.Spec PyProof.Rows
section
variable {X : Cx}
end
end L2
set_option Elab.async false
set_option linter.all false
set_option maxRecDepth 100000
set_option maxHeartbeats 4000000
namespace L2
open PySem PySem.Spec PyProof.Rows
noncomputable def Exc (B : Heap) (e : Addr) (cls fl : Value) (h : Heap) : Prop :=
  ∃ oe vs T oT ts, h.get? e = some oe ∧ oe.cls = cls ∧ oe.dict = none ∧ oe.data = .fields vs ∧ vs[1]? = some (.ref T) ∧ B.get? T = none ∧ T ≠ e ∧ h.get? T = some oT ∧ oT.data = .fields ts ∧ ts[3]? = some fl
structure FlyD (B : Heap) (l : List Env) (e : Addr) (cls fl : Value) (h : Heap) : Prop where
  st : B.StaysIn h
  new : B.get? e = none
  fr : h.FunFrames B l
  ex : Exc B e cls fl h
section
variable {M : Model} {A : Around} {E : Value → Shared → Prop} {s : Shared} {B : Heap} {env : Env} {outer l : List Env} {L e : Addr} {cls fl : Value} {Q : Unit → Shared → Prop}
theorem fr_ne {h : Heap} (hl : h.FunFrames B l) {b : Addr} {o : Obj} {vs : Array Value} (ho : h.get? b = some o) (hd : o.data = .fields vs) : b ∉ l.filterMap (·.frame) := fun hb => by
  obtain ⟨_, o1, e1, d1⟩ := hl.mem hb
  rw [ho] at e1
  cases e1
  exact d1 vs hd
theorem step_rec {h : Heap} {b : Addr} {o : Obj} {vs : Array Value} {g : Array Value → Array Value} (st : B.StaysIn h) (hl : h.FunFrames B l) (hn : B.get? b = none) (ho : h.get? b = some o) (hd : o.data = .fields vs) :
    B.StaysIn (h.update b (Obj.mapFields g)) ∧ (h.update b (Obj.mapFields g)).FunFrames B l ∧ h.UpToSlots (h.update b (Obj.mapFields g)) ∧ (h.update b (Obj.mapFields g)).get? b = some (Obj.mapFields g o) ∧ ∀ c, c ≠ b → (h.update b (Obj.mapFields g)).get? c = h.get? c := by
  have oth : ∀ c, c ≠ b → (h.update b (Obj.mapFields g)).get? c = h.get? c := fun c hc => Heap.get?_update_other _ _ (Ne.symm hc)
  have nrec : ∀ c u, h.get? c = some u → (∀ ws, u.data ≠ .fields ws) → c ≠ b := fun c u q nf z => by
    rw [z, ho] at q
    cases q
    exact nf vs hd
  refine ⟨fun c u q => (oth c fun z => by rw [z, hn] at q; cases q).trans (st c u q), hl.of_keeps fun c u q nf => ⟨u, (oth c (nrec c u q nf)).trans q, rfl⟩, fun c u q nf => ⟨u.slots, (oth c (nrec c u q nf)).trans q⟩, ?_, oth⟩
  exact Heap.get?_update_self _ ho (Obj.isFreed_of_fields (Obj.data_mapFields hd g))
theorem fly_land (F : FlyD B l e cls fl s.heap) (k : ∀ h', FlyD B l e cls .none h' → s.heap.UpToSlots h' → Q () { s with heap := h' }) : wpAny M A (setFlight (.ref e) none) Q E s := by
  obtain ⟨oe, vs, T, oT, ts, he, hc, hdn, hd, h1, hnT, hTe, hT, hdT, h3⟩ := F.ex
  obtain ⟨k1, k2, k3, k4, k5⟩ := step_rec (g := (·.setIfInBounds 3 ((none : Option Addr).elim Value.none fun f => rawInt f))) F.st F.fr hnT hT hdT
  unfold setFlight
  refine wpAny_bind (wpAny_field he hd h1 ?_)
  rw [if_pos (by simp : (Value.ref T != Value.none) = true)]
  refine wpAny_setField hT hdT (Array.getElem?_eq_some_iff.mp h3).1 (k _ ⟨k1, F.new, k2, ?_⟩ k3)
  have sz := (Array.getElem?_eq_some_iff.mp h3).1
  exact ⟨oe, vs, T, _, _, (k5 e (Ne.symm hTe)).trans he, hc, hdn, hd, h1, hnT, hTe, k4, Obj.data_mapFields hdT _, by simp [sz]⟩
theorem fly_entry {oe : Obj} {vs : Array Value} {head : Value} {hn : Bool} (hfr : A.frames = some (env :: outer)) (hf : env.frame = some L) (st : B.StaysIn s.heap) (hl : s.heap.FunFrames B (env :: outer)) (new : B.get? e = none)
    (he : s.heap.get? e = some oe) (hd : oe.data = .fields vs) (hdn : oe.dict = none) (sz : 1 < vs.size)
    (k : ∀ h', FlyD B (env :: outer) e oe.cls (rawInt L) h' → s.heap.UpToSlots h' → Q () { s with heap := h' }) :
    wpAny M A (do let a ← frameOf env; let pl ← entryPlaceOf L hn; let b ← EntryCells.newEntry head a .none (rawInt L) .none pl; setField (.ref e) 1 b) Q E s := by
  have nef := fr_ne hl he hd
  refine wpAny_bind (wpAny_frameOf_fun hfr hl hf fun h1 so => wpAny_bind (wpAny_entryPlaceOf fun pl hpl => ?_))
  have st1 : B.StaysIn h1 := fun b o q => (so.2.1 b fun z => by rw [(hl.mem z).1] at q; cases q).trans (st b o q)
  have fr1 : h1.FunFrames B (env :: outer) := hl.of_keeps fun b o q nf => by
    obtain ⟨sl, z⟩ := so.2.2 b o q
    exact ⟨_, z, rfl⟩
  have e1 : h1.get? e = some oe := (so.2.1 e nef).trans he
  unfold EntryCells.newEntry newFields
  refine wpAny_bind (wpAny_newObj_type ?_ (hpl.sizeOk5 _ _ _ _ _))
  generalize hO : ({ cls := .type "traceback", dict := none, data := .fields ([head, .ref L, .none, rawInt L, .none] ++ (if pl.isEmpty then List.replicate 6 Value.none else pl)).toArray } : Obj) = oT
  have dT : oT.data = .fields ([head, .ref L, .none, rawInt L, .none] ++ (if pl.isEmpty then List.replicate 6 Value.none else pl)).toArray := by rw [← hO]
  have nfT : oT.isFreed = false := by rw [← hO]; rfl
  have kp : ∀ b o, h1.get? b = some o → (h1.push oT).get? b = some o := fun b o q => Heap.get?_push_of_some oT q
  have fr2 : (h1.push oT).FunFrames B (env :: outer) := fr1.of_keeps fun b o q nf => ⟨o, kp b o q, rfl⟩
  obtain ⟨k1, k2, k3, k4, k5⟩ := step_rec (g := (·.setIfInBounds 1 (Value.ref h1.objs.size))) (fun b o q => kp b o (st1 b o q)) fr2 new (kp _ _ e1) hd
  have neT : h1.objs.size ≠ e := Nat.ne_of_gt (Heap.lt_size e1)
  refine wpAny_setField (kp _ _ e1) hd sz (k _ ⟨k1, new, k2, _, _, h1.objs.size, oT, _, k4, Obj.cls_mapFields _ _, ?_, Obj.data_mapFields hd _, by simp [sz], st1.fresh, neT, (k5 _ neT).trans (Heap.get?_push_size h1 nfT), dT, ?_⟩ ?_)
  · obtain ⟨c, d, dt, sl⟩ := oe
    cases dt <;> exact hdn
  · simp
  · refine Heap.UpToSlots.trans (fun b o q nf => ?_) k3
    obtain ⟨sl, z⟩ := so.2.2 b o q
    exact ⟨sl, kp _ _ z⟩
theorem note_new {oe : Obj} {vs : Array Value} (hfr : A.frames = some (env :: outer)) (hf : env.frame = some L) (st : B.StaysIn s.heap) (hl : s.heap.FunFrames B (env :: outer)) (new : B.get? e = none)
    (he : s.heap.get? e = some oe) (hd : oe.data = .fields vs) (hdn : oe.dict = none) (h1 : vs[1]? = some .none)
    (k : ∀ h', FlyD B (env :: outer) e oe.cls (rawInt L) h' → s.heap.UpToSlots h' → Q () { s with heap := h' }) : wpAny M A (noteFrame (.ref e) env) Q E s := by
  unfold noteFrame
  simp only [hf]
  refine wpAny_bind (wpAny_field he hd h1 ?_)
  rw [if_neg (by decide)]
  exact fly_entry hfr hf st hl new he hd hdn (Array.getElem?_eq_some_iff.mp h1).1 k
theorem note_on (hfr : A.frames = some (env :: outer)) (hf : env.frame = some L) (F : FlyD B (env :: outer) e cls .none s.heap)
    (k : ∀ h', FlyD B (env :: outer) e cls (rawInt L) h' → s.heap.UpToSlots h' → Q () { s with heap := h' }) : wpAny M A (noteFrame (.ref e) env) Q E s := by
  obtain ⟨oe, vs, T, oT, ts, he, hc, hdn, hd, h1, hnT, hTe, hT, hdT, h3⟩ := F.ex
  subst hc
  obtain ⟨k1, k2, k3, k4, k5⟩ := step_rec (g := (·.setIfInBounds 3 Value.none)) F.st F.fr hnT hT hdT
  unfold noteFrame
  simp only [hf]
  refine wpAny_bind (wpAny_field he hd h1 ?_)
  rw [if_pos (by simp : (Value.ref T != Value.none) = true)]
  refine wpAny_bind (wpAny_field hT hdT h3 ?_)
  rw [if_neg (by simp [rawInt] : ¬ ((Value.none == rawInt L) = true))]
  refine wpAny_bind (wpAny_setField hT hdT (Array.getElem?_eq_some_iff.mp h3).1 ?_)
  exact fly_entry hfr hf k1 k2 F.new ((k5 e (Ne.symm hTe)).trans he) hd hdn (Array.getElem?_eq_some_iff.mp h1).1 fun h' F' up => k h' F' (k3.trans up)
theorem FlyD.less {fl : Value} {h : Heap} (F : FlyD B (env :: outer) e cls fl h) : FlyD B outer e cls fl h := ⟨F.st, F.new, F.fr.2.2, F.ex⟩
theorem lv_new {oe : Obj} {vs : Array Value} (hfr : A.frames = some (env :: outer)) (hf : env.frame = some L) (st : B.StaysIn s.heap) (hl : s.heap.FunFrames B (env :: outer)) (new : B.get? e = none)
    (he : s.heap.get? e = some oe) (hd : oe.data = .fields vs) (hdn : oe.dict = none) (h1 : vs[1]? = some .none)
    (k : ∀ h', FlyD B outer e oe.cls .none h' → s.heap.UpToSlots h' → Q () { s with heap := h' }) : wpAny M A (leaving env (.ref e)) Q E s := by
  unfold leaving
  exact wpAny_bind (note_new hfr hf st hl new he hd hdn h1 fun h' F up => fly_land (s := { s with heap := h' }) F fun h2 F2 up2 => k h2 F2.less (up.trans up2))
theorem lv_on (hfr : A.frames = some (env :: outer)) (hf : env.frame = some L) (F : FlyD B (env :: outer) e cls .none s.heap)
    (k : ∀ h', FlyD B outer e cls .none h' → s.heap.UpToSlots h' → Q () { s with heap := h' }) : wpAny M A (leaving env (.ref e)) Q E s := by
  unfold leaving
  exact wpAny_bind (note_on hfr hf F fun h' F up => fly_land (s := { s with heap := h' }) F fun h2 F2 up2 => k h2 F2.less (up.trans up2))
end
end L2
set_option Elab.async false
set_option linter.all false
set_option maxRecDepth 100000
set_option maxHeartbeats 4000000
namespace L2
open PySem PySem.Spec PyProof.Rows
structure Flies (P : Program) (w : World) (l : List Env) (H : Hp) (s : Shared) (cls : Value) (e : Addr) (H' : Hp) (s' : Shared) : Prop where
  os : s'.os = s.os
  bare : AllBare s'.gens
  un : Un (frs l) [] H H' s.heap s'.heap
  hok : HOk P w H' s'.heap
  fly : ∃ B, FlyD B l e cls .none s'.heap ∧ ∀ b o, s'.heap.get? b = some o → b ∉ frs l → (H' b ≠ none ∨ ∃ o', s.heap.get? b = some o') → B.get? b = some o
noncomputable def CX1 (P : Program) (w : World) : CXT := fun outer H s E e s' => ∃ ea cls H', e = .ref ea ∧ Flies P w outer H s cls ea H' s' ∧ E cls none H'
theorem ObjOk.there {P : Program} {w : World} {H : Hp} {h : Heap} {a : Addr} {o : HO} (x : ObjOk P w H h a o) : ∃ u, h.get? a = some u := by
  cases o with
  | lst xs => obtain ⟨_, _, _, _, e⟩ := x; exact ⟨_, e⟩
  | tup xs => obtain ⟨_, _, _, ob, e, _⟩ := x; exact ⟨_, e⟩
  | dK kvs => obtain ⟨_, _, _, _, o, _, _, e, _⟩ := x; exact ⟨_, e⟩
  | dT kvs => obtain ⟨_, _, _, _, o, _, _, e, _⟩ := x; exact ⟨_, e⟩
  | set S n => obtain ⟨o, _, _, _, e, _⟩ := x; exact ⟨_, e⟩
  | ins C dx fs => obtain ⟨_, _, _, e, _⟩ := x; exact ⟨_, e⟩
  | own y => exact x
  | xd fs => obtain ⟨_, ⟨_, _, _, e, _⟩, _⟩ := x; exact ⟨_, e⟩
  | rng lo hi => obtain ⟨_, _, _, e⟩ := x; exact ⟨_, e⟩
  | frz ob u => obtain ⟨e, _⟩ := x; exact ⟨_, e⟩
  | tbl ps => exact ⟨_, (show h.get? a = some _ from x)⟩
  | met f y => exact ⟨_, (show h.get? a = some _ from x)⟩
  | ext φ => obtain ⟨_, ⟨_, e⟩, _⟩ := x; exact ⟨_, e⟩
section
variable {X : Cx} {pins : List (Addr × Obj)} {σ : St} {H H' : Hp} {s : Shared}
theorem flies_out {hm : Heap} {s2 : Shared} {B : Heap} {e : Addr} {cls : Value} (I : Inv X pins σ H s) (hstk : X.stack = X.env :: X.outer) (hfr : X.env.frame = some X.env.locals) (hex : X.ex = []) (os : s2.os = s.os) (bare : AllBare s2.gens) (U : Un (frs X.stack) [] H H' s.heap hm)
    (hok : HOk X.prog X.w H' hm) (cond : ∀ b o, hm.get? b = some o → b ∉ frs X.stack → (H' b ≠ none ∨ ∃ o', s.heap.get? b = some o') → B.get? b = some o)
    (fl : FlyD B X.outer e cls .none s2.heap) (up : hm.UpToSlots s2.heap) : Flies X.prog X.w X.outer X.H₀ X.s₀ cls e H' s2 := by
  have fsub : ∀ b, b ∉ X.fs → b ≠ X.env.locals → b ∉ frs X.stack := fun b h1 h2 z => (List.mem_cons.mp (I.stkSub b z)).elim h2 h1
  have fin : ∀ b ∈ X.fs, b ∈ frs X.stack := fun b hb => by
    rw [hstk]
    show b ∈ (X.env :: X.outer).filterMap (·.frame)
    rw [List.filterMap_cons, hfr]
    exact List.mem_cons_of_mem _ hb
  have neL : ∀ b o, X.s₀.heap.get? b = some o → b ≠ X.env.locals := fun b o e z => by
    have q := I.ok.above
    rw [← z] at q
    exact absurd (Nat.lt_of_lt_of_le (Heap.lt_size e) q) (Nat.lt_irrefl _)
  have fr_data : ∀ b ∈ frs X.stack, ∀ o, hm.get? b = some o → ∀ vs, o.data ≠ .fields vs := fun b hb o eo vs q => by
    obtain ⟨_, o1, e1, d1⟩ := I.stack.mem hb
    obtain ⟨sl, e2⟩ := U.slot b o1 e1 (I.stkFree b hb) hb (by simp)
    rw [eo] at e2
    cases e2
    exact d1 vs q
  have free_fr : ∀ b ∈ frs X.stack, H' b = none := fun b hb => by
    obtain ⟨_, o1, e1, d1⟩ := I.stack.mem hb
    exact U.free b o1 e1 (I.stkFree b hb) (by simp)
  have at_b : ∀ b o o0, s.heap.get? b = some o0 → hm.get? b = some o → b ∉ frs X.stack → s2.heap.get? b = some o := fun b o o0 e0 e1 nb => fl.st b o (cond b o e1 nb (.inr ⟨o0, e0⟩))
  have base := I.base
  rw [hex] at base
  have nx : ∀ b : Addr, b ∉ ([] : List Addr) := fun b => by simp
  have tracked : ∀ b u, H' b ≠ none → hm.get? b = some u → s2.heap.get? b = some u := fun b u hb e => fl.st b u (cond b u e (fun z => hb (free_fr b z)) (.inl hb))
  refine ⟨os.trans I.os, bare, ⟨fun b o e n hf _ => ?_, fun b o e n hf _ => ?_, fun b o e n _ => ?_, fun b o e _ => ?_, fun b xs e => U.tups b xs (base.tups b xs e), fun b o u e => U.frzs b o u (base.frzs b o u e), fun b ps e => ?_⟩, fun a o e => ?_, B, fl, fun b o e nf h => ?_⟩
  · have e1 := base.keep b o e n hf (nx b)
    have nb := fsub b hf (neL b o e)
    exact at_b b o o e1 (U.keep b o e1 (base.free b o e n (nx b)) nb (nx b)) nb
  · obtain ⟨sl1, e1⟩ := base.slot b o e n hf (nx b)
    obtain ⟨sl2, e2⟩ := U.slot b _ e1 (base.free b o e n (nx b)) (fin b hf) (nx b)
    obtain ⟨sl3, e3⟩ := up b _ e2 (fr_data b (fin b hf) _ e2)
    exact ⟨sl3, e3⟩
  · obtain ⟨o1, e1⟩ := base.there b o e (nx b)
    exact U.free b o1 e1 (base.free b o e n (nx b)) (nx b)
  · obtain ⟨o1, e1⟩ := base.there b o e (nx b)
    obtain ⟨o2, e2⟩ := U.there b o1 e1 (nx b)
    by_cases hb : b ∈ frs X.stack
    · obtain ⟨sl3, e3⟩ := up b _ e2 (fr_data b hb _ e2)
      exact ⟨_, e3⟩
    · exact ⟨_, at_b b o2 o1 e1 e2 hb⟩
  · obtain ⟨m1, e1⟩ := base.tbls b ps e
    obtain ⟨m2, e2⟩ := U.tbls b _ e1
    exact ⟨m1 ++ m2, by rw [e2, Array.append_assoc]⟩
  · refine (hok a o e).stay (fun b u hb q => tracked b u ?_ q) (fun _ q => q) fun _ _ q => q
    rcases hb with rfl | hb
    · rw [e]; exact fun z => nomatch z
    · rw [hb]; exact fun z => nomatch z
  · rcases h with h | ⟨o0, e0⟩
    · cases q : H' b with
      | none => exact absurd q h
      | some u =>
        obtain ⟨o1, e1⟩ := (hok b u q).there
        have e2 := tracked b o1 h e1
        rw [e] at e2
        cases e2
        exact cond b o e1 (fun z => h (free_fr b z)) (.inl h)
    · have nb := fsub b nf (neL b o0 e0)
      obtain ⟨o1, e1⟩ := base.there b o0 e0 (nx b)
      obtain ⟨o2, e2⟩ := U.there b o1 e1 (nx b)
      have e3 := at_b b o2 o1 e1 e2 nb
      rw [e] at e3
      cases e3
      exact cond b o e2 nb (.inr ⟨o1, e1⟩)
end
section
variable {P : Program} {w : World} {K : PySem.W.Frag} {mg : Str → Option Value} {base : Heap} {N : List Str} {qual : Str} {scope : Scope} {f : Addr} {cd : Value} {A : Around} {outer : List Env} {s₀ : Shared} {H₀ : Hp} {E : XK}
noncomputable abbrev cxX (P : Program) (w : World) (K : PySem.W.Frag) (mg : Str → Option Value) (base : Heap) (N : List Str) (qual : Str) (scope : Scope) (f : Addr) (cd : Value) (A : Around) (outer : List Env) (s₀ : Shared) (H₀ : Hp) (E : XK) : Cx := cxOf (CX1 P w) P w K mg base N qual scope f cd A outer s₀ H₀ E
theorem passX : Passes (CX1 P w) (cxX P w K mg base N qual scope f cd A outer s₀ H₀ E) E := by
  intro pins σ H s e s' I h
  obtain ⟨ea, cls, H', rfl, F, hE⟩ := h
  obtain ⟨B, fl, cond⟩ := F.fly
  show wpAny (model P w) _ (leaving _ (.ref ea)) _ _ s'
  refine lv_on (L := s₀.heap.objs.size) I.ok.frames rfl fl fun h' fl' up => ?_
  exact ⟨ea, cls, H', rfl, flies_out (s2 := { s' with heap := h' }) I rfl rfl rfl F.os F.bare F.un F.hok cond fl' up, hE⟩
noncomputable def NewX (X : Cx) (E : XK) : Prop := ∀ (pins : List (Addr × Obj)) (σ : St) (H : Hp) (s : Shared) (h' : Heap) (e : Addr) (cls : Value) (vs : List Value), Inv X pins σ H s → Heap.MadeExcOf s.heap h' e cls vs → E cls none H → X.xe (.ref e) { s with heap := h' }
theorem newX : NewX (cxX P w K mg base N qual scope f cd A outer s₀ H₀ E) E := by
  intro pins σ H s h' e cls vs I hx hE
  show wpAny (model P w) _ (leaving _ (.ref e)) _ _ _
  have hin : ∀ env ∈ (cxX P w K mg base N qual scope f cd A outer s₀ H₀ E).stack, ∀ a, env.frame = some a → a ∈ frs (cxX P w K mg base N qual scope f cd A outer s₀ H₀ E).stack := fun env he a hb => List.mem_filterMap.mpr ⟨env, he, hb⟩
  obtain ⟨t, he, _, _⟩ := hx.there
  refine lv_new (L := s₀.heap.objs.size) (B := PySem.W.hideAll s.heap (frs (cxX P w K mg base N qual scope f cd A outer s₀ H₀ E).stack)) I.ok.frames rfl (fun b o q => hx.keeps b o (PySem.W.of_hideAll _ q)) ((PySem.W.funFrames_hide I.stack hin).of_keeps fun b o q _ => ⟨o, hx.keeps b o q, rfl⟩) ?_ he rfl rfl rfl fun h2 fl up => ?_
  · cases q : (PySem.W.hideAll s.heap (frs (cxX P w K mg base N qual scope f cd A outer s₀ H₀ E).stack)).get? e with
    | none => rfl
    | some o =>
      have z := PySem.W.of_hideAll _ q
      rw [hx.new] at z
      cases z
  refine ⟨e, cls, H, rfl, flies_out (s2 := { s with heap := h2 }) (hm := s.heap) I rfl rfl rfl rfl I.bare Un.refl I.hok (fun b o e1 nb _ => PySem.W.hideAll_get _ e1 nb) fl ((Heap.UpToSlots.of_keeps hx.keeps).trans up), hE⟩
end
end L2
set_option Elab.async false
set_option linter.all false
set_option maxRecDepth 100000
set_option maxHeartbeats 4000000
namespace L2
open PySem PySem.Spec PyProof.Rows
noncomputable def ExcHere (h : Heap) (C : Addr) (bmB : List Value) (newId : String) : Prop :=
  ∃ bm N nm q bs hdct sn sub ab col dd k0 k1 k2 k3 k5 mN, h.get? C = some (excClassObj nm q C N bs bm hdct sn sub ab col dd k0 k1 k2 k3 k5 newId) ∧ h.Ns N mN ∧ mN "__init__" = none ∧ OwnTail h bmB bm
theorem exc_here {K : PySem.W.Frag} {h : Heap} {C : Addr} {bmB : List Value} {newId : String} (kin : K.In h) (q : PySem.W.excIn K C bmB newId = true) : ExcHere h C bmB newId := by
  rw [PySem.W.excIn] at q
  split at q
  case h_2 => cases q
  case h_1 dd cd sl eC =>
    split at q
    case h_2 => cases q
    case h_1 C1 bm k0 k1 k2 k3 n k5 hm hs =>
      obtain ⟨sl⟩ := sl
      obtain ⟨nm, bs, mro, ns, qn, hd, sn, sub, ab, col, del⟩ := cd
      simp only [Bool.and_eq_true, beq_iff_eq, Bool.not_eq_true'] at q hm hs
      obtain ⟨⟨⟨⟨⟨q1, q2⟩, q3⟩, q4⟩, q5⟩, q6⟩ := q
      subst hm hs q1 q2 q3
      exact ⟨bm, ns, nm, qn, bs, hd, sn, sub, ab, col, dd, k0, k1, k2, k3, k5, h.nsMap ns, kin _ _ eC, Heap.Ns.of_isNs (PySem.W.isNs_of_in kin q5), PySem.W.nsMap_none_of_in kin q5 q6, PySem.W.tail_of_in kin q4⟩
section
variable {X : Cx} {x : Str} {C : Addr} {bmB : List Value} {B newId initId : String} {np cpos pos : Pos} {e : Expr} {es : List Expr} {t : TA} {E : XK}
noncomputable def tRaise (C : Addr) (E : XK) (t : TA) : TS := fun _ σ H => t σ H fun vs H1 => vs.length ≤ sizeLine ∧ E (.ref C) none H1
theorem ps_raise (new : NewX X E) (hc : X.calm = true) (hg : Gl X x) (hm : X.mg x = some (.ref C)) (q : PySem.W.excIn X.K C bmB newId = true) (FB : ExcBaseFacts B newId initId bmB) (ha : PA X (e :: es) t)
    (he : starEach (e :: es) X.env = (false, eval e X.env) :: starEach es X.env := by rfl) (hpl : (backTo cpos (starEach es X.env)).any (·.1) = false := by rfl) (hd : (x == ("__debug__" : Str)) = false := by decide) :
    PS X (.Raise (some (.Call (.Name x np) (e :: es) [] cpos)) none pos) (tRaise C E t) := by
  intro pins s σ H D I h
  obtain ⟨bm, N, nm, qn, bs, hdct, sn, sub, ab, col, dd, k0, k1, k2, k3, k5, mN, hC, hN, hni, T⟩ := exc_here I.ok.mod.kin q
  refine wpAny_Raise_call_subT (C := C) (nm := nm) (q := qn) (N := N) (bs := bs) (bm := bm) (hdct := hdct) (sn := sn) (sub := sub) (ab := ab) (col := col) (dd := dd) (k0 := k0) (k1 := k1) (k2 := k2) (k3 := k3) (k5 := k5)
    FB (mN := mN) (T.hasType FB.hasBase) (I.ok.hd hc) (by rw [he]; show (false || (backTo cpos (starEach es X.env)).any (·.1)) = false; rw [hpl]; rfl) hni (ld_glob I hg hm ⟨rfl, ?_⟩ hd)
  have ha' := ha cpos pins s σ H _ I h
  rw [he] at ha' ⊢
  refine Calls.evalArgs_plain (thn ha' fun us s1 ⟨vs, H1, I1, r, hl, hE⟩ => ?_)
  exact ⟨rfl, by rw [← r.length]; exact hl, I1.bk _ _ hC, hN.keeps I1.bk, T.keeps I1.bk, fun h' ea hx => new pins σ H1 s1 h' ea (.ref C) us I1 hx hE⟩
end
end L2
set_option Elab.async false
set_option linter.all false
set_option maxRecDepth 100000
set_option maxHeartbeats 4000000
namespace L2
open PySem PySem.Spec PyProof.Rows
noncomputable abbrev Cx.suite (X : Cx) (e : Addr) : Cx := { X with A := X.A.mark (some (.ref e)), calm := false, xe := fun _ _ => False }
noncomputable def excO (e : Addr) (cls : Value) : HO := .ext fun h => ∃ oe vs, h.get? e = some oe ∧ oe.cls = cls ∧ oe.dict = none ∧ oe.data = .fields vs
section
variable {X : Cx} {pins : List (Addr × Obj)} {σ : St} {H H' : Hp} {s s1 : Shared} {e : Addr} {cls fl : Value}
theorem Cx.Ok.suite (ok : X.Ok) (e : Addr) : (X.suite e).Ok :=
  ⟨ok.mod, ok.kind, ok.glob, ok.blt, ok.above, ok.inj, ok.has, ok.cab, (fun z => nomatch z), ok.frames, ok.stk, ok.exf, ok.bs, ok.bsz, ok.noex, ok.exfs, ok.funs, ok.frf⟩
theorem Inv.suite (I : Inv X pins σ H s) (e : Addr) : Inv (X.suite e) pins σ H s := ⟨I.ok.suite e, I.os, I.bare, I.base, I.loc, I.cell, I.free, I.freeC, I.pin, I.hok, I.len⟩
theorem Inv.unsuite (ok : X.Ok) (I : Inv (X.suite e) pins σ H s) : Inv X pins σ H s := ⟨ok, I.os, I.bare, I.base, I.loc, I.cell, I.free, I.freeC, I.pin, I.hok, I.len⟩
theorem Flies.fresh {l : List Env} {P : Program} {w : World} (F : Flies P w l H s cls e H' s1) : s.heap.get? e = none ∧ H' e = none := by
  obtain ⟨B, fl, cond⟩ := F.fly
  obtain ⟨oe, vs, T, oT, ts, he, hc, hdn, hd, _⟩ := fl.ex
  have nf := fr_ne fl.fr he hd
  have no : ¬ (H' e ≠ none ∨ ∃ o', s.heap.get? e = some o') := fun z => by
    have q := cond e oe he nf z
    rw [fl.new] at q
    cases q
  constructor
  · cases q : s.heap.get? e with
    | none => rfl
    | some o => exact absurd (.inr ⟨o, q⟩) no
  · cases q : H' e with
    | none => rfl
    | some o => exact absurd (.inl (by rw [q]; exact fun z => nomatch z)) no
theorem flies_in {h2 B : Heap} (I : Inv X pins σ H s) (F : Flies X.prog X.w X.stack H s cls e H' s1) (fl : FlyD B X.stack e cls fl h2) (cond : ∀ b o, s1.heap.get? b = some o → b ∉ frs X.stack → (H' b ≠ none ∨ ∃ o', s.heap.get? b = some o') → B.get? b = some o)
    (up : s1.heap.UpToSlots h2) : Inv X pins σ H' { s1 with heap := h2 } := by
  have free_fr : ∀ b ∈ frs X.stack, H' b = none := fun b hb => by
    obtain ⟨_, o1, e1, d1⟩ := I.stack.mem hb
    exact F.un.free b o1 e1 (I.stkFree b hb) (by simp)
  have fr_data : ∀ b ∈ frs X.stack, ∀ o, s1.heap.get? b = some o → ∀ vs, o.data ≠ .fields vs := fun b hb o eo vs q => by
    obtain ⟨_, o1, e1, d1⟩ := I.stack.mem hb
    obtain ⟨sl, e2⟩ := F.un.slot b o1 e1 (I.stkFree b hb) hb (by simp)
    rw [eo] at e2
    cases e2
    exact d1 vs q
  refine I.call' (s' := { s1 with heap := h2 }) (ch := []) F.os ⟨fun b o e n hf _ => ?_, fun b o e n hf _ => ?_, F.un.free, fun b o e _ => ?_, F.un.tups, F.un.frzs, F.un.tbls⟩ (fun a o q => ?_) F.bare (fun b hb => absurd hb (by simp))
  · exact fl.st b o (cond b o (F.un.keep b o e n hf (by simp)) hf (.inr ⟨o, e⟩))
  · obtain ⟨sl, e1⟩ := F.un.slot b o e n hf (by simp)
    obtain ⟨sl2, e2⟩ := up b _ e1 (fr_data b hf _ e1)
    exact ⟨sl2, e2⟩
  · obtain ⟨o1, e1⟩ := F.un.there b o e (by simp)
    by_cases hb : b ∈ frs X.stack
    · obtain ⟨sl2, e2⟩ := up b _ e1 (fr_data b hb _ e1)
      exact ⟨_, e2⟩
    · exact ⟨o1, fl.st b o1 (cond b o1 e1 hb (.inr ⟨o, e⟩))⟩
  · refine (F.hok a o q).stay (fun b u hb z => ?_) (fun _ q => q) fun _ _ q => q
    have nb : H' b ≠ none := by
      rcases hb with rfl | hb
      · rw [q]; exact fun z => nomatch z
      · rw [hb]; exact fun z => nomatch z
    exact fl.st b u (cond b u z (fun y => nb (free_fr b y)) (.inl nb))
theorem Inv.trackX (I : Inv X pins σ H s) (hex : X.ex = []) (n : H e = none) (n0 : X.s₀.heap.get? e = none) (np : ∀ p ∈ X.pn ++ pins, p.1 ≠ e) {oe : Obj} {vs : Array Value} (he : s.heap.get? e = some oe) (hc : oe.cls = cls) (hdn : oe.dict = none) (hd : oe.data = .fields vs) :
    Inv X pins σ (upd H e (excO e cls)) s := by
  have neq : ∀ b o, H b = some o → b ≠ e := fun b o q z => by rw [z, n] at q; cases q
  have nL : X.env.locals ≠ e := fun z => by
    obtain ⟨m, ⟨o, es, ep, ho, hdd, _⟩, _⟩ := I.loc
    rw [z, he] at ho
    cases ho
    rw [hd] at hdd
    cases hdd
  have nC : ∀ x c, X.env.cells.lookup x = some c → c ≠ e := fun x c q z => by
    obtain ⟨v, o, ho, hdd⟩ := I.cell x c q
    rw [z, he] at ho
    cases ho
    rw [hd] at hdd
    cases hdd
  refine ⟨I.ok, I.os, I.bare, ⟨I.base.keep, I.base.slot, fun b o q m hx => ?_, I.base.there, fun b xs q => ?_, fun b o u q => ?_, fun b ps q => ?_⟩, I.loc, I.cell, by rw [upd_ne nL]; exact I.free, fun x c q => by rw [upd_ne (nC x c q)]; exact I.freeC x c q, fun p hp => ?_, fun b u q => ?_, I.len⟩
  · have nb : b ≠ e := fun z => by rw [z, n0] at q; cases q
    rw [upd_ne nb]
    exact I.base.free b o q m hx
  · have z := I.base.tups b xs q
    rw [upd_ne (neq _ _ z)]
    exact z
  · have z := I.base.frzs b o u q
    rw [upd_ne (neq _ _ z)]
    exact z
  · obtain ⟨m, z⟩ := I.base.tbls b ps q
    exact ⟨m, by rw [upd_ne (neq _ _ z)]; exact z⟩
  · obtain ⟨a1, a2, a3⟩ := I.pin p hp
    exact ⟨a1, by rw [upd_ne (np p hp)]; exact a2, a3⟩
  · by_cases hb : b = e
    · subst hb
      rw [upd_same] at q
      cases q
      refine ⟨⟨oe, vs, he, hc, hdn, hd⟩, ⟨oe, he⟩, fun h1 h2 ⟨o1, w1, a1, a2, a3, a4⟩ k => ⟨o1, w1, k _ a1, a2, a3, a4⟩⟩
    · rw [upd_ne hb] at q
      refine (I.hok b u q).stay (fun _ _ _ z => z) (fun c z => ?_) fun c xs z => ?_
      · rw [upd_ne (neq _ _ z)]; exact z
      · rw [upd_ne (neq _ _ z)]; exact z
theorem name_gone {M : Model} {A : Around} {E : Value → Shared → Prop} {i : Nat} {n : Str} {pos : Pos} {Q : Unit → Shared → Prop} (I : Inv X pins σ H s) (hN : X.N.Nodup) (hi : X.N[i]? = some n) (hk : X.env.kindOf n = some .local)
    (k : ∀ s', Inv X pins (σ.set i none) H s' → Q () s') : wpAny M A (do bindName X.env n .none; unbindBehindTheSuite X.env n pos) Q E s := by
  obtain ⟨m, hn, hl⟩ := id I.loc
  have hcls : (X.env.scope.kind == .class || (X.env.scope.kind == .module && X.env.locals != X.env.globals)) = false := by rw [I.ok.kind]; rfl
  refine wpAny_nameGoes_keeps hk hn hcls fun h2 v hn2 sb => ?_
  obtain ⟨oL, _, _, hoL, dL, _⟩ := id hn
  have oth : ∀ b, b ≠ X.env.locals → h2.get? b = s.heap.get? b := sb.2
  have old : ∀ b o, X.s₀.heap.get? b = some o → b ≠ X.env.locals := fun b o q z => by
    have w := I.ok.above
    rw [← z] at w
    exact absurd (Nat.lt_of_lt_of_le (Heap.lt_size q) w) (Nat.lt_irrefl _)
  have nC : ∀ x c, X.env.cells.lookup x = some c → c ≠ X.env.locals := fun x c q z => by
    obtain ⟨v, o, ho, hdd⟩ := I.cell x c q
    rw [z, hoL] at ho
    cases ho
    rw [dL] at hdd
    cases hdd
  have nT : ∀ b o, H b = some o → b ≠ X.env.locals := fun b o q z => by rw [z, I.free] at q; cases q
  refine k _ ⟨I.ok, I.os, I.bare, ⟨fun b o q m hb hx => (oth b (old b o q)).trans (I.base.keep b o q m hb hx), fun b o q m hb hx => ?_, I.base.free, fun b o q hx => ?_, I.base.tups, I.base.frzs, I.base.tbls⟩, ⟨_, hn2, fun j y v' e1 e2 e3 => ?_⟩, fun x c q => ?_, I.free, I.freeC, fun p hp => ?_, fun b u q => ?_, by rw [List.length_set]; exact I.len⟩
  · obtain ⟨sl, z⟩ := I.base.slot b o q m hb hx
    exact ⟨sl, (oth b (old b o q)).trans z⟩
  · obtain ⟨o', z⟩ := I.base.there b o q hx
    exact ⟨o', (oth b (old b o q)).trans z⟩
  · by_cases hj : j = i
    · subst hj
      have hl := I.len
      have hlt : j < σ.length := by rw [hl]; exact (List.getElem?_eq_some_iff.mp e1).1
      rw [List.getElem?_set_self hlt] at e2
      cases e2
    · rw [List.getElem?_set_ne (Ne.symm hj)] at e2
      obtain ⟨u, r, z⟩ := hl j y v' e1 e2 e3
      refine ⟨u, r, ?_⟩
      have ny : y ≠ n := fun z => hj (nodup_ix hN e1 (z ▸ hi))
      rcases z with ⟨z1, z2⟩ | ⟨z1, c, z2, z3⟩
      · exact .inl ⟨z1, (if_neg ny).trans z2⟩
      · obtain ⟨o, ho, hdd⟩ := z3
        exact .inr ⟨z1, c, z2, o, (oth c (nC y c z2)).trans ho, hdd⟩
  · obtain ⟨v, o, ho, hdd⟩ := I.cell x c q
    exact ⟨v, o, (oth c (nC x c q)).trans ho, hdd⟩
  · obtain ⟨a1, a2, a3, a4⟩ := I.pin p hp
    exact ⟨(oth p.1 a3).trans a1, a2, a3, a4⟩
  · refine (I.hok b u q).stay (fun c w hc z => (oth c ?_).trans z) (fun _ z => z) fun _ _ z => z
    rcases hc with rfl | hc
    · exact nT c u q
    · exact nT c _ hc
end
end L2
set_option Elab.async false
set_option linter.all false
set_option maxRecDepth 100000
set_option maxHeartbeats 4000000
namespace L2
open PySem PySem.Spec PyProof.Rows
noncomputable def Ends.less (D : Ends) (i : Nat) : Ends := { nx := fun σ H => D.nx (σ.set i none) H, rt := D.rt, bk := fun σ H => D.bk (σ.set i none) H, ct := fun σ H => D.ct (σ.set i none) H }
section
variable {X : Cx} {pins : List (Addr × Obj)} {σ : St} {H H' : Hp} {s s1 : Shared} {e : Addr} {cls c : Value} {i : Nat} {x n : Str} {np pos hpos : Pos} {b₀ : Stmt} {suite : List Stmt} {ts : TS} {D : Ends}
theorem looks_exc {M : Model} {h : Heap} {oe : Obj} (he : h.get? e = some oe) (hc : oe.cls = cls) : PySem.W.Looks M h (typeOf (.ref e)) cls := hc ▸ (PySem.W.Looks.ld he).andThen .now
theorem handle_as (I : Inv X pins σ H s) (hstk : X.stack = X.env :: X.outer) (hfr : X.env.frame = some X.env.locals) (hex : X.ex = []) (hN : X.N.Nodup) (hi : X.N[i]? = some n) (hlo : X.env.scope.names.lookup n = some .local) (hg : Gl X x) (hm : X.mg x = some c)
    (hd : (x == ("__debug__" : Str)) = false) (F : Flies X.prog X.w X.stack H s cls e H' s1) (hx : PySem.W.exmOne X.K cls c = some true) (hs : PSs (X.suite e) (b₀ :: suite) ts) (h : ts (D.less i) (σ.set i (some (.ref e))) (upd H' e (excO e cls))) :
    wpAny (model X.prog X.w) X.A (noteFrame (.ref e) X.env) (fun _ s2 => wpAny (model X.prog X.w) X.A (setFlight (.ref e) none) (fun _ s3 =>
      wpAny (model X.prog X.w) X.A (handleBy (.ref e) X.env [.ExceptHandler (some (.Name x np)) (some n) (b₀ :: suite) hpos]) (SP X pins D) X.xe s3) X.xe s2) X.xe s1 := by
  obtain ⟨B, fl, cond⟩ := F.fly
  obtain ⟨n0, nH⟩ := F.fresh
  have hfs : X.A.frames = some (X.env :: X.outer) := by rw [← hstk]; exact I.ok.frames
  rw [hstk] at fl
  refine note_on hfs hfr fl fun h4 fl4 up4 => ?_
  refine fly_land (s := { s1 with heap := h4 }) fl4 fun h5 fl5 up5 => ?_
  have fl5' := fl5
  rw [← hstk] at fl5'
  have I5 := (flies_in I F fl5' cond (up4.trans up5)).suite e
  refine wpAny_handleBy_cons (codeAny_handlers_test (ld_glob I5 hg hm ?_ hd)) (fun q => nomatch q)
  obtain ⟨oe, vs, T, oT, ts', he, hc, _⟩ := fl5.ex
  refine (PySem.W.exm_one I5.kIn (looks_exc he hc) hx).here ?_
  show codeAny _ _ _ _ _
  refine codeAny_handlers_suite_as ?_
  refine fly_land (s := { s1 with heap := h5 }) fl5 fun h6 fl6 up6 => ?_
  have fl6' := fl6
  rw [← hstk] at fl6'
  have I6 := flies_in I F fl6' cond ((up4.trans up5).trans up6)
  obtain ⟨oe6, vs6, _, _, _, he6, hc6, hdn6, hd6, _⟩ := fl6.ex
  have np0 : X.s₀.heap.get? e = none := by
    cases q : X.s₀.heap.get? e with
    | none => rfl
    | some o =>
      obtain ⟨o', z⟩ := I.base.there e o q (by rw [hex]; simp)
      rw [n0] at z
      cases z
  have I7 := I6.trackX hex nH np0 (fun p hp z => by
    have w := (I.pin p hp).1
    rw [z, n0] at w
    cases w) he6 hc6 hdn6 hd6
  refine store_ok I7 hN hi (.inl hlo) (show RelV (.ref e) (.ref e) from rfl) (fun s8 I8 => ?_) (.inr hlo)
  refine wpAny_mono (hs pins s8 _ _ _ (I8.suite e) h) (fun f s9 q => ?_) fun _ _ z => z.elim
  show wpAny _ _ _ _ _ _
  cases f with
  | next =>
    obtain ⟨σ9, H9, I9, d9⟩ := q
    exact name_gone (I9.unsuite I.ok) hN hi hlo fun s10 I10 => ⟨_, _, I10, d9⟩
  | brk =>
    obtain ⟨σ9, H9, I9, d9⟩ := q
    exact name_gone (I9.unsuite I.ok) hN hi hlo fun s10 I10 => ⟨_, _, I10, d9⟩
  | cont =>
    obtain ⟨σ9, H9, I9, d9⟩ := q
    exact name_gone (I9.unsuite I.ok) hN hi hlo fun s10 I10 => ⟨_, _, I10, d9⟩
  | ret u =>
    obtain ⟨v, σ9, H9, I9, r9, d9⟩ := q
    exact name_gone (I9.unsuite I.ok) hN hi hlo fun s10 I10 => ⟨v, _, _, I10, r9, d9⟩
theorem SP.unsuite {f : Flow} (ok : X.Ok) (h : SP (X.suite e) pins D f s) : SP X pins D f s := by
  cases f with
  | next => obtain ⟨σ', H', I, q⟩ := h; exact ⟨σ', H', I.unsuite ok, q⟩
  | brk => obtain ⟨σ', H', I, q⟩ := h; exact ⟨σ', H', I.unsuite ok, q⟩
  | cont => obtain ⟨σ', H', I, q⟩ := h; exact ⟨σ', H', I.unsuite ok, q⟩
  | ret u => obtain ⟨v, σ', H', I, r, q⟩ := h; exact ⟨v, σ', H', I.unsuite ok, r, q⟩
end
noncomputable def PEat (X : Cx) (pins : List (Addr × Obj)) (σ : St) (e : Expr) (t : TE) : Prop := ∀ (s : Shared) (H : Hp) (Q : VK), Inv X pins σ H s → t σ H Q → wpAny (model X.prog X.w) X.A (eval e X.env) (EP X pins σ Q) X.xe s
noncomputable def PSat (X : Cx) (pins : List (Addr × Obj)) (σ : St) (st : Stmt) (t : TS) : Prop := ∀ (s : Shared) (H : Hp) (D : Ends), Inv X pins σ H s → t D σ H → wpAny (model X.prog X.w) X.A (exec st X.env) (SP X pins D) X.xe s
noncomputable def PSsAt (X : Cx) (pins : List (Addr × Obj)) (σ : St) (st : List Stmt) (t : TS) : Prop := ∀ (s : Shared) (H : Hp) (D : Ends), Inv X pins σ H s → t D σ H → wpAny (model X.prog X.w) X.A (execs st X.env) (SP X pins D) X.xe s
noncomputable def PassesAt (CX : CXT) (X : Cx) (pins : List (Addr × Obj)) (σ : St) (E : XK) : Prop := ∀ (H : Hp) (s : Shared) (e : Value) (s' : Shared), Inv X pins σ H s → CX X.stack H s E e s' → X.xe e s'
section
variable {X : Cx} {pins : List (Addr × Obj)} {σ : St} {CX : CXT} {k : Nat} {f : Addr} {fd : FuncData} {ps : List Str} {sp : Sp} {dvs : List V} {ds : List Value} {E : XK} {x : Str} {p pos cpos : Pos} {e c : Expr} {es : List Expr} {t : TA} {te : TE} {tc : TT} {st : Stmt} {a b : List Stmt} {ta tb u : TS}
theorem at_expr (he : PEat X pins σ e te) (hs : swapsWith e none pos.line X.env = pure false := by rfl) : PSat X pins σ (.Expr e pos) (tDrop te) := by
  intro s H D I h
  exact wpAny_Expr_any (thn (he s H _ I h) fun v s1 ⟨x, H1, I1, r1, q1⟩ => ⟨σ, H1, I1, q1⟩) I.quiet hs
theorem at_one (h1 : PSat X pins σ st ta) : PSsAt X pins σ [st] ta := by
  intro s H D I h
  refine wpAny_execs_cons (thn (h1 s H D I h) fun f s1 q => ?_)
  cases f with
  | next => exact wpAny_execs_nil q
  | ret v => exact q
  | brk => exact q
  | cont => exact q
end
section
variable {X : Cx} {c : Value} {i : Nat} {x n : Str} {np pos hpos : Pos} {body : List Stmt} {b₀ : Stmt} {suite : List Stmt} {ts : TS} {tb : XK → TS}
noncomputable def tTryAs (K : PySem.W.Frag) (c : Value) (i : Nat) (tb : XK → TS) (ts : TS) : TS := fun D σ H =>
  tb (fun cls _ H' => PySem.W.exmOne K cls c = some true ∧ ∀ e, H' e = none → ts (D.less i) (σ.set i (some (.ref e))) (upd H' e (excO e cls))) D σ H
theorem ps_try_as (hstk : X.stack = X.env :: X.outer) (hfr : X.env.frame = some X.env.locals) (hex : X.ex = []) (hN : X.N.Nodup) (hi : X.N[i]? = some n) (hlo : X.env.scope.names.lookup n = some .local) (hg : Gl X x) (hm : X.mg x = some c)
    (hb : ∀ xe pins σ E, PassesAt (CX1 X.prog X.w) (X.wish xe) pins σ E → PSsAt (X.wish xe) pins σ body (tb E)) (hs : ∀ e, PSs (X.suite e) (b₀ :: suite) ts) (hd : (x == ("__debug__" : Str)) = false := by decide) :
    PS X (.Try body [.ExceptHandler (some (.Name x np)) (some n) (b₀ :: suite) hpos] [] [] pos) (tTryAs X.K c i tb ts) := by
  intro pins s σ H D I h
  refine wpAny_Try_except ?_
  refine wpAny_mono (hb (fun e s1 => wpAny (model X.prog X.w) X.A (noteFrame e X.env) (fun _ s2 => wpAny (model X.prog X.w) X.A (setFlight e none) (fun _ s3 =>
      wpAny (model X.prog X.w) X.A (handleBy e X.env [.ExceptHandler (some (.Name x np)) (some n) (b₀ :: suite) hpos]) (SP X pins D) X.xe s3) X.xe s2) X.xe s1) pins σ _ (fun H1 s1 e s' I1 q => ?_) s H D (I.wish _) h) (fun f s1 q => ?_) fun _ _ z => z
  · obtain ⟨ea, cls, H', rfl, F, hx, hE⟩ := q
    exact handle_as I1.unwish hstk hfr hex hN hi hlo hg hm hd F hx (hs ea) (hE ea F.fresh.2)
  · have q := q.unwish
    cases f with
    | next => exact wpAny_execs_nil q
    | ret v => exact q
    | brk => exact q
    | cont => exact q
end
section
variable {P : Program} {w : World} {K : PySem.W.Frag} {mg : Str → Option Value} {base : Heap}
theorem Fun.okX {x qual : Str} {st : Stmt} {f : Addr} {fd : FuncData} {N ps : List Str} {k : Nat} {sp : Sp} (F : Fun K x qual st f fd) (S : FnScope N ps (defScope st)) (len : ∀ vs H Q E, sp vs H Q E → vs.length = ps.length)
    (hbody : ∀ (cdv : Value) (A : Around) (outer : List Env) (s : Shared) (H : Hp) (vs : List V) (Q : VK) (E : XK), Room k (A.deeper (envOfC qual (defScope st) s.heap.objs.size f cdv)) → sp vs H Q E →
      ∃ t, PSs (cxX P w K mg base N qual (defScope st) f cdv A outer s H E) (defBody st) t ∧ t { nx := fun _ H' => Q .non H', rt := Q } (start N vs) H) : FnOk P w K mg base (CX1 P w) (k + 1) f fd ps sp := by
  obtain ⟨oc, od, kV, doc, pm, an, cdv, ct, osl, rfl, lk, hcd⟩ := F.ex
  exact fn_of lk hcd S len fun A outer s H vs Q E hr hsp => hbody cdv A outer s H vs Q E hr hsp
theorem FnOk.calm {f : Addr} {fd : FuncData} {ps : List Str} {k : Nat} {sp : Sp} (F : FnOk P w K mg base CX0 k f fd ps sp) : FnOk P w K mg base (CX1 P w) k f fd ps sp :=
  ⟨F.len, fun A outer s H args us vs Q E hr he hb hv hs => codeAny_mono (F.run A outer s H args us vs Q E hr he hb hv hs) fun r s' q => by
    cases r with
    | ok fl => cases fl <;> exact q
    | error e => exact False.elim q⟩
end
end L2
set_option Elab.async false
set_option linter.all false
set_option maxRecDepth 100000
set_option maxHeartbeats 4000000
namespace L2
open PySem PySem.Spec PyProof.Rows
section
variable {prog : Program} {w : World} {A : Around} {E : Value → Shared → Prop} {s : Shared} {K : PySem.W.Frag} {e C : Addr} {oe : Obj}
theorem exc_check {M : Model} {hp : Heap} {g : Array GenState} {d : Drawn} {t : Nat} {os : OsState} {nm : Value} {Q : Unit → Shared → Prop} (L4 : PySem.W.Looks M hp (isInstance (.ref e) (.type "BaseException")) true) (hq : Q () ⟨hp, g, d, t, os⟩) :
    wpAny M A (checkBuiltinCall "BaseException.__getattribute__" ⟨[.ref e, nm], []⟩) Q E ⟨hp, g, d, t, os⟩ := by
  have hk : builtinKind "BaseException.__getattribute__" = some .slot := by decide +kernel
  have hsp : splitId "BaseException.__getattribute__" = some ("BaseException", "__getattribute__") := by decide +kernel
  have ha := F.args_bexc_ga (.ref e) nm
  simp only [checkBuiltinCall, hk, hsp]
  refine wpAny_bind (L4.at ?_)
  simp only [Bool.not_true, Bool.false_eq_true, if_false]
  cases sg : Manifest.signature? "BaseException.__getattribute__" with
  | none => exact wpAny_pure hq
  | some z =>
    simp only [argsOk, sg] at ha
    show wpAny M A (Bind.checkArgs "BaseException.__getattribute__" z ⟨[.ref e, nm], []⟩) Q E _
    rw [ha]
    exact wpAny_pure hq
theorem exc_class {Q : Option Value → Shared → Prop} (kin : K.In s.heap) (I : PySem.W.InstAt s.heap e oe C none) (ga : PySem.W.findIn K (.ref C) "__getattribute__" = some (some (.builtin "BaseException.__getattribute__"))) (gt : PySem.W.findIn K (.ref C) "__getattr__" = some none)
    (bs : PySem.W.subIn K (.ref C) (.type "BaseException") = some true) (fo : PySem.W.findObj K C none "__class__" = some (.bind (.builtin "getset_descriptor.__get__") (.builtin "object.__class__"))) (hm : PySem.W.mroIn K C (.type "object") = some true)
    (h : Q (some (.ref C)) { s with toks := s.toks + 1 }) : wpAny (model prog w) A (getAttr? (.ref e) "__class__") Q E s := by
  obtain ⟨hp, g, d, t, os⟩ := s
  have L0 := I.type (M := model prog w)
  have L1 := PySem.W.looks_findIn (M := model prog w) kin ga
  have L2 := PySem.W.looks_findIn (M := model prog w) kin gt
  have L3 := PySem.W.looks_find (M := model prog w) kin I fo
  have L4 : PySem.W.Looks (model prog w) hp (isInstance (.ref e) (.type "BaseException")) true := L0.andThen (PySem.W.looks_subIn (M := model prog w) kin bs)
  have hk : builtinKind "BaseException.__getattribute__" = some .slot := by decide +kernel
  have hsp : splitId "BaseException.__getattribute__" = some ("BaseException", "__getattribute__") := by decide +kernel
  unfold getAttr? getAttrBy? getAttrBy
  refine wpAny_bind (wpAny_mkText (wpAny_bind (wpAny_attempt (wpAny_holding (wpAny_bind (L0.at (wpAny_bind (L1.at ?_))))))))
  show wpAny _ _ (getAttrByItsOwn _ _ _ _ _ _) _ _ _
  unfold getAttrByItsOwn hookBefore
  refine wpAny_bind (L2.at ?_)
  refine wpAny_bind (wpAny_attempt (wpAny_holding ?_))
  show wpAny _ _ (boundAndCalled _ _ _) _ _ _
  unfold boundAndCalled
  rw [F.attr_ValueError.ga.bind]
  refine wpAny_bind (wpAny_pure ?_)
  refine wpAny_call (codeAny_call_builtin F.attr_ValueError.ga.plain F.entry_bexc_ga ?_)
  refine exc_check L4 ?_
  unfold Builtin.«object.__getattribute__»
  repeat (any_goals (first | assumption | with_reducible refine L0.at ?_ | with_reducible refine L3.at ?_ | wp_step))
  refine PySem.W.class_get (s := ⟨hp, g, d, t + 1, os⟩) (ox := oe) (od := none) kin I hm ?_
  show wpAny _ _ (ret (Value.ref C)) _ _ _
  refine wpAny_pure ?_
  show wpAny _ _ (handedOut (Value.ref C)) _ _ _
  exact PySem.W.handed_on rfl (wpAny_pure h)
end
structure ExcK (K : PySem.W.Frag) (C : Addr) : Prop where
  cls : PySem.W.isClsIn K C = true
  ty : PySem.W.typeIn K (.ref C) = some (.type "type")
  sf : PySem.W.subIn K (.ref C) (.ref C) = some true
  ga : PySem.W.findIn K (.ref C) "__getattribute__" = some (some (.builtin "BaseException.__getattribute__"))
  gt : PySem.W.findIn K (.ref C) "__getattr__" = some none
  bs : PySem.W.subIn K (.ref C) (.type "BaseException") = some true
  ha : PySem.W.findIn K (.ref C) "__class__" = some (some (.builtin "object.__class__"))
  hn : PySem.W.specialIn K (.builtin "object.__class__") "__get__" = some (some (.builtin "getset_descriptor.__get__"))
  tk : PySem.W.takesIn K (.builtin "object.__class__") = some true
  hm : PySem.W.mroIn K C (.type "object") = some true
theorem find_exc {K : PySem.W.Frag} {C : Addr} (k : ExcK K C) : PySem.W.findObj K C none "__class__" = some (.bind (.builtin "getset_descriptor.__get__") (.builtin "object.__class__")) := by
  obtain ⟨cd, e⟩ := Option.isSome_iff_exists.mp (show (PySem.W.clsIn K C).isSome = true from k.cls)
  simp [PySem.W.findObj, e, k.ha, k.hn, k.tk]
theorem kitx_exc {K : PySem.W.Frag} {e C : Addr} (k : ExcK K C) : PySem.W.KitX K (.ref e) (.ref C) (fun h => ∃ oe, PySem.W.InstAt h e oe C none) where
  ty := fun _ _ _ ⟨_, I⟩ => I.type
  it := fun M h kin _ => by
    have q : PySem.W.kitCls K (.ref C) (.ref C) = some true := by
      unfold PySem.W.kitCls
      have z : ((PySem.W.clsIn K C).isSome && PySem.W.typeIn K (.ref C) == some (.type "type")) = true := by
        rw [k.ty, beq_self_eq_true, Bool.and_true]
        exact k.cls
      dsimp only
      rw [if_pos z]
      exact k.sf
    exact (PySem.W.kit_cls kin q).2.1
  ne := fun h tp dd its n sl kin htp => by
    refine Bool.eq_false_iff.mpr fun q => ?_
    have q : C = tp := Value.ref.inj (beq_iff_eq.mp q)
    subst q
    have z := k.cls
    unfold PySem.W.isClsIn PySem.W.clsIn at z
    split at z
    · rename_i lo
      have w := kin _ _ lo
      rw [htp] at w
      cases w
    · cases z
  ca := fun {prog w A E Q s} kin ⟨oe, I⟩ h => exc_class kin I k.ga k.gt k.bs (find_exc k) k.hm h
section
variable {X : Cx} {pins : List (Addr × Obj)} {σ : St} {H : Hp} {s : Shared} {A : Around} {E : Value → Shared → Prop} {Q : Value → Shared → Prop} {c : Value} {b : Bool} {a C : Addr}
theorem exc_inst (I : Inv X pins σ H s) (q : H a = some (excO a (.ref C))) : ∃ oe, PySem.W.InstAt s.heap a oe C none := by
  obtain ⟨⟨oe, vs, he, hc, hdn, hd⟩, _⟩ := (show ObjOk X.prog X.w H s.heap a (excO a (.ref C)) from I.hok a _ q)
  refine ⟨oe, he, hc, ?_, ?_⟩
  · unfold PySem.W.notCls
    rw [hd]
  · rw [hdn]
    exact True.intro
theorem isinst_exc (I : Inv X pins σ H s) (q : H a = some (excO a (.ref C))) (k : ExcK X.K C) (e : PySem.W.kitOne X.K (.ref C) c = some b) (h : ∀ tk, Q (.bool b) { s with toks := tk }) :
    wpAny (model X.prog X.w) A (call (.builtin "isinstance") [.ref a, c]) Q E s :=
  PySem.W.kia_one (kitx_exc k) I.kIn (exc_inst I q) e (fun z => nomatch z) h
theorem isinst_excT {tp : Addr} {dd : Option Addr} {its : List Value} {n : Nat} {sl : Array (Option Value)} (I : Inv X pins σ H s) (q : H a = some (excO a (.ref C))) (k : ExcK X.K C) (htp : s.heap.get? tp = some ⟨.type "tuple", dd, .seq its.toArray n, sl⟩)
    (e : PySem.W.kitAny X.K (.ref C) its = some b) (h : ∀ tk, Q (.bool b) { s with toks := tk }) : wpAny (model X.prog X.w) A (call (.builtin "isinstance") [.ref a, .ref tp]) Q E s :=
  PySem.W.kia_tup (kitx_exc k) I.kIn (exc_inst I q) htp e (fun z => nomatch z) h
end
end L2
set_option Elab.async false
set_option linter.all false
set_option maxRecDepth 100000
set_option maxHeartbeats 4000000
namespace L2
open PySem PySem.Spec PyProof.Rows
inductive D where
  | non
  | bl (b : Bool)
  | int (i : Int)
  | str (x : Str)
  | lst (xs : List D)
  | tup (xs : List D)
  | obj (x : Str) (fs : List (Str × D))
  | dct (kvs : List (Key × D))
  | dit (kvs : List (List Key × D))
  | exc (x : Str)
  | fn (x : Str)
mutual
inductive Rp (K : PySem.W.Frag) (R : Hp) : V → D → Prop
  | non : Rp K R .non .non
  | bl (b : Bool) : Rp K R (.bl b) (.bl b)
  | int (i : Int) : Rp K R (.int i) (.int i)
  | str (x : Str) : Rp K R (.str x) (.str x)
  | lst {a : Addr} {xs : List V} {ds : List D} : SqL K R a xs → Rps K R xs ds → Rp K R (.ref a) (.lst ds)
  | tup {a : Addr} {xs : List V} {ds : List D} : R a = some (.tup xs) → Rps K R xs ds → Rp K R (.ref a) (.tup ds)
  | obj {a C dx : Addr} {x : Str} {fs : List (Str × V)} {gs : List (Str × D)} : PySem.W.nsIn K mainGlobals x = some (some (.ref C)) → R a = some (.ins C dx fs) → Rfs K R fs gs → Rp K R (.ref a) (.obj x gs)
  | dct {a : Addr} {kvs : List (Key × V)} {gs : List (Key × D)} : R a = some (.dK kvs) → Rkk K R kvs gs → Rp K R (.ref a) (.dct gs)
  | dit {a : Addr} {kvs : List (List Key × V)} {gs : List (List Key × D)} : R a = some (.dT kvs) → Rkt K R kvs gs → Rp K R (.ref a) (.dit gs)
  | exc {a C : Addr} {x : Str} : PySem.W.nsIn K mainGlobals x = some (some (.ref C)) → ExcK K C → R a = some (excO a (.ref C)) → Rp K R (.ref a) (.exc x)
  | fn {l : Addr} {x : Str} : PySem.W.nsIn K mainGlobals x = some (some (.ref l)) → Rp K R (.ref l) (.fn x)
inductive Rps (K : PySem.W.Frag) (R : Hp) : List V → List D → Prop
  | nil : Rps K R [] []
  | cons {x : V} {xs : List V} {d : D} {ds : List D} : Rp K R x d → Rps K R xs ds → Rps K R (x :: xs) (d :: ds)
inductive Rfs (K : PySem.W.Frag) (R : Hp) : List (Str × V) → List (Str × D) → Prop
  | nil : Rfs K R [] []
  | cons {f : Str} {x : V} {xs : List (Str × V)} {d : D} {ds : List (Str × D)} : Rp K R x d → Rfs K R xs ds → Rfs K R ((f, x) :: xs) ((f, d) :: ds)
inductive Rkk (K : PySem.W.Frag) (R : Hp) : List (Key × V) → List (Key × D) → Prop
  | nil : Rkk K R [] []
  | cons {f : Key} {x : V} {xs : List (Key × V)} {d : D} {ds : List (Key × D)} : Rp K R x d → Rkk K R xs ds → Rkk K R ((f, x) :: xs) ((f, d) :: ds)
inductive Rkt (K : PySem.W.Frag) (R : Hp) : List (List Key × V) → List (List Key × D) → Prop
  | nil : Rkt K R [] []
  | cons {f : List Key} {x : V} {xs : List (List Key × V)} {d : D} {ds : List (List Key × D)} : Rp K R x d → Rkt K R xs ds → Rkt K R ((f, x) :: xs) ((f, d) :: ds)
end
noncomputable abbrev Rho := List (Option D)
theorem Same.sqL {K : PySem.W.Frag} {H H' : Hp} {a : Addr} {xs : List V} (e : Same H H') (h : SqL K H a xs) : SqL K H' a xs := by
  rcases h with (h | ⟨o, h⟩) | h
  · exact .inl (.inl (e _ _ h))
  · exact .inl (.inr ⟨o, e _ _ h⟩)
  · exact .inr h
section
variable {K : PySem.W.Frag} {R R' : Hp}
mutual
theorem Rp.mono (s : Same R R') : ∀ {v : V} {d : D}, Rp K R v d → Rp K R' v d
  | _, _, .non => .non
  | _, _, .bl b => .bl b
  | _, _, .int i => .int i
  | _, _, .str x => .str x
  | _, _, .lst h r => .lst (s.sqL h) (Rps.mono s r)
  | _, _, .tup h r => .tup (s _ _ h) (Rps.mono s r)
  | _, _, .obj n h r => .obj n (s _ _ h) (Rfs.mono s r)
  | _, _, .dct h r => .dct (s _ _ h) (Rkk.mono s r)
  | _, _, .dit h r => .dit (s _ _ h) (Rkt.mono s r)
  | _, _, .exc n k h => .exc n k (s _ _ h)
  | _, _, .fn n => .fn n
theorem Rps.mono (s : Same R R') : ∀ {xs : List V} {ds : List D}, Rps K R xs ds → Rps K R' xs ds
  | _, _, .nil => .nil
  | _, _, .cons h r => .cons (Rp.mono s h) (Rps.mono s r)
theorem Rfs.mono (s : Same R R') : ∀ {xs : List (Str × V)} {ds : List (Str × D)}, Rfs K R xs ds → Rfs K R' xs ds
  | _, _, .nil => .nil
  | _, _, .cons h r => .cons (Rp.mono s h) (Rfs.mono s r)
theorem Rkk.mono (s : Same R R') : ∀ {xs : List (Key × V)} {ds : List (Key × D)}, Rkk K R xs ds → Rkk K R' xs ds
  | _, _, .nil => .nil
  | _, _, .cons h r => .cons (Rp.mono s h) (Rkk.mono s r)
theorem Rkt.mono (s : Same R R') : ∀ {xs : List (List Key × V)} {ds : List (List Key × D)}, Rkt K R xs ds → Rkt K R' xs ds
  | _, _, .nil => .nil
  | _, _, .cons h r => .cons (Rp.mono s h) (Rkt.mono s r)
end
theorem Rps.length : ∀ {xs : List V} {ds : List D}, Rps K R xs ds → xs.length = ds.length
  | _, _, .nil => rfl
  | _, _, .cons _ r => by rw [List.length_cons, List.length_cons, Rps.length r]
theorem Rps.get : ∀ {xs : List V} {ds : List D} {i : Nat} {d : D}, Rps K R xs ds → ds[i]? = some d → ∃ v, xs[i]? = some v ∧ Rp K R v d
  | _, _, _, _, .nil, e => by simp at e
  | _, _, 0, _, .cons h _, e => by simp at e; subst e; exact ⟨_, rfl, h⟩
  | _, _, i + 1, d, .cons _ r, e => by
    obtain ⟨v, h1, h2⟩ := Rps.get (i := i) (d := d) r (by simpa using e)
    exact ⟨v, by simpa using h1, h2⟩
theorem Rps.append : ∀ {xs ys : List V} {ds es : List D}, Rps K R xs ds → Rps K R ys es → Rps K R (xs ++ ys) (ds ++ es)
  | _, _, _, _, .nil, s => s
  | _, _, _, _, .cons r t, s => .cons r (Rps.append t s)
theorem Rps.take : ∀ {xs : List V} {ds : List D} (n : Nat), Rps K R xs ds → Rps K R (xs.take n) (ds.take n)
  | _, _, 0, _ => .nil
  | _, _, _ + 1, .nil => .nil
  | _, _, n + 1, .cons r t => .cons r (Rps.take n t)
theorem Rps.drop : ∀ {xs : List V} {ds : List D} (n : Nat), Rps K R xs ds → Rps K R (xs.drop n) (ds.drop n)
  | _, _, 0, r => r
  | _, _, _ + 1, .nil => .nil
  | _, _, n + 1, .cons _ t => Rps.drop n t
theorem Rps.set {x : V} {d : D} (r : Rp K R x d) : ∀ {xs : List V} {ds : List D} (i : Nat), Rps K R xs ds → Rps K R (xs.set i x) (ds.set i d)
  | _, _, _, .nil => .nil
  | _, _, 0, .cons _ t => .cons r t
  | _, _, i + 1, .cons q t => .cons q (Rps.set r i t)
theorem Rps.one {x : V} {d : D} (r : Rp K R x d) : Rps K R [x] [d] := .cons r .nil
theorem Rps.ints : ∀ ns : List Int, Rps K R (ns.map V.int) (ns.map D.int)
  | [] => .nil
  | n :: ns => .cons (.int n) (Rps.ints ns)
theorem Rps.snoc {xs : List V} {ds : List D} {x : V} {d : D} (h : Rps K R xs ds) (r : Rp K R x d) : Rps K R (xs ++ [x]) (ds ++ [d]) := h.append (.one r)
end
inductive Sc : V → D → Prop
  | non : Sc .non .non
  | bl (b : Bool) : Sc (.bl b) (.bl b)
  | int (i : Int) : Sc (.int i) (.int i)
  | str (x : Str) : Sc (.str x) (.str x)
theorem Sc.rp {K : PySem.W.Frag} {R : Hp} {v : V} {d : D} (h : Sc v d) : Rp K R v d := by
  cases h with
  | non => exact .non
  | bl b => exact .bl b
  | int i => exact .int i
  | str x => exact .str x
noncomputable def Frh (H : Hp) (a : Addr) : Prop := H a = none ∨ ∃ xs, H a = some (.tup xs)
noncomputable def Liv (H H' : Hp) (a : Addr) : Prop := H' a ≠ none ∧ ∀ xs, H' a = some (.tup xs) → H a = some (.tup xs)
theorem Liv.refl {H : Hp} {a : Addr} (h : H a ≠ none) : Liv H H a := ⟨h, fun _ e => e⟩
theorem Liv.trans {H H1 H2 : Hp} {a : Addr} (x : Liv H H1 a) (y : Liv H1 H2 a) : Liv H H2 a := ⟨y.1, fun xs e => x.2 xs (y.2 xs e)⟩
theorem Frh.back {H H1 : Hp} {a : Addr} (h : H a ≠ none → Liv H H1 a) (z : Frh H1 a) : Frh H a := by
  cases q : H a with
  | none => exact .inl q
  | some o =>
    have v := h (by rw [q]; exact fun z => nomatch z)
    rcases z with z | ⟨xs, z⟩
    · exact absurd z v.1
    · exact .inr ⟨xs, v.2 xs z⟩
structure Ext (H R H' R' : Hp) : Prop where
  h : Same H H'
  r : Same R R'
  s : ∀ a o, R' a = some o → H' a = some o
  n : ∀ a, R' a ≠ none → R a ≠ none ∨ Frh H a
theorem Ext.refl {H R : Hp} (s : ∀ a o, R a = some o → H a = some o) : Ext H R H R := ⟨Same.refl _, Same.refl _, s, fun _ h => .inl h⟩
theorem Same.some {H H' : Hp} (s : Same H H') {a : Addr} (h : H a ≠ none) : H' a ≠ none := by
  cases q : H a with
  | none => exact absurd q h
  | some o => rw [s a o q]; exact fun z => nomatch z
theorem Same.liv {H H' : Hp} (s : Same H H') {a : Addr} (h : H a ≠ none) : Liv H H' a := ⟨s.some h, fun xs e => by
  cases q : H a with
  | none => exact absurd q h
  | some o => rw [s a o q] at e; exact e⟩
theorem Ext.trans {H R H1 R1 H2 R2 : Hp} (x : Ext H R H1 R1) (y : Ext H1 R1 H2 R2) : Ext H R H2 R2 := by
  refine ⟨x.h.trans y.h, x.r.trans y.r, y.s, fun a h => ?_⟩
  rcases y.n a h with z | z
  · exact x.n a z
  · exact .inr (z.back x.h.liv)
theorem Ext.new {H R : Hp} {a : Addr} {o : HO} (s : ∀ a o, R a = some o → H a = some o) (h : H a = none) : Ext H R (upd H a o) (upd R a o) := by
  have hr : R a = none := by
    cases q : R a with
    | none => rfl
    | some u => rw [s a u q] at h; cases h
  refine ⟨Same.new h, Same.new hr, fun b u e => ?_, fun b e => ?_⟩
  · by_cases hb : b = a
    · subst hb; rw [upd_same] at e ⊢; exact e
    · rw [upd_ne hb] at e ⊢; exact s b u e
  · by_cases hb : b = a
    · subst hb; exact .inr (.inl h)
    · rw [upd_ne hb] at e; exact .inl e
theorem Ext.hid {H R : Hp} {a : Addr} {o : HO} (s : ∀ a o, R a = some o → H a = some o) (h : H a = none) : Ext H R (upd H a o) R :=
  ⟨Same.new h, Same.refl _, fun b u e => Same.new h _ _ (s b u e), fun _ e => .inl e⟩
theorem Ext.know {H R H' R' : Hp} {l : Addr} {o : HO} (x : Ext H R H' R') (h : H l = none) (h' : H' l = some o) (hr : R' l = none) : Ext H R H' (upd R' l o) := by
  refine ⟨x.h, x.r.trans (Same.new hr), fun b u e => ?_, fun b e => ?_⟩
  · by_cases hb : b = l
    · subst hb; rw [upd_same] at e; rw [h', e]
    · rw [upd_ne hb] at e; exact x.s b u e
  · by_cases hb : b = l
    · subst hb; exact .inr (.inl h)
    · rw [upd_ne hb] at e; exact x.n b e
structure Anc where
  H0 : Hp
  R0 : Hp
  L : Addr → Prop
  P : List Nat
inductive Ob (K : PySem.W.Frag) (R : Hp) : HO → D → Prop
  | lst {vs : List V} {ds : List D} : Rps K R vs ds → Ob K R (.lst vs) (.lst ds)
  | dct {kvs : List (Key × V)} {gs : List (Key × D)} : Rkk K R kvs gs → Ob K R (.dK kvs) (.dct gs)
  | dit {kvs : List (List Key × V)} {gs : List (List Key × D)} : Rkt K R kvs gs → Ob K R (.dT kvs) (.dit gs)
theorem Ob.mono {K : PySem.W.Frag} {R R' : Hp} {o : HO} {d : D} (s : Same R R') (h : Ob K R o d) : Ob K R' o d := by
  cases h with
  | lst r => exact .lst (r.mono s)
  | dct r => exact .dct (r.mono s)
  | dit r => exact .dit (r.mono s)
theorem Ob.noF {K : PySem.W.Frag} {H R : Hp} {o : HO} {d : D} {l : Addr} (h : Ob K R o d) (e : H l = some o) (z : Frh H l) : False := by
  rcases z with z | ⟨xs, z⟩
  · rw [e] at z; cases z
  · rw [e] at z; cases z; cases h
theorem Ob.rp {K : PySem.W.Frag} {R : Hp} {o : HO} {d : D} {l : Addr} (h : Ob K R o d) (e : R l = some o) : Rp K R (.ref l) d := by
  cases h with
  | lst r => exact .lst (SqL.of e) r
  | dct r => exact .dct e r
  | dit r => exact .dit e r
structure StR (K : PySem.W.Frag) (Z : Anc) (O : List Nat) (σ : St) (H R : Hp) (ρ : Rho) : Prop where
  sub : ∀ a o, R a = some o → H a = some o
  len : σ.length = ρ.length
  env : ∀ i d, i ∉ O → ρ[i]? = some (some d) → ∃ v, σ[i]? = some (some v) ∧ Rp K R v d
  own : ∀ i, i ∈ O → ∃ l vs ds, ρ[i]? = some (some ds) ∧ σ[i]? = some (some (.ref l)) ∧ H l = some vs ∧ R l = none ∧ Ob K R vs ds
  dis : ∀ i j, i ∈ O → j ∈ O → i ≠ j → ∀ l, σ[i]? = some (some (.ref l)) → σ[j]? ≠ some (some (.ref l))
  ah : ∀ a o, Z.H0 a = some o → ¬ Z.L a → H a = some o
  ar : Same Z.R0 R
  an : ∀ a, R a ≠ none → Z.R0 a ≠ none ∨ Frh Z.H0 a
  ad : ∀ a, Z.H0 a ≠ none → Liv Z.H0 H a
  ao : ∀ i, i ∈ O → i ∉ Z.P → ∀ l, σ[i]? = some (some (.ref l)) → Z.H0 l = none
  ap : ∀ i, i ∈ O → i ∈ Z.P → ∀ l, σ[i]? = some (some (.ref l)) → Z.L l
structure Stp (O : List Nat) (σ : St) (H R H' R' : Hp) : Prop where
  r : Same R R'
  h : ∀ a o, H a = some o → (∀ i, i ∈ O → σ[i]? ≠ some (some (.ref a))) → H' a = some o
  n : ∀ a, R' a ≠ none → R a ≠ none ∨ Frh H a
  d : ∀ a, H a ≠ none → Liv H H' a
theorem Stp.refl (O : List Nat) (σ : St) (H R : Hp) : Stp O σ H R H R := ⟨Same.refl _, fun _ _ e _ => e, fun _ h => .inl h, fun _ h => .refl h⟩
theorem Stp.trans {O : List Nat} {σ : St} {H R H1 R1 H2 R2 : Hp} (x : Stp O σ H R H1 R1) (y : Stp O σ H1 R1 H2 R2) : Stp O σ H R H2 R2 := by
  refine ⟨x.r.trans y.r, fun a o e n => y.h a o (x.h a o e n) n, fun a h => ?_, fun a h => (x.d a h).trans (y.d a (x.d a h).1)⟩
  rcases y.n a h with z | z
  · exact x.n a z
  · exact .inr (z.back (x.d a))
theorem Ext.stp {O : List Nat} {σ : St} {H R H' R' : Hp} (x : Ext H R H' R') : Stp O σ H R H' R' := ⟨x.r, fun a o e _ => x.h a o e, x.n, fun _ h => x.h.liv h⟩
section
variable {K : PySem.W.Frag} {Z : Anc} {O O' : List Nat} {σ σ' : St} {H R H' R' : Hp} {ρ ρ' : Rho}
theorem StR.ext (S : StR K Z O σ H R ρ) (x : Ext H R H' R') : StR K Z O σ H' R' ρ := by
  refine ⟨x.s, S.len, fun i d hi e => ?_, fun i hi => ?_, S.dis, fun a o e n => x.h a o (S.ah a o e n), S.ar.trans x.r, fun a h => ?_, fun a h => (S.ad a h).trans (x.h.liv (S.ad a h).1), S.ao, S.ap⟩
  · obtain ⟨v, h1, h2⟩ := S.env i d hi e
    exact ⟨v, h1, h2.mono x.r⟩
  · obtain ⟨l, vs, ds, h1, h2, h3, h4, h5⟩ := S.own i hi
    refine ⟨l, vs, ds, h1, h2, x.h _ _ h3, ?_, h5.mono x.r⟩
    cases q : R' l with
    | none => rfl
    | some o =>
      rcases x.n l (by rw [q]; exact fun z => nomatch z) with z | z
      · exact absurd h4 z
      · exact (h5.noF h3 z).elim
  · rcases x.n a h with z | z
    · exact S.an a z
    · exact .inr (z.back (S.ad a))
noncomputable def frzR (O O' : List Nat) (σ : St) (H R : Hp) : Hp := fun a => open Classical in if ∃ i, i ∈ O ∧ i ∉ O' ∧ σ[i]? = some (some (.ref a)) then H a else R a
theorem StR.freeze (S : StR K Z O σ H R ρ) (hs : ∀ i, i ∈ O' → i ∈ O) (hp : ∀ i, i ∈ Z.P → i ∈ O → i ∈ O') : StR K Z O' σ H (frzR O O' σ H R) ρ ∧ Same R (frzR O O' σ H R) := by
  have same : Same R (frzR O O' σ H R) := fun a o e => by
    unfold frzR
    split
    · exact S.sub a o e
    · exact e
  refine ⟨⟨fun a o e => ?_, S.len, fun i d hi e => ?_, fun i hi => ?_, fun i j hi hj => S.dis i j (hs i hi) (hs j hj), S.ah, S.ar.trans same, fun a h => ?_, S.ad, fun i hi => S.ao i (hs i hi), fun i hi => S.ap i (hs i hi)⟩, same⟩
  · unfold frzR at e
    split at e
    · exact e
    · exact S.sub a o e
  · by_cases hO : i ∈ O
    · obtain ⟨l, vs, ds, h1, h2, h3, h4, h5⟩ := S.own i hO
      rw [e] at h1
      have ed : d = ds := Option.some.inj (Option.some.inj h1)
      subst ed
      refine ⟨.ref l, h2, (h5.mono same).rp ?_⟩
      unfold frzR
      rw [if_pos ⟨i, hO, hi, h2⟩]
      exact h3
    · obtain ⟨v, h1, h2⟩ := S.env i d hO e
      exact ⟨v, h1, h2.mono same⟩
  · obtain ⟨l, vs, ds, h1, h2, h3, h4, h5⟩ := S.own i (hs i hi)
    refine ⟨l, vs, ds, h1, h2, h3, ?_, h5.mono same⟩
    unfold frzR
    rw [if_neg ?_]
    · exact h4
    · rintro ⟨j, hj, hj', e⟩
      exact S.dis j i hj (hs i hi) (fun z => hj' (z ▸ hi)) l e h2
  · unfold frzR at h
    split at h
    · rename_i z
      obtain ⟨j, hj, hj', e⟩ := z
      exact .inr (.inl (S.ao j hj (fun z => hj' (hp j z hj)) a e))
    · exact S.an a h
theorem StR.set (S : StR K Z O σ H R ρ) {i : Nat} {v : V} {d : D} (hi : i ∉ O) (r : Rp K R v d) : StR K Z O (σ.set i (some v)) H R (ρ.set i (some d)) := by
  have ne : ∀ j, j ∈ O → i ≠ j := fun j hj z => hi (z ▸ hj)
  refine ⟨S.sub, by rw [List.length_set, List.length_set]; exact S.len, fun j e hj q => ?_, fun j hj => ?_, fun j k hj hk n l e => ?_, S.ah, S.ar, S.an, S.ad, fun j hj hp l e => ?_, fun j hj hp l e => ?_⟩
  · by_cases hij : i = j
    · subst hij
      have hl : i < ρ.length := by
        have := (List.getElem?_eq_some_iff.mp q).1
        rwa [List.length_set] at this
      rw [List.getElem?_set_self hl] at q
      have e' : d = e := Option.some.inj (Option.some.inj q)
      subst e'
      exact ⟨v, by rw [List.getElem?_set_self (by rw [S.len]; exact hl)], r⟩
    · rw [List.getElem?_set_ne hij] at q
      obtain ⟨w, h1, h2⟩ := S.env j e hj q
      exact ⟨w, by rw [List.getElem?_set_ne hij]; exact h1, h2⟩
  · obtain ⟨l, vs, ds, h1, h2, h3, h4, h5⟩ := S.own j hj
    exact ⟨l, vs, ds, by rw [List.getElem?_set_ne (ne j hj)]; exact h1, by rw [List.getElem?_set_ne (ne j hj)]; exact h2, h3, h4, h5⟩
  · rw [List.getElem?_set_ne (ne j hj)] at e
    rw [List.getElem?_set_ne (ne k hk)]
    exact S.dis j k hj hk n l e
  · rw [List.getElem?_set_ne (ne j hj)] at e
    exact S.ao j hj hp l e
  · rw [List.getElem?_set_ne (ne j hj)] at e
    exact S.ap j hj hp l e
theorem StR.write (S : StR K Z O σ H R ρ) {i : Nat} {l : Addr} {vs : HO} {ds : D} (hi : i ∈ O) (hl : σ[i]? = some (some (.ref l))) (r : Ob K R vs ds) : StR K Z O σ (upd H l vs) R (ρ.set i (some ds)) := by
  obtain ⟨l0, vs0, ds0, h1, h2, h3, h4, h5⟩ := S.own i hi
  rw [hl] at h2
  cases h2
  have other : ∀ j, j ∈ O → i ≠ j → ∀ k, σ[j]? = some (some (.ref k)) → k ≠ l := fun j hj n k e z => by
    subst z
    exact S.dis i j hi hj n k hl e
  refine ⟨fun a o e => ?_, by rw [List.length_set]; exact S.len, fun j d hj q => ?_, fun j hj => ?_, S.dis, fun a o e n => ?_, S.ar, S.an, fun a h => ?_, S.ao, S.ap⟩
  · have ne : a ≠ l := fun z => by subst z; rw [h4] at e; cases e
    rw [upd_ne ne]; exact S.sub a o e
  · have n : i ≠ j := fun z => hj (z ▸ hi)
    rw [List.getElem?_set_ne n] at q
    exact S.env j d hj q
  · by_cases n : i = j
    · subst n
      have hlen : i < ρ.length := (List.getElem?_eq_some_iff.mp h1).1
      exact ⟨l, vs, ds, by rw [List.getElem?_set_self hlen], hl, upd_same, h4, r⟩
    · obtain ⟨k, vs', ds', g1, g2, g3, g4, g5⟩ := S.own j hj
      exact ⟨k, vs', ds', by rw [List.getElem?_set_ne n]; exact g1, g2, by rw [upd_ne (other j hj n k g2)]; exact g3, g4, g5⟩
  · have ne : a ≠ l := fun z => by
      subst z
      by_cases hp : i ∈ Z.P
      · exact n (S.ap i hi hp a hl)
      · rw [S.ao i hi hp a hl] at e; cases e
    rw [upd_ne ne]; exact S.ah a o e n
  · by_cases ha : a = l
    · subst ha; exact ⟨by rw [upd_same]; exact (fun z => (nomatch z)), fun xs e => by rw [upd_same] at e; cases e; cases r⟩
    · exact ⟨by rw [upd_ne ha]; exact (S.ad a h).1, fun xs e => by rw [upd_ne ha] at e; exact (S.ad a h).2 xs e⟩
theorem StR.take (S : StR K Z O σ H R ρ) {i : Nat} {l : Addr} {vs : HO} {ds : D} (hi : i ∉ O) (hin : i ∈ O') (hO : ∀ j, j ∈ O' → j = i ∨ j ∈ O) (hp : i ∉ Z.P) (hlen : i < ρ.length) (h0 : Z.H0 l = none) (hH : H l = some vs) (hR : R l = none) (hn : ∀ j, j ∈ O → σ[j]? ≠ some (some (.ref l))) (hs : ∀ j, j ∈ O → j ∈ O') (r : Ob K R vs ds) :
    StR K Z O' (σ.set i (some (.ref l))) H R (ρ.set i (some ds)) := by
  have ne : ∀ j, j ∈ O → i ≠ j := fun j hj z => hi (z ▸ hj)
  have hl : i < σ.length := by rw [S.len]; exact hlen
  refine ⟨S.sub, by rw [List.length_set, List.length_set]; exact S.len, fun j e hj q => ?_, fun j hj => ?_, fun j k hj hk n m e => ?_, S.ah, S.ar, S.an, S.ad, fun j hj hp l e => ?_, fun j hj hp' l e => ?_⟩
  · by_cases hij : i = j
    · subst hij
      rw [List.getElem?_set_self hlen] at q
      have e' : ds = e := Option.some.inj (Option.some.inj q)
      subst e'
      exact absurd hin hj
    · rw [List.getElem?_set_ne hij] at q
      obtain ⟨w, h1, h2⟩ := S.env j e (fun z => hj (hs j z)) q
      exact ⟨w, by rw [List.getElem?_set_ne hij]; exact h1, h2⟩
  · rcases hO j hj with rfl | hj'
    · exact ⟨l, vs, ds, by rw [List.getElem?_set_self hlen], by rw [List.getElem?_set_self hl], hH, hR, r⟩
    · obtain ⟨k, vs', ds', g1, g2, g3, g4, g5⟩ := S.own j hj'
      exact ⟨k, vs', ds', by rw [List.getElem?_set_ne (ne j hj')]; exact g1, by rw [List.getElem?_set_ne (ne j hj')]; exact g2, g3, g4, g5⟩
  · rcases hO j hj with rfl | hj'
    · rw [List.getElem?_set_self hl] at e
      cases e
      rcases hO k hk with rfl | hk'
      · exact absurd rfl n
      · rw [List.getElem?_set_ne (ne k hk')]
        exact hn k hk'
    · rw [List.getElem?_set_ne (ne j hj')] at e
      rcases hO k hk with rfl | hk'
      · rw [List.getElem?_set_self hl]
        intro z
        cases z
        exact hn j hj' e
      · rw [List.getElem?_set_ne (ne k hk')]
        exact S.dis j k hj' hk' n m e
  · rcases hO j hj with rfl | hj'
    · rw [List.getElem?_set_self hl] at e
      cases e
      exact h0
    · rw [List.getElem?_set_ne (ne j hj')] at e
      exact S.ao j hj' hp l e
  · rcases hO j hj with rfl | hj'
    · exact absurd hp' hp
    · rw [List.getElem?_set_ne (ne j hj')] at e
      exact S.ap j hj' hp' l e
end
end L2
set_option Elab.async false
set_option linter.all false
set_option maxRecDepth 100000
set_option maxHeartbeats 4000000
namespace L2
open PySem PySem.Spec PyProof.Rows
noncomputable def mBind {α β : Type} (a : Rho → Option (α × Rho)) (k : α → Rho → Option (β × Rho)) : Rho → Option (β × Rho) := fun ρ => match a ρ with
  | none => none
  | some (x, ρ1) => k x ρ1
noncomputable def mRet {α : Type} (x : α) : Rho → Option (α × Rho) := fun ρ => some (x, ρ)
noncomputable def mLift {α : Type} (o : Option α) : Rho → Option (α × Rho) := fun ρ => match o with
  | none => none
  | some x => some (x, ρ)
theorem mBind_some {α β : Type} {a : Rho → Option (α × Rho)} {k : α → Rho → Option (β × Rho)} {ρ : Rho} {r : β × Rho} (h : mBind a k ρ = some r) : ∃ x ρ1, a ρ = some (x, ρ1) ∧ k x ρ1 = some r := by
  unfold mBind at h
  cases e : a ρ with
  | none => rw [e] at h; cases h
  | some p => rw [e] at h; exact ⟨p.1, p.2, rfl, h⟩
theorem mLift_some {α : Type} {o : Option α} {ρ : Rho} {x : α} {ρ' : Rho} (h : mLift o ρ = some (x, ρ')) : o = some x ∧ ρ' = ρ := by
  unfold mLift at h
  cases o with
  | none => cases h
  | some y => cases h; exact ⟨rfl, rfl⟩
noncomputable def mVar (i : Nat) : Rho → Option (D × Rho) := fun ρ => match ρ[i]? with
  | some (some d) => some (d, ρ)
  | _ => none
theorem mVar_some {i : Nat} {ρ ρ' : Rho} {d : D} (h : mVar i ρ = some (d, ρ')) : ρ[i]? = some (some d) ∧ ρ' = ρ := by
  unfold mVar at h
  cases e : ρ[i]? with
  | none => rw [e] at h; cases h
  | some o =>
    rw [e] at h
    cases o with
    | none => cases h
    | some y => cases h; exact ⟨rfl, rfl⟩
section
variable (K : PySem.W.Frag) (O : List Nat)
noncomputable def ME (t : TE) (f : Rho → Option (D × Rho)) : Prop := ∀ (Z : Anc) (σ : St) (H R : Hp) (ρ : Rho) (d : D) (ρ' : Rho) (Q : VK), StR K Z O σ H R ρ → f ρ = some (d, ρ') → (∀ v H' R', StR K Z O σ H' R' ρ' → Stp O σ H R H' R' → Rp K R' v d → Q v H') → t σ H Q
noncomputable def MB (t : TE) (f : Rho → Option (D × Rho)) : Prop := ∀ (Z : Anc) (σ : St) (H R : Hp) (ρ : Rho) (d : D) (ρ' : Rho) (Q : VK), StR K Z O σ H R ρ → f ρ = some (d, ρ') → (∀ v H' R', StR K Z O σ H' R' ρ' → Stp O σ H R H' R' → Rp K H' v d → Q v H') → t σ H Q
noncomputable def MT (t : TT) (f : Rho → Option (Bool × Rho)) : Prop := ∀ (Z : Anc) (σ : St) (H R : Hp) (ρ : Rho) (b : Bool) (ρ' : Rho) (Q : Bool → Hp → Prop), StR K Z O σ H R ρ → f ρ = some (b, ρ') → (∀ H' R', StR K Z O σ H' R' ρ' → Stp O σ H R H' R' → Q b H') → t σ H Q
noncomputable def MA (t : TA) (f : Rho → Option (List D × Rho)) : Prop := ∀ (Z : Anc) (σ : St) (H R : Hp) (ρ : Rho) (ds : List D) (ρ' : Rho) (Q : List V → Hp → Prop), StR K Z O σ H R ρ → f ρ = some (ds, ρ') → (∀ vs H' R', StR K Z O σ H' R' ρ' → Stp O σ H R H' R' → Rps K R' vs ds → Q vs H') → t σ H Q
noncomputable def MN (t : TE) (f : Rho → Option (List D × Rho)) : Prop := ∀ (Z : Anc) (σ : St) (H R : Hp) (ρ : Rho) (ds : List D) (ρ' : Rho) (Q : VK), StR K Z O σ H R ρ → f ρ = some (ds, ρ') → (∀ l vs H' R', StR K Z O σ H' R' ρ' → Stp O σ H R H' R' → H l = none → H' l = some (.lst vs) → R' l = none → Rps K R' vs ds → Q (.ref l) H') → t σ H Q
end
section
variable {K : PySem.W.Frag} {Z : Anc} {O : List Nat} {t ta tb tc : TE} {tA tB' : TT} {tr : TA}
theorem StR.same {σ : St} {H R : Hp} {ρ : Rho} (S : StR K Z O σ H R ρ) : Same R H := S.sub
theorem ME.mb {f : Rho → Option (D × Rho)} (h : ME K O t f) : MB K O t f := fun Z σ H R ρ d ρ' Q S e k => h Z σ H R ρ d ρ' Q S e fun v H' R' S' st r => k v H' R' S' st (r.mono S'.same)
theorem StR.notnew {σ : St} {H R : Hp} {ρ : Rho} (S : StR K Z O σ H R ρ) {l : Addr} (h : H l = none) : ∀ j, j ∈ O → σ[j]? ≠ some (some (.ref l)) := fun j hj e => by
  obtain ⟨k, vs, ds, _, h2, h3, _⟩ := S.own j hj
  rw [e] at h2
  cases h2
  rw [h] at h3
  cases h3
theorem StR.know {σ : St} {H R : Hp} {ρ : Rho} {l : Addr} {vs : HO} (S : StR K Z O σ H R ρ) (h0 : Z.H0 l = none) (hH : H l = some vs) (hR : R l = none) (hn : ∀ j, j ∈ O → σ[j]? ≠ some (some (.ref l))) : StR K Z O σ H (upd R l vs) ρ := by
  have same : Same R (upd R l vs) := Same.new hR
  refine ⟨fun a o e => ?_, S.len, fun i d hi e => ?_, fun i hi => ?_, S.dis, S.ah, S.ar.trans same, fun a h => ?_, S.ad, S.ao, S.ap⟩
  · by_cases ha : a = l
    · subst ha; rw [upd_same] at e; rw [hH, e]
    · rw [upd_ne ha] at e; exact S.sub a o e
  · obtain ⟨v, h1, h2⟩ := S.env i d hi e
    exact ⟨v, h1, h2.mono same⟩
  · obtain ⟨k, ws, ds, h1, h2, h3, h4, h5⟩ := S.own i hi
    refine ⟨k, ws, ds, h1, h2, h3, ?_, h5.mono same⟩
    rw [upd_ne (fun z => hn i hi (by rw [← z]; exact h2))]
    exact h4
  · by_cases ha : a = l
    · subst ha; exact .inr (.inl h0)
    · rw [upd_ne ha] at h; exact S.an a h
theorem StR.new0 {σ : St} {H R : Hp} {ρ : Rho} {l : Addr} (S : StR K Z O σ H R ρ) (h : H l = none) : Z.H0 l = none := by
  cases q : Z.H0 l with
  | none => rfl
  | some o => exact absurd h (S.ad l (by rw [q]; exact fun z => nomatch z)).1
theorem Stp.know {σ : St} {H R H' R' : Hp} {l : Addr} {o : HO} (x : Stp O σ H R H' R') (h : H l = none) (hr : R' l = none) : Stp O σ H R H' (upd R' l o) := by
  refine ⟨x.r.trans (Same.new hr), x.h, fun b e => ?_, x.d⟩
  by_cases hb : b = l
  · subst hb; exact .inr (.inl h)
  · rw [upd_ne hb] at e; exact x.n b e
theorem MN.me {f : Rho → Option (List D × Rho)} (h : MN K O t f) : ME K O t (mBind f fun ds => mRet (.lst ds)) := fun Z σ H R ρ d ρ' Q S e k => by
  obtain ⟨ds, ρ1, e1, e2⟩ := mBind_some e
  cases e2
  refine h Z σ H R ρ ds _ Q S e1 fun l vs H' R' S' st h0 hH hR r => ?_
  refine k _ H' (upd R' l (.lst vs)) (S'.know (S.new0 h0) hH hR ?_) (st.know h0 hR) (.lst (SqL.of upd_same) (r.mono (Same.new hR)))
  exact S.notnew h0
theorem me_var {i : Nat} (hi : i ∉ O) : ME K O (tVar i) (mVar i) := fun Z σ H R ρ d ρ' Q S e k => by
  obtain ⟨e1, rfl⟩ := mVar_some e
  obtain ⟨v, h1, h2⟩ := S.env i d hi e1
  exact ⟨v, h1, k v H R S (Stp.refl _ _ _ _) h2⟩
theorem mb_var {i : Nat} : MB K O (tVar i) (mVar i) := fun Z σ H R ρ d ρ' Q S e k => by
  obtain ⟨e1, rfl⟩ := mVar_some e
  by_cases hi : i ∈ O
  · obtain ⟨l, vs, ds, h1, h2, h3, h4, h5⟩ := S.own i hi
    rw [e1] at h1
    cases h1
    exact ⟨.ref l, h2, k _ H R S (Stp.refl _ _ _ _) ((h5.mono S.same).rp h3)⟩
  · obtain ⟨v, h1, h2⟩ := S.env i d hi e1
    exact ⟨v, h1, k v H R S (Stp.refl _ _ _ _) (h2.mono S.same)⟩
theorem me_c {v : V} {d : D} (h : Sc v d) : ME K O (tC v) (mRet d) := fun Z σ H R ρ e ρ' Q S q k => by
  cases q
  exact k v H R S (Stp.refl _ _ _ _) h.rp
theorem me_int {i : Int} : ME K O (tC (.int i)) (mRet (.int i)) := me_c (.int i)
theorem me_str {x : Str} : ME K O (tC (.str x)) (mRet (.str x)) := me_c (.str x)
theorem me_bl {b : Bool} : ME K O (tC (.bl b)) (mRet (.bl b)) := me_c (.bl b)
theorem me_non : ME K O (tC .non) (mRet .non) := me_c .non
noncomputable def mOp2 (g : D → D → Option D) (fa fb : Rho → Option (D × Rho)) : Rho → Option (D × Rho) := mBind fa fun x => mBind fb fun y => mLift (g x y)
noncomputable def OpS (K : PySem.W.Frag) (r : R2) (g : D → D → Option D) : Prop := ∀ (H : Hp) (x y : V) (d e u : D) (Q : VK), Rp K H x d → Rp K H y e → g d e = some u → (∀ v, Sc v u → Q v H) → r x y H Q
noncomputable def OpG (K : PySem.W.Frag) (r : R2) (g : D → D → Option D) : Prop := ∀ (H R : Hp) (x y : V) (d e u : D) (Q : VK), (∀ a o, R a = some o → H a = some o) → Rp K R x d → Rp K R y e → g d e = some u → (∀ v H' R', Ext H R H' R' → Rp K R' v u → Q v H') → r x y H Q
theorem OpS.g {r : R2} {g : D → D → Option D} (h : OpS K r g) : OpG K r g := fun H R x y d e u Q s rx ry q k =>
  h H x y d e u Q (rx.mono s) (ry.mono s) q fun v z => k v H R (Ext.refl s) z.rp
theorem me_op {r : R2} {g : D → D → Option D} {fa fb : Rho → Option (D × Rho)} (h : OpG K r g) (ha : ME K O ta fa) (hb : ME K O tb fb) : ME K O (tOp r ta tb) (mOp2 g fa fb) := fun Z σ H R ρ d ρ' Q S e k => by
  obtain ⟨x, ρ1, e1, e⟩ := mBind_some e
  obtain ⟨y, ρ2, e2, e⟩ := mBind_some e
  obtain ⟨e3, rfl⟩ := mLift_some e
  refine ha Z σ H R ρ x ρ1 _ S e1 fun v H1 R1 S1 st1 r1 => hb Z σ H1 R1 ρ1 y _ _ S1 e2 fun w H2 R2 S2 st2 r2 => ?_
  exact h H2 R2 v w x y d Q S2.sub (r1.mono st2.r) r2 e3 fun z H3 R3 x3 r3 => k z H3 R3 (S2.ext x3) ((st1.trans st2).trans x3.stp) r3
theorem me_opB {r : R2} {g : D → D → Option D} {fa fb : Rho → Option (D × Rho)} (h : OpS K r g) (ha : ME K O ta fa) (hb : MB K O tb fb) : ME K O (tOp r ta tb) (mOp2 g fa fb) := fun Z σ H R ρ d ρ' Q S e k => by
  obtain ⟨x, ρ1, e1, e⟩ := mBind_some e
  obtain ⟨y, ρ2, e2, e⟩ := mBind_some e
  obtain ⟨e3, rfl⟩ := mLift_some e
  refine ha Z σ H R ρ x ρ1 _ S e1 fun v H1 R1 S1 st1 r1 => hb Z σ H1 R1 ρ1 y _ _ S1 e2 fun w H2 R2 S2 st2 r2 => ?_
  exact h H2 v w x y d Q ((r1.mono st2.r).mono S2.same) r2 e3 fun z q => k z H2 R2 S2 (st1.trans st2) q.rp
noncomputable def mOpO (g : D → D → Option D) (i : Nat) (fb : Rho → Option (D × Rho)) : Rho → Option (D × Rho) := mBind fb fun y => mBind (mVar i) fun x => mLift (g x y)
noncomputable def mIxO (i : Nat) (fb : Rho → Option (D × Rho)) : Rho → Option (D × Rho) := mBind fb fun y => mBind (mVar i) fun x => mLift (match x, y with
  | .lst xs, .int j => atI xs j
  | _, _ => none)
theorem atI_rps {R : Hp} {xs : List V} {ds : List D} {i : Int} {d : D} (r : Rps K R xs ds) (h : atI ds i = some d) : ∃ v, atI xs i = some v ∧ Rp K R v d := by
  unfold atI at h ⊢
  rw [r.length]
  cases e : ixN ds.length i with
  | none => rw [e] at h; cases h
  | some j =>
    rw [e] at h
    exact r.get h
theorem me_ixO {i : Nat} {fb : Rho → Option (D × Rho)} (hi : i ∈ O) (hb : ME K O tb fb) : ME K O (tOp (rIx K) (tVar i) tb) (mIxO i fb) := fun Z σ H R ρ d ρ' Q S e k => by
  obtain ⟨y, ρ1, e1, e⟩ := mBind_some e
  obtain ⟨x, ρ2, e2, e⟩ := mBind_some e
  obtain ⟨e3, rfl⟩ := mLift_some e
  obtain ⟨e4, rfl⟩ := mVar_some e2
  obtain ⟨l, vs, ds, h1, h2, h3, _⟩ := S.own i hi
  refine ⟨.ref l, h2, hb Z σ H R ρ y _ _ S e1 fun w H1 R1 S1 st1 r1 => ?_⟩
  obtain ⟨l', vs', ds', g1, g2, g3, g4, g5⟩ := S1.own i hi
  rw [h2] at g2
  cases g2
  rw [e4] at g1
  cases g1
  cases g5 with
  | lst g5 =>
    cases r1 with
    | int j =>
      obtain ⟨v, q1, q2⟩ := atI_rps g5 e3
      exact .inl ⟨l, _, j, v, rfl, rfl, SqL.of g3, q1, k v H1 R1 S1 st1 q2⟩
    | _ => cases e3
  | _ => cases r1 <;> cases e3
noncomputable def dIx : D → D → Option D
  | .lst xs, .int i => atI xs i
  | .tup xs, .int i => atI xs i
  | .str z, .int i => if z.length ≤ sizeLine then (atI z.cps.toList i).map fun c => .str ⟨#[c]⟩ else none
  | _, _ => none
theorem op_ix : OpG K (rIx K) dIx := fun H R x y d e u Q s rx ry q k => by
  unfold dIx at q
  split at q
  · rename_i xs i
    cases ry
    cases rx with
    | lst h r =>
      obtain ⟨v, q1, q2⟩ := atI_rps r q
      exact .inl ⟨_, _, i, v, rfl, rfl, Same.sqL s h, q1, k v H R (Ext.refl s) q2⟩
  · rename_i xs i
    cases ry
    cases rx with
    | tup h r =>
      obtain ⟨v, q1, q2⟩ := atI_rps r q
      exact .inr (.inl ⟨_, _, i, v, rfl, rfl, SqT.of (s _ _ h), q1, k v H R (Ext.refl s) q2⟩)
  · rename_i z i
    cases ry
    cases rx
    split at q
    · rename_i hz
      cases e' : atI z.cps.toList i with
      | none => rw [e'] at q; cases q
      | some c =>
        rw [e'] at q
        cases q
        exact .inr (.inr ⟨z, i, c, rfl, rfl, hz, e', k _ H R (Ext.refl s) (.str _)⟩)
    · cases q
  · cases q
noncomputable def dI2 (C : Int → Int → Bool) (g : Int → Int → Int) : D → D → Option D
  | .int i, .int j => if C i j = true then some (.int (g i j)) else none
  | _, _ => none
theorem op_i {C : Int → Int → Bool} {P : Int → Int → Prop} {g : Int → Int → Int} (hc : ∀ i j, C i j = true → P i j) : OpG K (rI P fun i j => .int (g i j)) (dI2 C g) := fun H R x y d e u Q s rx ry q k => by
  unfold dI2 at q
  split at q
  · rename_i i j
    split at q
    · rename_i h
      cases q
      cases rx
      cases ry
      exact ⟨i, j, rfl, rfl, hc i j h, k _ H R (Ext.refl s) (.int _)⟩
    · cases q
  · cases q
noncomputable def dI0 (g : Int → Int → Int) : D → D → Option D
  | .int i, .int j => some (.int (g i j))
  | _, _ => none
theorem op_i0 {g : Int → Int → Int} : OpG K (rI0 fun i j => .int (g i j)) (dI0 g) := fun H R x y d e u Q s rx ry q k => by
  unfold dI0 at q
  split at q
  · rename_i i j
    cases q
    cases rx
    cases ry
    exact ⟨i, j, rfl, rfl, k _ H R (Ext.refl s) (.int _)⟩
  · cases q
noncomputable def dB0 (g : Int → Int → Bool) : D → D → Option D
  | .int i, .int j => some (.bl (g i j))
  | _, _ => none
end
end L2
set_option Elab.async false
set_option linter.all false
set_option maxRecDepth 100000
set_option maxHeartbeats 4000000
namespace L2
open PySem PySem.Spec PyProof.Rows
section
variable {K : PySem.W.Frag} {Z : Anc} {O : List Nat} {t ta tb tc : TE} {tA tB' : TT} {tr : TA} {fa fb fc : Rho → Option (D × Rho)} {ga gb : Rho → Option (Bool × Rho)} {fs : Rho → Option (List D × Rho)}
noncomputable def mTest (f : Rho → Option (D × Rho)) : Rho → Option (Bool × Rho) := mBind f fun d => mLift (match d with
  | .bl b => some b
  | _ => none)
theorem mt_test (h : ME K O t fa) : MT K O (tTest t) (mTest fa) := fun Z σ H R ρ b ρ' Q S e k => by
  obtain ⟨d, ρ1, e1, e⟩ := mBind_some e
  obtain ⟨e2, rfl⟩ := mLift_some e
  refine h Z σ H R ρ d _ _ S e1 fun v H' R' S' st r => ?_
  cases r with
  | bl c => cases e2; exact ⟨_, rfl, k H' R' S' st⟩
  | _ => cases e2
theorem mt_val (h : ME K O t fa) : MT K O (tB t) (mTest fa) := fun Z σ H R ρ b ρ' Q S e k => by
  obtain ⟨d, ρ1, e1, e⟩ := mBind_some e
  obtain ⟨e2, rfl⟩ := mLift_some e
  refine h Z σ H R ρ d _ _ S e1 fun v H' R' S' st r => ?_
  cases r with
  | bl c => cases e2; exact ⟨_, rfl, k H' R' S' st⟩
  | _ => cases e2
noncomputable def mNot (f : Rho → Option (Bool × Rho)) : Rho → Option (Bool × Rho) := mBind f fun b => mRet (!b)
theorem mt_not (h : MT K O tA ga) : MT K O (tNot tA) (mNot ga) := fun Z σ H R ρ b ρ' Q S e k => by
  obtain ⟨c, ρ1, e1, e⟩ := mBind_some e
  cases e
  exact h Z σ H R ρ c _ _ S e1 fun H' R' S' st => k H' R' S' st
noncomputable def mAnd (f g : Rho → Option (Bool × Rho)) : Rho → Option (Bool × Rho) := mBind f fun b => if b = true then g else mRet false
noncomputable def mOr (f g : Rho → Option (Bool × Rho)) : Rho → Option (Bool × Rho) := mBind f fun b => if b = true then mRet true else g
theorem mt_and (h : MT K O tA ga) (h2 : MT K O tB' gb) : MT K O (tAnd tA tB') (mAnd ga gb) := fun Z σ H R ρ b ρ' Q S e k => by
  obtain ⟨c, ρ1, e1, e⟩ := mBind_some e
  refine h Z σ H R ρ c _ _ S e1 fun H' R' S' st => ?_
  cases c with
  | true => exact iteT (h2 Z σ H' R' ρ1 b ρ' Q S' e fun H2 R2 S2 st2 => k H2 R2 S2 (st.trans st2))
  | false => cases e; exact iteF (k H' R' S' st)
theorem mt_or (h : MT K O tA ga) (h2 : MT K O tB' gb) : MT K O (tOr tA tB') (mOr ga gb) := fun Z σ H R ρ b ρ' Q S e k => by
  obtain ⟨c, ρ1, e1, e⟩ := mBind_some e
  refine h Z σ H R ρ c _ _ S e1 fun H' R' S' st => ?_
  cases c with
  | true => cases e; exact iteT (k H' R' S' st)
  | false => exact iteF (h2 Z σ H' R' ρ1 b ρ' Q S' e fun H2 R2 S2 st2 => k H2 R2 S2 (st.trans st2))
noncomputable def mAndV (f g : Rho → Option (D × Rho)) : Rho → Option (D × Rho) := mBind (mTest f) fun b => if b = true then g else mRet (.bl false)
noncomputable def mOrV (f g : Rho → Option (D × Rho)) : Rho → Option (D × Rho) := mBind (mTest f) fun b => if b = true then mRet (.bl true) else g
noncomputable def mNotV (f : Rho → Option (D × Rho)) : Rho → Option (D × Rho) := mBind (mTest f) fun b => mRet (.bl (!b))
theorem me_and (h : ME K O ta fa) (h2 : ME K O tb fb) : ME K O (tAndV ta tb) (mAndV fa fb) := fun Z σ H R ρ d ρ' Q S e k => by
  obtain ⟨c, ρ1, e1, e⟩ := mBind_some e
  obtain ⟨x, ρ2, e1, e2⟩ := mBind_some e1
  obtain ⟨e2, rfl⟩ := mLift_some e2
  refine h Z σ H R ρ x _ _ S e1 fun v H' R' S' st r => ?_
  cases r with
  | bl b =>
    cases e2
    refine ⟨_, rfl, ?_⟩
    cases c with
    | true => exact iteT (h2 Z σ H' R' _ d ρ' Q S' e fun v H2 R2 S2 st2 r2 => k v H2 R2 S2 (st.trans st2) r2)
    | false => cases e; exact iteF (k _ H' R' S' st (.bl false))
  | _ => cases e2
theorem me_or (h : ME K O ta fa) (h2 : ME K O tb fb) : ME K O (tOrV ta tb) (mOrV fa fb) := fun Z σ H R ρ d ρ' Q S e k => by
  obtain ⟨c, ρ1, e1, e⟩ := mBind_some e
  obtain ⟨x, ρ2, e1, e2⟩ := mBind_some e1
  obtain ⟨e2, rfl⟩ := mLift_some e2
  refine h Z σ H R ρ x _ _ S e1 fun v H' R' S' st r => ?_
  cases r with
  | bl b =>
    cases e2
    refine ⟨_, rfl, ?_⟩
    cases c with
    | true => cases e; exact iteT (k _ H' R' S' st (.bl true))
    | false => exact iteF (h2 Z σ H' R' _ d ρ' Q S' e fun v H2 R2 S2 st2 r2 => k v H2 R2 S2 (st.trans st2) r2)
  | _ => cases e2
theorem me_not (h : ME K O ta fa) : ME K O (tNotV ta) (mNotV fa) := fun Z σ H R ρ d ρ' Q S e k => by
  obtain ⟨c, ρ1, e1, e⟩ := mBind_some e
  obtain ⟨x, ρ2, e1, e2⟩ := mBind_some e1
  obtain ⟨e2, rfl⟩ := mLift_some e2
  refine h Z σ H R ρ x _ _ S e1 fun v H' R' S' st r => ?_
  cases r with
  | bl b => cases e2; cases e; exact ⟨_, rfl, k _ H' R' S' st (.bl _)⟩
  | _ => cases e2
noncomputable def mIf (f : Rho → Option (Bool × Rho)) (g h : Rho → Option (D × Rho)) : Rho → Option (D × Rho) := mBind f fun b => if b = true then g else h
theorem me_if (h : MT K O tA ga) (h1 : ME K O ta fa) (h2 : ME K O tb fb) : ME K O (tIf tA ta tb) (mIf ga fa fb) := fun Z σ H R ρ d ρ' Q S e k => by
  obtain ⟨c, ρ1, e1, e⟩ := mBind_some e
  refine h Z σ H R ρ c _ _ S e1 fun H' R' S' st => ?_
  cases c with
  | true => exact iteT (h1 Z σ H' R' ρ1 d ρ' Q S' e fun v H2 R2 S2 st2 r2 => k v H2 R2 S2 (st.trans st2) r2)
  | false => exact iteF (h2 Z σ H' R' ρ1 d ρ' Q S' e fun v H2 R2 S2 st2 r2 => k v H2 R2 S2 (st.trans st2) r2)
noncomputable def mNil : Rho → Option (List D × Rho) := mRet []
noncomputable def mCons (f : Rho → Option (D × Rho)) (g : Rho → Option (List D × Rho)) : Rho → Option (List D × Rho) := mBind f fun x => mBind g fun xs => mRet (x :: xs)
theorem ma_nil : MA K O tNil mNil := fun Z σ H R ρ ds ρ' Q S e k => by
  cases e
  exact k [] H R S (Stp.refl _ _ _ _) .nil
theorem ma_cons (h : ME K O t fa) (h2 : MA K O tr fs) : MA K O (tCons t tr) (mCons fa fs) := fun Z σ H R ρ ds ρ' Q S e k => by
  obtain ⟨x, ρ1, e1, e⟩ := mBind_some e
  obtain ⟨xs, ρ2, e2, e⟩ := mBind_some e
  cases e
  refine h Z σ H R ρ x _ _ S e1 fun v H1 R1 S1 st1 r1 => h2 Z σ H1 R1 ρ1 xs _ _ S1 e2 fun vs H2 R2 S2 st2 r2 => ?_
  exact k (v :: vs) H2 R2 S2 (st1.trans st2) (.cons (r1.mono st2.r) r2)
noncomputable def mTup (f : Rho → Option (List D × Rho)) : Rho → Option (D × Rho) := mBind f fun xs => mLift (if xs.length ≤ sizeLine then some (.tup xs) else none)
theorem me_tup (h : MA K O tr fs) : ME K O (tTup tr) (mTup fs) := fun Z σ H R ρ d ρ' Q S e k => by
  obtain ⟨xs, ρ1, e1, e⟩ := mBind_some e
  obtain ⟨e2, rfl⟩ := mLift_some e
  refine h Z σ H R ρ xs _ _ S e1 fun vs H1 R1 S1 st1 r1 => ?_
  split at e2
  · rename_i hz
    cases e2
    refine ⟨by rw [r1.length]; exact hz, fun p np => ?_⟩
    have x := Ext.new (o := .tup vs) S1.sub np
    exact k _ _ _ (S1.ext x) (st1.trans x.stp) (.tup upd_same (r1.mono x.r))
  · cases e2
noncomputable def mLst (f : Rho → Option (List D × Rho)) : Rho → Option (List D × Rho) := mBind f fun xs => mLift (if xs.length ≤ sizeLine then some xs else none)
theorem StR.out {σ : St} {H R : Hp} {ρ : Rho} {l : Addr} (S : StR K Z O σ H R ρ) (h : H l = none) : R l = none := by
  cases q : R l with
  | none => rfl
  | some o => rw [S.sub l o q] at h; cases h
theorem Stp.new {σ : St} {H R H' R' : Hp} {l : Addr} (x : Stp O σ H R H' R') (h : H' l = none) : H l = none := by
  cases q : H l with
  | none => rfl
  | some o => exact absurd h (x.d l (by rw [q]; exact fun z => nomatch z)).1
theorem mn_lst (h : MA K O tr fs) : MN K O (tLst tr) (mLst fs) := fun Z σ H R ρ ds ρ' Q S e k => by
  obtain ⟨xs, ρ1, e1, e⟩ := mBind_some e
  obtain ⟨e2, rfl⟩ := mLift_some e
  refine h Z σ H R ρ xs _ _ S e1 fun vs H1 R1 S1 st1 r1 => ?_
  split at e2
  · rename_i hz
    cases e2
    refine ⟨by rw [r1.length]; exact hz, fun p np => ?_⟩
    have x := Ext.hid (o := .lst vs) S1.sub np
    exact k p vs _ _ (S1.ext x) (st1.trans x.stp) (st1.new np) upd_same (S1.out np) r1
  · cases e2
noncomputable def CallS (K : PySem.W.Frag) (r : List V → Hp → VK → Prop) (g : D → Option D) : Prop := ∀ (H : Hp) (x : V) (d u : D) (Q : VK), Rp K H x d → g d = some u → (∀ v, Sc v u → Q v H) → r [x] H Q
noncomputable def mOp1 (g : D → Option D) (f : Rho → Option (D × Rho)) : Rho → Option (D × Rho) := mBind f fun x => mLift (g x)
theorem me_call1 {r : List V → Hp → VK → Prop} {g : D → Option D} (h : CallS K r g) (ha : MB K O t fa) : ME K O (tCB r (tCons t tNil)) (mOp1 g fa) := fun Z σ H R ρ d ρ' Q S e k => by
  obtain ⟨x, ρ1, e1, e⟩ := mBind_some e
  obtain ⟨e2, rfl⟩ := mLift_some e
  refine ha Z σ H R ρ x _ _ S e1 fun v H1 R1 S1 st1 r1 => ?_
  exact h H1 v x d Q r1 e2 fun w z => k w H1 R1 S1 st1 z.rp
noncomputable def dLen : D → Option D
  | .lst xs => some (.int xs.length)
  | .tup xs => some (.int xs.length)
  | _ => none
theorem cs_len : CallS K (fun xs H Q => ∃ p ys, xs = [.ref p] ∧ (SqL K H p ys ∨ SqT K H p ys) ∧ Q (.int ys.length) H) dLen := fun H x d u Q r e k => by
  cases r with
  | lst h q =>
    cases e
    refine ⟨_, _, rfl, .inl h, ?_⟩
    rw [q.length]
    exact k _ (.int _)
  | tup h q =>
    cases e
    refine ⟨_, _, rfl, .inr (SqT.of h), ?_⟩
    rw [q.length]
    exact k _ (.int _)
  | _ => cases e
noncomputable def dInt : D → Option D
  | .int i => some (.int i)
  | .bl b => some (.int (if b then 1 else 0))
  | _ => none
theorem cs_int : CallS K (fun xs H Q => (∃ i, xs = [.int i] ∧ Q (.int i) H) ∨ ∃ k, xs = [.bl k] ∧ Q (.int (if k then 1 else 0)) H) dInt := fun H x d u Q r e k => by
  cases r with
  | int i => cases e; exact .inl ⟨i, rfl, k _ (.int _)⟩
  | bl b => cases e; exact .inr ⟨b, rfl, k _ (.int _)⟩
  | _ => cases e
noncomputable def intsD : List D → Option (List Int)
  | [] => some []
  | .int i :: r => (intsD r).map (i :: ·)
  | _ => none
noncomputable def boolsD : List D → Option (List Bool)
  | [] => some []
  | .bl i :: r => (boolsD r).map (i :: ·)
  | _ => none
theorem boolsD_rps {R : Hp} : ∀ {xs : List V} {ds : List D} {ns : List Bool}, Rps K R xs ds → boolsD ds = some ns → xs = ns.map V.bl
  | _, _, ns, .nil, e => by cases e; rfl
  | _, _, ns, .cons (d := d) h r, e => by
    cases h with
    | bl i =>
      unfold boolsD at e
      cases q : boolsD _ with
      | none => rw [q] at e; cases e
      | some ms => rw [q] at e; cases e; rw [boolsD_rps r q]; rfl
    | _ => cases e
noncomputable def dSum : D → Option D
  | .lst xs => (intsD xs).map fun ns => .int ns.sum
  | _ => none
noncomputable def dAll : D → Option D
  | .lst xs => (boolsD xs).map fun bs => .bl (bs.all id)
  | _ => none
theorem cs_all : CallS K (fun xs H Q => ∃ (p : Addr) (bs : List Bool), xs = [.ref p] ∧ SqL K H p (bs.map V.bl) ∧ Q (.bl (bs.all id)) H) dAll := fun H x d u Q r e k => by
  cases r with
  | lst h q =>
    rename_i ds
    have e' : (boolsD ds).map (fun bs => D.bl (bs.all id)) = some u := e
    cases z : boolsD ds with
    | none => rw [z] at e'; cases e'
    | some ns =>
      rw [z] at e'
      cases e'
      have ex := boolsD_rps q z
      subst ex
      exact ⟨_, ns, rfl, h, k _ (.bl _)⟩
  | _ => cases e
end
end L2
set_option Elab.async false
set_option linter.all false
set_option maxRecDepth 100000
set_option maxHeartbeats 4000000
namespace L2
open PySem PySem.Spec PyProof.Rows
noncomputable def ItOk (K : PySem.W.Frag) (J : It) (R : Hp) (ds : List D) : Prop := ∀ (H' R' : Hp), Same R R' → (∀ a o, R' a = some o → H' a = some o) → ∀ i : Nat, (i = ds.length → J.stop i H') ∧ ∀ d, ds[i]? = some d → J.go i H' ∧ ∀ x H'', J.yld i H' x H'' → ∃ R'', Ext H' R' H'' R'' ∧ Rp K R'' x d
theorem ItOk.mono {K : PySem.W.Frag} {J : It} {R R1 : Hp} {ds : List D} (h : ItOk K J R ds) (s : Same R R1) : ItOk K J R1 ds := fun H' R' s' b => h H' R' (s.trans s') b
noncomputable def MI (K : PySem.W.Frag) (O : List Nat) (wi : TI) (f : Rho → Option (List D × Rho)) : Prop := ∀ (Z : Anc) (σ : St) (H R : Hp) (ρ : Rho) (ds : List D) (ρ' : Rho) (Q : It → Hp → Prop), StR K Z O σ H R ρ → f ρ = some (ds, ρ') → (∀ J H' R', StR K Z O σ H' R' ρ' → Stp O σ H R H' R' → ItOk K J R' ds → Q J H') → wi σ H Q
noncomputable def iSeq (K : PySem.W.Frag) (tl : TE) : TI := fun σ H R => iList K tl σ H R ∨ iTup K tl σ H R
theorem pi_seqK {X : Cx} {K : PySem.W.Frag} {tg l : Expr} {tl : TE} (h : X.K = K) (hl : PE X l tl) : PI X tg l (iSeq K tl) := fun pins s σ H R I q => by
  rcases q with q | q
  · exact pi_listK h hl pins s σ H R I q
  · exact pi_tupK h hl pins s σ H R I q
noncomputable def mSeq (f : Rho → Option (D × Rho)) : Rho → Option (List D × Rho) := mBind f fun d => mLift (match d with
  | .lst xs => some xs
  | .tup xs => some xs
  | _ => none)
section
variable {K : PySem.W.Frag} {O : List Nat} {t : TE} {tr : TA} {fa : Rho → Option (D × Rho)} {fs : Rho → Option (List D × Rho)}
theorem it_list {R : Hp} {a : Addr} {xs : List V} {ds : List D} (h : SqL K R a xs) (r : Rps K R xs ds) : ItOk K (Itl K a) R ds := fun H' R' s b i => by
  have q : SqL K H' a xs := Same.sqL b (Same.sqL s h)
  refine ⟨fun e => ⟨xs, q, by rw [r.length]; omega⟩, fun d e => ?_⟩
  obtain ⟨v, h1, h2⟩ := r.get e
  refine ⟨⟨xs, v, q, h1⟩, fun x H'' y => ?_⟩
  obtain ⟨rfl, y⟩ := y
  have ex := y xs q
  rw [h1] at ex
  cases ex
  exact ⟨R', Ext.refl b, h2.mono s⟩
theorem it_tup {R : Hp} {a : Addr} {xs : List V} {ds : List D} (h : SqT K R a xs) (r : Rps K R xs ds) : ItOk K (Itt K a) R ds := fun H' R' s b i => by
  have q : SqT K H' a xs := Same.tup b (Same.tup s h)
  refine ⟨fun e => ⟨xs, q, by rw [r.length]; omega⟩, fun d e => ?_⟩
  obtain ⟨v, h1, h2⟩ := r.get e
  refine ⟨⟨xs, v, q, h1⟩, fun x H'' y => ?_⟩
  obtain ⟨rfl, y⟩ := y
  have ex := y xs q
  rw [h1] at ex
  cases ex
  exact ⟨R', Ext.refl b, h2.mono s⟩
theorem mi_seq (h : ME K O t fa) : MI K O (iSeq K t) (mSeq fa) := fun Z σ H R ρ ds ρ' Q S e k => by
  obtain ⟨d, ρ1, e1, e⟩ := mBind_some e
  obtain ⟨e2, rfl⟩ := mLift_some e
  cases d with
  | lst xs =>
    cases e2
    refine .inl (h Z σ H R ρ _ _ _ S e1 fun v H1 R1 S1 st1 r1 => ?_)
    cases r1 with
    | lst q r => exact ⟨_, rfl, ⟨_, Same.sqL S1.same q⟩, k _ H1 R1 S1 st1 (it_list q r)⟩
  | tup xs =>
    cases e2
    refine .inr (h Z σ H R ρ _ _ _ S e1 fun v H1 R1 S1 st1 r1 => ?_)
    cases r1 with
    | tup q r => exact ⟨_, rfl, ⟨_, SqT.of (S1.same _ _ q)⟩, k _ H1 R1 S1 st1 (it_tup (SqT.of q) r)⟩
  | _ => cases e2
noncomputable def rangeD (lo : Int) (n : Nat) : List D := (List.range n).map fun (k : Nat) => D.int (lo + (k : Int))
theorem it_range {R : Hp} (lo : Int) (n : Nat) : ItOk K (Itr lo n) R (rangeD lo n) := fun H' R' s b i => by
  have len : (rangeD lo n).length = n := by simp [rangeD]
  refine ⟨fun e => by show n ≤ i; omega, fun d e => ?_⟩
  have hi : i < n := by
    have := (List.getElem?_eq_some_iff.mp e).1
    omega
  have ed : d = D.int (lo + (i : Int)) := by
    unfold rangeD at e
    rw [List.getElem?_map, List.getElem?_range hi] at e
    exact (Option.some.inj e).symm
  subst ed
  refine ⟨hi, fun x H'' y => ?_⟩
  obtain ⟨rfl, rfl⟩ := y
  exact ⟨R', Ext.refl b, .int _⟩
noncomputable def big (j : Int) : Bool := decide (-(2 ^ 62) ≤ j) && decide (j < 2 ^ 62)
noncomputable def mRng1 (f : Rho → Option (List D × Rho)) : Rho → Option (List D × Rho) := mBind f fun ds => mLift (match ds with
  | [.int j] => if big j = true then some (rangeD 0 j.toNat) else none
  | _ => none)
theorem mi_range1 (h : MA K O tr fs) : MI K O (iRng1 tr) (mRng1 fs) := fun Z σ H R ρ ds ρ' Q S e k => by
  obtain ⟨xs, ρ1, e1, e⟩ := mBind_some e
  obtain ⟨e2, rfl⟩ := mLift_some e
  split at e2
  · rename_i j
    split at e2
    · rename_i hb
      cases e2
      refine h Z σ H R ρ _ _ _ S e1 fun vs H1 R1 S1 st1 r1 => ?_
      cases r1 with
      | cons q r =>
        cases r
        cases q
        unfold big at hb
        rw [Bool.and_eq_true] at hb
        exact ⟨j, rfl, of_decide_eq_true hb.1, of_decide_eq_true hb.2, k _ H1 R1 S1 st1 (it_range 0 _)⟩
    · cases e2
  · cases e2
noncomputable def mRng2 (f : Rho → Option (List D × Rho)) : Rho → Option (List D × Rho) := mBind f fun ds => mLift (match ds with
  | [.int i, .int j] => if (big i && big j) = true then some (rangeD i (j - i).toNat) else none
  | _ => none)
end
end L2
set_option Elab.async false
set_option linter.all false
set_option maxRecDepth 100000
set_option maxHeartbeats 4000000
namespace L2
open PySem PySem.Spec PyProof.Rows
noncomputable def MG (K : PySem.W.Frag) (O T : List Nat) (g : TG) (f : D → Rho → Option Rho) : Prop := ∀ (Z : Anc) (σ : St) (H R : Hp) (ρ : Rho) (x : V) (d : D) (ρ' : Rho) (Q : St → Hp → Prop), StR K Z O σ H R ρ → Rp K R x d → f d ρ = some ρ' → (∀ σ', StR K Z O σ' H R ρ' → (∀ j, j ∉ T → σ'[j]? = σ[j]?) → Q σ' H) → g x σ H Q
noncomputable def MGs (K : PySem.W.Frag) (O T : List Nat) (g : TGs) (f : List D → Rho → Option Rho) : Prop := ∀ (Z : Anc) (σ : St) (H R : Hp) (ρ : Rho) (xs : List V) (ds : List D) (ρ' : Rho) (Q : St → Hp → Prop), StR K Z O σ H R ρ → Rps K R xs ds → f ds ρ = some ρ' → (∀ σ', StR K Z O σ' H R ρ' → (∀ j, j ∉ T → σ'[j]? = σ[j]?) → Q σ' H) → g xs σ H Q
noncomputable def gSet (i : Nat) : D → Rho → Option Rho := fun d ρ => some (ρ.set i (some d))
noncomputable def gsNil : List D → Rho → Option Rho := fun ds ρ => match ds with
  | [] => some ρ
  | _ => none
noncomputable def gsCons (f : D → Rho → Option Rho) (g : List D → Rho → Option Rho) : List D → Rho → Option Rho := fun ds ρ => match ds with
  | d :: r => match f d ρ with
    | some ρ1 => g r ρ1
    | none => none
  | [] => none
noncomputable def gTupD (n : Nat) (f : List D → Rho → Option Rho) : D → Rho → Option Rho := fun d ρ => match d with
  | .tup ds => if ds.length = n then f ds ρ else none
  | _ => none
section
variable {K : PySem.W.Frag} {O T T' : List Nat} {g : TG} {gs : TGs} {f : D → Rho → Option Rho} {fs : List D → Rho → Option Rho}
theorem mg_name {i : Nat} (hi : i ∉ O) : MG K O [i] (gName i) (gSet i) := fun Z σ H R ρ x d ρ' Q S r e k => by
  cases e
  exact k _ (S.set hi r) fun j hj => List.getElem?_set_ne (fun (z : i = j) => hj (by rw [z]; exact List.mem_singleton_self j))
theorem mgs_nil : MGs K O [] gNil gsNil := fun Z σ H R ρ xs ds ρ' Q S r e k => by
  cases r with
  | nil => cases e; exact ⟨rfl, k σ S fun _ _ => rfl⟩
  | cons _ _ => cases e
theorem mgs_cons (h : MG K O T g f) (h2 : MGs K O T' gs fs) : MGs K O (T ++ T') (gCons g gs) (gsCons f fs) := fun Z σ H R ρ xs ds ρ' Q S r e k => by
  cases r with
  | nil => cases e
  | cons q r =>
    rename_i x xs d ds
    unfold gsCons at e
    cases e1 : f d ρ with
    | none => simp only [e1] at e; cases e
    | some ρ1 =>
      simp only [e1] at e
      refine ⟨x, xs, rfl, h Z σ H R ρ x d ρ1 _ S q e1 fun σ1 S1 n1 => h2 Z σ1 H R ρ1 xs ds ρ' _ S1 r e fun σ2 S2 n2 => ?_⟩
      refine k σ2 S2 fun j hj => ?_
      rw [List.mem_append, not_or] at hj
      rw [n2 j hj.2, n1 j hj.1]
theorem mg_tup {n : Nat} (h : MGs K O T gs fs) : MG K O T (gTup K n gs) (gTupD n fs) := fun Z σ H R ρ x d ρ' Q S r e k => by
  cases r with
  | tup q rs =>
    unfold gTupD at e
    simp only at e
    split at e
    · rename_i hn
      exact ⟨_, _, rfl, SqT.of (S.same _ _ q), by rw [rs.length]; exact hn, h Z σ H R ρ _ _ ρ' Q S rs e k⟩
    · cases e
  | _ => cases e
end
noncomputable def capsR (n : Nat) (js : List Nat) (ρ : Rho) : Rho := List.replicate n none ++ js.map fun j => (ρ[j]?).join
noncomputable def bwO : Option (Nat × Nat) → List Nat
  | none => []
  | some p => [p.2]
noncomputable def backR (bw : Option (Nat × Nat)) (ρ ρb : Rho) : Rho := match bw with
  | none => ρ
  | some p => match ρb[p.2]? with
    | some x => ρ.set p.1 x
    | none => ρ
noncomputable def bwOk (n : Nat) (js O : List Nat) (bw : Option (Nat × Nat)) : Bool := match bw with
  | none => js.all fun j => !O.contains j
  | some p => O.contains p.1 && decide (n ≤ p.2) && decide (js[p.2 - n]? = some p.1) && (List.range js.length).all fun k => decide (n + k = p.2) || !O.contains (js.getD k 0)
noncomputable def compRun (n : Nat) (js : List Nat) (bw : Option (Nat × Nat)) (fg : D → Rho → Option Rho) (ft : Rho → Option (Bool × Rho)) (fe : Rho → Option (D × Rho)) : List D → Rho → Option (List D × Rho)
  | [], ρ => some ([], ρ)
  | d :: r, ρ => match fg d (capsR n js ρ) with
    | none => none
    | some ρ1 => match ft ρ1 with
      | none => none
      | some (false, ρ2) => compRun n js bw fg ft fe r (backR bw ρ ρ2)
      | some (true, ρ2) => match fe ρ2 with
        | none => none
        | some (y, ρ3) => match compRun n js bw fg ft fe r (backR bw ρ ρ3) with
          | none => none
          | some (ys, ρ4) => some (y :: ys, ρ4)
section
variable {K : PySem.W.Frag} {Z Z' : Anc} {O : List Nat} {σ σ4 : St} {H R H6 R6 : Hp} {ρ ρ3 : Rho} {n : Nat} {js : List Nat} {bw : Option (Nat × Nat)}
theorem capsR_len : (capsR n js ρ).length = n + js.length := by simp [capsR]
theorem capsR_cap {i : Nat} {d : D} (e : (capsR n js ρ)[i]? = some (some d)) : n ≤ i ∧ ∃ j, js[i - n]? = some j ∧ ρ[j]? = some (some d) := by
  unfold capsR at e
  by_cases h : i < n
  · rw [List.getElem?_append_left (by simpa using h), List.getElem?_replicate, if_pos h] at e
    cases e
  · refine ⟨by omega, ?_⟩
    rw [List.getElem?_append_right (by simp; omega), List.length_replicate, List.getElem?_map] at e
    cases q : js[i - n]? with
    | none => rw [q] at e; cases e
    | some j =>
      rw [q] at e
      refine ⟨j, rfl, ?_⟩
      have e' : (ρ[j]?).join = some d := Option.some.inj e
      cases z : ρ[j]? with
      | none => rw [z] at e'; cases e'
      | some o => rw [z] at e'; have : o = some d := e'; rw [this]
theorem capsR_at {i j : Nat} (h : n ≤ i) (e : js[i - n]? = some j) {d : D} (q : ρ[j]? = some (some d)) : (capsR n js ρ)[i]? = some (some d) := by
  unfold capsR
  rw [List.getElem?_append_right (by simp; omega), List.length_replicate, List.getElem?_map, e]
  show some ((ρ[j]?).join) = _
  rw [q]
  rfl
theorem caps_at {i j : Nat} (h : n ≤ i) (e : js[i - n]? = some j) {v : V} (q : σ[j]? = some (some v)) : (caps n js σ)[i]? = some (some v) := by
  unfold caps
  rw [List.getElem?_append_right (by simp; omega), List.length_replicate, List.getElem?_map, e]
  show some ((σ[j]?).join) = _
  rw [q]
  rfl
noncomputable def bwL (bw : Option (Nat × Nat)) (σ : St) : Addr → Prop := match bw with
  | none => fun _ => False
  | some p => fun l => σ[p.1]? = some (some (.ref l))
theorem StR.block (S : StR K Z O σ H R ρ) (hb : bwOk n js O bw = true) : StR K ⟨H, R, bwL bw σ, bwO bw⟩ (bwO bw) (caps n js σ) H R (capsR n js ρ) := by
  have noO : ∀ i j, n ≤ i → js[i - n]? = some j → i ∉ bwO bw → j ∉ O := fun i j hi hj hn hO => by
    cases bw with
    | none =>
      unfold bwOk at hb
      have z := List.all_eq_true.mp hb j (List.mem_of_getElem? hj)
      simp at z
      exact z hO
    | some p =>
      unfold bwOk at hb
      simp only [Bool.and_eq_true] at hb
      have hk : i - n < js.length := (List.getElem?_eq_some_iff.mp hj).1
      have z := List.all_eq_true.mp hb.2 (i - n) (List.mem_range.mpr hk)
      have ej : js.getD (i - n) 0 = j := by rw [List.getD_eq_getElem?_getD, hj]; rfl
      rw [ej] at z
      simp only [Bool.or_eq_true, decide_eq_true_eq] at z
      rcases z with z | z
      · exact hn (by show i ∈ [p.2]; rw [List.mem_singleton]; omega)
      · simp at z; exact z hO
  have inO : ∀ p, bw = some p → p.1 ∈ O ∧ n ≤ p.2 ∧ js[p.2 - n]? = some p.1 := fun p e => by
    subst e
    unfold bwOk at hb
    simp only [Bool.and_eq_true, decide_eq_true_eq] at hb
    exact ⟨by simpa using hb.1.1.1, hb.1.1.2, hb.1.2⟩
  have only : ∀ i, i ∈ bwO bw → ∃ p, bw = some p ∧ i = p.2 := fun i hi => by
    cases bw with
    | none => exact absurd hi (by simp [bwO])
    | some p => exact ⟨p, rfl, by simpa [bwO] using hi⟩
  refine ⟨S.sub, by rw [capsR_len, caps_len], fun i d hi e => ?_, fun i hi => ?_, fun i j hi hj hn => ?_, fun a o e _ => e, Same.refl _, fun a h => .inl h, fun a h => .refl h, fun i hi hp => absurd hi hp, fun i hi _ l e => ?_⟩
  · obtain ⟨h1, j, h2, h3⟩ := capsR_cap e
    obtain ⟨v, q1, q2⟩ := S.env j d (noO i j h1 h2 hi) h3
    exact ⟨v, caps_at h1 h2 q1, q2⟩
  · obtain ⟨p, rfl, rfl⟩ := only i hi
    obtain ⟨h1, h2, h3⟩ := inO p rfl
    obtain ⟨l, vs, ds, q1, q2, q3⟩ := S.own p.1 h1
    exact ⟨l, vs, ds, capsR_at h2 h3 q1, caps_at h2 h3 q2, q3⟩
  · obtain ⟨p, rfl, rfl⟩ := only i hi
    obtain ⟨p', e, rfl⟩ := only j hj
    cases e
    exact absurd rfl hn
  · obtain ⟨p, rfl, rfl⟩ := only i hi
    obtain ⟨h1, h2, h3⟩ := inO p rfl
    obtain ⟨l', vs, ds, q1, q2, q3⟩ := S.own p.1 h1
    rw [caps_at h2 h3 q2] at e
    cases e
    exact q2
theorem StR.back (S : StR K Z O σ H R ρ) (hb : bwOk n js O bw = true) (Sb : StR K Z' (bwO bw) σ4 H6 R6 ρ3) (st : Stp (bwO bw) σ4 H R H6 R6) (hσ : ∀ p, bw = some p → σ4[p.2]? = σ[p.1]?) :
    StR K Z O σ H6 R6 (backR bw ρ ρ3) ∧ Stp O σ H R H6 R6 := by
  have inO : ∀ p, bw = some p → p.1 ∈ O := fun p e => by
    subst e
    unfold bwOk at hb
    simp only [Bool.and_eq_true, decide_eq_true_eq] at hb
    simpa using hb.1.1.1
  have only : ∀ i, i ∈ bwO bw → ∃ p, bw = some p ∧ i = p.2 := fun i hi => by
    cases bw with
    | none => exact absurd hi (by simp [bwO])
    | some p => exact ⟨p, rfl, by simpa [bwO] using hi⟩
  have st' : Stp O σ H R H6 R6 := ⟨st.r, fun a o e n => st.h a o e fun i hi z => by
    obtain ⟨p, e1, rfl⟩ := only i hi
    rw [hσ p e1] at z
    exact n p.1 (inO p e1) z, st.n, st.d⟩
  have keepH0 : ∀ a o, Z.H0 a = some o → ¬ Z.L a → H6 a = some o := fun a o e n => by
    refine st'.h a o (S.ah a o e n) fun i hi z => ?_
    by_cases hp : i ∈ Z.P
    · exact n (S.ap i hi hp a z)
    · rw [S.ao i hi hp a z] at e; cases e
  have len : (backR bw ρ ρ3).length = ρ.length := by
    unfold backR
    cases bw with
    | none => rfl
    | some p =>
      dsimp only
      split
      · rw [List.length_set]
      · rfl
  have other : ∀ i, (∀ p, bw = some p → p.1 ≠ i) → (backR bw ρ ρ3)[i]? = ρ[i]? := fun i h => by
    unfold backR
    cases bw with
    | none => rfl
    | some p =>
      dsimp only
      split
      · rw [List.getElem?_set_ne (h p rfl)]
      · rfl
  refine ⟨⟨Sb.sub, by rw [len]; exact S.len, fun i d hi e => ?_, fun i hi => ?_, S.dis, keepH0, S.ar.trans st.r, fun a h => ?_, fun a h => (S.ad a h).trans (st.d a (S.ad a h).1), S.ao, S.ap⟩, st'⟩
  · rw [other i fun p e1 z => hi (z ▸ inO p e1)] at e
    obtain ⟨v, h1, h2⟩ := S.env i d hi e
    exact ⟨v, h1, h2.mono st.r⟩
  · by_cases hp : ∃ p, bw = some p ∧ p.1 = i
    · obtain ⟨p, rfl, rfl⟩ := hp
      obtain ⟨l, vs, ds, q1, q2, q3, q4, q5⟩ := Sb.own p.2 (by simp [bwO])
      rw [hσ p rfl] at q2
      obtain ⟨_, _, _, g1, _⟩ := S.own p.1 hi
      have hlen : p.1 < ρ.length := (List.getElem?_eq_some_iff.mp g1).1
      refine ⟨l, vs, ds, ?_, q2, q3, q4, q5⟩
      unfold backR
      dsimp only
      rw [q1]
      exact List.getElem?_set_self hlen
    · have hne : ∀ p, bw = some p → p.1 ≠ i := fun p e z => hp ⟨p, e, z⟩
      obtain ⟨l, vs, ds, q1, q2, q3, q4, q5⟩ := S.own i hi
      have nob : ∀ j, j ∈ bwO bw → σ4[j]? ≠ some (some (.ref l)) := fun j hj z => by
        obtain ⟨p, e1, rfl⟩ := only j hj
        rw [hσ p e1] at z
        exact S.dis p.1 i (inO p e1) hi (hne p e1) l z q2
      refine ⟨l, vs, ds, by rw [other i hne]; exact q1, q2, st.h l _ q3 nob, ?_, q5.mono st.r⟩
      cases q : R6 l with
      | none => rfl
      | some o =>
        rcases st.n l (by rw [q]; exact fun z => nomatch z) with z | z
        · exact absurd q4 z
        · exact (q5.noF q3 z).elim
  · rcases st.n a h with z | z
    · exact S.an a z
    · exact .inr (z.back (S.ad a))
end
theorem cgo_mirror {K : PySem.W.Frag} {Z : Anc} {O T : List Nat} {σ : St} {H R : Hp} {ρ ρ' : Rho} {n : Nat} {js : List Nat} {bw : Option (Nat × Nat)} {g : TG} {tt : TT} {te : TE} {fg : D → Rho → Option Rho} {ft : Rho → Option (Bool × Rho)} {fe : Rho → Option (D × Rho)} {J : It} {ds ys : List D} {Fin : List V → Hp → Prop}
    (hb : bwOk n js O bw = true) (hg : MG K (bwO bw) T g fg) (hT : ∀ p, bw = some p → p.2 ∉ T) (ht : MT K (bwO bw) tt ft) (he : ME K (bwO bw) te fe) (S : StR K Z O σ H R ρ) (ok : ItOk K J R ds) (e : compRun n js bw fg ft fe ds ρ = some (ys, ρ')) (hz : ds.length ≤ sizeLine)
    (fin : ∀ vs H' R', StR K Z O σ H' R' ρ' → Stp O σ H R H' R' → Rps K R' vs ys → vs.length ≤ sizeLine → Fin vs H') : cGo g tt te (caps n js σ) Fin J H := by
  refine ⟨fun i m vs H2 => m = ds.length - i ∧ i ≤ ds.length ∧ vs.length ≤ i ∧ ∃ R2 ρ2 ys1 ys2, StR K Z O σ H2 R2 ρ2 ∧ Stp O σ H R H2 R2 ∧ Rps K R2 vs ys1 ∧ compRun n js bw fg ft fe (ds.drop i) ρ2 = some (ys2, ρ') ∧ ys1 ++ ys2 = ys,
    ⟨ds.length, by simp, Nat.zero_le _, Nat.zero_le _, R, ρ, [], ys, S, Stp.refl _ _ _ _, .nil, by rw [List.drop_zero]; exact e, rfl⟩, ?_⟩
  rintro i m vs H2 ⟨rfl, hi, hv, R2, ρ2, ys1, ys2, S2, st2, r2, e2, ey⟩
  obtain ⟨o1, o2⟩ := ok H2 R2 st2.r S2.sub i
  by_cases hlt : i < ds.length
  · obtain ⟨g1, g2⟩ := o2 ds[i] (List.getElem?_eq_getElem hlt)
    rw [List.drop_eq_getElem_cons hlt] at e2
    refine .inr ⟨g1, by omega, fun vs' H' => ∃ R' ρ2 ys1 ys2, vs'.length ≤ i + 1 ∧ StR K Z O σ H' R' ρ2 ∧ Stp O σ H R H' R' ∧ Rps K R' vs' ys1 ∧ compRun n js bw fg ft fe (ds.drop (i + 1)) ρ2 = some (ys2, ρ') ∧ ys1 ++ ys2 = ys, ?_, fun x H3 y => ?_⟩
    · rintro vs' H' ⟨R', ρ3, zs1, zs2, q0, q1, q2, q3, q4, q5⟩
      exact ⟨ds.length - (i + 1), by omega, rfl, hlt, q0, R', ρ3, zs1, zs2, q1, q2, q3, q4, q5⟩
    · obtain ⟨R3, x3, r3⟩ := g2 x H3 y
      have S3 := S2.ext x3
      have B3 := S3.block hb
      unfold compRun at e2
      cases e3 : fg ds[i] (capsR n js ρ2) with
      | none => rw [e3] at e2; cases e2
      | some ρb1 =>
        rw [e3] at e2
        dsimp only at e2
        refine hg _ _ _ _ _ x _ ρb1 _ B3 r3 e3 fun σ4 S4 n4 => ?_
        have cap : ∀ p, bw = some p → σ4[p.2]? = σ[p.1]? := fun p e1 => by
          rw [n4 p.2 (hT p e1)]
          subst e1
          unfold bwOk at hb
          simp only [Bool.and_eq_true, decide_eq_true_eq] at hb
          obtain ⟨l, _, _, _, q2, _⟩ := S3.own p.1 (by simpa using hb.1.1.1)
          rw [caps_at hb.1.1.2 hb.1.2 q2, q2]
        cases e4 : ft ρb1 with
        | none => rw [e4] at e2; cases e2
        | some c =>
          obtain ⟨b, ρb2⟩ := c
          rw [e4] at e2
          refine ht _ σ4 H3 R3 ρb1 b ρb2 _ S4 e4 fun H5 R5 S5 st5 => ?_
          cases b with
          | false =>
            dsimp only at e2
            obtain ⟨T1, T2⟩ := S3.back hb S5 st5 cap
            exact iteF ⟨R5, _, ys1, ys2, by omega, T1, (st2.trans x3.stp).trans T2, (r2.mono x3.r).mono st5.r, e2, ey⟩
          | true =>
            dsimp only at e2
            cases e5 : fe ρb2 with
            | none => rw [e5] at e2; cases e2
            | some c =>
              obtain ⟨y0, ρb3⟩ := c
              rw [e5] at e2
              dsimp only at e2
              cases e6 : compRun n js bw fg ft fe (ds.drop (i + 1)) (backR bw ρ2 ρb3) with
              | none => rw [e6] at e2; cases e2
              | some c =>
                obtain ⟨zs, ρ6⟩ := c
                rw [e6] at e2
                dsimp only at e2
                cases e2
                refine iteT (he _ σ4 H5 R5 ρb2 y0 ρb3 _ S5 e5 fun w H6 R6 S6 st6 r6 => ?_)
                obtain ⟨T1, T2⟩ := S3.back hb S6 (st5.trans st6) cap
                refine ⟨R6, _, ys1 ++ [y0], zs, by rw [List.length_append]; show vs.length + 1 ≤ i + 1; omega, T1, (st2.trans x3.stp).trans T2, (((r2.mono x3.r).mono st5.r).mono st6.r).snoc r6, e6, ?_⟩
                rw [← ey, List.append_assoc]
                rfl
  · have ei : i = ds.length := by omega
    subst ei
    rw [List.drop_length] at e2
    unfold compRun at e2
    cases e2
    rw [List.append_nil] at ey
    subst ey
    exact .inl ⟨o1 rfl, by omega, fin vs H2 R2 S2 st2 r2 (by omega)⟩
noncomputable def mComp (n : Nat) (js : List Nat) (bw : Option (Nat × Nat)) (fi : Rho → Option (List D × Rho)) (fg : D → Rho → Option Rho) (ft : Rho → Option (Bool × Rho)) (fe : Rho → Option (D × Rho)) : Rho → Option (List D × Rho) := mBind fi fun ds ρ => if ds.length ≤ sizeLine then compRun n js bw fg ft fe ds ρ else none
theorem mt_yes {K : PySem.W.Frag} {O : List Nat} : MT K O tYes (mRet true) := fun Z σ H R ρ b ρ' Q S e k => by
  cases e
  exact k H R S (Stp.refl _ _ _ _)
theorem mn_comp {K : PySem.W.Frag} {O T : List Nat} {n : Nat} {js : List Nat} {bw : Option (Nat × Nat)} {wi : TI} {g : TG} {tt : TT} {te : TE} {fi : Rho → Option (List D × Rho)} {fg : D → Rho → Option Rho} {ft : Rho → Option (Bool × Rho)} {fe : Rho → Option (D × Rho)}
    (hi : MI K O wi fi) (hg : MG K (bwO bw) T g fg) (ht : MT K (bwO bw) tt ft) (he : ME K (bwO bw) te fe) (hb : bwOk n js O bw = true := by decide) (hT : ∀ p, bw = some p → p.2 ∉ T := by decide) : MN K O (tComp n js wi g tt te) (mComp n js bw fi fg ft fe) := fun Z σ H R ρ ds ρ' Q S e k => by
  obtain ⟨xs, ρ1, e1, e⟩ := mBind_some e
  split at e
  · rename_i hz
    refine hi Z σ H R ρ xs ρ1 _ S e1 fun J H1 R1 S1 st1 ok => ?_
    refine cgo_mirror hb hg hT ht he S1 ok e hz fun vs H2 R2 S2 st2 r2 l2 D nD => ?_
    have x := Ext.hid (o := .lst vs) S2.sub nD
    exact k D vs _ _ (S2.ext x) ((st1.trans st2).trans x.stp) ((st1.trans st2).new nD) upd_same (S2.out nD) r2
  · cases e
end L2
set_option Elab.async false
set_option linter.all false
set_option maxRecDepth 100000
set_option maxHeartbeats 4000000
namespace L2
open PySem PySem.Spec PyProof.Rows
inductive Out where
  | nx (ρ : Rho)
  | rt (d : D) (ρ : Rho)
  | bk (ρ : Rho)
  | ct (ρ : Rho)
structure MC where
  K : PySem.W.Frag
  fr : Bool
  P : List Nat
  Ol : List Nat
noncomputable def Res (K : PySem.W.Frag) (fr : Bool) (H : Hp) (v : V) (d : D) (H' R' : Hp) : Prop := match fr with
  | false => Rp K R' v d
  | true => ∃ l vs ds, v = .ref l ∧ d = .lst ds ∧ H l = none ∧ H' l = some (.lst vs) ∧ R' l = none ∧ Rps K R' vs ds
noncomputable def Ends.ok (c : MC) (Z : Anc) (O' : List Nat) (R : Hp) (E : Ends) : Out → Prop
  | .nx ρ' => ∀ σ' H' R', StR c.K Z O' σ' H' R' ρ' → Same R R' → E.nx σ' H'
  | .bk ρ' => ∀ σ' H' R', StR c.K Z c.Ol σ' H' R' ρ' → Same R R' → E.bk σ' H'
  | .ct ρ' => ∀ σ' H' R', StR c.K Z c.Ol σ' H' R' ρ' → Same R R' → E.ct σ' H'
  | .rt d ρ' => ∀ v σ' H' R', StR c.K Z c.P σ' H' R' ρ' → Res c.K c.fr Z.H0 v d H' R' → E.rt v H'
noncomputable def MS (c : MC) (O O' : List Nat) (t : TS) (f : Rho → Option Out) : Prop := ∀ (Z : Anc) (E : Ends) (σ : St) (H R : Hp) (ρ : Rho) (o : Out), Z.P = c.P → StR c.K Z O σ H R ρ → f ρ = some o → E.ok c Z O' R o → t E σ H
noncomputable def subO (c : MC) (O O' : List Nat) : Bool := O'.all (fun i => O.contains i) && c.P.all fun i => !O.contains i || O'.contains i
section
variable {c : MC} {O O' O1 : List Nat} {t u : TS} {te : TE} {tt : TT} {g : TG} {f h : Rho → Option Out} {fe : Rho → Option (D × Rho)} {fn : Rho → Option (List D × Rho)} {ft : Rho → Option (Bool × Rho)} {fg : D → Rho → Option Rho}
theorem StR.sub' {Z : Anc} {σ : St} {H R : Hp} {ρ : Rho} (S : StR c.K Z O σ H R ρ) (hP : Z.P = c.P) (hs : subO c O O' = true) : StR c.K Z O' σ H (frzR O O' σ H R) ρ ∧ Same R (frzR O O' σ H R) := by
  unfold subO at hs
  simp only [Bool.and_eq_true, List.all_eq_true] at hs
  refine S.freeze (fun i hi => by simpa using hs.1 i hi) fun i hi hO => ?_
  rw [hP] at hi
  have z := hs.2 i hi
  simp only [Bool.or_eq_true] at z
  rcases z with z | z
  · simp at z; exact absurd hO z
  · simpa using z
noncomputable def sNil : Rho → Option Out := fun ρ => some (.nx ρ)
theorem ms_nil (hs : subO c O O' = true) : MS c O O' tNext sNil := fun Z E σ H R ρ o hP S e k => by
  cases e
  obtain ⟨S', s⟩ := S.sub' hP hs
  exact k σ H _ S' s
noncomputable def sSeq (f h : Rho → Option Out) : Rho → Option Out := fun ρ => match f ρ with
  | none => none
  | some (.nx ρ1) => h ρ1
  | some o => some o
theorem ms_seq (h1 : MS c O O1 t f) (h2 : MS c O1 O' u h) : MS c O O' (tSeq t u) (sSeq f h) := fun Z E σ H R ρ o hP S e k => by
  unfold sSeq at e
  cases e1 : f ρ with
  | none => rw [e1] at e; cases e
  | some o1 =>
    rw [e1] at e
    cases o1 with
    | nx ρ1 =>
      refine h1 Z _ σ H R ρ _ hP S e1 fun σ' H' R' S' s' => ?_
      refine h2 Z E σ' H' R' ρ1 o hP S' e ?_
      cases o with
      | nx ρ' => exact fun σ2 H2 R2 S2 s2 => k σ2 H2 R2 S2 (s'.trans s2)
      | bk ρ' => exact fun σ2 H2 R2 S2 s2 => k σ2 H2 R2 S2 (s'.trans s2)
      | ct ρ' => exact fun σ2 H2 R2 S2 s2 => k σ2 H2 R2 S2 (s'.trans s2)
      | rt d ρ' => exact k
    | bk ρ1 => cases e; exact h1 Z _ σ H R ρ _ hP S e1 k
    | ct ρ1 => cases e; exact h1 Z _ σ H R ρ _ hP S e1 k
    | rt d ρ1 => cases e; exact h1 Z _ σ H R ρ _ hP S e1 k
noncomputable def sSet (i : Nat) (fe : Rho → Option (D × Rho)) : Rho → Option Out := fun ρ => match fe ρ with
  | none => none
  | some (d, ρ1) => some (.nx (ρ1.set i (some d)))
theorem ms_set {i : Nat} (he : ME c.K O te fe) (hs : subO c O O' = true) (hi : i ∉ O') : MS c O O' (tAsg te (gName i)) (sSet i fe) := fun Z E σ H R ρ o hP S e k => by
  unfold sSet at e
  cases e1 : fe ρ with
  | none => rw [e1] at e; cases e
  | some p =>
    obtain ⟨d, ρ1⟩ := p
    rw [e1] at e
    cases e
    refine he Z σ H R ρ d ρ1 _ S e1 fun v H1 R1 S1 st1 r1 => ?_
    obtain ⟨S2, s2⟩ := S1.sub' hP hs
    exact k _ H1 _ (S2.set hi (r1.mono s2)) (st1.r.trans s2)
noncomputable def sOwn (i : Nat) (fn : Rho → Option (List D × Rho)) : Rho → Option Out := fun ρ => match fn ρ with
  | none => none
  | some (ds, ρ1) => if i < ρ1.length then some (.nx (ρ1.set i (some (.lst ds)))) else none
noncomputable def ownO (c : MC) (i : Nat) (O O' : List Nat) : Bool := subO c O (O'.filter fun j => decide (j ≠ i)) && O'.contains i && !c.P.contains i
theorem ms_own {i : Nat} (he : MN c.K O te fn) (hs : ownO c i O O' = true) : MS c O O' (tAsg te (gName i)) (sOwn i fn) := fun Z E σ H R ρ o hP S e k => by
  unfold sOwn at e
  unfold ownO at hs
  simp only [Bool.and_eq_true] at hs
  cases e1 : fn ρ with
  | none => rw [e1] at e; cases e
  | some p =>
    obtain ⟨ds, ρ1⟩ := p
    rw [e1] at e
    dsimp only at e
    split at e
    · rename_i hlen
      cases e
      refine he Z σ H R ρ ds ρ1 _ S e1 fun l vs H1 R1 S1 st1 h0 hH hR r1 => ?_
      obtain ⟨S2, s2⟩ := S1.sub' hP hs.1.1
      have notown : ∀ j, j ∈ O → σ[j]? ≠ some (some (.ref l)) := S.notnew h0
      have hO' : ∀ j, j ∈ O'.filter (fun j => decide (j ≠ i)) → j ∈ O := fun j hj => by
        have z := hs.1.1
        unfold subO at z
        simp only [Bool.and_eq_true, List.all_eq_true] at z
        simpa using z.1 j hj
      refine k _ H1 _ (S2.take (i := i) (l := l) (vs := .lst vs) (ds := .lst ds) (by simp) (by simpa using hs.1.2) (fun j hj => ?_) (by rw [hP]; simpa using hs.2) hlen (S.new0 h0) hH ?_ (fun j hj => notown j (hO' j hj)) (fun j hj => (List.mem_filter.mp hj).1) (.lst (r1.mono s2))) (st1.r.trans s2)
      · by_cases z : j = i
        · exact .inl z
        · exact .inr (List.mem_filter.mpr ⟨hj, by simpa using z⟩)
      · unfold frzR
        rw [if_neg ?_]
        · exact hR
        · rintro ⟨j, hj, _, z⟩
          exact notown j hj z
    · cases e
noncomputable def sAsg (fe : Rho → Option (D × Rho)) (fg : D → Rho → Option Rho) : Rho → Option Out := fun ρ => match fe ρ with
  | none => none
  | some (d, ρ1) => match fg d ρ1 with
    | none => none
    | some ρ2 => some (.nx ρ2)
noncomputable def sIf (ft : Rho → Option (Bool × Rho)) (f h : Rho → Option Out) : Rho → Option Out := fun ρ => match ft ρ with
  | none => none
  | some (b, ρ1) => if b = true then f ρ1 else h ρ1
theorem ms_if (ht : MT c.K O tt ft) (h1 : MS c O O' t f) (h2 : MS c O O' u h) : MS c O O' (tIfS tt t u) (sIf ft f h) := fun Z E σ H R ρ o hP S e k => by
  unfold sIf at e
  cases e1 : ft ρ with
  | none => rw [e1] at e; cases e
  | some p =>
    obtain ⟨b, ρ1⟩ := p
    rw [e1] at e
    dsimp only at e
    refine ht Z σ H R ρ b ρ1 _ S e1 fun H1 R1 S1 st1 => ?_
    have k' : E.ok c Z O' R1 o := by
      cases o with
      | nx ρ' => exact fun σ2 H2 R2 S2 s2 => k σ2 H2 R2 S2 (st1.r.trans s2)
      | bk ρ' => exact fun σ2 H2 R2 S2 s2 => k σ2 H2 R2 S2 (st1.r.trans s2)
      | ct ρ' => exact fun σ2 H2 R2 S2 s2 => k σ2 H2 R2 S2 (st1.r.trans s2)
      | rt d ρ' => exact k
    cases b with
    | true => exact iteT (h1 Z E σ H1 R1 ρ1 o hP S1 e k')
    | false => exact iteF (h2 Z E σ H1 R1 ρ1 o hP S1 e k')
noncomputable def sRet (fe : Rho → Option (D × Rho)) : Rho → Option Out := fun ρ => match fe ρ with
  | none => none
  | some (d, ρ1) => some (.rt d ρ1)
theorem ms_ret (hf : c.fr = false) (he : ME c.K O te fe) (hs : subO c O c.P = true) : MS c O O' (tRet te) (sRet fe) := fun Z E σ H R ρ o hP S e k => by
  unfold sRet at e
  cases e1 : fe ρ with
  | none => rw [e1] at e; cases e
  | some p =>
    obtain ⟨d, ρ1⟩ := p
    rw [e1] at e
    cases e
    refine he Z σ H R ρ d ρ1 _ S e1 fun v H1 R1 S1 st1 r1 => ?_
    obtain ⟨S2, s2⟩ := S1.sub' hP hs
    refine k v σ H1 _ S2 ?_
    unfold Res
    rw [hf]
    exact r1.mono s2
noncomputable def sRetL (fn : Rho → Option (List D × Rho)) : Rho → Option Out := fun ρ => match fn ρ with
  | none => none
  | some (ds, ρ1) => some (.rt (.lst ds) ρ1)
theorem StR.drop {K : PySem.W.Frag} {Z : Anc} {σ : St} {H R : Hp} {ρ : Rho} {i : Nat} (S : StR K Z O σ H R ρ) (hO : ∀ j, j ∈ O' → j ∈ O ∧ j ≠ i) (hc : ∀ j, j ∈ O → j ≠ i → j ∈ O') : StR K Z O' σ H R (ρ.set i none) := by
  refine ⟨S.sub, by rw [List.length_set]; exact S.len, fun j d hj e => ?_, fun j hj => ?_, fun j k hj hk => S.dis j k (hO j hj).1 (hO k hk).1, S.ah, S.ar, S.an, S.ad, fun j hj => S.ao j (hO j hj).1, fun j hj => S.ap j (hO j hj).1⟩
  · by_cases z : i = j
    · subst z
      have hl : i < ρ.length := by
        have := (List.getElem?_eq_some_iff.mp e).1
        rwa [List.length_set] at this
      rw [List.getElem?_set_self hl] at e
      cases e
    · rw [List.getElem?_set_ne z] at e
      exact S.env j d (fun q => hj (hc j q (Ne.symm z))) e
  · obtain ⟨l, vs, ds, h1, h2⟩ := S.own j (hO j hj).1
    exact ⟨l, vs, ds, by rw [List.getElem?_set_ne (Ne.symm (hO j hj).2)]; exact h1, h2⟩
noncomputable def sRetO (i : Nat) : Rho → Option Out := fun ρ => match ρ[i]? with
  | some (some (.lst xs)) => some (.rt (.lst xs) (ρ.set i none))
  | _ => none
noncomputable def sRetN : Rho → Option Out := fun ρ => some (.rt .non ρ)
noncomputable def sBk : Rho → Option Out := fun ρ => some (.bk ρ)
noncomputable def sCt : Rho → Option Out := fun ρ => some (.ct ρ)
noncomputable def forRun (fg : D → Rho → Option Rho) (fb : Rho → Option Out) : List D → Rho → Option Out
  | [], ρ => some (.nx ρ)
  | d :: r, ρ => match fg d ρ with
    | none => none
    | some ρ1 => match fb ρ1 with
      | none => none
      | some (.nx ρ2) => forRun fg fb r ρ2
      | some (.ct ρ2) => forRun fg fb r ρ2
      | some (.bk ρ2) => some (.nx ρ2)
      | some (.rt d ρ2) => some (.rt d ρ2)
noncomputable def sFor (fi : Rho → Option (List D × Rho)) (fg : D → Rho → Option Rho) (fb : Rho → Option Out) : Rho → Option Out := fun ρ => match fi ρ with
  | none => none
  | some (ds, ρ1) => forRun fg fb ds ρ1
theorem ms_for {T : List Nat} {wi : TI} {fi : Rho → Option (List D × Rho)} {tb : TS} {fb : Rho → Option Out} (hi : MI c.K O wi fi) (hs : subO c O O' = true) (hg : MG c.K O' T g fg) (hb : MS { c with Ol := O' } O' O' tb fb) : MS c O O' (tFor wi g tb) (sFor fi fg fb) := fun Z E σ H R ρ o hP S e k => by
  unfold sFor at e
  cases e1 : fi ρ with
  | none => rw [e1] at e; cases e
  | some p =>
    obtain ⟨ds, ρ1⟩ := p
    rw [e1] at e
    dsimp only at e
    refine hi Z σ H R ρ ds ρ1 _ S e1 fun J H1 R1 S1 st1 ok => ?_
    obtain ⟨S2, s2⟩ := S1.sub' hP hs
    have ok2 := ok.mono s2
    refine ⟨fun i m σ' H' => m = ds.length - i ∧ i ≤ ds.length ∧ ∃ R' ρ', StR c.K Z O' σ' H' R' ρ' ∧ Same (frzR O O' σ H1 R1) R' ∧ forRun fg fb (ds.drop i) ρ' = some o, ⟨ds.length, by simp, Nat.zero_le _, _, ρ1, S2, Same.refl _, by rw [List.drop_zero]; exact e⟩, ?_⟩
    rintro i m σ' H' ⟨rfl, hi', R', ρ', S', s', e'⟩
    obtain ⟨o1, o2⟩ := ok2 H' R' s' S'.sub i
    by_cases hlt : i < ds.length
    · obtain ⟨g1, g2⟩ := o2 ds[i] (List.getElem?_eq_getElem hlt)
      rw [List.drop_eq_getElem_cons hlt] at e'
      refine .inr ⟨g1, fun σ3 H3 => ∃ R3 ρ3, StR c.K Z O' σ3 H3 R3 ρ3 ∧ Same (frzR O O' σ H1 R1) R3 ∧ forRun fg fb (ds.drop (i + 1)) ρ3 = some o, ?_, fun x H3 y => ?_⟩
      · rintro σ3 H3 ⟨R3, ρ3, q1, q2, q3⟩
        exact ⟨ds.length - (i + 1), by omega, rfl, hlt, R3, ρ3, q1, q2, q3⟩
      · obtain ⟨R3, x3, r3⟩ := g2 x H3 y
        have S3 := S'.ext x3
        unfold forRun at e'
        cases e3 : fg ds[i] ρ' with
        | none => rw [e3] at e'; cases e'
        | some ρ4 =>
          rw [e3] at e'
          dsimp only at e'
          refine hg Z σ' H3 R3 ρ' x _ ρ4 _ S3 r3 e3 fun σ4 S4 _ => ?_
          cases e4 : fb ρ4 with
          | none => rw [e4] at e'; cases e'
          | some o4 =>
            rw [e4] at e'
            refine hb Z _ σ4 H3 R3 ρ4 o4 hP S4 e4 ?_
            cases o4 with
            | nx ρ5 => exact fun σ5 H5 R5 S5 s5 => ⟨R5, ρ5, S5, (s'.trans x3.r).trans s5, e'⟩
            | ct ρ5 => exact fun σ5 H5 R5 S5 s5 => ⟨R5, ρ5, S5, (s'.trans x3.r).trans s5, e'⟩
            | bk ρ5 =>
              cases e'
              exact fun σ5 H5 R5 S5 s5 => k σ5 H5 R5 S5 (((st1.r.trans s2).trans s').trans (x3.r.trans s5))
            | rt d ρ5 =>
              cases e'
              exact k
    · have ei : i = ds.length := by omega
      subst ei
      rw [List.drop_length] at e'
      unfold forRun at e'
      cases e'
      exact .inl ⟨o1 rfl, k σ' H' R' S' ((st1.r.trans s2).trans s')⟩
end
end L2
set_option Elab.async false
set_option linter.all false
set_option maxRecDepth 100000
set_option maxHeartbeats 4000000
namespace L2
open PySem PySem.Spec PyProof.Rows
section
variable {c : MC} {O O' : List Nat} {te ti : TE} {fe fi : Rho → Option (D × Rho)} {tr : TA} {fs : Rho → Option (List D × Rho)}
noncomputable def isL (ρ : Rho) (i : Nat) : Bool := match ρ[i]? with
  | some (some (.lst _)) => true
  | _ => false
noncomputable def sMut (g : List D → List D → Option (List D)) (i : Nat) (fs : Rho → Option (List D × Rho)) : Rho → Option Out := fun ρ => if isL ρ i = true then (match fs ρ with
  | none => none
  | some (as, ρ1) => match ρ1[i]? with
    | some (some (.lst xs)) => match g xs as with
      | some ys => some (.nx (ρ1.set i (some (.lst ys))))
      | none => none
    | _ => none) else none
noncomputable def dAppend : List D → List D → Option (List D) := fun xs as => match as with
  | [d] => if xs.length < sizeLine then some (xs ++ [d]) else none
  | _ => none
noncomputable def dInsert0 : List D → List D → Option (List D) := fun xs as => match as with
  | [.int 0, d] => if xs.length < sizeLine then some (d :: xs) else none
  | _ => none
noncomputable def sSetI (i : Nat) (fe fi : Rho → Option (D × Rho)) : Rho → Option Out := fun ρ => match fe ρ with
  | none => none
  | some (d, ρ1) => match fi ρ1 with
    | some (.int k, ρ2) => match ρ2[i]? with
      | some (some (.lst xs)) => match ixN xs.length k with
        | some j => some (.nx (ρ2.set i (some (.lst (xs.set j d)))))
        | none => none
      | _ => none
    | _ => none
theorem ms_setI {i : Nat} (hi : i ∈ O) (he : ME c.K O te fe) (hx : ME c.K O ti fi) (hs : subO c O O' = true) : MS c O O' (tAsg te (gSub (tVar i) ti rSetL)) (sSetI i fe fi) := fun Z E σ H R ρ o hP S e k => by
  unfold sSetI at e
  cases e1 : fe ρ with
  | none => rw [e1] at e; cases e
  | some p =>
    obtain ⟨d, ρ1⟩ := p
    rw [e1] at e
    dsimp only at e
    cases e2 : fi ρ1 with
    | none => rw [e2] at e; cases e
    | some p =>
      obtain ⟨x, ρ2⟩ := p
      rw [e2] at e
      refine he Z σ H R ρ d ρ1 _ S e1 fun v H1 R1 S1 st1 r1 => ?_
      obtain ⟨l, vs, ds, h1, h2, h3, h4, h5⟩ := S1.own i hi
      refine ⟨.ref l, h2, hx Z σ H1 R1 ρ1 x ρ2 _ S1 e2 fun w H2 R2 S2 st2 r2 => ?_⟩
      obtain ⟨l', vs', ds', g1, g2, g3, g4, g5⟩ := S2.own i hi
      rw [h2] at g2
      cases g2
      cases r2 with
      | int j =>
        dsimp only at e
        rw [g1] at e
        cases g5 with
        | dct _ => cases e
        | dit _ => cases e
        | lst g5 =>
        rename_i vs' ds'
        dsimp only at e
        cases e3 : ixN ds'.length j with
        | none => rw [e3] at e; cases e
        | some m =>
          rw [e3] at e
          cases e
          refine ⟨l, vs', j, m, rfl, rfl, g3, by rw [g5.length]; exact e3, ?_⟩
          obtain ⟨S3, s3⟩ := (S2.write hi h2 (.lst (g5.set (r1.mono st2.r) m))).sub' hP hs
          exact k σ _ _ S3 ((st1.r.trans st2.r).trans s3)
      | _ => cases e
noncomputable def sAug (g : Int → Int → Int) (i : Nat) (fe : Rho → Option (D × Rho)) : Rho → Option Out := fun ρ => match ρ[i]? with
  | some (some (.int x)) => match fe ρ with
    | some (.int y, ρ1) => some (.nx (ρ1.set i (some (.int (g x y)))))
    | _ => none
  | _ => none
end
noncomputable def runP (fr : Bool) (n N : Nat) (f : Rho → Option Out) (ds : List D) : Option D := if ds.length = n then match f (ds.map some ++ List.replicate (N - n) none) with
    | some (.rt d _) => some d
    | some (.nx _) => if fr = true then none else some .non
    | _ => none
  else none
noncomputable def spP (K : PySem.W.Frag) (fr : Bool) (n : Nat) (f : List D → Option D) : Sp := fun vs H Q _ => vs.length = n ∧ ∃ R ds d, (∀ a o, R a = some o → H a = some o) ∧ Rps K R vs ds ∧ f ds = some d ∧ ∀ v H' R', Ext H R H' R' → Res K fr H v d H' R' → Q v H'
theorem start_get {N : List Str} {vs : List V} {i : Nat} {v : V} (h : vs[i]? = some v) : (start N vs)[i]? = some (some v) := by
  unfold start
  have hi : i < vs.length := (List.getElem?_eq_some_iff.mp h).1
  rw [List.getElem?_append_left (by simpa using hi), List.getElem?_map, h]
  rfl
theorem slots_get {ds : List D} {m i : Nat} {d : D} (h : (ds.map some ++ List.replicate m none)[i]? = some (some d)) : ds[i]? = some d := by
  by_cases hi : i < ds.length
  · rw [List.getElem?_append_left (by simpa using hi), List.getElem?_map] at h
    cases q : ds[i]? with
    | none => rw [q] at h; cases h
    | some e => rw [q] at h; cases h; rfl
  · rw [List.getElem?_append_right (by simpa using hi), List.getElem?_replicate] at h
    split at h <;> cases h
theorem spP_body {K : PySem.W.Frag} {fr : Bool} {n : Nat} {Nms : List Str} {O' : List Nat} {t : TS} {f : Rho → Option Out} {vs : List V} {H : Hp} {Q : VK} {E : XK} (hm : MS ⟨K, fr, [], []⟩ [] O' t f) (h : spP K fr n (runP fr n Nms.length f) vs H Q E) : t { nx := fun _ H' => Q .non H', rt := Q } (start Nms vs) H := by
  obtain ⟨hn, R, ds, d, sub, r, e, k⟩ := h
  unfold runP at e
  split at e
  · rename_i hl
    have S : StR K ⟨H, R, fun _ => False, []⟩ [] (start Nms vs) H R (ds.map some ++ List.replicate (Nms.length - n) none) := by
      refine ⟨sub, ?_, fun i d _ q => ?_, fun i hi => absurd hi (by simp), fun i j hi => absurd hi (by simp), fun a o q _ => q, Same.refl _, fun a q => .inl q, fun a q => .refl q, fun i hi => absurd hi (by simp), fun i hi => absurd hi (by simp)⟩
      · unfold start
        rw [List.length_append, List.length_append, List.length_map, List.length_map, List.length_replicate, List.length_replicate, hn, hl]
      · obtain ⟨v, h1, h2⟩ := r.get (slots_get q)
        exact ⟨v, start_get h1, h2⟩
    have ext : ∀ {O1 : List Nat} {σ' : St} {H' R' : Hp} {ρ' : Rho}, StR K ⟨H, R, fun _ => False, []⟩ O1 σ' H' R' ρ' → Ext H R H' R' := fun S' => ⟨fun a o q => S'.ah a o q (fun z => z), S'.ar, S'.sub, S'.an⟩
    cases e1 : f (ds.map some ++ List.replicate (Nms.length - n) none) with
    | none => rw [e1] at e; cases e
    | some o =>
      rw [e1] at e
      refine hm _ _ _ _ _ _ o rfl S e1 ?_
      cases o with
      | nx ρ' =>
        dsimp only at e
        split at e
        · cases e
        · rename_i hf
          cases e
          refine fun σ' H' R' S' _ => k .non H' R' (ext S') ?_
          cases fr with
          | false => exact .non
          | true => exact absurd rfl hf
      | bk ρ' => cases e
      | ct ρ' => cases e
      | rt d' ρ' =>
        cases e
        exact fun v σ' H' R' S' q => k v H' R' (ext S') q
  · cases e
noncomputable def runS (fr : Bool) (n N : Nat) (f : Rho → Option Out) (xs ds : List D) : Option (D × List D) := if ds.length + 1 = n then match f (some (.lst xs) :: (ds.map some ++ List.replicate (N - n) none)) with
    | some (.rt d ρ) => (match (ρ[0]? : Option (Option D)) with
      | some (some (D.lst ys)) => some (d, ys)
      | _ => none)
    | some (.nx ρ) => if fr = true then none else (match (ρ[0]? : Option (Option D)) with
      | some (some (D.lst ys)) => some (.non, ys)
      | _ => none)
    | _ => none
  else none
structure ExtS (l : Addr) (H R H' R' : Hp) : Prop where
  h : ∀ a o, a ≠ l → H a = some o → H' a = some o
  r : Same R R'
  s : ∀ a o, R' a = some o → H' a = some o
  n : ∀ a, R' a ≠ none → R a ≠ none ∨ Frh H a
  d : ∀ a, H a ≠ none → Liv H H' a
noncomputable def spS (K : PySem.W.Frag) (fr : Bool) (n : Nat) (f : List D → List D → Option (D × List D)) : Sp := fun vs H Q _ => vs.length = n ∧ ∃ l ws R us xs ds d ys, vs = .ref l :: ws ∧ H l = some (.lst us) ∧ R l = none ∧ (∀ a o, R a = some o → H a = some o) ∧ Rps K R us xs ∧ Rps K R ws ds ∧ f xs ds = some (d, ys) ∧
  ∀ v H' R' us', ExtS l H R H' R' → H' l = some (.lst us') → R' l = none → Rps K R' us' ys → Res K fr H v d H' R' → Q v H'
theorem spS_body {K : PySem.W.Frag} {fr : Bool} {n : Nat} {Nms : List Str} {O' : List Nat} {t : TS} {f : Rho → Option Out} {vs : List V} {H : Hp} {Q : VK} {E : XK} (hm : MS ⟨K, fr, [0], []⟩ [0] [0] t f) (h : spS K fr n (runS fr n Nms.length f) vs H Q E) : t { nx := fun _ H' => Q .non H', rt := Q } (start Nms vs) H := by
  obtain ⟨hn, l, ws, R, us, xs, ds, d, ys, rfl, hH, hR, sub, ru, r, e, k⟩ := h
  unfold runS at e
  split at e
  · rename_i hl
    have ln : ws.length + 1 = n := by simpa using hn
    have S : StR K ⟨H, R, fun a => a = l, [0]⟩ [0] (start Nms (.ref l :: ws)) H R (some (.lst xs) :: (ds.map some ++ List.replicate (Nms.length - n) none)) := by
      have one : ∀ i, i ∈ [0] → i = 0 := fun i hi => by simpa using hi
      refine ⟨sub, ?_, fun i d hi q => ?_, fun i hi => ?_, fun i j hi hj z => absurd ((one i hi).trans (one j hj).symm) z, fun a o q _ => q, Same.refl _, fun a q => .inl q, fun a q => .refl q, fun i hi z => absurd hi z, fun i hi _ a q => ?_⟩
      · unfold start
        simp only [List.map_cons, List.cons_append, List.length_cons, List.length_append, List.length_map, List.length_replicate]
        omega
      · cases i with
        | zero => exact absurd (by simp) hi
        | succ i =>
          rw [List.getElem?_cons_succ] at q
          obtain ⟨v, h1, h2⟩ := r.get (slots_get q)
          exact ⟨v, start_get (by rw [List.getElem?_cons_succ]; exact h1), h2⟩
      · cases one i hi
        exact ⟨l, .lst us, .lst xs, rfl, rfl, hH, hR, .lst ru⟩
      · cases one i hi
        have q' : some (some (V.ref l)) = some (some (V.ref a)) := q
        cases q'
        rfl
    have ext : ∀ {σ' : St} {H' R' : Hp} {ρ' : Rho}, StR K ⟨H, R, fun a => a = l, [0]⟩ [0] σ' H' R' ρ' → ExtS l H R H' R' ∧ ∃ us' zs, ρ'[0]? = some (some zs) ∧ H' l = some us' ∧ R' l = none ∧ Ob K R' us' zs := fun {σ' H' R' ρ'} S' => by
      refine ⟨⟨fun a o n q => S'.ah a o q n, S'.ar, S'.sub, S'.an, S'.ad⟩, ?_⟩
      obtain ⟨l', us', zs, h1, h2, h3, h4, h5⟩ := S'.own 0 (by simp)
      have el : l' = l := S'.ap 0 (by simp) (by simp) l' h2
      subst el
      exact ⟨us', zs, h1, h3, h4, h5⟩
    cases e1 : f (some (.lst xs) :: (ds.map some ++ List.replicate (Nms.length - n) none)) with
    | none => rw [e1] at e; cases e
    | some o =>
      rw [e1] at e
      refine hm _ _ _ _ _ _ o rfl S e1 ?_
      cases o with
      | nx ρ' =>
        dsimp only at e
        split at e
        · cases e
        · rename_i hf
          refine fun σ' H' R' S' _ => ?_
          obtain ⟨x, us', zs, q1, q2, q3, q4⟩ := ext S'
          rw [q1] at e
          cases q4 with
          | dct _ => cases e
          | dit _ => cases e
          | lst q4 =>
          cases e
          refine k .non H' R' _ x q2 q3 q4 ?_
          cases fr with
          | false => exact .non
          | true => exact absurd rfl hf
      | bk ρ' => cases e
      | ct ρ' => cases e
      | rt d' ρ' =>
        dsimp only at e
        refine fun v σ' H' R' S' q => ?_
        obtain ⟨x, us', zs, q1, q2, q3, q4⟩ := ext S'
        rw [q1] at e
        cases q4 with
        | dct _ => cases e
        | dit _ => cases e
        | lst q4 =>
        cases e
        exact k v H' R' _ x q2 q3 q4 q
  · cases e
section
variable {K : PySem.W.Frag} {O : List Nat} {tr : TA} {fs : Rho → Option (List D × Rho)} {E : XK} {n : Nat}
noncomputable def mCall (f : List D → Option D) (fs : Rho → Option (List D × Rho)) : Rho → Option (D × Rho) := mBind fs fun ds => mLift (f ds)
noncomputable def runsN (n : Nat) (f : List D → Option D) : Prop := ∀ ds d, f ds = some d → ds.length = n
theorem runP_n {fr : Bool} {n N : Nat} {f : Rho → Option Out} : runsN n (runP fr n N f) := fun ds d e => by
  unfold runP at e
  split at e
  · assumption
  · cases e
theorem me_callP {f : List D → Option D} (hf : runsN n f) (h : MA K O tr fs) : ME K O (tCall (spP K false n f) [] E tr) (mCall f fs) := fun Z σ H R ρ d ρ' Q S e k => by
  obtain ⟨ds, ρ1, e1, e⟩ := mBind_some e
  obtain ⟨e2, rfl⟩ := mLift_some e
  refine h Z σ H R ρ ds _ _ S e1 fun vs H1 R1 S1 st1 r1 => ?_
  show spP K false n f (vs ++ []) H1 Q E
  rw [List.append_nil]
  exact ⟨by rw [r1.length]; exact hf ds d e2, R1, ds, d, S1.sub, r1, e2, fun v H2 R2 x q => k v H2 R2 (S1.ext x) (st1.trans x.stp) q⟩
noncomputable def lstOf (o : Option D) : Option (List D) := match o with
  | some (.lst ds) => some ds
  | _ => none
noncomputable def mCallL (f : List D → Option D) (fs : Rho → Option (List D × Rho)) : Rho → Option (List D × Rho) := mBind fs fun ds => mLift (lstOf (f ds))
noncomputable def mCallS (f : List D → List D → Option (D × List D)) (i : Nat) (fs : Rho → Option (List D × Rho)) : Rho → Option (D × Rho) := mBind fs fun ds ρ => match ρ[i]? with
  | some (some (.lst xs)) => match f xs ds with
    | some (d, ys) => some (d, ρ.set i (some (.lst ys)))
    | none => none
  | _ => none
noncomputable def runsS (n : Nat) (f : List D → List D → Option (D × List D)) : Prop := ∀ xs ds r, f xs ds = some r → ds.length + 1 = n
theorem runS_n {fr : Bool} {n N : Nat} {f : Rho → Option Out} : runsS n (runS fr n N f) := fun xs ds r e => by
  unfold runS at e
  split at e
  · assumption
  · cases e
theorem me_callS {f : List D → List D → Option (D × List D)} {i : Nat} (hf : runsS n f) (hi : i ∈ O) (h : MA K O tr fs) : ME K O (tCall (spS K false n f) [] E (tCons (tVar i) tr)) (mCallS f i fs) := fun Z σ H R ρ d ρ' Q S e k => by
  obtain ⟨ds, ρ1, e1, e⟩ := mBind_some e
  obtain ⟨l, vs0, ds0, h1, h2, h3, h4, h5⟩ := S.own i hi
  refine ⟨.ref l, h2, h Z σ H R ρ ds ρ1 _ S e1 fun vs H1 R1 S1 st1 r1 => ?_⟩
  obtain ⟨l', us, xs, g1, g2, g3, g4, g5⟩ := S1.own i hi
  rw [h2] at g2
  cases g2
  rw [g1] at e
  cases g5 with
  | dct _ => cases e
  | dit _ => cases e
  | lst g5 =>
  rename_i us xs
  dsimp only at e
  cases e2 : f xs ds with
  | none => rw [e2] at e; cases e
  | some p =>
    obtain ⟨d', ys⟩ := p
    rw [e2] at e
    cases e
    show spS K false n f (.ref l :: vs ++ []) H1 Q E
    rw [List.append_nil]
    refine ⟨by rw [List.length_cons, r1.length]; exact hf _ _ _ e2, l, vs, R1, us, xs, ds, d, ys, rfl, g3, g4, S1.sub, g5, r1, e2, fun v H2 R2 us' x hH hR ru q => ?_⟩
    have hlen : i < ρ1.length := (List.getElem?_eq_some_iff.mp g1).1
    have st2 : Stp O σ H1 R1 H2 R2 := ⟨x.r, fun a o e n => x.h a o (fun z => by subst z; exact n i hi h2) e, x.n, x.d⟩
    have other : ∀ j, j ∈ O → i ≠ j → ∀ m, σ[j]? = some (some (.ref m)) → m ≠ l := fun j hj n m e z => by
      subst z
      exact S1.dis i j hi hj n m h2 e
    refine k v H2 R2 ⟨x.s, by rw [List.length_set]; exact S1.len, fun j e hj q => ?_, fun j hj => ?_, S1.dis, fun a o e n => ?_, S1.ar.trans x.r, fun a h => ?_, fun a h => (S1.ad a h).trans (x.d a (S1.ad a h).1), S1.ao, S1.ap⟩ (st1.trans st2) q
    · have n : i ≠ j := fun z => hj (z ▸ hi)
      rw [List.getElem?_set_ne n] at q
      obtain ⟨w, q1, q2⟩ := S1.env j e hj q
      exact ⟨w, q1, q2.mono x.r⟩
    · by_cases n : i = j
      · subst n
        exact ⟨l, .lst us', .lst ys, by rw [List.getElem?_set_self hlen], h2, hH, hR, .lst ru⟩
      · obtain ⟨m, vs', ds', q1, q2, q3, q4, q5⟩ := S1.own j hj
        refine ⟨m, vs', ds', by rw [List.getElem?_set_ne n]; exact q1, q2, x.h _ _ (other j hj n m q2) q3, ?_, q5.mono x.r⟩
        cases z : R2 m with
        | none => rfl
        | some o =>
          rcases x.n m (by rw [z]; exact fun y => nomatch y) with y | y
          · exact absurd q4 y
          · exact (q5.noF q3 y).elim
    · have ne : a ≠ l := fun z => by
        subst z
        by_cases hp : i ∈ Z.P
        · exact n (S1.ap i hi hp a h2)
        · rw [S1.ao i hi hp a h2] at e; cases e
      exact x.h a o ne (S1.ah a o e n)
    · rcases x.n a h with z | z
      · exact S1.an a z
      · exact .inr (z.back (S1.ad a))
end
end L2
set_option Elab.async false
set_option linter.all false
set_option maxRecDepth 100000
set_option maxHeartbeats 4000000
namespace L2
open PySem PySem.Spec PyProof.Rows
noncomputable def rCatS (K : PySem.W.Frag) : R2 := fun x y H Q => ∃ l b xs zs, x = .ref l ∧ y = .ref b ∧ SqL K H l xs ∧ SqL K H b zs ∧ xs.length + zs.length ≤ sizeLine ∧ ∀ p, H p = none → Q (.ref p) (upd H p (.lst (xs ++ zs)))
noncomputable def rCatU (K : PySem.W.Frag) : R2 := fun x y H Q => ∃ a b xs ys, x = .ref a ∧ y = .ref b ∧ SqT K H a xs ∧ SqT K H b ys ∧ xs.length + ys.length ≤ sizeLine ∧
  (xs = [] → Q (.ref b) H) ∧ (xs ≠ [] → ys = [] → Q (.ref a) H) ∧ (xs ≠ [] → ys ≠ [] → ∀ p, H p = none → Q (.ref p) (upd H p (.tup (xs ++ ys))))
section
variable {X : Cx} {K : PySem.W.Frag}
theorem op_catS (hK : X.K = K) : OpR X (binaryOp .Add) (rCatS K) := by
  subst hK
  intro pins s σ H x y v u Q I rx ry h
  obtain ⟨l, b, xs, zs, rfl, rfl, hH, hB, hz, q⟩ := h
  cases rx
  cases ry
  obtain ⟨its, r, pl, z⟩ := I.list hH
  obtain ⟨its2, r2, pl2, z2⟩ := I.list hB
  obtain ⟨⟨cls, dd, data, sl⟩, ho, hc, n, hd⟩ := pl.isList
  obtain ⟨⟨cls2, dd2, data2, sl2⟩, ho2, hc2, n2, hd2⟩ := pl2.isList
  simp only at hc hd hc2 hd2
  subst hc hd hc2 hd2
  have e : its.toArray ++ its2.toArray = (its ++ its2).toArray := by simp
  refine concat_meets ⟨_, ho, rfl⟩ ⟨_, ho2, rfl⟩ noFill_list_add seq_list_add PySem.F.slot_list_add PySem.F.entry_list_add (PySem.F.args_list_add_2 _ _) (list_addW l b its.toArray its2.toArray n n2 dd dd2 sl sl2 (by rw [List.size_toArray, List.size_toArray, ← r.length, ← r2.length]; exact hz)) ⟨ho, ho2, ?_⟩
  rw [e]
  exact ⟨.ref _, _, I.lnew (t' := s.toks) (r.append r2) (by rw [List.length_append]; omega), rfl, q _ I.fresh⟩
theorem op_catU (hK : X.K = K) : OpR X (binaryOp .Add) (rCatU K) := by
  subst hK
  intro pins s σ H x y v u Q I rx ry h
  obtain ⟨a, b, xs, ys, rfl, rfl, ha, hb, hz, q0, q1, q2⟩ := h
  cases rx
  cases ry
  obtain ⟨its, r1, p1, _⟩ := I.tuple ha
  obtain ⟨its2, r2, p2, _⟩ := I.tuple hb
  obtain ⟨⟨cls, dd, data, sl⟩, ho, hc, n, hd⟩ := id p1
  obtain ⟨⟨cls2, dd2, data2, sl2⟩, ho2, hc2, n2, hd2⟩ := id p2
  simp only at hc hd hc2 hd2
  subst hc hd hc2 hd2
  have e : its.toArray ++ its2.toArray = (its ++ its2).toArray := by simp
  by_cases hv : its = []
  · exact concat_meets ⟨_, ho, rfl⟩ ⟨_, ho2, rfl⟩ noFill_tuple_add seq_tuple_add PySem.F.slot_tuple_add PySem.F.entry_tuple_add (PySem.F.args_tuple_add_2 _ _)
      (tuple_addW0 a b its.toArray its2.toArray n n2 dd dd2 sl sl2 (by simp [hv])) ⟨ho, ho2, ⟨.ref b, H, I, rfl, q0 (r1.nil_iff.mp hv)⟩⟩
  · have hx : xs ≠ [] := fun z => hv (r1.nil_iff.mpr z)
    by_cases hw : its2 = []
    · exact concat_meets ⟨_, ho, rfl⟩ ⟨_, ho2, rfl⟩ noFill_tuple_add seq_tuple_add PySem.F.slot_tuple_add PySem.F.entry_tuple_add (PySem.F.args_tuple_add_2 _ _)
        (tuple_addW1 a b its.toArray its2.toArray n n2 dd dd2 sl sl2 (by simpa using hv) (by simp [hw])) ⟨ho, ho2, ⟨.ref a, H, I, rfl, q1 hx (r2.nil_iff.mp hw)⟩⟩
    · refine concat_meets ⟨_, ho, rfl⟩ ⟨_, ho2, rfl⟩ noFill_tuple_add seq_tuple_add PySem.F.slot_tuple_add PySem.F.entry_tuple_add (PySem.F.args_tuple_add_2 _ _)
        (tuple_addW2 a b its.toArray its2.toArray n n2 dd dd2 sl sl2 (by simpa using hv) (by simpa using hw) (by rw [List.size_toArray, List.size_toArray, ← r1.length, ← r2.length]; exact hz)) ⟨ho, ho2, ?_⟩
      rw [e]
      refine ⟨.ref s.heap.objs.size, _, I.laid (t' := s.toks) (o := .tup (xs ++ ys)) (fun b ob q => Heap.get?_push_of_some _ q) (Nat.le_refl _) ?_, rfl, q2 hx (fun w => hw (r2.nil_iff.mpr w)) _ (I.hok.fresh (Nat.le_refl _))⟩
      exact ⟨by rw [List.length_append]; exact hz, _, r1.append r2, TupN.new _ _⟩
noncomputable def rAddG (K : PySem.W.Frag) : R2 := fun x y H Q => rI0 (fun i j => .int (i + j)) x y H Q ∨ rCatS K x y H Q ∨ rCatU K x y H Q ∨ ∃ i j, x = .str i ∧ y = .str j ∧ i.length + j.length ≤ sizeLine ∧ Q (.str (i ++ j)) H
theorem op_addG (hK : X.K = K) : OpR X (binaryOp .Add) (rAddG K) := op_add.or ((op_catS hK).or ((op_catU hK).or op_add_str))
end
section
variable {K : PySem.W.Frag} {O : List Nat}
noncomputable def dAdd : D → D → Option D
  | .int i, .int j => some (.int (i + j))
  | .lst xs, .lst ys => if xs.length + ys.length ≤ sizeLine then some (.lst (xs ++ ys)) else none
  | .tup xs, .tup ys => if xs.length + ys.length ≤ sizeLine then some (.tup (xs ++ ys)) else none
  | .str x, .str y => if x.length + y.length ≤ sizeLine then some (.str (x ++ y)) else none
  | _, _ => none
theorem og_add : OpG K (rAddG K) dAdd := fun H R x y d e u Q s rx ry q k => by
  unfold dAdd at q
  split at q
  · rename_i i j
    cases q
    cases rx
    cases ry
    exact .inl ⟨i, j, rfl, rfl, k _ H R (Ext.refl s) (.int _)⟩
  · split at q
    · rename_i hz
      cases q
      cases rx with
      | @lst a1 xs ds h r =>
        cases ry with
        | @lst a2 ys es h2 r2 =>
          refine .inr (.inl ⟨_, _, _, _, rfl, rfl, Same.sqL s h, Same.sqL s h2, by rw [r.length, r2.length]; exact hz, fun p np => ?_⟩)
          have x := Ext.new (o := .lst (xs ++ ys)) s np
          exact k _ _ _ x (.lst (SqL.of upd_same) ((r.append r2).mono x.r))
    · cases q
  · split at q
    · rename_i hz
      cases q
      cases rx with
      | @tup a1 xs ds h r =>
        cases ry with
        | @tup a2 ys es h2 r2 =>
          refine .inr (.inr (.inl ⟨_, _, _, _, rfl, rfl, SqT.of (s _ _ h), SqT.of (s _ _ h2), by rw [r.length, r2.length]; exact hz, fun z => ?_, fun _ z => ?_, fun _ _ p np => ?_⟩))
          · subst z
            cases r
            exact k _ H R (Ext.refl s) (.tup h2 r2)
          · subst z
            cases r2
            rw [List.append_nil] at k
            exact k _ H R (Ext.refl s) (.tup h r)
          · have x := Ext.new (o := .tup (xs ++ ys)) s np
            exact k _ _ _ x (.tup upd_same ((r.append r2).mono x.r))
    · cases q
  · rename_i i j
    split at q
    · rename_i hz
      cases q
      cases rx
      cases ry
      exact .inr (.inr (.inr ⟨i, j, rfl, rfl, hz, k _ H R (Ext.refl s) (.str _)⟩))
    · cases q
  · cases q
noncomputable def mOp2L (g : D → D → Option (List D)) (fa fb : Rho → Option (D × Rho)) : Rho → Option (List D × Rho) := mBind fa fun x => mBind fb fun y => mLift (g x y)
noncomputable def dCatL : D → D → Option (List D)
  | .lst xs, .lst ys => if xs.length + ys.length ≤ sizeLine then some (xs ++ ys) else none
  | _, _ => none
end
mutual
noncomputable def D.toP : D → Option PyData
  | .non => some .none
  | .bl b => some (.bool b)
  | .int i => some (.int i)
  | .str x => some (.str x)
  | .lst xs => (D.toPs xs).map PyData.list
  | .tup xs => (D.toPs xs).map PyData.tuple
  | .obj _ _ => none
  | .dct _ => none
  | .exc _ => none
  | .fn _ => none
  | .dit _ => none
noncomputable def D.toPs : List D → Option (List PyData)
  | [] => some []
  | d :: r => match D.toP d, D.toPs r with
    | some p, some ps => some (p :: ps)
    | _, _ => none
end
section
variable {K : PySem.W.Frag} {O : List Nat} {R : Hp}
mutual
theorem Rp.dv : ∀ {v : V} {d : D} {p : PyData}, Rp K R v d → d.toP = some p → DV K R v p
  | _, _, p, .non, e => by simp only [D.toP] at e; cases e; exact .non
  | _, _, p, .bl b, e => by simp only [D.toP] at e; cases e; exact .bl b
  | _, _, p, .int i, e => by simp only [D.toP] at e; cases e; exact .int i
  | _, _, p, .str x, e => by simp only [D.toP] at e; cases e; exact .str x
  | _, _, p, .lst (ds := ds) h r, e => by
    simp only [D.toP] at e
    cases z : D.toPs ds with
    | none => rw [z] at e; cases e
    | some ps => rw [z] at e; cases e; exact .lst h (Rps.dvs r z)
  | _, _, p, .tup (ds := ds) h r, e => by
    simp only [D.toP] at e
    cases z : D.toPs ds with
    | none => rw [z] at e; cases e
    | some ps => rw [z] at e; cases e; exact .tup (SqT.of h) (Rps.dvs r z)
  | _, _, p, .obj n h r, e => by simp only [D.toP] at e; cases e
  | _, _, p, .dct h r, e => by simp only [D.toP] at e; cases e
  | _, _, p, .exc _ _ _, e => by simp only [D.toP] at e; cases e
  | _, _, p, .fn _, e => by simp only [D.toP] at e; cases e
  | _, _, p, .dit h r, e => by simp only [D.toP] at e; cases e
theorem Rps.dvs : ∀ {xs : List V} {ds : List D} {ps : List PyData}, Rps K R xs ds → D.toPs ds = some ps → DVs K R xs ps
  | _, _, ps, .nil, e => by simp only [D.toPs] at e; cases e; exact .nil
  | _, _, ps, .cons (d := d) (ds := ds) h r, e => by
    simp only [D.toPs] at e
    cases z : d.toP with
    | none => rw [z] at e; cases e
    | some p =>
      cases w : D.toPs ds with
      | none => rw [z, w] at e; cases e
      | some qs => rw [z, w] at e; cases e; exact .cons (Rp.dv h z) (Rps.dvs r w)
end
noncomputable def eqD (d e : D) : Option Bool := match d.toP, e.toP with
  | some p, some q => if SeqAt.shaped p = true ∧ SeqAt.shaped q = true then some (PyData.eqv p q) else none
  | _, _ => none
noncomputable def dEq (d e : D) : Option D := (eqD d e).map .bl
noncomputable def dNe (d e : D) : Option D := (eqD d e).map fun b => .bl (!b)
theorem eqD_some {d e : D} {b : Bool} (h : eqD d e = some b) : ∃ p q, d.toP = some p ∧ e.toP = some q ∧ SeqAt.shaped p = true ∧ SeqAt.shaped q = true ∧ PyData.eqv p q = b := by
  unfold eqD at h
  cases h1 : d.toP with
  | none => rw [h1] at h; cases h
  | some p =>
    cases h2 : e.toP with
    | none => rw [h1, h2] at h; cases h
    | some q =>
      rw [h1, h2] at h
      dsimp only at h
      split at h
      · rename_i z
        exact ⟨p, q, rfl, rfl, z.1, z.2, Option.some.inj h⟩
      · cases h
theorem os_eq : OpS K (rEqD K) dEq := fun H x y d e u Q rx ry q k => by
  unfold dEq at q
  cases h : eqD d e with
  | none => rw [h] at q; cases q
  | some b =>
    rw [h] at q
    cases q
    obtain ⟨p, r, h1, h2, h3, h4, h5⟩ := eqD_some h
    refine ⟨p, r, rx.dv h1, ry.dv h2, h3, h4, ?_⟩
    rw [h5]
    exact k _ (.bl _)
theorem os_ne : OpS K (rNeD K) dNe := fun H x y d e u Q rx ry q k => by
  unfold dNe at q
  cases h : eqD d e with
  | none => rw [h] at q; cases q
  | some b =>
    rw [h] at q
    cases q
    obtain ⟨p, r, h1, h2, h3, h4, h5⟩ := eqD_some h
    refine ⟨p, r, rx.dv h1, ry.dv h2, h3, h4, ?_⟩
    rw [h5]
    exact k _ (.bl _)
noncomputable def dIsN (d e : D) : Option D := match e with
  | .non => some (.bl (match d with | .non => true | _ => false))
  | _ => none
noncomputable def dNotN (d e : D) : Option D := match e with
  | .non => some (.bl (match d with | .non => false | _ => true))
  | _ => none
end
end L2
set_option Elab.async false
set_option linter.all false
set_option maxRecDepth 100000
set_option maxHeartbeats 4000000
namespace L2
open PySem PySem.Spec PyProof.Rows
section
variable {K : PySem.W.Frag} {O : List Nat} {t ta tb tc : TE} {tr : TA} {fa fb fc : Rho → Option (D × Rho)} {fs : Rho → Option (List D × Rho)}
noncomputable def mOp1L (g : D → Option (List D)) (f : Rho → Option (D × Rho)) : Rho → Option (List D × Rho) := mBind f fun x => mLift (g x)
noncomputable def dSeq : D → Option (List D)
  | .lst xs => some xs
  | .tup xs => some xs
  | _ => none
noncomputable def dTuple : D → Option D
  | .lst xs => some (.tup xs)
  | .tup xs => some (.tup xs)
  | _ => none
noncomputable def MO (K : PySem.W.Frag) (O : List Nat) (t : TO) (f : Rho → Option (Option Int × Rho)) : Prop := ∀ (Z : Anc) (σ : St) (H R : Hp) (ρ : Rho) (o : Option Int) (ρ' : Rho) (Q : Option Int → Hp → Prop), StR K Z O σ H R ρ → f ρ = some (o, ρ') → (∀ H' R', StR K Z O σ H' R' ρ' → Stp O σ H R H' R' → Q o H') → t σ H Q
theorem mo_none : MO K O tNoPart (mRet none) := fun Z σ H R ρ o ρ' Q S e k => by
  cases e
  exact k H R S (Stp.refl _ _ _ _)
noncomputable def mPart (f : Rho → Option (D × Rho)) : Rho → Option (Option Int × Rho) := mBind f fun d => mLift (match d with
  | .int i => some (some i)
  | _ => none)
theorem mo_some (h : ME K O t fa) : MO K O (tPart t) (mPart fa) := fun Z σ H R ρ o ρ' Q S e k => by
  obtain ⟨x, ρ1, e1, e⟩ := mBind_some e
  obtain ⟨e2, rfl⟩ := mLift_some e
  refine h Z σ H R ρ x _ _ S e1 fun v H1 R1 S1 st1 r1 => ?_
  cases r1 with
  | int i => cases e2; exact ⟨i, rfl, k H1 R1 S1 st1⟩
  | _ => cases e2
noncomputable def cutD (xs : List D) (lo hi : Option Int) : List D := (xs.drop (HT.sIx xs.length 0 lo)).take (HT.sIx xs.length xs.length hi - HT.sIx xs.length 0 lo)
theorem Rps.cut {R : Hp} {xs : List V} {ds : List D} (r : Rps K R xs ds) (lo hi : Option Int) : Rps K R (cutV xs lo hi) (cutD ds lo hi) := by
  unfold cutV cutD
  rw [r.length]
  exact (r.drop _).take _
noncomputable def rSlG (K : PySem.W.Frag) : V → Option Int → Option Int → Hp → VK → Prop := fun x lo hi H Q => rSlL K x lo hi H Q ∨ rSlT K x lo hi H Q
theorem sl_seqK {X : Cx} (h : X.K = K) : SlR X (rSlG K) := by
  subst h
  exact sl_list.or sl_tup
noncomputable def dSl (d : D) (lo hi : Option Int) : Option D := match d with
  | .lst xs => some (.lst (cutD xs lo hi))
  | .tup xs => if HT.sIx xs.length 0 lo = 0 ∧ HT.sIx xs.length xs.length hi = xs.length then none else some (.tup (cutD xs lo hi))
  | _ => none
noncomputable def mSl (f : Rho → Option (D × Rho)) (fl fh : Rho → Option (Option Int × Rho)) : Rho → Option (D × Rho) := mBind f fun d => mBind fl fun lo => mBind fh fun hi => mLift (dSl d lo hi)
theorem me_slice {tl th : TO} {fl fh : Rho → Option (Option Int × Rho)} (h : ME K O t fa) (hl : MO K O tl fl) (hh : MO K O th fh) : ME K O (tSl (rSlG K) t tl th) (mSl fa fl fh) := fun Z σ H R ρ d ρ' Q S e k => by
  obtain ⟨x, ρ1, e1, e⟩ := mBind_some e
  obtain ⟨lo, ρ2, e2, e⟩ := mBind_some e
  obtain ⟨hi, ρ3, e3, e⟩ := mBind_some e
  obtain ⟨e4, rfl⟩ := mLift_some e
  refine h Z σ H R ρ x _ _ S e1 fun v H1 R1 S1 st1 r1 => hl Z σ H1 R1 ρ1 lo _ _ S1 e2 fun H2 R2 S2 st2 => hh Z σ H2 R2 ρ2 hi _ _ S2 e3 fun H3 R3 S3 st3 => ?_
  have r3 := (r1.mono st2.r).mono st3.r
  have st := (st1.trans st2).trans st3
  cases r3 with
  | @lst a xs ds q r =>
    cases e4
    refine .inl ⟨a, xs, rfl, Same.sqL S3.same q, fun p np => ?_⟩
    have y := Ext.new (o := .lst (cutV xs lo hi)) S3.sub np
    exact k _ _ _ (S3.ext y) (st.trans y.stp) (.lst (SqL.of upd_same) ((r.cut lo hi).mono y.r))
  | @tup a xs ds q r =>
    have e5 : (if HT.sIx ds.length 0 lo = 0 ∧ HT.sIx ds.length ds.length hi = ds.length then none else some (D.tup (cutD ds lo hi))) = some d := e4
    split at e5
    · cases e5
    · rename_i hn
      cases e5
      refine .inr ⟨a, xs, rfl, SqT.of (S3.same _ _ q), by rw [r.length]; exact hn, fun p np => ?_⟩
      have y := Ext.new (o := .tup (cutV xs lo hi)) S3.sub np
      exact k _ _ _ (S3.ext y) (st.trans y.stp) (.tup upd_same ((r.cut lo hi).mono y.r))
  | _ => cases e4
noncomputable def mSlL (f : Rho → Option (D × Rho)) (fl fh : Rho → Option (Option Int × Rho)) : Rho → Option (List D × Rho) := mBind f fun d => mBind fl fun lo => mBind fh fun hi => mLift (match d with
  | .lst xs => some (cutD xs lo hi)
  | _ => none)
noncomputable def mChain (g g' : D → D → Option D) (fa fb fc : Rho → Option (D × Rho)) : Rho → Option (D × Rho) := mBind fa fun x => mBind fb fun y => mBind (mTest (mLift (g x y))) fun b => if b = true then mBind fc fun z => mLift (g' y z) else mRet (.bl false)
theorem os_b0 {g : Int → Int → Bool} : OpS K (rI0 fun i j => .bl (g i j)) (dB0 g) := fun H x y d e u Q rx ry q k => by
  unfold dB0 at q
  split at q
  · rename_i i j
    cases q
    cases rx
    cases ry
    exact ⟨i, j, rfl, rfl, k _ (.bl _)⟩
  · cases q
noncomputable def flatD : D → Bool
  | .non => true
  | .bl _ => true
  | .int _ => true
  | .str _ => true
  | _ => false
noncomputable def mDivmod (f : Rho → Option (List D × Rho)) : Rho → Option (D × Rho) := mBind f fun ds => mLift (match ds with
  | [.int i, .int j] => if 0 < j ∧ j < 1073741824 then some (.tup [.int (i / j), .int (i % j)]) else none
  | _ => none)
noncomputable def mMM (g : Int → Int → Int) (f : Rho → Option (List D × Rho)) : Rho → Option (D × Rho) := mBind f fun ds => mLift (match ds with
  | [.int i, .int j] => some (.int (g i j))
  | _ => none)
noncomputable def zipD (xs ys : List D) : List D := List.zipWith (fun x y => D.tup [x, y]) xs ys
noncomputable def mZip (f : Rho → Option (List D × Rho)) : Rho → Option (List D × Rho) := mBind f fun ds => mLift (match ds with
  | [x, y] => match dSeq x, dSeq y with
    | some xs, some ys => some (zipD xs ys)
    | _, _ => none
  | _ => none)
theorem SqB.inj_same {K : PySem.W.Frag} {b : Bool} {R H : Hp} {p : Addr} {xs : List V} (s : Same R H) (h : SqB K b R p xs) : SqB K b H p xs := by
  cases b
  · exact Same.tup s h
  · exact Same.sqL s h
end
inductive TyO (K : PySem.W.Frag) (H : Hp) : V → Value → Prop where
  | of {x : V} {t : Value} (h : TyOf K H x t) : TyO K H x t
  | sl {a : Addr} {xs : List V} (h : SqL K H a xs) : TyO K H (.ref a) (.type "list")
  | st {a : Addr} {xs : List V} (h : SqT K H a xs) : TyO K H (.ref a) (.type "tuple")
noncomputable def rIsO (K : PySem.W.Frag) : List V → Hp → VK → Prop := fun xs H Q => ∃ x y t c b, xs = [x, y] ∧ clsV y = some c ∧ TyO K H x t ∧ PySem.W.kitOne K t c = some b ∧ Q (.bl b) H
section
variable {X : Cx} {K : PySem.W.Frag} {O : List Nat} {t : TE} {fa : Rho → Option (D × Rho)}
theorem call_isO (hK : X.K = K) : CallR X (.builtin "isinstance") (rIsO K) := by
  subst hK
  intro pins s σ H xs us Q I r h
  obtain ⟨x, y, t, c, b, rfl, hc, ty, e, q⟩ := h
  cases ty with
  | of h => exact call_isi rfl pins s σ H [x, y] us Q I r ⟨x, y, t, c, b, rfl, hc, h, e, q⟩
  | sl h =>
    obtain ⟨u, w, rfl, ru, rw'⟩ := vals2 r
    cases ru
    have ew : w = c := by
      cases y with
      | ref a => exact (show w = Value.ref a from rw').trans (Option.some.inj hc)
      | ty n => exact (show w = Value.type n from rw').trans (Option.some.inj hc)
      | _ => cases hc
    subst ew
    obtain ⟨its, rv, pl, _⟩ := I.list h
    obtain ⟨o, e1, c1, _⟩ := pl.isList
    exact PySem.W.kia_one PySem.W.kitx_list I.kIn ⟨o, e1, c1⟩ e (fun z => nomatch z) fun tk => ⟨.bl b, H, I.tok tk, rfl, q⟩
  | st h =>
    obtain ⟨u, w, rfl, ru, rw'⟩ := vals2 r
    cases ru
    have ew : w = c := by
      cases y with
      | ref a => exact (show w = Value.ref a from rw').trans (Option.some.inj hc)
      | ty n => exact (show w = Value.type n from rw').trans (Option.some.inj hc)
      | _ => cases hc
    subst ew
    obtain ⟨its, rv, pl, _⟩ := I.tuple h
    obtain ⟨o, e1, c1, _⟩ := pl
    exact PySem.W.kia_one PySem.W.kitx_tuple I.kIn ⟨o, e1, c1⟩ e (fun z => nomatch z) fun tk => ⟨.bl b, H, I.tok tk, rfl, q⟩
noncomputable def tyN : D → Option String
  | .non => some "NoneType"
  | .bl _ => some "bool"
  | .int _ => some "int"
  | .str _ => some "str"
  | .lst _ => some "list"
  | .tup _ => some "tuple"
  | .dct _ => some "dict"
  | .exc _ => none
  | .fn _ => none
  | .dit _ => some "dict"
  | .obj _ _ => none
theorem tyO_of {H : Hp} {v : V} {d : D} {n : String} (r : Rp K H v d) (e : tyN d = some n) : TyO K H v (.type n) := by
  cases r with
  | non => cases e; exact .of .non
  | bl b => cases e; exact .of (.bl b)
  | int i => cases e; exact .of (.int i)
  | str x => cases e; exact .of (.str x)
  | lst h _ => cases e; exact .sl h
  | tup h _ => cases e; exact .st (SqT.of h)
  | dct h _ => cases e; exact .of (.dK h)
  | dit h _ => cases e; exact .of (.dT h)
  | obj _ _ => cases e
  | exc _ _ _ => cases e
  | fn _ => cases e
noncomputable def KitB (K : PySem.W.Frag) (Y : String) (f : String → Option Bool) : Prop := ∀ s b, f s = some b → PySem.W.kitOne K (.type s) (.type Y) = some b
noncomputable def isTab (Y : String) : String → Option Bool := fun s =>
  if s = "NoneType" then some (decide (Y = "NoneType")) else if s = "bool" then some (decide (Y = "bool") || decide (Y = "int")) else if s = "int" then some (decide (Y = "int")) else if s = "str" then some (decide (Y = "str"))
  else if s = "list" then some (decide (Y = "list")) else if s = "tuple" then some (decide (Y = "tuple")) else if s = "dict" then some (decide (Y = "dict")) else none
theorem kitB_mk {Y : String} (h1 : PySem.W.kitOne K (.type "NoneType") (.type Y) = some (decide (Y = "NoneType"))) (h2 : PySem.W.kitOne K (.type "bool") (.type Y) = some (decide (Y = "bool") || decide (Y = "int"))) (h3 : PySem.W.kitOne K (.type "int") (.type Y) = some (decide (Y = "int")))
    (h4 : PySem.W.kitOne K (.type "str") (.type Y) = some (decide (Y = "str"))) (h5 : PySem.W.kitOne K (.type "list") (.type Y) = some (decide (Y = "list"))) (h6 : PySem.W.kitOne K (.type "tuple") (.type Y) = some (decide (Y = "tuple"))) (h7 : PySem.W.kitOne K (.type "dict") (.type Y) = some (decide (Y = "dict"))) : KitB K Y (isTab Y) := fun s b e => by
  unfold isTab at e
  split at e
  · rename_i z; subst z; rw [← e]; exact h1
  split at e
  · rename_i z; subst z; rw [← e]; exact h2
  split at e
  · rename_i z; subst z; rw [← e]; exact h3
  split at e
  · rename_i z; subst z; rw [← e]; exact h4
  split at e
  · rename_i z; subst z; rw [← e]; exact h5
  split at e
  · rename_i z; subst z; rw [← e]; exact h6
  split at e
  · rename_i z; subst z; rw [← e]; exact h7
  · cases e
noncomputable def dIsi (f : String → Option Bool) (d : D) : Option D := match tyN d with
  | some s => (f s).map .bl
  | none => none
theorem me_isi {Y : String} {f : String → Option Bool} (hk : KitB K Y f) (ha : MB K O t fa) : ME K O (tCB (rIsO K) (tCons t (tCons (tC (.ty Y)) tNil))) (mOp1 (dIsi f) fa) := fun Z σ H R ρ d ρ' Q S e k => by
  obtain ⟨x, ρ1, e1, e⟩ := mBind_some e
  obtain ⟨e2, rfl⟩ := mLift_some e
  refine ha Z σ H R ρ x _ _ S e1 fun v H1 R1 S1 st1 r1 => ?_
  unfold dIsi at e2
  cases e3 : tyN x with
  | none => rw [e3] at e2; cases e2
  | some s =>
    rw [e3] at e2
    dsimp only at e2
    cases e4 : f s with
    | none => rw [e4] at e2; cases e2
    | some b =>
      rw [e4] at e2
      cases e2
      exact ⟨v, .ty Y, .type s, .type Y, b, rfl, rfl, tyO_of r1 e3, hk s b e4, k _ H1 R1 S1 st1 (.bl b)⟩
end
end L2
set_option Elab.async false
set_option linter.all false
set_option maxRecDepth 100000
set_option maxHeartbeats 4000000
namespace L2
open PySem PySem.Spec PyProof.Rows
noncomputable def mOf (f : Rho → Option (List D × Rho)) : Rho → Option (D × Rho) := mBind f fun ds => mRet (D.lst ds)
section
variable {K : PySem.W.Frag} {O O1 O' : List Nat} {t : TE} {c : MC} {u : TS} {f : Rho → Option Out} {fn : Rho → Option (List D × Rho)}
theorem me_new (h : MN K O t fn) : ME K O t (mOf fn) := h.me
noncomputable def sDrop (fe : Rho → Option (D × Rho)) : Rho → Option Out := fun ρ => match fe ρ with
  | none => none
  | some (_, ρ1) => some (.nx ρ1)
theorem ms_expr {fe : Rho → Option (D × Rho)} (he : ME c.K O t fe) (hs : subO c O O' = true) : MS c O O' (tDrop t) (sDrop fe) := fun Z E σ H R ρ o hP S e k => by
  unfold sDrop at e
  cases e1 : fe ρ with
  | none => rw [e1] at e; cases e
  | some p =>
    obtain ⟨d, ρ1⟩ := p
    rw [e1] at e
    cases e
    refine he Z σ H R ρ d ρ1 _ S e1 fun v H1 R1 S1 st1 r1 => ?_
    obtain ⟨S2, s2⟩ := S1.sub' hP hs
    exact k σ H1 _ S2 (st1.r.trans s2)
end
noncomputable def okMul (i j : Int) : Bool := (decide (-(2 ^ 64) < i) && decide (i < 2 ^ 64)) || (decide (-(2 ^ 64) < j) && decide (j < 2 ^ 64))
noncomputable def okDiv (_ j : Int) : Bool := decide (0 < j) && decide (j < 1073741824)
noncomputable def okMod (_ j : Int) : Bool := decide (0 < j)
noncomputable def okPow (i j : Int) : Bool := decide (0 ≤ j) && decide (j ≤ 1000000) && decide (i.natAbs < 2 ^ 64)
noncomputable def okShr (_ j : Int) : Bool := decide (0 ≤ j)
noncomputable abbrev dDiv : D → D → Option D := dI2 okDiv fun i j => i / j
noncomputable abbrev dMod : D → D → Option D := dI2 okMod fun i j => i % j
noncomputable abbrev dPow : D → D → Option D := dI2 okPow fun i j => i ^ j.toNat
noncomputable abbrev dSub : D → D → Option D := dI0 fun i j => i - j
noncomputable abbrev dLe : D → D → Option D := dB0 fun i j => decide (i ≤ j)
noncomputable abbrev dGt : D → D → Option D := dB0 fun i j => decide (j < i)
section
variable {K : PySem.W.Frag}
theorem og_div : OpG K (rI CDiv fun i j => .int (i / j)) dDiv := op_i fun i j h => by
  unfold okDiv at h
  simp only [Bool.and_eq_true, decide_eq_true_eq] at h
  exact h
theorem og_mod : OpG K (rI (fun _ j => 0 < j) fun i j => .int (i % j)) dMod := op_i fun i j h => of_decide_eq_true h
theorem og_pow : OpG K (rI CPow fun i j => .int (i ^ j.toNat)) dPow := op_i fun i j h => by
  unfold okPow at h
  simp only [Bool.and_eq_true, decide_eq_true_eq] at h
  exact ⟨h.1.1, h.1.2, h.2⟩
theorem og_sub : OpG K (rI0 fun i j => .int (i - j)) dSub := op_i0
noncomputable def spLaw (K : PySem.W.Frag) (n : Nat) : Sp := fun vs H Q _ => ∃ (b : Addr) (ns : List Int), vs = [.ref b] ∧ SqL K H b (ns.map V.int) ∧ ns.length ≤ n ∧ ∀ H', Q (.bl true) H'
theorem law_of {P : Program} {w : World} {mg : Str → Option Value} {base : Heap} {CX : CXT} {k n : Nat} {fa : Addr} {fd : FuncData} {x : Str} {f : List D → Option D} (F : FnOk P w K mg base CX k fa fd [x] (spP K false 1 f)) (h : ∀ ns : List Int, ns.length ≤ n → f [.lst (ns.map D.int)] = some (.bl true)) : FnOk P w K mg base CX k fa fd [x] (spLaw K n) :=
  F.imp fun vs H Q E q => by
    obtain ⟨b, ns, rfl, hb, hl, k⟩ := q
    refine ⟨rfl, H, [.lst (ns.map D.int)], .bl true, fun _ _ e => e, .cons (.lst hb (Rps.ints ns)) .nil, h ns hl, fun v H' R' _ r => ?_⟩
    have r' : Rp K R' v (.bl true) := r
    cases r'
    exact k H'
end
end L2
set_option Elab.async false
set_option linter.all false
set_option maxRecDepth 100000
set_option maxHeartbeats 4000000
namespace L2
open PySem PySem.Spec PyProof.Rows
section
variable {K : PySem.W.Frag} {O O' : List Nat} {t ta tb : TE} {fa fb : Rho → Option (D × Rho)} {fn : Rho → Option (List D × Rho)} {c : MC}
noncomputable def isBl (d : D) (b : Bool) : Bool := match d with
  | .bl x => x == b
  | _ => false
noncomputable def dIsB (d e : D) : Option D := match e with
  | .bl b => some (.bl (isBl d b))
  | _ => none
noncomputable def dNotB (d e : D) : Option D := match e with
  | .bl b => some (.bl (!isBl d b))
  | _ => none
noncomputable def dNeg : D → Option D
  | .int i => some (.int (-i))
  | _ => none
theorem me_neg (h : ME K O t fa) : ME K O (tUn (rU fun i => .int (-i)) t) (mOp1 dNeg fa) := fun Z σ H R ρ d ρ' Q S e k => by
  obtain ⟨x, ρ1, e1, e⟩ := mBind_some e
  obtain ⟨e2, rfl⟩ := mLift_some e
  refine h Z σ H R ρ x _ _ S e1 fun v H1 R1 S1 st1 r1 => ?_
  cases r1 with
  | int i => cases e2; exact ⟨i, rfl, k _ H1 R1 S1 st1 (.int _)⟩
  | _ => cases e2
theorem Rps.empty {R : Hp} {xs : List V} {ds : List D} (r : Rps K R xs ds) : xs.isEmpty = ds.isEmpty := by cases r <;> rfl
noncomputable def dAny : D → Option D
  | .lst xs => (boolsD xs).map fun bs => .bl (bs.any id)
  | _ => none
noncomputable def sExt (i : Nat) (fn : Rho → Option (List D × Rho)) : Rho → Option Out := fun ρ => if isL ρ i = true then (match fn ρ with
  | none => none
  | some (ys, ρ1) => match ρ1[i]? with
    | some (some (.lst xs)) => if xs.length + ys.length ≤ sizeLine then some (.nx (ρ1.set i (some (.lst (xs ++ ys))))) else none
    | _ => none) else none
noncomputable def mRep (fn : Rho → Option (List D × Rho)) (fb : Rho → Option (D × Rho)) : Rho → Option (List D × Rho) := mBind fn fun xs => mBind fb fun y => mLift (match y with
  | .int k => if -(2 ^ 63) ≤ k ∧ k < 2 ^ 63 ∧ xs.length * k.toNat ≤ sizeLine then some (List.replicate k.toNat xs).flatten else none
  | _ => none)
theorem Rps.rep {R : Hp} {xs : List V} {ds : List D} (r : Rps K R xs ds) : ∀ k : Nat, Rps K R (List.replicate k xs).flatten (List.replicate k ds).flatten
  | 0 => .nil
  | k + 1 => by
    rw [List.replicate_succ, List.replicate_succ, List.flatten_cons, List.flatten_cons]
    exact r.append (Rps.rep r k)
end
end L2
set_option Elab.async false
set_option linter.all false
set_option maxRecDepth 100000
set_option maxHeartbeats 4000000
namespace L2
open PySem PySem.Spec PyProof.Rows
section
variable {M : Model} {A : Around} {E : Value → Shared → Prop} {s : Shared}
end
section
variable {X : Cx} {K : PySem.W.Frag}
end
section
variable {c : MC} {O O' : List Nat} {te : TE} {fn : Rho → Option (List D × Rho)}
end
theorem foldl_size {α : Type} (a : Array α) : ∀ (k : Nat) (acc : Array α), (List.foldl (fun x1 x2 => x1 ++ x2) acc (List.replicate k a)).size = acc.size + k * a.size
  | 0, acc => by simp
  | k + 1, acc => by
    rw [List.replicate_succ, List.foldl_cons, foldl_size a k, Array.size_append, Nat.succ_mul]
    omega
theorem noFill_tuple_mul : fillsNumberSlot (.type "tuple") "mul" = pure false :=
  PySem.fillsNumberSlot_seq (id := "tuple.__mul__") (r := some (.builtin "tuple.__rmul__")) F.slot_tuple_mul.lookup (by decide +kernel) F.slot_tuple_rmul.lookup (by decide +kernel)
theorem repeat_tuple : seqRepeat? (.type "tuple") = pure (some (.builtin "tuple.__mul__")) := by
  unfold seqRepeat?
  rw [PySem.seqSlot_of (T := "tuple") (name := "__mul__") (id := "tuple.__mul__") F.slot_tuple_mul.lookup (by decide +kernel), PySem.seqSlot_of (T := "tuple") (name := "__rmul__") (id := "tuple.__rmul__") F.slot_tuple_rmul.lookup (by decide +kernel)]
  rfl
theorem int_rmul_tuple (a : Int) (t : Tok) (l : Addr) (items : Array Value) (n : Nat) (dd : Option Addr) (sl : Array (Option Value)) :
    Meets (Builtin.«int.__rmul__» ⟨[.int a t, .ref l], []⟩) (fun _ R s => s.heap.get? l = some { cls := .type "tuple", dict := dd, data := .seq items n, slots := sl } ∧ R (.ok (.ret Value.notImplemented)) s) :=
  .of_wp fun prog w A R s h => by obtain ⟨hp, g, d, tk, os⟩ := s; obtain ⟨hl, h⟩ := h; wp_walk; exact ⟨_, rfl, h⟩
theorem tuple_mulW (l : Addr) (items : Array Value) (n : Nat) (dd : Option Addr) (sl : Array (Option Value)) (x : Int) (u : Tok) (h1 : 1 < x) (h2 : x ≤ 1000) (he : items.isEmpty = false) (hz : items.size ≤ 1000) :
    Meets (Builtin.«tuple.__mul__» ⟨[.ref l, .int x u], []⟩) (fun _ R s => s.heap.get? l = some { cls := .type "tuple", dict := dd, data := .seq items n, slots := sl } ∧ R (.ok (.ret (Value.ref s.heap.objs.size))) { s with heap := s.heap.push { cls := Value.type "tuple", data := Data.seq (List.foldl (fun x1 x2 => x1 ++ x2) #[] (List.replicate x.toNat items)) }, toks := s.toks }) :=
  .of_wp fun prog w A R s h => by
    obtain ⟨hp, g, d, tk, os⟩ := s; obtain ⟨hl, h⟩ := h
    have f1 := AutoSeq1.idx_int
    have f2 := AutoSeq1.sub_tuple_tuple
    have hc0 : ¬ (decide (x < -2 ^ 63) || decide (x ≥ 2 ^ 63)) = true := by
      simp only [Bool.or_eq_true, decide_eq_true_eq]
      omega
    have hc1 : ¬ (items.isEmpty || x == 1) = true := by
      rw [he, Bool.false_or]
      simp
      omega
    have hc2 : ¬ (decide (x ≤ 0) || items.isEmpty) = true := by
      rw [he, Bool.or_false]
      simp
      omega
    have hm : (items.size : Int) * x ≤ 1000 * 1000 := Int.le_trans (Int.mul_le_mul_of_nonneg_left h2 (Int.natCast_nonneg _)) (Int.mul_le_mul_of_nonneg_right (by omega) (by decide))
    have hc3 : ¬ (items.size : Int) * x > (2 ^ 63 - 1) / 8 := by omega
    have hc4 : ¬ Builtin.Tuple.tupleTooMany ((items.size : Int) * x) = true := by
      unfold Builtin.Tuple.tupleTooMany
      have : (sizeLine : Int) ≥ 1000 * 1000 := by decide
      simp
      omega
    wp_walk using wpAny_loadPart' hl
    rw [if_neg hc0]
    wp_walk using wpAny_loadPart' hl
    rw [if_neg hc1]
    rw [if_neg hc2]
    rw [if_neg hc3]
    rw [if_neg hc4]
    wp_walk using wpAny_loadPart' hl
    have hc5 : ¬ (List.foldl (fun x1 x2 => x1 ++ x2) #[] (List.replicate x.toNat items)).size > sizeLine := by
      rw [foldl_size]
      have h7 : x.toNat * items.size ≤ 1000 * 1000 := Nat.mul_le_mul (by omega) hz
      have h8 : (sizeLine : Nat) ≥ 1000 * 1000 := by decide
      simp
      omega
    rw [if_neg hc5]
    wp_walk using wpAny_loadPart' hl
    exact ⟨_, rfl, h⟩
noncomputable def rRepT (K : PySem.W.Frag) : R2 := fun x y H Q => ∃ l k xs, x = .ref l ∧ y = .int k ∧ SqT K H l xs ∧ 1 < k ∧ k ≤ 1000 ∧ xs ≠ [] ∧ xs.length ≤ 1000 ∧ ∀ p, H p = none → Q (.ref p) (upd H p (.tup (List.replicate k.toNat xs).flatten))
section
variable {X : Cx} {K : PySem.W.Frag}
theorem op_repT (hK : X.K = K) : OpR X (binaryOp .Mult) (rRepT K) := by
  subst hK
  intro pins s σ H x y v u Q I rx ry h
  obtain ⟨l, k, xs, rfl, rfl, hH, h1, h2, hx, hz, q⟩ := h
  cases rx
  obtain ⟨t, rfl⟩ := ry
  obtain ⟨its, r1, p1, _⟩ := I.tuple hH
  obtain ⟨⟨cls, dd, data, sl⟩, ho, hc, n, hd⟩ := id p1
  simp only at hc hd
  subst hc hd
  have hlen := r1.length
  have he : its.toArray.isEmpty = false := by
    cases its with
    | nil => exact absurd (r1.nil_iff.mp rfl) hx
    | cons a r => rfl
  have f0 : List.foldl (fun x1 x2 => x1 ++ x2) #[] (List.replicate k.toNat its.toArray) = (List.replicate k.toNat its).flatten.toArray := by
    have := foldl_rep its k.toNat []
    rw [List.nil_append] at this
    exact this
  refine wpAny_binaryOp_repeat_ref (T := "tuple") (U := "int") (by decide) ⟨_, ho, rfl⟩ (fun s' => typeIs_int s' k t) noFill_tuple_mul F.fills_int_mul F.slot_int_rmul repeat_tuple F.slot_int_index.lookup
    (call_meets F.slot_int_rmul (typeIs_int s k t) F.entry_int_rmul (F.args_int_rmul_2 _ _) (int_rmul_tuple k t l its.toArray n dd sl)
      ⟨ho, rfl, ⟨_, ho, rfl⟩, call_meets F.slot_tuple_mul ⟨_, ho, rfl⟩ F.entry_tuple_mul (F.args_tuple_mul_2 _ _) (tuple_mulW l its.toArray n dd sl k t h1 h2 he (by rw [List.size_toArray]; omega)) ⟨ho, ?_⟩⟩)
  rw [f0]
  have hsz : (List.replicate k.toNat xs).flatten.length ≤ sizeLine := by
    rw [len_rep]
    exact Nat.le_trans (Nat.mul_le_mul (by omega : k.toNat ≤ 1000) hz) (by decide)
  refine ⟨.ref s.heap.objs.size, _, I.laid (t' := s.toks) (o := .tup (List.replicate k.toNat xs).flatten) (fun b ob q => Heap.get?_push_of_some _ q) (Nat.le_refl _) ?_, rfl, q _ (I.hok.fresh (Nat.le_refl _))⟩
  exact ⟨hsz, _, r1.rep k.toNat, TupN.new _ _⟩
noncomputable def strRep (z : Str) (k : Int) : Str := if (k == 1 || z.length == 0) = true then z else ⟨List.foldl (fun x1 x2 => x1 ++ x2) #[] (List.replicate k.toNat z.cps)⟩
theorem op_repStr : OpR X (binaryOp .Mult) (fun x y H Q => ∃ z k, x = .str z ∧ y = .int k ∧ 0 < k ∧ k ≤ 1000 ∧ 0 < z.length ∧ z.length ≤ 1000 ∧ Q (.str (strRep z k)) H) := by
  intro pins s σ H x y v u Q I rx ry h
  obtain ⟨z, k, rfl, rfl, h1, h2, h3, h4, q⟩ := h
  obtain ⟨t, rfl⟩ := rx
  obtain ⟨t', rfl⟩ := ry
  have hm : z.length * k.toNat ≤ 1000 * 1000 := Nat.mul_le_mul h4 (by omega)
  refine PySem.P.mul_str (by simp; omega) (fun _ _ => ?_) (fun _ _ => ?_) ?_
  · intro hgt
    have h5 : ((2 : Int) ^ 63 - 1) / 1000 ≤ (2 ^ 63 - 1) / k := by
      refine Int.le_ediv_of_mul_le h1 ?_
      have : ((2 : Int) ^ 63 - 1) / 1000 * k ≤ (2 ^ 63 - 1) / 1000 * 1000 := Int.mul_le_mul_of_nonneg_left h2 (by decide)
      exact Int.le_trans this (by decide)
    have h6 : (1000 : Int) < (2 ^ 63 - 1) / 1000 := by decide
    omega
  · unfold Builtin.Str.tooLong
    have : (sizeLine : Nat) ≥ 1000 * 1000 := by decide
    simp
    omega
  · rw [if_neg (by omega)]
    unfold strRep at q
    split
    · rename_i hh
      rw [if_pos hh] at q
      exact ⟨.str z, H, I, ⟨t, rfl⟩, q⟩
    · rename_i hh
      rw [if_neg hh] at q
      refine ⟨?_, ⟨.str _, H, I.tok _, ⟨_, rfl⟩, q⟩⟩
      show (List.foldl (fun x1 x2 => x1 ++ x2) #[] (List.replicate k.toNat z.cps)).size ≤ sizeLine
      rw [foldl_size]
      have h7 : k.toNat * z.cps.size ≤ 1000 * 1000 := Nat.mul_le_mul (by omega) h4
      have h8 : (sizeLine : Nat) ≥ 1000 * 1000 := by decide
      simp
      omega
noncomputable def CMul2 (i j : Int) : Prop := CMul i j ∨ (i.natAbs < 2 ^ 250 ∧ j.natAbs < 2 ^ 250)
theorem bits250 {k : Int} (h : k.natAbs < 2 ^ 250) : Builtin.Int.intBits k ≤ 250 := by
  unfold Builtin.Int.intBits
  split
  · exact Nat.zero_le _
  · rename_i h0
    have hk : k.natAbs ≠ 0 := fun z => h0 (by simpa using z)
    have : k.natAbs.log2 < 250 := (Nat.log2_lt hk).mpr h
    omega
theorem CMul2.ok {i j : Int} (h : CMul2 i j) : IntMulOk i j := by
  rcases h with h | ⟨h1, h2⟩
  · exact h.ok
  · exact IntMulOk.of_le (bits250 h1) (bits250 h2) (by decide)
theorem op_mul2 : OpR X (binaryOp .Mult) (rI CMul2 fun i j => .int (i * j)) := opI fun _ _ _ _ _ _ _ hc q => mul_int q hc.ok
noncomputable def bigM (i : Int) : Bool := decide (i.natAbs < 2 ^ 250)
noncomputable def okMul2 (i j : Int) : Bool := okMul i j || (bigM i && bigM j)
theorem okMul2_of {i j : Int} (h : okMul2 i j = true) : CMul2 i j := by
  unfold okMul2 okMul bigM at h
  simp only [Bool.or_eq_true, Bool.and_eq_true, decide_eq_true_eq] at h
  rcases h with h | h
  · exact .inl h
  · exact .inr h
noncomputable def rMulG (K : PySem.W.Frag) : R2 := fun x y H Q => rI CMul2 (fun i j => .int (i * j)) x y H Q ∨ rRepT K x y H Q ∨ ∃ z k, x = .str z ∧ y = .int k ∧ 0 < k ∧ k ≤ 1000 ∧ 0 < z.length ∧ z.length ≤ 1000 ∧ Q (.str (strRep z k)) H
theorem op_mulG (hK : X.K = K) : OpR X (binaryOp .Mult) (rMulG K) := op_mul2.or ((op_repT hK).or op_repStr)
end
noncomputable def dMulG : D → D → Option D
  | .int i, .int j => if okMul2 i j = true then some (.int (i * j)) else none
  | .tup xs, .int k => if 1 < k ∧ k ≤ 1000 ∧ xs ≠ [] ∧ xs.length ≤ 1000 then some (.tup (List.replicate k.toNat xs).flatten) else none
  | .str z, .int k => if 0 < k ∧ k ≤ 1000 ∧ 0 < z.length ∧ z.length ≤ 1000 then some (.str (strRep z k)) else none
  | _, _ => none
theorem og_mulG {K : PySem.W.Frag} : OpG K (rMulG K) dMulG := fun H R x y d e u Q s rx ry q k => by
  unfold dMulG at q
  split at q
  · rename_i i j
    split at q
    · rename_i h
      cases q
      cases rx
      cases ry
      exact .inl ⟨i, j, rfl, rfl, okMul2_of h, k _ H R (Ext.refl s) (.int _)⟩
    · cases q
  · rename_i ds j
    split at q
    · rename_i hc
      cases q
      cases ry
      cases rx with
      | @tup a xs ds h r =>
        refine .inr (.inl ⟨a, j, xs, rfl, rfl, SqT.of (s _ _ h), hc.1, hc.2.1, fun z => ?_, by rw [r.length]; exact hc.2.2.2, fun p np => ?_⟩)
        · subst z
          cases r
          exact hc.2.2.1 rfl
        · have y := Ext.new (o := .tup (List.replicate j.toNat xs).flatten) s np
          exact k _ _ _ y (.tup upd_same ((r.rep _).mono y.r))
    · cases q
  · rename_i z j
    split at q
    · rename_i hc
      cases q
      cases ry
      cases rx
      exact .inr (.inr ⟨z, j, rfl, rfl, hc.1, hc.2.1, hc.2.2.1, hc.2.2.2, k _ H R (Ext.refl s) (.str _)⟩)
    · cases q
  · cases q
section
variable {X : Cx} {K : PySem.W.Frag} {O : List Nat} {pos : Pos}
theorem Inv.bigL {pins : List (Addr × Obj)} {σ : St} {H : Hp} {s : Shared} (I : Inv X pins σ H s) : sysModules < s.heap.objs.size := by
  have h : mainGlobals < s.heap.objs.size := (I.mod.glob.keeps I.bk).lt
  exact Nat.lt_trans (by decide) h
noncomputable def tDict0 : TE := fun _ H Q => ∀ p, H p = none → Q (.ref p) (upd H p (.dK []))
theorem pe_dict0 : PE X (.Dict [] [] pos) tDict0 := fun pins s σ H Q I h =>
  wpAny_Dict_empty ⟨.ref s.heap.objs.size, _, I.laid (a := s.heap.objs.size) (o := .dK []) (t' := s.toks) (fun _ _ q => Heap.get?_push_of_some _ q) (Nat.le_refl _) ⟨Nat.zero_le _, beq_eq_false_iff_ne.mpr (Ne.symm (Nat.ne_of_lt I.bigL)), [], .nil, Heap.DictOf.new _⟩, rfl, h _ (I.hok.fresh (Nat.le_refl _))⟩
theorem me_dict0 : ME K O tDict0 (mRet (.dct [])) := fun Z σ H R ρ d ρ' Q S e k => by
  cases e
  intro p np
  have y := Ext.new (o := .dK []) S.sub np
  exact k _ _ _ (S.ext y) y.stp (.dct upd_same .nil)
end
noncomputable def strsD : List D → Option (List Str)
  | [] => some []
  | .str i :: r => (strsD r).map (i :: ·)
  | _ => none
theorem strsD_rps {K : PySem.W.Frag} {R : Hp} : ∀ {xs : List V} {ds : List D} {ns : List Str}, Rps K R xs ds → strsD ds = some ns → xs = ns.map V.str
  | _, _, ns, .nil, e => by cases e; rfl
  | _, _, ns, .cons (d := d) h r, e => by
    cases h with
    | str i =>
      unfold strsD at e
      cases q : strsD _ with
      | none => rw [q] at e; cases e
      | some ms => rw [q] at e; cases e; rw [strsD_rps r q]; rfl
    | _ => cases e
theorem strsAre_of : ∀ {ns : List Str} {us : List Value}, Vals (ns.map V.str) us → StrsAre us ns
  | [], us, r => by cases r; exact .nil
  | n :: ns, us, r => by
    cases r with
    | cons h t =>
      obtain ⟨tk, e⟩ := (show ∃ t, _ = Value.str n t from h)
      subst e
      exact .cons n tk (strsAre_of t)
noncomputable def rJoin (K : PySem.W.Frag) : V → List V → Hp → VK → Prop := fun x vs H Q => ∃ z p ns, x = .str z ∧ vs = [.ref p] ∧ SqL K H p (ns.map V.str) ∧ (ns.map (·.length)).sum + ns.length * z.length ≤ 16777216 ∧ Q (.str (Txt.join z ns)) H
theorem mt_joinS {X : Cx} {K : PySem.W.Frag} (hK : X.K = K) : MtM X "str.join" (rJoin K) := by
  subst hK
  intro pins s σ H x vs v us Q I rx rv h
  obtain ⟨z, p, ns, rfl, rfl, hs, hz, q⟩ := h
  obtain ⟨t, rfl⟩ := rx
  obtain ⟨u, rfl, ru⟩ := rv.one
  cases ru
  obtain ⟨its, r, pl, _⟩ := I.list hs
  refine PyProof.Rows.join_list pl.isList (by simpa using strsAre_of r) hz fun t' k => ?_
  exact ⟨.str _, H, I.tok k, ⟨t', rfl⟩, q⟩
noncomputable def dJoin (x y : D) : Option D := match x, y with
  | .str z, .lst ds => match strsD ds with
    | some ns => if (ns.map (·.length)).sum + ns.length * z.length ≤ 16777216 then some (.str (Txt.join z ns)) else none
    | none => none
  | _, _ => none
theorem me_join {K : PySem.W.Frag} {O : List Nat} {t ta : TE} {fa fb : Rho → Option (D × Rho)} (h : ME K O t fa) (h2 : ME K O ta fb) : ME K O (tBM K "str" (rJoin K) t (tCons ta tNil)) (mOp2 dJoin fa fb) := fun Z σ H R ρ d ρ' Q S e k => by
  obtain ⟨x, ρ1, e1, e⟩ := mBind_some e
  obtain ⟨y, ρ2, e2, e⟩ := mBind_some e
  obtain ⟨e3, rfl⟩ := mLift_some e
  unfold dJoin at e3
  split at e3
  · rename_i z ds
    split at e3
    · rename_i ns z3
      split at e3
      · rename_i hz
        cases e3
        refine h Z σ H R ρ _ ρ1 _ S e1 fun v H1 R1 S1 st1 r1 => ?_
        cases r1
        refine ⟨rfl, h2 Z σ H1 R1 ρ1 _ _ _ S1 e2 fun w H2 R2 S2 st2 r2 => ?_⟩
        cases r2 with
        | @lst a xs ds q r =>
          have ex := strsD_rps r z3
          subst ex
          exact ⟨_, a, ns, rfl, rfl, Same.sqL S2.same q, hz, k _ H2 R2 S2 (st1.trans st2) (.str _)⟩
      · cases e3
    · cases e3
  · cases e3
end L2
set_option Elab.async false
set_option linter.all false
set_option maxRecDepth 100000
set_option maxHeartbeats 4000000
namespace L2
open PySem PySem.Spec PyProof.Rows
inductive TyX (K : PySem.W.Frag) (H : Hp) : V → Value → Prop where
  | exc {a C : Addr} (h : H a = some (excO a (.ref C))) (k : ExcK K C) : TyX K H (.ref a) (.ref C)
  | non : TyX K H .non (.type "NoneType")
noncomputable def clsVs : List V → Option (List Value)
  | [] => some []
  | v :: vs => match clsV v, clsVs vs with
    | some c, some cs => some (c :: cs)
    | _, _ => none
noncomputable def rIsX (K : PySem.W.Frag) : List V → Hp → VK → Prop := fun xs H Q => ∃ x y t b, xs = [x, y] ∧ TyX K H x t ∧ Q (.bl b) H ∧
  ((∃ c, clsV y = some c ∧ PySem.W.kitOne K t c = some b) ∨ ∃ p ys cs, y = .ref p ∧ H p = some (.tup ys) ∧ clsVs ys = some cs ∧ PySem.W.kitAny K t cs = some b)
theorem clsV_val {y : V} {c w : Value} (h : clsV y = some c) (r : RelV y w) : w = c := by
  cases y with
  | ref a => exact (show w = Value.ref a from r).trans (Option.some.inj h)
  | ty n => exact (show w = Value.type n from r).trans (Option.some.inj h)
  | _ => cases h
theorem clsVs_vals : ∀ {ys : List V} {cs us : List Value}, clsVs ys = some cs → Vals ys us → us = cs
  | [], cs, us, h, r => by cases r; cases h; rfl
  | y :: ys, cs, us, h, r => by
    cases r with
    | cons r1 r2 =>
      unfold clsVs at h
      cases h1 : clsV y with
      | none => rw [h1] at h; cases h
      | some c =>
        rw [h1] at h
        cases h2 : clsVs ys with
        | none => rw [h2] at h; cases h
        | some ds =>
          rw [h2] at h
          cases h
          rw [clsV_val h1 r1, clsVs_vals h2 r2]
section
variable {X : Cx} {K : PySem.W.Frag} {O : List Nat} {t : TE} {fa : Rho → Option (D × Rho)}
theorem call_isX (hK : X.K = K) : CallR X (.builtin "isinstance") (rIsX K) := by
  subst hK
  intro pins s σ H xs us Q I r h
  obtain ⟨x, y, t, b, rfl, ty, q, h⟩ := h
  obtain ⟨u, w, rfl, ru, rw'⟩ := vals2 r
  rcases h with ⟨c, hc, e⟩ | ⟨p, ys, cs, rfl, hp, hcs, e⟩
  · have ew := clsV_val hc rw'
    subst ew
    cases ty with
    | exc h k => cases ru; exact isinst_exc I h k e fun tk => ⟨.bl b, H, I.tok tk, rfl, q⟩
    | non => cases ru; exact PySem.W.kia_one PySem.W.kitx_none I.kIn True.intro e (fun z => nomatch z) fun tk => ⟨.bl b, H, I.tok tk, rfl, q⟩
  · cases rw'
    obtain ⟨_, its, rv, ob, e1, ⟨c1, n1, d1⟩, _⟩ := (show ObjOk X.prog X.w H s.heap p (.tup ys) from I.hok p _ hp)
    have ei := clsVs_vals hcs rv
    subst ei
    obtain ⟨oc, od, da, sl⟩ := ob
    simp only at c1 d1
    subst c1 d1
    cases ty with
    | exc h k => cases ru; exact isinst_excT I h k e1 e fun tk => ⟨.bl b, H, I.tok tk, rfl, q⟩
    | non => cases ru; exact PySem.W.kia_tup PySem.W.kitx_none I.kIn True.intro e1 e (fun z => nomatch z) fun tk => ⟨.bl b, H, I.tok tk, rfl, q⟩
noncomputable def dIsX (sub : Str → Option Bool) : D → Option D
  | .exc x => (sub x).map .bl
  | .non => some (.bl false)
  | _ => none
structure KitE (K : PySem.W.Frag) (c : Value) (sub : Str → Option Bool) : Prop where
  exc : ∀ x C b, PySem.W.nsIn K mainGlobals x = some (some (.ref C)) → sub x = some b → PySem.W.kitOne K (.ref C) c = some b
  non : PySem.W.kitOne K (.type "NoneType") c = some false
structure KitEs (K : PySem.W.Frag) (cs : List Value) (sub : Str → Option Bool) : Prop where
  exc : ∀ x C b, PySem.W.nsIn K mainGlobals x = some (some (.ref C)) → sub x = some b → PySem.W.kitAny K (.ref C) cs = some b
  non : PySem.W.kitAny K (.type "NoneType") cs = some false
theorem me_isX {y : V} {c : Value} {sub : Str → Option Bool} (hc : clsV y = some c) (hk : KitE K c sub) (ha : ME K O t fa) : ME K O (tCB (rIsX K) (tCons t (tCons (tC y) tNil))) (mOp1 (dIsX sub) fa) := fun Z σ H R ρ d ρ' Q S e k => by
  obtain ⟨x, ρ1, e1, e⟩ := mBind_some e
  obtain ⟨e2, rfl⟩ := mLift_some e
  refine ha Z σ H R ρ x _ _ S e1 fun v H1 R1 S1 st1 r1 => ?_
  cases r1 with
  | exc n ke h =>
    rename_i a C z
    cases e3 : sub z with
    | none => rw [dIsX, e3] at e2; cases e2
    | some b =>
      rw [dIsX, e3] at e2
      cases e2
      exact ⟨_, y, _, b, rfl, .exc (S1.sub _ _ h) ke, k _ H1 R1 S1 st1 (.bl b), .inl ⟨c, hc, hk.exc _ _ _ n e3⟩⟩
  | non =>
    cases e2
    exact ⟨_, y, _, false, rfl, .non, k _ H1 R1 S1 st1 (.bl false), .inl ⟨c, hc, hk.non⟩⟩
  | _ => cases e2
noncomputable def tCs : List V → TA
  | [] => tNil
  | y :: ys => tCons (tC y) (tCs ys)
theorem tCs_of {σ : St} {H : Hp} : ∀ {ys : List V} {Q : List V → Hp → Prop}, Q ys H → tCs ys σ H Q
  | [], _, h => h
  | y :: ys, Q, h => tCs_of (ys := ys) (Q := fun xs H2 => Q (y :: xs) H2) h
theorem me_isXT {ys : List V} {cs : List Value} {sub : Str → Option Bool} (hc : clsVs ys = some cs) (hl : ys.length ≤ sizeLine) (hk : KitEs K cs sub) (ha : ME K O t fa) : ME K O (tCB (rIsX K) (tCons t (tCons (tTup (tCs ys)) tNil))) (mOp1 (dIsX sub) fa) := fun Z σ H R ρ d ρ' Q S e k => by
  obtain ⟨x, ρ1, e1, e⟩ := mBind_some e
  obtain ⟨e2, rfl⟩ := mLift_some e
  refine ha Z σ H R ρ x _ _ S e1 fun v H1 R1 S1 st1 r1 => ?_
  refine tCs_of ⟨hl, fun p np => ?_⟩
  have x := Ext.hid (o := .tup ys) S1.sub np
  cases r1 with
  | exc n ke h =>
    rename_i a C z
    cases e3 : sub z with
    | none => rw [dIsX, e3] at e2; cases e2
    | some b =>
      rw [dIsX, e3] at e2
      cases e2
      exact ⟨_, _, _, b, rfl, .exc (x.h _ _ (S1.sub _ _ h)) ke, k _ _ R1 (S1.ext x) (st1.trans x.stp) (.bl b), .inr ⟨p, ys, cs, rfl, upd_same, hc, hk.exc _ _ _ n e3⟩⟩
  | non =>
    cases e2
    exact ⟨_, _, _, false, rfl, .non, k _ _ R1 (S1.ext x) (st1.trans x.stp) (.bl false), .inr ⟨p, ys, cs, rfl, upd_same, hc, hk.non⟩⟩
  | _ => cases e2
end
end L2
set_option Elab.async false
set_option linter.all false
set_option maxRecDepth 100000
set_option maxHeartbeats 4000000
namespace L2
open PySem PySem.Spec PyProof.Rows
noncomputable abbrev Xr := Rho → Option (Str × Rho)
noncomputable def ExE (K : PySem.W.Frag) (E : XK) (C : Str) (H : Hp) : Prop := ∀ v, PySem.W.nsIn K mainGlobals C = some (some v) → E v none H
section
variable (K : PySem.W.Frag) (O : List Nat)
noncomputable def MX (t : TE) (E : XK) (fx : Xr) : Prop := ∀ (Z : Anc) (σ : St) (H R : Hp) (ρ : Rho) (C : Str) (ρ' : Rho) (Q : VK), StR K Z O σ H R ρ → fx ρ = some (C, ρ') → (∀ H' R', StR K Z O σ H' R' ρ' → Stp O σ H R H' R' → ExE K E C H') → t σ H Q
noncomputable def MTX (t : TT) (E : XK) (fx : Xr) : Prop := ∀ (Z : Anc) (σ : St) (H R : Hp) (ρ : Rho) (C : Str) (ρ' : Rho) (Q : Bool → Hp → Prop), StR K Z O σ H R ρ → fx ρ = some (C, ρ') → (∀ H' R', StR K Z O σ H' R' ρ' → Stp O σ H R H' R' → ExE K E C H') → t σ H Q
noncomputable def MAX (t : TA) (E : XK) (fx : Xr) : Prop := ∀ (Z : Anc) (σ : St) (H R : Hp) (ρ : Rho) (C : Str) (ρ' : Rho) (Q : List V → Hp → Prop), StR K Z O σ H R ρ → fx ρ = some (C, ρ') → (∀ H' R', StR K Z O σ H' R' ρ' → Stp O σ H R H' R' → ExE K E C H') → t σ H Q
end
noncomputable def xNo : Xr := fun _ => none
noncomputable def xThen {α : Type} (fa : Rho → Option (α × Rho)) (xa xb : Xr) : Xr := fun ρ => match xa ρ with
  | some r => some r
  | none => match fa ρ with
    | some (_, ρ1) => xb ρ1
    | none => none
section
variable {K : PySem.W.Frag} {O : List Nat} {E : XK} {t ta tb : TE} {tr : TA} {tt : TT} {fa fb : Rho → Option (D × Rho)} {fs : Rho → Option (List D × Rho)} {xa xb xs : Xr}
theorem mx_no : MX K O t E xNo := fun _ _ _ _ _ _ _ _ _ e => by cases e
theorem mtx_no : MTX K O tt E xNo := fun _ _ _ _ _ _ _ _ _ e => by cases e
theorem max_no : MAX K O tr E xNo := fun _ _ _ _ _ _ _ _ _ e => by cases e
noncomputable def spPX (K : PySem.W.Frag) (fr : Bool) (n : Nat) (f : List D → Option D) (fx : List D → Option Str) : Sp := fun vs H Q E => spP K fr n f vs H Q E ∨
  (vs.length = n ∧ ∃ R ds C, (∀ a o, R a = some o → H a = some o) ∧ Rps K R vs ds ∧ fx ds = some C ∧ ∀ H' R', Ext H R H' R' → ExE K E C H')
theorem spPX_len {fr : Bool} {n : Nat} {f : List D → Option D} {fx : List D → Option Str} {vs : List V} {H : Hp} {Q : VK} (h : spPX K fr n f fx vs H Q E) : vs.length = n := by
  rcases h with h | h
  · exact h.1
  · exact h.1
noncomputable def xCall (fx : List D → Option Str) (fs : Rho → Option (List D × Rho)) (xs : Xr) : Xr := fun ρ => match xs ρ with
  | some r => some r
  | none => match fs ρ with
    | some (ds, ρ1) => (fx ds).map fun C => (C, ρ1)
    | none => none
noncomputable def runsX (n : Nat) (fx : List D → Option Str) : Prop := ∀ ds C, fx ds = some C → ds.length = n
theorem mx_call {n : Nat} {fr : Bool} {f : List D → Option D} {fx : List D → Option Str} (hf : runsX n fx) (h : MA K O tr fs) (hx : MAX K O tr E xs) : MX K O (tCall (spPX K fr n f fx) [] E tr) E (xCall fx fs xs) := fun Z σ H R ρ C ρ' Q S e k => by
  unfold xCall at e
  cases e1 : xs ρ with
  | some r => rw [e1] at e; cases e; exact hx Z σ H R ρ C ρ' _ S e1 k
  | none =>
    rw [e1] at e
    cases e2 : fs ρ with
    | none => rw [e2] at e; cases e
    | some p =>
      obtain ⟨ds, ρ1⟩ := p
      rw [e2] at e
      dsimp only at e
      cases e3 : fx ds with
      | none => rw [e3] at e; cases e
      | some C1 =>
        rw [e3] at e
        cases e
        refine h Z σ H R ρ ds _ _ S e2 fun vs H1 R1 S1 st1 r1 => ?_
        show spPX K fr n f fx (vs ++ []) H1 Q E
        rw [List.append_nil]
        exact .inr ⟨by rw [r1.length]; exact hf ds C e3, R1, ds, C, S1.sub, r1, e3, fun H2 R2 x => k H2 R2 (S1.ext x) (st1.trans x.stp)⟩
theorem me_callX {n : Nat} {f : List D → Option D} {fx : List D → Option Str} (hf : runsN n f) (h : MA K O tr fs) : ME K O (tCall (spPX K false n f fx) [] E tr) (mCall f fs) := fun Z σ H R ρ d ρ' Q S e k => by
  obtain ⟨ds, ρ1, e1, e⟩ := mBind_some e
  obtain ⟨e2, rfl⟩ := mLift_some e
  refine h Z σ H R ρ ds _ _ S e1 fun vs H1 R1 S1 st1 r1 => ?_
  show spPX K false n f fx (vs ++ []) H1 Q E
  rw [List.append_nil]
  exact .inl ⟨by rw [r1.length]; exact hf ds d e2, R1, ds, d, S1.sub, r1, e2, fun v H2 R2 x q => k v H2 R2 (S1.ext x) (st1.trans x.stp) q⟩
end
noncomputable def MSX (c : MC) (O : List Nat) (t : TS) (E : XK) (fx : Xr) : Prop := ∀ (Z : Anc) (D : Ends) (σ : St) (H R : Hp) (ρ : Rho) (C : Str) (ρ' : Rho), Z.P = c.P → StR c.K Z O σ H R ρ → fx ρ = some (C, ρ') → (∀ O' σ' H' R', StR c.K Z O' σ' H' R' ρ' → ExE c.K E C H') → t D σ H
noncomputable def MSXa (c : MC) (O : List Nat) (t : TS) (E : XK) (fx : Xr) : Prop := ∀ (Z : Anc) (D : Ends) (σ : St) (H R : Hp) (ρ : Rho) (C : Str) (ρ' : Rho), Z.P = c.P → StR c.K Z O σ H R ρ → fx ρ = some (C, ρ') → (∀ H' R', StR c.K Z O σ H' R' ρ' → Same R R' → ExE c.K E C H') → t D σ H
theorem MSXa.g {c : MC} {O : List Nat} {t : TS} {E : XK} {fx : Xr} (h : MSXa c O t E fx) : MSX c O t E fx := fun Z D σ H R ρ C ρ' hP S e k => h Z D σ H R ρ C ρ' hP S e fun H' R' S' _ => k O σ H' R' S'
section
variable {c : MC} {O O' O1 : List Nat} {t u : TS} {te : TE} {tt : TT} {tr : TA} {g : TG} {f h : Rho → Option Out} {fe : Rho → Option (D × Rho)} {fs : Rho → Option (List D × Rho)} {ft : Rho → Option (Bool × Rho)} {E : XK} {xe xt fx hx : Xr}
theorem msx_no : MSX c O t E xNo := fun _ _ _ _ _ _ _ _ _ _ e => by cases e
theorem msxa_expr (h : MX c.K O te E xe) : MSXa c O (tDrop te) E xe := fun Z D σ H R ρ C ρ' hP S e k => h Z σ H R ρ C ρ' _ S e fun H' R' S' st => k H' R' S' st.r
theorem msxa_asg (h : MX c.K O te E xe) : MSXa c O (tAsg te g) E xe := fun Z D σ H R ρ C ρ' hP S e k => h Z σ H R ρ C ρ' _ S e fun H' R' S' st => k H' R' S' st.r
theorem msxa_ret (h : MX c.K O te E xe) : MSXa c O (tRet te) E xe := fun Z D σ H R ρ C ρ' hP S e k => h Z σ H R ρ C ρ' _ S e fun H' R' S' st => k H' R' S' st.r
noncomputable def xRaise (C : Str) (fs : Rho → Option (List D × Rho)) : Xr := fun ρ => match fs ρ with
  | some (ds, ρ1) => if ds.length ≤ sizeLine then some (C, ρ1) else none
  | none => none
theorem msxa_raise {x : Str} {a : Addr} (hx : PySem.W.nsIn c.K mainGlobals x = some (some (.ref a))) (h : MA c.K O tr fs) : MSXa c O (tRaise a E tr) E (xRaise x fs) := fun Z D σ H R ρ C ρ' hP S e k => by
  unfold xRaise at e
  cases e1 : fs ρ with
  | none => rw [e1] at e; cases e
  | some p =>
    obtain ⟨ds, ρ1⟩ := p
    rw [e1] at e
    dsimp only at e
    split at e
    · rename_i hl
      cases e
      refine h Z σ H R ρ ds _ _ S e1 fun vs H1 R1 S1 st1 r1 => ⟨by rw [r1.length]; exact hl, k H1 R1 S1 st1.r _ hx⟩
    · cases e
theorem ms_raise {a : Addr} : MS c O O' (tRaise a E tr) (fun _ => none) := fun _ _ _ _ _ _ _ _ _ e => by cases e
noncomputable def xIf (ft : Rho → Option (Bool × Rho)) (xt fx hx : Xr) : Xr := fun ρ => match xt ρ with
  | some r => some r
  | none => match ft ρ with
    | some (true, ρ1) => fx ρ1
    | some (false, ρ1) => hx ρ1
    | none => none
theorem xIf_some {ρ : Rho} {r : Str × Rho} (e : xIf ft xt fx hx ρ = some r) : xt ρ = some r ∨ (∃ ρ1, ft ρ = some (true, ρ1) ∧ fx ρ1 = some r) ∨ ∃ ρ1, ft ρ = some (false, ρ1) ∧ hx ρ1 = some r := by
  unfold xIf at e
  cases e1 : xt ρ with
  | some q => rw [e1] at e; cases e; exact .inl rfl
  | none =>
    rw [e1] at e
    cases e2 : ft ρ with
    | none => rw [e2] at e; cases e
    | some p =>
      obtain ⟨b, ρ1⟩ := p
      rw [e2] at e
      cases b with
      | true => exact .inr (.inl ⟨ρ1, rfl, e⟩)
      | false => exact .inr (.inr ⟨ρ1, rfl, e⟩)
theorem msx_if (ht : MT c.K O tt ft) (kt : MTX c.K O tt E xt) (k1 : MSX c O t E fx) (k2 : MSX c O u E hx) : MSX c O (tIfS tt t u) E (xIf ft xt fx hx) := fun Z D σ H R ρ C ρ' hP S e k => by
  rcases xIf_some e with e | ⟨ρ1, e1, e2⟩ | ⟨ρ1, e1, e2⟩
  · exact kt Z σ H R ρ C ρ' _ S e fun H' R' S' st => k O σ H' R' S'
  · exact ht Z σ H R ρ true ρ1 _ S e1 fun H1 R1 S1 st1 => iteT (k1 Z D σ H1 R1 ρ1 C ρ' hP S1 e2 k)
  · exact ht Z σ H R ρ false ρ1 _ S e1 fun H1 R1 S1 st1 => iteF (k2 Z D σ H1 R1 ρ1 C ρ' hP S1 e2 k)
noncomputable def xSeq (f : Rho → Option Out) (fx hx : Xr) : Xr := fun ρ => match fx ρ with
  | some r => some r
  | none => match f ρ with
    | some (.nx ρ1) => hx ρ1
    | _ => none
theorem msx_seq (h1 : MS c O O1 t f) (k1 : MSX c O t E fx) (k2 : MSX c O1 u E hx) : MSX c O (tSeq t u) E (xSeq f fx hx) := fun Z D σ H R ρ C ρ' hP S e k => by
  unfold xSeq at e
  cases e1 : fx ρ with
  | some q => rw [e1] at e; cases e; exact k1 Z _ σ H R ρ C ρ' hP S e1 k
  | none =>
    rw [e1] at e
    cases e2 : f ρ with
    | none => rw [e2] at e; cases e
    | some o =>
      rw [e2] at e
      cases o with
      | nx ρ1 => exact h1 Z _ σ H R ρ _ hP S e2 fun σ1 H1 R1 S1 _ => k2 Z D σ1 H1 R1 ρ1 C ρ' hP S1 e k
      | _ => cases e
end
noncomputable def outLess (i : Nat) : Out → Out
  | .nx ρ => .nx (ρ.set i none)
  | .bk ρ => .bk (ρ.set i none)
  | .ct ρ => .ct (ρ.set i none)
  | .rt d ρ => .rt d (ρ.set i none)
noncomputable def sTryAs (i : Nat) (sub : Str → Bool) (fb : Rho → Option Out) (xb : Xr) (fh : Rho → Option Out) : Rho → Option Out := fun ρ => match xb ρ with
  | some (C, ρ1) => if sub C = true then (fh (ρ1.set i (some (.exc C)))).map (outLess i) else none
  | none => fb ρ
noncomputable def sTry (sub : Str → Bool) (fb : Rho → Option Out) (xb : Xr) (fh : Rho → Option Out) : Rho → Option Out := fun ρ => match xb ρ with
  | some (C, ρ1) => if sub C = true then fh ρ1 else none
  | none => fb ρ
noncomputable def KitM (K : PySem.W.Frag) (c : Value) (sub : Str → Bool) : Prop := ∀ C v, PySem.W.nsIn K mainGlobals C = some (some v) → sub C = true → PySem.W.exmOne K v c = some true ∧ ∃ a, v = .ref a ∧ ExcK K a
section
variable {c : MC} {O O' : List Nat} {cv : Value} {i : Nat} {sub : Str → Bool} {tb : XK → TS} {ts : TS} {fb fh : Rho → Option Out} {xb : Xr}
theorem StR.unset {K : PySem.W.Frag} {Z : Anc} {σ : St} {H R : Hp} {ρ : Rho} (S : StR K Z O σ H R ρ) (hi : i ∉ O) : StR K Z O (σ.set i none) H R (ρ.set i none) := by
  have ne : ∀ j, j ∈ O → i ≠ j := fun j hj z => hi (z ▸ hj)
  refine ⟨S.sub, by rw [List.length_set, List.length_set]; exact S.len, fun j e hj q => ?_, fun j hj => ?_, fun j k hj hk n l e => ?_, S.ah, S.ar, S.an, S.ad, fun j hj hp l e => ?_, fun j hj hp l e => ?_⟩
  · by_cases hij : i = j
    · subst hij
      have hl : i < ρ.length := by
        have := (List.getElem?_eq_some_iff.mp q).1
        rwa [List.length_set] at this
      rw [List.getElem?_set_self hl] at q
      cases q
    · rw [List.getElem?_set_ne hij] at q ⊢
      exact S.env j e hj q
  · rw [List.getElem?_set_ne (ne j hj), List.getElem?_set_ne (ne j hj)]
    exact S.own j hj
  · rw [List.getElem?_set_ne (ne j hj)] at e
    rw [List.getElem?_set_ne (ne k hk)]
    exact S.dis j k hj hk n l e
  · rw [List.getElem?_set_ne (ne j hj)] at e
    exact S.ao j hj hp l e
  · rw [List.getElem?_set_ne (ne j hj)] at e
    exact S.ap j hj hp l e
theorem ms_try_as (km : KitM c.K cv sub) (hb : ∀ E, MS c O O' (tb E) fb) (kb : ∀ E, MSXa c O (tb E) E xb) (hs : MS c O O' ts fh) (hi : i ∉ O) (hi' : i ∉ O') (hl : i ∉ c.Ol) (hp : i ∉ c.P) :
    MS c O O' (tTryAs c.K cv i tb ts) (sTryAs i sub fb xb fh) := fun Z D σ H R ρ o hP S e k => by
  unfold sTryAs at e
  cases e1 : xb ρ with
  | none => rw [e1] at e; exact hb _ Z D σ H R ρ o hP S e k
  | some p =>
    obtain ⟨C, ρ1⟩ := p
    rw [e1] at e
    dsimp only at e
    split at e
    · rename_i hsub
      cases e2 : fh (ρ1.set i (some (.exc C))) with
      | none => rw [e2] at e; cases e
      | some o2 =>
        rw [e2] at e
        cases e
        refine kb _ Z D σ H R ρ C ρ1 hP S e1 fun H' R' S' s' v hv => ?_
        obtain ⟨q1, a, rfl, ke⟩ := km C v hv hsub
        refine ⟨q1, fun ea ne => ?_⟩
        have x := Ext.new (o := excO ea (.ref a)) S'.sub ne
        have S2 := (S'.ext x).set (i := i) (v := .ref ea) (d := .exc C) hi (.exc hv ke upd_same)
        refine hs Z (D.less i) _ _ _ _ o2 hP S2 e2 ?_
        have s2 : Same R (upd R' ea (excO ea (.ref a))) := s'.trans x.r
        cases o2 with
        | nx ρ2 => exact fun σ3 H3 R3 S3 s3 => k _ H3 R3 (S3.unset hi') (s2.trans s3)
        | bk ρ2 => exact fun σ3 H3 R3 S3 s3 => k _ H3 R3 (S3.unset hl) (s2.trans s3)
        | ct ρ2 => exact fun σ3 H3 R3 S3 s3 => k _ H3 R3 (S3.unset hl) (s2.trans s3)
        | rt d ρ2 => exact fun v σ3 H3 R3 S3 q => k v _ H3 R3 (S3.unset hp) q
    · cases e
end
noncomputable def runX (n N : Nat) (fx : Xr) (ds : List D) : Option Str := if ds.length = n then (fx (ds.map some ++ List.replicate (N - n) none)).map (·.1) else none
theorem runX_n {n N : Nat} {fx : Xr} : runsX n (runX n N fx) := fun ds C e => by
  unfold runX at e
  split at e
  · assumption
  · cases e
theorem spPX_body {K : PySem.W.Frag} {fr : Bool} {n : Nat} {Nms : List Str} {O' : List Nat} {t : TS} {f : Rho → Option Out} {fx : Xr} {vs : List V} {H : Hp} {Q : VK} {E : XK} (hm : MS ⟨K, fr, [], []⟩ [] O' t f) (hx : MSX ⟨K, fr, [], []⟩ [] t E fx)
    (h : spPX K fr n (runP fr n Nms.length f) (runX n Nms.length fx) vs H Q E) : t { nx := fun _ H' => Q .non H', rt := Q } (start Nms vs) H := by
  rcases h with h | ⟨hn, R, ds, C, sub, r, e, k⟩
  · exact spP_body hm h
  · unfold runX at e
    split at e
    · rename_i hl
      have S : StR K ⟨H, R, fun _ => False, []⟩ [] (start Nms vs) H R (ds.map some ++ List.replicate (Nms.length - n) none) := by
        refine ⟨sub, ?_, fun i d _ q => ?_, fun i hi => absurd hi (by simp), fun i j hi => absurd hi (by simp), fun a o q _ => q, Same.refl _, fun a q => .inl q, fun a q => .refl q, fun i hi => absurd hi (by simp), fun i hi => absurd hi (by simp)⟩
        · unfold start
          rw [List.length_append, List.length_append, List.length_map, List.length_map, List.length_replicate, List.length_replicate, hn, hl]
        · obtain ⟨v, h1, h2⟩ := r.get (slots_get q)
          exact ⟨v, start_get h1, h2⟩
      cases e1 : fx (ds.map some ++ List.replicate (Nms.length - n) none) with
      | none => rw [e1] at e; cases e
      | some p =>
        obtain ⟨C1, ρ1⟩ := p
        rw [e1] at e
        cases e
        exact hx _ _ _ _ _ _ _ ρ1 rfl S e1 fun O2 σ' H' R' S' => k H' R' ⟨fun a o q => S'.ah a o q (fun z => z), S'.ar, S'.sub, S'.an⟩
    · cases e
theorem pass1 {X : Cx} {P : Program} {w : World} : Passes (CX1 P w) X E0 := fun _ _ _ _ _ _ _ h => by
  obtain ⟨_, _, _, _, _, z⟩ := h
  exact z.elim
end L2
set_option Elab.async false
set_option linter.all false
set_option maxRecDepth 100000
set_option maxHeartbeats 4000000
namespace L2
open PySem PySem.Spec PyProof.Rows
section
variable {K : PySem.W.Frag} {O : List Nat} {tr : TA} {fs : Rho → Option (List D × Rho)} {E : XK} {n : Nat}
end
section
variable {K : PySem.W.Frag}
theorem kit_reft {C : Addr} {U : String} {b : Bool} (hm : PySem.W.kitMeta U = true) (h3 : PySem.W.subIn K (.ref C) (.type U) = some b) : PySem.W.kitOne K (.ref C) (.type U) = some b := by
  unfold PySem.W.kitOne
  have hne : ¬ ((Value.ref C == Value.type U) = true) := fun z => by have y := eq_of_beq z; cases y
  rw [if_neg hne]
  unfold PySem.W.kitCls
  dsimp only
  rw [if_pos hm]
  exact h3
theorem exm_mk {t : Value} {d : Addr} {b : Bool} (h0 : PySem.W.subIn K (.ref d) (.type "BaseException") = some true) (h1 : PySem.W.isClsIn K d = true) (h2 : PySem.W.typeIn K (.ref d) = some (.type "type")) (h3 : PySem.W.subIn K t (.ref d) = some b) : PySem.W.exmOne K t (.ref d) = some b := by
  unfold PySem.W.exmOne
  rw [h0, if_pos (beq_self_eq_true _)]
  unfold PySem.W.kitCls
  have e : ((PySem.W.clsIn K d).isSome && PySem.W.typeIn K (.ref d) == some (.type "type")) = true := by
    rw [h2, beq_self_eq_true, Bool.and_true]
    exact h1
  dsimp only
  rw [if_pos e]
  exact h3
theorem look_mem {β : Type} {x : Str} {b : β} : ∀ {tab : List (Str × β)}, tab.lookup x = some b → (x, b) ∈ tab
  | [], h => by cases h
  | (y, d) :: tab, h => by
    unfold List.lookup at h
    by_cases q : (x == y) = true
    · rw [q] at h
      cases h
      rw [beq_iff_eq.mp q]
      exact List.mem_cons_self
    · rw [Bool.eq_false_iff.mpr q] at h
      exact List.mem_cons_of_mem _ (look_mem h)
theorem kitE_of {c : Value} {tab : List (Str × Bool)} (h : ∀ p ∈ tab, ∃ C, PySem.W.nsIn K mainGlobals p.1 = some (some (.ref C)) ∧ PySem.W.kitOne K (.ref C) c = some p.2) (n : PySem.W.kitOne K (.type "NoneType") c = some false) : KitE K c (fun x => tab.lookup x) :=
  ⟨fun x C b e q => by
    obtain ⟨C2, e2, k⟩ := h _ (look_mem q)
    rw [e] at e2
    cases e2
    exact k, n⟩
theorem kitEs_of {cs : List Value} {tab : List (Str × Bool)} (h : ∀ p ∈ tab, ∃ C, PySem.W.nsIn K mainGlobals p.1 = some (some (.ref C)) ∧ PySem.W.kitAny K (.ref C) cs = some p.2) (n : PySem.W.kitAny K (.type "NoneType") cs = some false) : KitEs K cs (fun x => tab.lookup x) :=
  ⟨fun x C b e q => by
    obtain ⟨C2, e2, k⟩ := h _ (look_mem q)
    rw [e] at e2
    cases e2
    exact k, n⟩
theorem kitAny_nil {t : Value} : PySem.W.kitAny K t [] = some false := rfl
theorem kitAny_f {t c : Value} {cs : List Value} {b : Bool} (h : PySem.W.kitOne K t c = some false) (r : PySem.W.kitAny K t cs = some b) : PySem.W.kitAny K t (c :: cs) = some b := by
  unfold PySem.W.kitAny
  rw [h]
  exact r
theorem kitAny_t {t c : Value} {cs : List Value} (h : PySem.W.kitOne K t c = some true) : PySem.W.kitAny K t (c :: cs) = some true := by
  unfold PySem.W.kitAny
  rw [h]
theorem kitM_of {c : Value} {tab : List Str} (h : ∀ x ∈ tab, ∃ a, PySem.W.nsIn K mainGlobals x = some (some (.ref a)) ∧ PySem.W.exmOne K (.ref a) c = some true ∧ ExcK K a) : KitM K c (fun x => tab.contains x) := fun C v e q => by
  obtain ⟨a, e2, k, x⟩ := h C (by simpa using q)
  rw [e] at e2
  cases e2
  exact ⟨k, a, rfl, x⟩
end
end L2
set_option Elab.async false
set_option linter.all false
set_option maxRecDepth 100000
set_option maxHeartbeats 4000000
namespace L2
open PySem PySem.Spec PyProof.Rows
theorem PS.nox {X : Cx} {st : Stmt} {t : TS} (h : PS X.nox st t) : PS X st t := fun pins s σ H D I hw =>
  wpAny_mono (h pins s σ H D (I.wish _) hw) (fun _ _ q => q.unwish) fun _ _ z => False.elim z
theorem PS.or {X : Cx} {st : Stmt} {t u : TS} (h1 : PS X st t) (h2 : PS X st u) : PS X st (fun D σ H => t D σ H ∨ u D σ H) := fun pins s σ H D I h => by
  rcases h with h | h
  · exact h1 pins s σ H D I h
  · exact h2 pins s σ H D I h
section
variable (K : PySem.W.Frag) (O : List Nat)
end
section
variable {K : PySem.W.Frag} {O : List Nat} {ta : TE} {tr : TA} {fa : Rho → Option (D × Rho)} {fs : Rho → Option (List D × Rho)} {E : XK} {n : Nat}
noncomputable def scD : D → Bool
  | .non => true
  | .bl _ => true
  | .int _ => true
  | .str _ => true
  | _ => false
noncomputable def mCallB (f : List D → Option D) (fs : Rho → Option (List D × Rho)) : Rho → Option (D × Rho) := mBind fs fun ds => mLift (match f ds with
  | some d => if scD d = true then some d else none
  | none => none)
end
end L2
set_option Elab.async false
set_option linter.all false
set_option maxRecDepth 100000
set_option maxHeartbeats 4000000
namespace L2
open PySem PySem.Spec PyProof.Rows
theorem fst_some {α : Type} {o : Option (α × Rho)} {x : α} (h : o.map (·.1) = some x) : ∃ ρ, o = some (x, ρ) := by
  cases o with
  | none => cases h
  | some p => cases h; exact ⟨p.2, rfl⟩
theorem cm_map {n : Nat} {js : List Nat} {fg : D → Rho → Option Rho} {fe : Rho → Option (D × Rho)} {ρ : Rho} (g : D → D) : ∀ (xs : List D), (∀ x ∈ xs, ∃ ρ1, fg x (capsR n js ρ) = some ρ1 ∧ (fe ρ1).map (·.1) = some (g x)) → compRun n js none fg (mRet true) fe xs ρ = some (xs.map g, ρ)
  | [], _ => rfl
  | x :: xs, h => by
    obtain ⟨ρ1, h1, h2⟩ := h x List.mem_cons_self
    obtain ⟨ρ2, h2⟩ := fst_some h2
    have ih := cm_map (n := n) (js := js) (fg := fg) (fe := fe) (ρ := ρ) g xs fun y hy => h y (List.mem_cons_of_mem _ hy)
    simp only [compRun, h1, mRet, h2, backR]
    rw [ih]
    rfl
theorem at0 {α : Type} (x : α) (xs : List α) : atI (x :: xs) 0 = some x := by
  unfold atI ixN
  simp
theorem at1 {α : Type} (x y : α) (xs : List α) : atI (x :: y :: xs) 1 = some y := atI_nat (j := 1) rfl
theorem at2 {α : Type} (x y z : α) (xs : List α) : atI (x :: y :: z :: xs) 2 = some z := atI_nat (j := 2) rfl
theorem at3 {α : Type} (x y z u : α) (xs : List α) : atI (x :: y :: z :: u :: xs) 3 = some u := atI_nat (j := 3) rfl
theorem at4 {α : Type} (x y z u v : α) (xs : List α) : atI (x :: y :: z :: u :: v :: xs) 4 = some v := atI_nat (j := 4) rfl
theorem at5 {α : Type} (x y z u v w : α) (xs : List α) : atI (x :: y :: z :: u :: v :: w :: xs) 5 = some w := atI_nat (j := 5) rfl
theorem line_of {n : Nat} (h : n ≤ 1000000) : n ≤ sizeLine := Nat.le_trans h (by decide)
theorem rangeD_len (lo : Int) (n : Nat) : (rangeD lo n).length = n := by simp [rangeD]
noncomputable def nx (s : Int) : Int := (s * 1181783497276652981 + 12345678910987) % (2 ^ 61 - 1)
noncomputable def dr (s m : Int) : Int := nx s / 65537 % m
theorem dr_lo (s : Int) {m : Int} (h : 0 < m) : 0 ≤ dr s m := Int.emod_nonneg _ (by omega)
theorem dr_hi (s : Int) {m : Int} (h : 0 < m) : dr s m < m := Int.emod_lt_of_pos _ h
theorem eqD_int (i j : Int) : eqD (.int i) (.int j) = some (i == j) := by
  simp [eqD, D.toP, SeqAt.shaped, PyData.canLay0, PyData.depth, PyData.eqv]
theorem eqD_bl (i j : Bool) : eqD (.bl i) (.bl j) = some (i == j) := by
  simp [eqD, D.toP, SeqAt.shaped, PyData.canLay0, PyData.depth, PyData.eqv]
theorem eqD_str {i j : Str} (hi : PyData.strOk i = true) (hj : PyData.strOk j = true) : eqD (.str i) (.str j) = some (i == j) := by
  simp [eqD, D.toP, SeqAt.shaped, PyData.canLay0, PyData.depth, PyData.eqv, hi, hj]
theorem eqD_none_int (j : Int) : eqD .non (.int j) = some false := by
  simp [eqD, D.toP, SeqAt.shaped, PyData.canLay0, PyData.depth, PyData.eqv]
theorem eqD_int_none (j : Int) : eqD (.int j) .non = some false := by
  simp [eqD, D.toP, SeqAt.shaped, PyData.canLay0, PyData.depth, PyData.eqv]
theorem eqD_none : eqD .non .non = some true := by
  simp [eqD, D.toP, SeqAt.shaped, PyData.canLay0, PyData.depth, PyData.eqv]
theorem join_one' (z : Str) : PySem.Txt.join "" [z] = z := rfl
section
variable {α β : Type} {a : Rho → Option (α × Rho)} {k : α → Rho → Option (β × Rho)} {ρ : Rho} {fa fb fc : Rho → Option (D × Rho)} {ga gb : Rho → Option (Bool × Rho)} {fs : Rho → Option (List D × Rho)} {g g' : D → D → Option D} {g1 : D → Option D} {gl : D → Option (List D)} {g2 : D → D → Option (List D)} {fl fh : Rho → Option (Option Int × Rho)}
theorem ev_bind : mBind a k ρ = (a ρ).bind fun p => k p.1 p.2 := by
  unfold mBind
  cases a ρ <;> rfl
theorem ev_ret {x : α} : mRet x ρ = some (x, ρ) := rfl
theorem ev_lift {o : Option α} : mLift o ρ = o.map fun x => (x, ρ) := by cases o <;> rfl
theorem ev_var {i : Nat} : mVar i ρ = (ρ[i]?).join.map fun d => (d, ρ) := by
  unfold mVar
  cases h : ρ[i]? with
  | none => rfl
  | some o => cases o <;> rfl
theorem ev_op2 : mOp2 g fa fb ρ = (fa ρ).bind fun p => (fb p.2).bind fun q => (g p.1 q.1).map fun x => (x, q.2) := by
  unfold mOp2
  rw [ev_bind]
  congr 1; funext p
  rw [ev_bind]
  congr 1; funext q
  rw [ev_lift]
theorem ev_op1 : mOp1 g1 fa ρ = (fa ρ).bind fun p => (g1 p.1).map fun x => (x, p.2) := by
  unfold mOp1
  rw [ev_bind]
  congr 1; funext p
  rw [ev_lift]
theorem ev_op1L : mOp1L gl fa ρ = (fa ρ).bind fun p => (gl p.1).map fun x => (x, p.2) := by
  unfold mOp1L
  rw [ev_bind]
  congr 1; funext p
  rw [ev_lift]
theorem ev_op2L : mOp2L g2 fa fb ρ = (fa ρ).bind fun p => (fb p.2).bind fun q => (g2 p.1 q.1).map fun x => (x, q.2) := by
  unfold mOp2L
  rw [ev_bind]
  congr 1; funext p
  rw [ev_bind]
  congr 1; funext q
  rw [ev_lift]
theorem ev_opO {i : Nat} : mOpO g i fb ρ = (fb ρ).bind fun q => ((q.2[i]?).join).bind fun x => (g x q.1).map fun z => (z, q.2) := by
  unfold mOpO
  rw [ev_bind]
  congr 1; funext q
  rw [ev_bind, ev_var]
  cases (q.2[i]?).join with
  | none => rfl
  | some x => show mLift _ _ = _; rw [ev_lift]; rfl
noncomputable def ixO : D → D → Option D
  | .lst xs, .int j => atI xs j
  | _, _ => none
theorem ev_ixO {i : Nat} : mIxO i fb ρ = (fb ρ).bind fun q => ((q.2[i]?).join).bind fun x => (ixO x q.1).map fun z => (z, q.2) := by
  unfold mIxO
  rw [ev_bind]
  congr 1; funext q
  rw [ev_bind, ev_var]
  cases (q.2[i]?).join with
  | none => rfl
  | some x => show mLift _ _ = _; rw [ev_lift]; cases x <;> (cases q.1 <;> rfl)
noncomputable def blO : D → Option Bool
  | .bl b => some b
  | _ => none
theorem ev_test : mTest fa ρ = (fa ρ).bind fun p => (blO p.1).map fun x => (x, p.2) := by
  unfold mTest
  rw [ev_bind]
  congr 1; funext p
  rw [ev_lift]
  cases p.1 <;> rfl
theorem ev_not : mNot ga ρ = (ga ρ).map fun p => (!p.1, p.2) := by
  unfold mNot
  rw [ev_bind]
  cases ga ρ <;> rfl
theorem ev_and : mAnd ga gb ρ = (ga ρ).bind fun p => if p.1 = true then gb p.2 else some (false, p.2) := by
  unfold mAnd
  rw [ev_bind]
  congr 1; funext p
  split <;> rfl
theorem ev_or : mOr ga gb ρ = (ga ρ).bind fun p => if p.1 = true then some (true, p.2) else gb p.2 := by
  unfold mOr
  rw [ev_bind]
  congr 1; funext p
  split <;> rfl
theorem ev_andV : mAndV fa fb ρ = (mTest fa ρ).bind fun p => if p.1 = true then fb p.2 else some (.bl false, p.2) := by
  unfold mAndV
  rw [ev_bind]
  congr 1; funext p
  split <;> rfl
theorem ev_orV : mOrV fa fb ρ = (mTest fa ρ).bind fun p => if p.1 = true then some (.bl true, p.2) else fb p.2 := by
  unfold mOrV
  rw [ev_bind]
  congr 1; funext p
  split <;> rfl
theorem ev_notV : mNotV fa ρ = (mTest fa ρ).map fun p => (.bl (!p.1), p.2) := by
  unfold mNotV
  rw [ev_bind]
  cases mTest fa ρ <;> rfl
theorem ev_if : mIf ga fa fb ρ = (ga ρ).bind fun p => if p.1 = true then fa p.2 else fb p.2 := by
  unfold mIf
  rw [ev_bind]
  congr 1; funext p
  split <;> rfl
theorem ev_nil : mNil ρ = some ([], ρ) := rfl
theorem ev_cons : mCons fa fs ρ = (fa ρ).bind fun p => (fs p.2).map fun q => (p.1 :: q.1, q.2) := by
  unfold mCons
  rw [ev_bind]
  congr 1; funext p
  rw [ev_bind]
  cases fs p.2 <;> rfl
theorem ev_tup : mTup fs ρ = (fs ρ).bind fun p => if p.1.length ≤ sizeLine then some (.tup p.1, p.2) else none := by
  unfold mTup
  rw [ev_bind]
  congr 1; funext p
  rw [ev_lift]
  split <;> rfl
theorem ev_lst : mLst fs ρ = (fs ρ).bind fun p => if p.1.length ≤ sizeLine then some (p.1, p.2) else none := by
  unfold mLst
  rw [ev_bind]
  congr 1; funext p
  rw [ev_lift]
  split <;> rfl
theorem ev_of : mOf fs ρ = (fs ρ).map fun p => (.lst p.1, p.2) := by
  unfold mOf
  rw [ev_bind]
  cases fs ρ <;> rfl
theorem ev_call {f : List D → Option D} : mCall f fs ρ = (fs ρ).bind fun p => (f p.1).map fun x => (x, p.2) := by
  unfold mCall
  rw [ev_bind]
  congr 1; funext p
  rw [ev_lift]
theorem ev_callL {f : List D → Option D} : mCallL f fs ρ = (fs ρ).bind fun p => (lstOf (f p.1)).map fun x => (x, p.2) := by
  unfold mCallL
  rw [ev_bind]
  congr 1; funext p
  rw [ev_lift]
noncomputable def lsO : D → Option (List D)
  | .lst xs => some xs
  | _ => none
theorem ev_callS {f : List D → List D → Option (D × List D)} {i : Nat} : mCallS f i fs ρ = (fs ρ).bind fun p => ((p.2[i]?).join.bind lsO).bind fun xs => (f xs p.1).map fun r => (r.1, p.2.set i (some (.lst r.2))) := by
  unfold mCallS
  rw [ev_bind]
  congr 1; funext p
  cases h : p.2[i]? with
  | none => rfl
  | some o =>
    cases o with
    | none => rfl
    | some d =>
      cases d with
      | lst xs =>
        show (match f xs p.1 with | some (d, ys) => some (d, p.2.set i (some (.lst ys))) | none => none) = _
        show _ = (f xs p.1).map _
        cases f xs p.1 <;> rfl
      | _ => rfl
theorem ev_comp {n : Nat} {js : List Nat} {bw : Option (Nat × Nat)} {fg : D → Rho → Option Rho} : mComp n js bw fs fg ga fa ρ = (fs ρ).bind fun p => if p.1.length ≤ sizeLine then compRun n js bw fg ga fa p.1 p.2 else none := by
  unfold mComp
  rw [ev_bind]
theorem ev_seq : mSeq fa ρ = (fa ρ).bind fun p => (dSeq p.1).map fun x => (x, p.2) := by
  unfold mSeq
  rw [ev_bind]
  congr 1; funext p
  rw [ev_lift]
  cases p.1 <;> rfl
noncomputable def rng1 : List D → Option (List D)
  | [.int j] => if big j = true then some (rangeD 0 j.toNat) else none
  | _ => none
theorem ev_rng1 : mRng1 fs ρ = (fs ρ).bind fun p => (rng1 p.1).map fun x => (x, p.2) := by
  unfold mRng1
  rw [ev_bind]
  congr 1; funext p
  rw [ev_lift]
  rfl
noncomputable def rng2 : List D → Option (List D)
  | [.int i, .int j] => if (big i && big j) = true then some (rangeD i (j - i).toNat) else none
  | _ => none
theorem ev_rng2 : mRng2 fs ρ = (fs ρ).bind fun p => (rng2 p.1).map fun x => (x, p.2) := by
  unfold mRng2
  rw [ev_bind]
  congr 1; funext p
  rw [ev_lift]
  rfl
noncomputable def zip2 : List D → Option (List D)
  | [x, y] => match dSeq x, dSeq y with
    | some xs, some ys => some (zipD xs ys)
    | _, _ => none
  | _ => none
theorem ev_zip : mZip fs ρ = (fs ρ).bind fun p => (zip2 p.1).map fun x => (x, p.2) := by
  unfold mZip
  rw [ev_bind]
  congr 1; funext p
  rw [ev_lift]
  rfl
noncomputable def inO : D → Option (Option Int)
  | .int i => some (some i)
  | _ => none
theorem ev_part : mPart fa ρ = (fa ρ).bind fun p => (inO p.1).map fun x => (x, p.2) := by
  unfold mPart
  rw [ev_bind]
  congr 1; funext p
  rw [ev_lift]
  cases p.1 <;> rfl
theorem ev_sl : mSl fa fl fh ρ = (fa ρ).bind fun p => (fl p.2).bind fun q => (fh q.2).bind fun r => (dSl p.1 q.1 r.1).map fun x => (x, r.2) := by
  unfold mSl
  rw [ev_bind]
  congr 1; funext p
  rw [ev_bind]
  congr 1; funext q
  rw [ev_bind]
  congr 1; funext r
  rw [ev_lift]
noncomputable def slO (d : D) (lo hi : Option Int) : Option (List D) := match d with
  | .lst xs => some (cutD xs lo hi)
  | _ => none
theorem ev_slL : mSlL fa fl fh ρ = (fa ρ).bind fun p => (fl p.2).bind fun q => (fh q.2).bind fun r => (slO p.1 q.1 r.1).map fun x => (x, r.2) := by
  unfold mSlL
  rw [ev_bind]
  congr 1; funext p
  rw [ev_bind]
  congr 1; funext q
  rw [ev_bind]
  congr 1; funext r
  rw [ev_lift]
  rfl
theorem ev_chain : mChain g g' fa fb fc ρ = (fa ρ).bind fun p => (fb p.2).bind fun q => ((g p.1 q.1).bind blO).bind fun b => if b = true then (fc q.2).bind fun r => (g' q.1 r.1).map fun x => (x, r.2) else some (.bl false, q.2) := by
  unfold mChain
  rw [ev_bind]
  congr 1; funext p
  rw [ev_bind]
  congr 1; funext q
  rw [ev_bind, ev_test, ev_lift]
  cases g p.1 q.1 with
  | none => rfl
  | some d =>
    cases d with
    | bl b =>
      cases b with
      | true =>
        show mBind fc (fun z => mLift (g' q.1 z)) q.2 = _
        rw [ev_bind]
        show _ = (fc q.2).bind _
        congr 1; funext r
        rw [ev_lift]
      | false => rfl
    | _ => rfl
theorem ev_sseq {f h : Rho → Option Out} : sSeq f h ρ = (f ρ).bind fun o => match o with
    | .nx ρ1 => h ρ1
    | o => some o := by
  unfold sSeq
  cases f ρ with
  | none => rfl
  | some o => cases o <;> rfl
theorem ev_sset {i : Nat} : sSet i fa ρ = (fa ρ).map fun p => .nx (p.2.set i (some p.1)) := by
  unfold sSet
  cases fa ρ <;> rfl
theorem ev_sown {i : Nat} : sOwn i fs ρ = (fs ρ).bind fun p => if i < p.2.length then some (.nx (p.2.set i (some (.lst p.1)))) else none := by
  unfold sOwn
  cases fs ρ <;> rfl
theorem ev_sasg {fg : D → Rho → Option Rho} : sAsg fa fg ρ = (fa ρ).bind fun p => (fg p.1 p.2).map .nx := by
  unfold sAsg
  cases fa ρ with
  | none => rfl
  | some p =>
    obtain ⟨d, ρ1⟩ := p
    show (match fg d ρ1 with | none => none | some ρ2 => some (Out.nx ρ2)) = (fg d ρ1).map _
    cases fg d ρ1 <;> rfl
theorem ev_sif {f h : Rho → Option Out} : sIf ga f h ρ = (ga ρ).bind fun p => if p.1 = true then f p.2 else h p.2 := by
  unfold sIf
  cases ga ρ <;> rfl
theorem ev_sret : sRet fa ρ = (fa ρ).map fun p => .rt p.1 p.2 := by
  unfold sRet
  cases fa ρ <;> rfl
theorem ev_sretL : sRetL fs ρ = (fs ρ).map fun p => .rt (.lst p.1) p.2 := by
  unfold sRetL
  cases fs ρ <;> rfl
theorem ev_sretO {i : Nat} : sRetO i ρ = ((ρ[i]?).join.bind lsO).map fun d => .rt (.lst d) (ρ.set i none) := by
  unfold sRetO
  cases h : ρ[i]? with
  | none => rfl
  | some o =>
    cases o with
    | none => rfl
    | some d => cases d <;> rfl
theorem isL_bind {α : Type} (i : Nat) (x : Option α) : (if isL ρ i = true then x else none) = ((ρ[i]?).join.bind lsO).bind fun _ => x := by
  unfold isL
  cases h : ρ[i]? with
  | none => rfl
  | some o =>
    cases o with
    | none => rfl
    | some d => cases d <;> rfl
theorem ev_snil : sNil ρ = some (.nx ρ) := rfl
theorem ev_sretN : sRetN ρ = some (.rt .non ρ) := rfl
theorem ev_sbk : sBk ρ = some (.bk ρ) := rfl
theorem ev_sct : sCt ρ = some (.ct ρ) := rfl
theorem ev_sdrop : sDrop fa ρ = (fa ρ).map fun p => .nx p.2 := by
  unfold sDrop
  cases fa ρ <;> rfl
theorem ev_smut {gm : List D → List D → Option (List D)} {i : Nat} : sMut gm i fs ρ = ((ρ[i]?).join.bind lsO).bind fun _ => (fs ρ).bind fun p => ((p.2[i]?).join.bind lsO).bind fun xs => (gm xs p.1).map fun ys => .nx (p.2.set i (some (.lst ys))) := by
  refine Eq.trans ?_ (isL_bind _ _)
  unfold sMut
  congr 1
  cases fs ρ with
  | none => rfl
  | some p =>
    show (match p.2[i]? with | some (some (.lst xs)) => _ | _ => none) = _
    show _ = ((p.2[i]?).join.bind lsO).bind _
    cases h : p.2[i]? with
    | none => rfl
    | some o =>
      cases o with
      | none => rfl
      | some d =>
        cases d with
        | lst xs =>
          show (match gm xs p.1 with | some ys => some (Out.nx _) | none => none) = (gm xs p.1).map _
          cases gm xs p.1 <;> rfl
        | _ => rfl
theorem ev_sext {i : Nat} : sExt i fs ρ = ((ρ[i]?).join.bind lsO).bind fun _ => (fs ρ).bind fun p => ((p.2[i]?).join.bind lsO).bind fun xs => if xs.length + p.1.length ≤ sizeLine then some (.nx (p.2.set i (some (.lst (xs ++ p.1))))) else none := by
  refine Eq.trans ?_ (isL_bind _ _)
  unfold sExt
  congr 1
  cases fs ρ with
  | none => rfl
  | some p =>
    show (match p.2[i]? with | some (some (.lst xs)) => _ | _ => none) = _
    show _ = ((p.2[i]?).join.bind lsO).bind _
    cases h : p.2[i]? with
    | none => rfl
    | some o =>
      cases o with
      | none => rfl
      | some d => cases d <;> rfl
noncomputable def setI (x d k : D) : Option D := match x, k with
  | .lst xs, .int j => (ixN xs.length j).map fun m => .lst (xs.set m d)
  | _, _ => none
theorem ev_sseti {i : Nat} : sSetI i fa fb ρ = (fa ρ).bind fun p => (fb p.2).bind fun q => ((q.2[i]?).join).bind fun x => (setI x p.1 q.1).map fun y => .nx (q.2.set i (some y)) := by
  unfold sSetI
  cases fa ρ with
  | none => rfl
  | some p =>
    show (match fb p.2 with | some (.int k, ρ2) => _ | _ => none) = (fb p.2).bind _
    cases fb p.2 with
    | none => rfl
    | some q =>
      obtain ⟨y, ρ2⟩ := q
      cases y with
      | int j =>
        show (match ρ2[i]? with | some (some (.lst xs)) => _ | _ => none) = ((ρ2[i]?).join).bind _
        cases h : ρ2[i]? with
        | none => rfl
        | some o =>
          cases o with
          | none => rfl
          | some d =>
            cases d with
            | lst xs =>
              show (match ixN xs.length j with | some m => some (Out.nx _) | none => none) = ((ixN xs.length j).map _).map _
              cases ixN xs.length j <;> rfl
            | _ => rfl
      | _ =>
        show none = ((ρ2[i]?).join).bind _
        cases h : (ρ2[i]?).join with
        | none => rfl
        | some x => cases x <;> rfl
theorem ev_sfor {fg : D → Rho → Option Rho} {f : Rho → Option Out} : sFor fs fg f ρ = (fs ρ).bind fun p => forRun fg f p.1 p.2 := by
  unfold sFor
  cases fs ρ <;> rfl
theorem ev_gset {i : Nat} {d : D} : gSet i d ρ = some (ρ.set i (some d)) := rfl
theorem ev_saug {gi : Int → Int → Int} {i : Nat} : sAug gi i fa ρ = ((ρ[i]?).join).bind fun x => (fa ρ).bind fun p => (dI0 gi x p.1).map fun z => .nx (p.2.set i (some z)) := by
  unfold sAug
  cases h : ρ[i]? with
  | none => rfl
  | some o =>
    cases o with
    | none => rfl
    | some d =>
      cases d with
      | int x =>
        show (match fa ρ with | some (.int y, ρ1) => some (Out.nx _) | _ => none) = (fa ρ).bind _
        cases fa ρ with
        | none => rfl
        | some p =>
          obtain ⟨y, ρ1⟩ := p
          cases y <;> rfl
      | _ =>
        show none = (fa ρ).bind _
        cases fa ρ with
        | none => rfl
        | some p =>
          obtain ⟨y, ρ1⟩ := p
          cases y <;> rfl
end
theorem le_line {n : Nat} (h : n ≤ 1000000) : (n ≤ sizeLine) = True := eq_true (line_of h)
theorem lt_line {n : Nat} (h : n ≤ 1000000) : (n < sizeLine) = True := eq_true (Nat.lt_of_le_of_lt h (by decide))
theorem sIx_pos {n d : Nat} {k : Int} (h : 0 ≤ k) : HT.sIx n d (some k) = min k.toNat n := by
  show (if k < 0 then (k + (n : Int)).toNat else min k.toNat n) = _
  rw [if_neg (by omega)]
theorem cutD_to (xs : List D) {k : Int} (h : 0 ≤ k) : cutD xs none (some k) = xs.take k.toNat := by
  unfold cutD
  rw [sIx_pos h, HT.sIx_none, List.drop_zero, Nat.sub_zero]
  exact List.take_eq_take_min.symm
theorem cutD_from (xs : List D) {k : Int} (h : 0 ≤ k) : cutD xs (some k) none = xs.drop k.toNat := by
  unfold cutD
  rw [sIx_pos h, HT.sIx_none]
  by_cases hk : k.toNat ≤ xs.length
  · rw [Nat.min_eq_left hk]
    exact List.take_of_length_le (by rw [List.length_drop]; exact Nat.le_refl _)
  · rw [Nat.min_eq_right (by omega), List.drop_eq_nil_of_le (Nat.le_refl _), List.drop_eq_nil_of_le (by omega)]
    simp
theorem dSl_tto {xs : List D} {k : Int} (h0 : 0 ≤ k) (h : k < (xs.length : Int)) : dSl (.tup xs) none (some k) = some (.tup (xs.take k.toNat)) := by
  show (if HT.sIx xs.length 0 none = 0 ∧ HT.sIx xs.length xs.length (some k) = xs.length then none else some (D.tup (cutD xs none (some k)))) = _
  rw [sIx_pos h0, if_neg (by omega), cutD_to xs h0]
theorem dSl_tfrom {xs : List D} {k : Int} (h0 : 0 < k) (h : xs ≠ []) : dSl (.tup xs) (some k) none = some (.tup (xs.drop k.toNat)) := by
  have hl : 0 < xs.length := List.length_pos_iff.mpr h
  show (if HT.sIx xs.length 0 (some k) = 0 ∧ HT.sIx xs.length xs.length none = xs.length then none else some (D.tup (cutD xs (some k) none))) = _
  rw [sIx_pos (by omega), if_neg (by omega), cutD_from xs (by omega)]
theorem dSl_lto {xs : List D} {k : Int} (h0 : 0 ≤ k) : dSl (.lst xs) none (some k) = some (.lst (xs.take k.toNat)) := by
  show some (D.lst (cutD xs none (some k))) = _
  rw [cutD_to xs h0]
theorem dSl_lfrom {xs : List D} {k : Int} (h0 : 0 ≤ k) : dSl (.lst xs) (some k) none = some (.lst (xs.drop k.toNat)) := by
  show some (D.lst (cutD xs (some k) none)) = _
  rw [cutD_from xs h0]
end L2
set_option Elab.async false
set_option linter.all false
set_option maxRecDepth 100000
set_option maxHeartbeats 4000000
namespace L2
open PySem PySem.Spec PyProof.Rows
section
variable {X : Cx} {a : Expr} {ta : TE} {p pos : Pos} {elts : List Expr} {x1 : Nat} {tp : Pos}
end
noncomputable def enumD (xs : List D) : List D := xs.zipIdx.map fun q => D.tup [.int (q.2 : Int), q.1]
section
variable {K : PySem.W.Frag} {O : List Nat} {t : TE} {fa : Rho → Option (D × Rho)}
noncomputable def mEnum (f : Rho → Option (D × Rho)) : Rho → Option (List D × Rho) := mBind f fun d => mLift (match d with
  | .lst xs => some (enumD xs)
  | _ => none)
noncomputable def enumO : D → Option (List D)
  | .lst xs => some (enumD xs)
  | _ => none
theorem ev_enum {ρ : Rho} : mEnum fa ρ = (fa ρ).bind fun p => (enumO p.1).map fun x => (x, p.2) := by
  unfold mEnum
  rw [ev_bind]
  congr 1; funext p
  rw [ev_lift]
  cases p.1 <;> rfl
end
section
variable {X : Cx} {K : PySem.W.Frag} {c : MC} {O O' : List Nat} {t : TE} {fa : Rho → Option (D × Rho)}
noncomputable def sExtT (i : Nat) (fa : Rho → Option (D × Rho)) : Rho → Option Out := fun ρ => if isL ρ i = true then (match fa ρ with
  | some (.tup ys, ρ1) => match ρ1[i]? with
    | some (some (.lst xs)) => if xs.length + ys.length ≤ sizeLine then some (.nx (ρ1.set i (some (.lst (xs ++ ys))))) else none
    | _ => none
  | _ => none) else none
end
section
variable {ρ : Rho} {fa fb : Rho → Option (D × Rho)} {fs : Rho → Option (List D × Rho)}
noncomputable def tupO : D → Option (List D)
  | .tup xs => some xs
  | _ => none
theorem ev_sextT {i : Nat} : sExtT i fa ρ = ((ρ[i]?).join.bind lsO).bind fun _ => (fa ρ).bind fun p => (tupO p.1).bind fun ys => ((p.2[i]?).join.bind lsO).bind fun xs => if xs.length + ys.length ≤ sizeLine then some (.nx (p.2.set i (some (.lst (xs ++ ys))))) else none := by
  refine Eq.trans ?_ (isL_bind _ _)
  unfold sExtT
  congr 1
  cases fa ρ with
  | none => rfl
  | some p =>
    obtain ⟨d, ρ1⟩ := p
    cases d with
    | tup ys =>
      show (match ρ1[i]? with | some (some (.lst xs)) => _ | _ => none) = ((ρ1[i]?).join.bind lsO).bind _
      cases h : ρ1[i]? with
      | none => rfl
      | some o =>
        cases o with
        | none => rfl
        | some d => cases d <;> rfl
    | _ => rfl
noncomputable def repO (xs : List D) : D → Option (List D)
  | .int k => if -(2 ^ 63) ≤ k ∧ k < 2 ^ 63 ∧ xs.length * k.toNat ≤ sizeLine then some (List.replicate k.toNat xs).flatten else none
  | _ => none
theorem ev_rep : mRep fs fb ρ = (fs ρ).bind fun p => (fb p.2).bind fun q => (repO p.1 q.1).map fun x => (x, q.2) := by
  unfold mRep
  rw [ev_bind]
  congr 1; funext p
  rw [ev_bind]
  congr 1; funext q
  rw [ev_lift]
  cases q.1 <;> rfl
noncomputable def dvm : List D → Option D
  | [.int i, .int j] => if 0 < j ∧ j < 1073741824 then some (.tup [.int (i / j), .int (i % j)]) else none
  | _ => none
theorem ev_divmod : mDivmod fs ρ = (fs ρ).bind fun p => (dvm p.1).map fun x => (x, p.2) := by
  unfold mDivmod
  rw [ev_bind]
  congr 1; funext p
  rw [ev_lift]
  rfl
end
end L2
set_option Elab.async false
set_option linter.all false
set_option maxRecDepth 100000
set_option maxHeartbeats 4000000
namespace L2
open PySem PySem.Spec PyProof.Rows
section
variable {prog : Program} {w : World} {A : Around} {E : Value → Shared → Prop} {s : Shared} {a₀ : Array Keyed}
end
section
variable {X : Cx} {K : PySem.W.Frag}
end
section
variable {K : PySem.W.Frag} {O : List Nat} {t tb : TE} {fa fb : Rho → Option (D × Rho)}
noncomputable def dUp : D → Option (List D)
  | .lst ds => match intsD ds with
    | some ns => if ns.Pairwise (· ≤ ·) then some ds else none
    | none => none
  | _ => none
noncomputable def dCnt (x y : D) : Option D := match x, y with
  | .lst ds, .int k => (intsD ds).map fun ns => .int (ns.count k : Nat)
  | _, _ => none
noncomputable def dCntT (x y : D) : Option D := match x, y with
  | .tup ds, .int k => (intsD ds).map fun ns => .int (ns.count k : Nat)
  | _, _ => none
noncomputable def mLend (f : Rho → Option (Bool × Rho)) : Rho → Option (Bool × Rho) := fun ρ => (f ρ).map fun p => (p.1, ρ)
end
end L2
set_option Elab.async false
set_option linter.all false
set_option maxRecDepth 100000
set_option maxHeartbeats 4000000
namespace L2
open PySem PySem.Spec PyProof.Rows
section
variable {X : Cx}
noncomputable def rStrI : List V → Hp → VK → Prop := fun xs H Q => ∃ i : Int, xs = [.int i] ∧ i.natAbs.log2 < 1920 ∧ Q (.str (Str.ofString (toString i))) H
theorem call_strI : CallR X (.type "str") rStrI := by
  intro pins s σ H xs us Q I r h
  obtain ⟨i, rfl, hz, q⟩ := h
  obtain ⟨u, rfl, ru⟩ := vals1 r
  obtain ⟨t, rfl⟩ := ru
  exact PySem.P.str_of_int hz ⟨.str _, H, I.tok _, ⟨_, rfl⟩, q⟩
noncomputable def rIntT : List V → Hp → VK → Prop := fun xs H Q => ∃ (x : Str) (n : Int), xs = [.str x] ∧ intText? x = some n ∧ x.length ≤ 640 ∧ Q (.int n) H
theorem call_intT : CallR X (.type "int") rIntT := by
  intro pins s σ H xs us Q I r h
  obtain ⟨x, n, rfl, hn, hz, q⟩ := h
  obtain ⟨u, rfl, ru⟩ := vals1 r
  obtain ⟨t, rfl⟩ := ru
  exact PySem.W.KIN.call_text hn hz ⟨.int _, H, I.tok _, ⟨_, rfl⟩, q⟩
noncomputable def stripT (x y : Str) : Str := if PySem.stripSame y.cps.contains true true x then x else PySem.stripped y.cps.contains true true x
noncomputable def rStrip : V → List V → Hp → VK → Prop := fun x vs H Q => ∃ a b : Str, x = .str a ∧ vs = [.str b] ∧ (stripT a b).length ≤ sizeLine ∧ Q (.str (stripT a b)) H
theorem mt_strip : MtR X "str.strip" rStrip := by
  intro pins s σ H x vs v us Q I rx rv h
  obtain ⟨a, b, rfl, rfl, hz, q⟩ := h
  obtain ⟨t, rfl⟩ := rx
  obtain ⟨u, rfl, ru⟩ := rv.one
  obtain ⟨t2, rfl⟩ := ru
  refine call_gives F.slot_str_strip (typeIs_str _ _ _) F.entry_str_strip (F.args_str_strip_2 _ _) (gives_str_strip_chars a b t t2) ?_
  unfold stripT at hz q
  split
  · rename_i hc
    rw [if_pos hc] at q
    exact ⟨.str _, H, I, ⟨_, rfl⟩, q⟩
  · rename_i hc
    rw [if_neg hc] at q hz
    exact ⟨hz, .str _, H, I.tok _, ⟨_, rfl⟩, q⟩
noncomputable def rIndex : V → List V → Hp → VK → Prop := fun x vs H Q => ∃ (a b : Str) (i : Nat) (r : List Nat), x = .str a ∧ vs = [.str b] ∧ Builtin.Str.occurrences a b 0 a.length 1 = i :: r ∧ Q (.int i) H
theorem mt_index : MtR X "str.index" rIndex := by
  intro pins s σ H x vs v us Q I rx rv h
  obtain ⟨a, b, i, r, rfl, rfl, ho, q⟩ := h
  obtain ⟨t, rfl⟩ := rx
  obtain ⟨u, rfl, ru⟩ := rv.one
  obtain ⟨t2, rfl⟩ := ru
  exact call_gives F.slot_str_index (typeIs_str _ _ _) F.entry_str_index (F.args_str_index_2 _ _) (gives_str_index a b t t2 i r ho) ⟨.int _, H, I.tok _, ⟨_, rfl⟩, q⟩
noncomputable def Its (x : Str) : It :=
  ⟨fun i _ => ∃ c, x.cps[i]? = some c, fun i H v H' => H' = H ∧ ∃ c, x.cps[i]? = some c ∧ v = .str ⟨#[c]⟩, fun i _ => x.cps.size ≤ i⟩
theorem turn_strA {P : Program} {w : World} {K : PySem.W.Frag} {tg : Expr} (x : Str) (t : Tok) (it : Addr) : Turn P w K tg (Its x) [it] it (fun i h => h.IsStrIter it "str_ascii_iterator" x t i) where
  mem := by simp
  obj := fun i h st b hb => by
    obtain ⟨o, e, c, d⟩ := st
    rw [List.mem_singleton.mp hb]
    exact ⟨o, e, fun v z => by rw [d] at z; cases z⟩
  keep := fun i h h' st k => by
    obtain ⟨o, e, r⟩ := st
    exact ⟨o, k it (by simp) o e, r⟩
  item := by
    intro X hP hw hK hc i pins s σ H E I hf st hg
    subst hP hw hK
    obtain ⟨c, hx⟩ := hg
    obtain ⟨f0, f1, f2, f3, f4, f5⟩ := hf it (by simp)
    refine wpAny_pyNext_ascii_item st hx fun h' st' sb => ?_
    have I1 : Inv X pins σ H { s with heap := h', toks := s.toks + 1 } := I.turned (t' := s.toks + 1) (fun b o hb e => (sb.2 b hb).trans e) f0 f1 f3 f4 f5
    obtain ⟨o, e1, c1, d1⟩ := id st'
    exact ⟨_, rfl, go_of (s := { s with heap := h', toks := s.toks + 1 }) e1 c1 d1 (by decide) ⟨.str ⟨#[c]⟩, H, I1, ⟨_, rfl⟩, ⟨rfl, c, hx, rfl⟩, st', fun b hb => (hf b hb).1⟩⟩
  done := by
    intro X hP hw hK hc i pins s σ H E I hf st hg
    subst hP hw hK
    obtain ⟨f0, f1, f2, f3, f4, f5⟩ := hf it (by simp)
    exact wpAny_pyNext_ascii_end (I.ok.hd hc) st (Array.getElem?_eq_none hg) fun h' eb => ⟨rfl, I.turned (t' := s.toks) (fun b o hb e => eb b o hb e) f0 f1 f3 f4 f5⟩
  self := fun _ _ _ _ _ st h => wpAny_pyIter_striter_ascii st h
theorem turn_strW {P : Program} {w : World} {K : PySem.W.Frag} {tg : Expr} (x : Str) (t : Tok) (it : Addr) : Turn P w K tg (Its x) [it] it (fun i h => h.IsStrIter it "str_iterator" x t i) where
  mem := by simp
  obj := fun i h st b hb => by
    obtain ⟨o, e, c, d⟩ := st
    rw [List.mem_singleton.mp hb]
    exact ⟨o, e, fun v z => by rw [d] at z; cases z⟩
  keep := fun i h h' st k => by
    obtain ⟨o, e, r⟩ := st
    exact ⟨o, k it (by simp) o e, r⟩
  item := by
    intro X hP hw hK hc i pins s σ H E I hf st hg
    subst hP hw hK
    obtain ⟨c, hx⟩ := hg
    obtain ⟨f0, f1, f2, f3, f4, f5⟩ := hf it (by simp)
    refine wpAny_pyNext_wide_item st hx fun h' st' sb => ?_
    have I1 : Inv X pins σ H { s with heap := h', toks := s.toks + 1 } := I.turned (t' := s.toks + 1) (fun b o hb e => (sb.2 b hb).trans e) f0 f1 f3 f4 f5
    obtain ⟨o, e1, c1, d1⟩ := id st'
    exact ⟨_, rfl, go_of (s := { s with heap := h', toks := s.toks + 1 }) e1 c1 d1 (by decide) ⟨.str ⟨#[c]⟩, H, I1, ⟨_, rfl⟩, ⟨rfl, c, hx, rfl⟩, st', fun b hb => (hf b hb).1⟩⟩
  done := by
    intro X hP hw hK hc i pins s σ H E I hf st hg
    subst hP hw hK
    obtain ⟨f0, f1, f2, f3, f4, f5⟩ := hf it (by simp)
    exact wpAny_pyNext_wide_end (I.ok.hd hc) st (Array.getElem?_eq_none hg) fun h' eb => ⟨rfl, I.turned (t' := s.toks) (fun b o hb e => eb b o hb e) f0 f1 f3 f4 f5⟩
  self := fun _ _ _ _ _ st h => wpAny_pyIter_striter_wide st h
noncomputable def iStr (td : TE) : TI := fun σ H R => td σ H fun v H1 => ∃ x, v = .str x ∧ R (Its x) H1
theorem pi_str {tg l : Expr} {td : TE} (hl : PE X l td) : PI X tg l (iStr td) := by
  intro pins s σ H R I h
  refine thn (hl pins s σ H _ I h) fun v s1 ⟨y, H1, I1, rx, x, ex, q⟩ => ?_
  subst ex
  obtain ⟨t, rfl⟩ := rx
  have fp : ∀ b ∈ [s1.heap.objs.size], FpOk X pins H1 b := fun b hb => by
    rw [List.mem_singleton.mp hb]
    exact I1.fpOk (Nat.le_refl _) (I1.hok.fresh (Nat.le_refl _))
  cases ha : x.cps.all (· < 128)
  · exact wpAny_pyIter_wide ha ⟨s1.heap.objs.size, [s1.heap.objs.size], _, _, H1, rfl, I1.kept (t' := s1.toks) fun b o e => Heap.get?_push_of_some _ e, turn_strW x t _, ⟨_, Heap.get?_push_size _ rfl, rfl, rfl⟩, fp, q⟩
  · exact wpAny_pyIter_ascii ha ⟨s1.heap.objs.size, [s1.heap.objs.size], _, _, H1, rfl, I1.kept (t' := s1.toks) fun b o e => Heap.get?_push_of_some _ e, turn_strA x t _, ⟨_, Heap.get?_push_size _ rfl, rfl, rfl⟩, fp, q⟩
end
end L2
set_option Elab.async false
set_option linter.all false
set_option maxRecDepth 100000
set_option maxHeartbeats 4000000
namespace L2
open PySem PySem.Spec PyProof.Rows
section
variable {X : Cx}
noncomputable def rSlS : V → Option Int → Option Int → Hp → VK → Prop := fun x lo hi H Q => ∃ a : Str, x = .str a ∧ a.length ≤ sizeLine ∧ Q (.str (Txt.slice a lo hi)) H
theorem sl_str : SlR X rSlS := by
  intro pins s σ H x v vl vu lo hi sl Q I rx hs pl pu h
  obtain ⟨a, rfl, hz, q⟩ := h
  obtain ⟨t, rfl⟩ := rx
  obtain ⟨o, e, c, d⟩ := hs
  refine ⟨"str", _, F.slot_str_getitem.lookup, typeIs_str _ _ _, ?_⟩
  cases pl with
  | none =>
    cases pu with
    | none => exact wpAny_getItem_str_slice (l := none) (u := none) (st := none) ⟨o, e, c, d⟩ rfl (post_val_or_str ⟨Nat.le_trans (Txt.slice_le a none none) hz, fun t' k => ⟨.str _, H, I.tok k, ⟨_, rfl⟩, q⟩⟩)
    | int j tj => exact wpAny_getItem_str_slice (l := none) (u := some (j, tj)) (st := none) ⟨o, e, c, d⟩ rfl (post_val_or_str ⟨Nat.le_trans (Txt.slice_le a none (some j)) hz, fun t' k => ⟨.str _, H, I.tok k, ⟨_, rfl⟩, q⟩⟩)
  | int i ti =>
    cases pu with
    | none => exact wpAny_getItem_str_slice (l := some (i, ti)) (u := none) (st := none) ⟨o, e, c, d⟩ rfl (post_val_or_str ⟨Nat.le_trans (Txt.slice_le a (some i) none) hz, fun t' k => ⟨.str _, H, I.tok k, ⟨_, rfl⟩, q⟩⟩)
    | int j tj => exact wpAny_getItem_str_slice (l := some (i, ti)) (u := some (j, tj)) (st := none) ⟨o, e, c, d⟩ rfl (post_val_or_str ⟨Nat.le_trans (Txt.slice_le a (some i) (some j)) hz, fun t' k => ⟨.str _, H, I.tok k, ⟨_, rfl⟩, q⟩⟩)
noncomputable def ipS : TIp := fun x y H Q => ∃ a b : Str, x = .str a ∧ y = .str b ∧ a.length + b.length ≤ sizeLine ∧ Q (.str (a ++ b)) H
theorem ip_str : PIp X .Add ipS := by
  intro pins s σ H x y v u Q I r1 r2 h
  obtain ⟨a, b, rfl, rfl, hz, q⟩ := h
  obtain ⟨t, rfl⟩ := r1
  obtain ⟨t', rfl⟩ := r2
  exact PyProof.Rows.iadd_str (fun t' tk => ⟨.str _, H, I.tok tk, ⟨_, rfl⟩, q⟩) hz
end
section
variable {K : PySem.W.Frag} {O : List Nat} {t tb : TE} {fa fb : Rho → Option (D × Rho)}
noncomputable def dStr : D → Option D
  | .int i => if i.natAbs.log2 < 1920 then some (.str (Str.ofString (toString i))) else none
  | _ => none
theorem cs_str : CallS K rStrI dStr := fun H x d u Q r e k => by
  cases r with
  | int i =>
    unfold dStr at e
    dsimp only at e
    split at e
    · rename_i hz
      cases e
      exact ⟨i, rfl, hz, k _ (.str _)⟩
    · cases e
  | _ => cases e
noncomputable def dIntT : D → Option D
  | .str x => if x.length ≤ 640 then (intText? x).map D.int else none
  | _ => none
theorem cs_intT : CallS K rIntT dIntT := fun H x d u Q r e k => by
  cases r with
  | str x =>
    unfold dIntT at e
    dsimp only at e
    split at e
    · rename_i hz
      cases z : intText? x with
      | none => rw [z] at e; cases e
      | some n =>
        rw [z] at e
        cases e
        exact ⟨x, n, rfl, z, hz, k _ (.int _)⟩
    · cases e
  | _ => cases e
noncomputable def dLenS : D → Option D
  | .str x => if x.length ≤ sizeLine then some (.int x.length) else none
  | _ => none
theorem cs_lenS : CallS K (fun xs H Q => ∃ z : Str, xs = [.str z] ∧ z.length ≤ sizeLine ∧ Q (.int z.length) H) dLenS := fun H x d u Q r e k => by
  cases r with
  | str x =>
    unfold dLenS at e
    dsimp only at e
    split at e
    · rename_i hz
      cases e
      exact ⟨x, rfl, hz, k _ (.int _)⟩
    · cases e
  | _ => cases e
noncomputable def SM (r : V → List V → Hp → VK → Prop) (g : Str → Str → Option D) : Prop := ∀ (H : Hp) (a b : Str) (d : D) (Q : VK), g a b = some d → (∀ v, Sc v d → Q v H) → r (.str a) [.str b] H Q
noncomputable def dSM (g : Str → Str → Option D) (x y : D) : Option D := match x, y with
  | .str a, .str b => g a b
  | _, _ => none
theorem me_sm {r : V → List V → Hp → VK → Prop} {g : Str → Str → Option D} (h : SM r g) (ha : ME K O t fa) (hb : ME K O tb fb) : ME K O (tBM K "str" r t (tCons tb tNil)) (mOp2 (dSM g) fa fb) := fun Z σ H R ρ d ρ' Q S e k => by
  obtain ⟨x, ρ1, e1, e⟩ := mBind_some e
  obtain ⟨y, ρ2, e2, e⟩ := mBind_some e
  obtain ⟨e3, rfl⟩ := mLift_some e
  unfold dSM at e3
  split at e3
  · refine ha Z σ H R ρ _ ρ1 _ S e1 fun v H1 R1 S1 st1 r1 => ?_
    cases r1
    refine ⟨rfl, hb Z σ H1 R1 ρ1 _ _ _ S1 e2 fun w H2 R2 S2 st2 r2 => ?_⟩
    cases r2
    exact h H2 _ _ d Q e3 fun v z => k v H2 R2 S2 (st1.trans st2) z.rp
  · cases e3
noncomputable def gStrip (a b : Str) : Option D := if (stripT a b).length ≤ sizeLine then some (.str (stripT a b)) else none
theorem sm_strip : SM rStrip gStrip := fun H a b d Q e k => by
  unfold gStrip at e
  split at e
  · rename_i hz
    cases e
    exact ⟨a, b, rfl, rfl, hz, k _ (.str _)⟩
  · cases e
noncomputable def gIndex (a b : Str) : Option D := match Builtin.Str.occurrences a b 0 a.length 1 with
  | i :: _ => some (.int i)
  | [] => none
theorem sm_index : SM rIndex gIndex := fun H a b d Q e k => by
  unfold gIndex at e
  split at e
  · rename_i i r hz
    cases e
    exact ⟨a, b, i, r, rfl, rfl, hz, k _ (.int _)⟩
  · cases e
noncomputable def dInS (x y : D) : Option D := match x, y with
  | .str i, .str j => some (.bl (!(Builtin.Str.occurrences j i 0 j.length 1).isEmpty))
  | _, _ => none
theorem os_inS : OpS K (fun x y H Q => ∃ i j : Str, x = .str i ∧ y = .str j ∧ Q (.bl (!(Builtin.Str.occurrences j i 0 j.length 1).isEmpty)) H) dInS := fun H v w x y d Q r1 r2 e k => by
  unfold dInS at e
  split at e
  · cases e
    cases r1
    cases r2
    exact ⟨_, _, rfl, rfl, k _ (.bl _)⟩
  · cases e
noncomputable def mSlS (f : Rho → Option (D × Rho)) (fl fh : Rho → Option (Option Int × Rho)) : Rho → Option (D × Rho) := mBind f fun d => mBind fl fun lo => mBind fh fun hi => mLift (match d with
  | .str a => if a.length ≤ sizeLine then some (.str (Txt.slice a lo hi)) else none
  | _ => none)
theorem me_sliceS {tl th : TO} {fl fh : Rho → Option (Option Int × Rho)} (h : ME K O t fa) (hl : MO K O tl fl) (hh : MO K O th fh) : ME K O (tSl rSlS t tl th) (mSlS fa fl fh) := fun Z σ H R ρ d ρ' Q S e k => by
  obtain ⟨x, ρ1, e1, e⟩ := mBind_some e
  obtain ⟨lo, ρ2, e2, e⟩ := mBind_some e
  obtain ⟨hi, ρ3, e3, e⟩ := mBind_some e
  obtain ⟨e4, rfl⟩ := mLift_some e
  refine h Z σ H R ρ x _ _ S e1 fun v H1 R1 S1 st1 r1 => hl Z σ H1 R1 ρ1 lo _ _ S1 e2 fun H2 R2 S2 st2 => hh Z σ H2 R2 ρ2 hi _ _ S2 e3 fun H3 R3 S3 st3 => ?_
  cases r1 with
  | str a =>
    dsimp only at e4
    split at e4
    · rename_i hz
      cases e4
      exact ⟨a, rfl, hz, k _ H3 R3 S3 ((st1.trans st2).trans st3) (.str _)⟩
    · cases e4
  | _ => cases e4
noncomputable def signsD (x : Str) : List D := x.cps.toList.map fun c => .str ⟨#[c]⟩
noncomputable def mSigns (f : Rho → Option (D × Rho)) : Rho → Option (List D × Rho) := mBind f fun d => mLift (match d with
  | .str x => some (signsD x)
  | _ => none)
theorem it_str {R : Hp} (x : Str) : ItOk K (Its x) R (signsD x) := fun H' R' s b i => by
  refine ⟨fun e => ?_, fun d e => ?_⟩
  · show x.cps.size ≤ i
    rw [e]
    simp [signsD]
  · unfold signsD at e
    rw [List.getElem?_map] at e
    cases g : x.cps.toList[i]? with
    | none => rw [g] at e; cases e
    | some c =>
      rw [g] at e
      cases e
      have g' : x.cps[i]? = some c := by simpa using g
      refine ⟨⟨c, g'⟩, fun v H'' y => ?_⟩
      obtain ⟨rfl, c', h1, rfl⟩ := y
      rw [g'] at h1
      cases h1
      exact ⟨R', Ext.refl b, .str _⟩
theorem mi_str (h : ME K O t fa) : MI K O (iStr t) (mSigns fa) := fun Z σ H R ρ ds ρ' Q S e k => by
  obtain ⟨d, ρ1, e1, e⟩ := mBind_some e
  obtain ⟨e2, rfl⟩ := mLift_some e
  refine h Z σ H R ρ d _ _ S e1 fun v H1 R1 S1 st1 r1 => ?_
  cases r1 with
  | str x => cases e2; exact ⟨x, rfl, k _ H1 R1 S1 st1 (it_str x)⟩
  | _ => cases e2
end
section
variable {c : MC} {O O' : List Nat} {te : TE} {fe : Rho → Option (D × Rho)}
noncomputable def sAugS (i : Nat) (fe : Rho → Option (D × Rho)) : Rho → Option Out := fun ρ => match ρ[i]? with
  | some (some (.str x)) => match fe ρ with
    | some (.str y, ρ1) => if x.length + y.length ≤ sizeLine then some (.nx (ρ1.set i (some (.str (x ++ y))))) else none
    | _ => none
  | _ => none
theorem ms_augS {i : Nat} (hi : i ∉ O) (hi' : i ∉ O') (he : ME c.K O te fe) (hs : subO c O O' = true) : MS c O O' (tAug i te ipS) (sAugS i fe) := fun Z E σ H R ρ o hP S e k => by
  unfold sAugS at e
  cases e0 : ρ[i]? with
  | none => rw [e0] at e; cases e
  | some q =>
    rw [e0] at e
    cases q with
    | none => cases e
    | some d =>
      obtain ⟨v, h1, h2⟩ := S.env i d hi e0
      cases h2 with
      | str x =>
        dsimp only at e
        cases e1 : fe ρ with
        | none => rw [e1] at e; cases e
        | some p =>
          obtain ⟨y, ρ1⟩ := p
          rw [e1] at e
          refine ⟨.str x, h1, he Z σ H R ρ y ρ1 _ S e1 fun w H1 R1 S1 st1 r1 => ?_⟩
          cases r1 with
          | str j =>
            dsimp only at e
            split at e
            · rename_i hz
              cases e
              obtain ⟨S2, s2⟩ := S1.sub' hP hs
              exact ⟨x, j, rfl, rfl, hz, k _ H1 _ (S2.set hi' (.str _)) (st1.r.trans s2)⟩
            · cases e
          | _ => cases e
      | _ => cases e
end
end L2
set_option Elab.async false
set_option linter.all false
set_option maxRecDepth 100000
set_option maxHeartbeats 4000000
namespace L2
open PySem PySem.Spec PyProof.Rows
noncomputable def runS1 (fr : Bool) (n N : Nat) (f : Rho → Option Out) (xs ds : List D) : Option (D × List D) := match ds with
  | [] => none
  | d0 :: ds => if ds.length + 2 = n then match f (some d0 :: some (.lst xs) :: (ds.map some ++ List.replicate (N - n) none)) with
    | some (.rt d ρ) => (match (ρ[1]? : Option (Option D)) with
      | some (some (D.lst ys)) => some (d, ys)
      | _ => none)
    | some (.nx ρ) => if fr = true then none else (match (ρ[1]? : Option (Option D)) with
      | some (some (D.lst ys)) => some (.non, ys)
      | _ => none)
    | _ => none
  else none
section
variable {K : PySem.W.Frag} {O : List Nat} {tr : TA} {fs : Rho → Option (List D × Rho)} {E : XK} {n : Nat}
noncomputable def mCallS1 (f : List D → List D → Option (D × List D)) (i : Nat) (f0 : Rho → Option (D × Rho)) (fs : Rho → Option (List D × Rho)) : Rho → Option (D × Rho) := mBind f0 fun d0 => mBind fs fun ds ρ => match ρ[i]? with
  | some (some (.lst xs)) => match f xs (d0 :: ds) with
    | some (d, ys) => some (d, ρ.set i (some (.lst ys)))
    | none => none
  | _ => none
end
section
variable {X : Cx} {K : PySem.W.Frag} {o e : Expr} {es : List Expr} {to : TE} {t : TA} {name : Str} {apos cpos : Pos} {T id : String} {r : V → List V → Hp → VK → Prop}
end
end L2
set_option Elab.async false
set_option linter.all false
set_option maxRecDepth 100000
set_option maxHeartbeats 4000000
namespace L2
open PySem PySem.NumText
theorem digs_ok (m : Nat) : AllDigits ((Nat.toDigits 10 m).map Char.toNat) := fun c hc => by
  obtain ⟨ch, hch, e⟩ := List.mem_map.mp hc
  rw [← e]
  have d := Nat.isDigit_of_mem_toDigits (by decide) (by decide) hch
  unfold Char.isDigit at d
  simp only [Bool.and_eq_true, decide_eq_true_eq] at d
  exact ⟨d.1, d.2⟩
theorem digs_ne (m : Nat) : (Nat.toDigits 10 m).map Char.toNat ≠ [] := fun h => by
  have := W.KIN.val_back m
  rw [h] at this
  have m0 : m = 0 := by simpa [digitsVal] using this.symm
  subst m0
  rw [Nat.toDigits_of_lt_base (by decide)] at h
  cases h
theorem text_nat (m : Nat) : (Str.ofString (toString (m : Int))).cps.toList = (Nat.toDigits 10 m).map Char.toNat := W.KIN.signs_num m
theorem text_neg (m : Nat) : (Str.ofString (toString (-((m + 1 : Nat) : Int)))).cps.toList = 45 :: (Nat.toDigits 10 (m + 1)).map Char.toNat := by
  rw [PyProof.Rows.signs_ofString]
  show (Int.repr (Int.negSucc m)).toList.map Char.toNat = _
  show (("-" ++ Nat.repr (m + 1) : String)).toList.map Char.toNat = _
  rw [String.toList_append, List.map_append, Nat.toList_repr]
  rfl
theorem reads_back (n : Int) (h : (Str.ofString (toString n)).length ≤ 4300) : intText? (Str.ofString (toString n)) = some n := by
  rcases Int.eq_nat_or_neg n with ⟨m, rfl | rfl⟩
  · have e := intText_digits (x := Str.ofString (toString (m : Int))) (by rw [text_nat]; exact digs_ok m) (by rw [text_nat]; exact digs_ne m) h
    rw [e, text_nat, W.KIN.val_back]
  · cases m with
    | zero =>
      have e := intText_digits (x := Str.ofString (toString ((0 : Nat) : Int))) (by rw [text_nat]; exact digs_ok 0) (by rw [text_nat]; exact digs_ne 0) h
      rw [text_nat, W.KIN.val_back] at e
      exact e
    | succ m =>
      have e := intText_neg (text_neg m) (digs_ok (m + 1)) (digs_ne (m + 1)) h
      rw [e, W.KIN.val_back]
theorem str_ext {x y : Str} (h : x.cps.toList = y.cps.toList) : x = y := by
  cases x; cases y
  simp only [Str.mk.injEq]
  exact Array.toList_inj.mp h
theorem cps_append (x y : Str) : (x ++ y).cps.toList = x.cps.toList ++ y.cps.toList := by
  show (x.cps ++ y.cps).toList = _
  rw [Array.toList_append]
theorem txt_join (sep : Str) (ps : List Str) : Txt.join sep ps = Str.join sep ps := StrLaws.glued_eq_join sep ps
end L2
set_option Elab.async false
set_option linter.all false
set_option maxRecDepth 100000
set_option maxHeartbeats 4000000
namespace L2
open PySem PySem.NumText
noncomputable def digs (m : Nat) : List Nat := (Nat.toDigits 10 m).map Char.toNat
noncomputable def tx (n : Int) : Str := Str.ofString (toString n)
theorem digs_len {m k : Nat} (h : m < 10 ^ k) (hk : 0 < k) : (digs m).length ≤ k := by
  unfold digs
  rw [List.length_map]
  exact (Nat.length_toDigits_le_iff (by decide) hk).mpr h
theorem digs_small {m : Nat} (h : m < 10) : digs m = [48 + m] := by
  unfold digs
  rw [Nat.toDigits_of_lt_base h, List.map_cons, List.map_nil, Nat.toNat_digitChar_of_lt_ten h]
theorem digs_big {m : Nat} (h : 10 ≤ m) : digs m = digs (m / 10) ++ [48 + m % 10] := by
  unfold digs
  rw [Nat.toDigits_of_base_le (by decide) h, List.map_append, List.map_cons, List.map_nil, Nat.toNat_digitChar_of_lt_ten (Nat.mod_lt _ (by decide))]
theorem tx_nat (m : Nat) : (tx (m : Int)).cps.toList = digs m := text_nat m
theorem tx_neg {m : Nat} (h : 0 < m) : (tx (-(m : Int))).cps.toList = 45 :: digs m := by
  cases m with
  | zero => cases h
  | succ m => exact text_neg m
theorem tx_cases (n : Int) : (0 ≤ n ∧ (tx n).cps.toList = digs n.natAbs) ∨ (n < 0 ∧ (tx n).cps.toList = 45 :: digs n.natAbs) := by
  rcases Int.eq_nat_or_neg n with ⟨m, rfl | rfl⟩
  · exact .inl ⟨by omega, by rw [tx_nat]; rfl⟩
  · cases m with
    | zero => exact .inl ⟨by decide, tx_nat 0⟩
    | succ m => exact .inr ⟨by omega, by rw [tx_neg (by omega)]; congr 2⟩
theorem len_toList (x : Str) : x.length = x.cps.toList.length := rfl
theorem tx_len {n : Int} {k : Nat} (h : n.natAbs < 10 ^ k) (hk : 0 < k) : (tx n).length ≤ k + 1 := by
  rw [len_toList]
  have := digs_len h hk
  rcases tx_cases n with ⟨_, e⟩ | ⟨_, e⟩ <;> rw [e]
  · omega
  · rw [List.length_cons]; omega
theorem strOk_of {x : Str} (h : ∀ c ∈ x.cps.toList, c < 0x110000) : PyData.strOk x = true := by
  unfold PyData.strOk
  rw [← Array.all_toList]
  exact List.all_eq_true.mpr fun c hc => decide_eq_true (h c hc)
theorem log2_small {m k : Nat} (h : m < 2 ^ k) (hk : 0 < k) : m.log2 < k := by
  by_cases q : m = 0
  · subst q; simpa using hk
  · exact (Nat.log2_lt q).mpr h
theorem dStr_tx {n : Int} (h : n.natAbs < 2 ^ 1920) : dStr (.int n) = some (.str (tx n)) := by
  unfold dStr
  dsimp only
  rw [if_pos (log2_small h (by decide))]
  rfl
theorem dIntT_tx {n : Int} (h : (tx n).length ≤ 640) : dIntT (.str (tx n)) = some (.int n) := by
  unfold dIntT
  dsimp only
  rw [if_pos h]
  have e := reads_back n (Nat.le_trans h (by decide))
  show Option.map D.int (intText? (Str.ofString (toString n))) = _
  rw [e]
  rfl
end L2
set_option Elab.async false
set_option linter.all false
set_option maxRecDepth 100000
set_option maxHeartbeats 4000000
namespace L2
end L2
namespace L2
open PySem
structure SchOk (r : Int) (taps : List Int) (rows : List (List Int)) (e : Str) : Prop where
  r0 : 0 ≤ r
  r4 : r ≤ 4
  t1 : 1 ≤ taps.length
  t4 : taps.length ≤ 4
  tb : ∀ t ∈ taps, 0 ≤ t ∧ t < 2 * 2 ^ r.toNat
  m1 : 1 ≤ rows.length
  m6 : rows.length ≤ 6
  rw : ∀ row ∈ rows, row.length = taps.length ∧ ∀ b ∈ row, b = 0 ∨ b = 1
  en : e = "open" ∨ e = "ended" ∨ e = "ring"
end L2
set_option Elab.async false
set_option linter.all false
set_option maxRecDepth 100000
set_option maxHeartbeats 4000000
namespace L2
open PySem PySem.Spec
theorem str_of {x : Str} {l : List Nat} (h : x.cps.toList = l) : x = ⟨l.toArray⟩ := str_ext (by rw [h])
theorem sl_one {x : Str} {c : Nat} {r : List Nat} (h : x.cps.toList = c :: r) : Txt.slice x none (some 1) = ⟨#[c]⟩ := by
  have e := eq_of_beq (PyProof.Rows.slice_closes_toL (x := x) (j := 1) (by decide) (by rw [len_toList, h, List.length_cons]; omega))
  rw [e, h]
  rfl
theorem sl_rest {x : Str} {c : Nat} {r : List Nat} (h : x.cps.toList = c :: r) : Txt.slice x (some 1) none = ⟨r.toArray⟩ := by
  have e := eq_of_beq (PyProof.Rows.slice_closes_fromL (x := x) (i := 1) (b := x.length) (by decide) (by rw [len_toList, h, List.length_cons]; omega) rfl)
  rw [e, len_toList, h, List.length_cons]
  have : (((r.length + 1 : Nat) : Int) - 1).toNat = r.length := by omega
  rw [this]
  show (⟨(r.take r.length).toArray⟩ : Str) = _
  rw [List.take_length]
noncomputable def dSlS (d : D) (lo hi : Option Int) : Option D := match d with
  | .str a => if a.length ≤ sizeLine then some (.str (Txt.slice a lo hi)) else none
  | _ => none
noncomputable def sgO (d : D) : Option (List D) := match d with
  | .str x => some (signsD x)
  | _ => none
section
variable {fa : Rho → Option (D × Rho)} {fl fh : Rho → Option (Option Int × Rho)} {ρ : Rho}
theorem ev_slS : mSlS fa fl fh ρ = (fa ρ).bind fun p => (fl p.2).bind fun q => (fh q.2).bind fun r => (dSlS p.1 q.1 r.1).map fun x => (x, r.2) := by
  unfold mSlS
  rw [ev_bind]
  congr 1; funext p
  rw [ev_bind]
  congr 1; funext q
  rw [ev_bind]
  congr 1; funext r
  rw [ev_lift]
  rfl
theorem ev_signs : mSigns fa ρ = (fa ρ).bind fun p => (sgO p.1).map fun x => (x, p.2) := by
  unfold mSigns
  rw [ev_bind]
  congr 1; funext p
  rw [ev_lift]
  rfl
end
theorem dSlS_is {x y : Str} {lo hi : Option Int} (h : x.length ≤ sizeLine) (e : Txt.slice x lo hi = y) : dSlS (.str x) lo hi = some (.str y) := by
  unfold dSlS
  dsimp only
  rw [if_pos h, e]
theorem dLenS_is {x : Str} {n : Int} (h : x.length ≤ sizeLine) (e : (x.length : Int) = n) : dLenS (.str x) = some (.int n) := by
  unfold dLenS
  dsimp only
  rw [if_pos h, e]
end L2
set_option Elab.async false
set_option linter.all false
set_option maxRecDepth 100000
set_option maxHeartbeats 4000000
namespace L2
open PySem PySem.Spec
noncomputable def DOk (n : Nat) (d : D) : Prop := ∃ p, d.toP = some p ∧ p.canLay0 = true ∧ p.depth ≤ n
noncomputable def DOks (n : Nat) (ds : List D) : Prop := ∃ ps, D.toPs ds = some ps ∧ PyData.canLayAll0 ps = true ∧ PyData.depthAll ps ≤ n
theorem DOk.int (n : Nat) (i : Int) : DOk n (.int i) := ⟨.int i, by simp only [D.toP], by simp only [PyData.canLay0], by simp only [PyData.depth]; exact Nat.zero_le _⟩
theorem DOk.bl (n : Nat) (i : Bool) : DOk n (.bl i) := ⟨.bool i, by simp only [D.toP], by simp only [PyData.canLay0], by simp only [PyData.depth]; exact Nat.zero_le _⟩
theorem DOk.str (n : Nat) {x : Str} (h : PyData.strOk x = true) : DOk n (.str x) := ⟨.str x, by simp only [D.toP], by simp only [PyData.canLay0]; exact h, by simp only [PyData.depth]; exact Nat.zero_le _⟩
theorem DOks.nil (n : Nat) : DOks n [] := ⟨[], by simp only [D.toPs], by simp only [PyData.canLayAll0], by simp only [PyData.depthAll]; exact Nat.zero_le _⟩
theorem DOks.cons {n : Nat} {d : D} {ds : List D} (h : DOk n d) (r : DOks n ds) : DOks n (d :: ds) := by
  obtain ⟨p, h1, h2, h3⟩ := h
  obtain ⟨ps, g1, g2, g3⟩ := r
  refine ⟨p :: ps, by simp only [D.toPs, h1, g1], by simp only [PyData.canLayAll0, h2, g2]; rfl, ?_⟩
  simp only [PyData.depthAll]
  exact Nat.max_le.mpr ⟨h3, g3⟩
theorem DOks.all {n : Nat} : ∀ {ds : List D}, (∀ d ∈ ds, DOk n d) → DOks n ds
  | [], _ => DOks.nil n
  | d :: ds, h => DOks.cons (h d List.mem_cons_self) (DOks.all fun x hx => h x (List.mem_cons_of_mem _ hx))
theorem DOks.lst {n : Nat} {ds : List D} (h : DOks n ds) : DOk (n + 1) (.lst ds) := by
  obtain ⟨ps, g1, g2, g3⟩ := h
  exact ⟨.list ps, by simp only [D.toP, g1]; rfl, by simp only [PyData.canLay0]; exact g2, by simp only [PyData.depth]; omega⟩
theorem DOks.tup {n : Nat} {ds : List D} (h : DOks n ds) : DOk (n + 1) (.tup ds) := by
  obtain ⟨ps, g1, g2, g3⟩ := h
  exact ⟨.tuple ps, by simp only [D.toP, g1]; rfl, by simp only [PyData.canLay0]; exact g2, by simp only [PyData.depth]; omega⟩
theorem eqD_self {n : Nat} {d : D} (h : DOk n d) (hn : n ≤ 64) : eqD d d = some true := by
  obtain ⟨p, h1, h2, h3⟩ := h
  have hs : SeqAt.shaped p = true := by
    unfold SeqAt.shaped
    rw [h2, decide_eq_true (by omega : p.depth ≤ 64)]
    rfl
  unfold eqD
  rw [h1]
  show (if SeqAt.shaped p = true ∧ SeqAt.shaped p = true then some (PyData.eqv p p) else none) = some true
  rw [if_pos ⟨hs, hs⟩, SeqAt.eqv_refl p h2]
theorem DOk.ints (xs : List Int) : DOk 1 (.lst (xs.map D.int)) := DOks.lst (.all fun d hd => by
  obtain ⟨i, _, rfl⟩ := List.mem_map.mp hd
  exact .int _ i)
theorem DOk.le {n m : Nat} {d : D} (h : DOk n d) (hn : n ≤ m) : DOk m d := by
  obtain ⟨p, h1, h2, h3⟩ := h
  exact ⟨p, h1, h2, by omega⟩
end L2
namespace L2
open PySem PySem.Spec
end L2
set_option Elab.async false
set_option linter.all false
set_option maxRecDepth 100000
set_option maxHeartbeats 4000000
namespace L2
open PySem PySem.Spec PyProof.Rows
section
variable {X : Cx}
noncomputable def rStarts : V → List V → Hp → VK → Prop := fun x vs H Q => ∃ a b : Str, x = .str a ∧ vs = [.str b] ∧ Q (.bl (Txt.startswith a b)) H
theorem mt_startswith : MtR X "str.startswith" rStarts := by
  intro pins s σ H x vs v us Q I rx rv h
  obtain ⟨a, b, rfl, rfl, q⟩ := h
  obtain ⟨t, rfl⟩ := rx
  obtain ⟨u, rfl, ru⟩ := rv.one
  obtain ⟨t2, rfl⟩ := ru
  exact call_gives F.slot_str_startswith (typeIs_str _ _ _) F.entry_str_startswith (F.args_str_startswith_2 _ _) (gives_str_startswith a b t t2) ⟨.bl _, H, I, rfl, q⟩
noncomputable def gStartswith (a b : Str) : Option D := some (.bl (Txt.startswith a b))
theorem sm_startswith : SM rStarts gStartswith := fun H a b d Q e k => by
  cases e
  exact ⟨a, b, rfl, rfl, k _ (.bl _)⟩
end
section
variable {K : PySem.W.Frag} {O : List Nat} {t tb : TE} {fa fb : Rho → Option (D × Rho)}
noncomputable def mIfL (f : Rho → Option (Bool × Rho)) (g h : Rho → Option (List D × Rho)) : Rho → Option (List D × Rho) := mBind f fun b => if b = true then g else h
theorem ev_ifL {ga : Rho → Option (Bool × Rho)} {fa fb : Rho → Option (List D × Rho)} {ρ : Rho} : mIfL ga fa fb ρ = (ga ρ).bind fun p => if p.1 = true then fa p.2 else fb p.2 := by
  unfold mIfL
  rw [ev_bind]
  congr 1; funext p
  split <;> rfl
end
end L2
set_option Elab.async false
set_option linter.all false
set_option maxRecDepth 100000
set_option maxHeartbeats 4000000
namespace L2
open PySem PySem.Spec
theorem sat_one (x : Str) (c i : Nat) : StrLaws.At x ⟨#[c]⟩ x.length i ↔ x.cps.toList[i]? = some c := StrLaws.subAt_one x c i
theorem occ_at {x : Str} {c : Nat} {l r : List Nat} (h : x.cps.toList = l ++ c :: r) (hc : c ∉ l) : ∃ t, Builtin.Str.occurrences x ⟨#[c]⟩ 0 x.length 1 = l.length :: t := by
  rcases StrLaws.occ_head x ⟨#[c]⟩ 1 (by decide) with ⟨_, hn⟩ | ⟨i, t, e, ha, hk⟩
  · exact absurd ((sat_one x c l.length).mpr (by rw [h]; simp)) (hn _)
  · have hi := (sat_one x c i).mp ha
    rw [h] at hi
    have q : i = l.length := by
      rcases Nat.lt_trichotomy i l.length with q | q | q
      · rw [List.getElem?_append_left q] at hi
        exact absurd (List.mem_of_getElem? hi) hc
      · exact q
      · exact absurd ((sat_one x c l.length).mpr (by rw [h]; simp)) (hk _ q)
    subst q
    exact ⟨t, e⟩
theorem starts_one (x : Str) (c : Nat) : gStartswith x ⟨#[c]⟩ = some (.bl (decide (x.cps.toList[0]? = some c))) := by
  unfold gStartswith
  congr 2
  rw [Bool.eq_iff_iff, decide_eq_true_eq, ← StrLaws.subAt_one x c 0]
  show (decide (0 + (⟨#[c]⟩ : Str).length ≤ x.length) && Builtin.Str.subAt x ⟨#[c]⟩ 0) = true ↔ _
  rw [Bool.and_eq_true, decide_eq_true_eq]
theorem in_one (x : Str) (c : Nat) : dInS (.str ⟨#[c]⟩) (.str x) = some (.bl (decide (c ∈ x.cps.toList))) := by
  show some (D.bl _) = _
  rw [StrLaws.found_one]
end L2
set_option Elab.async false
set_option linter.all false
set_option maxRecDepth 100000
set_option maxHeartbeats 4000000
namespace L2
open PySem PySem.Spec PyProof.Rows
section
variable {X : Cx}
end
section
variable {K : PySem.W.Frag} {O : List Nat} {t tb : TE} {fa fb : Rho → Option (D × Rho)}
end
end L2
set_option Elab.async false
set_option linter.all false
set_option maxRecDepth 100000
set_option maxHeartbeats 4000000
namespace L2
open PySem PySem.Spec PyProof.Rows
section
variable {X : Cx} {pins : List (Addr × Obj)} {σ : St} {CX : CXT} {k : Nat} {f : Addr} {fd : FuncData} {ps : List Str} {sp : Sp} {dvs : List V} {ds : List Value} {E : XK} {x : Str} {p pos : Pos} {e : Expr} {es : List Expr} {t : TA} {i : Nat}
noncomputable def tCallV (i : Nat) (f : Addr) (sp : Sp) (dvs : List V) (E : XK) (t : TA) : TE := fun σ H Q => σ[i]? = some (some (.ref f)) ∧ tCall sp dvs E t σ H Q
theorem at_callV (F : FnOk X.prog X.w X.K X.mg X.base CX k f fd ps sp) (hr : Room k X.A) (hv : PE X (.Name x p) (tVar i)) (hk : PySem.W.keepIn X.K (.ref f) = true) (hb : Binds X.K fd ps ds) (hd : Vals dvs ds) (hx : PassesAt CX X pins σ E)
    (ha : PA X (e :: es) t) (he : starEach (e :: es) X.env = (false, eval e X.env) :: starEach es X.env := by rfl) (hpl : (backTo pos (starEach es X.env)).any (·.1) = false := by rfl) :
    PEat X pins σ (.Call (.Name x p) (e :: es) [] pos) (tCallV i f sp dvs E t) := by
  intro s H Q I hq
  obtain ⟨hi, h⟩ := hq
  refine wpAny_Call_Name_kw (thn (hv pins s σ H (fun v H' => v = .ref f ∧ H' = H) I ⟨.ref f, hi, rfl, rfl⟩) fun u s1 ⟨v, H0, I0, r1, e1, e2⟩ => ?_)
  subst e1 e2
  cases r1
  refine PySem.W.callWith_K (h₀ := X.base) I0.ok.mod.kin hk (thn (ha pos pins s1 σ _ _ I0 h) fun us s2 ⟨vs, H1, I1, r, q⟩ => ⟨I1.kIn, ?_⟩) he hpl
  have r2 : Vals (vs ++ dvs) (us ++ ds) := r.append hd
  have hl : (us ++ ds).length = ps.length := by rw [← r2.length]; exact F.len _ _ _ _ q
  refine wpAny_call (codeAny_mono (F.run X.A X.stack s2 H1 ⟨us, []⟩ (us ++ ds) (vs ++ dvs) Q E hr I1.env0 (hb s2 us I1.kIn hl) r2 q) fun r s' hq => ?_)
  cases r with
  | error e => exact hx H1 s2 e s' I1 hq
  | ok fl =>
    cases fl with
    | ret u => exact I1.after hq
    | next => exact False.elim hq
    | brk => exact False.elim hq
    | cont => exact False.elim hq
theorem PEat.or {e : Expr} {t u : TE} (h : PEat X pins σ e t) (k : PEat X pins σ e u) : PEat X pins σ e fun σ H Q => t σ H Q ∨ u σ H Q := fun s H Q I q => by
  rcases q with q | q
  · exact h s H Q I q
  · exact k s H Q I q
end
section
variable {K : PySem.W.Frag} {O : List Nat} {tr : TA} {fs : Rho → Option (List D × Rho)} {E : XK} {n : Nat}
theorem me_fn {x : Str} {l : Addr} (h : PySem.W.nsIn K mainGlobals x = some (some (.ref l))) : ME K O (tC (.ref l)) (mRet (.fn x)) := fun Z σ H R ρ d ρ' Q S e k => by
  cases e
  exact k _ H R S (Stp.refl _ _ _ _) (.fn h)
noncomputable def fnAt (i : Nat) (nm : Str) (ρ : Rho) : Bool := match ρ[i]? with
  | some (some (.fn x)) => x == nm
  | _ => false
theorem fnAt_is {Z : Anc} {σ : St} {H R : Hp} {ρ : Rho} {i : Nat} {nm : Str} {l : Addr} (hn : PySem.W.nsIn K mainGlobals nm = some (some (.ref l))) (hi : i ∉ O) (S : StR K Z O σ H R ρ) (h : fnAt i nm ρ = true) : σ[i]? = some (some (.ref l)) := by
  unfold fnAt at h
  split at h
  · rename_i x e
    have ex : x = nm := eq_of_beq h
    subst ex
    obtain ⟨v, h1, h2⟩ := S.env i _ hi e
    cases h2 with
    | fn h3 =>
      rw [hn] at h3
      cases h3
      exact h1
  · cases h
noncomputable def mCallV (i : Nat) (nm : Str) (f : List D → Option D) (fs : Rho → Option (List D × Rho)) : Rho → Option (D × Rho) := fun ρ => if fnAt i nm ρ = true then mCall f fs ρ else none
noncomputable def xCallV (i : Nat) (nm : Str) (fx : List D → Option Str) (fs : Rho → Option (List D × Rho)) : Xr := fun ρ => if fnAt i nm ρ = true then xCall fx fs xNo ρ else none
theorem me_callV {i : Nat} {nm : Str} {l : Addr} {f : List D → Option D} {fx : List D → Option Str} (hn : PySem.W.nsIn K mainGlobals nm = some (some (.ref l))) (hi : i ∉ O) (hf : runsN n f) (h : MA K O tr fs) : ME K O (tCallV i l (spPX K false n f fx) [] E tr) (mCallV i nm f fs) := fun Z σ H R ρ d ρ' Q S e k => by
  unfold mCallV at e
  split at e
  · rename_i hc
    exact ⟨fnAt_is hn hi S hc, me_callX hf h Z σ H R ρ d ρ' Q S e k⟩
  · cases e
theorem mx_callV {i : Nat} {nm : Str} {l : Addr} {f : List D → Option D} {fx : List D → Option Str} (hn : PySem.W.nsIn K mainGlobals nm = some (some (.ref l))) (hi : i ∉ O) (hf : runsX n fx) (h : MA K O tr fs) : MX K O (tCallV i l (spPX K false n f fx) [] E tr) E (xCallV i nm fx fs) := fun Z σ H R ρ C ρ' Q S e k => by
  unfold xCallV at e
  split at e
  · rename_i hc
    exact ⟨fnAt_is hn hi S hc, mx_call hf h max_no Z σ H R ρ C ρ' Q S e k⟩
  · cases e
noncomputable def mOr2 (f g : Rho → Option (D × Rho)) : Rho → Option (D × Rho) := fun ρ => match f ρ with
  | some r => some r
  | none => g ρ
theorem me_or2 {t1 t2 : TE} {fa fb : Rho → Option (D × Rho)} (h1 : ME K O t1 fa) (h2 : ME K O t2 fb) : ME K O (fun σ H Q => t1 σ H Q ∨ t2 σ H Q) (mOr2 fa fb) := fun Z σ H R ρ d ρ' Q S e k => by
  unfold mOr2 at e
  cases e1 : fa ρ with
  | some q =>
    rw [e1] at e
    cases e
    exact .inl (h1 Z σ H R ρ d ρ' Q S e1 k)
  | none =>
    rw [e1] at e
    exact .inr (h2 Z σ H R ρ d ρ' Q S e k)
noncomputable def xOr2 (f g : Xr) : Xr := fun ρ => match f ρ with
  | some r => some r
  | none => g ρ
theorem mx_or2 {t1 t2 : TE} {xa xb : Xr} (h1 : MX K O t1 E xa) (h2 : MX K O t2 E xb) : MX K O (fun σ H Q => t1 σ H Q ∨ t2 σ H Q) E (xOr2 xa xb) := fun Z σ H R ρ C ρ' Q S e k => by
  unfold xOr2 at e
  cases e1 : xa ρ with
  | some q =>
    rw [e1] at e
    cases e
    exact .inl (h1 Z σ H R ρ C ρ' Q S e1 k)
  | none =>
    rw [e1] at e
    exact .inr (h2 Z σ H R ρ C ρ' Q S e k)
end
end L2
set_option Elab.async false
set_option linter.all false
set_option maxRecDepth 100000
set_option maxHeartbeats 4000000
namespace L2
open PySem PySem.Spec PyProof.Rows
noncomputable def sk (x : Str) : String := if x.cps.all (· < 128) = true then "str_ascii_iterator" else "str_iterator"
noncomputable def strObj (x : Str) (t : Tok) : Obj := { cls := .type (sk x), data := .fields #[.str x t, .int 0 0] }
theorem strAt {h h' : Heap} {i : Addr} {ty : String} {x : Str} {t : Tok} {k : Nat} (q : h.IsStrIter i ty x t k) (e : ∀ o, h.get? i = some o → h'.get? i = some o) : h'.IsStrIter i ty x t k := by
  obtain ⟨o, z, r⟩ := q
  exact ⟨o, e o z, r⟩
theorem strOb {h : Heap} {i : Addr} {ty : String} {x : Str} {t : Tok} {k : Nat} (q : h.IsStrIter i ty x t k) : ∃ o, h.get? i = some o ∧ ∀ v, o.data ≠ .cell v := by
  obtain ⟨o, z, _, d⟩ := q
  exact ⟨o, z, fun v e => by rw [d] at e; cases e⟩
theorem strMk {h : Heap} {i : Addr} {x : Str} {t : Tok} (q : h.get? i = some (strObj x t)) : h.IsStrIter i (sk x) x t 0 := ⟨_, q, rfl, rfl⟩
section
variable {prog : Program} {w : World} {A : Around} {E : Value → Shared → Prop} {s : Shared}
theorem pyIter_str {x : Str} {t : Tok} {Q : Value → Shared → Prop} (h : Q (.ref s.heap.objs.size) { s with heap := s.heap.push (strObj x t) }) : wpAny (model prog w) A (pyIter (.str x t)) Q E s := by
  unfold strObj sk at h
  cases ha : x.cps.all (· < 128) with
  | false => rw [ha] at h; exact wpAny_pyIter_wide ha h
  | true => rw [ha] at h; exact wpAny_pyIter_ascii ha h
theorem nextOf_str {it : Addr} {x : Str} {t : Tok} {i c : Nat} {Q : Value → Shared → Prop} (hit : s.heap.IsStrIter it (sk x) x t i) (hx : x.cps[i]? = some c)
    (hQ : ∀ h', h'.IsStrIter it (sk x) x t (i + 1) → Heap.SameBut it s.heap h' → Q (.str ⟨#[c]⟩ s.toks) { s with heap := h', toks := s.toks + 1 }) : wpAny (model prog w) A (Builtin.SmallTypes.nextOf (.ref it)) Q E s := by
  unfold sk at hit hQ
  cases ha : x.cps.all (· < 128) with
  | false => rw [ha] at hit hQ; exact wpAny_nextOf_wide_item hit hx hQ
  | true => rw [ha] at hit hQ; exact wpAny_nextOf_ascii_item hit hx hQ
theorem nextOf_str_end {it : Addr} {x : Str} {t : Tok} {i : Nat} {Q : Value → Shared → Prop} (hh : A.handled = none) (hit : s.heap.IsStrIter it (sk x) x t i) (hx : x.cps[i]? = none)
    (hE : ∀ h' e, Heap.ExtBut it s.heap h' → (∃ o, h'.get? e = some o ∧ o.cls = .type "StopIteration") → E (.ref e) { s with heap := h' }) : wpAny (model prog w) A (Builtin.SmallTypes.nextOf (.ref it)) Q E s := by
  unfold sk at hit
  cases ha : x.cps.all (· < 128) with
  | false => rw [ha] at hit; exact wpAny_nextOf_wide_end hh hit hx hE
  | true => rw [ha] at hit; exact wpAny_nextOf_ascii_end hh hit hx hE
theorem zips_item {z TI TO i1 i2 l1 : Addr} {b1 : Bool} {x2 : Str} {t2 : Tok} {c2 : Nat} {k1 k2 : Nat} {xs : Array Value} {x a b : Value} {Q : Option Value → Shared → Prop} (D : ZipApart z TI TO i1 i2 l1 l1)
    (hz : IsZip s.heap z TI TO .none) (hTI : IsPair s.heap TI (.ref i1) (.ref i2)) (hTO : IsPair s.heap TO a b) (h1 : iterIs b1 s.heap i1 l1 k1) (h2 : s.heap.IsStrIter i2 (sk x2) x2 t2 k2) (q1 : seqIs b1 s.heap l1 xs) (hx : xs[k1]? = some x) (hy : x2.cps[k2]? = some c2)
    (hQ : ∀ h', IsZip h' z TI TO (rawInt s.heap.objs.size) → IsPair h' TO x (.str ⟨#[c2]⟩ s.toks) → iterIs b1 h' i1 l1 (k1 + 1) → h'.IsStrIter i2 (sk x2) x2 t2 (k2 + 1) → IsPair h' s.heap.objs.size x (.str ⟨#[c2]⟩ s.toks) →
      (∀ c o, c ≠ z → c ≠ TO → c ≠ i1 → c ≠ i2 → s.heap.get? c = some o → h'.get? c = some o) → Q (some (.ref s.heap.objs.size)) { s with heap := h', toks := s.toks + 1 }) : wpAny (model prog w) A (pyNext (.ref z)) Q E s := by
  have ty : s.TypeIs (.ref z) "zip" := ⟨_, hz, rfl⟩
  unfold pyNext
  refine wpAny_bind (wpAny_attempt (wpAny_callSpecial?_slot (name := Str.ofString "__next__") ty F.slot_zip_next (wpAny_call_entry F.slot_zip_next ty F.entry_zip_next ?_ (F.args_zip_next_1 _))))
  show wpAny _ _ (field (.ref z) 2 >>= _) _ _ _
  refine wpAny_bind (wpAny_field hz rfl (x := .bool false) rfl ?_)
  show wpAny _ _ (field (.ref z) 3 >>= _) _ _ _
  refine wpAny_bind (wpAny_field hz rfl (x := .ref TI) rfl (wpAny_bind (wpAny_seqItems hTI rfl ?_)))
  show wpAny _ _ (Builtin.SmallTypes.ownedTupleIsFree (.ref z) >>= _) _ _ _
  refine wpAny_bind ?_
  unfold Builtin.SmallTypes.ownedTupleIsFree
  refine wpAny_bind (wpAny_field hz rfl (x := .none) rfl (wpAny_pure ?_))
  simp only [if_true]
  refine wpAny_bind (wpAny_rule (wpAny_bind (wpAny_field hz rfl (x := .ref TO) rfl (wpAny_bind (wpAny_setField_rec hz (by simp) fun g1 z1 s1 => ?_)))))
  have Z1 : IsZip g1 z TI TO .ellipsis := z1
  refine wpAny_bind ?_
  simp only [List.zipIdx_cons, List.zipIdx_nil, List.forIn_cons, List.forIn_nil]
  refine wpAny_bind (wpAny_bind (wpAny_onRaise ?_))
  show wpAny _ _ (Builtin.SmallTypes.nextOf (.ref i1) >>= _) _ _ _
  refine wpAny_bind (nextOf_seq (h1.at_ fun o e => s1.extBut _ o D.i1z e) (q1.at_ fun o e => s1.extBut _ o D.l1z e) hx fun g2 n2 s2 => wpAny_pure ?_)
  have P2 : IsPair g2 TO a b := s2.extBut _ _ D.TOi1 (s1.extBut _ _ D.TOz hTO)
  refine wpAny_bind (wpAny_seqItems P2 rfl (wpAny_bind (wpAny_updateSeq_pair P2 fun g3 p3 s3 => wpAny_bind (wpAny_letGo (wpAny_pure ?_)))))
  have P3 : IsPair g3 TO x b := p3
  refine wpAny_bind (wpAny_bind (wpAny_onRaise ?_))
  show wpAny _ _ (Builtin.SmallTypes.nextOf (.ref i2) >>= _) _ _ _
  refine wpAny_bind (nextOf_str (strAt h2 fun o e => s3.extBut _ o D.TOi2.symm (s2.extBut _ o D.i12.symm (s1.extBut _ o D.i2z e))) hy fun g4 n4 s4 => wpAny_pure ?_)
  have P4 : IsPair g4 TO x b := s4.extBut _ _ D.TOi2 P3
  refine wpAny_bind (wpAny_seqItems P4 rfl (wpAny_bind (wpAny_updateSeq_pair P4 fun g5 p5 s5 => wpAny_bind (wpAny_letGo (wpAny_pure (wpAny_pure ?_))))))
  have P5 : IsPair g5 TO x (.str ⟨#[c2]⟩ s.toks) := p5
  refine wpAny_bind (wpAny_seqItems P5 rfl (wpAny_bind (wpAny_newTuple ?_)))
  have sz : g5.objs.size = s.heap.objs.size := by rw [s5.1, s4.1, s3.1, s2.1, s1.1]
  have Z5 : IsZip g5 z TI TO .ellipsis := s5.extBut _ _ D.TOz.symm (s4.extBut _ _ D.i2z.symm (s3.extBut _ _ D.TOz.symm (s2.extBut _ _ D.i1z.symm Z1)))
  have K5 : ∀ c o, c ≠ z → c ≠ TO → c ≠ i1 → c ≠ i2 → s.heap.get? c = some o → g5.get? c = some o := fun c o c1 c2 c3 c4 e => s5.extBut _ _ c2 (s4.extBut _ _ c4 (s3.extBut _ _ c2 (s2.extBut _ _ c3 (s1.extBut _ _ c1 e))))
  have N1 : iterIs b1 g5 i1 l1 (k1 + 1) := n2.at_ fun o e => s5.extBut _ o D.TOi1.symm (s4.extBut _ o D.i12 (s3.extBut _ o D.TOi1.symm e))
  have N2 : g5.IsStrIter i2 (sk x2) x2 t2 (k2 + 1) := strAt n4 fun o e => s5.extBut _ o D.TOi2.symm e
  have zlt : z < g5.objs.size := Heap.lt_size Z5
  show wpAny _ _ (Builtin.SmallTypes.ownedTupleHandOut (.ref z) (.ref g5.objs.size) >>= _) _ _ _
  refine wpAny_bind ?_
  unfold Builtin.SmallTypes.ownedTupleHandOut
  have Z6 : IsZip (g5.push { cls := .type "tuple", data := .seq #[x, .str ⟨#[c2]⟩ s.toks] }) z TI TO .ellipsis := Heap.get?_push_of_some _ Z5
  refine wpAny_bind (wpAny_setField_rec Z6 (by simp) fun g7 z7 s7 => ?_)
  have Z7 : IsZip g7 z TI TO (rawInt g5.objs.size) := z7
  refine wpAny_setField_rec Z7 (by simp) fun g8 z8 s8 => ?_
  have Z8 : IsZip g8 z TI TO (rawInt g5.objs.size) := z8
  have up : ∀ c o, c ≠ z → g5.get? c = some o → g8.get? c = some o := fun c o c1 e => s8.extBut _ _ c1 (s7.extBut _ _ c1 (Heap.get?_push_of_some _ e))
  have T8 : IsPair g8 g5.objs.size x (.str ⟨#[c2]⟩ s.toks) := s8.extBut _ _ (Nat.ne_of_gt zlt) (s7.extBut _ _ (Nat.ne_of_gt zlt) (Heap.get?_push_size _ rfl))
  rw [sz] at Z8 T8
  refine wpAny_pure ⟨_, rfl, wpAny_pure ?_⟩
  show Q (some (.ref g5.objs.size)) _
  rw [sz]
  exact hQ g8 Z8 (up _ _ D.TOz P5) (N1.at_ fun o e => up _ o D.i1z e) (strAt N2 fun o e => up _ o D.i2z e) T8 fun c o c1 c2 c3 c4 e => up c o c1 (K5 c o c1 c2 c3 c4 e)
theorem zips_end {z TI TO i1 i2 l1 : Addr} {b1 : Bool} {x2 : Str} {t2 : Tok} {k1 k2 : Nat} {xs : Array Value} {a b : Value} {Q : Option Value → Shared → Prop} (hh : A.handled = none) (D : ZipApart z TI TO i1 i2 l1 l1)
    (hz : IsZip s.heap z TI TO .none) (hTI : IsPair s.heap TI (.ref i1) (.ref i2)) (hTO : IsPair s.heap TO a b) (h1 : iterIs b1 s.heap i1 l1 k1) (h2 : s.heap.IsStrIter i2 (sk x2) x2 t2 k2) (q1 : seqIs b1 s.heap l1 xs) (hend : xs[k1]? = none ∨ x2.cps[k2]? = none)
    (hQ : ∀ h', (∀ c o, c ≠ z → c ≠ TO → c ≠ i1 → c ≠ i2 → s.heap.get? c = some o → h'.get? c = some o) → Q none { s with heap := h' }) : wpAny (model prog w) A (pyNext (.ref z)) Q E s := by
  have ty : s.TypeIs (.ref z) "zip" := ⟨_, hz, rfl⟩
  have fin : ∀ (h' : Heap) (e : Addr), (∀ c o, c ≠ z → c ≠ TO → c ≠ i1 → c ≠ i2 → s.heap.get? c = some o → h'.get? c = some o) → (∃ o, h'.get? e = some o ∧ o.cls = .type "StopIteration") →
      wpAny (model prog w) A (isInstance (.ref e) (.type "StopIteration") >>= fun r => if r = true then pure none else throw (.ref e)) Q E { s with heap := h' } := fun h' e hk ⟨o, ho, hc⟩ =>
    wpAny_bind (wpAny_isInstance (T := "StopIteration") (b := true) ⟨o, ho, hc⟩ isSubtype_stop (wpAny_pure (hQ _ hk)))
  unfold pyNext
  refine wpAny_bind (wpAny_attempt (wpAny_callSpecial?_slot (name := Str.ofString "__next__") ty F.slot_zip_next (wpAny_call_entry F.slot_zip_next ty F.entry_zip_next ?_ (F.args_zip_next_1 _))))
  show wpAny _ _ (field (.ref z) 2 >>= _) _ _ _
  refine wpAny_bind (wpAny_field hz rfl (x := .bool false) rfl ?_)
  show wpAny _ _ (field (.ref z) 3 >>= _) _ _ _
  refine wpAny_bind (wpAny_field hz rfl (x := .ref TI) rfl (wpAny_bind (wpAny_seqItems hTI rfl ?_)))
  show wpAny _ _ (Builtin.SmallTypes.ownedTupleIsFree (.ref z) >>= _) _ _ _
  refine wpAny_bind ?_
  unfold Builtin.SmallTypes.ownedTupleIsFree
  refine wpAny_bind (wpAny_field hz rfl (x := .none) rfl (wpAny_pure ?_))
  simp only [if_true]
  refine wpAny_bind (wpAny_rule (wpAny_bind (wpAny_field hz rfl (x := .ref TO) rfl (wpAny_bind (wpAny_setField_rec hz (by simp) fun g1 z1 s1 => ?_)))))
  have Z1 : IsZip g1 z TI TO .ellipsis := z1
  refine wpAny_bind ?_
  simp only [List.zipIdx_cons, List.zipIdx_nil, List.forIn_cons, List.forIn_nil]
  refine wpAny_bind (wpAny_bind (wpAny_onRaise ?_))
  show wpAny _ _ (Builtin.SmallTypes.nextOf (.ref i1) >>= _) _ _ _
  have I1 : iterIs b1 g1 i1 l1 k1 := h1.at_ fun o e => s1.extBut _ o D.i1z e
  have L1 : seqIs b1 g1 l1 xs := q1.at_ fun o e => s1.extBut _ o D.l1z e
  cases ex : xs[k1]? with
  | none =>
    refine wpAny_bind (nextOf_seq_end hh I1 L1 ex fun g2 e s2 he => ?_)
    obtain ⟨oe, he, ce⟩ := he
    have Z2 : IsZip g2 z TI TO .ellipsis := s2 _ _ D.i1z.symm Z1
    have nez : e ≠ z := fun q => by subst q; rw [Z2] at he; cases he; simp at ce
    exact wpAny_setField_rec Z2 (by simp) fun g3 _ s3 => fin g3 e (fun c o c1 _ c3 _ q => s3.extBut _ _ c1 (s2 _ _ c3 (s1.extBut _ _ c1 q))) ⟨oe, s3.extBut _ _ nez he, ce⟩
  | some x =>
    have ey : x2.cps[k2]? = none := by
      rcases hend with q | q
      · rw [ex] at q; cases q
      · exact q
    refine wpAny_bind (nextOf_seq I1 L1 ex fun g2 n2 s2 => wpAny_pure ?_)
    have P2 : IsPair g2 TO a b := s2.extBut _ _ D.TOi1 (s1.extBut _ _ D.TOz hTO)
    refine wpAny_bind (wpAny_seqItems P2 rfl (wpAny_bind (wpAny_updateSeq_pair P2 fun g3 p3 s3 => wpAny_bind (wpAny_letGo (wpAny_pure ?_)))))
    refine wpAny_bind (wpAny_bind (wpAny_onRaise ?_))
    show wpAny _ _ (Builtin.SmallTypes.nextOf (.ref i2) >>= _) _ _ _
    refine wpAny_bind (nextOf_str_end hh (strAt h2 fun o e => s3.extBut _ o D.TOi2.symm (s2.extBut _ o D.i12.symm (s1.extBut _ o D.i2z e))) ey fun g4 e s4 he => ?_)
    obtain ⟨oe, he, ce⟩ := he
    have Z4 : IsZip g4 z TI TO .ellipsis := s4 _ _ D.i2z.symm (s3.extBut _ _ D.TOz.symm (s2.extBut _ _ D.i1z.symm Z1))
    have nez : e ≠ z := fun q => by subst q; rw [Z4] at he; cases he; simp at ce
    exact wpAny_setField_rec Z4 (by simp) fun g5 _ s5 => fin g5 e (fun c o c1 c2 c3 c4 q => s5.extBut _ _ c1 (s4 _ _ c4 (s3.extBut _ _ c2 (s2.extBut _ _ c3 (s1.extBut _ _ c1 q))))) ⟨oe, s5.extBut _ _ nez he, ce⟩
noncomputable abbrev zs1 (b1 : Bool) (h : Heap) (l1 : Addr) : Heap := h.push (iterObj b1 l1)
noncomputable abbrev zs2 (b1 : Bool) (h : Heap) (l1 : Addr) (x2 : Str) (t2 : Tok) : Heap := (zs1 b1 h l1).push (strObj x2 t2)
noncomputable abbrev zs3 (b1 : Bool) (h : Heap) (l1 : Addr) (x2 : Str) (t2 : Tok) : Heap := (zs2 b1 h l1 x2 t2).push { cls := .type "tuple", data := .seq #[.ref h.objs.size, .ref (zs1 b1 h l1).objs.size] }
noncomputable abbrev zs4 (b1 : Bool) (h : Heap) (l1 : Addr) (x2 : Str) (t2 : Tok) : Heap := (zs3 b1 h l1 x2 t2).push { cls := .type "tuple", data := .seq #[.none, .none] }
noncomputable abbrev zs5 (b1 : Bool) (h : Heap) (l1 : Addr) (x2 : Str) (t2 : Tok) : Heap := (zs4 b1 h l1 x2 t2).push { cls := .type "zip", data := .fields #[.none, .bool false, .bool false, .ref (zs2 b1 h l1 x2 t2).objs.size, .ref (zs3 b1 h l1 x2 t2).objs.size] }
theorem zips_new (b1 : Bool) (l1 : Addr) (xs : Array Value) (x2 : Str) (t2 : Tok) : Meets (Builtin.«zip.__new__» ⟨[.type "zip", .ref l1, .str x2 t2], []⟩) (fun _ R s => seqIs b1 s.heap l1 xs ∧
      R (.ok (.ret (.ref (zs4 b1 s.heap l1 x2 t2).objs.size))) { s with heap := zs5 b1 s.heap l1 x2 t2 }) := by
  refine .of_wp fun prog w A R s q => ?_
  obtain ⟨hp, g, d, tk, os⟩ := s
  obtain ⟨q1, q⟩ := q
  have sub := sub_zip
  have L1 : seqIs b1 (Shared.heap ⟨hp, g, d, tk, os⟩) l1 xs := q1
  wp_walk using pyIter_seq L1, pyIter_str
  exact ⟨_, rfl, q⟩
theorem call_zips {b1 : Bool} {l1 : Addr} {xs : Array Value} {x2 : Str} {t2 : Tok} {Q : Value → Shared → Prop} (q1 : seqIs b1 s.heap l1 xs)
    (h : ∀ h', IsZip h' (s.heap.objs.size + 4) (s.heap.objs.size + 2) (s.heap.objs.size + 3) .none → IsPair h' (s.heap.objs.size + 2) (.ref s.heap.objs.size) (.ref (s.heap.objs.size + 1)) → IsPair h' (s.heap.objs.size + 3) .none .none →
      iterIs b1 h' s.heap.objs.size l1 0 → h'.IsStrIter (s.heap.objs.size + 1) (sk x2) x2 t2 0 → (∀ c o, s.heap.get? c = some o → h'.get? c = some o) → Q (.ref (s.heap.objs.size + 4)) { s with heap := h' }) :
    wpAny (model prog w) A (call (.type "zip") [.ref l1, .str x2 t2]) Q E s := by
  refine callType_new F.called_zip (by decide) (F.typeCall_zip_2 _ _) (F.newCall_zip_2 _ _) (fun obj => F.args_object_init_3 obj _ _) F.entry_zip_new (zips_new b1 l1 xs x2 t2) ⟨q1, ?_⟩
  have y1 : (zs1 b1 s.heap l1).objs.size = s.heap.objs.size + 1 := Heap.size_push ..
  have y2 : (zs2 b1 s.heap l1 x2 t2).objs.size = s.heap.objs.size + 2 := by rw [Heap.size_push, y1]
  have y3 : (zs3 b1 s.heap l1 x2 t2).objs.size = s.heap.objs.size + 3 := by rw [Heap.size_push, y2]
  have y4 : (zs4 b1 s.heap l1 x2 t2).objs.size = s.heap.objs.size + 4 := by rw [Heap.size_push, y3]
  have k5 : (zs5 b1 s.heap l1 x2 t2).get? (zs4 b1 s.heap l1 x2 t2).objs.size = some _ := Heap.get?_push_size _ rfl
  have k4 : (zs5 b1 s.heap l1 x2 t2).get? (zs3 b1 s.heap l1 x2 t2).objs.size = some _ := Heap.get?_push_of_some _ (Heap.get?_push_size _ rfl)
  have k3 : (zs5 b1 s.heap l1 x2 t2).get? (zs2 b1 s.heap l1 x2 t2).objs.size = some _ := Heap.get?_push_of_some _ (Heap.get?_push_of_some _ (Heap.get?_push_size _ rfl))
  have k2 : (zs5 b1 s.heap l1 x2 t2).get? (zs1 b1 s.heap l1).objs.size = some (strObj x2 t2) := Heap.get?_push_of_some _ (Heap.get?_push_of_some _ (Heap.get?_push_of_some _ (Heap.get?_push_size _ rfl)))
  have k1 : (zs5 b1 s.heap l1 x2 t2).get? s.heap.objs.size = some (iterObj b1 l1) := Heap.get?_push_of_some _ (Heap.get?_push_of_some _ (Heap.get?_push_of_some _ (Heap.get?_push_of_some _ (Heap.get?_push_size _ (by cases b1 <;> rfl)))))
  show _ ∧ _
  rw [y2, y3, y4] at k5
  rw [y1, y2] at k3
  rw [y3] at k4
  rw [y1] at k2
  rw [y4]
  exact ⟨⟨_, k5, rfl⟩, h _ k5 k3 k4 (iterIs.mk_ k1) (strMk k2) fun c o x => Heap.get?_push_of_some _ (Heap.get?_push_of_some _ (Heap.get?_push_of_some _ (Heap.get?_push_of_some _ (Heap.get?_push_of_some _ x))))⟩
end
noncomputable def Itzs (K : PySem.W.Frag) (b1 : Bool) (p1 : Addr) (x2 : Str) : It :=
  ⟨fun i H => ∃ xs x c, SqB K b1 H p1 xs ∧ xs[i]? = some x ∧ x2.cps[i]? = some c,
   fun i H v H' => ∃ T x c, v = .ref T ∧ H T = none ∧ H' = upd H T (.tup [x, .str ⟨#[c]⟩]) ∧ (∀ xs, SqB K b1 H p1 xs → xs[i]? = some x) ∧ x2.cps[i]? = some c,
   fun i H => ∃ xs, SqB K b1 H p1 xs ∧ (xs.length ≤ i ∨ x2.cps.size ≤ i)⟩
noncomputable def zipsAt (b1 : Bool) (p1 : Addr) (x2 : Str) (t2 : Tok) (z TI TO i1 i2 : Addr) (i : Nat) (h : Heap) : Prop := IsZip h z TI TO .none ∧ IsPair h TI (.ref i1) (.ref i2) ∧ (∃ a b, IsPair h TO a b) ∧ iterIs b1 h i1 p1 i ∧ h.IsStrIter i2 (sk x2) x2 t2 i
theorem turn_zips {P : Program} {w : World} {K : PySem.W.Frag} {elts : List Expr} {x1 : Nat} {pos : Pos} (b1 : Bool) (x2 : Str) (t2 : Tok) {p1 z TI TO i1 i2 : Addr} (D : ZipApart z TI TO i1 i2 p1 p1) :
    Turn P w K (.Tuple elts x1 pos) (Itzs K b1 p1 x2) [z, TI, TO, i1, i2] z (zipsAt b1 p1 x2 t2 z TI TO i1 i2) where
  mem := by simp
  obj := fun i h st c hc => by
    obtain ⟨hz, hI, ⟨a, b, hO⟩, j1, j2⟩ := st
    simp only [List.mem_cons, List.not_mem_nil, or_false] at hc
    rcases hc with rfl | rfl | rfl | rfl | rfl
    · exact ⟨_, hz, fun v e => by cases e⟩
    · exact ⟨_, hI, fun v e => by cases e⟩
    · exact ⟨_, hO, fun v e => by cases e⟩
    · exact j1.obj
    · exact strOb j2
  keep := fun i h h' st k => by
    obtain ⟨hz, hI, ⟨a, b, hO⟩, j1, j2⟩ := st
    exact ⟨k z (by simp) _ hz, k TI (by simp) _ hI, ⟨a, b, k TO (by simp) _ hO⟩, j1.at_ fun o e => k i1 (by simp) o e, strAt j2 fun o e => k i2 (by simp) o e⟩
  item := by
    intro X hP hw hK hc i pins s σ H E I hf st hg
    subst hP hw hK
    obtain ⟨xs, x, c2, q1, ex, ey⟩ := hg
    obtain ⟨it1, r1, t1, _⟩ := I.seqB q1
    obtain ⟨u, eu, ru⟩ := r1.get ex
    obtain ⟨hz, hI, ⟨a, b, hO⟩, j1, j2⟩ := st
    refine zips_item D hz hI hO j1 j2 t1 (x := u) (by simpa using eu) ey fun h' z' o' n1 n2 tp kk => ?_
    refine ⟨_, rfl, ?_⟩
    refine wpAny_letOwnedTupleGo_zip z' fun h'' z'' s'' => ?_
    have fresh : H s.heap.objs.size = none := I.hok.fresh (Nat.le_refl _)
    have zne : s.heap.objs.size ≠ z := fun e => by
      have := Heap.lt_size hz
      rw [← e] at this
      exact Nat.lt_irrefl _ this
    have keep : ∀ c o, c ∉ [z, TI, TO, i1, i2] → s.heap.get? c = some o → h''.get? c = some o := fun c o hc e => by
      simp only [List.mem_cons, List.not_mem_nil, or_false, not_or] at hc
      exact s''.extBut c o hc.1 (kk c o hc.1 hc.2.2.1 hc.2.2.2.1 hc.2.2.2.2 e)
    have tp' : h''.get? s.heap.objs.size = some { cls := .type "tuple", data := .seq #[u, .str ⟨#[c2]⟩ s.toks] } := s''.extBut _ _ zne tp
    have I' : Inv X pins σ (upd H s.heap.objs.size (.tup [x, .str ⟨#[c2]⟩])) { s with heap := h'', toks := s.toks + 1 } := by
      refine I.step (g' := s.gens) (d' := s.drawn) (ch := [z, TI, TO, i1, i2]) (fun c hc => ?_) (fun c o _ _ hc e _ => keep c o hc e) (fun c o _ _ hc e _ => ⟨o.slots, keep c o hc e⟩) (fun c o _ e n => ?_) (fun c o hc e => ⟨o, keep c o hc e⟩)
        (fun c zs e => ?_) (fun c o w' e => ?_) (fun c ps e => ⟨#[], ?_⟩) (fun m hm => ?_) (fun c o e => ?_) I.bare
      · obtain ⟨_, f1, f2, f3, f4, f5⟩ := hf c hc
        exact ⟨f3, f1, f4, f5⟩
      · rw [upd_ne (Nat.ne_of_lt (Heap.lt_size e))]; exact n
      · rw [upd_ne (ne_of_none e fresh)]; exact e
      · rw [upd_ne (ne_of_none e fresh)]; exact e
      · rw [upd_ne (ne_of_none e fresh), e]; simp
      · obtain ⟨o, es, ep, ho, r⟩ := hm
        exact ⟨o, es, ep, keep _ o (fun q => (hf _ q).2.1 rfl) ho, r⟩
      · by_cases hb : c = s.heap.objs.size
        · subst hb
          rw [upd_same] at e
          cases e
          exact ⟨by show 2 ≤ sizeLine; decide, [u, .str ⟨#[c2]⟩ s.toks], .cons ru (.cons ⟨_, rfl⟩ .nil), ⟨_, tp', ⟨rfl, _, rfl⟩, rfl⟩⟩
        · rw [upd_ne hb] at e
          refine (I.hok c o e).stay (fun d w' hd q => keep d w' (fun m => ?_) q) (fun d q => ?_) fun d zs q => ?_
          · have n := (hf d m).1
            rcases hd with rfl | hd
            · rw [n] at e; cases e
            · rw [n] at hd; cases hd
          · rw [upd_ne (ne_of_none q fresh)]; exact q
          · rw [upd_ne (ne_of_none q fresh)]; exact q
    refine ⟨.ref s.heap.objs.size, _, I', rfl, ⟨_, x, c2, rfl, fresh, rfl, fun zs q => by rw [I.seqB_inj q q1]; exact ex, ey⟩, ?_, fun c hc => ?_⟩
    · refine ⟨z'', s''.extBut _ _ D.TIz (kk _ _ D.TIz D.TITO D.TIi1 D.TIi2 hI), ⟨u, .str ⟨#[c2]⟩ s.toks, s''.extBut _ _ D.TOz o'⟩, n1.at_ fun o e => s''.extBut _ o D.i1z e, strAt n2 fun o e => s''.extBut _ o D.i2z e⟩
    · have lt : c < s.heap.objs.size := by
        simp only [List.mem_cons, List.not_mem_nil, or_false] at hc
        rcases hc with rfl | rfl | rfl | rfl | rfl
        · exact Heap.lt_size hz
        · exact Heap.lt_size hI
        · exact Heap.lt_size hO
        · obtain ⟨o, e, _⟩ := j1.obj; exact Heap.lt_size e
        · obtain ⟨o, e, _⟩ := strOb j2; exact Heap.lt_size e
      rw [upd_ne (Nat.ne_of_lt lt)]
      exact (hf c hc).1
  done := by
    intro X hP hw hK hc i pins s σ H E I hf st hg
    subst hP hw hK
    obtain ⟨xs, q1, hl⟩ := hg
    obtain ⟨it1, r1, t1, _⟩ := I.seqB q1
    obtain ⟨hz, hI, ⟨a, b, hO⟩, j1, j2⟩ := st
    have l1 := r1.length
    refine zips_end (I.ok.hd hc) D hz hI hO j1 j2 t1 (by rcases hl with h | h; exact .inl (by simp; omega); exact .inr (Array.getElem?_eq_none h)) fun h' kk => ⟨rfl, ?_⟩
    have keep : ∀ c o, c ∉ [z, TI, TO, i1, i2] → s.heap.get? c = some o → h'.get? c = some o := fun c o hc e => by
      simp only [List.mem_cons, List.not_mem_nil, or_false, not_or] at hc
      exact kk c o hc.1 hc.2.2.1 hc.2.2.2.1 hc.2.2.2.2 e
    show Inv X pins σ H { s with heap := h', toks := s.toks }
    refine I.step (g' := s.gens) (d' := s.drawn) (ch := [z, TI, TO, i1, i2]) (fun c hc => ?_) (fun c o _ _ hc e _ => keep c o hc e) (fun c o _ _ hc e _ => ⟨o.slots, keep c o hc e⟩) (fun c o _ e n => n) (fun c o hc e => ⟨o, keep c o hc e⟩)
      (fun c zs e => e) (fun c o w' e => e) (fun c ps e => ⟨#[], by rw [e]; simp⟩) (fun m hm => ?_) (fun c o e => ?_) I.bare
    · obtain ⟨_, f1, f2, f3, f4, f5⟩ := hf c hc
      exact ⟨f3, f1, f4, f5⟩
    · obtain ⟨o, es, ep, ho, r⟩ := hm
      exact ⟨o, es, ep, keep _ o (fun q => (hf _ q).2.1 rfl) ho, r⟩
    · refine (I.hok c o e).stay (fun d w' hd q => keep d w' (fun m => ?_) q) (fun d q => q) fun d zs q => q
      have n := (hf d m).1
      rcases hd with rfl | hd
      · rw [n] at e; cases e
      · rw [n] at hd; cases hd
  self := fun _ _ _ _ _ st h => wpAny_pyIter_zip st.1 h
section
variable {X : Cx} {a b : Expr} {ta : TA} {p pos : Pos} {elts : List Expr} {x1 : Nat} {tp : Pos}
noncomputable def iZips (K : PySem.W.Frag) (b1 : Bool) (ta : TA) : TI := fun σ H R => ta σ H fun vs H1 => ∃ p1 x2, vs = [.ref p1, .str x2] ∧ (∃ xs, SqB K b1 H1 p1 xs) ∧ R (Itzs K b1 p1 x2) H1
theorem pi_zips {K : PySem.W.Frag} (b1 : Bool) (hK : X.K = K) (hg : Gl X "zip") (hm : X.mg "zip" = none) (ha : PA X [a, b] ta) (he : starEach [a, b] X.env = (false, eval a X.env) :: starEach [b] X.env := by rfl) (hpl : (backTo pos (starEach [b] X.env)).any (·.1) = false := by rfl) :
    PI X (.Tuple elts x1 tp) (.Call (.Name "zip" p) [a, b] [] pos) (iZips K b1 ta) := by
  subst hK
  intro pins s σ H R I h
  refine wpAny_Call_Name_kw (ld_blt I hg hm (u := .type "zip") (by rfl) ?_)
  refine PyProof.Rows.callWith_type1 (thn (ha pos pins s σ H _ I h) fun us s1 h1 => ?_) he hpl
  obtain ⟨vs, H1, I1, r1, p1, x2, rfl, ⟨xs, q1⟩, k⟩ := h1
  obtain ⟨u, w', rfl, ru, rw'⟩ := vals2 r1
  cases (show u = Value.ref p1 from ru)
  obtain ⟨t2, rfl⟩ := rw'
  obtain ⟨it1, r1, t1, _⟩ := I1.seqB q1
  have lt : ∀ {c : Addr} {b : Bool} {zs : Array Value}, seqIs b s1.heap c zs → c < s1.heap.objs.size := fun {c b zs} q => by
    cases b
    · obtain ⟨o, e, _⟩ := (show s1.heap.IsTuple c zs from q); exact Heap.lt_size e
    · obtain ⟨o, e, _⟩ := (show s1.heap.IsList c zs from q); exact Heap.lt_size e
  refine call_zips t1 fun h' hz hI hO j1 j2 kk => wpAny_pyIter_zip hz ?_
  have D := zipApart_new (lt t1) (lt t1)
  have I2 : Inv X pins σ H1 { s1 with heap := h', toks := s1.toks } := I1.kept kk
  refine ⟨_, _, _, _, H1, rfl, I2, turn_zips b1 x2 t2 D, ⟨hz, hI, ⟨_, _, hO⟩, j1, j2⟩, fun c hc => ?_, k⟩
  have le : s1.heap.objs.size ≤ c := by
    simp only [List.mem_cons, List.not_mem_nil, or_false] at hc
    rcases hc with rfl | rfl | rfl | rfl | rfl <;> first | exact Nat.le_refl _ | exact Nat.le_add_right _ _
  exact I1.fpOk le (I1.hok.fresh le)
end
section
variable {K : PySem.W.Frag} {O : List Nat} {tr : TA} {fs : Rho → Option (List D × Rho)}
noncomputable def mZips (f : Rho → Option (List D × Rho)) : Rho → Option (List D × Rho) := mBind f fun ds => mLift (match ds with
  | [.lst xs, .str y] => some (zipD xs (signsD y))
  | _ => none)
theorem it_zips {R : Hp} {p1 : Addr} {x2 : Str} {xs : List V} {ds : List D} (h1 : SqB K true R p1 xs) (r1 : Rps K R xs ds) : ItOk K (Itzs K true p1 x2) R (zipD ds (signsD x2)) := fun H' R' s b i => by
  have q1 := (SqB.inj_same s h1)
  have g1 := (SqB.inj_same b q1)
  have len : (zipD ds (signsD x2)).length = min ds.length x2.cps.size := by simp [zipD, signsD]
  have l1 := r1.length
  refine ⟨fun e => ⟨xs, g1, by omega⟩, fun d e => ?_⟩
  unfold zipD signsD at e
  rw [List.getElem?_zipWith, List.getElem?_map] at e
  cases e1 : ds[i]? with
  | none => rw [e1] at e; cases e
  | some d1 =>
    cases e2 : x2.cps.toList[i]? with
    | none => rw [e1, e2] at e; cases e
    | some c =>
      rw [e1, e2] at e
      cases e
      have e3 : x2.cps[i]? = some c := by simpa using e2
      obtain ⟨v1, a1, a2⟩ := r1.get e1
      refine ⟨⟨xs, v1, c, g1, a1, e3⟩, fun x H'' y => ?_⟩
      obtain ⟨T, x1, c', rfl, hT, rfl, z1, z2⟩ := y
      have w1 := z1 xs g1
      rw [a1] at w1
      rw [e3] at z2
      cases w1
      cases z2
      have y := Ext.new (o := .tup [v1, .str ⟨#[c]⟩]) b hT
      exact ⟨_, y, .tup upd_same (.cons ((a2.mono s).mono y.r) (.cons (.str _) .nil))⟩
theorem mi_zips (h : MA K O tr fs) : MI K O (iZips K true tr) (mZips fs) := fun Z σ H R ρ ds ρ' Q S e k => by
  obtain ⟨xs, ρ1, e1, e⟩ := mBind_some e
  obtain ⟨e2, rfl⟩ := mLift_some e
  refine h Z σ H R ρ _ _ _ S e1 fun vs H1 R1 S1 st1 r1 => ?_
  split at e2
  · cases e2
    cases r1 with
    | cons q r =>
      cases r with
      | cons q' r =>
        cases r
        cases q with
        | lst h1 t1 =>
          cases q' with
          | str => exact ⟨_, _, rfl, ⟨_, SqB.inj_same (b := true) S1.same h1⟩, k _ H1 R1 S1 st1 (it_zips h1 t1)⟩
  · cases e2
end
end L2
set_option Elab.async false
set_option linter.all false
set_option maxRecDepth 100000
set_option maxHeartbeats 4000000
namespace L2
open PySem PySem.Spec PySem.NumText
section
variable {K : PySem.W.Frag} {O : List Nat} {E : XK}
theorem mx_ifE {tA : TT} {ta tb : TE} {ft : Rho → Option (Bool × Rho)} {xa xb : Xr} (ht : MT K O tA ft) (h1 : MX K O ta E xa) (h2 : MX K O tb E xb) : MX K O (tIf tA ta tb) E (xIf ft xNo xa xb) := fun Z σ H R ρ C ρ' Q S e k => by
  rcases xIf_some e with e | ⟨ρ1, e1, e2⟩ | ⟨ρ1, e1, e2⟩
  · cases e
  · exact ht Z σ H R ρ true ρ1 _ S e1 fun H1 R1 S1 st1 => iteT (h1 Z σ H1 R1 ρ1 C ρ' Q S1 e2 fun H2 R2 S2 st2 => k H2 R2 S2 (st1.trans st2))
  · exact ht Z σ H R ρ false ρ1 _ S e1 fun H1 R1 S1 st1 => iteF (h2 Z σ H1 R1 ρ1 C ρ' Q S1 e2 fun H2 R2 S2 st2 => k H2 R2 S2 (st1.trans st2))
end
theorem slice_mem {x : Str} {l u : Option Int} {c : Nat} (h : c ∈ (Txt.slice x l u).cps.toList) : c ∈ x.cps.toList := by
  unfold Txt.slice at h
  split at h
  · exact h
  · have h' : c ∈ List.filterMap (x.cps[·]?) (Builtin.Str.strSliceIndices l u 1 x.length) := by simpa using h
    obtain ⟨i, _, e⟩ := List.mem_filterMap.mp h'
    have e' : x.cps.toList[i]? = some c := by simpa using e
    exact List.mem_of_getElem? e'
theorem stripT_eq (x y : Str) : stripT x y = Builtin.Str.strSub x (stripLo y.cps.contains true x) (stripHi y.cps.contains true x (stripLo y.cps.contains true x)) := PyProof.Rows.stripBy_eq y.cps.contains true true x
theorem strip_at (x y : Str) : ∃ lo hi, stripT x y = Builtin.Str.strSub x lo hi ∧ lo ≤ hi ∧ hi ≤ x.length ∧ (∀ k, k < lo → y.cps.contains (x.cps.getD k 0) = true) ∧ (∀ k, hi ≤ k → k < x.length → y.cps.contains (x.cps.getD k 0) = true) ∧ (hi = lo ∨ y.cps.contains (x.cps.getD (hi - 1) 0) = false) := by
  have a := PyProof.Rows.lo_facts y.cps.contains x
  have b := PyProof.Rows.hi_facts y.cps.contains x (stripLo y.cps.contains true x) a.1
  exact ⟨_, _, stripT_eq x y, b.1, b.2.1, a.2.1, b.2.2.1, b.2.2.2⟩
theorem strip_len (x y : Str) : (stripT x y).length ≤ x.length := by
  obtain ⟨lo, hi, e, h1, h2, _⟩ := strip_at x y
  rw [e, len_toList, StrLaws.strSub_toList, List.length_take]
  omega
theorem strip_nil (x y : Str) : (stripT x y).cps.toList = [] ↔ ∀ c ∈ x.cps.toList, y.cps.contains c = true := by
  obtain ⟨lo, hi, e, h1, h2, h3, h4, h5⟩ := strip_at x y
  have ln : (stripT x y).cps.toList.length = hi - lo := by
    rw [e, StrLaws.strSub_toList, List.length_take, List.length_drop, ← len_toList]
    omega
  constructor
  · intro h c hc
    rw [h] at ln
    have : hi = lo := by simp at ln; omega
    obtain ⟨k, hk⟩ := List.mem_iff_getElem?.mp hc
    have kl : k < x.length := by rw [len_toList]; exact (List.getElem?_eq_some_iff.mp hk).1
    have ec : x.cps.getD k 0 = c := by
      rw [← PyProof.Rows.getD_list, List.getD, hk]
      rfl
    rw [← ec]
    by_cases q : k < lo
    · exact h3 k q
    · exact h4 k (by omega) kl
  · intro h
    have q : hi = lo := by
      rcases h5 with q | q
      · exact q
      · by_cases z : hi = lo
        · exact z
        · have kl : hi - 1 < x.cps.toList.length := by rw [← len_toList]; omega
          have m : x.cps.getD (hi - 1) 0 ∈ x.cps.toList := by
            rw [← PyProof.Rows.getD_list, List.getD, List.getElem?_eq_getElem kl]
            exact List.getElem_mem kl
          rw [h _ m] at q
          cases q
    rw [q, Nat.sub_self] at ln
    exact List.length_eq_zero_iff.mp ln
theorem val_snoc (l : List Nat) (c : Nat) : digitsVal (l ++ [c]) = digitsVal l * 10 + (c - 48) := by
  unfold digitsVal
  rw [List.foldl_append]
  rfl
theorem digs_val : ∀ (n : Nat) (l : List Nat), l.length = n → AllDigits l → l ≠ [] → (l = [48] ∨ l.head? ≠ some 48) → digs (digitsVal l) = l := by
  intro n
  induction n with
  | zero => intro l hn _ h; exact absurd (List.length_eq_zero_iff.mp hn) h
  | succ n ih =>
    intro l hn hd hne hh
    obtain ⟨p, c, rfl⟩ : ∃ p c, l = p ++ [c] := ⟨l.dropLast, l.getLast hne, (List.dropLast_concat_getLast hne).symm⟩
    have hc := hd c (by simp)
    rw [val_snoc]
    by_cases hp : p = []
    · subst hp
      rw [show digitsVal [] * 10 + (c - 48) = c - 48 from by show 0 * 10 + (c - 48) = _; omega, digs_small (by omega)]
      show [48 + (c - 48)] = [c]
      congr 1
      omega
    · have hlen : p.length = n := by rw [List.length_append, List.length_singleton] at hn; omega
      have ph : p.head? ≠ some 48 := by
        rcases hh with hh | hh
        · have : (p ++ [c]).length = 1 := by rw [hh]; rfl
          rw [List.length_append, List.length_singleton] at this
          exact absurd (List.length_eq_zero_iff.mp (by omega)) hp
        · cases p with
          | nil => exact absurd rfl hp
          | cons a r => exact hh
      have e := ih p hlen (fun d h => hd d (List.mem_append_left _ h)) hp (.inr ph)
      have pos : 0 < digitsVal p := by
        rcases Nat.eq_zero_or_pos (digitsVal p) with z | z
        · rw [z, digs_small (by decide)] at e
          rw [← e] at ph
          exact absurd rfl ph
        · exact z
      rw [digs_big (by omega)]
      have e1 : (digitsVal p * 10 + (c - 48)) / 10 = digitsVal p := by omega
      have e2 : (digitsVal p * 10 + (c - 48)) % 10 = c - 48 := by omega
      rw [e1, e2, e]
      congr 2
      omega
end L2
set_option Elab.async false
set_option linter.all false
set_option maxRecDepth 100000
set_option maxHeartbeats 4000000
namespace K51
open PySem L2
noncomputable def top (i : Nat) : Stmt := PySem.Challenge.pw_trellisway_k51_words_and_numbers.main.body.getD i (.Pass ⟨0, 0, 0, 0⟩)
noncomputable abbrev s_check_text : Stmt := top 10
theorem sc_check_text : FnScope ["found"] ["found"] (defScope s_check_text) := ⟨rfl, rfl, rfl, by decide +kernel, rfl, by decide +kernel, by decide +kernel⟩
noncomputable abbrev s_is_made_of : Stmt := top 11
theorem sc_is_made_of : FnScope ["text", "signs"] ["text", "signs"] (defScope s_is_made_of) := ⟨rfl, rfl, rfl, by decide +kernel, rfl, by decide +kernel, by decide +kernel⟩
noncomputable abbrev s_read_figures : Stmt := top 12
theorem sc_read_figures : FnScope ["text", "most"] ["text", "most"] (defScope s_read_figures) := ⟨rfl, rfl, rfl, by decide +kernel, rfl, by decide +kernel, by decide +kernel⟩
noncomputable abbrev s_read_number : Stmt := top 13
theorem sc_read_number : FnScope ["text", "number"] ["text"] (defScope s_read_number) := ⟨rfl, rfl, rfl, by decide +kernel, rfl, by decide +kernel, by decide +kernel⟩
noncomputable abbrev s_read_bits : Stmt := top 14
theorem sc_read_bits : FnScope ["text"] ["text"] (defScope s_read_bits) := ⟨rfl, rfl, rfl, by decide +kernel, rfl, by decide +kernel, by decide +kernel⟩
noncomputable abbrev s_read_word : Stmt := top 15
theorem sc_read_word : FnScope ["text"] ["text"] (defScope s_read_word) := ⟨rfl, rfl, rfl, by decide +kernel, rfl, by decide +kernel, by decide +kernel⟩
noncomputable abbrev s_shown_bits : Stmt := top 17
theorem sc_shown_bits : FnScope ["bits"] ["bits"] (defScope s_shown_bits) := ⟨rfl, rfl, rfl, by decide +kernel, rfl, by decide +kernel, by decide +kernel⟩
noncomputable abbrev s_shown_word : Stmt := top 18
theorem sc_shown_word : FnScope ["word"] ["word"] (defScope s_shown_word) := ⟨rfl, rfl, rfl, by decide +kernel, rfl, by decide +kernel, by decide +kernel⟩
noncomputable abbrev s__law_next : Stmt := top 20
theorem sc__law_next : FnScope ["_law_state", "_law_many"] ["_law_state", "_law_many"] (defScope s__law_next) := ⟨rfl, rfl, rfl, by decide +kernel, rfl, by decide +kernel, by decide +kernel⟩
noncomputable abbrev s__law_figures : Stmt := top 21
theorem sc__law_figures : FnScope ["_law_state", "_law_many", "_law_text_here", "_law_k"] ["_law_state", "_law_many"] (defScope s__law_figures) := ⟨rfl, rfl, rfl, by decide +kernel, rfl, by decide +kernel, by decide +kernel⟩
noncomputable abbrev s__law_bits : Stmt := top 22
theorem sc__law_bits : FnScope ["_law_state", "_law_many", "_law_text_here", "_law_k"] ["_law_state", "_law_many"] (defScope s__law_bits) := ⟨rfl, rfl, rfl, by decide +kernel, rfl, by decide +kernel, by decide +kernel⟩
noncomputable abbrev s__law_spoiled : Stmt := top 23
theorem sc__law_spoiled : FnScope ["_law_state", "_law_text_here", "_law_spot", "_law_sign", "_law_tail"] ["_law_state", "_law_text_here"] (defScope s__law_spoiled) := ⟨rfl, rfl, rfl, by decide +kernel, rfl, by decide +kernel, by decide +kernel⟩
noncomputable abbrev s__law_text : Stmt := top 24
theorem sc__law_text : FnScope ["_law_state", "_law_many", "_law_some", "_law_text_here", "_law_odd"] ["_law_state"] (defScope s__law_text) := ⟨rfl, rfl, rfl, by decide +kernel, rfl, by decide +kernel, by decide +kernel⟩
noncomputable abbrev s__law_refused : Stmt := top 25
theorem sc__law_refused : FnScope ["_law_reader", "_law_text_here", "_law_both", "_law_found", "e", "_law_others"] ["_law_reader", "_law_text_here", "_law_both"] (defScope s__law_refused) := ⟨rfl, rfl, rfl, by decide +kernel, rfl, by decide +kernel, by decide +kernel⟩
noncomputable abbrev s__law_writes_number : Stmt := top 26
theorem sc__law_writes_number : FnScope ["_law_text_here", "_law_figures_here"] ["_law_text_here"] (defScope s__law_writes_number) := ⟨rfl, rfl, rfl, by decide +kernel, rfl, by decide +kernel, by decide +kernel⟩
noncomputable abbrev s__law_writes_word : Stmt := top 27
theorem sc__law_writes_word : FnScope ["_law_text_here"] ["_law_text_here"] (defScope s__law_writes_word) := ⟨rfl, rfl, rfl, by decide +kernel, rfl, by decide +kernel, by decide +kernel⟩
noncomputable abbrev s__law_number_right : Stmt := top 28
theorem sc__law_number_right : FnScope ["_law_text_here", "_law_found"] ["_law_text_here"] (defScope s__law_number_right) := ⟨rfl, rfl, rfl, by decide +kernel, rfl, by decide +kernel, by decide +kernel⟩
noncomputable abbrev s__law_word_right : Stmt := top 29
theorem sc__law_word_right : FnScope ["_law_text_here", "_law_found", "_law_bit", "_law_sign"] ["_law_text_here"] (defScope s__law_word_right) := ⟨rfl, rfl, rfl, by decide +kernel, rfl, by decide +kernel, by decide +kernel⟩
noncomputable abbrev s_law : Stmt := top 30
theorem sc_law : FnScope ["_law_script", "_law_cell", "_law_state", "_law_text_here", "_law_odd"] ["_law_script"] (defScope s_law) := ⟨rfl, rfl, rfl, by decide +kernel, rfl, by decide +kernel, by decide +kernel⟩
structure Ad where
  c_WayError : Addr
  c_NoText : Addr
  c_NoScheme : Addr
  c_NoWord : Addr
  c_NoSigns : Addr
  c_NoPlace : Addr
  f_check_text : Addr
  fd_check_text : FuncData
  f_is_made_of : Addr
  fd_is_made_of : FuncData
  f_read_figures : Addr
  fd_read_figures : FuncData
  f_read_number : Addr
  fd_read_number : FuncData
  f_read_bits : Addr
  fd_read_bits : FuncData
  f_read_word : Addr
  fd_read_word : FuncData
  f_shown_bits : Addr
  fd_shown_bits : FuncData
  f_shown_word : Addr
  fd_shown_word : FuncData
  f__law_next : Addr
  fd__law_next : FuncData
  f__law_figures : Addr
  fd__law_figures : FuncData
  f__law_bits : Addr
  fd__law_bits : FuncData
  f__law_spoiled : Addr
  fd__law_spoiled : FuncData
  f__law_text : Addr
  fd__law_text : FuncData
  f__law_refused : Addr
  fd__law_refused : FuncData
  f__law_writes_number : Addr
  fd__law_writes_number : FuncData
  f__law_writes_word : Addr
  fd__law_writes_word : FuncData
  f__law_number_right : Addr
  fd__law_number_right : FuncData
  f__law_word_right : Addr
  fd__law_word_right : FuncData
  f_law : Addr
  fd_law : FuncData
  k_MOST_FIGURES : Tok
  k_FIGURES : Tok
structure Txt (K : PySem.W.Frag) (mg : Str → Option Value) (a : Ad) : Prop where
  mg_WayError : mg "WayError" = some (.ref a.c_WayError)
  ns_WayError : PySem.W.nsIn K mainGlobals "WayError" = some (some (.ref a.c_WayError))
  ek_WayError : ExcK K a.c_WayError
  mg_NoText : mg "NoText" = some (.ref a.c_NoText)
  ns_NoText : PySem.W.nsIn K mainGlobals "NoText" = some (some (.ref a.c_NoText))
  ek_NoText : ExcK K a.c_NoText
  ex_NoText : PySem.W.excIn K a.c_NoText [.type "ValueError", .type "Exception", .type "BaseException", .type "object"] "ValueError.__new__" = true
  mg_NoScheme : mg "NoScheme" = some (.ref a.c_NoScheme)
  ns_NoScheme : PySem.W.nsIn K mainGlobals "NoScheme" = some (some (.ref a.c_NoScheme))
  ek_NoScheme : ExcK K a.c_NoScheme
  mg_NoWord : mg "NoWord" = some (.ref a.c_NoWord)
  ns_NoWord : PySem.W.nsIn K mainGlobals "NoWord" = some (some (.ref a.c_NoWord))
  ek_NoWord : ExcK K a.c_NoWord
  mg_NoSigns : mg "NoSigns" = some (.ref a.c_NoSigns)
  ns_NoSigns : PySem.W.nsIn K mainGlobals "NoSigns" = some (some (.ref a.c_NoSigns))
  ek_NoSigns : ExcK K a.c_NoSigns
  mg_NoPlace : mg "NoPlace" = some (.ref a.c_NoPlace)
  ns_NoPlace : PySem.W.nsIn K mainGlobals "NoPlace" = some (some (.ref a.c_NoPlace))
  ek_NoPlace : ExcK K a.c_NoPlace
  em_WayError_WayError : PySem.W.exmOne K (.ref a.c_WayError) (.ref a.c_WayError) = some true
  em_NoText_WayError : PySem.W.exmOne K (.ref a.c_NoText) (.ref a.c_WayError) = some true
  em_NoScheme_WayError : PySem.W.exmOne K (.ref a.c_NoScheme) (.ref a.c_WayError) = some true
  em_NoWord_WayError : PySem.W.exmOne K (.ref a.c_NoWord) (.ref a.c_WayError) = some true
  em_NoSigns_WayError : PySem.W.exmOne K (.ref a.c_NoSigns) (.ref a.c_WayError) = some true
  em_NoPlace_WayError : PySem.W.exmOne K (.ref a.c_NoPlace) (.ref a.c_WayError) = some true
  mg_MOST_FIGURES : mg "MOST_FIGURES" = some (.int (60) a.k_MOST_FIGURES)
  mg_FIGURES : mg "FIGURES" = some (.str "0123456789" a.k_FIGURES)
  F_check_text : Fun K "check_text" "check_text" s_check_text a.f_check_text a.fd_check_text
  B_check_text : Binds K a.fd_check_text ["found"] []
  mg_check_text : mg "check_text" = some (.ref a.f_check_text)
  kp_check_text : PySem.W.keepIn K (.ref a.f_check_text) = true
  F_is_made_of : Fun K "is_made_of" "is_made_of" s_is_made_of a.f_is_made_of a.fd_is_made_of
  B_is_made_of : Binds K a.fd_is_made_of ["text", "signs"] []
  mg_is_made_of : mg "is_made_of" = some (.ref a.f_is_made_of)
  kp_is_made_of : PySem.W.keepIn K (.ref a.f_is_made_of) = true
  F_read_figures : Fun K "read_figures" "read_figures" s_read_figures a.f_read_figures a.fd_read_figures
  B_read_figures : Binds K a.fd_read_figures ["text", "most"] []
  mg_read_figures : mg "read_figures" = some (.ref a.f_read_figures)
  kp_read_figures : PySem.W.keepIn K (.ref a.f_read_figures) = true
  F_read_number : Fun K "read_number" "read_number" s_read_number a.f_read_number a.fd_read_number
  B_read_number : Binds K a.fd_read_number ["text"] []
  mg_read_number : mg "read_number" = some (.ref a.f_read_number)
  kp_read_number : PySem.W.keepIn K (.ref a.f_read_number) = true
  nsf_read_number : PySem.W.nsIn K mainGlobals "read_number" = some (some (.ref a.f_read_number))
  F_read_bits : Fun K "read_bits" "read_bits" s_read_bits a.f_read_bits a.fd_read_bits
  B_read_bits : Binds K a.fd_read_bits ["text"] []
  mg_read_bits : mg "read_bits" = some (.ref a.f_read_bits)
  kp_read_bits : PySem.W.keepIn K (.ref a.f_read_bits) = true
  F_read_word : Fun K "read_word" "read_word" s_read_word a.f_read_word a.fd_read_word
  B_read_word : Binds K a.fd_read_word ["text"] []
  mg_read_word : mg "read_word" = some (.ref a.f_read_word)
  kp_read_word : PySem.W.keepIn K (.ref a.f_read_word) = true
  nsf_read_word : PySem.W.nsIn K mainGlobals "read_word" = some (some (.ref a.f_read_word))
  F_shown_bits : Fun K "shown_bits" "shown_bits" s_shown_bits a.f_shown_bits a.fd_shown_bits
  B_shown_bits : Binds K a.fd_shown_bits ["bits"] []
  mg_shown_bits : mg "shown_bits" = some (.ref a.f_shown_bits)
  kp_shown_bits : PySem.W.keepIn K (.ref a.f_shown_bits) = true
  F_shown_word : Fun K "shown_word" "shown_word" s_shown_word a.f_shown_word a.fd_shown_word
  B_shown_word : Binds K a.fd_shown_word ["word"] []
  mg_shown_word : mg "shown_word" = some (.ref a.f_shown_word)
  kp_shown_word : PySem.W.keepIn K (.ref a.f_shown_word) = true
  F__law_next : Fun K "_law_next" "_law_next" s__law_next a.f__law_next a.fd__law_next
  B__law_next : Binds K a.fd__law_next ["_law_state", "_law_many"] []
  mg__law_next : mg "_law_next" = some (.ref a.f__law_next)
  kp__law_next : PySem.W.keepIn K (.ref a.f__law_next) = true
  F__law_figures : Fun K "_law_figures" "_law_figures" s__law_figures a.f__law_figures a.fd__law_figures
  B__law_figures : Binds K a.fd__law_figures ["_law_state", "_law_many"] []
  mg__law_figures : mg "_law_figures" = some (.ref a.f__law_figures)
  kp__law_figures : PySem.W.keepIn K (.ref a.f__law_figures) = true
  F__law_bits : Fun K "_law_bits" "_law_bits" s__law_bits a.f__law_bits a.fd__law_bits
  B__law_bits : Binds K a.fd__law_bits ["_law_state", "_law_many"] []
  mg__law_bits : mg "_law_bits" = some (.ref a.f__law_bits)
  kp__law_bits : PySem.W.keepIn K (.ref a.f__law_bits) = true
  F__law_spoiled : Fun K "_law_spoiled" "_law_spoiled" s__law_spoiled a.f__law_spoiled a.fd__law_spoiled
  B__law_spoiled : Binds K a.fd__law_spoiled ["_law_state", "_law_text_here"] []
  mg__law_spoiled : mg "_law_spoiled" = some (.ref a.f__law_spoiled)
  kp__law_spoiled : PySem.W.keepIn K (.ref a.f__law_spoiled) = true
  F__law_text : Fun K "_law_text" "_law_text" s__law_text a.f__law_text a.fd__law_text
  B__law_text : Binds K a.fd__law_text ["_law_state"] []
  mg__law_text : mg "_law_text" = some (.ref a.f__law_text)
  kp__law_text : PySem.W.keepIn K (.ref a.f__law_text) = true
  F__law_refused : Fun K "_law_refused" "_law_refused" s__law_refused a.f__law_refused a.fd__law_refused
  B__law_refused : Binds K a.fd__law_refused ["_law_reader", "_law_text_here", "_law_both"] []
  mg__law_refused : mg "_law_refused" = some (.ref a.f__law_refused)
  kp__law_refused : PySem.W.keepIn K (.ref a.f__law_refused) = true
  F__law_writes_number : Fun K "_law_writes_number" "_law_writes_number" s__law_writes_number a.f__law_writes_number a.fd__law_writes_number
  B__law_writes_number : Binds K a.fd__law_writes_number ["_law_text_here"] []
  mg__law_writes_number : mg "_law_writes_number" = some (.ref a.f__law_writes_number)
  kp__law_writes_number : PySem.W.keepIn K (.ref a.f__law_writes_number) = true
  F__law_writes_word : Fun K "_law_writes_word" "_law_writes_word" s__law_writes_word a.f__law_writes_word a.fd__law_writes_word
  B__law_writes_word : Binds K a.fd__law_writes_word ["_law_text_here"] []
  mg__law_writes_word : mg "_law_writes_word" = some (.ref a.f__law_writes_word)
  kp__law_writes_word : PySem.W.keepIn K (.ref a.f__law_writes_word) = true
  F__law_number_right : Fun K "_law_number_right" "_law_number_right" s__law_number_right a.f__law_number_right a.fd__law_number_right
  B__law_number_right : Binds K a.fd__law_number_right ["_law_text_here"] []
  mg__law_number_right : mg "_law_number_right" = some (.ref a.f__law_number_right)
  kp__law_number_right : PySem.W.keepIn K (.ref a.f__law_number_right) = true
  F__law_word_right : Fun K "_law_word_right" "_law_word_right" s__law_word_right a.f__law_word_right a.fd__law_word_right
  B__law_word_right : Binds K a.fd__law_word_right ["_law_text_here"] []
  mg__law_word_right : mg "_law_word_right" = some (.ref a.f__law_word_right)
  kp__law_word_right : PySem.W.keepIn K (.ref a.f__law_word_right) = true
  F_law : Fun K "law" "law" s_law a.f_law a.fd_law
  B_law : Binds K a.fd_law ["_law_script"] []
  mg_law : mg "law" = some (.ref a.f_law)
  kp_law : PySem.W.keepIn K (.ref a.f_law) = true
  z_ValueError : mg "ValueError" = none
  z_all : mg "all" = none
  z_bool : mg "bool" = none
  z_int : mg "int" = none
  z_isinstance : mg "isinstance" = none
  z_len : mg "len" = none
  z_list : mg "list" = none
  z_range : mg "range" = none
  z_str : mg "str" = none
  z_zip : mg "zip" = none
  kit_ty_NoneType_ty_bool : PySem.W.kitOne K (.type "NoneType") (.type "bool") = some false
  kit_ty_bool_ty_bool : PySem.W.kitOne K (.type "bool") (.type "bool") = some true
  kit_ty_int_ty_bool : PySem.W.kitOne K (.type "int") (.type "bool") = some false
  kit_ty_str_ty_bool : PySem.W.kitOne K (.type "str") (.type "bool") = some false
  kit_ty_list_ty_bool : PySem.W.kitOne K (.type "list") (.type "bool") = some false
  kit_ty_tuple_ty_bool : PySem.W.kitOne K (.type "tuple") (.type "bool") = some false
  kit_ty_dict_ty_bool : PySem.W.kitOne K (.type "dict") (.type "bool") = some false
  kit_ty_NoneType_ty_int : PySem.W.kitOne K (.type "NoneType") (.type "int") = some false
  kit_ty_bool_ty_int : PySem.W.kitOne K (.type "bool") (.type "int") = some true
  kit_ty_int_ty_int : PySem.W.kitOne K (.type "int") (.type "int") = some true
  kit_ty_str_ty_int : PySem.W.kitOne K (.type "str") (.type "int") = some false
  kit_ty_list_ty_int : PySem.W.kitOne K (.type "list") (.type "int") = some false
  kit_ty_tuple_ty_int : PySem.W.kitOne K (.type "tuple") (.type "int") = some false
  kit_ty_dict_ty_int : PySem.W.kitOne K (.type "dict") (.type "int") = some false
  kit_ty_NoneType_ty_list : PySem.W.kitOne K (.type "NoneType") (.type "list") = some false
  kit_ty_bool_ty_list : PySem.W.kitOne K (.type "bool") (.type "list") = some false
  kit_ty_int_ty_list : PySem.W.kitOne K (.type "int") (.type "list") = some false
  kit_ty_str_ty_list : PySem.W.kitOne K (.type "str") (.type "list") = some false
  kit_ty_list_ty_list : PySem.W.kitOne K (.type "list") (.type "list") = some true
  kit_ty_tuple_ty_list : PySem.W.kitOne K (.type "tuple") (.type "list") = some false
  kit_ty_dict_ty_list : PySem.W.kitOne K (.type "dict") (.type "list") = some false
  kit_ty_NoneType_ty_str : PySem.W.kitOne K (.type "NoneType") (.type "str") = some false
  kit_ty_bool_ty_str : PySem.W.kitOne K (.type "bool") (.type "str") = some false
  kit_ty_int_ty_str : PySem.W.kitOne K (.type "int") (.type "str") = some false
  kit_ty_str_ty_str : PySem.W.kitOne K (.type "str") (.type "str") = some true
  kit_ty_list_ty_str : PySem.W.kitOne K (.type "list") (.type "str") = some false
  kit_ty_tuple_ty_str : PySem.W.kitOne K (.type "tuple") (.type "str") = some false
  kit_ty_dict_ty_str : PySem.W.kitOne K (.type "dict") (.type "str") = some false
  kit_WayError_NoPlace : PySem.W.kitOne K (.ref a.c_WayError) (.ref a.c_NoPlace) = some false
  kit_NoText_NoPlace : PySem.W.kitOne K (.ref a.c_NoText) (.ref a.c_NoPlace) = some false
  kit_NoScheme_NoPlace : PySem.W.kitOne K (.ref a.c_NoScheme) (.ref a.c_NoPlace) = some false
  kit_NoWord_NoPlace : PySem.W.kitOne K (.ref a.c_NoWord) (.ref a.c_NoPlace) = some false
  kit_NoSigns_NoPlace : PySem.W.kitOne K (.ref a.c_NoSigns) (.ref a.c_NoPlace) = some false
  kit_NoPlace_NoPlace : PySem.W.kitOne K (.ref a.c_NoPlace) (.ref a.c_NoPlace) = some true
  kit_ty_NoneType_NoPlace : PySem.W.kitOne K (.type "NoneType") (.ref a.c_NoPlace) = some false
  kit_WayError_NoSigns : PySem.W.kitOne K (.ref a.c_WayError) (.ref a.c_NoSigns) = some false
  kit_NoText_NoSigns : PySem.W.kitOne K (.ref a.c_NoText) (.ref a.c_NoSigns) = some false
  kit_NoScheme_NoSigns : PySem.W.kitOne K (.ref a.c_NoScheme) (.ref a.c_NoSigns) = some false
  kit_NoWord_NoSigns : PySem.W.kitOne K (.ref a.c_NoWord) (.ref a.c_NoSigns) = some false
  kit_NoSigns_NoSigns : PySem.W.kitOne K (.ref a.c_NoSigns) (.ref a.c_NoSigns) = some true
  kit_NoPlace_NoSigns : PySem.W.kitOne K (.ref a.c_NoPlace) (.ref a.c_NoSigns) = some false
  kit_ty_NoneType_NoSigns : PySem.W.kitOne K (.type "NoneType") (.ref a.c_NoSigns) = some false
  kit_WayError_NoWord : PySem.W.kitOne K (.ref a.c_WayError) (.ref a.c_NoWord) = some false
  kit_NoText_NoWord : PySem.W.kitOne K (.ref a.c_NoText) (.ref a.c_NoWord) = some false
  kit_NoScheme_NoWord : PySem.W.kitOne K (.ref a.c_NoScheme) (.ref a.c_NoWord) = some false
  kit_NoWord_NoWord : PySem.W.kitOne K (.ref a.c_NoWord) (.ref a.c_NoWord) = some true
  kit_NoSigns_NoWord : PySem.W.kitOne K (.ref a.c_NoSigns) (.ref a.c_NoWord) = some false
  kit_NoPlace_NoWord : PySem.W.kitOne K (.ref a.c_NoPlace) (.ref a.c_NoWord) = some false
  kit_ty_NoneType_NoWord : PySem.W.kitOne K (.type "NoneType") (.ref a.c_NoWord) = some false
  kit_WayError_ty_ValueError : PySem.W.kitOne K (.ref a.c_WayError) (.type "ValueError") = some true
  kit_NoText_ty_ValueError : PySem.W.kitOne K (.ref a.c_NoText) (.type "ValueError") = some true
  kit_NoScheme_ty_ValueError : PySem.W.kitOne K (.ref a.c_NoScheme) (.type "ValueError") = some true
  kit_NoWord_ty_ValueError : PySem.W.kitOne K (.ref a.c_NoWord) (.type "ValueError") = some true
  kit_NoSigns_ty_ValueError : PySem.W.kitOne K (.ref a.c_NoSigns) (.type "ValueError") = some true
  kit_NoPlace_ty_ValueError : PySem.W.kitOne K (.ref a.c_NoPlace) (.type "ValueError") = some true
  kit_ty_NoneType_ty_ValueError : PySem.W.kitOne K (.type "NoneType") (.type "ValueError") = some false
  kit_WayError_NoScheme : PySem.W.kitOne K (.ref a.c_WayError) (.ref a.c_NoScheme) = some false
  kit_NoText_NoScheme : PySem.W.kitOne K (.ref a.c_NoText) (.ref a.c_NoScheme) = some false
  kit_NoScheme_NoScheme : PySem.W.kitOne K (.ref a.c_NoScheme) (.ref a.c_NoScheme) = some true
  kit_NoWord_NoScheme : PySem.W.kitOne K (.ref a.c_NoWord) (.ref a.c_NoScheme) = some false
  kit_NoSigns_NoScheme : PySem.W.kitOne K (.ref a.c_NoSigns) (.ref a.c_NoScheme) = some false
  kit_NoPlace_NoScheme : PySem.W.kitOne K (.ref a.c_NoPlace) (.ref a.c_NoScheme) = some false
  kit_ty_NoneType_NoScheme : PySem.W.kitOne K (.type "NoneType") (.ref a.c_NoScheme) = some false
  kit_WayError_NoText : PySem.W.kitOne K (.ref a.c_WayError) (.ref a.c_NoText) = some false
  kit_NoText_NoText : PySem.W.kitOne K (.ref a.c_NoText) (.ref a.c_NoText) = some true
  kit_NoScheme_NoText : PySem.W.kitOne K (.ref a.c_NoScheme) (.ref a.c_NoText) = some false
  kit_NoWord_NoText : PySem.W.kitOne K (.ref a.c_NoWord) (.ref a.c_NoText) = some false
  kit_NoSigns_NoText : PySem.W.kitOne K (.ref a.c_NoSigns) (.ref a.c_NoText) = some false
  kit_NoPlace_NoText : PySem.W.kitOne K (.ref a.c_NoPlace) (.ref a.c_NoText) = some false
  kit_ty_NoneType_NoText : PySem.W.kitOne K (.type "NoneType") (.ref a.c_NoText) = some false
theorem isi_bool {K : PySem.W.Frag} {mg : Str → Option Value} {a : Ad} (T : Txt K mg a) : KitB K "bool" (isTab "bool") := kitB_mk T.kit_ty_NoneType_ty_bool T.kit_ty_bool_ty_bool T.kit_ty_int_ty_bool T.kit_ty_str_ty_bool T.kit_ty_list_ty_bool T.kit_ty_tuple_ty_bool T.kit_ty_dict_ty_bool
theorem isi_int {K : PySem.W.Frag} {mg : Str → Option Value} {a : Ad} (T : Txt K mg a) : KitB K "int" (isTab "int") := kitB_mk T.kit_ty_NoneType_ty_int T.kit_ty_bool_ty_int T.kit_ty_int_ty_int T.kit_ty_str_ty_int T.kit_ty_list_ty_int T.kit_ty_tuple_ty_int T.kit_ty_dict_ty_int
theorem isi_list {K : PySem.W.Frag} {mg : Str → Option Value} {a : Ad} (T : Txt K mg a) : KitB K "list" (isTab "list") := kitB_mk T.kit_ty_NoneType_ty_list T.kit_ty_bool_ty_list T.kit_ty_int_ty_list T.kit_ty_str_ty_list T.kit_ty_list_ty_list T.kit_ty_tuple_ty_list T.kit_ty_dict_ty_list
theorem isi_str {K : PySem.W.Frag} {mg : Str → Option Value} {a : Ad} (T : Txt K mg a) : KitB K "str" (isTab "str") := kitB_mk T.kit_ty_NoneType_ty_str T.kit_ty_bool_ty_str T.kit_ty_int_ty_str T.kit_ty_str_ty_str T.kit_ty_list_ty_str T.kit_ty_tuple_ty_str T.kit_ty_dict_ty_str
noncomputable def eb_NoPlace_NoSigns_NoWord_T : List (Str × Bool) := [("WayError", false), ("NoText", false), ("NoScheme", false), ("NoWord", true), ("NoSigns", true), ("NoPlace", true)]
theorem ke_NoPlace_NoSigns_NoWord_T {K : PySem.W.Frag} {mg : Str → Option Value} {a : Ad} (T : Txt K mg a) : KitEs K [.ref a.c_NoPlace, .ref a.c_NoSigns, .ref a.c_NoWord] (fun x => eb_NoPlace_NoSigns_NoWord_T.lookup x) := by
  refine kitEs_of (fun p hp => ?_) (kitAny_f T.kit_ty_NoneType_NoPlace (kitAny_f T.kit_ty_NoneType_NoSigns (kitAny_f T.kit_ty_NoneType_NoWord kitAny_nil)))
  unfold eb_NoPlace_NoSigns_NoWord_T at hp
  simp only [List.mem_cons, List.not_mem_nil, or_false] at hp
  rcases hp with rfl | rfl | rfl | rfl | rfl | rfl
  · exact ⟨_, T.ns_WayError, (kitAny_f T.kit_WayError_NoPlace (kitAny_f T.kit_WayError_NoSigns (kitAny_f T.kit_WayError_NoWord kitAny_nil)))⟩
  · exact ⟨_, T.ns_NoText, (kitAny_f T.kit_NoText_NoPlace (kitAny_f T.kit_NoText_NoSigns (kitAny_f T.kit_NoText_NoWord kitAny_nil)))⟩
  · exact ⟨_, T.ns_NoScheme, (kitAny_f T.kit_NoScheme_NoPlace (kitAny_f T.kit_NoScheme_NoSigns (kitAny_f T.kit_NoScheme_NoWord kitAny_nil)))⟩
  · exact ⟨_, T.ns_NoWord, (kitAny_f T.kit_NoWord_NoPlace (kitAny_f T.kit_NoWord_NoSigns (kitAny_t T.kit_NoWord_NoWord)))⟩
  · exact ⟨_, T.ns_NoSigns, (kitAny_f T.kit_NoSigns_NoPlace (kitAny_t T.kit_NoSigns_NoSigns))⟩
  · exact ⟨_, T.ns_NoPlace, (kitAny_t T.kit_NoPlace_NoPlace)⟩
noncomputable def eb_ValueError : List (Str × Bool) := [("WayError", true), ("NoText", true), ("NoScheme", true), ("NoWord", true), ("NoSigns", true), ("NoPlace", true)]
theorem ke_ValueError {K : PySem.W.Frag} {mg : Str → Option Value} {a : Ad} (T : Txt K mg a) : KitE K (.type "ValueError") (fun x => eb_ValueError.lookup x) := by
  refine kitE_of (fun p hp => ?_) T.kit_ty_NoneType_ty_ValueError
  unfold eb_ValueError at hp
  simp only [List.mem_cons, List.not_mem_nil, or_false] at hp
  rcases hp with rfl | rfl | rfl | rfl | rfl | rfl
  · exact ⟨_, T.ns_WayError, T.kit_WayError_ty_ValueError⟩
  · exact ⟨_, T.ns_NoText, T.kit_NoText_ty_ValueError⟩
  · exact ⟨_, T.ns_NoScheme, T.kit_NoScheme_ty_ValueError⟩
  · exact ⟨_, T.ns_NoWord, T.kit_NoWord_ty_ValueError⟩
  · exact ⟨_, T.ns_NoSigns, T.kit_NoSigns_ty_ValueError⟩
  · exact ⟨_, T.ns_NoPlace, T.kit_NoPlace_ty_ValueError⟩
noncomputable def eb_NoScheme : List (Str × Bool) := [("WayError", false), ("NoText", false), ("NoScheme", true), ("NoWord", false), ("NoSigns", false), ("NoPlace", false)]
theorem ke_NoScheme {K : PySem.W.Frag} {mg : Str → Option Value} {a : Ad} (T : Txt K mg a) : KitE K (.ref a.c_NoScheme) (fun x => eb_NoScheme.lookup x) := by
  refine kitE_of (fun p hp => ?_) T.kit_ty_NoneType_NoScheme
  unfold eb_NoScheme at hp
  simp only [List.mem_cons, List.not_mem_nil, or_false] at hp
  rcases hp with rfl | rfl | rfl | rfl | rfl | rfl
  · exact ⟨_, T.ns_WayError, T.kit_WayError_NoScheme⟩
  · exact ⟨_, T.ns_NoText, T.kit_NoText_NoScheme⟩
  · exact ⟨_, T.ns_NoScheme, T.kit_NoScheme_NoScheme⟩
  · exact ⟨_, T.ns_NoWord, T.kit_NoWord_NoScheme⟩
  · exact ⟨_, T.ns_NoSigns, T.kit_NoSigns_NoScheme⟩
  · exact ⟨_, T.ns_NoPlace, T.kit_NoPlace_NoScheme⟩
noncomputable def eb_NoText : List (Str × Bool) := [("WayError", false), ("NoText", true), ("NoScheme", false), ("NoWord", false), ("NoSigns", false), ("NoPlace", false)]
theorem ke_NoText {K : PySem.W.Frag} {mg : Str → Option Value} {a : Ad} (T : Txt K mg a) : KitE K (.ref a.c_NoText) (fun x => eb_NoText.lookup x) := by
  refine kitE_of (fun p hp => ?_) T.kit_ty_NoneType_NoText
  unfold eb_NoText at hp
  simp only [List.mem_cons, List.not_mem_nil, or_false] at hp
  rcases hp with rfl | rfl | rfl | rfl | rfl | rfl
  · exact ⟨_, T.ns_WayError, T.kit_WayError_NoText⟩
  · exact ⟨_, T.ns_NoText, T.kit_NoText_NoText⟩
  · exact ⟨_, T.ns_NoScheme, T.kit_NoScheme_NoText⟩
  · exact ⟨_, T.ns_NoWord, T.kit_NoWord_NoText⟩
  · exact ⟨_, T.ns_NoSigns, T.kit_NoSigns_NoText⟩
  · exact ⟨_, T.ns_NoPlace, T.kit_NoPlace_NoText⟩
noncomputable def tk_WayError : List Str := ["WayError", "NoText", "NoScheme", "NoWord", "NoSigns", "NoPlace"]
theorem km_WayError {K : PySem.W.Frag} {mg : Str → Option Value} {a : Ad} (T : Txt K mg a) : KitM K (.ref a.c_WayError) (fun x => tk_WayError.contains x) := by
  refine kitM_of fun x hx => ?_
  unfold tk_WayError at hx
  simp only [List.mem_cons, List.not_mem_nil, or_false] at hx
  rcases hx with rfl | rfl | rfl | rfl | rfl | rfl
  · exact ⟨_, T.ns_WayError, T.em_WayError_WayError, T.ek_WayError⟩
  · exact ⟨_, T.ns_NoText, T.em_NoText_WayError, T.ek_NoText⟩
  · exact ⟨_, T.ns_NoScheme, T.em_NoScheme_WayError, T.ek_NoScheme⟩
  · exact ⟨_, T.ns_NoWord, T.em_NoWord_WayError, T.ek_NoWord⟩
  · exact ⟨_, T.ns_NoSigns, T.em_NoSigns_WayError, T.ek_NoSigns⟩
  · exact ⟨_, T.ns_NoPlace, T.em_NoPlace_WayError, T.ek_NoPlace⟩
section
variable {P : Program} {w : World} {K : PySem.W.Frag} {mg : Str → Option Value} {base : Heap} {a : Ad}
noncomputable def b_check_text : Rho → Option Out :=
  (sIf (mNot (mTest (mOp1 (dIsi (isTab "str")) (mVar 0))))
    (fun _ => none)
    sNil)
noncomputable def f_check_text : List D → Option D := runP false 1 1 b_check_text
theorem n_check_text : runsN 1 f_check_text := runP_n
noncomputable def x_check_text : Xr :=
  (xIf (mNot (mTest (mOp1 (dIsi (isTab "str")) (mVar 0)))) xNo
    (xRaise "NoText" (mCons (mRet (.str "this is no text")) mNil))
    xNo)
noncomputable def fx_check_text : List D → Option Str := runX 1 1 x_check_text
theorem nx_check_text : runsX 1 fx_check_text := runX_n
theorem ok_check_text (T : Txt K mg a) : FnOk P w K mg base (CX1 P w) 1 a.f_check_text a.fd_check_text ["found"] (spPX K false 1 f_check_text fx_check_text) := by
  refine T.F_check_text.okX sc_check_text (fun vs H Q E h => spPX_len h) (fun cdv A outer s H vs Q E hr h => ?_)
  refine ⟨_, (pss_one (ps_if (pt_not (pt_val (pe_callB (call_isO (K := K) rfl) (by rfl) T.z_isinstance (by rfl) (pa_cons (pv 0) (pa_cons (pe_bltn (v := .ty "str") (by rfl) T.z_str (by rfl) rfl) pa_nil))))) (pss_one (ps_raise newX rfl (by rfl) T.mg_NoText T.ex_NoText PySem.F.excBase_ValueError (pa_cons pe_str pa_nil))) pss_nil)), ?_⟩
  exact spPX_body (O' := []) (Nms := ["found"]) (f := b_check_text) (fx := x_check_text) (by
      unfold b_check_text
      exact (ms_if (mt_not (mt_val (me_isi (isi_str T) mb_var))) ms_raise (ms_nil rfl))) (by
      unfold x_check_text
      exact (msx_if (mt_not (mt_val (me_isi (isi_str T) mb_var))) mtx_no (msxa_raise T.ns_NoText (ma_cons me_str ma_nil)).g msx_no)) h
noncomputable def b_is_made_of : Rho → Option Out :=
  (sRet (mAndV (mOp2 dGt (mOp1 dLenS (mVar 0)) (mRet (.int 0))) (mOp1 dAll (mOf (mComp 1 [1] none (mSigns (mVar 0)) (gSet 0)
      (mRet true) (mOp2 dInS (mVar 0) (mVar 1)))))))
noncomputable def f_is_made_of : List D → Option D := runP false 2 2 b_is_made_of
theorem n_is_made_of : runsN 2 f_is_made_of := runP_n
theorem ok_is_made_of (T : Txt K mg a) : FnOk P w K mg base CX0 1 a.f_is_made_of a.fd_is_made_of ["text", "signs"] (spP K false 2 f_is_made_of) := by
  refine T.F_is_made_of.ok sc_is_made_of (fun vs H Q E h => ?_) (fun cdv A outer s H vs Q E hr h => ?_)
  · exact h.1
  · refine ⟨_, (pss_one (ps_ret (pe_and (pe_cmpR op_gt (pe_callB call_len_str (by rfl) T.z_len (by rfl) (pa_cons (pv 0) pa_nil)) pe_int (nomark _)) (pe_one (pe_callB (call_all (K := K) rfl rfl) (by rfl) T.z_all (by rfl) (pa_cons (pe_comp (sc := defScope s_is_made_of) (N0 := ["text", "signs"]) rfl rfl rfl (show compOk _ _ ["sign", "signs"] 1 [1] _ = true by decide +kernel) (pi_str (pv 0)) (fun _ _ _ _ _ => (pg_name (i := 0) (show List.Nodup (["sign", "signs"] : List Str) from (by decide +kernel)) rfl (Or.inl rfl))) (own_name (by decide)) (fun _ _ _ _ _ => pif_nil) (fun _ _ _ _ _ => (pe_cmpR op_in_str (pv 0) (pv 1) (by with_unfolding_all rfl)))) pa_nil)))))), ?_⟩
    exact spP_body (O' := []) (Nms := ["text", "signs"]) (f := b_is_made_of) (by
      unfold b_is_made_of
      exact (ms_ret rfl (me_and (me_opB os_b0 (me_call1 cs_lenS mb_var) me_int.mb) (me_call1 cs_all (me_new (mn_comp (bw := none) (mi_str (me_var (i := 0) (by decide))) (mg_name (i := 0) (by decide)) mt_yes (me_opB os_inS (me_var (i := 0) (by decide)) mb_var))).mb)) rfl)) h
noncomputable def b_read_figures : Rho → Option Out :=
  (sSeq (sIf (mOr (mNot (mTest (mCall f_is_made_of (mCons (mVar 0) (mCons (mRet (.str "0123456789")) mNil))))) (mOr (mTest (mOp2 dGt (mOp1 dLenS (mVar 0)) (mVar 1))) (mAnd (mTest (mOp2 dEq (mOp2 dIx (mVar 0) (mRet (.int 0))) (mRet (.str "0")))) (mTest (mOp2 dNe (mVar 0) (mRet (.str "0")))))))
    (fun _ => none)
    sNil)
  (sRet (mOp1 dIntT (mVar 0))))
noncomputable def f_read_figures : List D → Option D := runP false 2 2 b_read_figures
theorem n_read_figures : runsN 2 f_read_figures := runP_n
noncomputable def x_read_figures : Xr :=
  (xSeq (sIf (mOr (mNot (mTest (mCall f_is_made_of (mCons (mVar 0) (mCons (mRet (.str "0123456789")) mNil))))) (mOr (mTest (mOp2 dGt (mOp1 dLenS (mVar 0)) (mVar 1))) (mAnd (mTest (mOp2 dEq (mOp2 dIx (mVar 0) (mRet (.int 0))) (mRet (.str "0")))) (mTest (mOp2 dNe (mVar 0) (mRet (.str "0")))))))
    (fun _ => none)
    sNil) (xIf (mOr (mNot (mTest (mCall f_is_made_of (mCons (mVar 0) (mCons (mRet (.str "0123456789")) mNil))))) (mOr (mTest (mOp2 dGt (mOp1 dLenS (mVar 0)) (mVar 1))) (mAnd (mTest (mOp2 dEq (mOp2 dIx (mVar 0) (mRet (.int 0))) (mRet (.str "0")))) (mTest (mOp2 dNe (mVar 0) (mRet (.str "0"))))))) xNo
    (xRaise "NoText" (mCons (mRet (.str "this is no number, or not one that can stand here")) mNil))
    xNo)
  xNo)
noncomputable def fx_read_figures : List D → Option Str := runX 2 2 x_read_figures
theorem nx_read_figures : runsX 2 fx_read_figures := runX_n
theorem ok_read_figures (T : Txt K mg a) : FnOk P w K mg base (CX1 P w) 2 a.f_read_figures a.fd_read_figures ["text", "most"] (spPX K false 2 f_read_figures fx_read_figures) := by
  have G_is_made_of := ok_is_made_of (P := P) (w := w) (base := base) T
  have B_is_made_of := T.B_is_made_of
  refine T.F_read_figures.okX sc_read_figures (fun vs H Q E h => spPX_len h) (fun cdv A outer s H vs Q E hr h => ?_)
  refine ⟨_, (pss_cons (ps_if (PW.pt (pw_or (pt_not (pt_val (pe_call G_is_made_of (hr.mono (by decide)) (by rfl) T.mg_is_made_of T.kp_is_made_of B_is_made_of .nil pass0 (pa_cons (pv 0) (pa_cons (pe_glob (v := .str "0123456789") (by rfl) T.mg_FIGURES ⟨_, rfl⟩) pa_nil))))) (pw_or (pt_cmpR op_gt (pe_callB call_len_str (by rfl) T.z_len (by rfl) (pa_cons (pv 0) pa_nil)) (pv 1) (nomark _)) (pw_or1 (PW.pt (pw_and (pt_cmpR (op_eqD (K := K) rfl hr.units) (pe_ix (ix_seqK (K := K) rfl) (pv 0) pe_int (fun _ _ => rfl)) pe_str (nomark _)) (pw_and1 (pt_cmpR (op_neD (K := K) rfl hr.units) (pv 0) pe_str (nomark _))))))))) (pss_one (ps_raise newX rfl (by rfl) T.mg_NoText T.ex_NoText PySem.F.excBase_ValueError (pa_cons pe_str pa_nil))) pss_nil)
      (pss_one (ps_ret (pe_callTy call_intT (by rfl) T.z_int (by rfl) (pa_cons (pv 0) pa_nil))))), ?_⟩
  exact spPX_body (O' := []) (Nms := ["text", "most"]) (f := b_read_figures) (fx := x_read_figures) (by
      unfold b_read_figures
      exact (ms_seq (O1 := []) (ms_if (mt_or (mt_not (mt_val (me_callP n_is_made_of (ma_cons (me_var (i := 0) (by decide)) (ma_cons me_str ma_nil))))) (mt_or (mt_test (me_opB os_b0 (me_call1 cs_lenS mb_var) mb_var)) (mt_and (mt_test (me_opB os_eq (me_op op_ix (me_var (i := 0) (by decide)) me_int) me_str.mb)) (mt_test (me_opB os_ne (me_var (i := 0) (by decide)) me_str.mb))))) ms_raise (ms_nil rfl))
      (ms_ret rfl (me_call1 cs_intT mb_var) rfl))) (by
      unfold x_read_figures
      exact (msx_seq (O1 := []) (ms_if (mt_or (mt_not (mt_val (me_callP n_is_made_of (ma_cons (me_var (i := 0) (by decide)) (ma_cons me_str ma_nil))))) (mt_or (mt_test (me_opB os_b0 (me_call1 cs_lenS mb_var) mb_var)) (mt_and (mt_test (me_opB os_eq (me_op op_ix (me_var (i := 0) (by decide)) me_int) me_str.mb)) (mt_test (me_opB os_ne (me_var (i := 0) (by decide)) me_str.mb))))) ms_raise (ms_nil rfl)) (msx_if (mt_or (mt_not (mt_val (me_callP n_is_made_of (ma_cons (me_var (i := 0) (by decide)) (ma_cons me_str ma_nil))))) (mt_or (mt_test (me_opB os_b0 (me_call1 cs_lenS mb_var) mb_var)) (mt_and (mt_test (me_opB os_eq (me_op op_ix (me_var (i := 0) (by decide)) me_int) me_str.mb)) (mt_test (me_opB os_ne (me_var (i := 0) (by decide)) me_str.mb))))) mtx_no (msxa_raise T.ns_NoText (ma_cons me_str ma_nil)).g msx_no)
      msx_no)) h
noncomputable def b_read_number : Rho → Option Out :=
  (sSeq (sDrop (mCall f_check_text (mCons (mVar 0) mNil)))
  (sSeq (sIf (mNot (mTest (mOp2 (dSM gStartswith) (mVar 0) (mRet (.str "-")))))
    (sRet (mCall f_read_figures (mCons (mVar 0) (mCons (mRet (.int (60))) mNil))))
    sNil)
  (sSeq (sSet 1 (mCall f_read_figures (mCons (mSlS (mVar 0) (mPart (mRet (.int 1))) (mRet none)) (mCons (mRet (.int (60))) mNil))))
  (sSeq (sIf (mTest (mOp2 dEq (mVar 1) (mRet (.int 0))))
    (fun _ => none)
    sNil)
  (sRet (mOp1 dNeg (mVar 1)))))))
noncomputable def f_read_number : List D → Option D := runP false 1 2 b_read_number
theorem n_read_number : runsN 1 f_read_number := runP_n
noncomputable def x_read_number : Xr :=
  (xSeq (sDrop (mCall f_check_text (mCons (mVar 0) mNil))) (xCall fx_check_text (mCons (mVar 0) mNil) xNo)
  (xSeq (sIf (mNot (mTest (mOp2 (dSM gStartswith) (mVar 0) (mRet (.str "-")))))
    (sRet (mCall f_read_figures (mCons (mVar 0) (mCons (mRet (.int (60))) mNil))))
    sNil) (xIf (mNot (mTest (mOp2 (dSM gStartswith) (mVar 0) (mRet (.str "-"))))) xNo
    (xCall fx_read_figures (mCons (mVar 0) (mCons (mRet (.int (60))) mNil)) xNo)
    xNo)
  (xSeq (sSet 1 (mCall f_read_figures (mCons (mSlS (mVar 0) (mPart (mRet (.int 1))) (mRet none)) (mCons (mRet (.int (60))) mNil)))) (xCall fx_read_figures (mCons (mSlS (mVar 0) (mPart (mRet (.int 1))) (mRet none)) (mCons (mRet (.int (60))) mNil)) xNo)
  (xSeq (sIf (mTest (mOp2 dEq (mVar 1) (mRet (.int 0))))
    (fun _ => none)
    sNil) (xIf (mTest (mOp2 dEq (mVar 1) (mRet (.int 0)))) xNo
    (xRaise "NoText" (mCons (mRet (.str "0 is written without a - ahead")) mNil))
    xNo)
  xNo))))
noncomputable def fx_read_number : List D → Option Str := runX 1 2 x_read_number
theorem nx_read_number : runsX 1 fx_read_number := runX_n
theorem ok_read_number (T : Txt K mg a) : FnOk P w K mg base (CX1 P w) 3 a.f_read_number a.fd_read_number ["text"] (spPX K false 1 f_read_number fx_read_number) := by
  have G_check_text := ok_check_text (P := P) (w := w) (base := base) T
  have B_check_text := T.B_check_text
  have G_read_figures := ok_read_figures (P := P) (w := w) (base := base) T
  have B_read_figures := T.B_read_figures
  refine T.F_read_number.okX sc_read_number (fun vs H Q E h => spPX_len h) (fun cdv A outer s H vs Q E hr h => ?_)
  refine ⟨_, (pss_cons (ps_expr (pe_call G_check_text (hr.mono (by decide)) (by rfl) T.mg_check_text T.kp_check_text B_check_text .nil passX (pa_cons (pv 0) pa_nil)))
      (pss_cons (ps_if (pt_not (pt_val (pe_bm PySem.F.plainAttrs_str PySem.F.slot_str_startswith PySem.F.type_str_startswith mt_startswith (pv 0) (pa_cons pe_str pa_nil)))) (pss_one (ps_ret (pe_call G_read_figures (hr.mono (by decide)) (by rfl) T.mg_read_figures T.kp_read_figures B_read_figures .nil passX (pa_cons (pv 0) (pa_cons (pe_glob (v := .int (60)) (by rfl) T.mg_MOST_FIGURES ⟨_, rfl⟩) pa_nil))))) pss_nil)
      (pss_cons (ps_set (i := 1) sc_read_number.nd rfl (by first | exact Or.inl rfl | exact Or.inr rfl) (pe_call G_read_figures (hr.mono (by decide)) (by rfl) T.mg_read_figures T.kp_read_figures B_read_figures .nil passX (pa_cons (pe_slice sl_str (pv 0) (po_some pe_int) po_none) (pa_cons (pe_glob (v := .int (60)) (by rfl) T.mg_MOST_FIGURES ⟨_, rfl⟩) pa_nil))))
      (pss_cons (ps_if (pt_cmpR (op_eqD (K := K) rfl hr.units) (pv 1) pe_int (nomark _)) (pss_one (ps_raise newX rfl (by rfl) T.mg_NoText T.ex_NoText PySem.F.excBase_ValueError (pa_cons pe_str pa_nil))) pss_nil)
      (pss_one (ps_ret (pe_un un_neg (pv 1)))))))), ?_⟩
  exact spPX_body (O' := []) (Nms := ["text", "number"]) (f := b_read_number) (fx := x_read_number) (by
      unfold b_read_number
      exact (ms_seq (O1 := []) (ms_expr (me_callX n_check_text (ma_cons (me_var (i := 0) (by decide)) ma_nil)) rfl)
      (ms_seq (O1 := []) (ms_if (mt_not (mt_val (me_sm sm_startswith (me_var (i := 0) (by decide)) me_str))) (ms_ret rfl (me_callX n_read_figures (ma_cons (me_var (i := 0) (by decide)) (ma_cons me_int ma_nil))) rfl) (ms_nil rfl))
      (ms_seq (O1 := []) (ms_set (me_callX n_read_figures (ma_cons (me_sliceS (me_var (i := 0) (by decide)) (mo_some me_int) mo_none) (ma_cons me_int ma_nil))) rfl (by decide))
      (ms_seq (O1 := []) (ms_if (mt_test (me_opB os_eq (me_var (i := 1) (by decide)) me_int.mb)) ms_raise (ms_nil rfl))
      (ms_ret rfl (me_neg (me_var (i := 1) (by decide))) rfl)))))) (by
      unfold x_read_number
      exact (msx_seq (O1 := []) (ms_expr (me_callX n_check_text (ma_cons (me_var (i := 0) (by decide)) ma_nil)) rfl) (msxa_expr (mx_call nx_check_text (ma_cons (me_var (i := 0) (by decide)) ma_nil) max_no)).g
      (msx_seq (O1 := []) (ms_if (mt_not (mt_val (me_sm sm_startswith (me_var (i := 0) (by decide)) me_str))) (ms_ret rfl (me_callX n_read_figures (ma_cons (me_var (i := 0) (by decide)) (ma_cons me_int ma_nil))) rfl) (ms_nil rfl)) (msx_if (mt_not (mt_val (me_sm sm_startswith (me_var (i := 0) (by decide)) me_str))) mtx_no (msxa_ret (mx_call nx_read_figures (ma_cons (me_var (i := 0) (by decide)) (ma_cons me_int ma_nil)) max_no)).g msx_no)
      (msx_seq (O1 := []) (ms_set (me_callX n_read_figures (ma_cons (me_sliceS (me_var (i := 0) (by decide)) (mo_some me_int) mo_none) (ma_cons me_int ma_nil))) rfl (by decide)) (msxa_asg (mx_call nx_read_figures (ma_cons (me_sliceS (me_var (i := 0) (by decide)) (mo_some me_int) mo_none) (ma_cons me_int ma_nil)) max_no)).g
      (msx_seq (O1 := []) (ms_if (mt_test (me_opB os_eq (me_var (i := 1) (by decide)) me_int.mb)) ms_raise (ms_nil rfl)) (msx_if (mt_test (me_opB os_eq (me_var (i := 1) (by decide)) me_int.mb)) mtx_no (msxa_raise T.ns_NoText (ma_cons me_str ma_nil)).g msx_no)
      msx_no))))) h
noncomputable def b_read_bits : Rho → Option Out :=
  (sSeq (sIf (mNot (mTest (mCall f_is_made_of (mCons (mVar 0) (mCons (mRet (.str "01")) mNil)))))
    (fun _ => none)
    sNil)
  (sRet (mOf (mComp 1 [] none (mSigns (mVar 0)) (gSet 0)
      (mRet true) (mOp1 dIntT (mVar 0))))))
noncomputable def f_read_bits : List D → Option D := runP false 1 1 b_read_bits
theorem n_read_bits : runsN 1 f_read_bits := runP_n
noncomputable def x_read_bits : Xr :=
  (xSeq (sIf (mNot (mTest (mCall f_is_made_of (mCons (mVar 0) (mCons (mRet (.str "01")) mNil)))))
    (fun _ => none)
    sNil) (xIf (mNot (mTest (mCall f_is_made_of (mCons (mVar 0) (mCons (mRet (.str "01")) mNil))))) xNo
    (xRaise "NoText" (mCons (mRet (.str "these are no bits")) mNil))
    xNo)
  xNo)
noncomputable def fx_read_bits : List D → Option Str := runX 1 1 x_read_bits
theorem nx_read_bits : runsX 1 fx_read_bits := runX_n
theorem ok_read_bits (T : Txt K mg a) : FnOk P w K mg base (CX1 P w) 2 a.f_read_bits a.fd_read_bits ["text"] (spPX K false 1 f_read_bits fx_read_bits) := by
  have G_is_made_of := ok_is_made_of (P := P) (w := w) (base := base) T
  have B_is_made_of := T.B_is_made_of
  refine T.F_read_bits.okX sc_read_bits (fun vs H Q E h => spPX_len h) (fun cdv A outer s H vs Q E hr h => ?_)
  refine ⟨_, (pss_cons (ps_if (pt_not (pt_val (pe_call G_is_made_of (hr.mono (by decide)) (by rfl) T.mg_is_made_of T.kp_is_made_of B_is_made_of .nil pass0 (pa_cons (pv 0) (pa_cons pe_str pa_nil))))) (pss_one (ps_raise newX rfl (by rfl) T.mg_NoText T.ex_NoText PySem.F.excBase_ValueError (pa_cons pe_str pa_nil))) pss_nil)
      (pss_one (ps_ret (pe_comp (sc := defScope s_read_bits) (N0 := ["text"]) rfl rfl rfl (show compOk _ _ ["sign"] 1 [] _ = true by decide +kernel) (pi_str (pv 0)) (fun _ _ _ _ _ => (pg_name (i := 0) (show List.Nodup (["sign"] : List Str) from (by decide +kernel)) rfl (Or.inl rfl))) (own_name (by decide)) (fun _ _ _ _ _ => pif_nil) (fun _ _ _ _ _ => (pe_callTy call_intT (by rfl) T.z_int (by rfl) (pa_cons (pv 0) pa_nil))))))), ?_⟩
  exact spPX_body (O' := []) (Nms := ["text"]) (f := b_read_bits) (fx := x_read_bits) (by
      unfold b_read_bits
      exact (ms_seq (O1 := []) (ms_if (mt_not (mt_val (me_callP n_is_made_of (ma_cons (me_var (i := 0) (by decide)) (ma_cons me_str ma_nil))))) ms_raise (ms_nil rfl))
      (ms_ret rfl (me_new (mn_comp (bw := none) (mi_str (me_var (i := 0) (by decide))) (mg_name (i := 0) (by decide)) mt_yes (me_call1 cs_intT mb_var))) rfl))) (by
      unfold x_read_bits
      exact (msx_seq (O1 := []) (ms_if (mt_not (mt_val (me_callP n_is_made_of (ma_cons (me_var (i := 0) (by decide)) (ma_cons me_str ma_nil))))) ms_raise (ms_nil rfl)) (msx_if (mt_not (mt_val (me_callP n_is_made_of (ma_cons (me_var (i := 0) (by decide)) (ma_cons me_str ma_nil))))) mtx_no (msxa_raise T.ns_NoText (ma_cons me_str ma_nil)).g msx_no)
      msx_no)) h
noncomputable def b_read_word : Rho → Option Out :=
  (sSeq (sDrop (mCall f_check_text (mCons (mVar 0) mNil)))
  (sRet (mIf (mTest (mOp2 dEq (mVar 0) (mRet (.str "-")))) (mOf (mLst mNil)) (mCall f_read_bits (mCons (mVar 0) mNil)))))
noncomputable def f_read_word : List D → Option D := runP false 1 1 b_read_word
theorem n_read_word : runsN 1 f_read_word := runP_n
noncomputable def x_read_word : Xr :=
  (xSeq (sDrop (mCall f_check_text (mCons (mVar 0) mNil))) (xCall fx_check_text (mCons (mVar 0) mNil) xNo)
  (xIf (mTest (mOp2 dEq (mVar 0) (mRet (.str "-")))) xNo xNo (xCall fx_read_bits (mCons (mVar 0) mNil) xNo)))
noncomputable def fx_read_word : List D → Option Str := runX 1 1 x_read_word
theorem nx_read_word : runsX 1 fx_read_word := runX_n
theorem ok_read_word (T : Txt K mg a) : FnOk P w K mg base (CX1 P w) 3 a.f_read_word a.fd_read_word ["text"] (spPX K false 1 f_read_word fx_read_word) := by
  have G_check_text := ok_check_text (P := P) (w := w) (base := base) T
  have B_check_text := T.B_check_text
  have G_read_bits := ok_read_bits (P := P) (w := w) (base := base) T
  have B_read_bits := T.B_read_bits
  refine T.F_read_word.okX sc_read_word (fun vs H Q E h => spPX_len h) (fun cdv A outer s H vs Q E hr h => ?_)
  refine ⟨_, (pss_cons (ps_expr (pe_call G_check_text (hr.mono (by decide)) (by rfl) T.mg_check_text T.kp_check_text B_check_text .nil passX (pa_cons (pv 0) pa_nil)))
      (pss_one (ps_ret (pe_ifExp (pt_cmpR (op_eqD (K := K) rfl hr.units) (pv 0) pe_str (nomark _)) (pe_lst pa_nil) (pe_call G_read_bits (hr.mono (by decide)) (by rfl) T.mg_read_bits T.kp_read_bits B_read_bits .nil passX (pa_cons (pv 0) pa_nil)))))), ?_⟩
  exact spPX_body (O' := []) (Nms := ["text"]) (f := b_read_word) (fx := x_read_word) (by
      unfold b_read_word
      exact (ms_seq (O1 := []) (ms_expr (me_callX n_check_text (ma_cons (me_var (i := 0) (by decide)) ma_nil)) rfl)
      (ms_ret rfl (me_if (mt_test (me_opB os_eq (me_var (i := 0) (by decide)) me_str.mb)) (me_new (mn_lst ma_nil)) (me_callX n_read_bits (ma_cons (me_var (i := 0) (by decide)) ma_nil))) rfl))) (by
      unfold x_read_word
      exact (msx_seq (O1 := []) (ms_expr (me_callX n_check_text (ma_cons (me_var (i := 0) (by decide)) ma_nil)) rfl) (msxa_expr (mx_call nx_check_text (ma_cons (me_var (i := 0) (by decide)) ma_nil) max_no)).g
      (msxa_ret (mx_ifE (mt_test (me_opB os_eq (me_var (i := 0) (by decide)) me_str.mb)) mx_no (mx_call nx_read_bits (ma_cons (me_var (i := 0) (by decide)) ma_nil) max_no))).g)) h
noncomputable def b_shown_bits : Rho → Option Out :=
  (sRet (mOp2 dJoin (mRet (.str "")) (mOf (mComp 1 [] none (mSeq (mVar 0)) (gSet 0)
      (mRet true) (mOp1 dStr (mVar 0))))))
noncomputable def f_shown_bits : List D → Option D := runP false 1 1 b_shown_bits
theorem n_shown_bits : runsN 1 f_shown_bits := runP_n
theorem ok_shown_bits (T : Txt K mg a) : FnOk P w K mg base CX0 1 a.f_shown_bits a.fd_shown_bits ["bits"] (spP K false 1 f_shown_bits) := by
  refine T.F_shown_bits.ok sc_shown_bits (fun vs H Q E h => ?_) (fun cdv A outer s H vs Q E hr h => ?_)
  · exact h.1
  · refine ⟨_, (pss_one (ps_ret (pe_bm PySem.F.plainAttrs_str PySem.F.slot_str_join PySem.F.type_str_join (mt_joinS (K := K) rfl) pe_str (pa_cons (pe_comp (sc := defScope s_shown_bits) (N0 := ["bits"]) rfl rfl rfl (show compOk _ _ ["bit"] 1 [] _ = true by decide +kernel) (pi_seqK (K := K) rfl (pv 0)) (fun _ _ _ _ _ => (pg_name (i := 0) (show List.Nodup (["bit"] : List Str) from (by decide +kernel)) rfl (Or.inl rfl))) (own_name (by decide)) (fun _ _ _ _ _ => pif_nil) (fun _ _ _ _ _ => (pe_callTy call_strI (by rfl) T.z_str (by rfl) (pa_cons (pv 0) pa_nil)))) pa_nil)))), ?_⟩
    exact spP_body (O' := []) (Nms := ["bits"]) (f := b_shown_bits) (by
      unfold b_shown_bits
      exact (ms_ret rfl (me_join me_str (me_new (mn_comp (bw := none) (mi_seq (me_var (i := 0) (by decide))) (mg_name (i := 0) (by decide)) mt_yes (me_call1 cs_str mb_var)))) rfl)) h
noncomputable def b_shown_word : Rho → Option Out :=
  (sRet (mIf (mTest (mOp2 dGt (mOp1 dLen (mVar 0)) (mRet (.int 0)))) (mCall f_shown_bits (mCons (mVar 0) mNil)) (mRet (.str "-"))))
noncomputable def f_shown_word : List D → Option D := runP false 1 1 b_shown_word
theorem n_shown_word : runsN 1 f_shown_word := runP_n
theorem ok_shown_word (T : Txt K mg a) : FnOk P w K mg base CX0 2 a.f_shown_word a.fd_shown_word ["word"] (spP K false 1 f_shown_word) := by
  have G_shown_bits := ok_shown_bits (P := P) (w := w) (base := base) T
  have B_shown_bits := T.B_shown_bits
  refine T.F_shown_word.ok sc_shown_word (fun vs H Q E h => ?_) (fun cdv A outer s H vs Q E hr h => ?_)
  · exact h.1
  · refine ⟨_, (pss_one (ps_ret (pe_ifExp (pt_cmpR op_gt (pe_callB (call_lenK (K := K) rfl) (by rfl) T.z_len (by rfl) (pa_cons (pv 0) pa_nil)) pe_int (nomark _)) (pe_call G_shown_bits (hr.mono (by decide)) (by rfl) T.mg_shown_bits T.kp_shown_bits B_shown_bits .nil pass0 (pa_cons (pv 0) pa_nil)) pe_str))), ?_⟩
    exact spP_body (O' := []) (Nms := ["word"]) (f := b_shown_word) (by
      unfold b_shown_word
      exact (ms_ret rfl (me_if (mt_test (me_opB os_b0 (me_call1 cs_len mb_var) me_int.mb)) (me_callP n_shown_bits (ma_cons (me_var (i := 0) (by decide)) ma_nil)) me_str) rfl)) h
noncomputable def b__law_next : Rho → Option Out :=
  (sSeq (sSetI 0 (mOp2 dMod (mOp2 dAdd (mOp2 dMulG (mIxO 0 (mRet (.int 0))) (mRet (.int 1181783497276652981))) (mRet (.int 12345678910987))) (mOp2 dSub (mOp2 dPow (mRet (.int 2)) (mRet (.int 61))) (mRet (.int 1)))) (mRet (.int 0)))
  (sRet (mOp2 dMod (mOp2 dDiv (mIxO 0 (mRet (.int 0))) (mRet (.int 65537))) (mVar 1))))
noncomputable def f__law_next : List D → List D → Option (D × List D) := runS false 2 2 b__law_next
theorem n__law_next : runsS 2 f__law_next := runS_n
theorem ok__law_next (T : Txt K mg a) : FnOk P w K mg base CX0 1 a.f__law_next a.fd__law_next ["_law_state", "_law_many"] (spS K false 2 f__law_next) := by
  refine T.F__law_next.ok sc__law_next (fun vs H Q E h => ?_) (fun cdv A outer s H vs Q E hr h => ?_)
  · exact h.1
  · refine ⟨_, (pss_cons (ps_asg (pe_op op_mod (pe_op (op_addG (K := K) rfl) (pe_op (op_mulG (K := K) rfl) (pe_ix (ix_seqK (K := K) rfl) (pv 0) pe_int (fun _ _ => rfl)) pe_int) pe_int) (pe_op op_sub (pe_op op_pow pe_int pe_int) pe_int)) (pg_sub (pv 0) pe_int set_list))
      (pss_one (ps_ret (pe_op op_mod (pe_op op_fdiv (pe_ix (ix_seqK (K := K) rfl) (pv 0) pe_int (fun _ _ => rfl)) pe_int) (pv 1))))), ?_⟩
    exact spS_body (O' := []) (Nms := ["_law_state", "_law_many"]) (f := b__law_next) (by
      unfold b__law_next
      exact (ms_seq (O1 := [0]) (ms_setI (by decide) (me_op og_mod (me_op og_add (me_op og_mulG (me_ixO (i := 0) (by decide) me_int) me_int) me_int) (me_op og_sub (me_op og_pow me_int me_int) me_int)) me_int rfl)
      (ms_ret rfl (me_op og_mod (me_op og_div (me_ixO (i := 0) (by decide) me_int) me_int) (me_var (i := 1) (by decide))) rfl))) h
noncomputable def b__law_figures : Rho → Option Out :=
  (sSeq (sSet 2 (mOp2 dIx (mRet (.str "123456789")) (mCallS f__law_next 0 (mCons (mRet (.int 9)) mNil))))
  (sSeq (sFor (mRng1 (mCons (mOp2 dSub (mVar 1) (mRet (.int 1))) mNil)) (gSet 3)
    (sAugS 2 (mOp2 dIx (mRet (.str "0123456789")) (mCallS f__law_next 0 (mCons (mRet (.int 10)) mNil)))))
  (sRet (mVar 2))))
noncomputable def f__law_figures : List D → List D → Option (D × List D) := runS false 2 4 b__law_figures
theorem n__law_figures : runsS 2 f__law_figures := runS_n
theorem ok__law_figures (T : Txt K mg a) : FnOk P w K mg base CX0 2 a.f__law_figures a.fd__law_figures ["_law_state", "_law_many"] (spS K false 2 f__law_figures) := by
  have G__law_next := ok__law_next (P := P) (w := w) (base := base) T
  have B__law_next := T.B__law_next
  refine T.F__law_figures.ok sc__law_figures (fun vs H Q E h => ?_) (fun cdv A outer s H vs Q E hr h => ?_)
  · exact h.1
  · refine ⟨_, (pss_cons (ps_set (i := 2) sc__law_figures.nd rfl (by first | exact Or.inl rfl | exact Or.inr rfl) (pe_ix (ix_seqK (K := K) rfl) pe_str (pe_call G__law_next (hr.mono (by decide)) (by rfl) T.mg__law_next T.kp__law_next B__law_next .nil pass0 (pa_cons (pv 0) (pa_cons pe_int pa_nil))) (fun _ _ => rfl)))
      (pss_cons (ps_for PassesOwn.never rfl (pi_range1 (by rfl) T.z_range (pa_cons (pe_op op_sub (pv 1) pe_int) pa_nil)) (pg_name (i := 3) sc__law_figures.nd rfl (by first | exact Or.inl rfl | exact Or.inr rfl)) (pss_one (ps_aug (i := 2) sc__law_figures.nd rfl (by first | exact Or.inl rfl | exact Or.inr rfl) (pe_ix (ix_seqK (K := K) rfl) pe_str (pe_call G__law_next (hr.mono (by decide)) (by rfl) T.mg__law_next T.kp__law_next B__law_next .nil pass0 (pa_cons (pv 0) (pa_cons pe_int pa_nil))) (fun _ _ => rfl)) ip_str)))
      (pss_one (ps_ret (pv 2))))), ?_⟩
    exact spS_body (O' := []) (Nms := ["_law_state", "_law_many", "_law_text_here", "_law_k"]) (f := b__law_figures) (by
      unfold b__law_figures
      exact (ms_seq (O1 := [0]) (ms_set (me_op op_ix me_str (me_callS (i := 0) n__law_next (by decide) (ma_cons me_int ma_nil))) rfl (by decide))
      (ms_seq (O1 := [0]) (ms_for (O' := [0]) (mi_range1 (ma_cons (me_op og_sub (me_var (i := 1) (by decide)) me_int) ma_nil)) rfl (mg_name (i := 3) (by decide))
      (ms_augS (i := 2) (by decide) (by decide) (me_op op_ix me_str (me_callS (i := 0) n__law_next (by decide) (ma_cons me_int ma_nil))) rfl))
      (ms_ret rfl (me_var (i := 2) (by decide)) rfl)))) h
noncomputable def b__law_bits : Rho → Option Out :=
  (sSeq (sSet 2 (mRet (.str "")))
  (sSeq (sFor (mRng1 (mCons (mVar 1) mNil)) (gSet 3)
    (sAugS 2 (mOp2 dIx (mRet (.str "01")) (mCallS f__law_next 0 (mCons (mRet (.int 2)) mNil)))))
  (sRet (mVar 2))))
noncomputable def f__law_bits : List D → List D → Option (D × List D) := runS false 2 4 b__law_bits
theorem n__law_bits : runsS 2 f__law_bits := runS_n
theorem ok__law_bits (T : Txt K mg a) : FnOk P w K mg base CX0 2 a.f__law_bits a.fd__law_bits ["_law_state", "_law_many"] (spS K false 2 f__law_bits) := by
  have G__law_next := ok__law_next (P := P) (w := w) (base := base) T
  have B__law_next := T.B__law_next
  refine T.F__law_bits.ok sc__law_bits (fun vs H Q E h => ?_) (fun cdv A outer s H vs Q E hr h => ?_)
  · exact h.1
  · refine ⟨_, (pss_cons (ps_set (i := 2) sc__law_bits.nd rfl (by first | exact Or.inl rfl | exact Or.inr rfl) pe_str)
      (pss_cons (ps_for PassesOwn.never rfl (pi_range1 (by rfl) T.z_range (pa_cons (pv 1) pa_nil)) (pg_name (i := 3) sc__law_bits.nd rfl (by first | exact Or.inl rfl | exact Or.inr rfl)) (pss_one (ps_aug (i := 2) sc__law_bits.nd rfl (by first | exact Or.inl rfl | exact Or.inr rfl) (pe_ix (ix_seqK (K := K) rfl) pe_str (pe_call G__law_next (hr.mono (by decide)) (by rfl) T.mg__law_next T.kp__law_next B__law_next .nil pass0 (pa_cons (pv 0) (pa_cons pe_int pa_nil))) (fun _ _ => rfl)) ip_str)))
      (pss_one (ps_ret (pv 2))))), ?_⟩
    exact spS_body (O' := []) (Nms := ["_law_state", "_law_many", "_law_text_here", "_law_k"]) (f := b__law_bits) (by
      unfold b__law_bits
      exact (ms_seq (O1 := [0]) (ms_set me_str rfl (by decide))
      (ms_seq (O1 := [0]) (ms_for (O' := [0]) (mi_range1 (ma_cons (me_var (i := 1) (by decide)) ma_nil)) rfl (mg_name (i := 3) (by decide))
      (ms_augS (i := 2) (by decide) (by decide) (me_op op_ix me_str (me_callS (i := 0) n__law_next (by decide) (ma_cons me_int ma_nil))) rfl))
      (ms_ret rfl (me_var (i := 2) (by decide)) rfl)))) h
noncomputable def b__law_spoiled : Rho → Option Out :=
  (sSeq (sSet 2 (mCallS f__law_next 0 (mCons (mOp2 dAdd (mOp1 dLenS (mVar 1)) (mRet (.int 1))) mNil)))
  (sSeq (sSet 3 (mOp2 dIx (mRet (.str "0123-+ a/.,_Z?\t\n")) (mCallS f__law_next 0 (mCons (mRet (.int 16)) mNil))))
  (sSeq (sSet 4 (mSlS (mVar 1) (mPart (mOp2 dAdd (mVar 2) (mCallS f__law_next 0 (mCons (mRet (.int 2)) mNil)))) (mRet none)))
  (sSeq (sIf (mTest (mOp2 dEq (mCallS f__law_next 0 (mCons (mRet (.int 3)) mNil)) (mRet (.int 0))))
    (sRet (mOp2 dAdd (mSlS (mVar 1) (mRet none) (mPart (mVar 2))) (mVar 4)))
    sNil)
  (sRet (mOp2 dAdd (mOp2 dAdd (mSlS (mVar 1) (mRet none) (mPart (mVar 2))) (mVar 3)) (mVar 4)))))))
noncomputable def f__law_spoiled : List D → List D → Option (D × List D) := runS false 2 5 b__law_spoiled
theorem n__law_spoiled : runsS 2 f__law_spoiled := runS_n
theorem ok__law_spoiled (T : Txt K mg a) : FnOk P w K mg base CX0 2 a.f__law_spoiled a.fd__law_spoiled ["_law_state", "_law_text_here"] (spS K false 2 f__law_spoiled) := by
  have G__law_next := ok__law_next (P := P) (w := w) (base := base) T
  have B__law_next := T.B__law_next
  refine T.F__law_spoiled.ok sc__law_spoiled (fun vs H Q E h => ?_) (fun cdv A outer s H vs Q E hr h => ?_)
  · exact h.1
  · refine ⟨_, (pss_cons (ps_set (i := 2) sc__law_spoiled.nd rfl (by first | exact Or.inl rfl | exact Or.inr rfl) (pe_call G__law_next (hr.mono (by decide)) (by rfl) T.mg__law_next T.kp__law_next B__law_next .nil pass0 (pa_cons (pv 0) (pa_cons (pe_op (op_addG (K := K) rfl) (pe_callB call_len_str (by rfl) T.z_len (by rfl) (pa_cons (pv 1) pa_nil)) pe_int) pa_nil))))
      (pss_cons (ps_set (i := 3) sc__law_spoiled.nd rfl (by first | exact Or.inl rfl | exact Or.inr rfl) (pe_ix (ix_seqK (K := K) rfl) pe_str (pe_call G__law_next (hr.mono (by decide)) (by rfl) T.mg__law_next T.kp__law_next B__law_next .nil pass0 (pa_cons (pv 0) (pa_cons pe_int pa_nil))) (fun _ _ => rfl)))
      (pss_cons (ps_set (i := 4) sc__law_spoiled.nd rfl (by first | exact Or.inl rfl | exact Or.inr rfl) (pe_slice sl_str (pv 1) (po_some (pe_op (op_addG (K := K) rfl) (pv 2) (pe_call G__law_next (hr.mono (by decide)) (by rfl) T.mg__law_next T.kp__law_next B__law_next .nil pass0 (pa_cons (pv 0) (pa_cons pe_int pa_nil))))) po_none))
      (pss_cons (ps_if (pt_cmpR (op_eqD (K := K) rfl hr.units) (pe_call G__law_next (hr.mono (by decide)) (by rfl) T.mg__law_next T.kp__law_next B__law_next .nil pass0 (pa_cons (pv 0) (pa_cons pe_int pa_nil))) pe_int (nomark _)) (pss_one (ps_ret (pe_op (op_addG (K := K) rfl) (pe_slice sl_str (pv 1) po_none (po_some (pv 2))) (pv 4)))) pss_nil)
      (pss_one (ps_ret (pe_op (op_addG (K := K) rfl) (pe_op (op_addG (K := K) rfl) (pe_slice sl_str (pv 1) po_none (po_some (pv 2))) (pv 3)) (pv 4)))))))), ?_⟩
    exact spS_body (O' := []) (Nms := ["_law_state", "_law_text_here", "_law_spot", "_law_sign", "_law_tail"]) (f := b__law_spoiled) (by
      unfold b__law_spoiled
      exact (ms_seq (O1 := [0]) (ms_set (me_callS (i := 0) n__law_next (by decide) (ma_cons (me_op og_add (me_call1 cs_lenS mb_var) me_int) ma_nil)) rfl (by decide))
      (ms_seq (O1 := [0]) (ms_set (me_op op_ix me_str (me_callS (i := 0) n__law_next (by decide) (ma_cons me_int ma_nil))) rfl (by decide))
      (ms_seq (O1 := [0]) (ms_set (me_sliceS (me_var (i := 1) (by decide)) (mo_some (me_op og_add (me_var (i := 2) (by decide)) (me_callS (i := 0) n__law_next (by decide) (ma_cons me_int ma_nil)))) mo_none) rfl (by decide))
      (ms_seq (O1 := [0]) (ms_if (mt_test (me_opB os_eq (me_callS (i := 0) n__law_next (by decide) (ma_cons me_int ma_nil)) me_int.mb)) (ms_ret rfl (me_op og_add (me_sliceS (me_var (i := 1) (by decide)) mo_none (mo_some (me_var (i := 2) (by decide)))) (me_var (i := 4) (by decide))) rfl) (ms_nil rfl))
      (ms_ret rfl (me_op og_add (me_op og_add (me_sliceS (me_var (i := 1) (by decide)) mo_none (mo_some (me_var (i := 2) (by decide)))) (me_var (i := 3) (by decide))) (me_var (i := 4) (by decide))) rfl)))))) h
noncomputable def b__law_text : Rho → Option Out :=
  (sSeq (sSet 1 (mOp2 dIx (mOf (mLst (mCons (mOp2 dAdd (mRet (.int 1)) (mCallS f__law_next 0 (mCons (mRet (.int 3)) mNil))) (mCons (mOp2 dAdd (mRet (.int 1)) (mCallS f__law_next 0 (mCons (mRet (.int 61)) mNil))) mNil)))) (mCallS f__law_next 0 (mCons (mRet (.int 2)) mNil))))
  (sSeq (sSet 2 (mOf (mLst (mCons (mCallS f__law_figures 0 (mCons (mVar 1) mNil)) (mCons (mOp2 dAdd (mRet (.str "-")) (mCallS f__law_figures 0 (mCons (mVar 1) mNil))) (mCons (mCallS f__law_bits 0 (mCons (mOp2 dSub (mVar 1) (mRet (.int 1))) mNil)) (mCons (mRet (.str "-")) (mCons (mRet (.str "0")) mNil))))))))
  (sSeq (sSet 3 (mOp2 dIx (mVar 2) (mCallS f__law_next 0 (mCons (mRet (.int 5)) mNil))))
  (sSeq (sIf (mTest (mOp2 dEq (mCallS f__law_next 0 (mCons (mRet (.int 2)) mNil)) (mRet (.int 0))))
    (sRet (mVar 3))
    sNil)
  (sSeq (sSet 4 (mOf (mLst (mCons (mRet (.str "-0")) (mCons (mRet (.str "")) (mCons (mRet (.str "00")) (mCons (mOp2 dAdd (mOp2 dAdd (mRet (.str "-")) (mRet (.str "0"))) (mVar 3)) (mCons (mRet (.str " ")) (mCons (mOp2 dMulG (mRet (.str "1")) (mRet (.int 61))) (mCons (mOp2 dAdd (mRet (.str "-")) (mOp2 dMulG (mRet (.str "9")) (mRet (.int 61)))) (mCons (mRet (.str "+1")) (mCons (mOp2 dAdd (mVar 3) (mRet (.str "\n"))) (mCons (mOp2 dAdd (mRet (.str "\t")) (mVar 3)) mNil)))))))))))))
  (sRet (mOp2 dIx (mOf (mLst (mCons (mCallS f__law_spoiled 0 (mCons (mVar 3) mNil)) (mCons (mOp2 dIx (mVar 4) (mCallS f__law_next 0 (mCons (mRet (.int 10)) mNil))) mNil)))) (mCallS f__law_next 0 (mCons (mRet (.int 2)) mNil)))))))))
noncomputable def f__law_text : List D → List D → Option (D × List D) := runS false 1 5 b__law_text
theorem n__law_text : runsS 1 f__law_text := runS_n
theorem ok__law_text (T : Txt K mg a) : FnOk P w K mg base CX0 3 a.f__law_text a.fd__law_text ["_law_state"] (spS K false 1 f__law_text) := by
  have G__law_next := ok__law_next (P := P) (w := w) (base := base) T
  have B__law_next := T.B__law_next
  have G__law_bits := ok__law_bits (P := P) (w := w) (base := base) T
  have B__law_bits := T.B__law_bits
  have G__law_figures := ok__law_figures (P := P) (w := w) (base := base) T
  have B__law_figures := T.B__law_figures
  have G__law_spoiled := ok__law_spoiled (P := P) (w := w) (base := base) T
  have B__law_spoiled := T.B__law_spoiled
  refine T.F__law_text.ok sc__law_text (fun vs H Q E h => ?_) (fun cdv A outer s H vs Q E hr h => ?_)
  · exact h.1
  · refine ⟨_, (pss_cons (ps_set (i := 1) sc__law_text.nd rfl (by first | exact Or.inl rfl | exact Or.inr rfl) (pe_ix (ix_seqK (K := K) rfl) (pe_lst (pa_cons (pe_op (op_addG (K := K) rfl) pe_int (pe_call G__law_next (hr.mono (by decide)) (by rfl) T.mg__law_next T.kp__law_next B__law_next .nil pass0 (pa_cons (pv 0) (pa_cons pe_int pa_nil)))) (pa_cons (pe_op (op_addG (K := K) rfl) pe_int (pe_call G__law_next (hr.mono (by decide)) (by rfl) T.mg__law_next T.kp__law_next B__law_next .nil pass0 (pa_cons (pv 0) (pa_cons pe_int pa_nil)))) pa_nil))) (pe_call G__law_next (hr.mono (by decide)) (by rfl) T.mg__law_next T.kp__law_next B__law_next .nil pass0 (pa_cons (pv 0) (pa_cons pe_int pa_nil))) (fun _ _ => rfl)))
      (pss_cons (ps_set (i := 2) sc__law_text.nd rfl (by first | exact Or.inl rfl | exact Or.inr rfl) (pe_lst (pa_cons (pe_call G__law_figures (hr.mono (by decide)) (by rfl) T.mg__law_figures T.kp__law_figures B__law_figures .nil pass0 (pa_cons (pv 0) (pa_cons (pv 1) pa_nil))) (pa_cons (pe_op (op_addG (K := K) rfl) pe_str (pe_call G__law_figures (hr.mono (by decide)) (by rfl) T.mg__law_figures T.kp__law_figures B__law_figures .nil pass0 (pa_cons (pv 0) (pa_cons (pv 1) pa_nil)))) (pa_cons (pe_call G__law_bits (hr.mono (by decide)) (by rfl) T.mg__law_bits T.kp__law_bits B__law_bits .nil pass0 (pa_cons (pv 0) (pa_cons (pe_op op_sub (pv 1) pe_int) pa_nil))) (pa_cons pe_str (pa_cons pe_str pa_nil)))))))
      (pss_cons (ps_set (i := 3) sc__law_text.nd rfl (by first | exact Or.inl rfl | exact Or.inr rfl) (pe_ix (ix_seqK (K := K) rfl) (pv 2) (pe_call G__law_next (hr.mono (by decide)) (by rfl) T.mg__law_next T.kp__law_next B__law_next .nil pass0 (pa_cons (pv 0) (pa_cons pe_int pa_nil))) (fun _ _ => rfl)))
      (pss_cons (ps_if (pt_cmpR (op_eqD (K := K) rfl hr.units) (pe_call G__law_next (hr.mono (by decide)) (by rfl) T.mg__law_next T.kp__law_next B__law_next .nil pass0 (pa_cons (pv 0) (pa_cons pe_int pa_nil))) pe_int (nomark _)) (pss_one (ps_ret (pv 3))) pss_nil)
      (pss_cons (ps_set (i := 4) sc__law_text.nd rfl (by first | exact Or.inl rfl | exact Or.inr rfl) (pe_lst (pa_cons pe_str (pa_cons pe_str (pa_cons pe_str (pa_cons (pe_op (op_addG (K := K) rfl) (pe_op (op_addG (K := K) rfl) pe_str pe_str) (pv 3)) (pa_cons pe_str (pa_cons (pe_op (op_mulG (K := K) rfl) pe_str pe_int) (pa_cons (pe_op (op_addG (K := K) rfl) pe_str (pe_op (op_mulG (K := K) rfl) pe_str pe_int)) (pa_cons pe_str (pa_cons (pe_op (op_addG (K := K) rfl) (pv 3) pe_str) (pa_cons (pe_op (op_addG (K := K) rfl) pe_str (pv 3)) pa_nil))))))))))))
      (pss_one (ps_ret (pe_ix (ix_seqK (K := K) rfl) (pe_lst (pa_cons (pe_call G__law_spoiled (hr.mono (by decide)) (by rfl) T.mg__law_spoiled T.kp__law_spoiled B__law_spoiled .nil pass0 (pa_cons (pv 0) (pa_cons (pv 3) pa_nil))) (pa_cons (pe_ix (ix_seqK (K := K) rfl) (pv 4) (pe_call G__law_next (hr.mono (by decide)) (by rfl) T.mg__law_next T.kp__law_next B__law_next .nil pass0 (pa_cons (pv 0) (pa_cons pe_int pa_nil))) (fun _ _ => rfl)) pa_nil))) (pe_call G__law_next (hr.mono (by decide)) (by rfl) T.mg__law_next T.kp__law_next B__law_next .nil pass0 (pa_cons (pv 0) (pa_cons pe_int pa_nil))) (fun _ _ => rfl))))))))), ?_⟩
    exact spS_body (O' := []) (Nms := ["_law_state", "_law_many", "_law_some", "_law_text_here", "_law_odd"]) (f := b__law_text) (by
      unfold b__law_text
      exact (ms_seq (O1 := [0]) (ms_set (me_op op_ix (me_new (mn_lst (ma_cons (me_op og_add me_int (me_callS (i := 0) n__law_next (by decide) (ma_cons me_int ma_nil))) (ma_cons (me_op og_add me_int (me_callS (i := 0) n__law_next (by decide) (ma_cons me_int ma_nil))) ma_nil)))) (me_callS (i := 0) n__law_next (by decide) (ma_cons me_int ma_nil))) rfl (by decide))
      (ms_seq (O1 := [0]) (ms_set (me_new (mn_lst (ma_cons (me_callS (i := 0) n__law_figures (by decide) (ma_cons (me_var (i := 1) (by decide)) ma_nil)) (ma_cons (me_op og_add me_str (me_callS (i := 0) n__law_figures (by decide) (ma_cons (me_var (i := 1) (by decide)) ma_nil))) (ma_cons (me_callS (i := 0) n__law_bits (by decide) (ma_cons (me_op og_sub (me_var (i := 1) (by decide)) me_int) ma_nil)) (ma_cons me_str (ma_cons me_str ma_nil))))))) rfl (by decide))
      (ms_seq (O1 := [0]) (ms_set (me_op op_ix (me_var (i := 2) (by decide)) (me_callS (i := 0) n__law_next (by decide) (ma_cons me_int ma_nil))) rfl (by decide))
      (ms_seq (O1 := [0]) (ms_if (mt_test (me_opB os_eq (me_callS (i := 0) n__law_next (by decide) (ma_cons me_int ma_nil)) me_int.mb)) (ms_ret rfl (me_var (i := 3) (by decide)) rfl) (ms_nil rfl))
      (ms_seq (O1 := [0]) (ms_set (me_new (mn_lst (ma_cons me_str (ma_cons me_str (ma_cons me_str (ma_cons (me_op og_add (me_op og_add me_str me_str) (me_var (i := 3) (by decide))) (ma_cons me_str (ma_cons (me_op og_mulG me_str me_int) (ma_cons (me_op og_add me_str (me_op og_mulG me_str me_int)) (ma_cons me_str (ma_cons (me_op og_add (me_var (i := 3) (by decide)) me_str) (ma_cons (me_op og_add me_str (me_var (i := 3) (by decide))) ma_nil)))))))))))) rfl (by decide))
      (ms_ret rfl (me_op op_ix (me_new (mn_lst (ma_cons (me_callS (i := 0) n__law_spoiled (by decide) (ma_cons (me_var (i := 3) (by decide)) ma_nil)) (ma_cons (me_op op_ix (me_var (i := 4) (by decide)) (me_callS (i := 0) n__law_next (by decide) (ma_cons me_int ma_nil))) ma_nil)))) (me_callS (i := 0) n__law_next (by decide) (ma_cons me_int ma_nil))) rfl))))))) h
noncomputable def b__law_refused : Rho → Option Out :=
  (sSeq (sSet 3 (mOf (mLst mNil)))
  (sSeq (sTryAs 4 (fun x => tk_WayError.contains x) (sDrop (mOr2 (mCallV 0 "read_number" f_read_number (mCons (mVar 1) mNil)) (mCallV 0 "read_word" f_read_word (mCons (mVar 1) mNil)))) (xOr2 (xCallV 0 "read_number" fx_read_number (mCons (mVar 1) mNil)) (xCallV 0 "read_word" fx_read_word (mCons (mVar 1) mNil)))
    (sSeq (sSet 5 (mOp1 (dIsX (fun x => eb_NoPlace_NoSigns_NoWord_T.lookup x)) (mVar 4)))
  (sSet 3 (mOf (mLst (mCons (mOp1 (dIsX (fun x => eb_NoText.lookup x)) (mVar 4)) (mCons (mOp1 (dIsX (fun x => eb_NoScheme.lookup x)) (mVar 4)) (mCons (mOp1 (dIsX (fun x => eb_ValueError.lookup x)) (mVar 4)) (mCons (mVar 5) mNil)))))))))
  (sRet (mOp2 dEq (mVar 3) (mOp2 dAdd (mVar 2) (mOf (mLst (mCons (mRet (.bl true)) (mCons (mRet (.bl false)) mNil)))))))))
noncomputable def f__law_refused : List D → Option D := runP false 3 6 b__law_refused
theorem n__law_refused : runsN 3 f__law_refused := runP_n
theorem ok__law_refused (T : Txt K mg a) : FnOk P w K mg base CX0 4 a.f__law_refused a.fd__law_refused ["_law_reader", "_law_text_here", "_law_both"] (spP K false 3 f__law_refused) := by
  have G_read_word := ok_read_word (P := P) (w := w) (base := base) T
  have B_read_word := T.B_read_word
  have G_read_number := ok_read_number (P := P) (w := w) (base := base) T
  have B_read_number := T.B_read_number
  refine T.F__law_refused.ok sc__law_refused (fun vs H Q E h => ?_) (fun cdv A outer s H vs Q E hr h => ?_)
  · exact h.1
  · refine ⟨_, (pss_cons (ps_set (i := 3) sc__law_refused.nd rfl (by first | exact Or.inl rfl | exact Or.inr rfl) (pe_lst pa_nil))
      (pss_cons (ps_try_as (i := 4) rfl rfl rfl sc__law_refused.nd rfl rfl (by rfl) T.mg_WayError (fun xe pins σ E hp => (at_one (at_expr (PEat.or (at_callV G_read_number (hr.mono (by decide)) (pv 0) T.kp_read_number B_read_number .nil hp (pa_cons (pv 1) pa_nil)) (at_callV G_read_word (hr.mono (by decide)) (pv 0) T.kp_read_word B_read_word .nil hp (pa_cons (pv 1) pa_nil)))))) (fun ea => (pss_cons (ps_set (i := 5) sc__law_refused.nd rfl (by first | exact Or.inl rfl | exact Or.inr rfl) (pe_callB (call_isX (K := K) rfl) (by rfl) T.z_isinstance (by rfl) (pa_cons (pv 4) (pa_cons (pe_tup (pa_cons (pe_glob (v := .ref a.c_NoPlace) (by rfl) T.mg_NoPlace rfl) (pa_cons (pe_glob (v := .ref a.c_NoSigns) (by rfl) T.mg_NoSigns rfl) (pa_cons (pe_glob (v := .ref a.c_NoWord) (by rfl) T.mg_NoWord rfl) pa_nil)))) pa_nil))))
      (pss_one (ps_set (i := 3) sc__law_refused.nd rfl (by first | exact Or.inl rfl | exact Or.inr rfl) (pe_lst (pa_cons (pe_callB (call_isX (K := K) rfl) (by rfl) T.z_isinstance (by rfl) (pa_cons (pv 4) (pa_cons (pe_glob (v := .ref a.c_NoText) (by rfl) T.mg_NoText rfl) pa_nil))) (pa_cons (pe_callB (call_isX (K := K) rfl) (by rfl) T.z_isinstance (by rfl) (pa_cons (pv 4) (pa_cons (pe_glob (v := .ref a.c_NoScheme) (by rfl) T.mg_NoScheme rfl) pa_nil))) (pa_cons (pe_callB (call_isX (K := K) rfl) (by rfl) T.z_isinstance (by rfl) (pa_cons (pv 4) (pa_cons (pe_bltn (v := .ty "ValueError") (by rfl) T.z_ValueError (by rfl) rfl) pa_nil))) (pa_cons (pv 5) pa_nil))))))))))
      (pss_one (ps_ret (pe_cmpR (op_eqD (K := K) rfl hr.units) (pv 3) (pe_op (op_addG (K := K) rfl) (pv 2) (pe_lst (pa_cons pe_bl (pa_cons pe_bl pa_nil)))) (nomark _)))))), ?_⟩
    exact spP_body (O' := []) (Nms := ["_law_reader", "_law_text_here", "_law_both", "_law_found", "e", "_law_others"]) (f := b__law_refused) (by
      unfold b__law_refused
      exact (ms_seq (O1 := []) (ms_set (me_new (mn_lst ma_nil)) rfl (by decide))
      (ms_seq (O1 := []) (ms_try_as (km_WayError T) (fun E => (ms_expr (me_or2 (me_callV T.nsf_read_number (by decide) n_read_number (ma_cons (me_var (i := 1) (by decide)) ma_nil)) (me_callV T.nsf_read_word (by decide) n_read_word (ma_cons (me_var (i := 1) (by decide)) ma_nil))) rfl)) (fun E => (msxa_expr (mx_or2 (mx_callV T.nsf_read_number (by decide) nx_read_number (ma_cons (me_var (i := 1) (by decide)) ma_nil)) (mx_callV T.nsf_read_word (by decide) nx_read_word (ma_cons (me_var (i := 1) (by decide)) ma_nil))))) (ms_seq (O1 := []) (ms_set (me_isXT (ys := [.ref a.c_NoPlace, .ref a.c_NoSigns, .ref a.c_NoWord]) rfl (by show 3 ≤ sizeLine; decide) (ke_NoPlace_NoSigns_NoWord_T T) (me_var (i := 4) (by decide))) rfl (by decide))
      (ms_set (me_new (mn_lst (ma_cons (me_isX (y := .ref a.c_NoText) rfl (ke_NoText T) (me_var (i := 4) (by decide))) (ma_cons (me_isX (y := .ref a.c_NoScheme) rfl (ke_NoScheme T) (me_var (i := 4) (by decide))) (ma_cons (me_isX (y := .ty "ValueError") rfl (ke_ValueError T) (me_var (i := 4) (by decide))) (ma_cons (me_var (i := 5) (by decide)) ma_nil)))))) rfl (by decide))) (by decide) (by decide) (by first | decide | simp) (by first | decide | simp))
      (ms_ret rfl (me_opB os_eq (me_var (i := 3) (by decide)) (me_op og_add (me_var (i := 2) (by decide)) (me_new (mn_lst (ma_cons me_bl (ma_cons me_bl ma_nil))))).mb) rfl)))) h
noncomputable def b__law_writes_number : Rho → Option Out :=
  (sSeq (sSet 1 (mVar 0))
  (sSeq (sIf (mTest (mOp2 dEq (mSlS (mVar 0) (mRet none) (mPart (mRet (.int 1)))) (mRet (.str "-"))))
    (sSet 1 (mSlS (mVar 0) (mPart (mRet (.int 1))) (mRet none)))
    sNil)
  (sSeq (sIf (mOr (mTest (mOp2 dEq (mVar 1) (mRet (.str "")))) (mOr (mTest (mOp2 dGt (mOp1 dLenS (mVar 1)) (mRet (.int 60)))) (mTest (mOp2 dNe (mOp2 (dSM gStrip) (mVar 1) (mRet (.str "0123456789"))) (mRet (.str ""))))))
    (sRet (mRet (.bl false)))
    sNil)
  (sRet (mOrV (mAndV (mOp2 dEq (mVar 1) (mRet (.str "0"))) (mOp2 dEq (mVar 0) (mRet (.str "0")))) (mOp2 dNe (mOp2 dIx (mVar 1) (mRet (.int 0))) (mRet (.str "0"))))))))
noncomputable def f__law_writes_number : List D → Option D := runP false 1 2 b__law_writes_number
theorem n__law_writes_number : runsN 1 f__law_writes_number := runP_n
theorem ok__law_writes_number (T : Txt K mg a) : FnOk P w K mg base CX0 1 a.f__law_writes_number a.fd__law_writes_number ["_law_text_here"] (spP K false 1 f__law_writes_number) := by
  refine T.F__law_writes_number.ok sc__law_writes_number (fun vs H Q E h => ?_) (fun cdv A outer s H vs Q E hr h => ?_)
  · exact h.1
  · refine ⟨_, (pss_cons (ps_set (i := 1) sc__law_writes_number.nd rfl (by first | exact Or.inl rfl | exact Or.inr rfl) (pv 0))
      (pss_cons (ps_if (pt_cmpR (op_eqD (K := K) rfl hr.units) (pe_slice sl_str (pv 0) po_none (po_some pe_int)) pe_str (nomark _)) (pss_one (ps_set (i := 1) sc__law_writes_number.nd rfl (by first | exact Or.inl rfl | exact Or.inr rfl) (pe_slice sl_str (pv 0) (po_some pe_int) po_none))) pss_nil)
      (pss_cons (ps_if (PW.pt (pw_or (pt_cmpR (op_eqD (K := K) rfl hr.units) (pv 1) pe_str (nomark _)) (pw_or (pt_cmpR op_gt (pe_callB call_len_str (by rfl) T.z_len (by rfl) (pa_cons (pv 1) pa_nil)) pe_int (nomark _)) (pw_or1 (pt_cmpR (op_neD (K := K) rfl hr.units) (pe_bm PySem.F.plainAttrs_str PySem.F.slot_str_strip PySem.F.type_str_strip mt_strip (pv 1) (pa_cons pe_str pa_nil)) pe_str (nomark _)))))) (pss_one (ps_ret pe_bl)) pss_nil)
      (pss_one (ps_ret (pe_or (pe_and (pe_cmpR (op_eqD (K := K) rfl hr.units) (pv 1) pe_str (nomark _)) (pe_one (pe_cmpR (op_eqD (K := K) rfl hr.units) (pv 0) pe_str (nomark _)))) (pe_one (pe_cmpR (op_neD (K := K) rfl hr.units) (pe_ix (ix_seqK (K := K) rfl) (pv 1) pe_int (fun _ _ => rfl)) pe_str (nomark _))))))))), ?_⟩
    exact spP_body (O' := []) (Nms := ["_law_text_here", "_law_figures_here"]) (f := b__law_writes_number) (by
      unfold b__law_writes_number
      exact (ms_seq (O1 := []) (ms_set (me_var (i := 0) (by decide)) rfl (by decide))
      (ms_seq (O1 := []) (ms_if (mt_test (me_opB os_eq (me_sliceS (me_var (i := 0) (by decide)) mo_none (mo_some me_int)) me_str.mb)) (ms_set (me_sliceS (me_var (i := 0) (by decide)) (mo_some me_int) mo_none) rfl (by decide)) (ms_nil rfl))
      (ms_seq (O1 := []) (ms_if (mt_or (mt_test (me_opB os_eq (me_var (i := 1) (by decide)) me_str.mb)) (mt_or (mt_test (me_opB os_b0 (me_call1 cs_lenS mb_var) me_int.mb)) (mt_test (me_opB os_ne (me_sm sm_strip (me_var (i := 1) (by decide)) me_str) me_str.mb)))) (ms_ret rfl me_bl rfl) (ms_nil rfl))
      (ms_ret rfl (me_or (me_and (me_opB os_eq (me_var (i := 1) (by decide)) me_str.mb) (me_opB os_eq (me_var (i := 0) (by decide)) me_str.mb)) (me_opB os_ne (me_op op_ix (me_var (i := 1) (by decide)) me_int) me_str.mb)) rfl))))) h
noncomputable def b__law_writes_word : Rho → Option Out :=
  (sRet (mOrV (mOp2 dEq (mVar 0) (mRet (.str "-"))) (mAndV (mOp2 dNe (mVar 0) (mRet (.str ""))) (mOp2 dEq (mOp2 (dSM gStrip) (mVar 0) (mRet (.str "01"))) (mRet (.str ""))))))
noncomputable def f__law_writes_word : List D → Option D := runP false 1 1 b__law_writes_word
theorem n__law_writes_word : runsN 1 f__law_writes_word := runP_n
theorem ok__law_writes_word (T : Txt K mg a) : FnOk P w K mg base CX0 1 a.f__law_writes_word a.fd__law_writes_word ["_law_text_here"] (spP K false 1 f__law_writes_word) := by
  refine T.F__law_writes_word.ok sc__law_writes_word (fun vs H Q E h => ?_) (fun cdv A outer s H vs Q E hr h => ?_)
  · exact h.1
  · refine ⟨_, (pss_one (ps_ret (pe_or (pe_cmpR (op_eqD (K := K) rfl hr.units) (pv 0) pe_str (nomark _)) (pe_one (pe_and (pe_cmpR (op_neD (K := K) rfl hr.units) (pv 0) pe_str (nomark _)) (pe_one (pe_cmpR (op_eqD (K := K) rfl hr.units) (pe_bm PySem.F.plainAttrs_str PySem.F.slot_str_strip PySem.F.type_str_strip mt_strip (pv 0) (pa_cons pe_str pa_nil)) pe_str (nomark _)))))))), ?_⟩
    exact spP_body (O' := []) (Nms := ["_law_text_here"]) (f := b__law_writes_word) (by
      unfold b__law_writes_word
      exact (ms_ret rfl (me_or (me_opB os_eq (me_var (i := 0) (by decide)) me_str.mb) (me_and (me_opB os_ne (me_var (i := 0) (by decide)) me_str.mb) (me_opB os_eq (me_sm sm_strip (me_var (i := 0) (by decide)) me_str) me_str.mb))) rfl)) h
noncomputable def b__law_number_right : Rho → Option Out :=
  (sSeq (sIf (mNot (mTest (mCall f__law_writes_number (mCons (mVar 0) mNil))))
    (sRet (mCall f__law_refused (mCons (mRet (.fn "read_number")) (mCons (mVar 0) (mCons (mOf (mLst (mCons (mRet (.bl true)) (mCons (mRet (.bl false)) mNil)))) mNil)))))
    sNil)
  (sSeq (sSet 1 (mCall f_read_number (mCons (mVar 0) mNil)))
  (sRet (mAndV (mOp1 (dIsi (isTab "int")) (mVar 1)) (mAndV (mNotV (mOp1 (dIsi (isTab "bool")) (mVar 1))) (mOp2 dEq (mOp1 dStr (mVar 1)) (mVar 0)))))))
noncomputable def f__law_number_right : List D → Option D := runP false 1 2 b__law_number_right
theorem n__law_number_right : runsN 1 f__law_number_right := runP_n
theorem ok__law_number_right (T : Txt K mg a) : FnOk P w K mg base CX0 5 a.f__law_number_right a.fd__law_number_right ["_law_text_here"] (spP K false 1 f__law_number_right) := by
  have G__law_writes_number := ok__law_writes_number (P := P) (w := w) (base := base) T
  have B__law_writes_number := T.B__law_writes_number
  have G__law_refused := ok__law_refused (P := P) (w := w) (base := base) T
  have B__law_refused := T.B__law_refused
  have G_read_number := ok_read_number (P := P) (w := w) (base := base) T
  have B_read_number := T.B_read_number
  refine T.F__law_number_right.ok sc__law_number_right (fun vs H Q E h => ?_) (fun cdv A outer s H vs Q E hr h => ?_)
  · exact h.1
  · refine ⟨_, (pss_cons (ps_if (pt_not (pt_val (pe_call G__law_writes_number (hr.mono (by decide)) (by rfl) T.mg__law_writes_number T.kp__law_writes_number B__law_writes_number .nil pass0 (pa_cons (pv 0) pa_nil)))) (pss_one (ps_ret (pe_call G__law_refused (hr.mono (by decide)) (by rfl) T.mg__law_refused T.kp__law_refused B__law_refused .nil pass0 (pa_cons (pe_glob (v := .ref a.f_read_number) (by rfl) T.mg_read_number rfl) (pa_cons (pv 0) (pa_cons (pe_lst (pa_cons pe_bl (pa_cons pe_bl pa_nil))) pa_nil)))))) pss_nil)
      (pss_cons (ps_set (i := 1) sc__law_number_right.nd rfl (by first | exact Or.inl rfl | exact Or.inr rfl) (pe_call G_read_number (hr.mono (by decide)) (by rfl) T.mg_read_number T.kp_read_number B_read_number .nil pass1 (pa_cons (pv 0) pa_nil)))
      (pss_one (ps_ret (pe_and (pe_callB (call_isO (K := K) rfl) (by rfl) T.z_isinstance (by rfl) (pa_cons (pv 1) (pa_cons (pe_bltn (v := .ty "int") (by rfl) T.z_int (by rfl) rfl) pa_nil))) (pe_and (pe_not (pe_callB (call_isO (K := K) rfl) (by rfl) T.z_isinstance (by rfl) (pa_cons (pv 1) (pa_cons (pe_bltn (v := .ty "bool") (by rfl) T.z_bool (by rfl) rfl) pa_nil)))) (pe_one (pe_cmpR (op_eqD (K := K) rfl hr.units) (pe_callTy call_strI (by rfl) T.z_str (by rfl) (pa_cons (pv 1) pa_nil)) (pv 0) (nomark _))))))))), ?_⟩
    exact spP_body (O' := []) (Nms := ["_law_text_here", "_law_found"]) (f := b__law_number_right) (by
      unfold b__law_number_right
      exact (ms_seq (O1 := []) (ms_if (mt_not (mt_val (me_callP n__law_writes_number (ma_cons (me_var (i := 0) (by decide)) ma_nil)))) (ms_ret rfl (me_callP n__law_refused (ma_cons (me_fn T.nsf_read_number) (ma_cons (me_var (i := 0) (by decide)) (ma_cons (me_new (mn_lst (ma_cons me_bl (ma_cons me_bl ma_nil)))) ma_nil)))) rfl) (ms_nil rfl))
      (ms_seq (O1 := []) (ms_set (me_callX n_read_number (ma_cons (me_var (i := 0) (by decide)) ma_nil)) rfl (by decide))
      (ms_ret rfl (me_and (me_isi (isi_int T) mb_var) (me_and (me_not (me_isi (isi_bool T) mb_var)) (me_opB os_eq (me_call1 cs_str mb_var) mb_var))) rfl)))) h
noncomputable def b__law_word_right : Rho → Option Out :=
  (sSeq (sIf (mNot (mTest (mCall f__law_writes_word (mCons (mVar 0) mNil))))
    (sRet (mCall f__law_refused (mCons (mRet (.fn "read_word")) (mCons (mVar 0) (mCons (mOf (mLst (mCons (mRet (.bl true)) (mCons (mRet (.bl false)) mNil)))) mNil)))))
    sNil)
  (sSeq (sSet 1 (mCall f_read_word (mCons (mVar 0) mNil)))
  (sSeq (sIf (mOr (mNot (mTest (mOp1 (dIsi (isTab "list")) (mVar 1)))) (mTest (mOp2 dNe (mOp1 dLen (mVar 1)) (mOp2 dSub (mOp1 dLenS (mVar 0)) (mOp1 dInt (mOp2 dEq (mVar 0) (mRet (.str "-"))))))))
    (sRet (mRet (.bl false)))
    sNil)
  (sSeq (sFor (mZips (mCons (mVar 1) (mCons (mVar 0) mNil))) (gTupD 2 (gsCons (gSet 2) (gsCons (gSet 3) gsNil)))
    (sIf (mOr (mNot (mTest (mOp1 (dIsi (isTab "int")) (mVar 2)))) (mOr (mTest (mOp1 (dIsi (isTab "bool")) (mVar 2))) (mTest (mOp2 dNe (mVar 2) (mOp2 (dSM gIndex) (mRet (.str "01")) (mVar 3))))))
    (sRet (mRet (.bl false)))
    sNil))
  (sRet (mOp2 dEq (mCall f_shown_word (mCons (mVar 1) mNil)) (mVar 0)))))))
noncomputable def f__law_word_right : List D → Option D := runP false 1 4 b__law_word_right
theorem n__law_word_right : runsN 1 f__law_word_right := runP_n
theorem ok__law_word_right (T : Txt K mg a) : FnOk P w K mg base CX0 5 a.f__law_word_right a.fd__law_word_right ["_law_text_here"] (spP K false 1 f__law_word_right) := by
  have G__law_writes_word := ok__law_writes_word (P := P) (w := w) (base := base) T
  have B__law_writes_word := T.B__law_writes_word
  have G__law_refused := ok__law_refused (P := P) (w := w) (base := base) T
  have B__law_refused := T.B__law_refused
  have G_read_word := ok_read_word (P := P) (w := w) (base := base) T
  have B_read_word := T.B_read_word
  have G_shown_word := ok_shown_word (P := P) (w := w) (base := base) T
  have B_shown_word := T.B_shown_word
  refine T.F__law_word_right.ok sc__law_word_right (fun vs H Q E h => ?_) (fun cdv A outer s H vs Q E hr h => ?_)
  · exact h.1
  · refine ⟨_, (pss_cons (ps_if (pt_not (pt_val (pe_call G__law_writes_word (hr.mono (by decide)) (by rfl) T.mg__law_writes_word T.kp__law_writes_word B__law_writes_word .nil pass0 (pa_cons (pv 0) pa_nil)))) (pss_one (ps_ret (pe_call G__law_refused (hr.mono (by decide)) (by rfl) T.mg__law_refused T.kp__law_refused B__law_refused .nil pass0 (pa_cons (pe_glob (v := .ref a.f_read_word) (by rfl) T.mg_read_word rfl) (pa_cons (pv 0) (pa_cons (pe_lst (pa_cons pe_bl (pa_cons pe_bl pa_nil))) pa_nil)))))) pss_nil)
      (pss_cons (ps_set (i := 1) sc__law_word_right.nd rfl (by first | exact Or.inl rfl | exact Or.inr rfl) (pe_call G_read_word (hr.mono (by decide)) (by rfl) T.mg_read_word T.kp_read_word B_read_word .nil pass1 (pa_cons (pv 0) pa_nil)))
      (pss_cons (ps_if (PW.pt (pw_or (pt_not (pt_val (pe_callB (call_isO (K := K) rfl) (by rfl) T.z_isinstance (by rfl) (pa_cons (pv 1) (pa_cons (pe_bltn (v := .ty "list") (by rfl) T.z_list (by rfl) rfl) pa_nil))))) (pw_or1 (pt_cmpR (op_neD (K := K) rfl hr.units) (pe_callB (call_lenK (K := K) rfl) (by rfl) T.z_len (by rfl) (pa_cons (pv 1) pa_nil)) (pe_op op_sub (pe_callB call_len_str (by rfl) T.z_len (by rfl) (pa_cons (pv 0) pa_nil)) (pe_callTy call_int1 (by rfl) T.z_int (by rfl) (pa_cons (pe_cmpR (op_eqD (K := K) rfl hr.units) (pv 0) pe_str (nomark _)) pa_nil))) (nomark _))))) (pss_one (ps_ret pe_bl)) pss_nil)
      (pss_cons (ps_for PassesOwn.never rfl (pi_zips (K := K) true rfl (by rfl) T.z_zip (pa_cons (pv 1) (pa_cons (pv 0) pa_nil))) (pg_tupK (K := K) rfl rfl (pgs_cons (pg_name (i := 2) sc__law_word_right.nd rfl (by first | exact Or.inl rfl | exact Or.inr rfl)) (pgs_cons (pg_name (i := 3) sc__law_word_right.nd rfl (by first | exact Or.inl rfl | exact Or.inr rfl)) pgs_nil))) (pss_one (ps_if (PW.pt (pw_or (pt_not (pt_val (pe_callB (call_isO (K := K) rfl) (by rfl) T.z_isinstance (by rfl) (pa_cons (pv 2) (pa_cons (pe_bltn (v := .ty "int") (by rfl) T.z_int (by rfl) rfl) pa_nil))))) (pw_or (pt_val (pe_callB (call_isO (K := K) rfl) (by rfl) T.z_isinstance (by rfl) (pa_cons (pv 2) (pa_cons (pe_bltn (v := .ty "bool") (by rfl) T.z_bool (by rfl) rfl) pa_nil)))) (pw_or1 (pt_cmpR (op_neD (K := K) rfl hr.units) (pv 2) (pe_bm PySem.F.plainAttrs_str PySem.F.slot_str_index PySem.F.type_str_index mt_index pe_str (pa_cons (pv 3) pa_nil)) (nomark _)))))) (pss_one (ps_ret pe_bl)) pss_nil)))
      (pss_one (ps_ret (pe_cmpR (op_eqD (K := K) rfl hr.units) (pe_call G_shown_word (hr.mono (by decide)) (by rfl) T.mg_shown_word T.kp_shown_word B_shown_word .nil pass0 (pa_cons (pv 1) pa_nil)) (pv 0) (nomark _)))))))), ?_⟩
    exact spP_body (O' := []) (Nms := ["_law_text_here", "_law_found", "_law_bit", "_law_sign"]) (f := b__law_word_right) (by
      unfold b__law_word_right
      exact (ms_seq (O1 := []) (ms_if (mt_not (mt_val (me_callP n__law_writes_word (ma_cons (me_var (i := 0) (by decide)) ma_nil)))) (ms_ret rfl (me_callP n__law_refused (ma_cons (me_fn T.nsf_read_word) (ma_cons (me_var (i := 0) (by decide)) (ma_cons (me_new (mn_lst (ma_cons me_bl (ma_cons me_bl ma_nil)))) ma_nil)))) rfl) (ms_nil rfl))
      (ms_seq (O1 := []) (ms_set (me_callX n_read_word (ma_cons (me_var (i := 0) (by decide)) ma_nil)) rfl (by decide))
      (ms_seq (O1 := []) (ms_if (mt_or (mt_not (mt_val (me_isi (isi_list T) mb_var))) (mt_test (me_opB os_ne (me_call1 cs_len mb_var) (me_op og_sub (me_call1 cs_lenS mb_var) (me_call1 cs_int (me_opB os_eq (me_var (i := 0) (by decide)) me_str.mb).mb)).mb))) (ms_ret rfl me_bl rfl) (ms_nil rfl))
      (ms_seq (O1 := []) (ms_for (O' := []) (mi_zips (ma_cons (me_var (i := 1) (by decide)) (ma_cons (me_var (i := 0) (by decide)) ma_nil))) rfl (mg_tup (mgs_cons (mg_name (i := 2) (by decide)) (mgs_cons (mg_name (i := 3) (by decide)) mgs_nil)))
      (ms_if (mt_or (mt_not (mt_val (me_isi (isi_int T) mb_var))) (mt_or (mt_val (me_isi (isi_bool T) mb_var)) (mt_test (me_opB os_ne (me_var (i := 2) (by decide)) (me_sm sm_index me_str (me_var (i := 3) (by decide))).mb)))) (ms_ret rfl me_bl rfl) (ms_nil rfl)))
      (ms_ret rfl (me_opB os_eq (me_callP n_shown_word (ma_cons (me_var (i := 1) (by decide)) ma_nil)) mb_var) rfl)))))) h
noncomputable def b_law : Rho → Option Out :=
  (sSeq (sFor (mSeq (mOp2 dAdd (mSl (mVar 0) (mRet none) (mPart (mRet (.int 60)))) (mOf (mLst (mCons (mRet (.int 0)) mNil))))) (gSet 1)
    (sSeq (sOwn 2 (mLst (mCons (mOp2 dMod (mVar 1) (mOp2 dSub (mOp2 dPow (mRet (.int 2)) (mRet (.int 61))) (mRet (.int 1)))) mNil)))
  (sSeq (sSet 3 (mCallS f__law_text 2 mNil))
  (sSeq (sIf (mOr (mNot (mTest (mCall f__law_number_right (mCons (mVar 3) mNil)))) (mAnd (mTest (mOp2 dLe (mOp1 dLenS (mVar 3)) (mRet (.int 60)))) (mNot (mTest (mCall f__law_word_right (mCons (mVar 3) mNil))))))
    (sRet (mRet (.bl false)))
    sNil)
  (sSeq (sSet 4 (mOp2 dIx (mOf (mLst (mCons (mRet .non) (mCons (mRet (.int 7)) (mCons (mRet (.bl true)) (mCons (mOf (mLst (mCons (mRet (.str "1")) mNil))) (mCons (mTup (mCons (mRet (.str "0")) mNil)) (mCons (mRet (.dct [])) mNil)))))))) (mCallS f__law_next 2 (mCons (mRet (.int 6)) mNil))))
  (sIf (mNot (mTest (mCall f__law_refused (mCons (mOp2 dIx (mOf (mLst (mCons (mRet (.fn "read_number")) (mCons (mRet (.fn "read_word")) mNil)))) (mCallS f__law_next 2 (mCons (mRet (.int 2)) mNil))) (mCons (mVar 4) (mCons (mOf (mLst (mCons (mRet (.bl true)) (mCons (mRet (.bl false)) mNil)))) mNil))))))
    (sRet (mRet (.bl false)))
    sNil))))))
  (sRet (mRet (.bl true))))
noncomputable def f_law : List D → Option D := runP false 1 5 b_law
theorem ok_law (T : Txt K mg a) : FnOk P w K mg base CX0 6 a.f_law a.fd_law ["_law_script"] (spP K false 1 f_law) := by
  have G__law_text := ok__law_text (P := P) (w := w) (base := base) T
  have B__law_text := T.B__law_text
  have G__law_word_right := ok__law_word_right (P := P) (w := w) (base := base) T
  have B__law_word_right := T.B__law_word_right
  have G__law_number_right := ok__law_number_right (P := P) (w := w) (base := base) T
  have B__law_number_right := T.B__law_number_right
  have G__law_next := ok__law_next (P := P) (w := w) (base := base) T
  have B__law_next := T.B__law_next
  have G__law_refused := ok__law_refused (P := P) (w := w) (base := base) T
  have B__law_refused := T.B__law_refused
  refine T.F_law.ok sc_law (fun vs H Q E h => ?_) (fun cdv A outer s H vs Q E hr h => ?_)
  · exact h.1
  · refine ⟨_, (pss_cons (ps_for PassesOwn.never rfl (pi_seqK (K := K) rfl (pe_op (op_addG (K := K) rfl) (pe_slice (sl_seqK (K := K) rfl) (pv 0) po_none (po_some pe_int)) (pe_lst (pa_cons pe_int pa_nil)))) (pg_name (i := 1) sc_law.nd rfl (by first | exact Or.inl rfl | exact Or.inr rfl)) (pss_cons (ps_set (i := 2) sc_law.nd rfl (by first | exact Or.inl rfl | exact Or.inr rfl) (pe_lst (pa_cons (pe_op op_mod (pv 1) (pe_op op_sub (pe_op op_pow pe_int pe_int) pe_int)) pa_nil)))
      (pss_cons (ps_set (i := 3) sc_law.nd rfl (by first | exact Or.inl rfl | exact Or.inr rfl) (pe_call G__law_text (hr.mono (by decide)) (by rfl) T.mg__law_text T.kp__law_text B__law_text .nil pass0 (pa_cons (pv 2) pa_nil)))
      (pss_cons (ps_if (PW.pt (pw_or (pt_not (pt_val (pe_call G__law_number_right (hr.mono (by decide)) (by rfl) T.mg__law_number_right T.kp__law_number_right B__law_number_right .nil pass0 (pa_cons (pv 3) pa_nil)))) (pw_or1 (PW.pt (pw_and (pt_cmpR op_le (pe_callB call_len_str (by rfl) T.z_len (by rfl) (pa_cons (pv 3) pa_nil)) pe_int (nomark _)) (pw_and1 (pt_not (pt_val (pe_call G__law_word_right (hr.mono (by decide)) (by rfl) T.mg__law_word_right T.kp__law_word_right B__law_word_right .nil pass0 (pa_cons (pv 3) pa_nil)))))))))) (pss_one (ps_ret pe_bl)) pss_nil)
      (pss_cons (ps_set (i := 4) sc_law.nd rfl (by first | exact Or.inl rfl | exact Or.inr rfl) (pe_ix (ix_seqK (K := K) rfl) (pe_lst (pa_cons pe_non (pa_cons pe_int (pa_cons pe_bl (pa_cons (pe_lst (pa_cons pe_str pa_nil)) (pa_cons (pe_tup (pa_cons pe_str pa_nil)) (pa_cons pe_dict0 pa_nil))))))) (pe_call G__law_next (hr.mono (by decide)) (by rfl) T.mg__law_next T.kp__law_next B__law_next .nil pass0 (pa_cons (pv 2) (pa_cons pe_int pa_nil))) (fun _ _ => rfl)))
      (pss_one (ps_if (pt_not (pt_val (pe_call G__law_refused (hr.mono (by decide)) (by rfl) T.mg__law_refused T.kp__law_refused B__law_refused .nil pass0 (pa_cons (pe_ix (ix_seqK (K := K) rfl) (pe_lst (pa_cons (pe_glob (v := .ref a.f_read_number) (by rfl) T.mg_read_number rfl) (pa_cons (pe_glob (v := .ref a.f_read_word) (by rfl) T.mg_read_word rfl) pa_nil))) (pe_call G__law_next (hr.mono (by decide)) (by rfl) T.mg__law_next T.kp__law_next B__law_next .nil pass0 (pa_cons (pv 2) (pa_cons pe_int pa_nil))) (fun _ _ => rfl)) (pa_cons (pv 4) (pa_cons (pe_lst (pa_cons pe_bl (pa_cons pe_bl pa_nil))) pa_nil)))))) (pss_one (ps_ret pe_bl)) pss_nil)))))))
      (pss_one (ps_ret pe_bl))), ?_⟩
    exact spP_body (O' := []) (Nms := ["_law_script", "_law_cell", "_law_state", "_law_text_here", "_law_odd"]) (f := b_law) (by
      unfold b_law
      exact (ms_seq (O1 := []) (ms_for (O' := []) (mi_seq (me_op og_add (me_slice (me_var (i := 0) (by decide)) mo_none (mo_some me_int)) (me_new (mn_lst (ma_cons me_int ma_nil))))) rfl (mg_name (i := 1) (by decide))
      (ms_seq (O1 := [2]) (ms_own (mn_lst (ma_cons (me_op og_mod (me_var (i := 1) (by decide)) (me_op og_sub (me_op og_pow me_int me_int) me_int)) ma_nil)) rfl)
      (ms_seq (O1 := [2]) (ms_set (me_callS (i := 2) n__law_text (by decide) ma_nil) rfl (by decide))
      (ms_seq (O1 := [2]) (ms_if (mt_or (mt_not (mt_val (me_callP n__law_number_right (ma_cons (me_var (i := 3) (by decide)) ma_nil)))) (mt_and (mt_test (me_opB os_b0 (me_call1 cs_lenS mb_var) me_int.mb)) (mt_not (mt_val (me_callP n__law_word_right (ma_cons (me_var (i := 3) (by decide)) ma_nil)))))) (ms_ret rfl me_bl rfl) (ms_nil rfl))
      (ms_seq (O1 := [2]) (ms_set (me_op op_ix (me_new (mn_lst (ma_cons me_non (ma_cons me_int (ma_cons me_bl (ma_cons (me_new (mn_lst (ma_cons me_str ma_nil))) (ma_cons (me_tup (ma_cons me_str ma_nil)) (ma_cons me_dict0 ma_nil)))))))) (me_callS (i := 2) n__law_next (by decide) (ma_cons me_int ma_nil))) rfl (by decide))
      (ms_if (mt_not (mt_val (me_callP n__law_refused (ma_cons (me_op op_ix (me_new (mn_lst (ma_cons (me_fn T.nsf_read_number) (ma_cons (me_fn T.nsf_read_word) ma_nil)))) (me_callS (i := 2) n__law_next (by decide) (ma_cons me_int ma_nil))) (ma_cons (me_var (i := 4) (by decide)) (ma_cons (me_new (mn_lst (ma_cons me_bl (ma_cons me_bl ma_nil)))) ma_nil)))))) (ms_ret rfl me_bl rfl) (ms_nil rfl)))))))
      (ms_ret rfl me_bl rfl))) h
end
end K51
set_option Elab.async false
set_option linter.all false
set_option maxRecDepth 100000
set_option maxHeartbeats 4000000
namespace K51
open PySem L2
local macro_rules | `(tactic| walk_at "ev") => `(tactic| simp [runS, runP, ev_bind, ev_ret, ev_lift, ev_var, ev_op2, ev_op1, ev_op1L, ev_op2L, ev_opO, ev_ixO, ev_test, ev_not, ev_and, ev_or, ev_andV, ev_orV, ev_notV, ev_if, ev_nil, ev_cons, ev_tup, ev_lst, ev_of, ev_call, ev_callL, ev_callS, ev_comp, ev_seq, ev_rng1, ev_rng2, ev_zip, ev_part, ev_sl, ev_slL, ev_chain, ev_sseq, ev_sset, ev_sown, ev_sasg, ev_sif, ev_sret, ev_sretL, ev_sretO, ev_snil, ev_sretN, ev_sbk, ev_sct, ev_sdrop, ev_smut, ev_sext, ev_sseti, ev_sfor, ev_gset, ev_saug, forRun, ixO, blO, lsO, lstOf, rng1, rng2, zip2, inO, slO, flatD, setI, gsNil, gsCons, gTupD, dI2, dI0, dB0, dAdd, dMulG, dIx, dLen, dInt, dSum, dAll, dAny, dTuple, dSeq, dSl_tto, dSl_tfrom, dSl_lto, dSl_lfrom, dNeg, dNotB, dIsB, isBl, dIsN, dNotN, dIsi, tyN, isTab, dAppend, dInsert0, okMul, okMul2, okMod, okDiv, okPow, okShr, at0, at1, at2, at3, at4, at5, ixN, dEq, dNe, eqD_int, eqD_bl, eqD_none, eqD_int_none, eqD_none_int, dJoin, strsD, join_one', le_line, lt_line, sTryAs, sTry, xIf, xCall, xThen, xNo, xSeq, xRaise, outLess, mCallB, runS1, mCallS1, scD, dIsX, mMM, ev_enum, enumO, ev_sextT, tupO, ev_rep, dCatL, runX, ev_divmod, dvm, mLend, dUp, dCnt, dCntT, ev_slS, ev_signs, ev_ifL, dSM, fnAt, mCallV, xCallV, mOr2, xOr2, *])
theorem v_next (s m : Int) (h : 0 < m) : f__law_next [.int s] [.int m] = some (.int (dr s m), [.int (nx s)]) := by
  unfold f__law_next b__law_next
  walk_at "ev"
  simp [nx, dr]
noncomputable def N60 (n : Int) : Prop := -1000000000000000000000000000000000000000000000000000000000000 < n ∧ n < 1000000000000000000000000000000000000000000000000000000000000
theorem N60.abs {n : Int} (h : N60 n) : n.natAbs < 10 ^ 60 := by
  have e : (10 : Nat) ^ 60 = 1000000000000000000000000000000000000000000000000000000000000 := by decide +kernel
  rw [e]
  unfold N60 at h
  omega
theorem N60.len {n : Int} (h : N60 n) : (tx n).length ≤ 61 := tx_len h.abs (by decide)
theorem N60.str {n : Int} (h : N60 n) : dStr (.int n) = some (.str (tx n)) := dStr_tx (Nat.lt_trans h.abs (by decide +kernel))
theorem N60.back {n : Int} (h : N60 n) : dIntT (.str (tx n)) = some (.int n) := dIntT_tx (Nat.le_trans h.len (by decide))
theorem bit60 {b : Int} (h : b = 0 ∨ b = 1) : N60 b := by unfold N60; omega
theorem seq_nx {f g : Rho → Option Out} {ρ ρ1 : Rho} (h : f ρ = some (.nx ρ1)) : sSeq f g ρ = g ρ1 := by
  rw [ev_sseq, h]
  rfl
theorem run_of {b : Rho → Option Out} {n k : Nat} {ds : List D} {d : D} (hl : ds.length = n) (h : ∃ ρ, b (ds.map some ++ List.replicate (k - n) none) = some (.rt d ρ)) : runP false n k b ds = some d := by
  obtain ⟨ρ, h⟩ := h
  unfold runP
  rw [if_pos hl, h]
theorem strsD_map : ∀ xs : List Str, strsD (xs.map D.str) = some xs
  | [] => rfl
  | x :: xs => by
    show (strsD (xs.map D.str)).map (x :: ·) = _
    rw [strsD_map xs]
    rfl
theorem sum_le : ∀ (xs : List Str), (∀ x ∈ xs, x.length ≤ 200) → (xs.map (·.length)).sum ≤ xs.length * 200
  | [], _ => Nat.le_refl _
  | x :: xs, h => by
    have h1 := h x List.mem_cons_self
    have h2 := sum_le xs fun y hy => h y (List.mem_cons_of_mem _ hy)
    rw [List.map_cons, List.sum_cons, List.length_cons]
    omega
theorem join_is {sep : Str} {xs : List Str} (hs : sep.length ≤ 1) (hl : xs.length ≤ 2000) (h : ∀ x ∈ xs, x.length ≤ 200) : dJoin (.str sep) (.lst (xs.map D.str)) = some (.str (Txt.join sep xs)) := by
  unfold dJoin
  dsimp only
  rw [strsD_map]
  have := sum_le xs h
  have m : xs.length * sep.length ≤ xs.length := by
    have := Nat.mul_le_mul_left xs.length hs
    omega
  dsimp only
  rw [if_pos (by omega)]
noncomputable def rowT (row : List Int) : Str := Txt.join "" (row.map tx)
theorem tx0 : tx 0 = "0" := str_ext ((tx_nat 0).trans (digs_small (by decide)))
theorem tx1 : tx 1 = "1" := str_ext ((tx_nat 1).trans (digs_small (by decide)))
theorem strs_cm (ns : List Int) (h : ∀ n ∈ ns, N60 n) (ρ : Rho) : compRun 1 [] none (gSet 0) (mRet true) (mOp1 dStr (mVar 0)) (ns.map D.int) ρ = some ((ns.map tx).map D.str, ρ) := by
  have cm := cm_map (n := 1) (js := []) (fg := gSet 0) (fe := mOp1 dStr (mVar 0)) (ρ := ρ) (fun d => match d with | .int b => .str (tx b) | d => d) (ns.map D.int) (fun x hx => by
    obtain ⟨b, hb, rfl⟩ := List.mem_map.mp hx
    have e := (h b hb).str
    refine ⟨[some (.int b)], rfl, ?_⟩
    clear hx hb
    dsimp only
    generalize tx b = t at e ⊢
    walk_at "ev")
  rw [cm, List.map_map, List.map_map]
  rfl
theorem bit_len {b : Int} (h : b = 0 ∨ b = 1) : (tx b).length = 1 := by
  rcases h with rfl | rfl
  · rw [tx0]; rfl
  · rw [tx1]; rfl
theorem one_ok {c : Nat} (h : c ≤ 57) : PyData.strOk ⟨#[c]⟩ = true := strOk_of fun d hd => by
  have : d = c := by simpa using hd
  omega
theorem eq_one {c d : Nat} (h : c ≤ 57) (h' : d ≤ 57) : eqD (.str ⟨#[c]⟩) (.str ⟨#[d]⟩) = some (decide (c = d)) := by
  rw [eqD_str (one_ok h) (one_ok h')]
  by_cases q : c = d
  · subst q; simp
  · rw [decide_eq_false q]
    congr 1
    rw [beq_eq_false_iff_ne]
    intro z
    exact q (by simpa using congrArg (fun s : Str => s.cps.toList) z)
theorem eq_txt {x : Str} (ho : PyData.strOk x = true) {d : Nat} (h' : d ≤ 57) : eqD (.str x) (.str ⟨#[d]⟩) = some (decide (x.cps.toList = [d])) := by
  rw [eqD_str ho (one_ok h')]
  by_cases q : x.cps.toList = [d]
  · rw [decide_eq_true q]
    congr 1
    rw [beq_iff_eq]
    exact str_ext q
  · rw [decide_eq_false q]
    congr 1
    rw [beq_eq_false_iff_ne]
    intro z
    exact q (by rw [z])
theorem rf_ok (x : Str) (c : Nat) (most L n : Int) (b b' : Bool) (lx : x.length ≤ sizeLine) (hm : f_is_made_of [.str x, .str "0123456789"] = some (.bl true)) (hl : dLenS (.str x) = some (.int L)) (n1 : ¬ most < L) (e3 : atI x.cps.toList 0 = some c) (e4 : eqD (.str ⟨#[c]⟩) (.str "0") = some b) (e2 : eqD (.str x) (.str "0") = some b') (hb : b = false ∨ b' = true) (hi : dIntT (.str x) = some (.int n)) : f_read_figures [.str x, .int most] = some (.int n) := by
  unfold f_read_figures b_read_figures
  cases b with
  | false =>
    clear hb e2
    walk_at "ev"
  | true =>
    cases b' with
    | false => exact absurd hb (by decide)
    | true =>
      clear hb
      walk_at "ev"
theorem rn_pos (x : Str) (n : Int) (hc : f_check_text [.str x] = some .non) (hs : gStartswith x "-" = some (.bl false)) (hf : f_read_figures [.str x, .int 60] = some (.int n)) : f_read_number [.str x] = some (.int n) := by
  unfold f_read_number b_read_number
  walk_at "ev"
theorem rn_neg (x y : Str) (m : Int) (hc : f_check_text [.str x] = some .non) (hs : gStartswith x "-" = some (.bl true)) (h2 : dSlS (.str x) (some 1) none = some (.str y)) (hf : f_read_figures [.str y, .int 60] = some (.int m)) (n0 : ¬ m = 0) : f_read_number [.str x] = some (.int (-m)) := by
  unfold f_read_number b_read_number
  walk_at "ev"
theorem tx0c : (tx 0).cps.toList = [48] := (tx_nat 0).trans (digs_small (by decide))
theorem tx1c : (tx 1).cps.toList = [49] := (tx_nat 1).trans (digs_small (by decide))
theorem rowT_cps : ∀ {row : List Int}, (∀ b ∈ row, b = 0 ∨ b = 1) → signsD (rowT row) = (row.map tx).map D.str
  | [], _ => rfl
  | b :: row, h => by
    have ih := rowT_cps (row := row) fun x hx => h x (List.mem_cons_of_mem _ hx)
    have e : (rowT (b :: row)).cps.toList = (tx b).cps.toList ++ (rowT row).cps.toList := by
      unfold rowT
      rw [txt_join, txt_join]
      cases row with
      | nil =>
        have e1 : Str.join "" [tx b] = tx b := by rw [← txt_join]; rfl
        rw [List.map_cons, List.map_nil, e1]
        show _ = _ ++ []
        rw [List.append_nil]
      | cons c r =>
        show (tx b ++ "" ++ Str.join "" ((c :: r).map tx)).cps.toList = _
        rw [cps_append, cps_append]
        show (_ ++ []) ++ _ = _
        rw [List.append_nil]
    have one : (tx b).cps.toList.map (fun c => D.str ⟨#[c]⟩) = [D.str (tx b)] := by
      rcases h b List.mem_cons_self with rfl | rfl
      · rw [tx0c, show tx 0 = ⟨#[48]⟩ from str_of tx0c]; rfl
      · rw [tx1c, show tx 1 = ⟨#[49]⟩ from str_of tx1c]; rfl
    show (rowT (b :: row)).cps.toList.map (fun c => D.str ⟨#[c]⟩) = _
    rw [e, List.map_append, one]
    show [D.str (tx b)] ++ signsD (rowT row) = _
    rw [ih]
    rfl
theorem rb_end (x : Str) (Z W : List D) (hm : f_is_made_of [.str x, .str "01"] = some (.bl true)) (hs : sgO (.str x) = some Z) (lz : Z.length ≤ sizeLine) (cm : compRun 1 [] none (gSet 0) (mRet true) (mOp1 dIntT (mVar 0)) Z [some (.str x)] = some (W, [some (.str x)])) : f_read_bits [.str x] = some (.lst W) := by
  unfold f_read_bits b_read_bits
  walk_at "ev"
theorem sb_end (X W : List D) (d : D) (hd : d = .lst X ∨ d = .tup X) (x : Str) (lx : X.length ≤ sizeLine) (lw : W.length ≤ sizeLine) (cm : compRun 1 [] none (gSet 0) (mRet true) (mOp1 dStr (mVar 0)) X [some d] = some (W, [some d])) (hj : dJoin (.str "") (.lst W) = some (.str x)) : f_shown_bits [d] = some (.str x) := by
  unfold f_shown_bits b_shown_bits
  generalize dJoin = J at hj ⊢
  rcases hd with rfl | rfl <;> walk_at "ev"
theorem p_sbits {w : List Int} (hl : w.length ≤ 60) (h : ∀ b ∈ w, b = 0 ∨ b = 1) (d : D) (hd : d = .lst (w.map D.int) ∨ d = .tup (w.map D.int)) : f_shown_bits [d] = some (.str (rowT w)) :=
  sb_end _ _ d hd _ (by rw [List.length_map]; exact line_of (by omega)) (by rw [List.length_map, List.length_map]; exact line_of (by omega)) (strs_cm w (fun b hb => bit60 (h b hb)) _) (join_is (by decide) (by rw [List.length_map]; omega) (fun x hx => by
    obtain ⟨b, hb, rfl⟩ := List.mem_map.mp hx
    rw [bit_len (h b hb)]
    decide))
theorem sw_some (X : List D) (x : Str) (hx : f_shown_bits [.lst X] = some (.str x)) (n0 : 0 < X.length) (lx : X.length ≤ sizeLine) : f_shown_word [.lst X] = some (.str x) := by
  unfold f_shown_word b_shown_word
  walk_at "ev"
theorem sw_none (z0 : 0 ≤ sizeLine) : f_shown_word [.lst []] = some (.str "-") := by
  unfold f_shown_word b_shown_word
  walk_at "ev"
end K51
set_option Elab.async false
set_option linter.all false
set_option maxRecDepth 100000
set_option maxHeartbeats 4000000
namespace K51
open PySem L2 PySem.NumText
local macro_rules | `(tactic| walk_at "ev") => `(tactic| simp [runS, runP, ev_bind, ev_ret, ev_lift, ev_var, ev_op2, ev_op1, ev_op1L, ev_op2L, ev_opO, ev_ixO, ev_test, ev_not, ev_and, ev_or, ev_andV, ev_orV, ev_notV, ev_if, ev_nil, ev_cons, ev_tup, ev_lst, ev_of, ev_call, ev_callL, ev_callS, ev_comp, ev_seq, ev_rng1, ev_rng2, ev_zip, ev_part, ev_sl, ev_slL, ev_chain, ev_sseq, ev_sset, ev_sown, ev_sasg, ev_sif, ev_sret, ev_sretL, ev_sretO, ev_snil, ev_sretN, ev_sbk, ev_sct, ev_sdrop, ev_smut, ev_sext, ev_sseti, ev_sfor, ev_gset, ev_saug, forRun, ixO, blO, lsO, lstOf, rng1, rng2, zip2, inO, slO, flatD, setI, gsNil, gsCons, gTupD, dI2, dI0, dB0, dAdd, dMulG, dIx, dLen, dInt, dSum, dAll, dAny, dTuple, dSeq, dSl_tto, dSl_tfrom, dSl_lto, dSl_lfrom, dNeg, dNotB, dIsB, isBl, dIsN, dNotN, dIsi, tyN, isTab, dAppend, dInsert0, okMul, okMul2, okMod, okDiv, okPow, okShr, at0, at1, at2, at3, at4, at5, ixN, dEq, dNe, eqD_int, eqD_bl, eqD_none, eqD_int_none, eqD_none_int, dJoin, strsD, join_one', le_line, lt_line, sTryAs, sTry, xIf, xCall, xThen, xNo, xSeq, xRaise, outLess, mCallB, runS1, mCallS1, scD, dIsX, mMM, ev_enum, enumO, ev_sextT, tupO, ev_rep, dCatL, runX, ev_divmod, dvm, mLend, dUp, dCnt, dCntT, ev_slS, ev_signs, ev_ifL, dSM, fnAt, mCallV, xCallV, mOr2, xOr2, *])
theorem made_gen (x F : Str) (L : Int) (Z W : List D) (Bs : List Bool) (b : Bool) (hl : dLenS (.str x) = some (.int L)) (n0 : 0 < L) (hs : sgO (.str x) = some Z) (cm : compRun 1 [1] none (gSet 0) (mRet true) (mOp2 dInS (mVar 0) (mVar 1)) Z [some (.str x), some (.str F)] = some (W, [some (.str x), some (.str F)])) (hb : boolsD W = some Bs) (ha : Bs.all id = b) (lz : Z.length ≤ sizeLine) : f_is_made_of [.str x, .str F] = some (.bl b) := by
  unfold f_is_made_of b_is_made_of
  generalize hd : (mOp2 dInS (mVar 0) (mVar 1)) = fe at cm ⊢
  walk_at "ev"
theorem made_none (x F : Str) (hl : dLenS (.str x) = some (.int 0)) : f_is_made_of [.str x, .str F] = some (.bl false) := by
  unfold f_is_made_of b_is_made_of
  walk_at "ev"
noncomputable def mkF (F : Str) (l : List Nat) : Bool := l.all fun c => decide (c ∈ F.cps.toList)
theorem bools_of : ∀ Bs : List Bool, boolsD (Bs.map D.bl) = some Bs
  | [] => rfl
  | b :: Bs => by
    show (boolsD (Bs.map D.bl)).map (b :: ·) = _
    rw [bools_of Bs]
    rfl
theorem p_made {x F : Str} (lx : x.length ≤ sizeLine) : f_is_made_of [.str x, .str F] = some (.bl (!x.cps.toList.isEmpty && mkF F x.cps.toList)) := by
  by_cases ne : x.cps.toList = []
  · rw [ne]
    exact made_none x F (dLenS_is lx (by rw [len_toList, ne]; rfl))
  · have e : (!x.cps.toList.isEmpty && mkF F x.cps.toList) = (x.cps.toList.map fun c => decide (c ∈ F.cps.toList)).all id := by
      rw [List.all_map]
      cases h : x.cps.toList with
      | nil => exact absurd h ne
      | cons a r => rfl
    rw [e]
    refine made_gen x F (x.length : Nat) (signsD x) ((x.cps.toList.map fun c => decide (c ∈ F.cps.toList)).map D.bl) _ _ (dLenS_is lx rfl) (by
      rw [len_toList]
      have := List.length_pos_iff.mpr ne
      omega) rfl ?_ (bools_of _) rfl (by
      unfold signsD
      rw [List.length_map, ← len_toList]
      exact lx)
    have cm := cm_map (n := 1) (js := [1]) (fg := gSet 0) (fe := mOp2 dInS (mVar 0) (mVar 1)) (ρ := [some (.str x), some (.str F)]) (fun d => (dInS d (.str F)).getD .non) (signsD x) (fun y hy => by
      unfold signsD at hy
      obtain ⟨c, hc, rfl⟩ := List.mem_map.mp hy
      have q := in_one F c
      refine ⟨[some (.str ⟨#[c]⟩), some (.str F)], rfl, ?_⟩
      rw [q]
      clear hy hc e ne
      generalize dInS = J at q ⊢
      walk_at "ev")
    have m : (signsD x).map (fun d => (dInS d (.str F)).getD .non) = (x.cps.toList.map fun c => decide (c ∈ F.cps.toList)).map D.bl := by
      unfold signsD
      rw [List.map_map, List.map_map]
      refine List.map_congr_left fun c _ => ?_
      show (dInS (.str ⟨#[c]⟩) (.str F)).getD .non = _
      rw [in_one]
      rfl
    rw [m] at cm
    exact cm
theorem figs_cps : ("0123456789" : Str).cps.toList = [48, 49, 50, 51, 52, 53, 54, 55, 56, 57] := by decide +kernel
theorem bits_cps : ("01" : Str).cps.toList = [48, 49] := by decide +kernel
theorem mk_figs (l : List Nat) : mkF "0123456789" l = true ↔ AllDigits l := by
  unfold mkF AllDigits
  rw [List.all_eq_true, figs_cps]
  refine forall_congr' fun c => forall_congr' fun _ => ?_
  rw [decide_eq_true_eq]
  simp only [List.mem_cons, List.not_mem_nil, or_false]
  omega
theorem mk_bits (l : List Nat) : mkF "01" l = true ↔ ∀ c ∈ l, c = 48 ∨ c = 49 := by
  unfold mkF
  rw [List.all_eq_true, bits_cps]
  refine forall_congr' fun c => forall_congr' fun _ => ?_
  rw [decide_eq_true_eq]
  simp only [List.mem_cons, List.not_mem_nil, or_false]
noncomputable def figsOk (l : List Nat) : Prop := l ≠ [] ∧ AllDigits l ∧ l.length ≤ 60 ∧ (l = [48] ∨ l.head? ≠ some 48)
theorem rfx_none (x : Str) (c : Nat) (most L n : Int) (b b' : Bool) (lx : x.length ≤ sizeLine) (hm : f_is_made_of [.str x, .str "0123456789"] = some (.bl true)) (hl : dLenS (.str x) = some (.int L)) (n1 : ¬ most < L) (e3 : atI x.cps.toList 0 = some c) (e4 : eqD (.str ⟨#[c]⟩) (.str "0") = some b) (e2 : eqD (.str x) (.str "0") = some b') (hb : b = false ∨ b' = true) : fx_read_figures [.str x, .int most] = none := by
  unfold fx_read_figures x_read_figures
  cases b with
  | false =>
    clear hb e2
    walk_at "ev"
  | true =>
    cases b' with
    | false => exact absurd hb (by decide)
    | true =>
      clear hb
      walk_at "ev"
theorem rfx_made (x : Str) (most : Int) (l1 : 1 ≤ sizeLine) (hm : f_is_made_of [.str x, .str "0123456789"] = some (.bl false)) : fx_read_figures [.str x, .int most] = some ("NoText" : Str) := by
  unfold fx_read_figures x_read_figures
  walk_at "ev"
theorem rfx_long (x : Str) (most L : Int) (l1 : 1 ≤ sizeLine) (hm : f_is_made_of [.str x, .str "0123456789"] = some (.bl true)) (hl : dLenS (.str x) = some (.int L)) (n1 : most < L) : fx_read_figures [.str x, .int most] = some ("NoText" : Str) := by
  unfold fx_read_figures x_read_figures
  walk_at "ev"
theorem rfx_zero (x : Str) (c : Nat) (most L : Int) (l1 : 1 ≤ sizeLine) (lx : x.length ≤ sizeLine) (hm : f_is_made_of [.str x, .str "0123456789"] = some (.bl true)) (hl : dLenS (.str x) = some (.int L)) (n1 : ¬ most < L) (e3 : atI x.cps.toList 0 = some c) (e4 : eqD (.str ⟨#[c]⟩) (.str "0") = some true) (e2 : eqD (.str x) (.str "0") = some false) : fx_read_figures [.str x, .int most] = some ("NoText" : Str) := by
  unfold fx_read_figures x_read_figures
  walk_at "ev"
theorem ok_of {l : List Nat} (h : AllDigits l) {x : Str} (e : x.cps.toList = l) : PyData.strOk x = true := strOk_of fun c hc => by
  have := h c (e ▸ hc)
  omega
theorem p_fig {x : Str} (h : figsOk x.cps.toList) : f_read_figures [.str x, .int 60] = some (.int (digitsVal x.cps.toList : Nat)) ∧ fx_read_figures [.str x, .int 60] = none := by
  obtain ⟨h1, h2, h3, h4⟩ := h
  have lx : x.length ≤ sizeLine := line_of (by rw [len_toList]; omega)
  have hm : f_is_made_of [.str x, .str "0123456789"] = some (.bl true) := by
    rw [p_made lx, (mk_figs _).mpr h2]
    cases hd : x.cps.toList with
    | nil => exact absurd hd h1
    | cons a r => rfl
  have ok := ok_of h2 rfl
  have hi : dIntT (.str x) = some (.int (digitsVal x.cps.toList : Nat)) := by
    unfold dIntT
    dsimp only
    rw [if_pos (by rw [len_toList]; omega), intText_digits h2 h1 (by rw [len_toList]; omega)]
    rfl
  cases hd : x.cps.toList with
  | nil => exact absurd hd h1
  | cons c r =>
    have c0 := h2 c (by rw [hd]; exact List.mem_cons_self)
    have hb : decide (c = 48) = false ∨ decide (x.cps.toList = [48]) = true := by
      rcases h4 with q | q
      · exact .inr (decide_eq_true q)
      · refine .inl (decide_eq_false fun z => q ?_)
        rw [hd, z]
        rfl
    have n1 : ¬ (60 : Int) < (x.length : Nat) := by rw [len_toList]; omega
    rw [← hd]
    exact ⟨rf_ok x c 60 (x.length : Nat) _ _ _ lx hm (dLenS_is lx rfl) n1 (by rw [hd, at0]) (eq_one c0.2 (by decide)) (eq_txt ok (by decide)) hb hi, rfx_none x c 60 (x.length : Nat) 0 _ _ lx hm (dLenS_is lx rfl) n1 (by rw [hd, at0]) (eq_one c0.2 (by decide)) (eq_txt ok (by decide)) hb⟩
theorem p_figX {x : Str} (lx : x.length ≤ sizeLine) (h : ¬ figsOk x.cps.toList) : fx_read_figures [.str x, .int 60] = some ("NoText" : Str) := by
  have one : 1 ≤ sizeLine := by decide
  have hm := p_made (x := x) (F := "0123456789") lx
  by_cases h1 : x.cps.toList = []
  · rw [h1] at hm
    exact rfx_made x 60 one hm
  · by_cases h2 : AllDigits x.cps.toList
    · rw [(mk_figs _).mpr h2] at hm
      have hm' : f_is_made_of [.str x, .str "0123456789"] = some (.bl true) := by
        rw [hm]
        cases hd : x.cps.toList with
        | nil => exact absurd hd h1
        | cons a r => rfl
      by_cases h3 : x.cps.toList.length ≤ 60
      · have h4 : x.cps.toList ≠ [48] ∧ x.cps.toList.head? = some 48 := by
          refine ⟨fun z => h ⟨h1, h2, h3, .inl z⟩, ?_⟩
          by_cases q : x.cps.toList.head? = some 48
          · exact q
          · exact absurd ⟨h1, h2, h3, .inr q⟩ h
        cases hd : x.cps.toList with
        | nil => exact absurd hd h1
        | cons c r =>
          have c48 : c = 48 := by
            have := h4.2
            rw [hd] at this
            exact Option.some.inj this
          refine rfx_zero x c 60 (x.length : Nat) one lx hm' (dLenS_is lx rfl) (by rw [len_toList]; omega) (by rw [hd, at0]) ((eq_one (c := c) (d := 48) (by omega) (by decide)).trans (by rw [decide_eq_true c48])) ((eq_txt (ok_of h2 rfl) (d := 48) (by decide)).trans (by rw [decide_eq_false h4.1]))
      · exact rfx_long x 60 (x.length : Nat) one hm' (dLenS_is lx rfl) (by rw [len_toList]; omega)
    · have q : mkF "0123456789" x.cps.toList = false := by
        cases z : mkF "0123456789" x.cps.toList with
        | false => rfl
        | true => exact absurd ((mk_figs _).mp z) h2
      rw [q, Bool.and_false] at hm
      exact rfx_made x 60 one hm
theorem ct_ok (x : Str) : f_check_text [.str x] = some .non ∧ fx_check_text [.str x] = none := by
  constructor
  · unfold f_check_text b_check_text
    walk_at "ev"
  · unfold fx_check_text x_check_text
    walk_at "ev"
theorem rnx_pos (x : Str) (hc : f_check_text [.str x] = some .non) (hcx : fx_check_text [.str x] = none) (hs : gStartswith x "-" = some (.bl false)) (hf : fx_read_figures [.str x, .int 60] = some ("NoText" : Str)) : fx_read_number [.str x] = some ("NoText" : Str) := by
  unfold fx_read_number x_read_number
  walk_at "ev"
theorem rnx_neg (x y : Str) (hc : f_check_text [.str x] = some .non) (hcx : fx_check_text [.str x] = none) (hs : gStartswith x "-" = some (.bl true)) (h2 : dSlS (.str x) (some 1) none = some (.str y)) (hf : fx_read_figures [.str y, .int 60] = some ("NoText" : Str)) : fx_read_number [.str x] = some ("NoText" : Str) := by
  unfold fx_read_number x_read_number
  walk_at "ev"
theorem rnx_zero (x y : Str) (l1 : 1 ≤ sizeLine) (hc : f_check_text [.str x] = some .non) (hcx : fx_check_text [.str x] = none) (hs : gStartswith x "-" = some (.bl true)) (h2 : dSlS (.str x) (some 1) none = some (.str y)) (hf : fx_read_figures [.str y, .int 60] = none) (hg : f_read_figures [.str y, .int 60] = some (.int 0)) : fx_read_number [.str x] = some ("NoText" : Str) := by
  unfold fx_read_number x_read_number
  walk_at "ev"
noncomputable def numOk (l : List Nat) : Prop := (l.head? ≠ some 45 ∧ figsOk l) ∨ ∃ r, l = 45 :: r ∧ figsOk r ∧ r ≠ [48]
theorem e45 : ("-" : Str) = ⟨#[45]⟩ := by decide +kernel
theorem p_num {x : Str} (lx : x.length ≤ sizeLine) (h : numOk x.cps.toList) : ∃ n : Int, f_read_number [.str x] = some (.int n) ∧ tx n = x ∧ N60 n := by
  have pw : ∀ l : List Nat, AllDigits l → l.length ≤ 60 → digitsVal l < 1000000000000000000000000000000000000000000000000000000000000 := fun l hd hl => by
    have q : ∀ (n : Nat) (l : List Nat), l.length = n → AllDigits l → digitsVal l < 10 ^ n := by
      intro n
      induction n with
      | zero => intro l hn _; rw [List.length_eq_zero_iff.mp hn]; decide
      | succ n ih =>
        intro l hn hd
        have hne : l ≠ [] := fun z => by rw [z] at hn; cases hn
        obtain ⟨p, c, rfl⟩ : ∃ p c, l = p ++ [c] := ⟨l.dropLast, l.getLast hne, (List.dropLast_concat_getLast hne).symm⟩
        have hc := hd c (by simp)
        have hp := ih p (by rw [List.length_append, List.length_singleton] at hn; omega) (fun d h => hd d (List.mem_append_left _ h))
        rw [val_snoc, Nat.pow_succ]
        omega
    have e : (10 : Nat) ^ 60 = 1000000000000000000000000000000000000000000000000000000000000 := by decide +kernel
    rw [← e]
    exact Nat.lt_of_lt_of_le (q _ l rfl hd) (Nat.pow_le_pow_right (by decide) hl)
  rcases h with ⟨h0, h⟩ | ⟨r, e, h, h0⟩
  · have hv := digs_val _ x.cps.toList rfl h.2.1 h.1 h.2.2.2
    have bd := pw _ h.2.1 h.2.2.1
    refine ⟨(digitsVal x.cps.toList : Nat), rn_pos x _ (ct_ok x).1 (by rw [e45, starts_one, decide_eq_false (by rw [← List.head?_eq_getElem?]; exact h0)]) (p_fig h).1, str_ext ((tx_nat _).trans hv), by unfold N60; omega⟩
  · have ey : (⟨r.toArray⟩ : Str).cps.toList = r := by simp
    have hr : figsOk (⟨r.toArray⟩ : Str).cps.toList := by rw [ey]; exact h
    have hv := digs_val _ r rfl h.2.1 h.1 h.2.2.2
    have bd := pw _ h.2.1 h.2.2.1
    have pos : 0 < digitsVal r := by
      rcases Nat.eq_zero_or_pos (digitsVal r) with z | z
      · rw [z, digs_small (by decide)] at hv
        exact absurd hv.symm h0
      · exact z
    have q := (p_fig hr).1
    rw [ey] at q
    refine ⟨-((digitsVal r : Nat) : Int), rn_neg x ⟨r.toArray⟩ _ (ct_ok x).1 (by rw [e45, starts_one, e]; rfl) (dSlS_is lx (sl_rest e)) q (by omega), str_ext ?_, by unfold N60; omega⟩
    rw [tx_neg pos, hv, e]
theorem p_numX {x : Str} (lx : x.length ≤ sizeLine) (h : ¬ numOk x.cps.toList) : fx_read_number [.str x] = some ("NoText" : Str) := by
  cases hd : x.cps.toList with
  | nil =>
    refine rnx_pos x (ct_ok x).1 (ct_ok x).2 (by rw [e45, starts_one, hd]; rfl) (p_figX lx fun z => ?_)
    exact z.1 hd
  | cons c r =>
    by_cases c45 : c = 45
    · subst c45
      have ey : (⟨r.toArray⟩ : Str).cps.toList = r := by simp
      have ly : (⟨r.toArray⟩ : Str).length ≤ sizeLine := by
        have e1 : (⟨r.toArray⟩ : Str).length = r.length := by rw [len_toList, ey]
        have e2 : x.length = r.length + 1 := by rw [len_toList, hd, List.length_cons]
        rw [e1]
        omega
      have hs : gStartswith x "-" = some (.bl true) := by rw [e45, starts_one, hd]; rfl
      by_cases hr : figsOk r
      · have hr' : figsOk (⟨r.toArray⟩ : Str).cps.toList := by rw [ey]; exact hr
        have r0 : r = [48] := by
          by_cases z : r = [48]
          · exact z
          · exact absurd (.inr ⟨r, hd, hr, z⟩) h
        have q := p_fig hr'
        rw [ey] at q
        refine rnx_zero x ⟨r.toArray⟩ (by decide) (ct_ok x).1 (ct_ok x).2 hs (dSlS_is lx (sl_rest hd)) q.2 ?_
        rw [q.1, r0]
        rfl
      · exact rnx_neg x ⟨r.toArray⟩ (ct_ok x).1 (ct_ok x).2 hs (dSlS_is lx (sl_rest hd)) (p_figX ly (by rw [ey]; exact hr))
    · have nh : x.cps.toList.head? ≠ some 45 := by
        rw [hd]
        intro z
        exact c45 (Option.some.inj z)
      exact rnx_pos x (ct_ok x).1 (ct_ok x).2 (by rw [e45, starts_one, hd, decide_eq_false (by intro z; exact c45 (Option.some.inj z))]) (p_figX lx fun z => h (.inl ⟨nh, z⟩))
end K51
set_option Elab.async false
set_option linter.all false
set_option maxRecDepth 100000
set_option maxHeartbeats 4000000
namespace K51
open PySem L2 PySem.NumText
local macro_rules | `(tactic| walk_at "ev") => `(tactic| simp [runS, runP, ev_bind, ev_ret, ev_lift, ev_var, ev_op2, ev_op1, ev_op1L, ev_op2L, ev_opO, ev_ixO, ev_test, ev_not, ev_and, ev_or, ev_andV, ev_orV, ev_notV, ev_if, ev_nil, ev_cons, ev_tup, ev_lst, ev_of, ev_call, ev_callL, ev_callS, ev_comp, ev_seq, ev_rng1, ev_rng2, ev_zip, ev_part, ev_sl, ev_slL, ev_chain, ev_sseq, ev_sset, ev_sown, ev_sasg, ev_sif, ev_sret, ev_sretL, ev_sretO, ev_snil, ev_sretN, ev_sbk, ev_sct, ev_sdrop, ev_smut, ev_sext, ev_sseti, ev_sfor, ev_gset, ev_saug, forRun, ixO, blO, lsO, lstOf, rng1, rng2, zip2, inO, slO, flatD, setI, gsNil, gsCons, gTupD, dI2, dI0, dB0, dAdd, dMulG, dIx, dLen, dInt, dSum, dAll, dAny, dTuple, dSeq, dSl_tto, dSl_tfrom, dSl_lto, dSl_lfrom, dNeg, dNotB, dIsB, isBl, dIsN, dNotN, dIsi, tyN, isTab, dAppend, dInsert0, okMul, okMul2, okMod, okDiv, okPow, okShr, at0, at1, at2, at3, at4, at5, ixN, dEq, dNe, eqD_int, eqD_bl, eqD_none, eqD_int_none, eqD_none_int, dJoin, strsD, join_one', le_line, lt_line, sTryAs, sTry, xIf, xCall, xThen, xNo, xSeq, xRaise, outLess, mCallB, runS1, mCallS1, scD, dIsX, mMM, ev_enum, enumO, ev_sextT, tupO, ev_rep, dCatL, runX, ev_divmod, dvm, mLend, dUp, dCnt, dCntT, ev_slS, ev_signs, ev_ifL, dSM, fnAt, mCallV, xCallV, mOr2, xOr2, *])
section
variable {t u F S : Str} {L : Int} {c : Nat} {b b1 b2 : Bool}
theorem n0 : (sSet 1 (mVar 0)) [some (.str t), none] = some (.nx [some (.str t), some (.str t)]) := by
  walk_at "ev"
theorem n1p (h1 : dSlS (.str t) none (some 1) = some (.str u)) (hm : eqD (.str u) (.str "-") = some false) : (sIf (mTest (mOp2 dEq (mSlS (mVar 0) (mRet none) (mPart (mRet (.int 1)))) (mRet (.str "-"))))
    (sSet 1 (mSlS (mVar 0) (mPart (mRet (.int 1))) (mRet none)))
    sNil) [some (.str t), some (.str t)] = some (.nx [some (.str t), some (.str t)]) := by
  walk_at "ev"
theorem n1n (h1 : dSlS (.str t) none (some 1) = some (.str u)) (hm : eqD (.str u) (.str "-") = some true) (h2 : dSlS (.str t) (some 1) none = some (.str F)) : (sIf (mTest (mOp2 dEq (mSlS (mVar 0) (mRet none) (mPart (mRet (.int 1)))) (mRet (.str "-"))))
    (sSet 1 (mSlS (mVar 0) (mPart (mRet (.int 1))) (mRet none)))
    sNil) [some (.str t), some (.str t)] = some (.nx [some (.str t), some (.str F)]) := by
  walk_at "ev"
theorem n2e (he : eqD (.str F) (.str "") = some true) : (sIf (mOr (mTest (mOp2 dEq (mVar 1) (mRet (.str "")))) (mOr (mTest (mOp2 dGt (mOp1 dLenS (mVar 1)) (mRet (.int 60)))) (mTest (mOp2 dNe (mOp2 (dSM gStrip) (mVar 1) (mRet (.str "0123456789"))) (mRet (.str ""))))))
    (sRet (mRet (.bl false)))
    sNil) [some (.str t), some (.str F)] = some (.rt (.bl false) [some (.str t), some (.str F)]) := by
  walk_at "ev"
theorem n2l (he : eqD (.str F) (.str "") = some false) (hl : dLenS (.str F) = some (.int L)) (h : 60 < L) : (sIf (mOr (mTest (mOp2 dEq (mVar 1) (mRet (.str "")))) (mOr (mTest (mOp2 dGt (mOp1 dLenS (mVar 1)) (mRet (.int 60)))) (mTest (mOp2 dNe (mOp2 (dSM gStrip) (mVar 1) (mRet (.str "0123456789"))) (mRet (.str ""))))))
    (sRet (mRet (.bl false)))
    sNil) [some (.str t), some (.str F)] = some (.rt (.bl false) [some (.str t), some (.str F)]) := by
  walk_at "ev"
theorem n2s (he : eqD (.str F) (.str "") = some false) (hl : dLenS (.str F) = some (.int L)) (h : ¬ 60 < L) (hs : gStrip F "0123456789" = some (.str S)) (hse : eqD (.str S) (.str "") = some false) : (sIf (mOr (mTest (mOp2 dEq (mVar 1) (mRet (.str "")))) (mOr (mTest (mOp2 dGt (mOp1 dLenS (mVar 1)) (mRet (.int 60)))) (mTest (mOp2 dNe (mOp2 (dSM gStrip) (mVar 1) (mRet (.str "0123456789"))) (mRet (.str ""))))))
    (sRet (mRet (.bl false)))
    sNil) [some (.str t), some (.str F)] = some (.rt (.bl false) [some (.str t), some (.str F)]) := by
  walk_at "ev"
theorem n2y (he : eqD (.str F) (.str "") = some false) (hl : dLenS (.str F) = some (.int L)) (h : ¬ 60 < L) (hs : gStrip F "0123456789" = some (.str S)) (hse : eqD (.str S) (.str "") = some true) : (sIf (mOr (mTest (mOp2 dEq (mVar 1) (mRet (.str "")))) (mOr (mTest (mOp2 dGt (mOp1 dLenS (mVar 1)) (mRet (.int 60)))) (mTest (mOp2 dNe (mOp2 (dSM gStrip) (mVar 1) (mRet (.str "0123456789"))) (mRet (.str ""))))))
    (sRet (mRet (.bl false)))
    sNil) [some (.str t), some (.str F)] = some (.nx [some (.str t), some (.str F)]) := by
  walk_at "ev"
theorem n3 (lf : F.length ≤ sizeLine) (h1 : eqD (.str F) (.str "0") = some b1) (h2 : eqD (.str t) (.str "0") = some b2) (h3 : atI F.cps.toList 0 = some c) (h4 : eqD (.str ⟨#[c]⟩) (.str "0") = some b) : (sRet (mOrV (mAndV (mOp2 dEq (mVar 1) (mRet (.str "0"))) (mOp2 dEq (mVar 0) (mRet (.str "0")))) (mOp2 dNe (mOp2 dIx (mVar 1) (mRet (.int 0))) (mRet (.str "0"))))) [some (.str t), some (.str F)] = some (.rt (.bl ((b1 && b2) || !b)) [some (.str t), some (.str F)]) := by
  cases b1 <;> cases b2 <;> cases b <;> walk_at "ev"
end
theorem seq_rt {f g : Rho → Option Out} {ρ ρ1 : Rho} {d : D} (h : f ρ = some (.rt d ρ1)) : sSeq f g ρ = some (.rt d ρ1) := by
  rw [ev_sseq, h]
  rfl
theorem eq_nil {x : Str} (ho : PyData.strOk x = true) : eqD (.str x) (.str "") = some (decide (x.cps.toList = [])) := by
  rw [eqD_str ho (by decide +kernel)]
  congr 1
  rw [Bool.eq_iff_iff, beq_iff_eq, decide_eq_true_eq]
  exact ⟨fun z => by rw [z]; rfl, fun z => str_ext z⟩
theorem strip_is {x y : Str} (lx : x.length ≤ sizeLine) : gStrip x y = some (.str (stripT x y)) := by
  unfold gStrip
  rw [if_pos (Nat.le_trans (strip_len x y) lx)]
theorem strip_ok {x y : Str} (h : PyData.strOk x = true) : PyData.strOk (stripT x y) = true := strOk_of fun c hc => by
  obtain ⟨lo, hi, e, _⟩ := strip_at x y
  rw [e, StrLaws.strSub_toList] at hc
  have m := List.mem_of_mem_drop (List.mem_of_mem_take hc)
  unfold PyData.strOk at h
  rw [← Array.all_toList, List.all_eq_true] at h
  simpa using h c m
theorem contains_iff (y : Str) (c : Nat) : y.cps.contains c = true ↔ c ∈ y.cps.toList := by simp
theorem strip_figs {x : Str} : (stripT x "0123456789").cps.toList = [] ↔ AllDigits x.cps.toList := by
  rw [strip_nil]
  unfold AllDigits
  refine forall_congr' fun c => forall_congr' fun _ => ?_
  rw [contains_iff, figs_cps]
  simp only [List.mem_cons, List.not_mem_nil, or_false]
  omega
theorem strip_bits {x : Str} : (stripT x "01").cps.toList = [] ↔ ∀ c ∈ x.cps.toList, c = 48 ∨ c = 49 := by
  rw [strip_nil]
  refine forall_congr' fun c => forall_congr' fun _ => ?_
  rw [contains_iff, bits_cps]
  simp only [List.mem_cons, List.not_mem_nil, or_false]
theorem w_fig {t F : Str} (ht : PyData.strOk t = true) (hf : PyData.strOk F = true) (lf : F.length ≤ sizeLine) : ∃ (b : Bool) (ρ : Rho), sSeq (sIf (mOr (mTest (mOp2 dEq (mVar 1) (mRet (.str "")))) (mOr (mTest (mOp2 dGt (mOp1 dLenS (mVar 1)) (mRet (.int 60)))) (mTest (mOp2 dNe (mOp2 (dSM gStrip) (mVar 1) (mRet (.str "0123456789"))) (mRet (.str ""))))))
    (sRet (mRet (.bl false)))
    sNil) (sRet (mOrV (mAndV (mOp2 dEq (mVar 1) (mRet (.str "0"))) (mOp2 dEq (mVar 0) (mRet (.str "0")))) (mOp2 dNe (mOp2 dIx (mVar 1) (mRet (.int 0))) (mRet (.str "0"))))) [some (.str t), some (.str F)] = some (.rt (.bl b) ρ) ∧ (b = true ↔ F.cps.toList ≠ [] ∧ AllDigits F.cps.toList ∧ F.cps.toList.length ≤ 60 ∧ (F.cps.toList = [48] ∧ t.cps.toList = [48] ∨ F.cps.toList.head? ≠ some 48)) := by
  have he := eq_nil hf
  have hl := dLenS_is (x := F) lf rfl
  by_cases h1 : F.cps.toList = []
  · rw [decide_eq_true h1] at he
    exact ⟨false, _, seq_rt (n2e he), by simp [h1]⟩
  · rw [decide_eq_false h1] at he
    by_cases h2 : 60 < F.cps.toList.length
    · exact ⟨false, _, seq_rt (n2l he hl (by rw [len_toList]; omega)), ⟨(fun z => nomatch z), fun z => absurd z.2.2.1 (by omega)⟩⟩
    · have hn : ¬ (60 : Int) < (F.length : Nat) := by rw [len_toList]; omega
      have hse := eq_nil (strip_ok (y := "0123456789") hf)
      by_cases h3 : AllDigits F.cps.toList
      · rw [decide_eq_true (strip_figs.mpr h3)] at hse
        cases hd : F.cps.toList with
        | nil => exact absurd hd h1
        | cons c r =>
          have c0 := h3 c (by rw [hd]; exact List.mem_cons_self)
          refine ⟨_, _, (seq_nx (n2y he hl hn (strip_is lf) hse)).trans (n3 lf (eq_txt hf (d := 48) (by decide)) (eq_txt ht (d := 48) (by decide)) (c := c) (by rw [hd, at0]) (eq_one (d := 48) c0.2 (by decide))), ?_⟩
          rw [hd] at h3 h2
          have e1 : (c :: r).length ≤ 60 := by omega
          rw [hd]
          simp only [Bool.or_eq_true, Bool.and_eq_true, decide_eq_true_eq, Bool.not_eq_true', decide_eq_false_iff_not, ne_eq, reduceCtorEq, not_false_eq_true, true_and, h3, e1, List.head?_cons, Option.some.injEq]
      · rw [decide_eq_false fun z => h3 (strip_figs.mp z)] at hse
        exact ⟨false, _, seq_rt (n2s he hl hn (strip_is lf) hse), by simp [h3]⟩
theorem sl_none {x : Str} (h : x.cps.toList = []) : Txt.slice x none (some 1) = Str.empty := by
  have l : (Txt.slice x none (some 1)).length ≤ 0 := Nat.le_trans (Txt.slice_le x none (some 1)) (by rw [len_toList, h]; exact Nat.le_refl _)
  refine str_ext ?_
  rw [len_toList] at l
  exact List.length_eq_zero_iff.mp (by omega)
theorem v_writes {t : Str} (ht : PyData.strOk t = true) (lt : t.length ≤ sizeLine) : ∃ b : Bool, f__law_writes_number [.str t] = some (.bl b) ∧ (b = true ↔ numOk t.cps.toList) := by
  have em : eqD (.str Str.empty) (.str "-") = some false := by rw [eqD_str (by decide +kernel) (by decide +kernel)]; decide +kernel
  unfold f__law_writes_number b__law_writes_number
  cases hd : t.cps.toList with
  | nil =>
    obtain ⟨b, ρ, e, h⟩ := w_fig ht ht lt
    refine ⟨b, run_of rfl ⟨ρ, (seq_nx n0).trans <| (seq_nx (n1p (dSlS_is lt (sl_none hd)) em)).trans e⟩, h.trans ?_⟩
    rw [hd]
    unfold numOk figsOk
    simp
  | cons c r =>
    have c0 : c < 0x110000 := by
      unfold PyData.strOk at ht
      rw [← Array.all_toList, List.all_eq_true] at ht
      simpa using ht c (by rw [hd]; exact List.mem_cons_self)
    have eu : eqD (.str ⟨#[c]⟩) (.str "-") = some (decide (c = 45)) := by
      have oc : PyData.strOk (⟨#[c]⟩ : Str) = true := strOk_of fun d h => by
        have : d = c := by simpa using h
        omega
      rw [eqD_str oc (by decide +kernel)]
      congr 1
      rw [Bool.eq_iff_iff, beq_iff_eq, decide_eq_true_eq, e45]
      exact ⟨fun z => by simpa using congrArg (fun s : Str => s.cps.toList) z, fun z => by rw [z]⟩
    by_cases c45 : c = 45
    · rw [decide_eq_true c45] at eu
      subst c45
      have ey : (⟨r.toArray⟩ : Str).cps.toList = r := by simp
      have fo : PyData.strOk (⟨r.toArray⟩ : Str) = true := strOk_of fun d h => by
        unfold PyData.strOk at ht
        rw [← Array.all_toList, List.all_eq_true] at ht
        rw [ey] at h
        simpa using ht d (by rw [hd]; exact List.mem_cons_of_mem _ h)
      have lf : (⟨r.toArray⟩ : Str).length ≤ sizeLine := by
        have e1 : (⟨r.toArray⟩ : Str).length = r.length := by rw [len_toList, ey]
        have e2 : t.length = r.length + 1 := by rw [len_toList, hd, List.length_cons]
        rw [e1]
        omega
      obtain ⟨b, ρ, e, h⟩ := w_fig (F := ⟨r.toArray⟩) ht fo lf
      refine ⟨b, run_of rfl ⟨ρ, (seq_nx n0).trans <| (seq_nx (n1n (dSlS_is lt (sl_one hd)) eu (dSlS_is lt (sl_rest hd)))).trans e⟩, h.trans ?_⟩
      rw [ey, hd]
      unfold numOk figsOk
      constructor
      · rintro ⟨a1, a2, a3, a4⟩
        refine .inr ⟨r, rfl, ⟨a1, a2, a3, ?_⟩, ?_⟩
        · rcases a4 with ⟨_, q⟩ | q
          · cases q
          · exact .inr q
        · rintro rfl
          rcases a4 with ⟨_, q⟩ | q
          · cases q
          · exact q rfl
      · rintro (⟨q, _⟩ | ⟨r', e', ⟨a1, a2, a3, a4⟩, a5⟩)
        · exact absurd rfl q
        · cases e'
          refine ⟨a1, a2, a3, .inr ?_⟩
          rcases a4 with q | q
          · exact absurd q a5
          · exact q
    · rw [decide_eq_false c45] at eu
      obtain ⟨b, ρ, e, h⟩ := w_fig ht ht lt
      refine ⟨b, run_of rfl ⟨ρ, (seq_nx n0).trans <| (seq_nx (n1p (dSlS_is lt (sl_one hd)) eu)).trans e⟩, h.trans ?_⟩
      rw [hd]
      unfold numOk figsOk
      constructor
      · rintro ⟨a1, a2, a3, a4⟩
        refine .inl ⟨fun z => c45 (Option.some.inj z), a1, a2, a3, ?_⟩
        rcases a4 with ⟨q, _⟩ | q
        · exact .inl q
        · exact .inr q
      · rintro (⟨_, a1, a2, a3, a4⟩ | ⟨r', e', _⟩)
        · refine ⟨a1, a2, a3, ?_⟩
          rcases a4 with q | q
          · exact .inl ⟨q, q⟩
          · exact .inr q
        · cases e'
          exact absurd rfl c45
theorem h6 : eqD (.lst [.bl true, .bl false, .bl true, .bl false]) (.lst [.bl true, .bl false, .bl true, .bl false]) = some true := eqD_self (DOks.lst (DOks.all (n := 0) fun d hd => by
  simp only [List.mem_cons, List.not_mem_nil, or_false] at hd
  rcases hd with rfl | rfl | rfl | rfl <;> exact .bl _ _)) (by decide)
theorem v_refN (d : D) (hx : fx_read_number [d] = some ("NoText" : Str)) : f__law_refused [.fn "read_number", d, .lst [.bl true, .bl false]] = some (.bl true) := by
  have h1 : ("NoText" : Str) ∈ tk_WayError := by decide +kernel
  have h2 : eb_NoPlace_NoSigns_NoWord_T.lookup ("NoText" : Str) = some false := by decide +kernel
  have h3 : eb_NoText.lookup ("NoText" : Str) = some true := by decide +kernel
  have h4 : eb_NoScheme.lookup ("NoText" : Str) = some false := by decide +kernel
  have h5 : eb_ValueError.lookup ("NoText" : Str) = some true := by decide +kernel
  have h6 := h6
  have l0 : 0 ≤ sizeLine := by decide
  have l2 : 2 ≤ sizeLine := by decide
  have l4 : 4 ≤ sizeLine := by decide
  unfold f__law_refused b__law_refused
  generalize tk_WayError = A1 at h1 ⊢
  generalize eb_NoPlace_NoSigns_NoWord_T = A2 at h2 ⊢
  generalize eb_NoText = A3 at h3 ⊢
  generalize eb_NoScheme = A4 at h4 ⊢
  generalize eb_ValueError = A5 at h5 ⊢
  walk_at "ev"
theorem v_refW (d : D) (hx : fx_read_word [d] = some ("NoText" : Str)) : f__law_refused [.fn "read_word", d, .lst [.bl true, .bl false]] = some (.bl true) := by
  have ne : (("read_word" : Str) == ("read_number" : Str)) = false := by decide +kernel
  have ne2 : ¬ (("read_word" : Str) = ("read_number" : Str)) := by decide +kernel
  have h1 : ("NoText" : Str) ∈ tk_WayError := by decide +kernel
  have h2 : eb_NoPlace_NoSigns_NoWord_T.lookup ("NoText" : Str) = some false := by decide +kernel
  have h3 : eb_NoText.lookup ("NoText" : Str) = some true := by decide +kernel
  have h4 : eb_NoScheme.lookup ("NoText" : Str) = some false := by decide +kernel
  have h5 : eb_ValueError.lookup ("NoText" : Str) = some true := by decide +kernel
  have h6 := h6
  have l0 : 0 ≤ sizeLine := by decide
  have l2 : 2 ≤ sizeLine := by decide
  have l4 : 4 ≤ sizeLine := by decide
  unfold f__law_refused b__law_refused
  generalize tk_WayError = A1 at h1 ⊢
  generalize eb_NoPlace_NoSigns_NoWord_T = A2 at h2 ⊢
  generalize eb_NoText = A3 at h3 ⊢
  generalize eb_NoScheme = A4 at h4 ⊢
  generalize eb_ValueError = A5 at h5 ⊢
  walk_at "ev"
theorem nr_no (t : Str) (hw : f__law_writes_number [.str t] = some (.bl false)) (hr : f__law_refused [.fn "read_number", .str t, .lst [.bl true, .bl false]] = some (.bl true)) (l2 : 2 ≤ sizeLine) : f__law_number_right [.str t] = some (.bl true) := by
  unfold f__law_number_right b__law_number_right
  walk_at "ev"
theorem nr_yes (t : Str) (n : Int) (hw : f__law_writes_number [.str t] = some (.bl true)) (hr : f_read_number [.str t] = some (.int n)) (hs : dStr (.int n) = some (.str t)) (he : eqD (.str t) (.str t) = some true) : f__law_number_right [.str t] = some (.bl true) := by
  unfold f__law_number_right b__law_number_right
  walk_at "ev"
theorem v_number_right {t : Str} (ht : PyData.strOk t = true) (lt : t.length ≤ sizeLine) : f__law_number_right [.str t] = some (.bl true) := by
  obtain ⟨b, hw, hb⟩ := v_writes ht lt
  cases b with
  | true =>
    obtain ⟨n, h1, h2, h3⟩ := p_num lt (hb.mp rfl)
    have hs := h3.str
    rw [h2] at hs
    exact nr_yes t n hw h1 hs (eqD_self (.str 0 ht) (by decide))
  | false => exact nr_no t hw (v_refN _ (p_numX lt fun z => by have := hb.mpr z; cases this)) (by decide)
end K51
set_option Elab.async false
set_option linter.all false
set_option maxRecDepth 100000
set_option maxHeartbeats 4000000
namespace K51
open PySem L2 PySem.NumText
local macro_rules | `(tactic| walk_at "ev") => `(tactic| simp [runS, runP, ev_bind, ev_ret, ev_lift, ev_var, ev_op2, ev_op1, ev_op1L, ev_op2L, ev_opO, ev_ixO, ev_test, ev_not, ev_and, ev_or, ev_andV, ev_orV, ev_notV, ev_if, ev_nil, ev_cons, ev_tup, ev_lst, ev_of, ev_call, ev_callL, ev_callS, ev_comp, ev_seq, ev_rng1, ev_rng2, ev_zip, ev_part, ev_sl, ev_slL, ev_chain, ev_sseq, ev_sset, ev_sown, ev_sasg, ev_sif, ev_sret, ev_sretL, ev_sretO, ev_snil, ev_sretN, ev_sbk, ev_sct, ev_sdrop, ev_smut, ev_sext, ev_sseti, ev_sfor, ev_gset, ev_saug, forRun, ixO, blO, lsO, lstOf, rng1, rng2, zip2, inO, slO, flatD, setI, gsNil, gsCons, gTupD, dI2, dI0, dB0, dAdd, dMulG, dIx, dLen, dInt, dSum, dAll, dAny, dTuple, dSeq, dSl_tto, dSl_tfrom, dSl_lto, dSl_lfrom, dNeg, dNotB, dIsB, isBl, dIsN, dNotN, dIsi, tyN, isTab, dAppend, dInsert0, okMul, okMul2, okMod, okDiv, okPow, okShr, at0, at1, at2, at3, at4, at5, ixN, dEq, dNe, eqD_int, eqD_bl, eqD_none, eqD_int_none, eqD_none_int, dJoin, strsD, join_one', le_line, lt_line, sTryAs, sTry, xIf, xCall, xThen, xNo, xSeq, xRaise, outLess, mCallB, runS1, mCallS1, scD, dIsX, mMM, ev_enum, enumO, ev_sextT, tupO, ev_rep, dCatL, runX, ev_divmod, dvm, mLend, dUp, dCnt, dCntT, ev_slS, ev_signs, ev_ifL, dSM, fnAt, mCallV, xCallV, mOr2, xOr2, *])
theorem rbx_no (x : Str) (l1 : 1 ≤ sizeLine) (hm : f_is_made_of [.str x, .str "01"] = some (.bl false)) : fx_read_bits [.str x] = some ("NoText" : Str) := by
  unfold fx_read_bits x_read_bits
  walk_at "ev"
theorem rw_none (he : eqD (.str "-") (.str "-") = some true) (z0 : 0 ≤ sizeLine) (hc : f_check_text [.str "-"] = some .non) : f_read_word [.str "-"] = some (.lst []) := by
  unfold f_read_word b_read_word
  walk_at "ev"
theorem rw_some (x : Str) (W : List D) (hc : f_check_text [.str x] = some .non) (he : eqD (.str x) (.str "-") = some false) (hb : f_read_bits [.str x] = some (.lst W)) : f_read_word [.str x] = some (.lst W) := by
  unfold f_read_word b_read_word
  walk_at "ev"
theorem rwx_no (x : Str) (hc : f_check_text [.str x] = some .non) (hcx : fx_check_text [.str x] = none) (he : eqD (.str x) (.str "-") = some false) (hb : fx_read_bits [.str x] = some ("NoText" : Str)) : fx_read_word [.str x] = some ("NoText" : Str) := by
  unfold fx_read_word x_read_word
  walk_at "ev"
theorem ww_dash (t : Str) (h : eqD (.str t) (.str "-") = some true) : f__law_writes_word [.str t] = some (.bl true) := by
  unfold f__law_writes_word b__law_writes_word
  walk_at "ev"
theorem ww_none (t : Str) (h : eqD (.str t) (.str "-") = some false) (h2 : eqD (.str t) (.str "") = some true) : f__law_writes_word [.str t] = some (.bl false) := by
  unfold f__law_writes_word b__law_writes_word
  walk_at "ev"
theorem ww_else (t S : Str) (b : Bool) (h : eqD (.str t) (.str "-") = some false) (h2 : eqD (.str t) (.str "") = some false) (hs : gStrip t "01" = some (.str S)) (hb : eqD (.str S) (.str "") = some b) : f__law_writes_word [.str t] = some (.bl b) := by
  unfold f__law_writes_word b__law_writes_word
  walk_at "ev"
noncomputable def valW (l : List Nat) : List Int := l.map fun (c : Nat) => (c : Int) - 48
theorem valW_bits {l : List Nat} (h : ∀ c ∈ l, c = 48 ∨ c = 49) : ∀ b ∈ valW l, b = 0 ∨ b = 1 := fun b hb => by
  obtain ⟨c, hc, rfl⟩ := List.mem_map.mp hb
  rcases h c hc with rfl | rfl
  · exact .inl rfl
  · exact .inr rfl
theorem valW_signs {l : List Nat} (h : ∀ c ∈ l, c = 48 ∨ c = 49) : (l.map fun c => D.str ⟨#[c]⟩) = ((valW l).map tx).map D.str := by
  unfold valW
  rw [List.map_map, List.map_map]
  refine List.map_congr_left fun c hc => ?_
  show D.str ⟨#[c]⟩ = D.str (tx ((c : Int) - 48))
  rcases h c hc with rfl | rfl
  · rw [show ((48 : Nat) : Int) - 48 = 0 from rfl, show tx 0 = ⟨#[48]⟩ from str_of tx0c]
  · rw [show ((49 : Nat) : Int) - 48 = 1 from rfl, show tx 1 = ⟨#[49]⟩ from str_of tx1c]
theorem signs_inj {x y : Str} (h : signsD x = signsD y) : x = y := by
  refine str_ext ?_
  unfold signsD at h
  have : ∀ (l m : List Nat), (l.map fun c => D.str ⟨#[c]⟩) = (m.map fun c => D.str ⟨#[c]⟩) → l = m := by
    intro l
    induction l with
    | nil => intro m e; cases m with
      | nil => rfl
      | cons a r => cases e
    | cons a r ih => intro m e; cases m with
      | nil => cases e
      | cons b s =>
        rw [List.map_cons, List.map_cons, List.cons.injEq] at e
        have e1 : a = b := by
          have := e.1
          simpa using this
        rw [e1, ih s e.2]
  exact this _ _ h
theorem rowT_is {t : Str} (h : ∀ c ∈ t.cps.toList, c = 48 ∨ c = 49) : rowT (valW t.cps.toList) = t := signs_inj ((rowT_cps (valW_bits h)).trans (valW_signs h).symm)
theorem p_bits {t : Str} (ne : t.cps.toList ≠ []) (lt : t.cps.toList.length ≤ 60) (h : ∀ c ∈ t.cps.toList, c = 48 ∨ c = 49) : f_read_bits [.str t] = some (.lst ((valW t.cps.toList).map D.int)) := by
  have lx : t.length ≤ sizeLine := line_of (by rw [len_toList]; omega)
  have hm : f_is_made_of [.str t, .str "01"] = some (.bl true) := by
    rw [p_made lx, (mk_bits _).mpr h]
    cases hd : t.cps.toList with
    | nil => exact absurd hd ne
    | cons a r => rfl
  have vb := valW_bits h
  refine rb_end t (signsD t) _ hm rfl (by unfold signsD; rw [List.length_map, ← len_toList]; exact lx) ?_
  have es : signsD t = ((valW t.cps.toList).map tx).map D.str := valW_signs h
  rw [es]
  generalize valW t.cps.toList = w at vb
  have cm := fun ρ => cm_map (n := 1) (js := []) (fg := gSet 0) (fe := mOp1 dIntT (mVar 0)) (ρ := ρ) (fun d => (dIntT d).getD .non) ((w.map tx).map D.str) (fun x hx => by
    obtain ⟨y, hy, rfl⟩ := List.mem_map.mp hx
    obtain ⟨b, hb, rfl⟩ := List.mem_map.mp hy
    have e := (bit60 (vb b hb)).back
    refine ⟨[some (.str (tx b))], rfl, ?_⟩
    rw [e]
    clear hx hy hb es hm ne lt h
    generalize dIntT = J at e ⊢
    walk_at "ev")
  have m : ((w.map tx).map D.str).map (fun d => (dIntT d).getD .non) = w.map D.int := by
    rw [List.map_map, List.map_map]
    refine List.map_congr_left fun b hb => ?_
    show (dIntT (.str (tx b))).getD .non = _
    rw [(bit60 (vb b hb)).back]
    rfl
  rw [m] at cm
  exact cm _
section
variable {t : Str} {W Z : List D} {L M : Int} {b : Bool} {v2 v3 : Option D}
theorem q0n (hw : f__law_writes_word [.str t] = some (.bl false)) (hr : f__law_refused [.fn "read_word", .str t, .lst [.bl true, .bl false]] = some (.bl true)) (l2 : 2 ≤ sizeLine) : (sIf (mNot (mTest (mCall f__law_writes_word (mCons (mVar 0) mNil))))
    (sRet (mCall f__law_refused (mCons (mRet (.fn "read_word")) (mCons (mVar 0) (mCons (mOf (mLst (mCons (mRet (.bl true)) (mCons (mRet (.bl false)) mNil)))) mNil)))))
    sNil) [some (.str t), none, none, none] = some (.rt (.bl true) [some (.str t), none, none, none]) := by
  walk_at "ev"
theorem q0y (hw : f__law_writes_word [.str t] = some (.bl true)) : (sIf (mNot (mTest (mCall f__law_writes_word (mCons (mVar 0) mNil))))
    (sRet (mCall f__law_refused (mCons (mRet (.fn "read_word")) (mCons (mVar 0) (mCons (mOf (mLst (mCons (mRet (.bl true)) (mCons (mRet (.bl false)) mNil)))) mNil)))))
    sNil) [some (.str t), none, none, none] = some (.nx [some (.str t), none, none, none]) := by
  walk_at "ev"
theorem q1 (hr : f_read_word [.str t] = some (.lst W)) : (sSet 1 (mCall f_read_word (mCons (mVar 0) mNil))) [some (.str t), none, none, none] = some (.nx [some (.str t), some (.lst W), none, none]) := by
  walk_at "ev"
theorem q2 (hl : dLenS (.str t) = some (.int L)) (hW : dLen (.lst W) = some (.int M)) (he : eqD (.str t) (.str "-") = some b) (hm : M = L - (if b = true then 1 else 0)) : (sIf (mOr (mNot (mTest (mOp1 (dIsi (isTab "list")) (mVar 1)))) (mTest (mOp2 dNe (mOp1 dLen (mVar 1)) (mOp2 dSub (mOp1 dLenS (mVar 0)) (mOp1 dInt (mOp2 dEq (mVar 0) (mRet (.str "-"))))))))
    (sRet (mRet (.bl false)))
    sNil) [some (.str t), some (.lst W), none, none] = some (.nx [some (.str t), some (.lst W), none, none]) := by
  subst hm
  generalize dLen = J at hW ⊢
  cases b <;> walk_at "ev"
theorem q3 (hz : zipD W (signsD t) = Z) (lz : Z.length ≤ sizeLine) (hrun : forRun (gTupD 2 (gsCons (gSet 2) (gsCons (gSet 3) gsNil))) (sIf (mOr (mNot (mTest (mOp1 (dIsi (isTab "int")) (mVar 2)))) (mOr (mTest (mOp1 (dIsi (isTab "bool")) (mVar 2))) (mTest (mOp2 dNe (mVar 2) (mOp2 (dSM gIndex) (mRet (.str "01")) (mVar 3))))))
    (sRet (mRet (.bl false)))
    sNil) Z [some (.str t), some (.lst W), none, none] = some (.nx [some (.str t), some (.lst W), v2, v3])) : (sFor (mZips (mCons (mVar 1) (mCons (mVar 0) mNil))) (gTupD 2 (gsCons (gSet 2) (gsCons (gSet 3) gsNil)))
    (sIf (mOr (mNot (mTest (mOp1 (dIsi (isTab "int")) (mVar 2)))) (mOr (mTest (mOp1 (dIsi (isTab "bool")) (mVar 2))) (mTest (mOp2 dNe (mVar 2) (mOp2 (dSM gIndex) (mRet (.str "01")) (mVar 3))))))
    (sRet (mRet (.bl false)))
    sNil)) [some (.str t), some (.lst W), none, none] = some (.nx [some (.str t), some (.lst W), v2, v3]) := by
  unfold mZips
  walk_at "ev"
theorem qb (n : Int) (s : Str) (hi : gIndex "01" s = some (.int n)) : (sIf (mOr (mNot (mTest (mOp1 (dIsi (isTab "int")) (mVar 2)))) (mOr (mTest (mOp1 (dIsi (isTab "bool")) (mVar 2))) (mTest (mOp2 dNe (mVar 2) (mOp2 (dSM gIndex) (mRet (.str "01")) (mVar 3))))))
    (sRet (mRet (.bl false)))
    sNil) [some (.str t), some (.lst W), some (.int n), some (.str s)] = some (.nx [some (.str t), some (.lst W), some (.int n), some (.str s)]) := by
  generalize gIndex = J at hi ⊢
  walk_at "ev"
theorem q4 (hs : f_shown_word [.lst W] = some (.str t)) (he : eqD (.str t) (.str t) = some true) : (sRet (mOp2 dEq (mCall f_shown_word (mCons (mVar 1) mNil)) (mVar 0))) [some (.str t), some (.lst W), v2, v3] = some (.rt (.bl true) [some (.str t), some (.lst W), v2, v3]) := by
  walk_at "ev"
end
theorem ix_bit {c : Nat} (h : c = 48 ∨ c = 49) : gIndex "01" ⟨#[c]⟩ = some (.int ((c : Int) - 48)) := by
  rcases h with rfl | rfl
  · obtain ⟨t, e⟩ := occ_at (x := "01") (c := 48) (l := []) (r := [49]) bits_cps (by simp)
    unfold gIndex
    rw [e]
    rfl
  · obtain ⟨t, e⟩ := occ_at (x := "01") (c := 49) (l := [48]) (r := []) bits_cps (by simp)
    unfold gIndex
    rw [e]
    rfl
theorem q_run (t : Str) (W : List D) : ∀ (l : List Nat) (v2 v3 : Option D), (∀ c ∈ l, c = 48 ∨ c = 49) → ∃ v2' v3', forRun (gTupD 2 (gsCons (gSet 2) (gsCons (gSet 3) gsNil))) (sIf (mOr (mNot (mTest (mOp1 (dIsi (isTab "int")) (mVar 2)))) (mOr (mTest (mOp1 (dIsi (isTab "bool")) (mVar 2))) (mTest (mOp2 dNe (mVar 2) (mOp2 (dSM gIndex) (mRet (.str "01")) (mVar 3))))))
    (sRet (mRet (.bl false)))
    sNil) (zipD ((valW l).map D.int) (l.map fun c => D.str ⟨#[c]⟩)) [some (.str t), some (.lst W), v2, v3] = some (.nx [some (.str t), some (.lst W), v2', v3'])
  | [], v2, v3, _ => ⟨v2, v3, rfl⟩
  | c :: l, v2, v3, h => by
    obtain ⟨v2', v3', e⟩ := q_run t W l (some (.int ((c : Int) - 48))) (some (.str ⟨#[c]⟩)) fun x hx => h x (List.mem_cons_of_mem _ hx)
    refine ⟨v2', v3', ?_⟩
    have b := qb (t := t) (W := W) ((c : Int) - 48) ⟨#[c]⟩ (ix_bit (h c List.mem_cons_self))
    show forRun _ _ (D.tup [.int ((c : Int) - 48), .str ⟨#[c]⟩] :: zipD ((valW l).map D.int) (l.map fun c => D.str ⟨#[c]⟩)) _ = _
    rw [forRun]
    have g : gTupD 2 (gsCons (gSet 2) (gsCons (gSet 3) gsNil)) (D.tup [.int ((c : Int) - 48), .str ⟨#[c]⟩]) [some (.str t), some (.lst W), v2, v3] = some [some (.str t), some (.lst W), some (.int ((c : Int) - 48)), some (.str ⟨#[c]⟩)] := rfl
    rw [g]
    dsimp only
    rw [b]
    exact e
theorem v_word_right {t : Str} (ht : PyData.strOk t = true) (l60 : t.cps.toList.length ≤ 60) : f__law_word_right [.str t] = some (.bl true) := by
  have lx : t.length ≤ sizeLine := line_of (by rw [len_toList]; omega)
  have hc := ct_ok t
  have he := eq_txt ht (d := 45) (by decide)
  have two : 2 ≤ sizeLine := by decide
  have same : eqD (.str t) (.str t) = some true := eqD_self (.str 0 ht) (by decide)
  unfold f__law_word_right b__law_word_right
  by_cases hd : t.cps.toList = [45]
  · rw [decide_eq_true hd] at he
    have et : t = "-" := str_ext (by rw [hd]; rfl)
    have hr : f_read_word [.str t] = some (.lst []) := by
      rw [et] at he hc ⊢
      exact rw_none he (by decide) hc.1
    refine run_of rfl ⟨_, (seq_nx (q0y (ww_dash t he))).trans <| (seq_nx (q1 hr)).trans <| (seq_nx (q2 (L := 1) (M := 0) (dLenS_is lx (by rw [len_toList, hd]; rfl)) rfl he (by decide))).trans <| (seq_nx (q3 (v2 := none) (v3 := none) (Z := []) rfl (by decide) rfl)).trans (q4 (by rw [et]; exact sw_none (by decide)) same)⟩
  · rw [decide_eq_false hd] at he
    have hn := eq_nil ht
    by_cases h0 : t.cps.toList = []
    · rw [decide_eq_true h0] at hn
      have hm := p_made (x := t) (F := "01") lx
      rw [h0] at hm
      exact run_of rfl ⟨_, seq_rt (q0n (ww_none t he hn) (v_refW _ (rwx_no t hc.1 hc.2 he (rbx_no t (by decide) hm))) two)⟩
    · rw [decide_eq_false h0] at hn
      have hs := eq_nil (strip_ok (y := "01") ht)
      have hw := ww_else t _ _ he hn (strip_is lx) hs
      by_cases hb : ∀ c ∈ t.cps.toList, c = 48 ∨ c = 49
      · rw [decide_eq_true (strip_bits.mpr hb)] at hw
        have hr := rw_some t _ hc.1 he (p_bits h0 l60 hb)
        have vb := valW_bits hb
        have vl : (valW t.cps.toList).length = t.cps.toList.length := by unfold valW; rw [List.length_map]
        obtain ⟨v2, v3, run⟩ := q_run t ((valW t.cps.toList).map D.int) t.cps.toList none none hb
        have sh : f_shown_word [.lst ((valW t.cps.toList).map D.int)] = some (.str t) := by
          have e := sw_some ((valW t.cps.toList).map D.int) _ (p_sbits (w := valW t.cps.toList) (by omega) vb _ (.inl rfl)) (by rw [List.length_map, vl]; exact List.length_pos_iff.mpr h0) (by rw [List.length_map, vl, ← len_toList]; exact lx)
          rw [rowT_is hb] at e
          exact e
        have lz : (zipD ((valW t.cps.toList).map D.int) (signsD t)).length ≤ sizeLine := by
          have : (zipD ((valW t.cps.toList).map D.int) (signsD t)).length ≤ t.cps.toList.length := by
            unfold zipD signsD
            rw [List.length_zipWith, List.length_map, List.length_map]
            omega
          exact line_of (by omega)
        have dl : dLen (.lst ((valW t.cps.toList).map D.int)) = some (.int (t.cps.toList.length : Nat)) := by
          unfold dLen
          first
            | (rw [if_pos (by rw [List.length_map, vl, ← len_toList]; exact lx), List.length_map, vl])
            | simp [vl]
        exact run_of rfl ⟨_, (seq_nx (q0y hw)).trans <| (seq_nx (q1 hr)).trans <| (seq_nx (q2 (L := (t.length : Nat)) (M := (t.cps.toList.length : Nat)) (dLenS_is lx rfl) dl he (by rw [len_toList]; simp))).trans <| (seq_nx (q3 (v2 := v2) (v3 := v3) rfl lz run)).trans (q4 sh same)⟩
      · rw [decide_eq_false fun z => hb (strip_bits.mp z)] at hw
        have hm := p_made (x := t) (F := "01") lx
        have q : mkF "01" t.cps.toList = false := by
          cases z : mkF "01" t.cps.toList with
          | false => rfl
          | true => exact absurd ((mk_bits _).mp z) hb
        rw [q, Bool.and_false] at hm
        exact run_of rfl ⟨_, seq_rt (q0n hw (v_refW _ (rwx_no t hc.1 hc.2 he (rbx_no t (by decide) hm))) two)⟩
end K51
set_option Elab.async false
set_option linter.all false
set_option maxRecDepth 100000
set_option maxHeartbeats 4000000
namespace K51
open PySem L2 PySem.NumText
local macro_rules | `(tactic| walk_at "ev") => `(tactic| simp [runS, runP, ev_bind, ev_ret, ev_lift, ev_var, ev_op2, ev_op1, ev_op1L, ev_op2L, ev_opO, ev_ixO, ev_test, ev_not, ev_and, ev_or, ev_andV, ev_orV, ev_notV, ev_if, ev_nil, ev_cons, ev_tup, ev_lst, ev_of, ev_call, ev_callL, ev_callS, ev_comp, ev_seq, ev_rng1, ev_rng2, ev_zip, ev_part, ev_sl, ev_slL, ev_chain, ev_sseq, ev_sset, ev_sown, ev_sasg, ev_sif, ev_sret, ev_sretL, ev_sretO, ev_snil, ev_sretN, ev_sbk, ev_sct, ev_sdrop, ev_smut, ev_sext, ev_sseti, ev_sfor, ev_gset, ev_saug, forRun, ixO, blO, lsO, lstOf, rng1, rng2, zip2, inO, slO, flatD, setI, gsNil, gsCons, gTupD, dI2, dI0, dB0, dAdd, dMulG, dIx, dLen, dInt, dSum, dAll, dAny, dTuple, dSeq, dSl_tto, dSl_tfrom, dSl_lto, dSl_lfrom, dNeg, dNotB, dIsB, isBl, dIsN, dNotN, dIsi, tyN, isTab, dAppend, dInsert0, okMul, okMul2, okMod, okDiv, okPow, okShr, at0, at1, at2, at3, at4, at5, ixN, dEq, dNe, eqD_int, eqD_bl, eqD_none, eqD_int_none, eqD_none_int, dJoin, strsD, join_one', le_line, lt_line, sTryAs, sTry, xIf, xCall, xThen, xNo, xSeq, xRaise, outLess, mCallB, runS1, mCallS1, scD, dIsX, mMM, ev_enum, enumO, ev_sextT, tupO, ev_rep, dCatL, runX, ev_divmod, dvm, mLend, dUp, dCnt, dCntT, ev_slS, ev_signs, ev_ifL, dSM, fnAt, mCallV, xCallV, mOr2, xOr2, *])
noncomputable def TOk (t : Str) (n : Nat) : Prop := (∀ c ∈ t.cps.toList, c < 128) ∧ t.length ≤ n
theorem TOk.ok {t : Str} {n : Nat} (h : TOk t n) : PyData.strOk t = true := strOk_of fun c hc => by have := h.1 c hc; omega
theorem TOk.le {t : Str} {n m : Nat} (h : TOk t n) (hm : n ≤ m) : TOk t m := ⟨h.1, Nat.le_trans h.2 hm⟩
theorem app_len (x y : Str) : (x ++ y).length = x.length + y.length := by
  rw [len_toList, cps_append, List.length_append]
  rfl
theorem TOk.app {x y : Str} {n m : Nat} (h : TOk x n) (h' : TOk y m) : TOk (x ++ y) (n + m) := by
  refine ⟨fun c hc => ?_, by rw [app_len]; have := h.2; have := h'.2; omega⟩
  rw [cps_append] at hc
  rcases List.mem_append.mp hc with hc | hc
  · exact h.1 c hc
  · exact h'.1 c hc
theorem TOk.slice {x : Str} {n : Nat} (h : TOk x n) (l u : Option Int) : TOk (Txt.slice x l u) n := ⟨fun c hc => h.1 c (slice_mem hc), Nat.le_trans (Txt.slice_le x l u) h.2⟩
theorem TOk.one {c : Nat} (h : c < 128) : TOk ⟨#[c]⟩ 1 := ⟨fun d hd => by
  have : d = c := by simpa using hd
  omega, Nat.le_refl _⟩
theorem at_mem {α : Type} {xs : List α} {k : Int} (h0 : 0 ≤ k) (h1 : k < (xs.length : Int)) : ∃ x, atI xs k = some x ∧ x ∈ xs := by
  have kl : k.toNat < xs.length := by omega
  have ek : ((k.toNat : Nat) : Int) = k := by omega
  refine ⟨xs[k.toNat], ?_, List.getElem_mem kl⟩
  have := atI_nat (xs := xs) (j := k.toNat) (v := xs[k.toNat]) (List.getElem?_eq_getElem kl)
  rw [ek] at this
  exact this
theorem aug_step (s n k s2 m : Int) (F t : Str) (c : Nat) (v : D) (lF : F.length ≤ sizeLine) (hn : f__law_next [.int s] [.int n] = some (.int k, [.int s2])) (hc : atI F.cps.toList k = some c) (lt : t.length + (⟨#[c]⟩ : Str).length ≤ sizeLine) : (sAugS 2 (mOp2 dIx (mRet (.str F)) (mCallS f__law_next 0 (mCons (mRet (.int n)) mNil)))) [some (.lst [.int s]), some (.int m), some (.str t), some v] = some (.nx [some (.lst [.int s2]), some (.int m), some (.str (t ++ ⟨#[c]⟩)), some v]) := by
  have e : (mOp2 dIx (mRet (.str F)) (mCallS f__law_next 0 (mCons (mRet (.int n)) mNil))) [some (.lst [.int s]), some (.int m), some (.str t), some v] = some (.str ⟨#[c]⟩, [some (.lst [.int s2]), some (.int m), some (.str t), some v]) := by
    clear lt
    walk_at "ev"
  unfold sAugS
  simp only [List.getElem?_cons_succ, List.getElem?_cons_zero]
  rw [e]
  dsimp only
  rw [if_pos lt]
  rfl
theorem aug_run (F : Str) (n m : Int) (hF : ∀ c ∈ F.cps.toList, c < 128) (lF : F.length ≤ sizeLine) (en : n = (F.cps.toList.length : Int)) (n0 : 0 < n) : ∀ (xs : List D) (s : Int) (t : Str) (v3 : Option D) (k : Nat), TOk t k → k + xs.length ≤ 1000 → ∃ s' t' v3', forRun (gSet 3) (sAugS 2 (mOp2 dIx (mRet (.str F)) (mCallS f__law_next 0 (mCons (mRet (.int n)) mNil)))) xs [some (.lst [.int s]), some (.int m), some (.str t), v3] = some (.nx [some (.lst [.int s']), some (.int m), some (.str t'), v3']) ∧ TOk t' (k + xs.length)
  | [], s, t, v3, k, h, _ => ⟨s, t, v3, rfl, h⟩
  | x :: xs, s, t, v3, k, h, hl => by
    rw [List.length_cons] at hl
    obtain ⟨c, hc, hm⟩ := at_mem (xs := F.cps.toList) (dr_lo s n0) (by rw [← en]; exact dr_hi s n0)
    have c1 := hF c hm
    have b := aug_step s n (dr s n) (nx s) m F t c x lF (v_next s n n0) hc (line_of (by have := h.2; show t.length + 1 ≤ _; omega))
    obtain ⟨s', t', v3', e, h'⟩ := aug_run F n m hF lF en n0 xs (nx s) (t ++ ⟨#[c]⟩) (some x) (k + 1) (h.app (TOk.one c1)) (by omega)
    refine ⟨s', t', v3', ?_, h'.le (by rw [List.length_cons]; omega)⟩
    rw [forRun]
    have g : gSet 3 x [some (.lst [.int s]), some (.int m), some (.str t), v3] = some [some (.lst [.int s]), some (.int m), some (.str t), some x] := rfl
    rw [g]
    dsimp only
    rw [b]
    exact e
section
variable {s s1 s2 s3 m k : Int} {t u v w F : Str} {A Z : List D} {v2 v3 v4 : Option D} {d : D} {c : Nat}
theorem g0 (l9 : ("123456789" : Str).length ≤ sizeLine) (hn : f__law_next [.int s] [.int 9] = some (.int k, [.int s1])) (hc : atI ("123456789" : Str).cps.toList k = some c) : (sSet 2 (mOp2 dIx (mRet (.str "123456789")) (mCallS f__law_next 0 (mCons (mRet (.int 9)) mNil)))) [some (.lst [.int s]), some (.int m), none, none] = some (.nx [some (.lst [.int s1]), some (.int m), some (.str ⟨#[c]⟩), none]) := by
  walk_at "ev"
theorem g1 (bm : big (m - 1) = true) (hz : rangeD 0 (m.toNat - 1) = Z) (lz : Z.length ≤ sizeLine) (h : forRun (gSet 3) (sAugS 2 (mOp2 dIx (mRet (.str "0123456789")) (mCallS f__law_next 0 (mCons (mRet (.int 10)) mNil)))) Z [some (.lst [.int s]), some (.int m), some (.str t), none] = some (.nx [some (.lst [.int s1]), some (.int m), some (.str u), v3])) : (sFor (mRng1 (mCons (mOp2 dSub (mVar 1) (mRet (.int 1))) mNil)) (gSet 3)
    (sAugS 2 (mOp2 dIx (mRet (.str "0123456789")) (mCallS f__law_next 0 (mCons (mRet (.int 10)) mNil))))) [some (.lst [.int s]), some (.int m), some (.str t), none] = some (.nx [some (.lst [.int s1]), some (.int m), some (.str u), v3]) := by
  walk_at "ev"
theorem g2 : (sRet (mVar 2)) [some (.lst [.int s]), some (.int m), some (.str t), v3] = some (.rt (.str t) [some (.lst [.int s]), some (.int m), some (.str t), v3]) := by
  walk_at "ev"
theorem b0 : (sSet 2 (mRet (.str ""))) [some (.lst [.int s]), some (.int m), none, none] = some (.nx [some (.lst [.int s]), some (.int m), some (.str ""), none]) := by
  walk_at "ev"
theorem b1 (bm : big m = true) (hz : rangeD 0 m.toNat = Z) (lz : Z.length ≤ sizeLine) (h : forRun (gSet 3) (sAugS 2 (mOp2 dIx (mRet (.str "01")) (mCallS f__law_next 0 (mCons (mRet (.int 2)) mNil)))) Z [some (.lst [.int s]), some (.int m), some (.str t), none] = some (.nx [some (.lst [.int s1]), some (.int m), some (.str u), v3])) : (sFor (mRng1 (mCons (mVar 1) mNil)) (gSet 3)
    (sAugS 2 (mOp2 dIx (mRet (.str "01")) (mCallS f__law_next 0 (mCons (mRet (.int 2)) mNil))))) [some (.lst [.int s]), some (.int m), some (.str t), none] = some (.nx [some (.lst [.int s1]), some (.int m), some (.str u), v3]) := by
  walk_at "ev"
theorem b2 : (sRet (mVar 2)) [some (.lst [.int s]), some (.int m), some (.str t), v3] = some (.rt (.str t) [some (.lst [.int s]), some (.int m), some (.str t), v3]) := by
  walk_at "ev"
end
theorem run_ofS {b : Rho → Option Out} {n k : Nat} {xs ds : List D} {d : D} {ys : List D} (hl : ds.length + 1 = n) (h : ∃ ρ, b (some (.lst xs) :: (ds.map some ++ List.replicate (k - n) none)) = some (.rt d (some (.lst ys) :: ρ))) : runS false n k b xs ds = some (d, ys) := by
  obtain ⟨ρ, h⟩ := h
  unfold runS
  rw [if_pos hl, h]
  rfl
theorem digs9 : ∀ c ∈ ("123456789" : Str).cps.toList, c < 128 := by decide +kernel
theorem digs10 : ∀ c ∈ ("0123456789" : Str).cps.toList, c < 128 := by decide +kernel
theorem digs2 : ∀ c ∈ ("01" : Str).cps.toList, c < 128 := by decide +kernel
theorem v_figures (s m : Int) (h0 : 1 ≤ m) (h1 : m ≤ 100) : ∃ t s', f__law_figures [.int s] [.int m] = some (.str t, [.int s']) ∧ TOk t 100 := by
  have n9 := v_next s 9 (by decide)
  obtain ⟨c, hc, hm⟩ := at_mem (xs := ("123456789" : Str).cps.toList) (dr_lo s (m := 9) (by decide)) (dr_hi s (m := 9) (by decide))
  have bm : big (m - 1) = true := by unfold big; simp; omega
  obtain ⟨s', t', v3, run, h⟩ := aug_run "0123456789" 10 m digs10 (by decide) (by decide +kernel) (by decide) (rangeD 0 (m.toNat - 1)) (nx s) ⟨#[c]⟩ none 1 (TOk.one (digs9 c hm)) (by rw [rangeD_len]; omega)
  rw [rangeD_len] at h
  unfold f__law_figures b__law_figures
  exact ⟨t', s', run_ofS rfl ⟨_, (seq_nx (g0 (by decide) n9 hc)).trans <| (seq_nx (g1 bm rfl (by rw [rangeD_len]; exact line_of (by omega)) run)).trans g2⟩, h.le (by omega)⟩
theorem v_bits (s m : Int) (h0 : 0 ≤ m) (h1 : m ≤ 100) : ∃ t s', f__law_bits [.int s] [.int m] = some (.str t, [.int s']) ∧ TOk t 100 := by
  have bm : big m = true := by unfold big; simp; omega
  obtain ⟨s', t', v3, run, h⟩ := aug_run "01" 2 m digs2 (by decide) (by decide +kernel) (by decide) (rangeD 0 m.toNat) s "" none 0 ⟨fun c hc => absurd (show c ∈ ([] : List Nat) from hc) (by simp), Nat.le_refl _⟩ (by rw [rangeD_len]; omega)
  rw [rangeD_len] at h
  unfold f__law_bits b__law_bits
  exact ⟨t', s', run_ofS rfl ⟨_, (seq_nx b0).trans <| (seq_nx (b1 bm rfl (by rw [rangeD_len]; exact line_of (by omega)) run)).trans b2⟩, h.le (by omega)⟩
section
variable {s s1 s2 s3 m k : Int} {t u v w x F : Str} {A Z : List D} {v2 v3 v4 : Option D} {d : D} {c : Nat} {L : Int}
theorem sp0 (hl : dLenS (.str t) = some (.int L)) (hn : f__law_next [.int s] [.int (L + 1)] = some (.int k, [.int s1])) : (sSet 2 (mCallS f__law_next 0 (mCons (mOp2 dAdd (mOp1 dLenS (mVar 1)) (mRet (.int 1))) mNil))) [some (.lst [.int s]), some (.str t), none, none, none] = some (.nx [some (.lst [.int s1]), some (.str t), some (.int k), none, none]) := by
  walk_at "ev"
theorem sp1 (lf : ("0123-+ a/.,_Z?\t\n" : Str).length ≤ sizeLine) (hn : f__law_next [.int s] [.int 16] = some (.int m, [.int s1])) (hc : atI ("0123-+ a/.,_Z?\t\n" : Str).cps.toList m = some c) : (sSet 3 (mOp2 dIx (mRet (.str "0123-+ a/.,_Z?\t\n")) (mCallS f__law_next 0 (mCons (mRet (.int 16)) mNil)))) [some (.lst [.int s]), some (.str t), some (.int k), none, none] = some (.nx [some (.lst [.int s1]), some (.str t), some (.int k), some (.str ⟨#[c]⟩), none]) := by
  walk_at "ev"
theorem sp2 (hn : f__law_next [.int s] [.int 2] = some (.int m, [.int s1])) (hs : dSlS (.str t) (some (k + m)) none = some (.str u)) : (sSet 4 (mSlS (mVar 1) (mPart (mOp2 dAdd (mVar 2) (mCallS f__law_next 0 (mCons (mRet (.int 2)) mNil)))) (mRet none))) [some (.lst [.int s]), some (.str t), some (.int k), some (.str v), none] = some (.nx [some (.lst [.int s1]), some (.str t), some (.int k), some (.str v), some (.str u)]) := by
  walk_at "ev"
theorem sp3y (hn : f__law_next [.int s] [.int 3] = some (.int 0, [.int s1])) (hs : dSlS (.str t) none (some k) = some (.str w)) (l : w.length + u.length ≤ sizeLine) : (sIf (mTest (mOp2 dEq (mCallS f__law_next 0 (mCons (mRet (.int 3)) mNil)) (mRet (.int 0))))
    (sRet (mOp2 dAdd (mSlS (mVar 1) (mRet none) (mPart (mVar 2))) (mVar 4)))
    sNil) [some (.lst [.int s]), some (.str t), some (.int k), some (.str v), some (.str u)] = some (.rt (.str (w ++ u)) [some (.lst [.int s1]), some (.str t), some (.int k), some (.str v), some (.str u)]) := by
  walk_at "ev"
theorem sp3n (hn : f__law_next [.int s] [.int 3] = some (.int m, [.int s1])) (hm : ¬ m = 0) : (sIf (mTest (mOp2 dEq (mCallS f__law_next 0 (mCons (mRet (.int 3)) mNil)) (mRet (.int 0))))
    (sRet (mOp2 dAdd (mSlS (mVar 1) (mRet none) (mPart (mVar 2))) (mVar 4)))
    sNil) [some (.lst [.int s]), some (.str t), some (.int k), some (.str v), some (.str u)] = some (.nx [some (.lst [.int s1]), some (.str t), some (.int k), some (.str v), some (.str u)]) := by
  walk_at "ev"
theorem sp4 (hs : dSlS (.str t) none (some k) = some (.str w)) (l : w.length + v.length ≤ sizeLine) (l2 : (w ++ v).length + u.length ≤ sizeLine) : (sRet (mOp2 dAdd (mOp2 dAdd (mSlS (mVar 1) (mRet none) (mPart (mVar 2))) (mVar 3)) (mVar 4))) [some (.lst [.int s]), some (.str t), some (.int k), some (.str v), some (.str u)] = some (.rt (.str (w ++ v ++ u)) [some (.lst [.int s]), some (.str t), some (.int k), some (.str v), some (.str u)]) := by
  walk_at "ev"
end
theorem spl16 : ("0123-+ a/.,_Z?\t\n" : Str).cps.toList.length = 16 := by decide +kernel
theorem spl128 : ∀ c ∈ ("0123-+ a/.,_Z?\t\n" : Str).cps.toList, c < 128 := by decide +kernel
theorem v_spoiled (s : Int) {t : Str} (h : TOk t 110) : ∃ u s', f__law_spoiled [.int s] [.str t] = some (.str u, [.int s']) ∧ TOk u 300 := by
  have lt : t.length ≤ sizeLine := line_of (by have := h.2; omega)
  have lp : (0 : Int) < (t.length : Nat) + 1 := by omega
  have n1 := v_next s ((t.length : Nat) + 1) lp
  have n2 := v_next (nx s) 16 (by decide)
  have n3 := v_next (nx (nx s)) 2 (by decide)
  have n4 := v_next (nx (nx (nx s))) 3 (by decide)
  obtain ⟨c, hc, hm⟩ := at_mem (xs := ("0123-+ a/.,_Z?\t\n" : Str).cps.toList) (dr_lo (nx s) (m := 16) (by decide)) (by rw [spl16]; exact dr_hi (nx s) (m := 16) (by decide))
  have c1 := spl128 c hm
  have hu := h.slice (some (dr s ((t.length : Nat) + 1) + dr (nx (nx s)) 2)) none
  have hw := h.slice none (some (dr s ((t.length : Nat) + 1)))
  unfold f__law_spoiled b__law_spoiled
  by_cases z : dr (nx (nx (nx s))) 3 = 0
  · rw [z] at n4
    exact ⟨_, _, run_ofS rfl ⟨_, (seq_nx (sp0 (dLenS_is lt rfl) n1)).trans <| (seq_nx (sp1 (by decide) n2 hc)).trans <| (seq_nx (sp2 n3 (dSlS_is lt rfl))).trans (seq_rt (sp3y n4 (dSlS_is lt rfl) (line_of (by have := hu.2; have := hw.2; omega))))⟩, (hw.app hu).le (by omega)⟩
  · refine ⟨_, _, run_ofS rfl ⟨_, (seq_nx (sp0 (dLenS_is lt rfl) n1)).trans <| (seq_nx (sp1 (by decide) n2 hc)).trans <| (seq_nx (sp2 n3 (dSlS_is lt rfl))).trans <| (seq_nx (sp3n n4 z)).trans (sp4 (dSlS_is lt rfl) (line_of ?_) (line_of ?_))⟩, ((hw.app (TOk.one c1)).app hu).le (by omega)⟩
    · have := hw.2
      show _ + 1 ≤ _
      omega
    · have a := (hw.app (TOk.one c1)).2
      have := hu.2
      omega
end K51
set_option Elab.async false
set_option linter.all false
set_option maxRecDepth 100000
set_option maxHeartbeats 4000000
namespace K51
open PySem L2 PySem.NumText
local macro_rules | `(tactic| walk_at "ev") => `(tactic| simp [runS, runP, ev_bind, ev_ret, ev_lift, ev_var, ev_op2, ev_op1, ev_op1L, ev_op2L, ev_opO, ev_ixO, ev_test, ev_not, ev_and, ev_or, ev_andV, ev_orV, ev_notV, ev_if, ev_nil, ev_cons, ev_tup, ev_lst, ev_of, ev_call, ev_callL, ev_callS, ev_comp, ev_seq, ev_rng1, ev_rng2, ev_zip, ev_part, ev_sl, ev_slL, ev_chain, ev_sseq, ev_sset, ev_sown, ev_sasg, ev_sif, ev_sret, ev_sretL, ev_sretO, ev_snil, ev_sretN, ev_sbk, ev_sct, ev_sdrop, ev_smut, ev_sext, ev_sseti, ev_sfor, ev_gset, ev_saug, forRun, ixO, blO, lsO, lstOf, rng1, rng2, zip2, inO, slO, flatD, setI, gsNil, gsCons, gTupD, dI2, dI0, dB0, dAdd, dMulG, dIx, dLen, dInt, dSum, dAll, dAny, dTuple, dSeq, dSl_tto, dSl_tfrom, dSl_lto, dSl_lfrom, dNeg, dNotB, dIsB, isBl, dIsN, dNotN, dIsi, tyN, isTab, dAppend, dInsert0, okMul, okMul2, okMod, okDiv, okPow, okShr, at0, at1, at2, at3, at4, at5, ixN, dEq, dNe, eqD_int, eqD_bl, eqD_none, eqD_int_none, eqD_none_int, dJoin, strsD, join_one', le_line, lt_line, sTryAs, sTry, xIf, xCall, xThen, xNo, xSeq, xRaise, outLess, mCallB, runS1, mCallS1, scD, dIsX, mMM, ev_enum, enumO, ev_sextT, tupO, ev_rep, dCatL, runX, ev_divmod, dvm, mLend, dUp, dCnt, dCntT, ev_slS, ev_signs, ev_ifL, dSM, fnAt, mCallV, xCallV, mOr2, xOr2, *])
section
variable {s s1 s2 s3 s4 a b m k : Int} {t t1 t2 t3 u w r1 r9 : Str} {A : List D} {v1 v2 v3 v4 : Option D}
theorem x0 (two : 2 ≤ sizeLine) (n1 : f__law_next [.int s] [.int 3] = some (.int a, [.int s1])) (n2 : f__law_next [.int s1] [.int 61] = some (.int b, [.int s2])) (n3 : f__law_next [.int s2] [.int 2] = some (.int k, [.int s3])) (h : atI [D.int (1 + a), D.int (1 + b)] k = some (.int m)) : (sSet 1 (mOp2 dIx (mOf (mLst (mCons (mOp2 dAdd (mRet (.int 1)) (mCallS f__law_next 0 (mCons (mRet (.int 3)) mNil))) (mCons (mOp2 dAdd (mRet (.int 1)) (mCallS f__law_next 0 (mCons (mRet (.int 61)) mNil))) mNil)))) (mCallS f__law_next 0 (mCons (mRet (.int 2)) mNil)))) [some (.lst [.int s]), none, none, none, none] = some (.nx [some (.lst [.int s3]), some (.int m), none, none, none]) := by
  walk_at "ev"
theorem x1 (five : 5 ≤ sizeLine) (h1 : f__law_figures [.int s] [.int m] = some (.str t1, [.int s1])) (h2 : f__law_figures [.int s1] [.int m] = some (.str t2, [.int s2])) (h3 : f__law_bits [.int s2] [.int (m - 1)] = some (.str t3, [.int s3])) (l2 : ("-" : Str).length + t2.length ≤ sizeLine) : (sSet 2 (mOf (mLst (mCons (mCallS f__law_figures 0 (mCons (mVar 1) mNil)) (mCons (mOp2 dAdd (mRet (.str "-")) (mCallS f__law_figures 0 (mCons (mVar 1) mNil))) (mCons (mCallS f__law_bits 0 (mCons (mOp2 dSub (mVar 1) (mRet (.int 1))) mNil)) (mCons (mRet (.str "-")) (mCons (mRet (.str "0")) mNil)))))))) [some (.lst [.int s]), some (.int m), none, none, none] = some (.nx [some (.lst [.int s3]), some (.int m), some (.lst [.str t1, .str ("-" ++ t2), .str t3, .str "-", .str "0"]), none, none]) := by
  walk_at "ev"
theorem x2 (n1 : f__law_next [.int s] [.int 5] = some (.int k, [.int s1])) (h : atI A k = some (.str t)) : (sSet 3 (mOp2 dIx (mVar 2) (mCallS f__law_next 0 (mCons (mRet (.int 5)) mNil)))) [some (.lst [.int s]), some (.int m), some (.lst A), none, none] = some (.nx [some (.lst [.int s1]), some (.int m), some (.lst A), some (.str t), none]) := by
  walk_at "ev"
theorem x3y (n1 : f__law_next [.int s] [.int 2] = some (.int 0, [.int s1])) : (sIf (mTest (mOp2 dEq (mCallS f__law_next 0 (mCons (mRet (.int 2)) mNil)) (mRet (.int 0))))
    (sRet (mVar 3))
    sNil) [some (.lst [.int s]), some (.int m), some (.lst A), some (.str t), none] = some (.rt (.str t) [some (.lst [.int s1]), some (.int m), some (.lst A), some (.str t), none]) := by
  walk_at "ev"
theorem x3n (n1 : f__law_next [.int s] [.int 2] = some (.int k, [.int s1])) (hk : ¬ k = 0) : (sIf (mTest (mOp2 dEq (mCallS f__law_next 0 (mCons (mRet (.int 2)) mNil)) (mRet (.int 0))))
    (sRet (mVar 3))
    sNil) [some (.lst [.int s]), some (.int m), some (.lst A), some (.str t), none] = some (.nx [some (.lst [.int s1]), some (.int m), some (.lst A), some (.str t), none]) := by
  walk_at "ev"
theorem x4 (ten : 10 ≤ sizeLine) (hm1 : dMulG (.str "1") (.int 61) = some (.str r1)) (hm9 : dMulG (.str "9") (.int 61) = some (.str r9)) (l0 : ("-" : Str).length + ("0" : Str).length ≤ sizeLine) (l1 : (("-" : Str) ++ "0").length + t.length ≤ sizeLine) (l2 : ("-" : Str).length + r9.length ≤ sizeLine) (l3 : t.length + ("\n" : Str).length ≤ sizeLine) (l4 : ("\t" : Str).length + t.length ≤ sizeLine) :
    (sSet 4 (mOf (mLst (mCons (mRet (.str "-0")) (mCons (mRet (.str "")) (mCons (mRet (.str "00")) (mCons (mOp2 dAdd (mOp2 dAdd (mRet (.str "-")) (mRet (.str "0"))) (mVar 3)) (mCons (mRet (.str " ")) (mCons (mOp2 dMulG (mRet (.str "1")) (mRet (.int 61))) (mCons (mOp2 dAdd (mRet (.str "-")) (mOp2 dMulG (mRet (.str "9")) (mRet (.int 61)))) (mCons (mRet (.str "+1")) (mCons (mOp2 dAdd (mVar 3) (mRet (.str "\n"))) (mCons (mOp2 dAdd (mRet (.str "\t")) (mVar 3)) mNil))))))))))))) [some (.lst [.int s]), some (.int m), some (.lst A), some (.str t), none] = some (.nx [some (.lst [.int s]), some (.int m), some (.lst A), some (.str t), some (.lst [.str "-0", .str "", .str "00", .str ("-" ++ "0" ++ t), .str " ", .str r1, .str ("-" ++ r9), .str "+1", .str (t ++ "\n"), .str ("\t" ++ t)])]) := by
  generalize dMulG = J at hm1 hm9 ⊢
  walk_at "ev"
theorem x5 (two : 2 ≤ sizeLine) (h1 : f__law_spoiled [.int s] [.str t] = some (.str u, [.int s1])) (n1 : f__law_next [.int s1] [.int 10] = some (.int a, [.int s2])) (ha : atI A a = some (.str w)) (n2 : f__law_next [.int s2] [.int 2] = some (.int b, [.int s3])) {x : Str} (hb : atI [D.str u, D.str w] b = some (.str x)) : (sRet (mOp2 dIx (mOf (mLst (mCons (mCallS f__law_spoiled 0 (mCons (mVar 3) mNil)) (mCons (mOp2 dIx (mVar 4) (mCallS f__law_next 0 (mCons (mRet (.int 10)) mNil))) mNil)))) (mCallS f__law_next 0 (mCons (mRet (.int 2)) mNil)))) [some (.lst [.int s]), v1, v2, some (.str t), some (.lst A)] = some (.rt (.str x) [some (.lst [.int s3]), v1, v2, some (.str t), some (.lst A)]) := by
  walk_at "ev"
end
theorem pick_text {xs : List D} {n : Nat} (h : ∀ d ∈ xs, ∃ t, d = .str t ∧ TOk t n) {k : Int} (h0 : 0 ≤ k) (h1 : k < (xs.length : Int)) : ∃ t, atI xs k = some (.str t) ∧ TOk t n := by
  obtain ⟨d, e, hm⟩ := at_mem h0 h1
  obtain ⟨t, rfl, ht⟩ := h d hm
  exact ⟨t, e, ht⟩
theorem lit {t : Str} {n : Nat} (h : (t.cps.toList.all fun c => decide (c < 128)) = true) (hl : t.length ≤ n) : TOk t n := ⟨fun c hc => of_decide_eq_true (List.all_eq_true.mp h c hc), hl⟩
theorem rep_is (z : Str) (h0 : 0 < z.length) (h1 : z.length ≤ 1000) : dMulG (.str z) (.int 61) = some (.str (strRep z 61)) := by
  show (if (0 : Int) < 61 ∧ (61 : Int) ≤ 1000 ∧ 0 < z.length ∧ z.length ≤ 1000 then some (D.str (strRep z 61)) else none) = _
  rw [if_pos ⟨by decide, by decide, h0, h1⟩]
theorem v_text (s : Int) : ∃ t s', f__law_text [.int s] [] = some (.str t, [.int s']) ∧ TOk t 300 := by
  have a0 := dr_lo s (m := 3) (by decide)
  have a1 := dr_hi s (m := 3) (by decide)
  have b0 := dr_lo (nx s) (m := 61) (by decide)
  have b1 := dr_hi (nx s) (m := 61) (by decide)
  obtain ⟨m, em, m1, m2⟩ : ∃ m : Int, atI [D.int (1 + dr s 3), D.int (1 + dr (nx s) 61)] (dr (nx (nx s)) 2) = some (.int m) ∧ 1 ≤ m ∧ m ≤ 61 := by
    have c0 := dr_lo (nx (nx s)) (m := 2) (by decide)
    have c1 := dr_hi (nx (nx s)) (m := 2) (by decide)
    rcases (by omega : dr (nx (nx s)) 2 = 0 ∨ dr (nx (nx s)) 2 = 1) with q | q
    · rw [q]; exact ⟨_, at0 _ _, by omega, by omega⟩
    · rw [q]; exact ⟨_, at1 _ _ _, by omega, by omega⟩
  obtain ⟨t1, s1, f1, o1⟩ := v_figures (nx (nx (nx s))) m m1 (by omega)
  obtain ⟨t2, s2, f2, o2⟩ := v_figures s1 m m1 (by omega)
  obtain ⟨t3, s3, f3, o3⟩ := v_bits s2 (m - 1) (by omega) (by omega)
  have od : TOk "-" 1 := lit (by decide +kernel) (by decide +kernel)
  obtain ⟨t, et, ot⟩ := pick_text (n := 101) (xs := [.str t1, .str ("-" ++ t2), .str t3, .str "-", .str "0"]) (fun d hd => by
    simp only [List.mem_cons, List.not_mem_nil, or_false] at hd
    rcases hd with rfl | rfl | rfl | rfl | rfl
    · exact ⟨_, rfl, o1.le (by decide)⟩
    · exact ⟨_, rfl, (od.app o2).le (by decide)⟩
    · exact ⟨_, rfl, o3.le (by decide)⟩
    · exact ⟨_, rfl, od.le (by decide)⟩
    · exact ⟨_, rfl, lit (by decide +kernel) (by decide +kernel)⟩) (dr_lo s3 (m := 5) (by decide)) (dr_hi s3 (m := 5) (by decide))
  have tl := ot.2
  have n5 := v_next s3 5 (by decide)
  have n6 := v_next (nx s3) 2 (by decide)
  have X0 := x0 (by decide) (v_next s 3 (by decide)) (v_next (nx s) 61 (by decide)) (v_next (nx (nx s)) 2 (by decide)) em
  have X1 := x1 (by decide) f1 f2 f3 (line_of (by have := o2.2; show 1 + _ ≤ _; omega))
  unfold f__law_text b__law_text
  by_cases z : dr (nx s3) 2 = 0
  · rw [z] at n6
    exact ⟨t, _, run_ofS rfl ⟨_, (seq_nx X0).trans <| (seq_nx X1).trans <| (seq_nx (x2 n5 et)).trans (seq_rt (x3y n6))⟩, ot.le (by decide)⟩
  · obtain ⟨u, s4, fu, ou⟩ := v_spoiled (nx (nx s3)) (ot.le (by decide))
    have o61 : TOk (strRep "1" 61) 61 := lit (by decide +kernel) (by decide +kernel)
    have o69 : TOk (strRep "9" 61) 61 := lit (by decide +kernel) (by decide +kernel)
    have oz : TOk "0" 1 := lit (by decide +kernel) (by decide +kernel)
    have on : TOk "\n" 1 := lit (by decide +kernel) (by decide +kernel)
    have ob : TOk "\t" 1 := lit (by decide +kernel) (by decide +kernel)
    obtain ⟨w, ew, ow⟩ := pick_text (n := 300) (xs := [.str "-0", .str "", .str "00", .str ("-" ++ "0" ++ t), .str " ", .str (strRep "1" 61), .str ("-" ++ strRep "9" 61), .str "+1", .str (t ++ "\n"), .str ("\t" ++ t)]) (fun d hd => by
      simp only [List.mem_cons, List.not_mem_nil, or_false] at hd
      rcases hd with rfl | rfl | rfl | rfl | rfl | rfl | rfl | rfl | rfl | rfl
      · exact ⟨_, rfl, lit (by decide +kernel) (by decide +kernel)⟩
      · exact ⟨_, rfl, lit (by decide +kernel) (by decide +kernel)⟩
      · exact ⟨_, rfl, lit (by decide +kernel) (by decide +kernel)⟩
      · exact ⟨_, rfl, ((od.app oz).app ot).le (by decide)⟩
      · exact ⟨_, rfl, lit (by decide +kernel) (by decide +kernel)⟩
      · exact ⟨_, rfl, o61.le (by decide)⟩
      · exact ⟨_, rfl, (od.app o69).le (by decide)⟩
      · exact ⟨_, rfl, lit (by decide +kernel) (by decide +kernel)⟩
      · exact ⟨_, rfl, (ot.app on).le (by decide)⟩
      · exact ⟨_, rfl, (ob.app ot).le (by decide)⟩) (dr_lo s4 (m := 10) (by decide)) (dr_hi s4 (m := 10) (by decide))
    obtain ⟨x, ex, ox⟩ := pick_text (n := 300) (xs := [.str u, .str w]) (fun d hd => by
      simp only [List.mem_cons, List.not_mem_nil, or_false] at hd
      rcases hd with rfl | rfl
      · exact ⟨_, rfl, ou⟩
      · exact ⟨_, rfl, ow⟩) (dr_lo (nx s4) (m := 2) (by decide)) (dr_hi (nx s4) (m := 2) (by decide))
    have X4 := x4 (s := nx (nx s3)) (m := m) (A := [.str t1, .str ("-" ++ t2), .str t3, .str "-", .str "0"]) (t := t) (by decide) (rep_is "1" (by decide) (by decide)) (rep_is "9" (by decide) (by decide)) (by decide) (line_of (by show 2 + _ ≤ _; omega)) (line_of (by have := o69.2; show 1 + _ ≤ _; omega)) (line_of (by show _ + 1 ≤ _; omega)) (line_of (by show 1 + _ ≤ _; omega))
    exact ⟨x, _, run_ofS rfl ⟨_, (seq_nx X0).trans <| (seq_nx X1).trans <| (seq_nx (x2 n5 et)).trans <| (seq_nx (x3n n6 z)).trans <| (seq_nx X4).trans (x5 (by decide) fu (v_next s4 10 (by decide)) ew (v_next (nx s4) 2 (by decide)) ex)⟩, ox⟩
theorem ctx_odd (d : D) (l1 : 1 ≤ sizeLine) (h : dIsi (isTab "str") d = some (.bl false)) : fx_check_text [d] = some ("NoText" : Str) := by
  unfold fx_check_text x_check_text
  generalize dIsi (isTab "str") = J at h ⊢
  walk_at "ev"
theorem rnx_odd (d : D) (h : fx_check_text [d] = some ("NoText" : Str)) : fx_read_number [d] = some ("NoText" : Str) := by
  unfold fx_read_number x_read_number
  walk_at "ev"
theorem rwx_odd (d : D) (h : fx_check_text [d] = some ("NoText" : Str)) : fx_read_word [d] = some ("NoText" : Str) := by
  unfold fx_read_word x_read_word
  walk_at "ev"
section
variable {N A : List D} {s s1 c k L : Int} {t rd : Str} {d : D} {v2 v3 v4 : Option D}
theorem lb0 (one : 1 ≤ sizeLine) : (sOwn 2 (mLst (mCons (mOp2 dMod (mVar 1) (mOp2 dSub (mOp2 dPow (mRet (.int 2)) (mRet (.int 61))) (mRet (.int 1)))) mNil))) [some (.lst N), some (.int c), v2, v3, v4] = some (.nx [some (.lst N), some (.int c), some (.lst [.int (c % 2305843009213693951)]), v3, v4]) := by
  walk_at "ev"
theorem lb1 (h : f__law_text [.int s] [] = some (.str t, [.int s1])) : (sSet 3 (mCallS f__law_text 2 mNil)) [some (.lst N), some (.int c), some (.lst [.int s]), v3, v4] = some (.nx [some (.lst N), some (.int c), some (.lst [.int s1]), some (.str t), v4]) := by
  walk_at "ev"
theorem lb2 (h1 : f__law_number_right [.str t] = some (.bl true)) (hl : dLenS (.str t) = some (.int L)) (h2 : L ≤ 60 → f__law_word_right [.str t] = some (.bl true)) : (sIf (mOr (mNot (mTest (mCall f__law_number_right (mCons (mVar 3) mNil)))) (mAnd (mTest (mOp2 dLe (mOp1 dLenS (mVar 3)) (mRet (.int 60)))) (mNot (mTest (mCall f__law_word_right (mCons (mVar 3) mNil))))))
    (sRet (mRet (.bl false)))
    sNil) [some (.lst N), some (.int c), some (.lst [.int s]), some (.str t), v4] = some (.nx [some (.lst N), some (.int c), some (.lst [.int s]), some (.str t), v4]) := by
  by_cases q : L ≤ 60
  · have h3 := h2 q
    clear h2
    walk_at "ev"
  · clear h2
    walk_at "ev"
theorem lb3 (six : 6 ≤ sizeLine) (one : 1 ≤ sizeLine) (n1 : f__law_next [.int s] [.int 6] = some (.int k, [.int s1])) (h : atI [D.non, .int 7, .bl true, .lst [.str "1"], .tup [.str "0"], .dct []] k = some d) : (sSet 4 (mOp2 dIx (mOf (mLst (mCons (mRet .non) (mCons (mRet (.int 7)) (mCons (mRet (.bl true)) (mCons (mOf (mLst (mCons (mRet (.str "1")) mNil))) (mCons (mTup (mCons (mRet (.str "0")) mNil)) (mCons (mRet (.dct [])) mNil)))))))) (mCallS f__law_next 2 (mCons (mRet (.int 6)) mNil)))) [some (.lst N), some (.int c), some (.lst [.int s]), some (.str t), v4] = some (.nx [some (.lst N), some (.int c), some (.lst [.int s1]), some (.str t), some d]) := by
  walk_at "ev"
theorem lb4 (two : 2 ≤ sizeLine) (n1 : f__law_next [.int s] [.int 2] = some (.int k, [.int s1])) (h : atI [D.fn "read_number", D.fn "read_word"] k = some (.fn rd)) (hr : f__law_refused [.fn rd, d, .lst [.bl true, .bl false]] = some (.bl true)) : (sIf (mNot (mTest (mCall f__law_refused (mCons (mOp2 dIx (mOf (mLst (mCons (mRet (.fn "read_number")) (mCons (mRet (.fn "read_word")) mNil)))) (mCallS f__law_next 2 (mCons (mRet (.int 2)) mNil))) (mCons (mVar 4) (mCons (mOf (mLst (mCons (mRet (.bl true)) (mCons (mRet (.bl false)) mNil)))) mNil))))))
    (sRet (mRet (.bl false)))
    sNil) [some (.lst N), some (.int c), some (.lst [.int s]), some (.str t), some d] = some (.nx [some (.lst N), some (.int c), some (.lst [.int s1]), some (.str t), some d]) := by
  walk_at "ev"
theorem l0 (F : List D) (one : 1 ≤ sizeLine) (lf : F.length ≤ sizeLine) (ln : min 60 N.length + 1 ≤ sizeLine) (hF : List.take 60 N ++ [.int 0] = F) {v1 : Option D} (h : forRun (gSet 1) (sSeq (sOwn 2 (mLst (mCons (mOp2 dMod (mVar 1) (mOp2 dSub (mOp2 dPow (mRet (.int 2)) (mRet (.int 61))) (mRet (.int 1)))) mNil)))
  (sSeq (sSet 3 (mCallS f__law_text 2 mNil))
  (sSeq (sIf (mOr (mNot (mTest (mCall f__law_number_right (mCons (mVar 3) mNil)))) (mAnd (mTest (mOp2 dLe (mOp1 dLenS (mVar 3)) (mRet (.int 60)))) (mNot (mTest (mCall f__law_word_right (mCons (mVar 3) mNil))))))
    (sRet (mRet (.bl false)))
    sNil)
  (sSeq (sSet 4 (mOp2 dIx (mOf (mLst (mCons (mRet .non) (mCons (mRet (.int 7)) (mCons (mRet (.bl true)) (mCons (mOf (mLst (mCons (mRet (.str "1")) mNil))) (mCons (mTup (mCons (mRet (.str "0")) mNil)) (mCons (mRet (.dct [])) mNil)))))))) (mCallS f__law_next 2 (mCons (mRet (.int 6)) mNil))))
  (sIf (mNot (mTest (mCall f__law_refused (mCons (mOp2 dIx (mOf (mLst (mCons (mRet (.fn "read_number")) (mCons (mRet (.fn "read_word")) mNil)))) (mCallS f__law_next 2 (mCons (mRet (.int 2)) mNil))) (mCons (mVar 4) (mCons (mOf (mLst (mCons (mRet (.bl true)) (mCons (mRet (.bl false)) mNil)))) mNil))))))
    (sRet (mRet (.bl false)))
    sNil))))) F [some (.lst N), none, none, none, none] = some (.nx [some (.lst N), v1, v2, v3, v4])) : (sFor (mSeq (mOp2 dAdd (mSl (mVar 0) (mRet none) (mPart (mRet (.int 60)))) (mOf (mLst (mCons (mRet (.int 0)) mNil))))) (gSet 1)
    (sSeq (sOwn 2 (mLst (mCons (mOp2 dMod (mVar 1) (mOp2 dSub (mOp2 dPow (mRet (.int 2)) (mRet (.int 61))) (mRet (.int 1)))) mNil)))
  (sSeq (sSet 3 (mCallS f__law_text 2 mNil))
  (sSeq (sIf (mOr (mNot (mTest (mCall f__law_number_right (mCons (mVar 3) mNil)))) (mAnd (mTest (mOp2 dLe (mOp1 dLenS (mVar 3)) (mRet (.int 60)))) (mNot (mTest (mCall f__law_word_right (mCons (mVar 3) mNil))))))
    (sRet (mRet (.bl false)))
    sNil)
  (sSeq (sSet 4 (mOp2 dIx (mOf (mLst (mCons (mRet .non) (mCons (mRet (.int 7)) (mCons (mRet (.bl true)) (mCons (mOf (mLst (mCons (mRet (.str "1")) mNil))) (mCons (mTup (mCons (mRet (.str "0")) mNil)) (mCons (mRet (.dct [])) mNil)))))))) (mCallS f__law_next 2 (mCons (mRet (.int 6)) mNil))))
  (sIf (mNot (mTest (mCall f__law_refused (mCons (mOp2 dIx (mOf (mLst (mCons (mRet (.fn "read_number")) (mCons (mRet (.fn "read_word")) mNil)))) (mCallS f__law_next 2 (mCons (mRet (.int 2)) mNil))) (mCons (mVar 4) (mCons (mOf (mLst (mCons (mRet (.bl true)) (mCons (mRet (.bl false)) mNil)))) mNil))))))
    (sRet (mRet (.bl false)))
    sNil)))))) [some (.lst N), none, none, none, none] = some (.nx [some (.lst N), v1, v2, v3, v4]) := by
  subst hF
  walk_at "ev"
theorem l1 {ρ : Rho} : (sRet (mRet (.bl true))) ρ = some (.rt (.bl true) ρ) := by
  walk_at "ev"
end
theorem body_ok (N : List D) (c : Int) (v2 v3 v4 : Option D) : ∃ w2 w3 w4, (sSeq (sOwn 2 (mLst (mCons (mOp2 dMod (mVar 1) (mOp2 dSub (mOp2 dPow (mRet (.int 2)) (mRet (.int 61))) (mRet (.int 1)))) mNil)))
  (sSeq (sSet 3 (mCallS f__law_text 2 mNil))
  (sSeq (sIf (mOr (mNot (mTest (mCall f__law_number_right (mCons (mVar 3) mNil)))) (mAnd (mTest (mOp2 dLe (mOp1 dLenS (mVar 3)) (mRet (.int 60)))) (mNot (mTest (mCall f__law_word_right (mCons (mVar 3) mNil))))))
    (sRet (mRet (.bl false)))
    sNil)
  (sSeq (sSet 4 (mOp2 dIx (mOf (mLst (mCons (mRet .non) (mCons (mRet (.int 7)) (mCons (mRet (.bl true)) (mCons (mOf (mLst (mCons (mRet (.str "1")) mNil))) (mCons (mTup (mCons (mRet (.str "0")) mNil)) (mCons (mRet (.dct [])) mNil)))))))) (mCallS f__law_next 2 (mCons (mRet (.int 6)) mNil))))
  (sIf (mNot (mTest (mCall f__law_refused (mCons (mOp2 dIx (mOf (mLst (mCons (mRet (.fn "read_number")) (mCons (mRet (.fn "read_word")) mNil)))) (mCallS f__law_next 2 (mCons (mRet (.int 2)) mNil))) (mCons (mVar 4) (mCons (mOf (mLst (mCons (mRet (.bl true)) (mCons (mRet (.bl false)) mNil)))) mNil))))))
    (sRet (mRet (.bl false)))
    sNil))))) [some (.lst N), some (.int c), v2, v3, v4] = some (.nx [some (.lst N), some (.int c), w2, w3, w4]) := by
  obtain ⟨t, s1, ht, ot⟩ := v_text (c % 2305843009213693951)
  have lt : t.length ≤ sizeLine := line_of (by have := ot.2; omega)
  obtain ⟨d, ed, hd⟩ := at_mem (xs := [D.non, .int 7, .bl true, .lst [.str "1"], .tup [.str "0"], .dct []]) (dr_lo s1 (m := 6) (by decide)) (dr_hi s1 (m := 6) (by decide))
  have hs : dIsi (isTab "str") d = some (.bl false) := by
    simp only [List.mem_cons, List.not_mem_nil, or_false] at hd
    rcases hd with rfl | rfl | rfl | rfl | rfl | rfl <;> walk_at "ev"
  have hx := ctx_odd d (by decide) hs
  obtain ⟨rd, er, hr⟩ : ∃ rd, atI [D.fn "read_number", D.fn "read_word"] (dr (nx s1) 2) = some (.fn rd) ∧ f__law_refused [.fn rd, d, .lst [.bl true, .bl false]] = some (.bl true) := by
    have c0 := dr_lo (nx s1) (m := 2) (by decide)
    have c1 := dr_hi (nx s1) (m := 2) (by decide)
    rcases (by omega : dr (nx s1) 2 = 0 ∨ dr (nx s1) 2 = 1) with q | q
    · rw [q]; exact ⟨_, at0 _ _, v_refN d (rnx_odd d hx)⟩
    · rw [q]; exact ⟨_, at1 _ _ _, v_refW d (rwx_odd d hx)⟩
  exact ⟨_, _, _, (seq_nx (lb0 (by decide))).trans <| (seq_nx (lb1 ht)).trans <| (seq_nx (lb2 (v_number_right ot.ok lt) (dLenS_is lt rfl) (fun q => v_word_right ot.ok (by rw [← len_toList]; omega)))).trans <| (seq_nx (lb3 (by decide) (by decide) (v_next s1 6 (by decide)) ed)).trans (lb4 (by decide) (v_next (nx s1) 2 (by decide)) er hr)⟩
theorem l_run (N : List D) : ∀ (cs : List Int) (v1 v2 v3 v4 : Option D), ∃ w1 w2 w3 w4, forRun (gSet 1) (sSeq (sOwn 2 (mLst (mCons (mOp2 dMod (mVar 1) (mOp2 dSub (mOp2 dPow (mRet (.int 2)) (mRet (.int 61))) (mRet (.int 1)))) mNil)))
  (sSeq (sSet 3 (mCallS f__law_text 2 mNil))
  (sSeq (sIf (mOr (mNot (mTest (mCall f__law_number_right (mCons (mVar 3) mNil)))) (mAnd (mTest (mOp2 dLe (mOp1 dLenS (mVar 3)) (mRet (.int 60)))) (mNot (mTest (mCall f__law_word_right (mCons (mVar 3) mNil))))))
    (sRet (mRet (.bl false)))
    sNil)
  (sSeq (sSet 4 (mOp2 dIx (mOf (mLst (mCons (mRet .non) (mCons (mRet (.int 7)) (mCons (mRet (.bl true)) (mCons (mOf (mLst (mCons (mRet (.str "1")) mNil))) (mCons (mTup (mCons (mRet (.str "0")) mNil)) (mCons (mRet (.dct [])) mNil)))))))) (mCallS f__law_next 2 (mCons (mRet (.int 6)) mNil))))
  (sIf (mNot (mTest (mCall f__law_refused (mCons (mOp2 dIx (mOf (mLst (mCons (mRet (.fn "read_number")) (mCons (mRet (.fn "read_word")) mNil)))) (mCallS f__law_next 2 (mCons (mRet (.int 2)) mNil))) (mCons (mVar 4) (mCons (mOf (mLst (mCons (mRet (.bl true)) (mCons (mRet (.bl false)) mNil)))) mNil))))))
    (sRet (mRet (.bl false)))
    sNil))))) (cs.map D.int) [some (.lst N), v1, v2, v3, v4] = some (.nx [some (.lst N), w1, w2, w3, w4])
  | [], v1, v2, v3, v4 => ⟨v1, v2, v3, v4, rfl⟩
  | c :: cs, v1, v2, v3, v4 => by
    obtain ⟨w2, w3, w4, b⟩ := body_ok N c v2 v3 v4
    obtain ⟨u1, u2, u3, u4, e⟩ := l_run N cs (some (.int c)) w2 w3 w4
    refine ⟨u1, u2, u3, u4, ?_⟩
    rw [List.map_cons, forRun]
    have g : gSet 1 (D.int c) [some (.lst N), v1, v2, v3, v4] = some [some (.lst N), some (.int c), v2, v3, v4] := rfl
    rw [g]
    dsimp only
    rw [b]
    exact e
theorem law_true (ns : List Int) (h : ns.length ≤ 63) : f_law [.lst (ns.map D.int)] = some (.bl true) := by
  obtain ⟨w1, w2, w3, w4, run⟩ := l_run (ns.map D.int) (ns.take 60 ++ [0]) none none none none
  have e1 : List.take 60 (ns.map D.int) ++ [D.int 0] = (ns.take 60 ++ [0]).map D.int := by rw [List.map_append, List.map_take]; rfl
  exact run_of rfl ⟨_, (seq_nx (l0 _ (by decide) (by rw [List.length_map, List.length_append, List.length_take]; exact line_of (by simp; omega)) (by rw [List.length_map]; exact line_of (by omega)) e1 run)).trans l1⟩
end K51
set_option Elab.async false
set_option linter.all false
set_option maxRecDepth 100000
set_option maxHeartbeats 4000000
namespace K51
open PySem L2
theorem law_ok {P : Program} {w : World} {K mg a base} (T : Txt K mg a) : FnOk P w K mg base CX0 6 a.f_law a.fd_law ["_law_script"] (spLaw K 63) := law_of (ok_law T) law_true
theorem txt_mk {K : PySem.W.Frag} {h : Heap} {mg : Str → Option Value} {fa : Addr} (X : K.In h) (G : h.Ns mainGlobals mg) (hfa : mg "law" = some (.ref fa))
    {c_WayError : Addr} {c_NoText : Addr} {c_NoScheme : Addr} {c_NoWord : Addr} {c_NoSigns : Addr} {c_NoPlace : Addr} {tk_MOST_FIGURES : Tok} {tk_FIGURES : Tok} {f_check_text : Addr} {od_check_text an_check_text : Option Addr} {sl_check_text : Array (Option Value)} {oc_check_text kV_check_text dc_check_text pm_check_text cd_check_text ct_check_text : Value} {f_is_made_of : Addr} {od_is_made_of an_is_made_of : Option Addr} {sl_is_made_of : Array (Option Value)} {oc_is_made_of kV_is_made_of dc_is_made_of pm_is_made_of cd_is_made_of ct_is_made_of : Value} {f_read_figures : Addr} {od_read_figures an_read_figures : Option Addr} {sl_read_figures : Array (Option Value)} {oc_read_figures kV_read_figures dc_read_figures pm_read_figures cd_read_figures ct_read_figures : Value} {f_read_number : Addr} {od_read_number an_read_number : Option Addr} {sl_read_number : Array (Option Value)} {oc_read_number kV_read_number dc_read_number pm_read_number cd_read_number ct_read_number : Value} {f_read_bits : Addr} {od_read_bits an_read_bits : Option Addr} {sl_read_bits : Array (Option Value)} {oc_read_bits kV_read_bits dc_read_bits pm_read_bits cd_read_bits ct_read_bits : Value} {f_read_word : Addr} {od_read_word an_read_word : Option Addr} {sl_read_word : Array (Option Value)} {oc_read_word kV_read_word dc_read_word pm_read_word cd_read_word ct_read_word : Value} {f_shown_bits : Addr} {od_shown_bits an_shown_bits : Option Addr} {sl_shown_bits : Array (Option Value)} {oc_shown_bits kV_shown_bits dc_shown_bits pm_shown_bits cd_shown_bits ct_shown_bits : Value} {f_shown_word : Addr} {od_shown_word an_shown_word : Option Addr} {sl_shown_word : Array (Option Value)} {oc_shown_word kV_shown_word dc_shown_word pm_shown_word cd_shown_word ct_shown_word : Value} {f__law_next : Addr} {od__law_next an__law_next : Option Addr} {sl__law_next : Array (Option Value)} {oc__law_next kV__law_next dc__law_next pm__law_next cd__law_next ct__law_next : Value} {f__law_figures : Addr} {od__law_figures an__law_figures : Option Addr} {sl__law_figures : Array (Option Value)} {oc__law_figures kV__law_figures dc__law_figures pm__law_figures cd__law_figures ct__law_figures : Value} {f__law_bits : Addr} {od__law_bits an__law_bits : Option Addr} {sl__law_bits : Array (Option Value)} {oc__law_bits kV__law_bits dc__law_bits pm__law_bits cd__law_bits ct__law_bits : Value} {f__law_spoiled : Addr} {od__law_spoiled an__law_spoiled : Option Addr} {sl__law_spoiled : Array (Option Value)} {oc__law_spoiled kV__law_spoiled dc__law_spoiled pm__law_spoiled cd__law_spoiled ct__law_spoiled : Value} {f__law_text : Addr} {od__law_text an__law_text : Option Addr} {sl__law_text : Array (Option Value)} {oc__law_text kV__law_text dc__law_text pm__law_text cd__law_text ct__law_text : Value} {f__law_refused : Addr} {od__law_refused an__law_refused : Option Addr} {sl__law_refused : Array (Option Value)} {oc__law_refused kV__law_refused dc__law_refused pm__law_refused cd__law_refused ct__law_refused : Value} {f__law_writes_number : Addr} {od__law_writes_number an__law_writes_number : Option Addr} {sl__law_writes_number : Array (Option Value)} {oc__law_writes_number kV__law_writes_number dc__law_writes_number pm__law_writes_number cd__law_writes_number ct__law_writes_number : Value} {f__law_writes_word : Addr} {od__law_writes_word an__law_writes_word : Option Addr} {sl__law_writes_word : Array (Option Value)} {oc__law_writes_word kV__law_writes_word dc__law_writes_word pm__law_writes_word cd__law_writes_word ct__law_writes_word : Value} {f__law_number_right : Addr} {od__law_number_right an__law_number_right : Option Addr} {sl__law_number_right : Array (Option Value)} {oc__law_number_right kV__law_number_right dc__law_number_right pm__law_number_right cd__law_number_right ct__law_number_right : Value} {f__law_word_right : Addr} {od__law_word_right an__law_word_right : Option Addr} {sl__law_word_right : Array (Option Value)} {oc__law_word_right kV__law_word_right dc__law_word_right pm__law_word_right cd__law_word_right ct__law_word_right : Value} {f_law : Addr} {od_law an_law : Option Addr} {sl_law : Array (Option Value)} {oc_law kV_law dc_law pm_law cd_law ct_law : Value}
    (n_WayError : PySem.W.nsIn K mainGlobals "WayError" = some (some (.ref c_WayError)))
    (ec1_WayError : PySem.W.isClsIn K c_WayError = true)
    (ec2_WayError : PySem.W.typeIn K (.ref c_WayError) = some (.type "type"))
    (ec3_WayError : PySem.W.subIn K (.ref c_WayError) (.ref c_WayError) = some true)
    (ec4_WayError : PySem.W.findIn K (.ref c_WayError) "__getattribute__" = some (some (.builtin "BaseException.__getattribute__")))
    (ed4_WayError : PySem.W.findIn K (.ref c_WayError) "__getattr__" = some none)
    (ee4_WayError : PySem.W.subIn K (.ref c_WayError) (.type "BaseException") = some true)
    (ec5_WayError : PySem.W.findIn K (.ref c_WayError) "__class__" = some (some (.builtin "object.__class__")))
    (ec6_WayError : PySem.W.specialIn K (.builtin "object.__class__") "__get__" = some (some (.builtin "getset_descriptor.__get__")))
    (ec7_WayError : PySem.W.takesIn K (.builtin "object.__class__") = some true)
    (ec8_WayError : PySem.W.mroIn K c_WayError (.type "object") = some true)
    (n_NoText : PySem.W.nsIn K mainGlobals "NoText" = some (some (.ref c_NoText)))
    (ec1_NoText : PySem.W.isClsIn K c_NoText = true)
    (ec2_NoText : PySem.W.typeIn K (.ref c_NoText) = some (.type "type"))
    (ec3_NoText : PySem.W.subIn K (.ref c_NoText) (.ref c_NoText) = some true)
    (ec4_NoText : PySem.W.findIn K (.ref c_NoText) "__getattribute__" = some (some (.builtin "BaseException.__getattribute__")))
    (ed4_NoText : PySem.W.findIn K (.ref c_NoText) "__getattr__" = some none)
    (ee4_NoText : PySem.W.subIn K (.ref c_NoText) (.type "BaseException") = some true)
    (ec5_NoText : PySem.W.findIn K (.ref c_NoText) "__class__" = some (some (.builtin "object.__class__")))
    (ec6_NoText : PySem.W.specialIn K (.builtin "object.__class__") "__get__" = some (some (.builtin "getset_descriptor.__get__")))
    (ec7_NoText : PySem.W.takesIn K (.builtin "object.__class__") = some true)
    (ec8_NoText : PySem.W.mroIn K c_NoText (.type "object") = some true)
    (ex_NoText : PySem.W.excIn K c_NoText [.type "ValueError", .type "Exception", .type "BaseException", .type "object"] "ValueError.__new__" = true)
    (n_NoScheme : PySem.W.nsIn K mainGlobals "NoScheme" = some (some (.ref c_NoScheme)))
    (ec1_NoScheme : PySem.W.isClsIn K c_NoScheme = true)
    (ec2_NoScheme : PySem.W.typeIn K (.ref c_NoScheme) = some (.type "type"))
    (ec3_NoScheme : PySem.W.subIn K (.ref c_NoScheme) (.ref c_NoScheme) = some true)
    (ec4_NoScheme : PySem.W.findIn K (.ref c_NoScheme) "__getattribute__" = some (some (.builtin "BaseException.__getattribute__")))
    (ed4_NoScheme : PySem.W.findIn K (.ref c_NoScheme) "__getattr__" = some none)
    (ee4_NoScheme : PySem.W.subIn K (.ref c_NoScheme) (.type "BaseException") = some true)
    (ec5_NoScheme : PySem.W.findIn K (.ref c_NoScheme) "__class__" = some (some (.builtin "object.__class__")))
    (ec6_NoScheme : PySem.W.specialIn K (.builtin "object.__class__") "__get__" = some (some (.builtin "getset_descriptor.__get__")))
    (ec7_NoScheme : PySem.W.takesIn K (.builtin "object.__class__") = some true)
    (ec8_NoScheme : PySem.W.mroIn K c_NoScheme (.type "object") = some true)
    (n_NoWord : PySem.W.nsIn K mainGlobals "NoWord" = some (some (.ref c_NoWord)))
    (ec1_NoWord : PySem.W.isClsIn K c_NoWord = true)
    (ec2_NoWord : PySem.W.typeIn K (.ref c_NoWord) = some (.type "type"))
    (ec3_NoWord : PySem.W.subIn K (.ref c_NoWord) (.ref c_NoWord) = some true)
    (ec4_NoWord : PySem.W.findIn K (.ref c_NoWord) "__getattribute__" = some (some (.builtin "BaseException.__getattribute__")))
    (ed4_NoWord : PySem.W.findIn K (.ref c_NoWord) "__getattr__" = some none)
    (ee4_NoWord : PySem.W.subIn K (.ref c_NoWord) (.type "BaseException") = some true)
    (ec5_NoWord : PySem.W.findIn K (.ref c_NoWord) "__class__" = some (some (.builtin "object.__class__")))
    (ec6_NoWord : PySem.W.specialIn K (.builtin "object.__class__") "__get__" = some (some (.builtin "getset_descriptor.__get__")))
    (ec7_NoWord : PySem.W.takesIn K (.builtin "object.__class__") = some true)
    (ec8_NoWord : PySem.W.mroIn K c_NoWord (.type "object") = some true)
    (n_NoSigns : PySem.W.nsIn K mainGlobals "NoSigns" = some (some (.ref c_NoSigns)))
    (ec1_NoSigns : PySem.W.isClsIn K c_NoSigns = true)
    (ec2_NoSigns : PySem.W.typeIn K (.ref c_NoSigns) = some (.type "type"))
    (ec3_NoSigns : PySem.W.subIn K (.ref c_NoSigns) (.ref c_NoSigns) = some true)
    (ec4_NoSigns : PySem.W.findIn K (.ref c_NoSigns) "__getattribute__" = some (some (.builtin "BaseException.__getattribute__")))
    (ed4_NoSigns : PySem.W.findIn K (.ref c_NoSigns) "__getattr__" = some none)
    (ee4_NoSigns : PySem.W.subIn K (.ref c_NoSigns) (.type "BaseException") = some true)
    (ec5_NoSigns : PySem.W.findIn K (.ref c_NoSigns) "__class__" = some (some (.builtin "object.__class__")))
    (ec6_NoSigns : PySem.W.specialIn K (.builtin "object.__class__") "__get__" = some (some (.builtin "getset_descriptor.__get__")))
    (ec7_NoSigns : PySem.W.takesIn K (.builtin "object.__class__") = some true)
    (ec8_NoSigns : PySem.W.mroIn K c_NoSigns (.type "object") = some true)
    (n_NoPlace : PySem.W.nsIn K mainGlobals "NoPlace" = some (some (.ref c_NoPlace)))
    (ec1_NoPlace : PySem.W.isClsIn K c_NoPlace = true)
    (ec2_NoPlace : PySem.W.typeIn K (.ref c_NoPlace) = some (.type "type"))
    (ec3_NoPlace : PySem.W.subIn K (.ref c_NoPlace) (.ref c_NoPlace) = some true)
    (ec4_NoPlace : PySem.W.findIn K (.ref c_NoPlace) "__getattribute__" = some (some (.builtin "BaseException.__getattribute__")))
    (ed4_NoPlace : PySem.W.findIn K (.ref c_NoPlace) "__getattr__" = some none)
    (ee4_NoPlace : PySem.W.subIn K (.ref c_NoPlace) (.type "BaseException") = some true)
    (ec5_NoPlace : PySem.W.findIn K (.ref c_NoPlace) "__class__" = some (some (.builtin "object.__class__")))
    (ec6_NoPlace : PySem.W.specialIn K (.builtin "object.__class__") "__get__" = some (some (.builtin "getset_descriptor.__get__")))
    (ec7_NoPlace : PySem.W.takesIn K (.builtin "object.__class__") = some true)
    (ec8_NoPlace : PySem.W.mroIn K c_NoPlace (.type "object") = some true)
    (eb_WayError : PySem.W.subIn K (.ref c_WayError) (.type "BaseException") = some true)
    (es_NoText_WayError : PySem.W.subIn K (.ref c_NoText) (.ref c_WayError) = some true)
    (es_NoScheme_WayError : PySem.W.subIn K (.ref c_NoScheme) (.ref c_WayError) = some true)
    (es_NoWord_WayError : PySem.W.subIn K (.ref c_NoWord) (.ref c_WayError) = some true)
    (es_NoSigns_WayError : PySem.W.subIn K (.ref c_NoSigns) (.ref c_WayError) = some true)
    (es_NoPlace_WayError : PySem.W.subIn K (.ref c_NoPlace) (.ref c_WayError) = some true)
    (v_MOST_FIGURES : PySem.W.nsIn K mainGlobals "MOST_FIGURES" = some (some (.int (60) tk_MOST_FIGURES)))
    (v_FIGURES : PySem.W.nsIn K mainGlobals "FIGURES" = some (some (.str "0123456789" tk_FIGURES)))
    (a_check_text : PySem.W.nsIn K mainGlobals "check_text" = some (some (.ref f_check_text)))
    (l_check_text : K.lookup f_check_text = some ⟨oc_check_text, od_check_text, .func (PySem.W.fnOf "check_text" "check_text" (defArgs s_check_text) (defBody s_check_text) (defScope s_check_text) .none kV_check_text dc_check_text pm_check_text an_check_text cd_check_text ct_check_text), sl_check_text⟩)
    (c_check_text : PySem.W.codeIn K cd_check_text "check_text" = true)
    (k_check_text : PySem.W.keepIn K (.ref f_check_text) = true)
    (a_is_made_of : PySem.W.nsIn K mainGlobals "is_made_of" = some (some (.ref f_is_made_of)))
    (l_is_made_of : K.lookup f_is_made_of = some ⟨oc_is_made_of, od_is_made_of, .func (PySem.W.fnOf "is_made_of" "is_made_of" (defArgs s_is_made_of) (defBody s_is_made_of) (defScope s_is_made_of) .none kV_is_made_of dc_is_made_of pm_is_made_of an_is_made_of cd_is_made_of ct_is_made_of), sl_is_made_of⟩)
    (c_is_made_of : PySem.W.codeIn K cd_is_made_of "is_made_of" = true)
    (k_is_made_of : PySem.W.keepIn K (.ref f_is_made_of) = true)
    (a_read_figures : PySem.W.nsIn K mainGlobals "read_figures" = some (some (.ref f_read_figures)))
    (l_read_figures : K.lookup f_read_figures = some ⟨oc_read_figures, od_read_figures, .func (PySem.W.fnOf "read_figures" "read_figures" (defArgs s_read_figures) (defBody s_read_figures) (defScope s_read_figures) .none kV_read_figures dc_read_figures pm_read_figures an_read_figures cd_read_figures ct_read_figures), sl_read_figures⟩)
    (c_read_figures : PySem.W.codeIn K cd_read_figures "read_figures" = true)
    (k_read_figures : PySem.W.keepIn K (.ref f_read_figures) = true)
    (a_read_number : PySem.W.nsIn K mainGlobals "read_number" = some (some (.ref f_read_number)))
    (l_read_number : K.lookup f_read_number = some ⟨oc_read_number, od_read_number, .func (PySem.W.fnOf "read_number" "read_number" (defArgs s_read_number) (defBody s_read_number) (defScope s_read_number) .none kV_read_number dc_read_number pm_read_number an_read_number cd_read_number ct_read_number), sl_read_number⟩)
    (c_read_number : PySem.W.codeIn K cd_read_number "read_number" = true)
    (k_read_number : PySem.W.keepIn K (.ref f_read_number) = true)
    (a_read_bits : PySem.W.nsIn K mainGlobals "read_bits" = some (some (.ref f_read_bits)))
    (l_read_bits : K.lookup f_read_bits = some ⟨oc_read_bits, od_read_bits, .func (PySem.W.fnOf "read_bits" "read_bits" (defArgs s_read_bits) (defBody s_read_bits) (defScope s_read_bits) .none kV_read_bits dc_read_bits pm_read_bits an_read_bits cd_read_bits ct_read_bits), sl_read_bits⟩)
    (c_read_bits : PySem.W.codeIn K cd_read_bits "read_bits" = true)
    (k_read_bits : PySem.W.keepIn K (.ref f_read_bits) = true)
    (a_read_word : PySem.W.nsIn K mainGlobals "read_word" = some (some (.ref f_read_word)))
    (l_read_word : K.lookup f_read_word = some ⟨oc_read_word, od_read_word, .func (PySem.W.fnOf "read_word" "read_word" (defArgs s_read_word) (defBody s_read_word) (defScope s_read_word) .none kV_read_word dc_read_word pm_read_word an_read_word cd_read_word ct_read_word), sl_read_word⟩)
    (c_read_word : PySem.W.codeIn K cd_read_word "read_word" = true)
    (k_read_word : PySem.W.keepIn K (.ref f_read_word) = true)
    (a_shown_bits : PySem.W.nsIn K mainGlobals "shown_bits" = some (some (.ref f_shown_bits)))
    (l_shown_bits : K.lookup f_shown_bits = some ⟨oc_shown_bits, od_shown_bits, .func (PySem.W.fnOf "shown_bits" "shown_bits" (defArgs s_shown_bits) (defBody s_shown_bits) (defScope s_shown_bits) .none kV_shown_bits dc_shown_bits pm_shown_bits an_shown_bits cd_shown_bits ct_shown_bits), sl_shown_bits⟩)
    (c_shown_bits : PySem.W.codeIn K cd_shown_bits "shown_bits" = true)
    (k_shown_bits : PySem.W.keepIn K (.ref f_shown_bits) = true)
    (a_shown_word : PySem.W.nsIn K mainGlobals "shown_word" = some (some (.ref f_shown_word)))
    (l_shown_word : K.lookup f_shown_word = some ⟨oc_shown_word, od_shown_word, .func (PySem.W.fnOf "shown_word" "shown_word" (defArgs s_shown_word) (defBody s_shown_word) (defScope s_shown_word) .none kV_shown_word dc_shown_word pm_shown_word an_shown_word cd_shown_word ct_shown_word), sl_shown_word⟩)
    (c_shown_word : PySem.W.codeIn K cd_shown_word "shown_word" = true)
    (k_shown_word : PySem.W.keepIn K (.ref f_shown_word) = true)
    (a__law_next : PySem.W.nsIn K mainGlobals "_law_next" = some (some (.ref f__law_next)))
    (l__law_next : K.lookup f__law_next = some ⟨oc__law_next, od__law_next, .func (PySem.W.fnOf "_law_next" "_law_next" (defArgs s__law_next) (defBody s__law_next) (defScope s__law_next) .none kV__law_next dc__law_next pm__law_next an__law_next cd__law_next ct__law_next), sl__law_next⟩)
    (c__law_next : PySem.W.codeIn K cd__law_next "_law_next" = true)
    (k__law_next : PySem.W.keepIn K (.ref f__law_next) = true)
    (a__law_figures : PySem.W.nsIn K mainGlobals "_law_figures" = some (some (.ref f__law_figures)))
    (l__law_figures : K.lookup f__law_figures = some ⟨oc__law_figures, od__law_figures, .func (PySem.W.fnOf "_law_figures" "_law_figures" (defArgs s__law_figures) (defBody s__law_figures) (defScope s__law_figures) .none kV__law_figures dc__law_figures pm__law_figures an__law_figures cd__law_figures ct__law_figures), sl__law_figures⟩)
    (c__law_figures : PySem.W.codeIn K cd__law_figures "_law_figures" = true)
    (k__law_figures : PySem.W.keepIn K (.ref f__law_figures) = true)
    (a__law_bits : PySem.W.nsIn K mainGlobals "_law_bits" = some (some (.ref f__law_bits)))
    (l__law_bits : K.lookup f__law_bits = some ⟨oc__law_bits, od__law_bits, .func (PySem.W.fnOf "_law_bits" "_law_bits" (defArgs s__law_bits) (defBody s__law_bits) (defScope s__law_bits) .none kV__law_bits dc__law_bits pm__law_bits an__law_bits cd__law_bits ct__law_bits), sl__law_bits⟩)
    (c__law_bits : PySem.W.codeIn K cd__law_bits "_law_bits" = true)
    (k__law_bits : PySem.W.keepIn K (.ref f__law_bits) = true)
    (a__law_spoiled : PySem.W.nsIn K mainGlobals "_law_spoiled" = some (some (.ref f__law_spoiled)))
    (l__law_spoiled : K.lookup f__law_spoiled = some ⟨oc__law_spoiled, od__law_spoiled, .func (PySem.W.fnOf "_law_spoiled" "_law_spoiled" (defArgs s__law_spoiled) (defBody s__law_spoiled) (defScope s__law_spoiled) .none kV__law_spoiled dc__law_spoiled pm__law_spoiled an__law_spoiled cd__law_spoiled ct__law_spoiled), sl__law_spoiled⟩)
    (c__law_spoiled : PySem.W.codeIn K cd__law_spoiled "_law_spoiled" = true)
    (k__law_spoiled : PySem.W.keepIn K (.ref f__law_spoiled) = true)
    (a__law_text : PySem.W.nsIn K mainGlobals "_law_text" = some (some (.ref f__law_text)))
    (l__law_text : K.lookup f__law_text = some ⟨oc__law_text, od__law_text, .func (PySem.W.fnOf "_law_text" "_law_text" (defArgs s__law_text) (defBody s__law_text) (defScope s__law_text) .none kV__law_text dc__law_text pm__law_text an__law_text cd__law_text ct__law_text), sl__law_text⟩)
    (c__law_text : PySem.W.codeIn K cd__law_text "_law_text" = true)
    (k__law_text : PySem.W.keepIn K (.ref f__law_text) = true)
    (a__law_refused : PySem.W.nsIn K mainGlobals "_law_refused" = some (some (.ref f__law_refused)))
    (l__law_refused : K.lookup f__law_refused = some ⟨oc__law_refused, od__law_refused, .func (PySem.W.fnOf "_law_refused" "_law_refused" (defArgs s__law_refused) (defBody s__law_refused) (defScope s__law_refused) .none kV__law_refused dc__law_refused pm__law_refused an__law_refused cd__law_refused ct__law_refused), sl__law_refused⟩)
    (c__law_refused : PySem.W.codeIn K cd__law_refused "_law_refused" = true)
    (k__law_refused : PySem.W.keepIn K (.ref f__law_refused) = true)
    (a__law_writes_number : PySem.W.nsIn K mainGlobals "_law_writes_number" = some (some (.ref f__law_writes_number)))
    (l__law_writes_number : K.lookup f__law_writes_number = some ⟨oc__law_writes_number, od__law_writes_number, .func (PySem.W.fnOf "_law_writes_number" "_law_writes_number" (defArgs s__law_writes_number) (defBody s__law_writes_number) (defScope s__law_writes_number) .none kV__law_writes_number dc__law_writes_number pm__law_writes_number an__law_writes_number cd__law_writes_number ct__law_writes_number), sl__law_writes_number⟩)
    (c__law_writes_number : PySem.W.codeIn K cd__law_writes_number "_law_writes_number" = true)
    (k__law_writes_number : PySem.W.keepIn K (.ref f__law_writes_number) = true)
    (a__law_writes_word : PySem.W.nsIn K mainGlobals "_law_writes_word" = some (some (.ref f__law_writes_word)))
    (l__law_writes_word : K.lookup f__law_writes_word = some ⟨oc__law_writes_word, od__law_writes_word, .func (PySem.W.fnOf "_law_writes_word" "_law_writes_word" (defArgs s__law_writes_word) (defBody s__law_writes_word) (defScope s__law_writes_word) .none kV__law_writes_word dc__law_writes_word pm__law_writes_word an__law_writes_word cd__law_writes_word ct__law_writes_word), sl__law_writes_word⟩)
    (c__law_writes_word : PySem.W.codeIn K cd__law_writes_word "_law_writes_word" = true)
    (k__law_writes_word : PySem.W.keepIn K (.ref f__law_writes_word) = true)
    (a__law_number_right : PySem.W.nsIn K mainGlobals "_law_number_right" = some (some (.ref f__law_number_right)))
    (l__law_number_right : K.lookup f__law_number_right = some ⟨oc__law_number_right, od__law_number_right, .func (PySem.W.fnOf "_law_number_right" "_law_number_right" (defArgs s__law_number_right) (defBody s__law_number_right) (defScope s__law_number_right) .none kV__law_number_right dc__law_number_right pm__law_number_right an__law_number_right cd__law_number_right ct__law_number_right), sl__law_number_right⟩)
    (c__law_number_right : PySem.W.codeIn K cd__law_number_right "_law_number_right" = true)
    (k__law_number_right : PySem.W.keepIn K (.ref f__law_number_right) = true)
    (a__law_word_right : PySem.W.nsIn K mainGlobals "_law_word_right" = some (some (.ref f__law_word_right)))
    (l__law_word_right : K.lookup f__law_word_right = some ⟨oc__law_word_right, od__law_word_right, .func (PySem.W.fnOf "_law_word_right" "_law_word_right" (defArgs s__law_word_right) (defBody s__law_word_right) (defScope s__law_word_right) .none kV__law_word_right dc__law_word_right pm__law_word_right an__law_word_right cd__law_word_right ct__law_word_right), sl__law_word_right⟩)
    (c__law_word_right : PySem.W.codeIn K cd__law_word_right "_law_word_right" = true)
    (k__law_word_right : PySem.W.keepIn K (.ref f__law_word_right) = true)
    (a_law : PySem.W.nsIn K mainGlobals "law" = some (some (.ref f_law)))
    (l_law : K.lookup f_law = some ⟨oc_law, od_law, .func (PySem.W.fnOf "law" "law" (defArgs s_law) (defBody s_law) (defScope s_law) .none kV_law dc_law pm_law an_law cd_law ct_law), sl_law⟩)
    (c_law : PySem.W.codeIn K cd_law "law" = true)
    (k_law : PySem.W.keepIn K (.ref f_law) = true)
    (z_ValueError : PySem.W.nsIn K mainGlobals "ValueError" = some none)
    (z_all : PySem.W.nsIn K mainGlobals "all" = some none)
    (z_bool : PySem.W.nsIn K mainGlobals "bool" = some none)
    (z_int : PySem.W.nsIn K mainGlobals "int" = some none)
    (z_isinstance : PySem.W.nsIn K mainGlobals "isinstance" = some none)
    (z_len : PySem.W.nsIn K mainGlobals "len" = some none)
    (z_list : PySem.W.nsIn K mainGlobals "list" = some none)
    (z_range : PySem.W.nsIn K mainGlobals "range" = some none)
    (z_str : PySem.W.nsIn K mainGlobals "str" = some none)
    (z_zip : PySem.W.nsIn K mainGlobals "zip" = some none)
    (sub_kit_ty_NoneType_ty_bool : PySem.W.subIn K (.type "NoneType") (.type "bool") = some false)
    (sub_kit_ty_int_ty_bool : PySem.W.subIn K (.type "int") (.type "bool") = some false)
    (sub_kit_ty_str_ty_bool : PySem.W.subIn K (.type "str") (.type "bool") = some false)
    (sub_kit_ty_list_ty_bool : PySem.W.subIn K (.type "list") (.type "bool") = some false)
    (sub_kit_ty_tuple_ty_bool : PySem.W.subIn K (.type "tuple") (.type "bool") = some false)
    (sub_kit_ty_dict_ty_bool : PySem.W.subIn K (.type "dict") (.type "bool") = some false)
    (sub_kit_ty_NoneType_ty_int : PySem.W.subIn K (.type "NoneType") (.type "int") = some false)
    (sub_kit_ty_bool_ty_int : PySem.W.subIn K (.type "bool") (.type "int") = some true)
    (sub_kit_ty_str_ty_int : PySem.W.subIn K (.type "str") (.type "int") = some false)
    (sub_kit_ty_list_ty_int : PySem.W.subIn K (.type "list") (.type "int") = some false)
    (sub_kit_ty_tuple_ty_int : PySem.W.subIn K (.type "tuple") (.type "int") = some false)
    (sub_kit_ty_dict_ty_int : PySem.W.subIn K (.type "dict") (.type "int") = some false)
    (sub_kit_ty_NoneType_ty_list : PySem.W.subIn K (.type "NoneType") (.type "list") = some false)
    (sub_kit_ty_bool_ty_list : PySem.W.subIn K (.type "bool") (.type "list") = some false)
    (sub_kit_ty_int_ty_list : PySem.W.subIn K (.type "int") (.type "list") = some false)
    (sub_kit_ty_str_ty_list : PySem.W.subIn K (.type "str") (.type "list") = some false)
    (sub_kit_ty_tuple_ty_list : PySem.W.subIn K (.type "tuple") (.type "list") = some false)
    (sub_kit_ty_dict_ty_list : PySem.W.subIn K (.type "dict") (.type "list") = some false)
    (sub_kit_ty_NoneType_ty_str : PySem.W.subIn K (.type "NoneType") (.type "str") = some false)
    (sub_kit_ty_bool_ty_str : PySem.W.subIn K (.type "bool") (.type "str") = some false)
    (sub_kit_ty_int_ty_str : PySem.W.subIn K (.type "int") (.type "str") = some false)
    (sub_kit_ty_list_ty_str : PySem.W.subIn K (.type "list") (.type "str") = some false)
    (sub_kit_ty_tuple_ty_str : PySem.W.subIn K (.type "tuple") (.type "str") = some false)
    (sub_kit_ty_dict_ty_str : PySem.W.subIn K (.type "dict") (.type "str") = some false)
    (sub_kit_WayError_NoPlace : PySem.W.subIn K (.ref c_WayError) (.ref c_NoPlace) = some false)
    (ic1_NoPlace : PySem.W.isClsIn K c_NoPlace = true)
    (ic2_NoPlace : PySem.W.typeIn K (.ref c_NoPlace) = some (.type "type"))
    (ne_kit_WayError_NoPlace : c_WayError ≠ c_NoPlace)
    (sub_kit_NoText_NoPlace : PySem.W.subIn K (.ref c_NoText) (.ref c_NoPlace) = some false)
    (ne_kit_NoText_NoPlace : c_NoText ≠ c_NoPlace)
    (sub_kit_NoScheme_NoPlace : PySem.W.subIn K (.ref c_NoScheme) (.ref c_NoPlace) = some false)
    (ne_kit_NoScheme_NoPlace : c_NoScheme ≠ c_NoPlace)
    (sub_kit_NoWord_NoPlace : PySem.W.subIn K (.ref c_NoWord) (.ref c_NoPlace) = some false)
    (ne_kit_NoWord_NoPlace : c_NoWord ≠ c_NoPlace)
    (sub_kit_NoSigns_NoPlace : PySem.W.subIn K (.ref c_NoSigns) (.ref c_NoPlace) = some false)
    (ne_kit_NoSigns_NoPlace : c_NoSigns ≠ c_NoPlace)
    (sub_kit_ty_NoneType_NoPlace : PySem.W.subIn K (.type "NoneType") (.ref c_NoPlace) = some false)
    (sub_kit_WayError_NoSigns : PySem.W.subIn K (.ref c_WayError) (.ref c_NoSigns) = some false)
    (ic1_NoSigns : PySem.W.isClsIn K c_NoSigns = true)
    (ic2_NoSigns : PySem.W.typeIn K (.ref c_NoSigns) = some (.type "type"))
    (ne_kit_WayError_NoSigns : c_WayError ≠ c_NoSigns)
    (sub_kit_NoText_NoSigns : PySem.W.subIn K (.ref c_NoText) (.ref c_NoSigns) = some false)
    (ne_kit_NoText_NoSigns : c_NoText ≠ c_NoSigns)
    (sub_kit_NoScheme_NoSigns : PySem.W.subIn K (.ref c_NoScheme) (.ref c_NoSigns) = some false)
    (ne_kit_NoScheme_NoSigns : c_NoScheme ≠ c_NoSigns)
    (sub_kit_NoWord_NoSigns : PySem.W.subIn K (.ref c_NoWord) (.ref c_NoSigns) = some false)
    (ne_kit_NoWord_NoSigns : c_NoWord ≠ c_NoSigns)
    (sub_kit_NoPlace_NoSigns : PySem.W.subIn K (.ref c_NoPlace) (.ref c_NoSigns) = some false)
    (ne_kit_NoPlace_NoSigns : c_NoPlace ≠ c_NoSigns)
    (sub_kit_ty_NoneType_NoSigns : PySem.W.subIn K (.type "NoneType") (.ref c_NoSigns) = some false)
    (sub_kit_WayError_NoWord : PySem.W.subIn K (.ref c_WayError) (.ref c_NoWord) = some false)
    (ic1_NoWord : PySem.W.isClsIn K c_NoWord = true)
    (ic2_NoWord : PySem.W.typeIn K (.ref c_NoWord) = some (.type "type"))
    (ne_kit_WayError_NoWord : c_WayError ≠ c_NoWord)
    (sub_kit_NoText_NoWord : PySem.W.subIn K (.ref c_NoText) (.ref c_NoWord) = some false)
    (ne_kit_NoText_NoWord : c_NoText ≠ c_NoWord)
    (sub_kit_NoScheme_NoWord : PySem.W.subIn K (.ref c_NoScheme) (.ref c_NoWord) = some false)
    (ne_kit_NoScheme_NoWord : c_NoScheme ≠ c_NoWord)
    (sub_kit_NoSigns_NoWord : PySem.W.subIn K (.ref c_NoSigns) (.ref c_NoWord) = some false)
    (ne_kit_NoSigns_NoWord : c_NoSigns ≠ c_NoWord)
    (sub_kit_NoPlace_NoWord : PySem.W.subIn K (.ref c_NoPlace) (.ref c_NoWord) = some false)
    (ne_kit_NoPlace_NoWord : c_NoPlace ≠ c_NoWord)
    (sub_kit_ty_NoneType_NoWord : PySem.W.subIn K (.type "NoneType") (.ref c_NoWord) = some false)
    (sub_kit_WayError_ty_ValueError : PySem.W.subIn K (.ref c_WayError) (.type "ValueError") = some true)
    (sub_kit_NoText_ty_ValueError : PySem.W.subIn K (.ref c_NoText) (.type "ValueError") = some true)
    (sub_kit_NoScheme_ty_ValueError : PySem.W.subIn K (.ref c_NoScheme) (.type "ValueError") = some true)
    (sub_kit_NoWord_ty_ValueError : PySem.W.subIn K (.ref c_NoWord) (.type "ValueError") = some true)
    (sub_kit_NoSigns_ty_ValueError : PySem.W.subIn K (.ref c_NoSigns) (.type "ValueError") = some true)
    (sub_kit_NoPlace_ty_ValueError : PySem.W.subIn K (.ref c_NoPlace) (.type "ValueError") = some true)
    (sub_kit_ty_NoneType_ty_ValueError : PySem.W.subIn K (.type "NoneType") (.type "ValueError") = some false)
    (sub_kit_WayError_NoScheme : PySem.W.subIn K (.ref c_WayError) (.ref c_NoScheme) = some false)
    (ic1_NoScheme : PySem.W.isClsIn K c_NoScheme = true)
    (ic2_NoScheme : PySem.W.typeIn K (.ref c_NoScheme) = some (.type "type"))
    (ne_kit_WayError_NoScheme : c_WayError ≠ c_NoScheme)
    (sub_kit_NoText_NoScheme : PySem.W.subIn K (.ref c_NoText) (.ref c_NoScheme) = some false)
    (ne_kit_NoText_NoScheme : c_NoText ≠ c_NoScheme)
    (sub_kit_NoWord_NoScheme : PySem.W.subIn K (.ref c_NoWord) (.ref c_NoScheme) = some false)
    (ne_kit_NoWord_NoScheme : c_NoWord ≠ c_NoScheme)
    (sub_kit_NoSigns_NoScheme : PySem.W.subIn K (.ref c_NoSigns) (.ref c_NoScheme) = some false)
    (ne_kit_NoSigns_NoScheme : c_NoSigns ≠ c_NoScheme)
    (sub_kit_NoPlace_NoScheme : PySem.W.subIn K (.ref c_NoPlace) (.ref c_NoScheme) = some false)
    (ne_kit_NoPlace_NoScheme : c_NoPlace ≠ c_NoScheme)
    (sub_kit_ty_NoneType_NoScheme : PySem.W.subIn K (.type "NoneType") (.ref c_NoScheme) = some false)
    (sub_kit_WayError_NoText : PySem.W.subIn K (.ref c_WayError) (.ref c_NoText) = some false)
    (ic1_NoText : PySem.W.isClsIn K c_NoText = true)
    (ic2_NoText : PySem.W.typeIn K (.ref c_NoText) = some (.type "type"))
    (ne_kit_WayError_NoText : c_WayError ≠ c_NoText)
    (sub_kit_NoScheme_NoText : PySem.W.subIn K (.ref c_NoScheme) (.ref c_NoText) = some false)
    (ne_kit_NoScheme_NoText : c_NoScheme ≠ c_NoText)
    (sub_kit_NoWord_NoText : PySem.W.subIn K (.ref c_NoWord) (.ref c_NoText) = some false)
    (ne_kit_NoWord_NoText : c_NoWord ≠ c_NoText)
    (sub_kit_NoSigns_NoText : PySem.W.subIn K (.ref c_NoSigns) (.ref c_NoText) = some false)
    (ne_kit_NoSigns_NoText : c_NoSigns ≠ c_NoText)
    (sub_kit_NoPlace_NoText : PySem.W.subIn K (.ref c_NoPlace) (.ref c_NoText) = some false)
    (ne_kit_NoPlace_NoText : c_NoPlace ≠ c_NoText)
    (sub_kit_ty_NoneType_NoText : PySem.W.subIn K (.type "NoneType") (.ref c_NoText) = some false)
    : ∃ a : Ad, Txt K mg a ∧ a.f_law = fa ∧ ∀ (s : Shared) (v : Value), BindsTo s a.fd_law ⟨[v], []⟩ [("_law_script", v)] := by
  have e0 : f_law = fa := Value.ref.inj (Option.some.inj ((PySem.W.mg_of X G a_law).symm.trans hfa))
  subst e0
  refine ⟨⟨c_WayError, c_NoText, c_NoScheme, c_NoWord, c_NoSigns, c_NoPlace, f_check_text, (PySem.W.fnOf "check_text" "check_text" (defArgs s_check_text) (defBody s_check_text) (defScope s_check_text) .none kV_check_text dc_check_text pm_check_text an_check_text cd_check_text ct_check_text), f_is_made_of, (PySem.W.fnOf "is_made_of" "is_made_of" (defArgs s_is_made_of) (defBody s_is_made_of) (defScope s_is_made_of) .none kV_is_made_of dc_is_made_of pm_is_made_of an_is_made_of cd_is_made_of ct_is_made_of), f_read_figures, (PySem.W.fnOf "read_figures" "read_figures" (defArgs s_read_figures) (defBody s_read_figures) (defScope s_read_figures) .none kV_read_figures dc_read_figures pm_read_figures an_read_figures cd_read_figures ct_read_figures), f_read_number, (PySem.W.fnOf "read_number" "read_number" (defArgs s_read_number) (defBody s_read_number) (defScope s_read_number) .none kV_read_number dc_read_number pm_read_number an_read_number cd_read_number ct_read_number), f_read_bits, (PySem.W.fnOf "read_bits" "read_bits" (defArgs s_read_bits) (defBody s_read_bits) (defScope s_read_bits) .none kV_read_bits dc_read_bits pm_read_bits an_read_bits cd_read_bits ct_read_bits), f_read_word, (PySem.W.fnOf "read_word" "read_word" (defArgs s_read_word) (defBody s_read_word) (defScope s_read_word) .none kV_read_word dc_read_word pm_read_word an_read_word cd_read_word ct_read_word), f_shown_bits, (PySem.W.fnOf "shown_bits" "shown_bits" (defArgs s_shown_bits) (defBody s_shown_bits) (defScope s_shown_bits) .none kV_shown_bits dc_shown_bits pm_shown_bits an_shown_bits cd_shown_bits ct_shown_bits), f_shown_word, (PySem.W.fnOf "shown_word" "shown_word" (defArgs s_shown_word) (defBody s_shown_word) (defScope s_shown_word) .none kV_shown_word dc_shown_word pm_shown_word an_shown_word cd_shown_word ct_shown_word), f__law_next, (PySem.W.fnOf "_law_next" "_law_next" (defArgs s__law_next) (defBody s__law_next) (defScope s__law_next) .none kV__law_next dc__law_next pm__law_next an__law_next cd__law_next ct__law_next), f__law_figures, (PySem.W.fnOf "_law_figures" "_law_figures" (defArgs s__law_figures) (defBody s__law_figures) (defScope s__law_figures) .none kV__law_figures dc__law_figures pm__law_figures an__law_figures cd__law_figures ct__law_figures), f__law_bits, (PySem.W.fnOf "_law_bits" "_law_bits" (defArgs s__law_bits) (defBody s__law_bits) (defScope s__law_bits) .none kV__law_bits dc__law_bits pm__law_bits an__law_bits cd__law_bits ct__law_bits), f__law_spoiled, (PySem.W.fnOf "_law_spoiled" "_law_spoiled" (defArgs s__law_spoiled) (defBody s__law_spoiled) (defScope s__law_spoiled) .none kV__law_spoiled dc__law_spoiled pm__law_spoiled an__law_spoiled cd__law_spoiled ct__law_spoiled), f__law_text, (PySem.W.fnOf "_law_text" "_law_text" (defArgs s__law_text) (defBody s__law_text) (defScope s__law_text) .none kV__law_text dc__law_text pm__law_text an__law_text cd__law_text ct__law_text), f__law_refused, (PySem.W.fnOf "_law_refused" "_law_refused" (defArgs s__law_refused) (defBody s__law_refused) (defScope s__law_refused) .none kV__law_refused dc__law_refused pm__law_refused an__law_refused cd__law_refused ct__law_refused), f__law_writes_number, (PySem.W.fnOf "_law_writes_number" "_law_writes_number" (defArgs s__law_writes_number) (defBody s__law_writes_number) (defScope s__law_writes_number) .none kV__law_writes_number dc__law_writes_number pm__law_writes_number an__law_writes_number cd__law_writes_number ct__law_writes_number), f__law_writes_word, (PySem.W.fnOf "_law_writes_word" "_law_writes_word" (defArgs s__law_writes_word) (defBody s__law_writes_word) (defScope s__law_writes_word) .none kV__law_writes_word dc__law_writes_word pm__law_writes_word an__law_writes_word cd__law_writes_word ct__law_writes_word), f__law_number_right, (PySem.W.fnOf "_law_number_right" "_law_number_right" (defArgs s__law_number_right) (defBody s__law_number_right) (defScope s__law_number_right) .none kV__law_number_right dc__law_number_right pm__law_number_right an__law_number_right cd__law_number_right ct__law_number_right), f__law_word_right, (PySem.W.fnOf "_law_word_right" "_law_word_right" (defArgs s__law_word_right) (defBody s__law_word_right) (defScope s__law_word_right) .none kV__law_word_right dc__law_word_right pm__law_word_right an__law_word_right cd__law_word_right ct__law_word_right), f_law, (PySem.W.fnOf "law" "law" (defArgs s_law) (defBody s_law) (defScope s_law) .none kV_law dc_law pm_law an_law cd_law ct_law), tk_MOST_FIGURES, tk_FIGURES⟩, ?_, rfl, fun s v => .of_eq rfl⟩
  exact {
    mg_WayError := PySem.W.mg_of X G n_WayError
    ns_WayError := n_WayError
    ek_WayError := ⟨ec1_WayError, ec2_WayError, ec3_WayError, ec4_WayError, ed4_WayError, ee4_WayError, ec5_WayError, ec6_WayError, ec7_WayError, ec8_WayError⟩
    mg_NoText := PySem.W.mg_of X G n_NoText
    ns_NoText := n_NoText
    ek_NoText := ⟨ec1_NoText, ec2_NoText, ec3_NoText, ec4_NoText, ed4_NoText, ee4_NoText, ec5_NoText, ec6_NoText, ec7_NoText, ec8_NoText⟩
    ex_NoText := ex_NoText
    mg_NoScheme := PySem.W.mg_of X G n_NoScheme
    ns_NoScheme := n_NoScheme
    ek_NoScheme := ⟨ec1_NoScheme, ec2_NoScheme, ec3_NoScheme, ec4_NoScheme, ed4_NoScheme, ee4_NoScheme, ec5_NoScheme, ec6_NoScheme, ec7_NoScheme, ec8_NoScheme⟩
    mg_NoWord := PySem.W.mg_of X G n_NoWord
    ns_NoWord := n_NoWord
    ek_NoWord := ⟨ec1_NoWord, ec2_NoWord, ec3_NoWord, ec4_NoWord, ed4_NoWord, ee4_NoWord, ec5_NoWord, ec6_NoWord, ec7_NoWord, ec8_NoWord⟩
    mg_NoSigns := PySem.W.mg_of X G n_NoSigns
    ns_NoSigns := n_NoSigns
    ek_NoSigns := ⟨ec1_NoSigns, ec2_NoSigns, ec3_NoSigns, ec4_NoSigns, ed4_NoSigns, ee4_NoSigns, ec5_NoSigns, ec6_NoSigns, ec7_NoSigns, ec8_NoSigns⟩
    mg_NoPlace := PySem.W.mg_of X G n_NoPlace
    ns_NoPlace := n_NoPlace
    ek_NoPlace := ⟨ec1_NoPlace, ec2_NoPlace, ec3_NoPlace, ec4_NoPlace, ed4_NoPlace, ee4_NoPlace, ec5_NoPlace, ec6_NoPlace, ec7_NoPlace, ec8_NoPlace⟩
    em_WayError_WayError := exm_mk eb_WayError ec1_WayError ec2_WayError ec3_WayError
    em_NoText_WayError := exm_mk eb_WayError ec1_WayError ec2_WayError es_NoText_WayError
    em_NoScheme_WayError := exm_mk eb_WayError ec1_WayError ec2_WayError es_NoScheme_WayError
    em_NoWord_WayError := exm_mk eb_WayError ec1_WayError ec2_WayError es_NoWord_WayError
    em_NoSigns_WayError := exm_mk eb_WayError ec1_WayError ec2_WayError es_NoSigns_WayError
    em_NoPlace_WayError := exm_mk eb_WayError ec1_WayError ec2_WayError es_NoPlace_WayError
    mg_MOST_FIGURES := PySem.W.mg_of X G v_MOST_FIGURES
    mg_FIGURES := PySem.W.mg_of X G v_FIGURES
    F_check_text := fun_mk (st := s_check_text) l_check_text c_check_text k_check_text
    B_check_text := (fun_mk (st := s_check_text) l_check_text c_check_text k_check_text).binds (ps := ["found"]) fun _ _ _ _ _ _ us hl => match us, hl with | [_], _ => rfl
    mg_check_text := PySem.W.mg_of X G a_check_text
    kp_check_text := k_check_text
    F_is_made_of := fun_mk (st := s_is_made_of) l_is_made_of c_is_made_of k_is_made_of
    B_is_made_of := (fun_mk (st := s_is_made_of) l_is_made_of c_is_made_of k_is_made_of).binds (ps := ["text", "signs"]) fun _ _ _ _ _ _ us hl => match us, hl with | [_, _], _ => rfl
    mg_is_made_of := PySem.W.mg_of X G a_is_made_of
    kp_is_made_of := k_is_made_of
    F_read_figures := fun_mk (st := s_read_figures) l_read_figures c_read_figures k_read_figures
    B_read_figures := (fun_mk (st := s_read_figures) l_read_figures c_read_figures k_read_figures).binds (ps := ["text", "most"]) fun _ _ _ _ _ _ us hl => match us, hl with | [_, _], _ => rfl
    mg_read_figures := PySem.W.mg_of X G a_read_figures
    kp_read_figures := k_read_figures
    F_read_number := fun_mk (st := s_read_number) l_read_number c_read_number k_read_number
    B_read_number := (fun_mk (st := s_read_number) l_read_number c_read_number k_read_number).binds (ps := ["text"]) fun _ _ _ _ _ _ us hl => match us, hl with | [_], _ => rfl
    mg_read_number := PySem.W.mg_of X G a_read_number
    kp_read_number := k_read_number
    nsf_read_number := a_read_number
    F_read_bits := fun_mk (st := s_read_bits) l_read_bits c_read_bits k_read_bits
    B_read_bits := (fun_mk (st := s_read_bits) l_read_bits c_read_bits k_read_bits).binds (ps := ["text"]) fun _ _ _ _ _ _ us hl => match us, hl with | [_], _ => rfl
    mg_read_bits := PySem.W.mg_of X G a_read_bits
    kp_read_bits := k_read_bits
    F_read_word := fun_mk (st := s_read_word) l_read_word c_read_word k_read_word
    B_read_word := (fun_mk (st := s_read_word) l_read_word c_read_word k_read_word).binds (ps := ["text"]) fun _ _ _ _ _ _ us hl => match us, hl with | [_], _ => rfl
    mg_read_word := PySem.W.mg_of X G a_read_word
    kp_read_word := k_read_word
    nsf_read_word := a_read_word
    F_shown_bits := fun_mk (st := s_shown_bits) l_shown_bits c_shown_bits k_shown_bits
    B_shown_bits := (fun_mk (st := s_shown_bits) l_shown_bits c_shown_bits k_shown_bits).binds (ps := ["bits"]) fun _ _ _ _ _ _ us hl => match us, hl with | [_], _ => rfl
    mg_shown_bits := PySem.W.mg_of X G a_shown_bits
    kp_shown_bits := k_shown_bits
    F_shown_word := fun_mk (st := s_shown_word) l_shown_word c_shown_word k_shown_word
    B_shown_word := (fun_mk (st := s_shown_word) l_shown_word c_shown_word k_shown_word).binds (ps := ["word"]) fun _ _ _ _ _ _ us hl => match us, hl with | [_], _ => rfl
    mg_shown_word := PySem.W.mg_of X G a_shown_word
    kp_shown_word := k_shown_word
    F__law_next := fun_mk (st := s__law_next) l__law_next c__law_next k__law_next
    B__law_next := (fun_mk (st := s__law_next) l__law_next c__law_next k__law_next).binds (ps := ["_law_state", "_law_many"]) fun _ _ _ _ _ _ us hl => match us, hl with | [_, _], _ => rfl
    mg__law_next := PySem.W.mg_of X G a__law_next
    kp__law_next := k__law_next
    F__law_figures := fun_mk (st := s__law_figures) l__law_figures c__law_figures k__law_figures
    B__law_figures := (fun_mk (st := s__law_figures) l__law_figures c__law_figures k__law_figures).binds (ps := ["_law_state", "_law_many"]) fun _ _ _ _ _ _ us hl => match us, hl with | [_, _], _ => rfl
    mg__law_figures := PySem.W.mg_of X G a__law_figures
    kp__law_figures := k__law_figures
    F__law_bits := fun_mk (st := s__law_bits) l__law_bits c__law_bits k__law_bits
    B__law_bits := (fun_mk (st := s__law_bits) l__law_bits c__law_bits k__law_bits).binds (ps := ["_law_state", "_law_many"]) fun _ _ _ _ _ _ us hl => match us, hl with | [_, _], _ => rfl
    mg__law_bits := PySem.W.mg_of X G a__law_bits
    kp__law_bits := k__law_bits
    F__law_spoiled := fun_mk (st := s__law_spoiled) l__law_spoiled c__law_spoiled k__law_spoiled
    B__law_spoiled := (fun_mk (st := s__law_spoiled) l__law_spoiled c__law_spoiled k__law_spoiled).binds (ps := ["_law_state", "_law_text_here"]) fun _ _ _ _ _ _ us hl => match us, hl with | [_, _], _ => rfl
    mg__law_spoiled := PySem.W.mg_of X G a__law_spoiled
    kp__law_spoiled := k__law_spoiled
    F__law_text := fun_mk (st := s__law_text) l__law_text c__law_text k__law_text
    B__law_text := (fun_mk (st := s__law_text) l__law_text c__law_text k__law_text).binds (ps := ["_law_state"]) fun _ _ _ _ _ _ us hl => match us, hl with | [_], _ => rfl
    mg__law_text := PySem.W.mg_of X G a__law_text
    kp__law_text := k__law_text
    F__law_refused := fun_mk (st := s__law_refused) l__law_refused c__law_refused k__law_refused
    B__law_refused := (fun_mk (st := s__law_refused) l__law_refused c__law_refused k__law_refused).binds (ps := ["_law_reader", "_law_text_here", "_law_both"]) fun _ _ _ _ _ _ us hl => match us, hl with | [_, _, _], _ => rfl
    mg__law_refused := PySem.W.mg_of X G a__law_refused
    kp__law_refused := k__law_refused
    F__law_writes_number := fun_mk (st := s__law_writes_number) l__law_writes_number c__law_writes_number k__law_writes_number
    B__law_writes_number := (fun_mk (st := s__law_writes_number) l__law_writes_number c__law_writes_number k__law_writes_number).binds (ps := ["_law_text_here"]) fun _ _ _ _ _ _ us hl => match us, hl with | [_], _ => rfl
    mg__law_writes_number := PySem.W.mg_of X G a__law_writes_number
    kp__law_writes_number := k__law_writes_number
    F__law_writes_word := fun_mk (st := s__law_writes_word) l__law_writes_word c__law_writes_word k__law_writes_word
    B__law_writes_word := (fun_mk (st := s__law_writes_word) l__law_writes_word c__law_writes_word k__law_writes_word).binds (ps := ["_law_text_here"]) fun _ _ _ _ _ _ us hl => match us, hl with | [_], _ => rfl
    mg__law_writes_word := PySem.W.mg_of X G a__law_writes_word
    kp__law_writes_word := k__law_writes_word
    F__law_number_right := fun_mk (st := s__law_number_right) l__law_number_right c__law_number_right k__law_number_right
    B__law_number_right := (fun_mk (st := s__law_number_right) l__law_number_right c__law_number_right k__law_number_right).binds (ps := ["_law_text_here"]) fun _ _ _ _ _ _ us hl => match us, hl with | [_], _ => rfl
    mg__law_number_right := PySem.W.mg_of X G a__law_number_right
    kp__law_number_right := k__law_number_right
    F__law_word_right := fun_mk (st := s__law_word_right) l__law_word_right c__law_word_right k__law_word_right
    B__law_word_right := (fun_mk (st := s__law_word_right) l__law_word_right c__law_word_right k__law_word_right).binds (ps := ["_law_text_here"]) fun _ _ _ _ _ _ us hl => match us, hl with | [_], _ => rfl
    mg__law_word_right := PySem.W.mg_of X G a__law_word_right
    kp__law_word_right := k__law_word_right
    F_law := fun_mk (st := s_law) l_law c_law k_law
    B_law := (fun_mk (st := s_law) l_law c_law k_law).binds (ps := ["_law_script"]) fun _ _ _ _ _ _ us hl => match us, hl with | [_], _ => rfl
    mg_law := PySem.W.mg_of X G a_law
    kp_law := k_law
    z_ValueError := PySem.W.mg_none_of X G z_ValueError
    z_all := PySem.W.mg_none_of X G z_all
    z_bool := PySem.W.mg_none_of X G z_bool
    z_int := PySem.W.mg_none_of X G z_int
    z_isinstance := PySem.W.mg_none_of X G z_isinstance
    z_len := PySem.W.mg_none_of X G z_len
    z_list := PySem.W.mg_none_of X G z_list
    z_range := PySem.W.mg_none_of X G z_range
    z_str := PySem.W.mg_none_of X G z_str
    z_zip := PySem.W.mg_none_of X G z_zip
    kit_ty_NoneType_ty_bool := kit_ty (by decide +kernel) sub_kit_ty_NoneType_ty_bool (by decide +kernel)
    kit_ty_bool_ty_bool := kit_self
    kit_ty_int_ty_bool := kit_ty (by decide +kernel) sub_kit_ty_int_ty_bool (by decide +kernel)
    kit_ty_str_ty_bool := kit_ty (by decide +kernel) sub_kit_ty_str_ty_bool (by decide +kernel)
    kit_ty_list_ty_bool := kit_ty (by decide +kernel) sub_kit_ty_list_ty_bool (by decide +kernel)
    kit_ty_tuple_ty_bool := kit_ty (by decide +kernel) sub_kit_ty_tuple_ty_bool (by decide +kernel)
    kit_ty_dict_ty_bool := kit_ty (by decide +kernel) sub_kit_ty_dict_ty_bool (by decide +kernel)
    kit_ty_NoneType_ty_int := kit_ty (by decide +kernel) sub_kit_ty_NoneType_ty_int (by decide +kernel)
    kit_ty_bool_ty_int := kit_ty (by decide +kernel) sub_kit_ty_bool_ty_int (by decide +kernel)
    kit_ty_int_ty_int := kit_self
    kit_ty_str_ty_int := kit_ty (by decide +kernel) sub_kit_ty_str_ty_int (by decide +kernel)
    kit_ty_list_ty_int := kit_ty (by decide +kernel) sub_kit_ty_list_ty_int (by decide +kernel)
    kit_ty_tuple_ty_int := kit_ty (by decide +kernel) sub_kit_ty_tuple_ty_int (by decide +kernel)
    kit_ty_dict_ty_int := kit_ty (by decide +kernel) sub_kit_ty_dict_ty_int (by decide +kernel)
    kit_ty_NoneType_ty_list := kit_ty (by decide +kernel) sub_kit_ty_NoneType_ty_list (by decide +kernel)
    kit_ty_bool_ty_list := kit_ty (by decide +kernel) sub_kit_ty_bool_ty_list (by decide +kernel)
    kit_ty_int_ty_list := kit_ty (by decide +kernel) sub_kit_ty_int_ty_list (by decide +kernel)
    kit_ty_str_ty_list := kit_ty (by decide +kernel) sub_kit_ty_str_ty_list (by decide +kernel)
    kit_ty_list_ty_list := kit_self
    kit_ty_tuple_ty_list := kit_ty (by decide +kernel) sub_kit_ty_tuple_ty_list (by decide +kernel)
    kit_ty_dict_ty_list := kit_ty (by decide +kernel) sub_kit_ty_dict_ty_list (by decide +kernel)
    kit_ty_NoneType_ty_str := kit_ty (by decide +kernel) sub_kit_ty_NoneType_ty_str (by decide +kernel)
    kit_ty_bool_ty_str := kit_ty (by decide +kernel) sub_kit_ty_bool_ty_str (by decide +kernel)
    kit_ty_int_ty_str := kit_ty (by decide +kernel) sub_kit_ty_int_ty_str (by decide +kernel)
    kit_ty_str_ty_str := kit_self
    kit_ty_list_ty_str := kit_ty (by decide +kernel) sub_kit_ty_list_ty_str (by decide +kernel)
    kit_ty_tuple_ty_str := kit_ty (by decide +kernel) sub_kit_ty_tuple_ty_str (by decide +kernel)
    kit_ty_dict_ty_str := kit_ty (by decide +kernel) sub_kit_ty_dict_ty_str (by decide +kernel)
    kit_WayError_NoPlace := kit_ref ic1_NoPlace ic2_NoPlace sub_kit_WayError_NoPlace (fun z => ne_kit_WayError_NoPlace (Value.ref.inj z))
    kit_NoText_NoPlace := kit_ref ic1_NoPlace ic2_NoPlace sub_kit_NoText_NoPlace (fun z => ne_kit_NoText_NoPlace (Value.ref.inj z))
    kit_NoScheme_NoPlace := kit_ref ic1_NoPlace ic2_NoPlace sub_kit_NoScheme_NoPlace (fun z => ne_kit_NoScheme_NoPlace (Value.ref.inj z))
    kit_NoWord_NoPlace := kit_ref ic1_NoPlace ic2_NoPlace sub_kit_NoWord_NoPlace (fun z => ne_kit_NoWord_NoPlace (Value.ref.inj z))
    kit_NoSigns_NoPlace := kit_ref ic1_NoPlace ic2_NoPlace sub_kit_NoSigns_NoPlace (fun z => ne_kit_NoSigns_NoPlace (Value.ref.inj z))
    kit_NoPlace_NoPlace := kit_self
    kit_ty_NoneType_NoPlace := kit_ref ic1_NoPlace ic2_NoPlace sub_kit_ty_NoneType_NoPlace (fun z => nomatch z)
    kit_WayError_NoSigns := kit_ref ic1_NoSigns ic2_NoSigns sub_kit_WayError_NoSigns (fun z => ne_kit_WayError_NoSigns (Value.ref.inj z))
    kit_NoText_NoSigns := kit_ref ic1_NoSigns ic2_NoSigns sub_kit_NoText_NoSigns (fun z => ne_kit_NoText_NoSigns (Value.ref.inj z))
    kit_NoScheme_NoSigns := kit_ref ic1_NoSigns ic2_NoSigns sub_kit_NoScheme_NoSigns (fun z => ne_kit_NoScheme_NoSigns (Value.ref.inj z))
    kit_NoWord_NoSigns := kit_ref ic1_NoSigns ic2_NoSigns sub_kit_NoWord_NoSigns (fun z => ne_kit_NoWord_NoSigns (Value.ref.inj z))
    kit_NoSigns_NoSigns := kit_self
    kit_NoPlace_NoSigns := kit_ref ic1_NoSigns ic2_NoSigns sub_kit_NoPlace_NoSigns (fun z => ne_kit_NoPlace_NoSigns (Value.ref.inj z))
    kit_ty_NoneType_NoSigns := kit_ref ic1_NoSigns ic2_NoSigns sub_kit_ty_NoneType_NoSigns (fun z => nomatch z)
    kit_WayError_NoWord := kit_ref ic1_NoWord ic2_NoWord sub_kit_WayError_NoWord (fun z => ne_kit_WayError_NoWord (Value.ref.inj z))
    kit_NoText_NoWord := kit_ref ic1_NoWord ic2_NoWord sub_kit_NoText_NoWord (fun z => ne_kit_NoText_NoWord (Value.ref.inj z))
    kit_NoScheme_NoWord := kit_ref ic1_NoWord ic2_NoWord sub_kit_NoScheme_NoWord (fun z => ne_kit_NoScheme_NoWord (Value.ref.inj z))
    kit_NoWord_NoWord := kit_self
    kit_NoSigns_NoWord := kit_ref ic1_NoWord ic2_NoWord sub_kit_NoSigns_NoWord (fun z => ne_kit_NoSigns_NoWord (Value.ref.inj z))
    kit_NoPlace_NoWord := kit_ref ic1_NoWord ic2_NoWord sub_kit_NoPlace_NoWord (fun z => ne_kit_NoPlace_NoWord (Value.ref.inj z))
    kit_ty_NoneType_NoWord := kit_ref ic1_NoWord ic2_NoWord sub_kit_ty_NoneType_NoWord (fun z => nomatch z)
    kit_WayError_ty_ValueError := kit_reft (by decide +kernel) sub_kit_WayError_ty_ValueError
    kit_NoText_ty_ValueError := kit_reft (by decide +kernel) sub_kit_NoText_ty_ValueError
    kit_NoScheme_ty_ValueError := kit_reft (by decide +kernel) sub_kit_NoScheme_ty_ValueError
    kit_NoWord_ty_ValueError := kit_reft (by decide +kernel) sub_kit_NoWord_ty_ValueError
    kit_NoSigns_ty_ValueError := kit_reft (by decide +kernel) sub_kit_NoSigns_ty_ValueError
    kit_NoPlace_ty_ValueError := kit_reft (by decide +kernel) sub_kit_NoPlace_ty_ValueError
    kit_ty_NoneType_ty_ValueError := kit_ty (by decide +kernel) sub_kit_ty_NoneType_ty_ValueError (by decide +kernel)
    kit_WayError_NoScheme := kit_ref ic1_NoScheme ic2_NoScheme sub_kit_WayError_NoScheme (fun z => ne_kit_WayError_NoScheme (Value.ref.inj z))
    kit_NoText_NoScheme := kit_ref ic1_NoScheme ic2_NoScheme sub_kit_NoText_NoScheme (fun z => ne_kit_NoText_NoScheme (Value.ref.inj z))
    kit_NoScheme_NoScheme := kit_self
    kit_NoWord_NoScheme := kit_ref ic1_NoScheme ic2_NoScheme sub_kit_NoWord_NoScheme (fun z => ne_kit_NoWord_NoScheme (Value.ref.inj z))
    kit_NoSigns_NoScheme := kit_ref ic1_NoScheme ic2_NoScheme sub_kit_NoSigns_NoScheme (fun z => ne_kit_NoSigns_NoScheme (Value.ref.inj z))
    kit_NoPlace_NoScheme := kit_ref ic1_NoScheme ic2_NoScheme sub_kit_NoPlace_NoScheme (fun z => ne_kit_NoPlace_NoScheme (Value.ref.inj z))
    kit_ty_NoneType_NoScheme := kit_ref ic1_NoScheme ic2_NoScheme sub_kit_ty_NoneType_NoScheme (fun z => nomatch z)
    kit_WayError_NoText := kit_ref ic1_NoText ic2_NoText sub_kit_WayError_NoText (fun z => ne_kit_WayError_NoText (Value.ref.inj z))
    kit_NoText_NoText := kit_self
    kit_NoScheme_NoText := kit_ref ic1_NoText ic2_NoText sub_kit_NoScheme_NoText (fun z => ne_kit_NoScheme_NoText (Value.ref.inj z))
    kit_NoWord_NoText := kit_ref ic1_NoText ic2_NoText sub_kit_NoWord_NoText (fun z => ne_kit_NoWord_NoText (Value.ref.inj z))
    kit_NoSigns_NoText := kit_ref ic1_NoText ic2_NoText sub_kit_NoSigns_NoText (fun z => ne_kit_NoSigns_NoText (Value.ref.inj z))
    kit_NoPlace_NoText := kit_ref ic1_NoText ic2_NoText sub_kit_NoPlace_NoText (fun z => ne_kit_NoPlace_NoText (Value.ref.inj z))
    kit_ty_NoneType_NoText := kit_ref ic1_NoText ic2_NoText sub_kit_ty_NoneType_NoText (fun z => nomatch z)
  }
theorem walk {l : PySem.W.OpenLaw} {q : Program} {loose : List Str} {XP : (Str → Option Value) → Heap → Prop} {YP : World → Heap → Prop} {d : DefRec} {K : Params → PySem.W.Frag} (hn : l.most = some 63) (hdf : d.params.defaults = []) (hd : d.name = "law")
    (hY : ∀ (w : World) (h : Heap), YP w h → (K w.params).In h)
    (F : ∀ (w : World) (mg : Str → Option Value) (fa : Addr) (h : Heap), (K w.params).In h → h.Ns mainGlobals mg → mg "law" = some (.ref fa) → ∃ a : Ad, Txt (K w.params) mg a ∧ a.f_law = fa ∧ ∀ (s : Shared) (v : Value), BindsTo s a.fd_law ⟨[v], []⟩ [("_law_script", v)]) :
    PySem.W.WalkO q loose XP YP l.row.toRowW d [] (fun f vs => PySem.call f vs) :=
  L2.walk_of (n := 63) (k := 6) (x := "_law_script") (CX := fun _ => CX0) (sp := fun w => spLaw (K w.params) 63) hn (by decide) hdf ⟨rfl, by decide, by decide⟩ hY
    (fun w mg fa h KX G hm => by
      rw [hd] at hm
      obtain ⟨a, T, e, b⟩ := F w mg fa h KX G hm
      subst e
      exact ⟨a.fd_law, b, fun base _ _ => law_ok T⟩)
    (fun _ _ a ns hl _ hS => ⟨a, ns, rfl, hS, hl, fun _ => rfl⟩) fun _ _ _ _ _ z => z
end K51
open PySem PySem.W PyProof.Rows
set_option maxRecDepth 100000 in
set_option maxHeartbeats 0 in
theorem PySem.Challenge.cw_trellisway_k51_words_and_numbers_holds : PySem.Challenge.rw_trellisway_k51_words_and_numbers.Holds := by
  w_on; o_law; k_head; (case hw => w_witness2)
  k_fill
  refine K51.walk (l := PySem.Challenge.rw_trellisway_k51_words_and_numbers) rfl rfl rfl (fun w h Y => PySem.W.kIn_of Y) ?F
  case F =>
    intro w mg fa h KX G hmg
    refine' K51.txt_mk KX G hmg ?n_WayError ?ec1_WayError ?ec2_WayError ?ec3_WayError ?ec4_WayError ?ed4_WayError ?ee4_WayError ?ec5_WayError ?ec6_WayError ?ec7_WayError ?ec8_WayError ?n_NoText ?ec1_NoText ?ec2_NoText ?ec3_NoText ?ec4_NoText ?ed4_NoText ?ee4_NoText ?ec5_NoText ?ec6_NoText ?ec7_NoText ?ec8_NoText ?ex_NoText ?n_NoScheme ?ec1_NoScheme ?ec2_NoScheme ?ec3_NoScheme ?ec4_NoScheme ?ed4_NoScheme ?ee4_NoScheme ?ec5_NoScheme ?ec6_NoScheme ?ec7_NoScheme ?ec8_NoScheme ?n_NoWord ?ec1_NoWord ?ec2_NoWord ?ec3_NoWord ?ec4_NoWord ?ed4_NoWord ?ee4_NoWord ?ec5_NoWord ?ec6_NoWord ?ec7_NoWord ?ec8_NoWord ?n_NoSigns ?ec1_NoSigns ?ec2_NoSigns ?ec3_NoSigns ?ec4_NoSigns ?ed4_NoSigns ?ee4_NoSigns ?ec5_NoSigns ?ec6_NoSigns ?ec7_NoSigns ?ec8_NoSigns ?n_NoPlace ?ec1_NoPlace ?ec2_NoPlace ?ec3_NoPlace ?ec4_NoPlace ?ed4_NoPlace ?ee4_NoPlace ?ec5_NoPlace ?ec6_NoPlace ?ec7_NoPlace ?ec8_NoPlace ?eb_WayError ?es_NoText_WayError ?es_NoScheme_WayError ?es_NoWord_WayError ?es_NoSigns_WayError ?es_NoPlace_WayError ?v_MOST_FIGURES ?v_FIGURES ?a_check_text ?l_check_text ?c_check_text ?k_check_text ?a_is_made_of ?l_is_made_of ?c_is_made_of ?k_is_made_of ?a_read_figures ?l_read_figures ?c_read_figures ?k_read_figures ?a_read_number ?l_read_number ?c_read_number ?k_read_number ?a_read_bits ?l_read_bits ?c_read_bits ?k_read_bits ?a_read_word ?l_read_word ?c_read_word ?k_read_word ?a_shown_bits ?l_shown_bits ?c_shown_bits ?k_shown_bits ?a_shown_word ?l_shown_word ?c_shown_word ?k_shown_word ?a__law_next ?l__law_next ?c__law_next ?k__law_next ?a__law_figures ?l__law_figures ?c__law_figures ?k__law_figures ?a__law_bits ?l__law_bits ?c__law_bits ?k__law_bits ?a__law_spoiled ?l__law_spoiled ?c__law_spoiled ?k__law_spoiled ?a__law_text ?l__law_text ?c__law_text ?k__law_text ?a__law_refused ?l__law_refused ?c__law_refused ?k__law_refused ?a__law_writes_number ?l__law_writes_number ?c__law_writes_number ?k__law_writes_number ?a__law_writes_word ?l__law_writes_word ?c__law_writes_word ?k__law_writes_word ?a__law_number_right ?l__law_number_right ?c__law_number_right ?k__law_number_right ?a__law_word_right ?l__law_word_right ?c__law_word_right ?k__law_word_right ?a_law ?l_law ?c_law ?k_law ?z_ValueError ?z_all ?z_bool ?z_int ?z_isinstance ?z_len ?z_list ?z_range ?z_str ?z_zip ?sub_kit_ty_NoneType_ty_bool ?sub_kit_ty_int_ty_bool ?sub_kit_ty_str_ty_bool ?sub_kit_ty_list_ty_bool ?sub_kit_ty_tuple_ty_bool ?sub_kit_ty_dict_ty_bool ?sub_kit_ty_NoneType_ty_int ?sub_kit_ty_bool_ty_int ?sub_kit_ty_str_ty_int ?sub_kit_ty_list_ty_int ?sub_kit_ty_tuple_ty_int ?sub_kit_ty_dict_ty_int ?sub_kit_ty_NoneType_ty_list ?sub_kit_ty_bool_ty_list ?sub_kit_ty_int_ty_list ?sub_kit_ty_str_ty_list ?sub_kit_ty_tuple_ty_list ?sub_kit_ty_dict_ty_list ?sub_kit_ty_NoneType_ty_str ?sub_kit_ty_bool_ty_str ?sub_kit_ty_int_ty_str ?sub_kit_ty_list_ty_str ?sub_kit_ty_tuple_ty_str ?sub_kit_ty_dict_ty_str ?sub_kit_WayError_NoPlace ?ic1_NoPlace ?ic2_NoPlace ?ne_kit_WayError_NoPlace ?sub_kit_NoText_NoPlace ?ne_kit_NoText_NoPlace ?sub_kit_NoScheme_NoPlace ?ne_kit_NoScheme_NoPlace ?sub_kit_NoWord_NoPlace ?ne_kit_NoWord_NoPlace ?sub_kit_NoSigns_NoPlace ?ne_kit_NoSigns_NoPlace ?sub_kit_ty_NoneType_NoPlace ?sub_kit_WayError_NoSigns ?ic1_NoSigns ?ic2_NoSigns ?ne_kit_WayError_NoSigns ?sub_kit_NoText_NoSigns ?ne_kit_NoText_NoSigns ?sub_kit_NoScheme_NoSigns ?ne_kit_NoScheme_NoSigns ?sub_kit_NoWord_NoSigns ?ne_kit_NoWord_NoSigns ?sub_kit_NoPlace_NoSigns ?ne_kit_NoPlace_NoSigns ?sub_kit_ty_NoneType_NoSigns ?sub_kit_WayError_NoWord ?ic1_NoWord ?ic2_NoWord ?ne_kit_WayError_NoWord ?sub_kit_NoText_NoWord ?ne_kit_NoText_NoWord ?sub_kit_NoScheme_NoWord ?ne_kit_NoScheme_NoWord ?sub_kit_NoSigns_NoWord ?ne_kit_NoSigns_NoWord ?sub_kit_NoPlace_NoWord ?ne_kit_NoPlace_NoWord ?sub_kit_ty_NoneType_NoWord ?sub_kit_WayError_ty_ValueError ?sub_kit_NoText_ty_ValueError ?sub_kit_NoScheme_ty_ValueError ?sub_kit_NoWord_ty_ValueError ?sub_kit_NoSigns_ty_ValueError ?sub_kit_NoPlace_ty_ValueError ?sub_kit_ty_NoneType_ty_ValueError ?sub_kit_WayError_NoScheme ?ic1_NoScheme ?ic2_NoScheme ?ne_kit_WayError_NoScheme ?sub_kit_NoText_NoScheme ?ne_kit_NoText_NoScheme ?sub_kit_NoWord_NoScheme ?ne_kit_NoWord_NoScheme ?sub_kit_NoSigns_NoScheme ?ne_kit_NoSigns_NoScheme ?sub_kit_NoPlace_NoScheme ?ne_kit_NoPlace_NoScheme ?sub_kit_ty_NoneType_NoScheme ?sub_kit_WayError_NoText ?ic1_NoText ?ic2_NoText ?ne_kit_WayError_NoText ?sub_kit_NoScheme_NoText ?ne_kit_NoScheme_NoText ?sub_kit_NoWord_NoText ?ne_kit_NoWord_NoText ?sub_kit_NoSigns_NoText ?ne_kit_NoSigns_NoText ?sub_kit_NoPlace_NoText ?ne_kit_NoPlace_NoText ?sub_kit_ty_NoneType_NoText
    (case n_WayError => k_is); (case ec1_WayError => k_is); (case ec2_WayError => k_is); (case ec3_WayError => k_is)
    (case ec4_WayError => k_is); (case ed4_WayError => k_is); (case ee4_WayError => k_is); (case ec5_WayError => k_is)
    (case ec6_WayError => k_is); (case ec7_WayError => k_is); (case ec8_WayError => k_is); (case n_NoText => k_is)
    (case ec1_NoText => k_is); (case ec2_NoText => k_is); (case ec3_NoText => k_is); (case ec4_NoText => k_is)
    (case ed4_NoText => k_is); (case ee4_NoText => k_is); (case ec5_NoText => k_is); (case ec6_NoText => k_is)
    (case ec7_NoText => k_is); (case ec8_NoText => k_is); (case ex_NoText => k_exc); (case n_NoScheme => k_is)
    (case ec1_NoScheme => k_is); (case ec2_NoScheme => k_is); (case ec3_NoScheme => k_is); (case ec4_NoScheme => k_is)
    (case ed4_NoScheme => k_is); (case ee4_NoScheme => k_is); (case ec5_NoScheme => k_is); (case ec6_NoScheme => k_is)
    (case ec7_NoScheme => k_is); (case ec8_NoScheme => k_is); (case n_NoWord => k_is); (case ec1_NoWord => k_is)
    (case ec2_NoWord => k_is); (case ec3_NoWord => k_is); (case ec4_NoWord => k_is); (case ed4_NoWord => k_is)
    (case ee4_NoWord => k_is); (case ec5_NoWord => k_is); (case ec6_NoWord => k_is); (case ec7_NoWord => k_is)
    (case ec8_NoWord => k_is); (case n_NoSigns => k_is); (case ec1_NoSigns => k_is); (case ec2_NoSigns => k_is)
    (case ec3_NoSigns => k_is); (case ec4_NoSigns => k_is); (case ed4_NoSigns => k_is); (case ee4_NoSigns => k_is)
    (case ec5_NoSigns => k_is); (case ec6_NoSigns => k_is); (case ec7_NoSigns => k_is); (case ec8_NoSigns => k_is)
    (case n_NoPlace => k_is); (case ec1_NoPlace => k_is); (case ec2_NoPlace => k_is); (case ec3_NoPlace => k_is)
    (case ec4_NoPlace => k_is); (case ed4_NoPlace => k_is); (case ee4_NoPlace => k_is); (case ec5_NoPlace => k_is)
    (case ec6_NoPlace => k_is); (case ec7_NoPlace => k_is); (case ec8_NoPlace => k_is); (case eb_WayError => k_is)
    (case es_NoText_WayError => k_is); (case es_NoScheme_WayError => k_is); (case es_NoWord_WayError => k_is); (case es_NoSigns_WayError => k_is)
    (case es_NoPlace_WayError => k_is); (case v_MOST_FIGURES => k_is); (case v_FIGURES => k_is); (case a_check_text => k_is)
    (case l_check_text => k_is); (case c_check_text => k_is); (case k_check_text => k_is); (case a_is_made_of => k_is)
    (case l_is_made_of => k_is); (case c_is_made_of => k_is); (case k_is_made_of => k_is); (case a_read_figures => k_is)
    (case l_read_figures => k_is); (case c_read_figures => k_is); (case k_read_figures => k_is); (case a_read_number => k_is)
    (case l_read_number => k_is); (case c_read_number => k_is); (case k_read_number => k_is); (case a_read_bits => k_is)
    (case l_read_bits => k_is); (case c_read_bits => k_is); (case k_read_bits => k_is); (case a_read_word => k_is)
    (case l_read_word => k_is); (case c_read_word => k_is); (case k_read_word => k_is); (case a_shown_bits => k_is)
    (case l_shown_bits => k_is); (case c_shown_bits => k_is); (case k_shown_bits => k_is); (case a_shown_word => k_is)
    (case l_shown_word => k_is); (case c_shown_word => k_is); (case k_shown_word => k_is); (case a__law_next => k_is)
    (case l__law_next => k_is); (case c__law_next => k_is); (case k__law_next => k_is); (case a__law_figures => k_is)
    (case l__law_figures => k_is); (case c__law_figures => k_is); (case k__law_figures => k_is); (case a__law_bits => k_is)
    (case l__law_bits => k_is); (case c__law_bits => k_is); (case k__law_bits => k_is); (case a__law_spoiled => k_is)
    (case l__law_spoiled => k_is); (case c__law_spoiled => k_is); (case k__law_spoiled => k_is); (case a__law_text => k_is)
    (case l__law_text => k_is); (case c__law_text => k_is); (case k__law_text => k_is); (case a__law_refused => k_is)
    (case l__law_refused => k_is); (case c__law_refused => k_is); (case k__law_refused => k_is); (case a__law_writes_number => k_is)
    (case l__law_writes_number => k_is); (case c__law_writes_number => k_is); (case k__law_writes_number => k_is); (case a__law_writes_word => k_is)
    (case l__law_writes_word => k_is); (case c__law_writes_word => k_is); (case k__law_writes_word => k_is); (case a__law_number_right => k_is)
    (case l__law_number_right => k_is); (case c__law_number_right => k_is); (case k__law_number_right => k_is); (case a__law_word_right => k_is)
    (case l__law_word_right => k_is); (case c__law_word_right => k_is); (case k__law_word_right => k_is); (case a_law => k_is)
    (case l_law => k_is); (case c_law => k_is); (case k_law => k_is); (case z_ValueError => k_is)
    (case z_all => k_is); (case z_bool => k_is); (case z_int => k_is); (case z_isinstance => k_is)
    (case z_len => k_is); (case z_list => k_is); (case z_range => k_is); (case z_str => k_is)
    (case z_zip => k_is); (case sub_kit_ty_NoneType_ty_bool => k_is); (case sub_kit_ty_int_ty_bool => k_is); (case sub_kit_ty_str_ty_bool => k_is)
    (case sub_kit_ty_list_ty_bool => k_is); (case sub_kit_ty_tuple_ty_bool => k_is); (case sub_kit_ty_dict_ty_bool => k_is); (case sub_kit_ty_NoneType_ty_int => k_is)
    (case sub_kit_ty_bool_ty_int => k_is); (case sub_kit_ty_str_ty_int => k_is); (case sub_kit_ty_list_ty_int => k_is); (case sub_kit_ty_tuple_ty_int => k_is)
    (case sub_kit_ty_dict_ty_int => k_is); (case sub_kit_ty_NoneType_ty_list => k_is); (case sub_kit_ty_bool_ty_list => k_is); (case sub_kit_ty_int_ty_list => k_is)
    (case sub_kit_ty_str_ty_list => k_is); (case sub_kit_ty_tuple_ty_list => k_is); (case sub_kit_ty_dict_ty_list => k_is); (case sub_kit_ty_NoneType_ty_str => k_is)
    (case sub_kit_ty_bool_ty_str => k_is); (case sub_kit_ty_int_ty_str => k_is); (case sub_kit_ty_list_ty_str => k_is); (case sub_kit_ty_tuple_ty_str => k_is)
    (case sub_kit_ty_dict_ty_str => k_is); (case sub_kit_WayError_NoPlace => k_is); (case ic1_NoPlace => k_is); (case ic2_NoPlace => k_is)
    (case ne_kit_WayError_NoPlace => decide); (case sub_kit_NoText_NoPlace => k_is); (case ne_kit_NoText_NoPlace => decide); (case sub_kit_NoScheme_NoPlace => k_is)
    (case ne_kit_NoScheme_NoPlace => decide); (case sub_kit_NoWord_NoPlace => k_is); (case ne_kit_NoWord_NoPlace => decide); (case sub_kit_NoSigns_NoPlace => k_is)
    (case ne_kit_NoSigns_NoPlace => decide); (case sub_kit_ty_NoneType_NoPlace => k_is); (case sub_kit_WayError_NoSigns => k_is); (case ic1_NoSigns => k_is)
    (case ic2_NoSigns => k_is); (case ne_kit_WayError_NoSigns => decide); (case sub_kit_NoText_NoSigns => k_is); (case ne_kit_NoText_NoSigns => decide)
    (case sub_kit_NoScheme_NoSigns => k_is); (case ne_kit_NoScheme_NoSigns => decide); (case sub_kit_NoWord_NoSigns => k_is); (case ne_kit_NoWord_NoSigns => decide)
    (case sub_kit_NoPlace_NoSigns => k_is); (case ne_kit_NoPlace_NoSigns => decide); (case sub_kit_ty_NoneType_NoSigns => k_is); (case sub_kit_WayError_NoWord => k_is)
    (case ic1_NoWord => k_is); (case ic2_NoWord => k_is); (case ne_kit_WayError_NoWord => decide); (case sub_kit_NoText_NoWord => k_is)
    (case ne_kit_NoText_NoWord => decide); (case sub_kit_NoScheme_NoWord => k_is); (case ne_kit_NoScheme_NoWord => decide); (case sub_kit_NoSigns_NoWord => k_is)
    (case ne_kit_NoSigns_NoWord => decide); (case sub_kit_NoPlace_NoWord => k_is); (case ne_kit_NoPlace_NoWord => decide); (case sub_kit_ty_NoneType_NoWord => k_is)
    (case sub_kit_WayError_ty_ValueError => k_is); (case sub_kit_NoText_ty_ValueError => k_is); (case sub_kit_NoScheme_ty_ValueError => k_is); (case sub_kit_NoWord_ty_ValueError => k_is)
    (case sub_kit_NoSigns_ty_ValueError => k_is); (case sub_kit_NoPlace_ty_ValueError => k_is); (case sub_kit_ty_NoneType_ty_ValueError => k_is); (case sub_kit_WayError_NoScheme => k_is)
    (case ic1_NoScheme => k_is); (case ic2_NoScheme => k_is); (case ne_kit_WayError_NoScheme => decide); (case sub_kit_NoText_NoScheme => k_is)
    (case ne_kit_NoText_NoScheme => decide); (case sub_kit_NoWord_NoScheme => k_is); (case ne_kit_NoWord_NoScheme => decide); (case sub_kit_NoSigns_NoScheme => k_is)
    (case ne_kit_NoSigns_NoScheme => decide); (case sub_kit_NoPlace_NoScheme => k_is); (case ne_kit_NoPlace_NoScheme => decide); (case sub_kit_ty_NoneType_NoScheme => k_is)
    (case sub_kit_WayError_NoText => k_is); (case ic1_NoText => k_is); (case ic2_NoText => k_is); (case ne_kit_WayError_NoText => decide)
    (case sub_kit_NoScheme_NoText => k_is); (case ne_kit_NoScheme_NoText => decide); (case sub_kit_NoWord_NoText => k_is); (case ne_kit_NoWord_NoText => decide)
    (case sub_kit_NoSigns_NoText => k_is); (case ne_kit_NoSigns_NoText => decide); (case sub_kit_NoPlace_NoText => k_is); (case ne_kit_NoPlace_NoText => decide)
    (case sub_kit_ty_NoneType_NoText => k_is)
