import PyProof.Rows.All
import Wide.All
import OpenK.AllK
import Wide.FinOn
import Lean
import KE.KIntText
import PyProof.EqAt
import PyProof.EqKinds
import PyProof.TupleCall
import PySem.Challenge.RW_trellisway_k41_blocks_parted
set_option Elab.async false
set_option linter.all false
set_option maxRecDepth 100000
namespace L2
open PySem PySem.Spec PyProof.Rows
noncomputable abbrev Key := Sum Int Str
noncomputable def keyIs : Key → Value → Bool
  | .inl k, v => Value.isInt k v
  | .inr x, v => Value.isStrOf x v
noncomputable def keyH (w : World) : Key → Int
  | .inl k => hashInt k
  | .inr x => hashStr w x
theorem keyIs_shape : ∀ {k : Key} {v : Value}, keyIs k v = true → (∃ i t, k = Sum.inl i ∧ v = Value.int i t) ∨ (∃ x t, k = Sum.inr x ∧ v = Value.str x t)
  | .inl i, v, h => by
    obtain ⟨t, e⟩ := Value.isInt_shape (k := i) (v := v) h
    exact .inl ⟨i, t, rfl, e⟩
  | .inr x, v, h => by
    obtain ⟨t, e⟩ := Value.isStrOf_shape (x := x) (v := v) h
    exact .inr ⟨x, t, rfl, e⟩
theorem key_ll (a b : Int) : decide ((Sum.inl a : Key) = Sum.inl b) = (a == b) := by
  by_cases e : a = b
  · subst e; simp
  · have h : ¬ (Sum.inl a : Key) = Sum.inl b := fun q => e (Sum.inl.inj q)
    rw [decide_eq_false h]
    exact (beq_eq_false_iff_ne.mpr e).symm
theorem key_rr (a b : Str) : decide ((Sum.inr a : Key) = Sum.inr b) = decide (a = b) := by
  by_cases e : a = b
  · subst e; simp
  · have h : ¬ (Sum.inr a : Key) = Sum.inr b := fun q => e (Sum.inr.inj q)
    rw [decide_eq_false h, decide_eq_false e]
theorem key_lr (a : Int) (b : Str) : decide ((Sum.inl a : Key) = Sum.inr b) = false := decide_eq_false (fun q => nomatch q)
theorem key_rl (a : Str) (b : Int) : decide ((Sum.inr a : Key) = Sum.inl b) = false := decide_eq_false (fun q => nomatch q)
noncomputable def mixKind (prog : Program) (w : World) : PySem.KeyKind prog w Key where
  is := keyIs
  hash := keyH w
  inj := fun v a b ha hb => by
    rcases keyIs_shape ha with ⟨i, t, rfl, rfl⟩ | ⟨x, t, rfl, rfl⟩
    · rcases keyIs_shape hb with ⟨j, u, rfl, e⟩ | ⟨y, u, rfl, e⟩
      · injection e with e1 _; rw [e1]
      · exact nomatch e
    · rcases keyIs_shape hb with ⟨j, u, rfl, e⟩ | ⟨y, u, rfl, e⟩
      · exact nomatch e
      · injection e with e1 _; rw [e1]
  byValue := fun k v h => by
    rcases keyIs_shape h with ⟨i, t, rfl, rfl⟩ | ⟨x, t, rfl, rfl⟩ <;> rfl
  pyHash := fun hv h => by
    rcases keyIs_shape hv with ⟨i, t, rfl, rfl⟩ | ⟨x, t, rfl, rfl⟩
    · exact wpAny_pyHash_int h
    · exact wpAny_pyHash_str h
  eqBool := fun hu hv h => by
    rcases keyIs_shape hu with ⟨i, t, rfl, rfl⟩ | ⟨x, t, rfl, rfl⟩
    · rcases keyIs_shape hv with ⟨j, u, rfl, rfl⟩ | ⟨y, u, rfl, rfl⟩
      · rw [key_ll] at h; exact wpAny_eqBool_int h
      · rw [key_lr] at h; exact SeqAt.EqAt.int_str i t y u _ _ _ _ h
    · rcases keyIs_shape hv with ⟨j, u, rfl, rfl⟩ | ⟨y, u, rfl, rfl⟩
      · rw [key_rl] at h; exact SeqAt.EqAt.str_int x t j u _ _ _ _ h
      · rw [key_rr] at h; exact wpAny_eqBool_str h
  «strs» := fun k x t v h => by
    rcases keyIs_shape h with ⟨i, u, rfl, e⟩ | ⟨y, u, rfl, e⟩
    · exact nomatch e
    · injection e with e1 _
      subst e1
      cases v <;> rfl
end L2
namespace L2
open PySem PySem.Spec PyProof.Rows
inductive V where
  | non | bl (b : Bool) | int (i : Int) | str (x : Str) | byt (b : Array UInt8) | flt (b : UInt64) | ref (a : Addr) | ty (n : String)
  deriving DecidableEq
noncomputable def RelV : V → Value → Prop
  | .non, u => u = Value.none
  | .bl b, u => u = Value.bool b
  | .int i, u => ∃ t, u = Value.int i t
  | .str x, u => ∃ t, u = Value.str x t
  | .byt b, u => ∃ t, u = Value.bytes b t
  | .flt b, u => ∃ t, u = Value.float b t
  | .ref a, u => u = Value.ref a
  | .ty n, u => u = Value.type n
noncomputable abbrev Vals : List V → List Value → Prop := Paired RelV
theorem Vals.length {xs : List V} {us : List Value} (r : Vals xs us) : xs.length = us.length := Paired.length r
theorem Vals.get : ∀ {xs : List V} {us : List Value} {i : Nat} {x : V}, Vals xs us → xs[i]? = some x → ∃ u, us[i]? = some u ∧ RelV x u
  | _, _, _, _, .nil, e => by simp at e
  | _, _, 0, _, .cons r _, e => by simp at e; subst e; exact ⟨_, rfl, r⟩
  | _, _, i + 1, x, .cons _ t, e => by
    obtain ⟨u, h1, h2⟩ := Vals.get (i := i) (x := x) t (by simpa using e)
    exact ⟨u, by simpa using h1, h2⟩
theorem Vals.set {x : V} {u : Value} (r : RelV x u) : ∀ {xs : List V} {us : List Value} (i : Nat), Vals xs us → Vals (xs.set i x) (us.set i u)
  | _, _, _, .nil => .nil
  | _, _, 0, .cons _ t => .cons r t
  | _, _, i + 1, .cons q t => .cons q (Vals.set r i t)
theorem Vals.append : ∀ {xs ys : List V} {us ws : List Value}, Vals xs us → Vals ys ws → Vals (xs ++ ys) (us ++ ws)
  | _, _, _, _, .nil, s => s
  | _, _, _, _, .cons r t, s => .cons r (Vals.append t s)
theorem Vals.take : ∀ {xs : List V} {us : List Value} (n : Nat), Vals xs us → Vals (xs.take n) (us.take n)
  | _, _, 0, _ => .nil
  | _, _, _ + 1, .nil => .nil
  | _, _, n + 1, .cons r t => .cons r (Vals.take n t)
theorem Vals.drop : ∀ {xs : List V} {us : List Value} (n : Nat), Vals xs us → Vals (xs.drop n) (us.drop n)
  | _, _, 0, r => r
  | _, _, _ + 1, .nil => .nil
  | _, _, n + 1, .cons _ t => Vals.drop n t
noncomputable def RelO : Option V → Option Value → Prop
  | some v, some u => RelV v u
  | none, none => True
  | _, _ => False
noncomputable def KV {κ : Type} : List (κ × V) → List (κ × Value) → Prop := Paired fun (p : κ × V) (q : κ × Value) => p.1 = q.1 ∧ RelV p.2 q.2
noncomputable def kV : Key → V
  | .inl i => .int i
  | .inr x => .str x
inductive HO where
  | lst (xs : List V)
  | tup (xs : List V)
  | dK (kvs : List (Key × V)) | dT (kvs : List (List Key × V))
  | set (S : Int → Bool) (n : Nat)
  | ins (C dx : Addr) (fs : List (Str × V))
  | own (x : Addr)
  | xd (fs : List (Str × V))
  | met (f x : Addr)
  | rng (lo hi : Int)
  | frz (o : Obj) (u : HO)
  | tbl (ps : Array Value)
  | ext (φ : Heap → Prop)
noncomputable abbrev Hp := Addr → Option HO
noncomputable def upd (H : Hp) (a : Addr) (o : HO) : Hp := fun b => if b = a then some o else H b
theorem upd_same {H : Hp} {a : Addr} {o : HO} : upd H a o a = some o := by unfold upd; rw [if_pos rfl]
theorem upd_ne {H : Hp} {a b : Addr} {o : HO} (h : b ≠ a) : upd H a o b = H b := by unfold upd; rw [if_neg h]
theorem ne_of_none {H : Hp} {a b : Addr} {o : HO} (h : H a = some o) (h' : H b = none) : a ≠ b := by
  intro e; subst e; rw [h] at h'; cases h'
noncomputable def TupN (h : Heap) (a : Addr) (items : Array Value) : Prop := ∃ o, h.get? a = some o ∧ (o.cls = .type "tuple" ∧ ∃ n, o.data = .seq items n) ∧ o.dict = none
theorem TupN.tup {h : Heap} {a : Addr} {items : Array Value} (x : TupN h a items) : IsTup h a items := let ⟨o, e, c, _⟩ := x; ⟨o, e, c⟩
theorem TupN.lt {h : Heap} {a : Addr} {items : Array Value} (x : TupN h a items) : a < h.objs.size := let ⟨_, e, _⟩ := x; Heap.lt_size e
theorem TupN.new (h : Heap) (items : Array Value) : TupN (h.push { cls := .type "tuple", data := .seq items }) h.objs.size items := ⟨_, Heap.get?_push_size _ rfl, ⟨rfl, _, rfl⟩, rfl⟩
section
variable (P : Program) (w : World)
noncomputable def ObjOk (H : Hp) (h : Heap) (a : Addr) : HO → Prop
  | .lst xs => xs.length ≤ sizeLine ∧ ∃ (its : List Value) (n : Nat), Vals xs its ∧ h.get? a = some { cls := .type "list", data := .seq its.toArray n }
  | .tup xs => xs.length ≤ sizeLine ∧ ∃ its : List Value, Vals xs its ∧ TupN h a its.toArray
  | .dK kvs => kvs.length ≤ sizeLine ∧ (a == sysModules) = false ∧ ∃ vs, KV kvs vs ∧ h.DictOf (mixKind P w) a vs
  | .dT kvs => kvs.length ≤ sizeLine ∧ (a == sysModules) = false ∧ ∃ xs : List (List Key × Addr × Value),
      Paired (fun (p : List Key × V) (q : List Key × Addr × Value) => p.1 = q.1 ∧ H q.2.1 = some (.tup (p.1.map kV)) ∧ RelV p.2 q.2.2) kvs xs ∧
      ∃ o es ep, h.get? a = some o ∧ o.ExactDict ∧ o.data = .dict es ep ∧ es.toList = xs.map (entryOfKey (tupleKind (mixKind P w))) ∧ (xs.map (·.1)).Nodup ∧ ep = kvs.length
  | .set S n => h.SetOf (intKind P w) a S n
  | .ins C dx fs => H dx = some (.own a) ∧ fs.length ≤ 1000 ∧ dx ≠ a ∧ h.get? a = some (PySem.W.instObj C dx) ∧
      ∃ mA, h.Ns1 dx mA ∧ (∀ f, RelO (fs.lookup f) (mA f)) ∧ PySem.Within mA (fs.map (·.1))
  | .own _ => ∃ o, h.get? a = some o
  | .xd fs => ∃ mA, h.Ns1 a mA ∧ ∀ f, RelO (fs.lookup f) (mA f)
  | .rng lo hi => ∃ t u v, h.get? a = some { cls := .type "range", data := .fields #[.int lo t, .int hi u, .int 1 v] }
  | .frz o u => h.get? a = some o ∧ ObjOk H h a u
  | .tbl ps => h.get? a = some { cls := .none, data := .fields ps }
  | .met f x => h.get? a = some (PySem.W.methodObj (.ref f) (.ref x))
  | .ext φ => φ h ∧ (∃ o, h.get? a = some o) ∧ ∀ h1 h2 : Heap, φ h1 → (∀ o, h1.get? a = some o → h2.get? a = some o) → φ h2
noncomputable def HOk (H : Hp) (h : Heap) : Prop := ∀ a o, H a = some o → ObjOk P w H h a o
end
section
variable {P : Program} {w : World} {H H' : Hp} {h h' : Heap} {a : Addr} {o : HO}
theorem ObjOk.lt (x : ObjOk P w H h a o) : a < h.objs.size := by
  cases o with
  | lst xs => obtain ⟨_, _, _, _, e⟩ := x; exact Heap.lt_size e
  | tup xs => obtain ⟨_, _, _, p⟩ := x; exact p.lt
  | dK kvs => obtain ⟨_, _, _, _, o, _, _, e, _⟩ := x; exact Heap.lt_size e
  | dT kvs => obtain ⟨_, _, _, _, o, _, _, e, _⟩ := x; exact Heap.lt_size e
  | set S n => obtain ⟨o, _, _, _, e, _⟩ := x; exact Heap.lt_size e
  | ins C dx fs => obtain ⟨_, _, _, e, _⟩ := x; exact Heap.lt_size e
  | own y => obtain ⟨_, e⟩ := x; exact Heap.lt_size e
  | xd fs => obtain ⟨_, ⟨_, _, _, e, _⟩, _⟩ := x; exact Heap.lt_size e
  | rng lo hi => obtain ⟨_, _, _, e⟩ := x; exact Heap.lt_size e
  | frz ob u => obtain ⟨e, _⟩ := x; exact Heap.lt_size e
  | tbl ps => exact Heap.lt_size (show h.get? a = some _ from x)
  | met f y => exact Heap.lt_size (show h.get? a = some _ from x)
  | ext φ => obtain ⟨_, ⟨_, e⟩, _⟩ := x; exact Heap.lt_size e
theorem Paired.mapP {α β : Type} {F G : α → β → Prop} : ∀ {l₁ : List α} {l₂ : List β}, Paired F l₁ l₂ → (∀ a b, F a b → G a b) → Paired G l₁ l₂
  | _, _, .nil, _ => .nil
  | _, _, .cons r t, f => .cons (f _ _ r) (Paired.mapP t f)
theorem ObjOk.stay (x : ObjOk P w H h a o) (k : ∀ b u, (b = a ∨ H b = some (.own a)) → h.get? b = some u → h'.get? b = some u)
    (ho : ∀ b, H b = some (.own a) → H' b = some (.own a)) (ht : ∀ b xs, H b = some (.tup xs) → H' b = some (.tup xs)) : ObjOk P w H' h' a o := by
  induction o with
  | lst xs => obtain ⟨z, its, n, r, e⟩ := x; exact ⟨z, its, n, r, k _ _ (.inl rfl) e⟩
  | tup xs => obtain ⟨z, its, r, ob, e, c⟩ := x; exact ⟨z, its, r, ob, k _ _ (.inl rfl) e, c⟩
  | dK kvs => obtain ⟨z, y, vs, r, ob, es, ep, e, c⟩ := x; exact ⟨z, y, vs, r, ob, es, ep, k _ _ (.inl rfl) e, c⟩
  | dT kvs =>
    obtain ⟨z, y, xs, r, ob, es, ep, e, c⟩ := x
    exact ⟨z, y, xs, Paired.mapP r fun p q z => ⟨z.1, ht _ _ z.2.1, z.2.2⟩, ob, es, ep, k _ _ (.inl rfl) e, c⟩
  | set S n => obtain ⟨ob, es, ep, t, e, c⟩ := x; exact ⟨ob, es, ep, t, k _ _ (.inl rfl) e, c⟩
  | ins C dx fs =>
    obtain ⟨d, z, ne, e, mA, ⟨od, es, ep, e2, c⟩, r⟩ := x
    exact ⟨ho _ d, z, ne, k _ _ (.inl rfl) e, mA, ⟨od, es, ep, k _ _ (.inr d) e2, c⟩, r⟩
  | own y => obtain ⟨ob, e⟩ := x; exact ⟨ob, k _ _ (.inl rfl) e⟩
  | xd fs => obtain ⟨mA, ⟨od, es, ep, e, c⟩, r⟩ := x; exact ⟨mA, ⟨od, es, ep, k _ _ (.inl rfl) e, c⟩, r⟩
  | rng lo hi => obtain ⟨t, u, v, e⟩ := x; exact ⟨t, u, v, k _ _ (.inl rfl) e⟩
  | frz ob u ih => obtain ⟨e, q⟩ := x; exact ⟨k _ _ (.inl rfl) e, ih q⟩
  | tbl ps =>
    have e : h.get? a = some { cls := .none, data := .fields ps } := x
    show h'.get? a = some { cls := .none, data := .fields ps }
    exact k a _ (.inl rfl) e
  | met f y =>
    have e : h.get? a = some (PySem.W.methodObj (.ref f) (.ref y)) := x
    show h'.get? a = some (PySem.W.methodObj (.ref f) (.ref y))
    exact k a _ (.inl rfl) e
  | ext φ => obtain ⟨p, ⟨o, e⟩, st⟩ := x; exact ⟨st _ _ p fun o q => k _ _ (.inl rfl) q, ⟨o, k _ _ (.inl rfl) e⟩, st⟩
theorem HOk.lt (x : HOk P w H h) (e : H a = some o) : a < h.objs.size := (x a o e).lt
theorem HOk.fresh (x : HOk P w H h) (e : h.objs.size ≤ a) : H a = none := by
  cases q : H a with
  | none => rfl
  | some u => exact absurd (Nat.lt_of_lt_of_le (x.lt q) e) (Nat.lt_irrefl _)
theorem HOk.kept (x : HOk P w H h) (k : ∀ b u, h.get? b = some u → h'.get? b = some u) : HOk P w H h' := fun a o e =>
  (x a o e).stay (fun b u _ q => k b u q) (fun _ q => q) fun _ _ q => q
theorem HOk.laid (x : HOk P w H h) (k : ∀ b u, h.get? b = some u → h'.get? b = some u) (hp : h.objs.size ≤ a) (new : ObjOk P w (upd H a o) h' a o) : HOk P w (upd H a o) h' := fun b u e => by
  have hn := x.fresh hp
  by_cases hb : b = a
  · subst hb; rw [upd_same] at e; cases e; exact new
  · rw [upd_ne hb] at e
    exact (x b u e).stay (fun c v _ q => k c v q) (fun c q => by rw [upd_ne (ne_of_none q hn)]; exact q) fun c xs q => by rw [upd_ne (ne_of_none q hn)]; exact q
end
noncomputable def Rd (H : Hp) (a : Addr) (u : HO) : Prop := H a = some u ∨ ∃ o, H a = some (.frz o u)
theorem Rd.of {H : Hp} {a : Addr} {u : HO} (h : H a = some u) : Rd H a u := .inl h
theorem Rd.ok {P : Program} {w : World} {H : Hp} {h : Heap} {a : Addr} {u : HO} (r : Rd H a u) (x : HOk P w H h) : ObjOk P w H h a u := by
  rcases r with r | ⟨o, r⟩
  · exact x a u r
  · obtain ⟨_, q⟩ := x a _ r
    exact q
noncomputable def Mut : Option HO → Prop
  | some (.lst _) => True
  | some (.dK _) => True
  | some (.dT _) => True
  | some (.set _ _) => True
  | some (.ins _ _ _) => True
  | some (.ext _) => True
  | _ => False
section
variable {P : Program} {w : World} {H : Hp} {h h' : Heap} {x e : Addr} {o' : HO}
theorem HOk.write (ok : HOk P w H h) (mu : Mut (H x)) (he : e = x ∨ H e = some (.own x)) (k : ∀ b u, b ≠ e → h.get? b = some u → h'.get? b = some u) (heo : ∃ u, h'.get? e = some u)
    (new : ObjOk P w (upd H x o') h' x o') : HOk P w (upd H x o') h' := fun b u q => by
  have nown : ∀ c y, H c = some (.own y) → c ≠ x := fun c y r z => by subst z; rw [r] at mu; exact mu
  have ntup : ∀ c xs, H c = some (.tup xs) → c ≠ x := fun c xs r z => by subst z; rw [r] at mu; exact mu
  by_cases hb : b = x
  · subst hb; rw [upd_same] at q; cases q; exact new
  · rw [upd_ne hb] at q
    by_cases hbe : b = e
    · have q' : H b = some (.own x) := by
        rcases he with z | z
        · exact absurd (hbe.trans z) hb
        · rw [hbe]; exact z
      rw [q] at q'; cases q'
      obtain ⟨v, hv⟩ := heo
      exact ⟨v, by rw [hbe]; exact hv⟩
    · refine (ok b u q).stay (fun c v hc r => k c v ?_ r) (fun c r => by rw [upd_ne (nown c b r)]; exact r) fun c xs r => by rw [upd_ne (ntup c xs r)]; exact r
      rcases hc with rfl | hc
      · exact hbe
      · rintro rfl
        rcases he with z | z
        · exact nown c b hc z
        · rw [hc] at z; cases z; exact hb rfl
end
structure Un (fs ex : List Addr) (H H' : Hp) (h h' : Heap) : Prop where
  keep : ∀ b o, h.get? b = some o → H b = none → b ∉ fs → b ∉ ex → h'.get? b = some o
  slot : ∀ b o, h.get? b = some o → H b = none → b ∈ fs → b ∉ ex → ∃ sl, h'.get? b = some { o with slots := sl }
  free : ∀ b o, h.get? b = some o → H b = none → b ∉ ex → H' b = none
  there : ∀ b o, h.get? b = some o → b ∉ ex → ∃ o', h'.get? b = some o'
  tups : ∀ b xs, H b = some (.tup xs) → H' b = some (.tup xs)
  frzs : ∀ b o u, H b = some (.frz o u) → H' b = some (.frz o u)
  tbls : ∀ b ps, H b = some (.tbl ps) → ∃ more, H' b = some (.tbl (ps ++ more))
section
variable {fs fs' ex ex' : List Addr} {H H1 H2 : Hp} {h h1 h2 h' : Heap} {a x e : Addr} {o : HO}
theorem Un.any (u : Un fs ex H H1 h h1) {b : Addr} {ob : Obj} (q : h.get? b = some ob) (n : H b = none) (hx : b ∉ ex) : ∃ sl, h1.get? b = some { ob with slots := sl } := by
  by_cases hb : b ∈ fs
  · exact u.slot b ob q n hb hx
  · exact ⟨ob.slots, u.keep b ob q n hb hx⟩
theorem Un.trans (a : Un fs ex H H1 h h1) (b : Un fs ex H1 H2 h1 h2) : Un fs ex H H2 h h2 where
  keep := fun c ob q n hc hx => b.keep c ob (a.keep c ob q n hc hx) (a.free c ob q n hx) hc hx
  slot := fun c ob q n hc hx => by
    obtain ⟨sl, e1⟩ := a.slot c ob q n hc hx
    obtain ⟨sl', e2⟩ := b.slot c _ e1 (a.free c ob q n hx) hc hx
    exact ⟨sl', e2⟩
  free := fun c ob q n hx => by
    obtain ⟨o', e1⟩ := a.there c ob q hx
    exact b.free c o' e1 (a.free c ob q n hx) hx
  there := fun c ob q hx => by
    obtain ⟨o', e1⟩ := a.there c ob q hx
    exact b.there c o' e1 hx
  tups := fun c xs q => b.tups c xs (a.tups c xs q)
  frzs := fun c ob xs q => b.frzs c ob xs (a.frzs c ob xs q)
  tbls := fun c ps q => by
    obtain ⟨m1, e1⟩ := a.tbls c ps q
    obtain ⟨m2, e2⟩ := b.tbls c _ e1
    exact ⟨m1 ++ m2, by rw [e2, Array.append_assoc]⟩
theorem Un.kept (k : ∀ b u, h.get? b = some u → h'.get? b = some u) : Un fs ex H H h h' :=
  ⟨fun b ob q _ _ _ => k b ob q, fun b ob q _ _ _ => ⟨ob.slots, k b ob q⟩, fun _ _ _ n _ => n, fun b ob q _ => ⟨ob, k b ob q⟩, fun _ _ q => q, fun _ _ _ q => q, fun _ ps q => ⟨#[], by rw [q]; simp⟩⟩
theorem Un.refl : Un fs ex H H h h := Un.kept fun _ _ q => q
theorem Un.laid (k : ∀ b u, h.get? b = some u → h'.get? b = some u) (hp : h.objs.size ≤ a) (hn : H a = none) : Un fs ex H (upd H a o) h h' where
  keep := fun b u q _ _ _ => k b u q
  slot := fun b u q _ _ _ => ⟨u.slots, k b u q⟩
  free := fun b u q n _ => by rw [upd_ne (Nat.ne_of_lt (Nat.lt_of_lt_of_le (Heap.lt_size q) hp))]; exact n
  there := fun b u q _ => ⟨u, k b u q⟩
  tups := fun b xs q => by rw [upd_ne (ne_of_none q hn)]; exact q
  frzs := fun b u xs q => by rw [upd_ne (ne_of_none q hn)]; exact q
  tbls := fun b ps q => ⟨#[], by rw [upd_ne (ne_of_none q hn), q]; simp⟩
theorem Un.write (mu : Mut (H x)) (he : e = x ∨ H e = some (.own x)) (k : ∀ b u, b ≠ e → h.get? b = some u → h'.get? b = some u) (heo : ∃ u, h'.get? e = some u) : Un fs ex H (upd H x o) h h' := by
  have hx : ∀ b, H b = none → b ≠ x := fun b n z => by subst z; rw [n] at mu; exact mu
  have hb : ∀ b, H b = none → b ≠ e := fun b n z => by
    subst z
    rcases he with r | r
    · exact hx b n r
    · rw [n] at r; cases r
  have hm : ∀ b u, H b = some u → ¬ Mut (some u) → b ≠ x := fun b u q nm z => by subst z; rw [q] at mu; exact nm mu
  refine ⟨fun b u q n _ _ => k b u (hb b n) q, fun b u q n _ _ => ⟨u.slots, k b u (hb b n) q⟩, fun b u q n _ => by rw [upd_ne (hx b n)]; exact n, fun b u q _ => ?_,
    fun b xs q => by rw [upd_ne (hm b _ q fun z => z)]; exact q, fun b u xs q => by rw [upd_ne (hm b _ q fun z => z)]; exact q, fun b ps q => ⟨#[], by rw [upd_ne (hm b _ q fun z => z), q]; simp⟩⟩
  by_cases hbe : b = e
  · subst hbe; exact heo
  · exact ⟨u, k b u hbe q⟩
theorem Un.mono (u : Un fs ex H H1 h h1) (hs : ∀ b ∈ fs, b ∈ fs') (hx : ∀ b ∈ ex, b ∈ ex') : Un fs' ex' H H1 h h1 :=
  ⟨fun b ob q n hb he => u.keep b ob q n (fun z => hb (hs b z)) fun z => he (hx b z), fun _ _ q n _ he => u.any q n fun z => he (hx _ z), fun b ob q n he => u.free b ob q n fun z => he (hx b z), fun b ob q he => u.there b ob q fun z => he (hx b z), u.tups, u.frzs, u.tbls⟩
end
noncomputable def trk (h : Heap) (H : Hp) : List Addr := (List.range h.objs.size).filter fun a => (H a).isSome
noncomputable def hidT (h : Heap) (H : Hp) : Heap := PySem.W.hideAll h (trk h H)
theorem hidT_size (h : Heap) (H : Hp) : (hidT h H).objs.size = h.objs.size := PySem.W.hideAll_size _ _
theorem hidT_get {h : Heap} {H : Hp} {b : Addr} {o : Obj} (e : h.get? b = some o) (n : H b = none) : (hidT h H).get? b = some o :=
  PySem.W.hideAll_get _ e fun hm => by
    have q : (H b).isSome = true := (List.mem_filter.mp hm).2
    rw [n] at q; simp at q
theorem of_hidT {h : Heap} {H : Hp} {b : Addr} {o : Obj} (e : (hidT h H).get? b = some o) : h.get? b = some o ∧ H b = none := by
  have e' : h.get? b = some o := PySem.W.of_hideAll (trk h H) e
  refine ⟨e', ?_⟩
  cases q : H b with
  | none => rfl
  | some x =>
    have hm : b ∈ trk h H := List.mem_filter.mpr ⟨List.mem_range.mpr (Heap.lt_size e'), by simp [q]⟩
    have z : (hidT h H).get? b = none := PySem.W.hideAll_none (trk h H) hm
    rw [z] at e; cases e
noncomputable def allNews (g h : Heap) (L : Addr) : List (Addr × Obj) := (List.range h.objs.size).filterMap fun a => if a = L ∨ (g.get? a).isSome = true then none else (h.get? a).map fun o => (a, o)
noncomputable def rest (g h : Heap) (L d : Addr) : List (Addr × Obj) := (allNews g h L).filter fun p => decide (p.1 ≠ d)
end L2
namespace L2
open PySem PySem.Spec PyProof.Rows
structure Mod (K : PySem.W.Frag) (mg : Str → Option Value) (base : Heap) : Prop where
  kin : K.In base
  glob : base.Ns mainGlobals mg
  blt : ∃ mb, base.Ns builtinsNs mb ∧ ∀ x : Str, x ≠ "__name__" → mb x = bootBuiltins x
  nolimit : base.NoLimit
structure Cx where
  prog : Program
  w : World
  K : PySem.W.Frag
  mg : Str → Option Value
  base : Heap
  A : Around
  N : List Str
  s₀ : Shared
  H₀ : Hp
  env : Env
  outer : List Env
  stack : List Env
  ex : List Addr
  fn : Str → Bool
  calm : Bool
  pn : List (Addr × Obj)
  xe : Value → Shared → Prop
noncomputable def frs (l : List Env) : List Addr := l.filterMap (·.frame)
noncomputable abbrev Cx.fs (X : Cx) : List Addr := frs X.outer
noncomputable def Vis (sc : Scope) (x : Str) : Prop := sc.names.lookup x = some .local ∨ sc.names.lookup x = some .cell ∨ sc.names.lookup x = some .free
noncomputable def Loc (sc : Scope) (x : Str) : Prop := sc.names.lookup x = some .local ∨ sc.names.lookup x = some .cell
noncomputable def Look (env : Env) (h : Heap) (m : Str → Option Value) (x : Str) (u : Value) : Prop :=
  (env.kindOf x = some .local ∧ m x = some u) ∨ ((env.kindOf x = some .cell ∨ env.kindOf x = some .free) ∧ ∃ c, env.cells.lookup x = some c ∧ h.IsCell c (some u))
structure Cx.Ok (X : Cx) : Prop where
  mod : Mod X.K X.mg X.base
  kind : X.env.scope.kind = .function
  glob : X.env.globals = mainGlobals
  blt : X.env.builtins = builtinsNs
  above : X.s₀.heap.objs.size ≤ X.env.locals
  inj : ∀ x y c, X.env.cells.lookup x = some c → X.env.cells.lookup y = some c → x = y
  has : ∀ x, (X.env.kindOf x = some .cell ∨ X.env.kindOf x = some .free) → ∃ c, X.env.cells.lookup x = some c
  cab : ∀ x c, X.fn x = true → X.env.cells.lookup x = some c → X.s₀.heap.objs.size ≤ c
  hd : X.calm = true → X.A.handled = none
  frames : X.A.frames = some X.stack
  stk : X.stack = X.outer ∨ (X.stack = X.env :: X.outer ∧ X.env.frame = some X.env.locals)
  exf : ∀ b ∈ X.ex, b ≠ X.env.locals ∧ ∀ x c, X.env.cells.lookup x = some c → c ≠ b
  bs : ∀ b o, X.base.get? b = some o → X.s₀.heap.get? b = some o ∧ X.H₀ b = none
  bsz : X.base.objs.size ≤ X.s₀.heap.objs.size
  noex : ∀ b o, X.base.get? b = some o → b ∉ X.ex
  exfs : ∀ b ∈ X.ex, b ∉ X.fs
  funs : X.s₀.heap.FunFrames X.base X.outer
  frf : ∀ b ∈ X.fs, X.H₀ b = none
structure Inv (X : Cx) (pins : List (Addr × Obj)) (σ : List (Option V)) (H : Hp) (s : Shared) : Prop where
  ok : X.Ok
  os : s.os = X.s₀.os
  bare : AllBare s.gens
  base : Un X.fs X.ex X.H₀ H X.s₀.heap s.heap
  loc : ∃ m, s.heap.Ns X.env.locals m ∧ ∀ (i : Nat) (x : Str) (v : V), X.N[i]? = some x → σ[i]? = some (some v) → Vis X.env.scope x → ∃ u, RelV v u ∧ Look X.env s.heap m x u
  cell : ∀ x c, X.env.cells.lookup x = some c → ∃ v, s.heap.IsCell c v
  free : H X.env.locals = none
  freeC : ∀ x c, X.env.cells.lookup x = some c → H c = none
  pin : ∀ p ∈ X.pn ++ pins, s.heap.get? p.1 = some p.2 ∧ H p.1 = none ∧ p.1 ≠ X.env.locals ∧ p.1 ∉ X.fs ∧ ∀ v, p.2.data ≠ .cell v
  hok : HOk X.prog X.w H s.heap
  len : σ.length = X.N.length
section
variable {X : Cx} {pins : List (Addr × Obj)} {σ : List (Option V)} {H H' : Hp} {s : Shared} {h' : Heap}
theorem Cx.Ok.nofr (ok : X.Ok) {b : Addr} {o : Obj} (e : X.base.get? b = some o) : b ∉ X.fs := fun hb => by
  have := (ok.funs.mem hb).1
  rw [e] at this; cases this
theorem Inv.bs (I : Inv X pins σ H s) : ∀ b o, X.base.get? b = some o → s.heap.get? b = some o ∧ H b = none := fun b o e =>
  ⟨I.base.keep b o (I.ok.bs b o e).1 (I.ok.bs b o e).2 (I.ok.nofr e) (I.ok.noex b o e), I.base.free b o (I.ok.bs b o e).1 (I.ok.bs b o e).2 (I.ok.noex b o e)⟩
theorem Inv.bk (I : Inv X pins σ H s) : ∀ b o, X.base.get? b = some o → s.heap.get? b = some o := fun b o e => (I.bs b o e).1
theorem Inv.mod (I : Inv X pins σ H s) : Mod X.K X.mg X.base := I.ok.mod
theorem Inv.kIn (I : Inv X pins σ H s) : X.K.In s.heap := I.ok.mod.kin.keeps I.bk
theorem Inv.nolimit (I : Inv X pins σ H s) : s.heap.NoLimit := I.ok.mod.nolimit.keeps I.bk
theorem Inv.fr (I : Inv X pins σ H s) : ∃ m, Fr X.base X.env.locals s.heap m :=
  let ⟨m, hn, _⟩ := I.loc
  ⟨m, hn, I.bk, Nat.le_trans I.ok.bsz I.ok.above⟩
theorem Inv.lt (I : Inv X pins σ H s) : X.env.locals < s.heap.objs.size := let ⟨_, hn, _⟩ := I.loc; hn.lt
theorem Inv.sz (I : Inv X pins σ H s) : X.s₀.heap.objs.size ≤ s.heap.objs.size := Nat.le_trans I.ok.above (Nat.le_of_lt I.lt)
theorem Inv.nofs (I : Inv X pins σ H s) {a : Addr} (h : s.heap.objs.size ≤ a) : a ∉ X.fs := fun hb => by
  obtain ⟨_, o, ho, _⟩ := I.ok.funs.mem hb
  exact absurd (Nat.lt_of_lt_of_le (Heap.lt_size ho) (Nat.le_trans I.sz h)) (Nat.lt_irrefl _)
theorem Inv.cne (I : Inv X pins σ H s) : ∀ x c, X.env.cells.lookup x = some c → c ≠ X.env.locals := fun x c e z => by
  obtain ⟨v, o, ho, hd⟩ := I.cell x c e
  obtain ⟨m, ⟨o', es, ep, ho', hd', _⟩, _⟩ := I.loc
  rw [z, ho'] at ho; cases ho; rw [hd'] at hd; cases hd
theorem Inv.funs (I : Inv X pins σ H s) : s.heap.FunFrames X.base X.outer := by
  have all : ∀ (l : List Env), (∀ b ∈ frs l, b ∈ X.fs) → X.s₀.heap.FunFrames X.base l → s.heap.FunFrames X.base l := by
    intro l
    induction l with
    | nil => intro _ _; trivial
    | cons env r ih =>
      intro hs hl
      obtain ⟨hk, ⟨L, o, hf, hn, ho, hd⟩, hr⟩ := hl
      have hL : L ∈ X.fs := hs L (by unfold frs; rw [List.filterMap_cons, hf]; exact List.mem_cons_self)
      obtain ⟨sl, e⟩ := I.base.slot L o ho (I.ok.frf L hL) hL fun z => I.ok.exfs L z hL
      exact ⟨hk, ⟨L, _, hf, hn, e, hd⟩, ih (fun b hb => hs b (by unfold frs; rw [List.filterMap_cons, hf]; exact List.mem_cons_of_mem _ hb)) hr⟩
  exact all X.outer (fun _ hb => hb) I.ok.funs
theorem Inv.stack (I : Inv X pins σ H s) : s.heap.FunFrames X.base X.stack := by
  rcases I.ok.stk with e | ⟨e, hf⟩
  · rw [e]; exact I.funs
  · rw [e]
    obtain ⟨m, hn, _⟩ := I.loc
    refine .cons (by rw [I.ok.kind]; decide) hf hn ?_ I.funs
    exact Heap.get?_none_of_le (Nat.le_trans I.ok.bsz I.ok.above)
theorem Inv.stkSub (I : Inv X pins σ H s) : ∀ b ∈ frs X.stack, b ∈ X.env.locals :: X.fs := fun b hb => by
  rcases I.ok.stk with e | ⟨e, hf⟩
  · rw [e] at hb; exact List.mem_cons_of_mem _ hb
  · rw [e] at hb
    unfold frs at hb
    rw [List.filterMap_cons, hf] at hb
    exact hb
theorem Inv.stkFree (I : Inv X pins σ H s) : ∀ b ∈ frs X.stack, H b = none := fun b hb => by
  rcases List.mem_cons.mp (I.stkSub b hb) with e | hb
  · rw [e]; exact I.free
  · obtain ⟨_, o, ho, _⟩ := I.ok.funs.mem hb
    exact I.base.free b o ho (I.ok.frf b hb) fun z => I.ok.exfs b z hb
theorem Inv.step {g' : Array GenState} {t' : Nat} {d' : Drawn} {ch : List Addr} (I : Inv X pins σ H s)
    (hch : ∀ b ∈ ch, (b ∈ X.ex ∨ X.s₀.heap.objs.size ≤ b) ∧ b ≠ X.env.locals ∧ (∀ x c, X.env.cells.lookup x = some c → c ≠ b) ∧ ∀ p ∈ X.pn ++ pins, p.1 ≠ b)
    (keep : ∀ b o, b ≠ X.env.locals → b ∉ X.fs → b ∉ ch → s.heap.get? b = some o → H b = none → h'.get? b = some o)
    (slot : ∀ b o, b ≠ X.env.locals → b ∈ X.fs → b ∉ ch → s.heap.get? b = some o → H b = none → ∃ sl, h'.get? b = some { o with slots := sl }) (free : ∀ b o, b ∉ ch → s.heap.get? b = some o → H b = none → H' b = none)
    (there : ∀ b o, b ∉ ch → s.heap.get? b = some o → ∃ o', h'.get? b = some o')
    (tups : ∀ b xs, H b = some (.tup xs) → H' b = some (.tup xs)) (frzs : ∀ b o u, H b = some (.frz o u) → H' b = some (.frz o u)) (tbls : ∀ b ps, H b = some (.tbl ps) → ∃ more, H' b = some (.tbl (ps ++ more)))
    (ns : ∀ m, s.heap.Ns X.env.locals m → h'.Ns X.env.locals m) (hok : HOk X.prog X.w H' h') (hg : AllBare g') :
    Inv X pins σ H' { s with heap := h', gens := g', drawn := d', toks := t' } := by
  have neL : ∀ b o, X.s₀.heap.get? b = some o → b ≠ X.env.locals := fun b o e => Nat.ne_of_lt (Nat.lt_of_lt_of_le (Heap.lt_size e) I.ok.above)
  have neC : ∀ b o, X.s₀.heap.get? b = some o → b ∉ X.ex → b ∉ ch := fun b o e hx hb => by
    rcases (hch b hb).1 with z | z
    · exact hx z
    · exact absurd (Nat.lt_of_lt_of_le (Heap.lt_size e) z) (Nat.lt_irrefl _)
  have cellK : ∀ x c, X.env.cells.lookup x = some c → ∀ v, s.heap.IsCell c v → h'.IsCell c v := fun x c e v ⟨o, ho, hd⟩ => by
    have nch : c ∉ ch := fun z => (hch c z).2.2.1 x c e rfl
    by_cases hc : c ∈ X.fs
    · obtain ⟨sl, q⟩ := slot c o (I.cne x c e) hc nch ho (I.freeC x c e)
      exact ⟨_, q, hd⟩
    · exact ⟨o, keep c o (I.cne x c e) hc nch ho (I.freeC x c e), hd⟩
  refine ⟨I.ok, I.os, hg, ⟨fun b o e n hb hx => ?_, fun b o e n hb hx => ?_, fun b o e n hx => ?_, fun b o e hx => ?_, fun b xs e => tups b xs (I.base.tups b xs e), fun b o xs e => frzs b o xs (I.base.frzs b o xs e), fun b ps e => ?_⟩, ?_, fun x c e => ?_, ?_, fun x c e => ?_, fun p hp => ?_, hok, I.len⟩
  · exact keep b o (neL b o e) hb (neC b o e hx) (I.base.keep b o e n hb hx) (I.base.free b o e n hx)
  · obtain ⟨sl, e1⟩ := I.base.slot b o e n hb hx
    obtain ⟨sl', e2⟩ := slot b _ (neL b o e) hb (neC b o e hx) e1 (I.base.free b o e n hx)
    exact ⟨sl', e2⟩
  · obtain ⟨o', e1⟩ := I.base.there b o e hx
    exact free b o' (neC b o e hx) e1 (I.base.free b o e n hx)
  · obtain ⟨o', e1⟩ := I.base.there b o e hx
    exact there b o' (neC b o e hx) e1
  · obtain ⟨m1, e1⟩ := I.base.tbls b ps e
    obtain ⟨m2, e2⟩ := tbls b _ e1
    exact ⟨m1 ++ m2, by rw [e2, Array.append_assoc]⟩
  · obtain ⟨m, hn, hl⟩ := I.loc
    refine ⟨m, ns m hn, fun i x v e1 e2 e3 => ?_⟩
    obtain ⟨u, r, l⟩ := hl i x v e1 e2 e3
    refine ⟨u, r, ?_⟩
    rcases l with l | ⟨k, c, e, z⟩
    · exact .inl l
    · exact .inr ⟨k, c, e, cellK x c e _ z⟩
  · obtain ⟨v, z⟩ := I.cell x c e
    exact ⟨v, cellK x c e v z⟩
  · obtain ⟨m, ⟨o, _, _, ho, _⟩, _⟩ := I.loc
    exact free _ o (fun z => (hch _ z).2.1 rfl) ho I.free
  · obtain ⟨v, o, ho, hd⟩ := I.cell x c e
    exact free c o (fun z => (hch c z).2.2.1 x c e rfl) ho (I.freeC x c e)
  · obtain ⟨e, n, ne, nf, d⟩ := I.pin p hp
    have nch : p.1 ∉ ch := fun z => (hch p.1 z).2.2.2 p hp rfl
    exact ⟨keep p.1 p.2 ne nf nch e n, free p.1 p.2 nch e n, ne, nf, d⟩
theorem Inv.un {t' : Nat} (I : Inv X pins σ H s) (u : Un X.fs [] H H' s.heap h') (hok : HOk X.prog X.w H' h') : Inv X pins σ H' { s with heap := h', toks := t' } := by
  obtain ⟨m, ⟨o, es, ep, ho, r⟩, _⟩ := id I.loc
  obtain ⟨sl, hL⟩ := u.any ho I.free (by simp)
  exact I.step (g' := s.gens) (d' := s.drawn) (ch := []) (fun _ z => nomatch z) (fun b o _ hb _ e n => u.keep b o e n hb (by simp)) (fun b o _ hb _ e n => u.slot b o e n hb (by simp)) (fun b o _ e n => u.free b o e n (by simp)) (fun b o _ e => u.there b o e (by simp)) u.tups u.frzs u.tbls (fun m' hm => by
    obtain ⟨o', es', ep', ho', r'⟩ := hm
    rw [ho] at ho'; cases ho'
    exact ⟨_, es', ep', hL, r'⟩) hok I.bare
theorem Inv.call {g' : Array GenState} {t' : Nat} {d' : Drawn} {ch : List Addr} (I : Inv X pins σ H s) (u : Un (frs X.stack) ch H H' s.heap h') (hok : HOk X.prog X.w H' h') (hg : AllBare g')
    (hch : ∀ b ∈ ch, (b ∈ X.ex ∨ X.s₀.heap.objs.size ≤ b) ∧ b ≠ X.env.locals ∧ (∀ x c, X.env.cells.lookup x = some c → c ≠ b) ∧ ∀ p ∈ X.pn ++ pins, p.1 ≠ b) :
    Inv X pins σ H' { s with heap := h', gens := g', drawn := d', toks := t' } := by
  obtain ⟨m, ⟨o, es, ep, ho, r⟩, _⟩ := id I.loc
  obtain ⟨sl, hL⟩ := u.any ho I.free fun z => (hch _ z).2.1 rfl
  exact I.step (ch := ch) hch (fun b o hL hb hc e n => u.keep b o e n (fun z => (List.mem_cons.mp (I.stkSub b z)).elim hL hb) hc) (fun b o _ _ hc e n => u.any e n hc) (fun b o hc e n => u.free b o e n hc) (fun b o hc e => u.there b o e hc) u.tups u.frzs u.tbls (fun m' hm => by
    obtain ⟨o', es', ep', ho', r'⟩ := hm
    rw [ho] at ho'; cases ho'
    exact ⟨_, es', ep', hL, r'⟩) hok hg
theorem Inv.turned {t' : Nat} {it : Addr} (I : Inv X pins σ H s) (k : ∀ b o, b ≠ it → s.heap.get? b = some o → h'.get? b = some o) (hn : H it = none) (hL : it ≠ X.env.locals)
    (h1 : it ∈ X.ex ∨ X.s₀.heap.objs.size ≤ it) (h2 : ∀ x c, X.env.cells.lookup x = some c → c ≠ it) (h3 : ∀ p ∈ X.pn ++ pins, p.1 ≠ it) : Inv X pins σ H { s with heap := h', toks := t' } := by
  have nit : ∀ b u, H b = some u → b ≠ it := fun b u e z => by rw [z, hn] at e; cases e
  refine I.step (g' := s.gens) (d' := s.drawn) (ch := [it]) (fun b hb => ?_) (fun b o _ _ hc e _ => k b o (fun z => hc (by simp [z])) e) (fun b o _ _ hc e _ => ⟨o.slots, k b o (fun z => hc (by simp [z])) e⟩) (fun _ _ _ _ n => n)
    (fun b o hc e => ⟨o, k b o (fun z => hc (by simp [z])) e⟩) (fun _ _ e => e) (fun _ _ _ e => e) (fun b ps e => ⟨#[], by rw [e]; simp⟩) (fun m hm => ?_) (fun b u e => ?_) I.bare
  · have e : b = it := by simpa using hb
    subst e
    exact ⟨h1, hL, h2, h3⟩
  · obtain ⟨o, es, ep, ho, r⟩ := hm
    exact ⟨o, es, ep, k _ o (Ne.symm hL) ho, r⟩
  · refine (I.hok b u e).stay (fun c v hc q => k c v ?_ q) (fun _ q => q) fun _ _ q => q
    rcases hc with z | z
    · rw [z]; exact nit b u e
    · exact nit c _ z
theorem Inv.tok (I : Inv X pins σ H s) (t : Nat) : Inv X pins σ H { s with toks := t } := I.un (h' := s.heap) (t' := t) Un.refl I.hok
theorem Inv.kept {t' : Nat} (I : Inv X pins σ H s) (k : ∀ b u, s.heap.get? b = some u → h'.get? b = some u) : Inv X pins σ H { s with heap := h', toks := t' } := I.un (Un.kept k) (I.hok.kept k)
theorem Inv.laid {a : Addr} {o : HO} {t' : Nat} (I : Inv X pins σ H s) (k : ∀ b u, s.heap.get? b = some u → h'.get? b = some u) (hp : s.heap.objs.size ≤ a) (new : ObjOk X.prog X.w (upd H a o) h' a o) :
    Inv X pins σ (upd H a o) { s with heap := h', toks := t' } := I.un (Un.laid k hp (I.hok.fresh hp)) (I.hok.laid k hp new)
theorem Inv.write {x e : Addr} {o : HO} {t' : Nat} (I : Inv X pins σ H s) (mu : Mut (H x)) (he : e = x ∨ H e = some (.own x)) (k : ∀ b u, b ≠ e → s.heap.get? b = some u → h'.get? b = some u) (heo : ∃ u, h'.get? e = some u)
    (new : ObjOk X.prog X.w (upd H x o) h' x o) : Inv X pins σ (upd H x o) { s with heap := h', toks := t' } := I.un (Un.write mu he k heo) (I.hok.write mu he k heo new)
theorem Inv.weak {σ' : List (Option V)} (I : Inv X pins σ H s) (hl : σ'.length = σ.length) (w : ∀ (i : Nat) v, σ'[i]? = some (some v) → σ[i]? = some (some v)) : Inv X pins σ' H s :=
  ⟨I.ok, I.os, I.bare, I.base, let ⟨m, hn, hl'⟩ := I.loc; ⟨m, hn, fun i x v e1 e2 e3 => hl' i x v e1 (w i v e2) e3⟩, I.cell, I.free, I.freeC, I.pin, I.hok, hl.trans I.len⟩
theorem Inv.pins_of {pins' : List (Addr × Obj)} (I : Inv X pins σ H s) (h : ∀ p ∈ pins', s.heap.get? p.1 = some p.2 ∧ H p.1 = none ∧ p.1 ≠ X.env.locals ∧ p.1 ∉ X.fs ∧ ∀ v, p.2.data ≠ .cell v) : Inv X pins' σ H s :=
  ⟨I.ok, I.os, I.bare, I.base, I.loc, I.cell, I.free, I.freeC, fun p hp => (List.mem_append.mp hp).elim (fun z => I.pin p (List.mem_append_left _ z)) (h p), I.hok, I.len⟩
theorem nodup_ix {N : List Str} (hN : N.Nodup) {i j : Nat} {x : Str} (a : N[i]? = some x) (b : N[j]? = some x) : i = j := by
  obtain ⟨h1, e1⟩ := List.getElem?_eq_some_iff.mp a
  obtain ⟨h2, e2⟩ := List.getElem?_eq_some_iff.mp b
  exact (List.getElem_inj hN).mp (e1.trans e2.symm)
theorem store_ok2 {M : Model} {A : Around} {E : Value → Shared → Prop} {i : Nat} {x : Str} {v : V} {u : Value} {Q : Unit → Shared → Prop} (I : Inv X pins σ H s) (hN : X.N.Nodup) (hi : X.N[i]? = some x) (hx : Loc X.env.scope x) (r : RelV v u)
    (h : ∀ s', Inv X pins (σ.set i (some v)) H s' → (∃ a, Heap.SameBut a s.heap s'.heap ∧ (a = X.env.locals ∨ X.env.cells.lookup x = some a)) → Q () s') (hf : X.fn x = true ∨ X.env.scope.names.lookup x = some .local := by first | exact .inl rfl | exact .inr rfl | assumption) : wpAny M A (storeName X.env x u) Q E s := by
  obtain ⟨m, hn, hl⟩ := id I.loc
  have hcls : (X.env.scope.kind == .class || (X.env.scope.kind == .module && X.env.locals != X.env.globals)) = false := by rw [I.ok.kind]; rfl
  have hiσ : i < σ.length := by rw [I.len]; exact (List.getElem?_eq_some_iff.mp hi).1
  have cne := I.cne
  have tracked : ∀ {a : Addr} {h' : Heap}, (∃ o, s.heap.get? a = some o ∧ H a = none) → Heap.SameBut a s.heap h' → HOk X.prog X.w H h' := fun {a h'} ha hs b ob e => by
    obtain ⟨_, _, hfree⟩ := ha
    refine (I.hok b ob e).stay (fun c w' hc q => (hs.2 c ?_).trans q) (fun _ q => q) fun _ _ q => q
    rintro rfl
    rcases hc with rfl | hc
    · rw [hfree] at e; cases e
    · rw [hfree] at hc; cases hc
  rcases hx with hk | hk
  · refine wpAny_storeName_local hk hn (fun h' hn' hs => ?_) hcls
    obtain ⟨oL, _, _, hoL, _⟩ := id hn
    refine h _ ⟨I.ok, I.os, I.bare, ⟨fun b o e n hb hx => ?_, fun b o e n hb hx => ?_, I.base.free, fun b o e hx => ?_, I.base.tups, I.base.frzs, I.base.tbls⟩, ⟨_, hn', fun j y v' e1 e2 e3 => ?_⟩, fun y c e => ?_, I.free, I.freeC, fun p hp => ?_, tracked ⟨oL, hoL, I.free⟩ hs, by simpa using I.len⟩ ⟨_, hs, .inl rfl⟩
    · exact (hs.2 b (Nat.ne_of_lt (Nat.lt_of_lt_of_le (Heap.lt_size e) I.ok.above))).trans (I.base.keep b o e n hb hx)
    · obtain ⟨sl, e1⟩ := I.base.slot b o e n hb hx
      exact ⟨sl, (hs.2 b (Nat.ne_of_lt (Nat.lt_of_lt_of_le (Heap.lt_size e) I.ok.above))).trans e1⟩
    · obtain ⟨o', e1⟩ := I.base.there b o e hx
      exact ⟨o', (hs.2 b (Nat.ne_of_lt (Nat.lt_of_lt_of_le (Heap.lt_size e) I.ok.above))).trans e1⟩
    · by_cases hj : j = i
      · subst hj
        rw [hi] at e1; cases e1
        rw [List.getElem?_set_self hiσ] at e2
        cases e2
        exact ⟨u, r, .inl ⟨hk, by simp⟩⟩
      · rw [List.getElem?_set_ne (Ne.symm hj)] at e2
        obtain ⟨u', r', q⟩ := hl j y v' e1 e2 e3
        refine ⟨u', r', ?_⟩
        rcases q with ⟨k, e⟩ | ⟨k, c, e, z⟩
        · refine .inl ⟨k, ?_⟩
          have : y ≠ x := fun e => hj (nodup_ix hN e1 (e ▸ hi))
          simp [this, e]
        · exact .inr ⟨k, c, e, z.sameBut hs (cne y c e)⟩
    · obtain ⟨w', z⟩ := I.cell y c e
      exact ⟨w', z.sameBut hs (cne y c e)⟩
    · obtain ⟨e, n, ne, nf, d⟩ := I.pin p hp
      exact ⟨(hs.2 p.1 ne).trans e, n, ne, nf, d⟩
  · have hfn : X.fn x = true := by
      rcases hf with z | z
      · exact z
      · rw [z] at hk; cases hk
    obtain ⟨c, hc⟩ := I.ok.has x (.inl hk)
    obtain ⟨w', z⟩ := I.cell x c hc
    refine wpAny_storeName_cell I.ok.kind hk hc z (fun h' hc' hs => ?_)
    obtain ⟨oc, hoc, hocd⟩ := id z
    refine h { s with heap := h' } ⟨I.ok, I.os, I.bare, ⟨fun b o e n hb hx => ?_, fun b o e n hb hx => ?_, I.base.free, fun b o e hx => ?_, I.base.tups, I.base.frzs, I.base.tbls⟩, ⟨m, hn.sameBut hs (Ne.symm (cne x c hc)), fun j y v' e1 e2 e3 => ?_⟩, fun y c' e => ?_, I.free, I.freeC, fun p hp => ?_, tracked ⟨oc, hoc, I.freeC x c hc⟩ hs, by simpa using I.len⟩ ⟨c, hs, .inr hc⟩
    · exact (hs.2 b (Nat.ne_of_lt (Nat.lt_of_lt_of_le (Heap.lt_size e) (I.ok.cab x c hfn hc)))).trans (I.base.keep b o e n hb hx)
    · obtain ⟨sl, e1⟩ := I.base.slot b o e n hb hx
      exact ⟨sl, (hs.2 b (Nat.ne_of_lt (Nat.lt_of_lt_of_le (Heap.lt_size e) (I.ok.cab x c hfn hc)))).trans e1⟩
    · obtain ⟨o', e1⟩ := I.base.there b o e hx
      exact ⟨o', (hs.2 b (Nat.ne_of_lt (Nat.lt_of_lt_of_le (Heap.lt_size e) (I.ok.cab x c hfn hc)))).trans e1⟩
    · by_cases hj : j = i
      · subst hj
        rw [hi] at e1; cases e1
        rw [List.getElem?_set_self hiσ] at e2
        cases e2
        exact ⟨u, r, .inr ⟨.inl hk, c, hc, hc'⟩⟩
      · rw [List.getElem?_set_ne (Ne.symm hj)] at e2
        obtain ⟨u', r', q⟩ := hl j y v' e1 e2 e3
        refine ⟨u', r', ?_⟩
        rcases q with q | ⟨k, c', e, z'⟩
        · exact .inl q
        · refine .inr ⟨k, c', e, z'.sameBut hs ?_⟩
          rintro rfl
          exact hj (nodup_ix hN e1 (I.ok.inj _ _ _ e hc ▸ hi))
    · by_cases hcc : c' = c
      · subst hcc; exact ⟨_, hc'⟩
      · obtain ⟨w2, z2⟩ := I.cell y c' e
        exact ⟨w2, z2.sameBut hs hcc⟩
    · obtain ⟨e, n, ne, nf, d⟩ := I.pin p hp
      refine ⟨(hs.2 p.1 ?_).trans e, n, ne, nf, d⟩
      intro q
      rw [q, hoc] at e
      have q' : oc = p.2 := Option.some.inj e
      exact d w' (by rw [← q']; exact hocd)
theorem store_ok {M : Model} {A : Around} {E : Value → Shared → Prop} {i : Nat} {x : Str} {v : V} {u : Value} {Q : Unit → Shared → Prop} (I : Inv X pins σ H s) (hN : X.N.Nodup) (hi : X.N[i]? = some x) (hx : Loc X.env.scope x) (r : RelV v u)
    (h : ∀ s', Inv X pins (σ.set i (some v)) H s' → Q () s') (hf : X.fn x = true ∨ X.env.scope.names.lookup x = some .local := by first | exact .inl rfl | exact .inr rfl | assumption) : wpAny M A (storeName X.env x u) Q E s :=
  store_ok2 I hN hi hx r (fun s' I' _ => h s' I') hf
theorem Inv.call' {s' : Shared} {ch : List Addr} (I : Inv X pins σ H s) (ho : s'.os = s.os) (u : Un (frs X.stack) ch H H' s.heap s'.heap) (hok : HOk X.prog X.w H' s'.heap) (hg : AllBare s'.gens)
    (hch : ∀ b ∈ ch, (b ∈ X.ex ∨ X.s₀.heap.objs.size ≤ b) ∧ b ≠ X.env.locals ∧ (∀ x c, X.env.cells.lookup x = some c → c ≠ b) ∧ ∀ p ∈ X.pn ++ pins, p.1 ≠ b) : Inv X pins σ H' s' := by
  obtain ⟨h', g', d', t', o'⟩ := s'
  have e : o' = s.os := ho
  subst e
  exact I.call (g' := g') (t' := t') (d' := d') u hok hg hch
end
noncomputable abbrev XK := Value → Option Addr → Hp → Prop
noncomputable abbrev St := List (Option V)
noncomputable abbrev VK := V → Hp → Prop
noncomputable abbrev TE := St → Hp → VK → Prop
noncomputable abbrev TT := St → Hp → (Bool → Hp → Prop) → Prop
noncomputable abbrev TA := St → Hp → (List V → Hp → Prop) → Prop
structure Ends where
  nx : St → Hp → Prop
  rt : VK
  bk : St → Hp → Prop := fun _ _ => False
  ct : St → Hp → Prop := fun _ _ => False
noncomputable abbrev TS := Ends → St → Hp → Prop
noncomputable def EP (X : Cx) (pins : List (Addr × Obj)) (σ : St) (Q : VK) (u : Value) (s' : Shared) : Prop := ∃ v H', Inv X pins σ H' s' ∧ RelV v u ∧ Q v H'
noncomputable def TP (X : Cx) (pins : List (Addr × Obj)) (σ : St) (Q : Bool → Hp → Prop) (b : Bool) (s' : Shared) : Prop := ∃ H', Inv X pins σ H' s' ∧ Q b H'
noncomputable def AP (X : Cx) (pins : List (Addr × Obj)) (σ : St) (Q : List V → Hp → Prop) (us : List Value) (s' : Shared) : Prop := ∃ vs H', Inv X pins σ H' s' ∧ Vals vs us ∧ Q vs H'
noncomputable def SP (X : Cx) (pins : List (Addr × Obj)) (D : Ends) (f : Flow) (s' : Shared) : Prop :=
  match f with
  | .next => ∃ σ' H', Inv X pins σ' H' s' ∧ D.nx σ' H'
  | .brk => ∃ σ' H', Inv X pins σ' H' s' ∧ D.bk σ' H'
  | .cont => ∃ σ' H', Inv X pins σ' H' s' ∧ D.ct σ' H'
  | .ret u => ∃ v σ' H', Inv X pins σ' H' s' ∧ RelV v u ∧ D.rt v H'
noncomputable def PE (X : Cx) (e : Expr) (t : TE) : Prop :=
  ∀ (pins : List (Addr × Obj)) (s : Shared) (σ : St) (H : Hp) (Q : VK), Inv X pins σ H s → t σ H Q → wpAny (model X.prog X.w) X.A (eval e X.env) (EP X pins σ Q) X.xe s
noncomputable def PT (X : Cx) (e : Expr) (t : TT) : Prop :=
  ∀ (pins : List (Addr × Obj)) (s : Shared) (σ : St) (H : Hp) (Q : Bool → Hp → Prop), Inv X pins σ H s → t σ H Q → wpAny (model X.prog X.w) X.A (isTrue e X.env (eval e X.env)) (TP X pins σ Q) X.xe s
noncomputable def PW (X : Cx) (e : Expr) (t : TT) : Prop :=
  ∀ (whole : Sem Value) (pins : List (Addr × Obj)) (s : Shared) (σ : St) (H : Hp) (Q : Bool → Hp → Prop), Inv X pins σ H s → t σ H Q → wpAny (model X.prog X.w) X.A (isTrue e X.env whole) (TP X pins σ Q) X.xe s
theorem PW.pt {X : Cx} {e : Expr} {t : TT} (h : PW X e t) : PT X e t := h _
noncomputable def PA (X : Cx) (es : List Expr) (t : TA) : Prop :=
  ∀ (pos : Pos) (pins : List (Addr × Obj)) (s : Shared) (σ : St) (H : Hp) (Q : List V → Hp → Prop), Inv X pins σ H s → t σ H Q → wpAny (model X.prog X.w) X.A (spliced (backTo pos (starEach es X.env))) (AP X pins σ Q) X.xe s
noncomputable def PS (X : Cx) (st : Stmt) (t : TS) : Prop :=
  ∀ (pins : List (Addr × Obj)) (s : Shared) (σ : St) (H : Hp) (D : Ends), Inv X pins σ H s → t D σ H → wpAny (model X.prog X.w) X.A (exec st X.env) (SP X pins D) X.xe s
noncomputable def PSs (X : Cx) (st : List Stmt) (t : TS) : Prop :=
  ∀ (pins : List (Addr × Obj)) (s : Shared) (σ : St) (H : Hp) (D : Ends), Inv X pins σ H s → t D σ H → wpAny (model X.prog X.w) X.A (execs st X.env) (SP X pins D) X.xe s
theorem thn {α : Type} {t : Sem α} {Q Q' : α → Shared → Prop} {M : Model} {A : Around} {E : Value → Shared → Prop} {s : Shared} (h : wpAny M A t Q E s) (hQ : ∀ a s, Q a s → Q' a s) : wpAny M A t Q' E s := wpAny_mono h hQ fun _ _ x => x
end L2
namespace L2
open PySem PySem.Spec PyProof.Rows
section
variable {X : Cx}
noncomputable def tVar (i : Nat) : TE := fun σ H Q => ∃ v, σ[i]? = some (some v) ∧ Q v H
noncomputable def tC (v : V) : TE := fun _ H Q => Q v H
theorem pe_var {i : Nat} {x : Str} {pos : Pos} (hN : X.N[i]? = some x) (hv : Vis X.env.scope x) (hd : (x == ("__debug__" : Str)) = false := by decide) (hcd : (x == ("__classdict__" : Str)) = false := by decide) : PE X (.Name x pos) (tVar i) := by
  intro pins s σ H Q I h
  obtain ⟨v, e, h⟩ := h
  obtain ⟨m, hn, hl⟩ := I.loc
  obtain ⟨u, r, l⟩ := hl i x v hN e hv
  have fin : EP X pins σ Q u s := ⟨v, H, I, r, h⟩
  rcases l with ⟨hk, hm⟩ | ⟨hk, c, hc, hcell⟩
  · exact wpAny_Name (wpAny_loadName_local I.ok.kind hk hn hm fin) hd
  · rcases hk with hk | hk
    · exact wpAny_Name (wpAny_loadName_cell I.ok.kind hk hc hcell fin) hd
    · exact wpAny_Name (wpAny_loadName_free I.ok.kind hk hc hcell fin hcd) hd
theorem pe_int {i j pos} : PE X (.Constant (.int i) j pos) (tC (.int i)) := fun _ _ _ H _ I h => wpAny_Constant_int ⟨.int i, H, I.tok _, ⟨_, rfl⟩, h⟩
theorem pe_bl {b j pos} : PE X (.Constant (.bool b) j pos) (tC (.bl b)) := fun _ _ _ H _ I h => Constant_bool ⟨.bl b, H, I, rfl, h⟩
theorem pe_non {j pos} : PE X (.Constant .none j pos) (tC .non) := fun _ _ _ H _ I h => Constant_none ⟨.non, H, I, rfl, h⟩
theorem pe_str {x j pos} : PE X (.Constant (.str x) j pos) (tC (.str x)) := fun _ _ _ H _ I h => Calls.Constant_str ⟨.str x, H, I.tok _, ⟨_, rfl⟩, h⟩
noncomputable def Gl (X : Cx) (x : Str) : Prop := X.env.kindOf x = some .globalImplicit
theorem ld_glob {E : Value → Shared → Prop} {pins : List (Addr × Obj)} {s : Shared} {σ : St} {H : Hp} {x : Str} {u : Value} {pos : Pos} {Q : Value → Shared → Prop} (I : Inv X pins σ H s) (hg : Gl X x) (hm : X.mg x = some u) (h : Q u s)
    (hd : (x == ("__debug__" : Str)) = false := by decide) : wpAny (model X.prog X.w) X.A (eval (.Name x pos) X.env) Q E s :=
  Calls.Name_function_global I.ok.kind hg (Calls.loadGlobal_global (by rw [I.ok.glob]; exact I.mod.glob.keeps I.bk) hm h) hd
theorem ld_blt {E : Value → Shared → Prop} {pins : List (Addr × Obj)} {s : Shared} {σ : St} {H : Hp} {x : Str} {u : Value} {pos : Pos} {Q : Value → Shared → Prop} (I : Inv X pins σ H s) (hg : Gl X x) (hm : X.mg x = none) (hv : bootBuiltins x = some u) (h : Q u s)
    (hn : x ≠ "__name__" := by decide) (hd : (x == ("__debug__" : Str)) = false := by decide) : wpAny (model X.prog X.w) X.A (eval (.Name x pos) X.env) Q E s := by
  obtain ⟨mb, h1, h2⟩ := I.mod.blt
  exact Calls.Name_function_global I.ok.kind hg (Calls.loadGlobal_builtin (by rw [I.ok.glob]; exact I.mod.glob.keeps I.bk) hm (by rw [I.ok.blt]; exact h1.keeps I.bk) ((h2 x hn).trans hv) h) hd
theorem pe_glob {x : Str} {v : V} {u : Value} {pos : Pos} (hg : Gl X x) (hm : X.mg x = some u) (r : RelV v u) (hd : (x == ("__debug__" : Str)) = false := by decide) : PE X (.Name x pos) (tC v) :=
  fun _ _ _ H _ I h => ld_glob I hg hm ⟨v, H, I, r, h⟩ hd
theorem pe_bltn {x : Str} {v : V} {u : Value} {pos : Pos} (hg : Gl X x) (hm : X.mg x = none) (hv : bootBuiltins x = some u) (r : RelV v u) (hn : x ≠ "__name__" := by decide) (hd : (x == ("__debug__" : Str)) = false := by decide) : PE X (.Name x pos) (tC v) :=
  fun _ _ _ H _ I h => ld_blt I hg hm hv ⟨v, H, I, r, h⟩ hn hd
variable {a b : Expr} {ta tb : TE} {pos : Pos}
noncomputable def tB (t : TE) : TT := fun σ H Q => t σ H fun x H1 => ∃ c, x = .bl c ∧ Q c H1
theorem pt_val {e : Expr} {t : TE} (h : PE X e t) (he : ∀ whole, isTrue e X.env whole = (do let v ← whole; standAt e.pos; holding [v] (truthy v)) := by intro _; rfl) : PT X e (tB t) := by
  intro pins s σ H Q I hw
  refine isTrue_plain (thn (h pins s σ H _ I hw) fun v s1 ⟨x, H1, I1, r1, q1⟩ => ?_) (he _)
  obtain ⟨d, rfl, q⟩ := q1
  cases r1
  exact wpAny_truthy_bool ⟨H1, I1, q⟩
variable {tA tB' : TT} {rest : List Expr}
noncomputable def tAnd (t u : TT) : TT := fun σ H Q => t σ H fun c H1 => if c = true then u σ H1 Q else Q false H1
noncomputable def tOr (t u : TT) : TT := fun σ H Q => t σ H fun c H1 => if c = true then Q true H1 else u σ H1 Q
noncomputable def tNot (t : TT) : TT := fun σ H Q => t σ H fun c H1 => Q (!c) H1
theorem pw_and1 (ha : PT X a tA) : PW X (.BoolOp .And [a] pos) tA := by
  intro wh pins s σ H Q I h
  refine isTrue_and (thn (ha pins s σ H Q I h) fun c s1 e => ?_)
  cases c with
  | true => exact isTrue_and_nil e
  | false => exact e
theorem pw_or1 (ha : PT X a tA) : PW X (.BoolOp .Or [a] pos) tA := by
  intro wh pins s σ H Q I h
  refine isTrue_or (thn (ha pins s σ H Q I h) fun c s1 e => ?_)
  cases c with
  | false => exact isTrue_or_nil e
  | true => exact e
theorem pw_and (ha : PT X a tA) (hb : PW X (.BoolOp .And (b :: rest) pos) tB') : PW X (.BoolOp .And (a :: b :: rest) pos) (tAnd tA tB') := by
  intro wh pins s σ H Q I h
  refine isTrue_and (thn (ha pins s σ H _ I h) fun c s1 ⟨H1, I1, q1⟩ => ?_)
  cases c with
  | true => exact hb wh pins s1 σ H1 Q I1 q1
  | false => exact ⟨H1, I1, q1⟩
theorem pw_or (ha : PT X a tA) (hb : PW X (.BoolOp .Or (b :: rest) pos) tB') : PW X (.BoolOp .Or (a :: b :: rest) pos) (tOr tA tB') := by
  intro wh pins s σ H Q I h
  refine isTrue_or (thn (ha pins s σ H _ I h) fun c s1 ⟨H1, I1, q1⟩ => ?_)
  cases c with
  | true => exact ⟨H1, I1, q1⟩
  | false => exact hb wh pins s1 σ H1 Q I1 q1
theorem pt_not (ha : PT X a tA) : PT X (.UnaryOp .Not a pos) (tNot tA) := by
  intro pins s σ H Q I h
  exact isTrue_not (ha pins s σ H (fun c H1 => Q (!c) H1) I h)
noncomputable def tAndV (ta tb : TE) : TE := fun σ H Q => ta σ H fun x H1 => ∃ c, x = .bl c ∧ if c = true then tb σ H1 Q else Q (.bl false) H1
theorem pe_one {op} {t : TE} (h : PE X a t) : PE X (.BoolOp op [a] pos) t := fun pins s σ H Q I hw => BoolOp_one (h pins s σ H Q I hw)
theorem pe_and (ha : PE X a ta) (hb : PE X (.BoolOp .And (b :: rest) pos) tb) : PE X (.BoolOp .And (a :: b :: rest) pos) (tAndV ta tb) := by
  intro pins s σ H Q I h
  refine BoolOp_and (thn (ha pins s σ H _ I h) fun v s1 ⟨x, H1, I1, r1, q1⟩ => ?_)
  obtain ⟨c, rfl, q1⟩ := q1
  cases r1
  refine wpAny_truthy_bool ?_
  cases c with
  | true => exact hb pins s1 σ H1 Q I1 q1
  | false => exact ⟨.bl false, H1, I1, rfl, q1⟩
noncomputable def tIf (t : TT) (ta tb : TE) : TE := fun σ H Q => t σ H fun c H1 => if c = true then ta σ H1 Q else tb σ H1 Q
theorem pe_ifExp {c : Expr} (hc : PT X c tA) (ha : PE X a ta) (hb : PE X b tb) : PE X (.IfExp c a b pos) (tIf tA ta tb) := by
  intro pins s σ H Q I h
  refine wpAny_IfExp (thn (hc pins s σ H _ I h) fun d s1 ⟨H1, I1, q1⟩ => ?_)
  cases d with
  | true => exact ha pins s1 σ H1 Q I1 q1
  | false => exact hb pins s1 σ H1 Q I1 q1
end
end L2
namespace L2
open PySem PySem.Spec PyProof.Rows
noncomputable def SqL (K : PySem.W.Frag) (H : Hp) (a : Addr) (xs : List V) : Prop :=
  Rd H a (.lst xs) ∨
    ∃ (o : Obj) (its : Array Value) (n : Nat), K.lookup a = some o ∧ o.cls = .type "list" ∧ o.dict = none ∧ o.data = .seq its n ∧ its.size ≤ sizeLine ∧ Vals xs its.toList
noncomputable def SqT (K : PySem.W.Frag) (H : Hp) (a : Addr) (xs : List V) : Prop :=
  Rd H a (.tup xs) ∨
    ∃ (o : Obj) (its : Array Value) (n : Nat), K.lookup a = some o ∧ o.cls = .type "tuple" ∧ o.dict = none ∧ o.data = .seq its n ∧ its.size ≤ sizeLine ∧ Vals xs its.toList
noncomputable def absV : Value → Option V
  | .none => some .non
  | .bool b => some (.bl b)
  | .int i _ => some (.int i)
  | .str x _ => some (.str x)
  | .bytes b _ => some (.byt b)
  | .float b _ => some (.flt b)
  | .ref a => some (.ref a)
  | .type n => some (.ty n)
  | _ => none
theorem RelV.abs {x : V} {u : Value} (r : RelV x u) : absV u = some x := by
  cases x with
  | non => cases r; rfl
  | bl _ => cases r; rfl
  | int _ => obtain ⟨t, rfl⟩ := r; rfl
  | str _ => obtain ⟨t, rfl⟩ := r; rfl
  | byt _ => obtain ⟨t, rfl⟩ := r; rfl
  | flt _ => obtain ⟨t, rfl⟩ := r; rfl
  | ref _ => cases r; rfl
  | ty _ => cases r; rfl
theorem RelV.inj {x y : V} {u : Value} (r : RelV x u) (q : RelV y u) : x = y := Option.some.inj (r.abs.symm.trans q.abs)
theorem Vals.inj : ∀ {xs ys : List V} {us : List Value}, Vals xs us → Vals ys us → xs = ys
  | _, _, _, .nil, .nil => rfl
  | _, _, _, .cons r t, .cons r' t' => by rw [r.inj r', Vals.inj t t']
section
variable {X : Cx} {pins : List (Addr × Obj)} {σ : St} {H : Hp} {s : Shared} {a : Addr} {xs ys : List V}
theorem SqL.of {K : PySem.W.Frag} (h : H a = some (.lst xs)) : SqL K H a xs := .inl (.inl h)
theorem SqT.of {K : PySem.W.Frag} (h : H a = some (.tup xs)) : SqT K H a xs := .inl (.inl h)
theorem Inv.list (I : Inv X pins σ H s) (h : SqL X.K H a xs) : ∃ its : List Value, Vals xs its ∧ PlainL s.heap a its.toArray ∧ xs.length ≤ sizeLine := by
  rcases h with h | ⟨o, its, n, hk, hc, hd, hs, hz, r⟩
  · obtain ⟨z, its, n, r, e⟩ := h.ok I.hok
    exact ⟨its, r, ⟨_, n, e, rfl, rfl, rfl⟩, z⟩
  · refine ⟨its.toList, r, ⟨o, n, I.kIn a o hk, hc, hd, by simpa using hs⟩, ?_⟩
    have e := r.length
    simp only [Array.length_toList] at e
    omega
theorem Inv.tupN (I : Inv X pins σ H s) (h : SqT X.K H a xs) : ∃ its : List Value, Vals xs its ∧ TupN s.heap a its.toArray ∧ xs.length ≤ sizeLine := by
  rcases h with h | ⟨o, its, n, hk, hc, hd, hs, hz, r⟩
  · obtain ⟨z, its, r, p⟩ := h.ok I.hok
    exact ⟨its, r, p, z⟩
  · refine ⟨its.toList, r, ⟨o, I.kIn a o hk, ⟨hc, n, by simpa using hs⟩, hd⟩, ?_⟩
    have e := r.length
    simp only [Array.length_toList] at e
    omega
theorem Inv.tuple (I : Inv X pins σ H s) (h : SqT X.K H a xs) : ∃ its : List Value, Vals xs its ∧ IsTup s.heap a its.toArray ∧ xs.length ≤ sizeLine := let ⟨its, r, p, z⟩ := I.tupN h; ⟨its, r, p.tup, z⟩
theorem Inv.list_inj (I : Inv X pins σ H s) (h : SqL X.K H a xs) (h' : SqL X.K H a ys) : xs = ys := by
  obtain ⟨its, r, ⟨o, n, e, _, _, d⟩, _⟩ := I.list h
  obtain ⟨its', r', ⟨o', n', e', _, _, d'⟩, _⟩ := I.list h'
  rw [e] at e'; cases e'
  rw [d] at d'
  injection d' with d1 _
  have : its = its' := by simpa using congrArg Array.toList d1
  subst this
  exact r.inj r'
theorem Inv.tuple_inj (I : Inv X pins σ H s) (h : SqT X.K H a xs) (h' : SqT X.K H a ys) : xs = ys := by
  obtain ⟨its, r, ⟨o, e, _, n, d⟩, _⟩ := I.tuple h
  obtain ⟨its', r', ⟨o', e', _, n', d'⟩, _⟩ := I.tuple h'
  rw [e] at e'; cases e'
  rw [d] at d'
  injection d' with d1 _
  have : its = its' := by simpa using congrArg Array.toList d1
  subst this
  exact r.inj r'
end
noncomputable abbrev Cx.wish (X : Cx) (E : Value → Shared → Prop) : Cx := { X with xe := E }
noncomputable abbrev Cx.nox (X : Cx) : Cx := X.wish fun _ _ => False
theorem Cx.Ok.wish {X : Cx} (ok : X.Ok) (E : Value → Shared → Prop) : (X.wish E).Ok :=
  ⟨ok.mod, ok.kind, ok.glob, ok.blt, ok.above, ok.inj, ok.has, ok.cab, ok.hd, ok.frames, ok.stk, ok.exf, ok.bs, ok.bsz, ok.noex, ok.exfs, ok.funs, ok.frf⟩
theorem Cx.Ok.unwish {X : Cx} {E : Value → Shared → Prop} (ok : (X.wish E).Ok) : X.Ok :=
  ⟨ok.mod, ok.kind, ok.glob, ok.blt, ok.above, ok.inj, ok.has, ok.cab, ok.hd, ok.frames, ok.stk, ok.exf, ok.bs, ok.bsz, ok.noex, ok.exfs, ok.funs, ok.frf⟩
section
variable {X : Cx} {pins : List (Addr × Obj)} {σ : St} {H : Hp} {s : Shared} {E : Value → Shared → Prop}
theorem Inv.wish (I : Inv X pins σ H s) (E : Value → Shared → Prop) : Inv (X.wish E) pins σ H s := ⟨I.ok.wish E, I.os, I.bare, I.base, I.loc, I.cell, I.free, I.freeC, I.pin, I.hok, I.len⟩
theorem Inv.unwish (I : Inv (X.wish E) pins σ H s) : Inv X pins σ H s := ⟨I.ok.unwish, I.os, I.bare, I.base, I.loc, I.cell, I.free, I.freeC, I.pin, I.hok, I.len⟩
theorem SP.unwish {D : Ends} {f : Flow} {s' : Shared} (h : SP (X.wish E) pins D f s') : SP X pins D f s' := by
  cases f with
  | next => obtain ⟨σ', H', I, q⟩ := h; exact ⟨σ', H', I.unwish, q⟩
  | brk => obtain ⟨σ', H', I, q⟩ := h; exact ⟨σ', H', I.unwish, q⟩
  | cont => obtain ⟨σ', H', I, q⟩ := h; exact ⟨σ', H', I.unwish, q⟩
  | ret u => obtain ⟨v, σ', H', I, r, q⟩ := h; exact ⟨v, σ', H', I.unwish, r, q⟩
theorem PE.nox {e : Expr} {t : TE} (h : PE X.nox e t) : PE X e t := fun pins s σ H Q I hw =>
  wpAny_mono (h pins s σ H Q (I.wish _) hw) (fun _ _ ⟨v, H', I', r, q⟩ => ⟨v, H', I'.unwish, r, q⟩) fun _ _ z => False.elim z
theorem PT.nox {e : Expr} {t : TT} (h : PT X.nox e t) : PT X e t := fun pins s σ H Q I hw =>
  wpAny_mono (h pins s σ H Q (I.wish _) hw) (fun _ _ ⟨H', I', q⟩ => ⟨H', I'.unwish, q⟩) fun _ _ z => False.elim z
theorem PSs.nox {st : List Stmt} {t : TS} (h : PSs X.nox st t) : PSs X st t := fun pins s σ H D I hw =>
  wpAny_mono (h pins s σ H D (I.wish _) hw) (fun _ _ q => q.unwish) fun _ _ z => False.elim z
end
section
variable {X : Cx} {st : Stmt} {rest : List Stmt} {t u : TS} {e : Expr} {te : TE} {pos : Pos}
noncomputable def tNext : TS := fun D σ H => D.nx σ H
noncomputable def tSeq (t u : TS) : TS := fun D σ H => t { D with nx := u D } σ H
theorem pss_nil : PSs X [] tNext := fun _ _ σ H _ I h => wpAny_execs_nil ⟨σ, H, I, h⟩
theorem pss_cons (h1 : PS X st t) (h2 : PSs X rest u) : PSs X (st :: rest) (tSeq t u) := by
  intro pins s σ H D I h
  refine wpAny_execs_cons (thn (h1 pins s σ H { D with nx := u D } I h) fun f s1 q => ?_)
  cases f with
  | next =>
    obtain ⟨σ', H', I', q⟩ := q
    exact h2 pins s1 σ' H' D I' q
  | ret v => exact q
  | brk => exact q
  | cont => exact q
theorem pss_one (h1 : PS X st t) : PSs X [st] t := by
  intro pins s σ H D I h
  refine wpAny_execs_cons (thn (h1 pins s σ H D I h) fun f s1 q => ?_)
  cases f with
  | next => exact wpAny_execs_nil q
  | ret v => exact q
  | brk => exact q
  | cont => exact q
theorem Inv.quiet {pins : List (Addr × Obj)} {σ : St} {H : Hp} {s : Shared} (I : Inv X pins σ H s) : interactive X.env = false := by simp [interactive, I.ok.kind]
noncomputable def tDrop (te : TE) : TS := fun D σ H => te σ H fun _ H1 => D.nx σ H1
theorem ps_expr (he : PE X e te) (hs : swapsWith e none pos.line X.env = pure false := by rfl) : PS X (.Expr e pos) (tDrop te) := by
  intro pins s σ H D I h
  exact wpAny_Expr_any (thn (he pins s σ H _ I h) fun v s1 ⟨x, H1, I1, r1, q1⟩ => ⟨σ, H1, I1, q1⟩) I.quiet hs
noncomputable def tRet (te : TE) : TS := fun D σ H => te σ H D.rt
theorem ps_ret (he : PE X e te) : PS X (.Return (some e) pos) (tRet te) := by
  intro pins s σ H D I h
  exact wpAny_Return_some (thn (he pins s σ H _ I h) fun v s1 ⟨x, H1, I1, r1, q1⟩ => ⟨x, σ, H1, I1, r1, q1⟩)
noncomputable def tIfS (c : TT) (t u : TS) : TS := fun D σ H => c σ H fun b H1 => if b = true then t D σ H1 else u D σ H1
theorem ps_if {c : Expr} {a b : List Stmt} {tc : TT} (hc : PT X c tc) (ha : PSs X a t) (hb : PSs X b u) : PS X (.If c a b pos) (tIfS tc t u) := by
  intro pins s σ H D I h
  refine wpAny_If (thn (hc pins s σ H _ I h) fun d s1 ⟨H1, I1, q1⟩ => ?_)
  cases d with
  | true => exact ha pins s1 σ H1 D I1 q1
  | false => exact hb pins s1 σ H1 D I1 q1
end
noncomputable abbrev TG := V → St → Hp → (St → Hp → Prop) → Prop
noncomputable abbrev TGs := List V → St → Hp → (St → Hp → Prop) → Prop
noncomputable def PG (X : Cx) (target : Expr) (t : TG) : Prop :=
  ∀ (pins : List (Addr × Obj)) (s : Shared) (σ : St) (H : Hp) (v : V) (u : Value) (Q : St → Hp → Prop), Inv X pins σ H s → RelV v u → t v σ H Q →
    wpAny (model X.prog X.w) X.A (assign target X.env u) (fun _ s' => ∃ σ' H', Inv X pins σ' H' s' ∧ Q σ' H') X.xe s
noncomputable def PGs (X : Cx) (ts : List Expr) (t : TGs) : Prop :=
  ∀ (pins : List (Addr × Obj)) (s : Shared) (σ : St) (H : Hp) (vs : List V) (us : List Value) (Q : St → Hp → Prop), Inv X pins σ H s → Vals vs us → t vs σ H Q →
    wpAny (model X.prog X.w) X.A (assignInOrder ((assignEach ts X.env).map (·.2)) us) (fun _ s' => ∃ σ' H', Inv X pins σ' H' s' ∧ Q σ' H') X.xe s
noncomputable abbrev TSet := V → V → V → Hp → (Hp → Prop) → Prop
noncomputable def PSet (X : Cx) (t : TSet) : Prop :=
  ∀ (pins : List (Addr × Obj)) (s : Shared) (σ : St) (H : Hp) (o i v : V) (ov iv u : Value) (Q : Hp → Prop), Inv X pins σ H s → RelV o ov → RelV i iv → RelV v u → t o i v H Q →
    wpAny (model X.prog X.w) X.A (setItem ov iv u) (fun _ s' => ∃ H', Inv X pins σ H' s' ∧ Q H') X.xe s
noncomputable abbrev TIp := V → V → Hp → VK → Prop
noncomputable def PIp (X : Cx) (op : Operator) (t : TIp) : Prop :=
  ∀ (pins : List (Addr × Obj)) (s : Shared) (σ : St) (H : Hp) (x y : V) (v u : Value) (Q : VK), Inv X pins σ H s → RelV x v → RelV y u → t x y H Q →
    wpAny (model X.prog X.w) X.A (inplaceOp op v u) (EP X pins σ Q) X.xe s
section
variable {X : Cx} {pos : Pos}
noncomputable def gName (i : Nat) : TG := fun v σ H Q => Q (σ.set i (some v)) H
theorem pg_name {i : Nat} {x : Str} (hN : X.N.Nodup) (hi : X.N[i]? = some x) (hx : Loc X.env.scope x) (hf : X.fn x = true ∨ X.env.scope.names.lookup x = some .local := by first | exact .inl rfl | exact .inr rfl | assumption) : PG X (.Name x pos) (gName i) := by
  intro pins s σ H v u Q I r h
  exact wpAny_assign_Name (store_ok I hN hi hx r (fun s' I' => ⟨_, H, I', h⟩) hf)
noncomputable def gNil : TGs := fun vs σ H Q => vs = [] ∧ Q σ H
noncomputable def gCons (t : TG) (u : TGs) : TGs := fun vs σ H Q => ∃ v r, vs = v :: r ∧ t v σ H fun σ' H' => u r σ' H' Q
theorem pgs_nil : PGs X [] gNil := by
  intro pins s σ H vs us Q I r h
  obtain ⟨e, h⟩ := h
  subst e
  cases r
  exact assignInOrder_nil ⟨σ, H, I, h⟩
theorem pgs_cons {e : Expr} {es : List Expr} {t : TG} {u : TGs} (h1 : PG X e t) (h2 : PGs X es u)
    (hs : (assignEach (e :: es) X.env).map (·.2) = assign e X.env :: (assignEach es X.env).map (·.2) := by rfl) : PGs X (e :: es) (gCons t u) := by
  intro pins s σ H vs us Q I r h
  obtain ⟨v, vr, e1, h⟩ := h
  subst e1
  cases r with
  | cons r rr =>
    rw [hs]
    refine assignInOrder_cons (thn (h1 pins s σ H _ _ _ I r h) fun _ s1 ⟨σ1, H1, I1, q1⟩ => ?_)
    exact h2 pins s1 σ1 H1 _ _ Q I1 rr q1
noncomputable def gTup (K : PySem.W.Frag) (n : Nat) (t : TGs) : TG := fun v σ H Q => ∃ a xs, v = .ref a ∧ SqT K H a xs ∧ xs.length = n ∧ t xs σ H Q
theorem pg_tup {es : List Expr} {k : Nat} {t : TGs} {n : Nat} (hc : X.calm = true) (h : PGs X es t)
    (hn : (assignEach es X.env).length = n := by rfl) (hst : (assignEach es X.env).findIdx? (·.1) = none := by rfl) : PG X (.Tuple es k pos) (gTup X.K n t) := by
  intro pins s σ H v u Q I r hw
  obtain ⟨a, xs, e1, hq, hl, hw⟩ := hw
  subst e1
  cases r
  obtain ⟨its, rv, ht, hz⟩ := I.tuple hq
  refine assign_Tuple_tuple (I.ok.hd hc) ht (by simp [hn, ← hl, rv.length]) hst fun h' hx => ?_
  have I1 : Inv X pins σ H { s with heap := h' } := I.kept (t' := s.toks) fun b o e => hx b o (Nat.ne_of_lt (Heap.lt_size e)) e
  exact h pins _ σ H xs _ Q I1 (by simpa using rv) hw
noncomputable def gSub (to ti : TE) (t : TSet) : TG := fun v σ H Q => to σ H fun o H1 => ti σ H1 fun i H2 => t o i v H2 fun H3 => Q σ H3
theorem pg_sub {o i : Expr} {to ti : TE} {t : TSet} (ho : PE X o to) (hi : PE X i ti) (hs : PSet X t)
    (ha : ∀ v, assign (.Subscript o i pos) X.env v = (do
      let ov ← holding [v] (eval o X.env)
      let iv ← holding [v, ov] (eval i X.env)
      standAt pos
      holding [v, ov, iv] (setItem ov iv v)
      release [v, ov, iv] []) := by intro _; rfl) : PG X (.Subscript o i pos) (gSub to ti t) := by
  intro pins s σ H v u Q I r h
  rw [ha]
  refine wpAny_bind (wpAny_holding (thn (ho pins s σ H _ I h) fun ov s1 ⟨x, H1, I1, r1, q1⟩ => ?_))
  refine wpAny_bind (wpAny_holding (thn (hi pins s1 σ H1 _ I1 q1) fun iv s2 ⟨y, H2, I2, r2, q2⟩ => ?_))
  refine wpAny_bind (wpAny_standAt (wpAny_bind (wpAny_holding (thn (hs pins s2 σ H2 x y v ov iv u _ I2 r1 r2 r q2) fun _ s3 ⟨H3, I3, q3⟩ => ?_))))
  exact wpAny_release ⟨σ, H3, I3, q3⟩
noncomputable def tAsg (te : TE) (g : TG) : TS := fun D σ H => te σ H fun x H1 => g x σ H1 D.nx
theorem ps_asg {tg e : Expr} {te : TE} {g : TG} (he : PE X e te) (hg : PG X tg g) (hs : swapsWithSole [tg] e pos.line X.env = pure false := by rfl) (hw : swappedStores [tg] e X.env = pure none := by rfl)
    (h1 : (assignEach [tg] X.env).map (·.2) = [assign tg X.env] := by rfl) : PS X (.Assign [tg] e pos) (tAsg te g) := by
  intro pins s σ H D I h
  refine wpAny_Assign_stores (thn (he pins s σ H _ I h) fun v s1 ⟨x, H1, I1, r1, q1⟩ => ?_) hs hw
  rw [h1]
  exact thn (hg pins s1 σ H1 x v _ I1 r1 q1) fun _ s2 q => q
theorem ps_set {i : Nat} {x : Str} {e : Expr} {te : TE} {pos' : Pos} (hN : X.N.Nodup) (hi : X.N[i]? = some x) (hx : Loc X.env.scope x) (he : PE X e te) (hs : swapsWith e (some (.Name x pos')) pos.line X.env = pure false := by rfl) (hf : X.fn x = true ∨ X.env.scope.names.lookup x = some .local := by first | exact .inl rfl | exact .inr rfl | assumption) :
    PS X (.Assign [.Name x pos'] e pos) (tAsg te (gName i)) := by
  intro pins s σ H D I h
  refine wpAny_Assign_Name (thn (he pins s σ H _ I h) fun v s1 ⟨y, H1, I1, r1, q1⟩ => ?_) hs
  exact store_ok I1 hN hi hx r1 (fun s2 I2 => ⟨_, H1, I2, q1⟩) hf
noncomputable def tAug (i : Nat) (te : TE) (ti : TIp) : TS := fun D σ H => ∃ x, σ[i]? = some (some x) ∧ te σ H fun y H1 => ti x y H1 fun z H2 => D.nx (σ.set i (some z)) H2
theorem ps_aug {i : Nat} {x : Str} {e : Expr} {te : TE} {op : Operator} {ti : TIp} {pos' : Pos} (hN : X.N.Nodup) (hi : X.N[i]? = some x) (hx : Loc X.env.scope x) (he : PE X e te) (ho : PIp X op ti) (hf : X.fn x = true ∨ X.env.scope.names.lookup x = some .local := by first | exact .inl rfl | exact .inr rfl | assumption) :
    PS X (.AugAssign (.Name x pos') op e pos) (tAug i te ti) := by
  intro pins s σ H D I h
  obtain ⟨v, e1, h⟩ := h
  obtain ⟨m, hn, hl⟩ := I.loc
  have vis : Vis X.env.scope x := by rcases hx with k | k; exact .inl k; exact .inr (.inl k)
  obtain ⟨u, r, l⟩ := hl i x v hi e1 vis
  refine wpAny_AugAssign_Name ?_
  have go : wpAny (model X.prog X.w) X.A (eval e X.env) (fun w s₂ => wpAny (model X.prog X.w) X.A (inplaceOp op u w) (fun r s₃ => wpAny (model X.prog X.w) X.A (storeName X.env x r) (fun _ => SP X pins D .next) X.xe s₃) X.xe s₂) X.xe s := by
    refine thn (he pins s σ H _ I h) fun w s1 ⟨y, H1, I1, r1, q1⟩ => ?_
    refine thn (ho pins s1 σ H1 v y u w _ I1 r r1 q1) fun z s2 ⟨zv, H2, I2, r2, q2⟩ => ?_
    exact store_ok I2 hN hi hx r2 (fun s3 I3 => ⟨_, H2, I3, q2⟩) hf
  rcases l with ⟨hk, hm⟩ | ⟨hk, c, hc, hcell⟩
  · exact wpAny_loadName_local I.ok.kind hk hn hm go
  · rcases hk with hk | hk
    · exact wpAny_loadName_cell I.ok.kind hk hc hcell go
    · rcases hx with k | k
      · have : X.env.scope.names.lookup x = some .free := hk
        rw [k] at this; cases this
      · have : X.env.scope.names.lookup x = some .free := hk
        rw [k] at this; cases this
end
section
variable {X : Cx} {pos : Pos}
noncomputable def tWhile (c : TT) (tb : TS) : TS := fun D σ H => ∃ W : Nat → St → Hp → Prop, (∃ m, W m σ H) ∧ ∀ m σ H, W m σ H →
  c σ H fun b H1 => if b = true then ∃ N : St → Hp → Prop, (∀ σ' H', N σ' H' → ∃ m', m' < m ∧ W m' σ' H') ∧ tb { D with nx := N, ct := N, bk := D.nx } σ H1 else D.nx σ H1
theorem ps_while {c : Expr} {body : List Stmt} {tc : TT} {tb : TS} (hp : PassesOwn (model X.prog X.w) X.A X.env X.xe) (hc : PT X c tc) (hb : PSs X body tb) : PS X (.While c body [] pos) (tWhile tc tb) := by
  intro pins s σ H D I h
  obtain ⟨W, ⟨m0, w0⟩, turn⟩ := h
  refine wpAny_While (codeAny_whileLoop (fun n s' => ∃ σ' H', Inv X pins σ' H' s' ∧ W n σ' H') ?_ m0 ⟨σ, H, I, w0⟩)
  rintro n s1 ⟨σ1, H1, I1, w1⟩
  refine wpAny_passesOwn hp (thn (hc pins s1 σ1 H1 _ I1 (turn n σ1 H1 w1)) fun b s2 ⟨H2, I2, q2⟩ => ?_)
  cases b with
  | true =>
    obtain ⟨N, hN, q2⟩ := q2
    rw [if_pos rfl]
    refine wpAny_passesOwn hp (thn (hb pins s2 σ1 H2 _ I2 q2) fun f s3 q3 => ?_)
    cases f with
    | next =>
      obtain ⟨σ3, H3, I3, n3⟩ := q3
      obtain ⟨m', hm, w3⟩ := hN σ3 H3 n3
      exact ⟨m', hm, σ3, H3, I3, w3⟩
    | cont =>
      obtain ⟨σ3, H3, I3, n3⟩ := q3
      obtain ⟨m', hm, w3⟩ := hN σ3 H3 n3
      exact ⟨m', hm, σ3, H3, I3, w3⟩
    | brk => exact q3
    | ret v => exact q3
  | false =>
    rw [if_neg Bool.false_ne_true]
    exact wpAny_execs_nil ⟨σ1, H2, I2, q2⟩
end
structure It where
  go : Nat → Hp → Prop
  yld : Nat → Hp → V → Hp → Prop
  stop : Nat → Hp → Prop
noncomputable def FpOk (X : Cx) (pins : List (Addr × Obj)) (H : Hp) (b : Addr) : Prop :=
  H b = none ∧ b ≠ X.env.locals ∧ b ∉ X.fs ∧ (b ∈ X.ex ∨ X.s₀.heap.objs.size ≤ b) ∧ (∀ x c, X.env.cells.lookup x = some c → c ≠ b) ∧ ∀ p ∈ X.pn ++ pins, p.1 ≠ b
theorem Inv.fpOk {X : Cx} {pins : List (Addr × Obj)} {σ : St} {H H' : Hp} {s : Shared} {b : Addr} (I : Inv X pins σ H s) (hb : s.heap.objs.size ≤ b) (hn : H' b = none) : FpOk X pins H' b := by
  refine ⟨hn, Nat.ne_of_gt (Nat.lt_of_lt_of_le I.lt hb), I.nofs hb, .inr (Nat.le_trans I.sz hb), fun x c e z => ?_, fun p hp z => ?_⟩
  · obtain ⟨v, q⟩ := I.cell x c e
    exact absurd (Nat.lt_of_lt_of_le q.lt (by rw [z]; exact hb)) (Nat.lt_irrefl _)
  · exact absurd (Nat.lt_of_lt_of_le (Heap.lt_size (I.pin p hp).1) (by rw [z]; exact hb)) (Nat.lt_irrefl _)
structure Turn (P : Program) (w : World) (K : PySem.W.Frag) (tg : Expr) (J : It) (fp : List Addr) (it : Addr) (tn : Nat → Heap → Prop) : Prop where
  mem : it ∈ fp
  obj : ∀ i h, tn i h → ∀ b ∈ fp, ∃ o, h.get? b = some o ∧ ∀ v, o.data ≠ .cell v
  keep : ∀ i h h', tn i h → (∀ b ∈ fp, ∀ o, h.get? b = some o → h'.get? b = some o) → tn i h'
  item : ∀ (X : Cx), X.prog = P → X.w = w → X.K = K → X.calm = true → ∀ (i : Nat) (pins : List (Addr × Obj)) (s : Shared) (σ : St) (H : Hp) (E : Value → Shared → Prop), Inv X pins σ H s → (∀ b ∈ fp, FpOk X pins H b) → tn i s.heap → J.go i H →
    wpAny (model P w) X.A (pyNext (.ref it)) (fun r s1 => ∃ u, r = some u ∧
      wpAny (model P w) X.A (letOwnedTupleGo tg (.ref it) u) (fun _ s2 => ∃ x H', Inv X pins σ H' s2 ∧ RelV x u ∧ J.yld i H x H' ∧ tn (i + 1) s2.heap ∧ ∀ b ∈ fp, H' b = none) E s1) E s
  done : ∀ (X : Cx), X.prog = P → X.w = w → X.K = K → X.calm = true → ∀ (i : Nat) (pins : List (Addr × Obj)) (s : Shared) (σ : St) (H : Hp) (E : Value → Shared → Prop), Inv X pins σ H s → (∀ b ∈ fp, FpOk X pins H b) → tn i s.heap → J.stop i H →
    wpAny (model P w) X.A (pyNext (.ref it)) (fun r s1 => r = none ∧ Inv X pins σ H s1) E s
  self : ∀ (A : Around) (i : Nat) (s : Shared) (Q : Value → Shared → Prop) (E : Value → Shared → Prop), tn i s.heap → Q (.ref it) s → wpAny (model P w) A (pyIter (.ref it)) Q E s
noncomputable abbrev TI := St → Hp → (It → Hp → Prop) → Prop
noncomputable def PIE (X : Cx) (pins : List (Addr × Obj)) (σ : St) (tg : Expr) (R : It → Hp → Prop) (itv : Value) (s2 : Shared) : Prop :=
  ∃ (it : Addr) (fp : List Addr) (tn : Nat → Heap → Prop) (J : It) (H' : Hp), itv = .ref it ∧ Inv X pins σ H' s2 ∧ Turn X.prog X.w X.K tg J fp it tn ∧ tn 0 s2.heap ∧ (∀ b ∈ fp, FpOk X pins H' b) ∧ R J H'
noncomputable def PI (X : Cx) (tg iter : Expr) (wi : TI) : Prop :=
  ∀ (pins : List (Addr × Obj)) (s : Shared) (σ : St) (H : Hp) (R : It → Hp → Prop), Inv X pins σ H s → wi σ H R →
    wpAny (model X.prog X.w) X.A (eval iter X.env) (fun v s1 => wpAny (model X.prog X.w) X.A (pyIter v) (PIE X pins σ tg R) X.xe s1) X.xe s
theorem go_of {M : Model} {A : Around} {E : Value → Shared → Prop} {s : Shared} {tg : Expr} {it : Addr} {u : Value} {o : Obj} {n : String} {vs : Array Value} {Q : Unit → Shared → Prop} (ho : s.heap.get? it = some o) (hc : o.cls = .type n) (hd : o.data = .fields vs)
    (hn : ["enumerate", "zip", "dict_itemiterator", "dict_reverseitemiterator", "odict_iterator", "itertools.zip_longest", "itertools.pairwise"].contains n = false) (hQ : Q () s) : wpAny M A (letOwnedTupleGo tg (.ref it) u) Q E s := by
  unfold letOwnedTupleGo
  cases tg <;> first
    | exact wpAny_pure hQ
    | (cases u <;> first
        | exact wpAny_pure hQ
        | (refine wpAny_bind (wpAny_load ho ?_)
           rw [hc, hd]
           show wpAny M A (if (["enumerate", "zip", "dict_itemiterator", "dict_reverseitemiterator", "odict_iterator", "itertools.zip_longest", "itertools.pairwise"].contains n && vs[0]? == some (rawInt _)) = true then _ else _) Q E s
           rw [if_neg (by intro h; rw [hn, Bool.false_and] at h; cases h)]
           exact wpAny_pure hQ))
noncomputable def Itl (K : PySem.W.Frag) (a : Addr) : It :=
  ⟨fun i H => ∃ xs x, SqL K H a xs ∧ xs[i]? = some x, fun i H x H' => H' = H ∧ ∀ xs, SqL K H a xs → xs[i]? = some x, fun i H => ∃ xs, SqL K H a xs ∧ xs.length ≤ i⟩
noncomputable def Itt (K : PySem.W.Frag) (a : Addr) : It :=
  ⟨fun i H => ∃ xs x, SqT K H a xs ∧ xs[i]? = some x, fun i H x H' => H' = H ∧ ∀ xs, SqT K H a xs → xs[i]? = some x, fun i H => ∃ xs, SqT K H a xs ∧ xs.length ≤ i⟩
noncomputable def Itr (lo : Int) (n : Nat) : It := ⟨fun i _ => i < n, fun i H x H' => H' = H ∧ x = .int (lo + i), fun i _ => n ≤ i⟩
theorem turn_list {P : Program} {w : World} {K : PySem.W.Frag} {tg : Expr} (a it : Addr) : Turn P w K tg (Itl K a) [it] it (fun i h => h.IsListIter it a i) where
  mem := by simp
  obj := fun i h st b hb => by
    have e : b = it := by simpa using hb
    subst e
    obtain ⟨o, e, c, d⟩ := st
    exact ⟨o, e, fun v z => by rw [d] at z; cases z⟩
  keep := fun i h h' st k => st.at fun o e => k it (by simp) o e
  item := by
    intro X hP hw hK hc i pins s σ H E I hf st hg
    subst hP hw hK
    obtain ⟨xs, x, hq, hx⟩ := hg
    obtain ⟨its, rv, p, hz⟩ := I.list hq
    obtain ⟨u, hu, ru⟩ := rv.get hx
    obtain ⟨f0, f1, f2, f3, f4, f5⟩ := hf it (by simp)
    refine wpAny_pyNext_list_item st p.isList (x := u) (by simpa using hu) fun h' st' sb => ?_
    have I1 : Inv X pins σ H { s with heap := h' } := I.turned (t' := s.toks) (fun b o hb e => (sb.2 b hb).trans e) f0 f1 f3 f4 f5
    obtain ⟨o, e, c, d⟩ := id st'
    exact ⟨u, rfl, go_of (s := { s with heap := h' }) e c d (by decide) ⟨x, H, I1, ru, ⟨rfl, fun ys hy => by rw [I.list_inj hy hq]; exact hx⟩, st', fun b hb => (hf b hb).1⟩⟩
  done := by
    intro X hP hw hK hc i pins s σ H E I hf st hg
    subst hP hw hK
    obtain ⟨xs, hq, hx⟩ := hg
    obtain ⟨its, rv, p, hz⟩ := I.list hq
    obtain ⟨f0, f1, f2, f3, f4, f5⟩ := hf it (by simp)
    have hl := rv.length
    exact wpAny_pyNext_list_end (I.ok.hd hc) st p.isList (by simp; omega) fun h' eb => ⟨rfl, I.turned (t' := s.toks) (fun b o hb e => eb b o hb e) f0 f1 f3 f4 f5⟩
  self := fun _ _ _ _ _ st h => wpAny_pyIter_listiter st h
theorem turn_tuple {P : Program} {w : World} {K : PySem.W.Frag} {tg : Expr} (a it : Addr) : Turn P w K tg (Itt K a) [it] it (fun i h => h.IsTupleIter it a i) where
  mem := by simp
  obj := fun i h st b hb => by
    have e : b = it := by simpa using hb
    subst e
    obtain ⟨o, e, c, d⟩ := st
    exact ⟨o, e, fun v z => by rw [d] at z; cases z⟩
  keep := fun i h h' st k => st.at fun o e => k it (by simp) o e
  item := by
    intro X hP hw hK hc i pins s σ H E I hf st hg
    subst hP hw hK
    obtain ⟨xs, x, hq, hx⟩ := hg
    obtain ⟨its, rv, p, hz⟩ := I.tuple hq
    obtain ⟨u, hu, ru⟩ := rv.get hx
    obtain ⟨f0, f1, f2, f3, f4, f5⟩ := hf it (by simp)
    refine wpAny_pyNext_tuple_item st (show s.heap.IsTuple a its.toArray from p) (x := u) (by simpa using hu) fun h' st' sb => ?_
    have I1 : Inv X pins σ H { s with heap := h' } := I.turned (t' := s.toks) (fun b o hb e => (sb.2 b hb).trans e) f0 f1 f3 f4 f5
    obtain ⟨o, e, c, d⟩ := id st'
    exact ⟨u, rfl, go_of (s := { s with heap := h' }) e c d (by decide) ⟨x, H, I1, ru, ⟨rfl, fun ys hy => by rw [I.tuple_inj hy hq]; exact hx⟩, st', fun b hb => (hf b hb).1⟩⟩
  done := by
    intro X hP hw hK hc i pins s σ H E I hf st hg
    subst hP hw hK
    obtain ⟨xs, hq, hx⟩ := hg
    obtain ⟨its, rv, p, hz⟩ := I.tuple hq
    obtain ⟨f0, f1, f2, f3, f4, f5⟩ := hf it (by simp)
    have hl := rv.length
    exact wpAny_pyNext_tuple_end (I.ok.hd hc) st (show s.heap.IsTuple a its.toArray from p) (by simp; omega) fun h' eb => ⟨rfl, I.turned (t' := s.toks) (fun b o hb e => eb b o hb e) f0 f1 f3 f4 f5⟩
  self := fun _ _ _ _ _ st h => wpAny_pyIter_tupleiter st h
theorem turn_range {P : Program} {w : World} {K : PySem.W.Frag} {tg : Expr} (it : Addr) (lo : Int) (n : Nat) : Turn P w K tg (Itr lo n) [it] it (fun i h => IsRangeIter h it (lo + (i : Nat) * 1) ((n : Int) - (i : Nat)) 1) where
  mem := by simp
  obj := fun i h st b hb => by
    have e : b = it := by simpa using hb
    subst e
    exact ⟨_, st, fun v z => by
      have z' : Data.fields _ = Data.cell v := z
      cases z'⟩
  keep := fun i h h' st k => k it (by simp) _ st
  item := by
    intro X hP hw hK hc i pins s σ H E I hf st hg
    subst hP hw hK
    obtain ⟨f0, f1, f2, f3, f4, f5⟩ := hf it (by simp)
    have W := Walks.range (prog := X.prog) (w := X.w) (I.ok.hd hc) it lo 1 n
    refine W.item i s _ _ hg st fun v h' tk hv st' kk => ?_
    obtain ⟨t, rfl⟩ := hv
    have I1 : Inv X pins σ H { s with heap := h', toks := tk } := I.turned (fun b o hb e => kk b o (by simpa using hb) e) f0 f1 f3 f4 f5
    refine ⟨_, rfl, go_of (s := { s with heap := h', toks := tk }) (n := "range_iterator") st' rfl rfl (by decide) ⟨.int (lo + i), H, I1, ⟨t, ?_⟩, ⟨rfl, rfl⟩, st', fun b hb => (hf b hb).1⟩⟩
    rw [Int.mul_one]
  done := by
    intro X hP hw hK hc i pins s σ H E I hf st hg
    subst hP hw hK
    obtain ⟨f0, f1, f2, f3, f4, f5⟩ := hf it (by simp)
    exact wpAny_pyNext_range_end (I.ok.hd hc) st (by have : n ≤ i := hg; omega) fun h' eb => ⟨rfl, I.turned (t' := s.toks) (fun b o hb e => eb b o hb e) f0 f1 f3 f4 f5⟩
  self := fun _ _ _ _ _ st h => wpAny_pyIter_rangeiter st h
end L2
namespace L2
open PySem PySem.Spec PyProof.Rows
section
variable {X : Cx} {tg : Expr}
noncomputable def iList (K : PySem.W.Frag) (tl : TE) : TI := fun σ H R => tl σ H fun x H1 => ∃ a, x = .ref a ∧ (∃ xs, SqL K H1 a xs) ∧ R (Itl K a) H1
noncomputable def iTup (K : PySem.W.Frag) (tl : TE) : TI := fun σ H R => tl σ H fun x H1 => ∃ a, x = .ref a ∧ (∃ xs, SqT K H1 a xs) ∧ R (Itt K a) H1
theorem pi_list {l : Expr} {tl : TE} (hl : PE X l tl) : PI X tg l (iList X.K tl) := by
  intro pins s σ H R I h
  refine thn (hl pins s σ H _ I h) fun v s1 ⟨x, H1, I1, r1, q1⟩ => ?_
  obtain ⟨a, e, ⟨xs, hq⟩, q⟩ := q1
  subst e
  cases r1
  obtain ⟨its, rv, p, hz⟩ := I1.list hq
  refine wpAny_pyIter_list p.isList ?_
  refine ⟨s1.heap.objs.size, [s1.heap.objs.size], _, _, H1, rfl, I1.kept (t' := s1.toks) fun b o e => Heap.get?_push_of_some _ e, turn_list a _, ⟨_, Heap.get?_push_size _ rfl, rfl, rfl⟩, fun b hb => ?_, q⟩
  have e : b = s1.heap.objs.size := by simpa using hb
  subst e
  exact I1.fpOk (Nat.le_refl _) (I1.hok.fresh (Nat.le_refl _))
theorem pi_tup {l : Expr} {tl : TE} (hl : PE X l tl) : PI X tg l (iTup X.K tl) := by
  intro pins s σ H R I h
  refine thn (hl pins s σ H _ I h) fun v s1 ⟨x, H1, I1, r1, q1⟩ => ?_
  obtain ⟨a, e, ⟨xs, hq⟩, q⟩ := q1
  subst e
  cases r1
  obtain ⟨its, rv, p, hz⟩ := I1.tuple hq
  refine wpAny_pyIter_tuple (show s1.heap.IsTuple a its.toArray from p) ?_
  refine ⟨s1.heap.objs.size, [s1.heap.objs.size], _, _, H1, rfl, I1.kept (t' := s1.toks) fun b o e => Heap.get?_push_of_some _ e, turn_tuple a _, ⟨_, Heap.get?_push_size _ rfl, rfl, rfl⟩, fun b hb => ?_, q⟩
  have e : b = s1.heap.objs.size := by simpa using hb
  subst e
  exact I1.fpOk (Nat.le_refl _) (I1.hok.fresh (Nat.le_refl _))
theorem range_it {pins : List (Addr × Obj)} {σ : St} {H : Hp} {s : Shared} {R : It → Hp → Prop} {E : Value → Shared → Prop} {lo hi : Int} {t u v : Tok} {tk : Nat} (I : Inv X pins σ H s) (h1 : -(2 ^ 62) ≤ lo) (h2 : lo < 2 ^ 62) (h3 : -(2 ^ 62) ≤ hi) (h4 : hi < 2 ^ 62)
    (q : R (Itr lo (hi - lo).toNat) H) : wpAny (model X.prog X.w) X.A (pyIter (.ref s.heap.objs.size)) (PIE X pins σ tg R) E { s with heap := s.heap.push { cls := .type "range", data := .fields #[.int lo t, .int hi u, .int 1 v] }, toks := tk } := by
  refine wpAny_pyIter_range (IsRange.new ..) (small_one h1 h2 h3 h4) ?_
  have I1 : Inv X pins σ H { s with heap := s.heap.push { cls := .type "range", data := .fields #[.int lo t, .int hi u, .int 1 v] }, toks := tk } := I.kept fun b o e => Heap.get?_push_of_some _ e
  refine ⟨(s.heap.push { cls := .type "range", data := .fields #[.int lo t, .int hi u, .int 1 v] }).objs.size, [(s.heap.push { cls := .type "range", data := .fields #[.int lo t, .int hi u, .int 1 v] }).objs.size], _, _, H, rfl,
    I1.kept (t' := tk) fun b o e => Heap.get?_push_of_some _ e, turn_range _ lo (hi - lo).toNat, ?_, fun b hb => ?_, q⟩
  · have e1 : lo + ((0 : Nat) : Int) * 1 = lo := by simp
    have e2 : (((hi - lo).toNat : Nat) : Int) - ((0 : Nat) : Int) = Builtin.Range.rangeSize lo hi 1 := by rw [rangeSize_one]; split <;> omega
    show IsRangeIter _ _ (lo + ((0 : Nat) : Int) * 1) ((((hi - lo).toNat : Nat) : Int) - ((0 : Nat) : Int)) 1
    rw [e1, e2]
    exact Heap.get?_push_size _ rfl
  · have e : b = (s.heap.push { cls := .type "range", data := .fields #[.int lo t, .int hi u, .int 1 v] }).objs.size := by simpa using hb
    subst e
    exact I1.fpOk (Nat.le_refl _) (I1.hok.fresh (Nat.le_refl _))
noncomputable def iRng1 (ta : TA) : TI := fun σ H R => ta σ H fun vs H1 => ∃ j : Int, vs = [.int j] ∧ -(2 ^ 62) ≤ j ∧ j < 2 ^ 62 ∧ R (Itr 0 j.toNat) H1
theorem pi_range1 {a : Expr} {ta : TA} {p pos : Pos} (hg : Gl X "range") (hm : X.mg "range" = none) (ha : PA X [a] ta) (hs : starEach [a] X.env = [(false, eval a X.env)] := by rfl) : PI X tg (.Call (.Name "range" p) [a] [] pos) (iRng1 ta) := by
  intro pins s σ H R I h
  refine Call_ (ld_blt I hg hm boot_range (PyProof.Rows.callWith_type1 (thn (ha pos pins s σ H _ I h) fun us s1 ⟨vs, H1, I1, r1, q1⟩ => ?_) hs rfl))
  obtain ⟨j, e, q1, q2, q⟩ := q1
  subst e
  cases r1 with
  | cons r rr =>
    cases rr
    obtain ⟨t, rfl⟩ := r
    exact call_range_1 (range_it I1 (by omega) (by omega) q1 q2 (by simpa using q))
noncomputable def tFor (wi : TI) (g : TG) (tb : TS) : TS := fun D σ H => wi σ H fun J H1 => ∃ W : Nat → Nat → St → Hp → Prop, (∃ m, W 0 m σ H1) ∧ ∀ i m σ H, W i m σ H →
  (J.stop i H ∧ D.nx σ H) ∨ (J.go i H ∧ ∃ N : St → Hp → Prop, (∀ σ' H', N σ' H' → ∃ m', m' < m ∧ W (i + 1) m' σ' H') ∧ ∀ x H', J.yld i H x H' → g x σ H' fun σ2 H2 => tb { D with nx := N, ct := N, bk := D.nx } σ2 H2)
noncomputable def pinsAt (fp : List Addr) (h : Heap) : List (Addr × Obj) := fp.filterMap fun b => (h.get? b).map fun o => (b, o)
theorem mem_pinsAt {fp : List Addr} {h : Heap} {b : Addr} {o : Obj} (hb : b ∈ fp) (e : h.get? b = some o) : (b, o) ∈ pinsAt fp h := List.mem_filterMap.mpr ⟨b, hb, by rw [e]; rfl⟩
theorem of_pinsAt {fp : List Addr} {h : Heap} {p : Addr × Obj} (hp : p ∈ pinsAt fp h) : p.1 ∈ fp ∧ h.get? p.1 = some p.2 := by
  obtain ⟨b, hb, e⟩ := List.mem_filterMap.mp hp
  cases q : h.get? b with
  | none => rw [q] at e; cases e
  | some o =>
    rw [q] at e
    have e' : (b, o) = p := Option.some.inj e
    subst e'
    exact ⟨hb, q⟩
theorem Inv.pinned {pins : List (Addr × Obj)} {σ : St} {H : Hp} {s : Shared} {fp : List Addr} (I : Inv X pins σ H s) (hf : ∀ b ∈ fp, FpOk X pins H b) (ho : ∀ b ∈ fp, ∃ o, s.heap.get? b = some o ∧ ∀ v, o.data ≠ .cell v) : Inv X (pins ++ pinsAt fp s.heap) σ H s :=
  I.pins_of fun p hp => (List.mem_append.mp hp).elim (fun z => I.pin p (List.mem_append_right _ z)) fun z => by
    obtain ⟨hb, e⟩ := of_pinsAt z
    obtain ⟨f0, f1, f2, _⟩ := hf p.1 hb
    obtain ⟨o, e', d⟩ := ho p.1 hb
    rw [e] at e'; cases e'
    exact ⟨e, f0, f1, f2, d⟩
theorem Inv.unpinned {pins pl : List (Addr × Obj)} {σ : St} {H : Hp} {s : Shared} (I : Inv X (pins ++ pl) σ H s) : Inv X pins σ H s := I.pins_of fun p hp => I.pin p (List.mem_append_right _ (List.mem_append_left _ hp))
theorem ps_for {iter : Expr} {body : List Stmt} {wi : TI} {g : TG} {tb : TS} {pos : Pos} (hp : PassesOwn (model X.prog X.w) X.A X.env X.xe) (hc : X.calm = true) (hi : PI X tg iter wi) (hg : PG X tg g) (hb : PSs X body tb)
    (hs : ∀ x, foldedSetIterable iter X.env x = pure x := by intro _; rfl) : PS X (.For tg iter body [] pos) (tFor wi g tb) := by
  intro pins s σ H D I h
  refine wpAny_For (thn (hi pins s σ H _ I h) fun v s1 h1 => thn h1 fun itv s2 h2 => ?_) hs
  obtain ⟨it, fp, tn, J, H2, e, I2, T, st2, f2, W, ⟨m0, w0⟩, turn⟩ := h2
  subst e
  -- what stays true of the iterator's objects through the loop
  have stat : ∀ {H' : Hp}, (∀ b ∈ fp, H' b = none) → ∀ b ∈ fp, FpOk X pins H' b := fun hn b hb => ⟨hn b hb, (f2 b hb).2⟩
  refine codeAny_forLoop_any (fun n s' => ∃ i σ' H', Inv X pins σ' H' s' ∧ tn i s'.heap ∧ (∀ b ∈ fp, H' b = none) ∧ W i n σ' H') ?_ m0 ⟨0, σ, H2, I2, st2, fun b hb => (f2 b hb).1, w0⟩
  rintro n s3 ⟨i, σ3, H3, I3, st3, fr3, w3⟩
  rcases turn i n σ3 H3 w3 with ⟨stop, qn⟩ | ⟨go, N, hN, step⟩
  · refine wpAny_passesOwn hp (thn (T.done X rfl rfl rfl hc i pins s3 σ3 H3 X.xe I3 (stat fr3) st3 stop) fun r s4 ⟨hr, I4⟩ => ?_)
    subst hr
    exact wpAny_execs_nil ⟨σ3, H3, I4, qn⟩
  · refine wpAny_passesOwn hp (thn (T.item X rfl rfl rfl hc i pins s3 σ3 H3 X.xe I3 (stat fr3) st3 go) fun r s4 ⟨u, hr, h4⟩ => ?_)
    subst hr
    refine wpAny_passesOwn hp (thn h4 fun _ s5 ⟨x, H5, I5, r5, y5, st5, fr5⟩ => ?_)
    have I5' := I5.pinned (stat fr5) (T.obj _ _ st5)
    refine wpAny_passesOwn hp (thn (hg _ s5 σ3 H5 x u _ I5' r5 (step x H5 y5)) fun _ s6 ⟨σ6, H6, I6, q6⟩ => ?_)
    refine wpAny_passesOwn hp (thn (hb _ s6 σ6 H6 _ I6 q6) fun f s7 q7 => ?_)
    have again : ∀ {σ7 : St} {H7 : Hp}, Inv X (pins ++ pinsAt fp s5.heap) σ7 H7 s7 → N σ7 H7 → ∃ m, m < n ∧ ∃ i σ' H', Inv X pins σ' H' s7 ∧ tn i s7.heap ∧ (∀ b ∈ fp, H' b = none) ∧ W i m σ' H' := fun {σ7 H7} I7 n7 => by
      obtain ⟨m', hm, w7⟩ := hN σ7 H7 n7
      refine ⟨m', hm, i + 1, σ7, H7, I7.unpinned, T.keep _ _ _ st5 fun b hb o e => (I7.pin (b, o) (List.mem_append_right _ (List.mem_append_right _ (mem_pinsAt hb e)))).1, fun b hb => ?_, w7⟩
      obtain ⟨o, e, d⟩ := T.obj _ _ st5 b hb
      exact (I7.pin (b, o) (List.mem_append_right _ (List.mem_append_right _ (mem_pinsAt hb e)))).2.1
    cases f with
    | next => obtain ⟨σ7, H7, I7, n7⟩ := q7; exact again I7 n7
    | cont => obtain ⟨σ7, H7, I7, n7⟩ := q7; exact again I7 n7
    | brk => obtain ⟨σ7, H7, I7, q7⟩ := q7; exact ⟨σ7, H7, I7.unpinned, q7⟩
    | ret v => obtain ⟨x7, σ7, H7, I7, r7, q7⟩ := q7; exact ⟨x7, σ7, H7, I7.unpinned, r7, q7⟩
end
end L2
namespace L2
open PySem PySem.Spec PyProof.Rows
noncomputable abbrev R2 := V → V → Hp → VK → Prop
noncomputable def OpR (X : Cx) (f : Value → Value → Sem Value) (r : R2) : Prop :=
  ∀ (pins : List (Addr × Obj)) (s : Shared) (σ : St) (H : Hp) (x y : V) (v u : Value) (Q : VK), Inv X pins σ H s → RelV x v → RelV y u → r x y H Q →
    wpAny (model X.prog X.w) X.A (f v u) (EP X pins σ Q) X.xe s
noncomputable def UnR (X : Cx) (f : Value → Sem Value) (r : V → Hp → VK → Prop) : Prop :=
  ∀ (pins : List (Addr × Obj)) (s : Shared) (σ : St) (H : Hp) (x : V) (v : Value) (Q : VK), Inv X pins σ H s → RelV x v → r x H Q →
    wpAny (model X.prog X.w) X.A (f v) (EP X pins σ Q) X.xe s
noncomputable def CallR (X : Cx) (f : Value) (r : List V → Hp → VK → Prop) : Prop :=
  ∀ (pins : List (Addr × Obj)) (s : Shared) (σ : St) (H : Hp) (xs : List V) (us : List Value) (Q : VK), Inv X pins σ H s → Vals xs us → r xs H Q →
    wpAny (model X.prog X.w) X.A (call f us) (EP X pins σ Q) X.xe s
noncomputable def tOp (r : R2) (ta tb : TE) : TE := fun σ H Q => ta σ H fun x H1 => tb σ H1 fun y H2 => r x y H2 Q
noncomputable def tUn (r : V → Hp → VK → Prop) (ta : TE) : TE := fun σ H Q => ta σ H fun x H1 => r x H1 Q
noncomputable def rI (C : Int → Int → Prop) (g : Int → Int → V) : R2 := fun x y H Q => ∃ i j, x = .int i ∧ y = .int j ∧ C i j ∧ Q (g i j) H
noncomputable def rI0 (g : Int → Int → V) : R2 := fun x y H Q => ∃ i j, x = .int i ∧ y = .int j ∧ Q (g i j) H
noncomputable def rU (g : Int → V) : V → Hp → VK → Prop := fun x H Q => ∃ i, x = .int i ∧ Q (g i) H
section
variable {X : Cx} {a b c : Expr} {ta tb tc : TE} {pos : Pos}
theorem binT (ha : PE X a ta) (hb : PE X b tb) {pins : List (Addr × Obj)} {s : Shared} {σ : St} {H : Hp} {R : V → V → Hp → Prop} (I : Inv X pins σ H s)
    (h : ta σ H fun x H1 => tb σ H1 fun y H2 => R x y H2) {Q : Value → Shared → Prop} {f : Value → Value → Sem Value}
    (hf : ∀ v u s2 x y H2, Inv X pins σ H2 s2 → RelV x v → RelV y u → R x y H2 → wpAny (model X.prog X.w) X.A (f v u) Q X.xe s2) :
    wpAny (model X.prog X.w) X.A (eval a X.env) (fun v s₁ => wpAny (model X.prog X.w) X.A (eval b X.env) (fun u s₂ => wpAny (model X.prog X.w) X.A (f v u) Q X.xe s₂) X.xe s₁) X.xe s := by
  refine thn (ha pins s σ H _ I h) fun v s1 ⟨x, H1, I1, r1, q1⟩ => ?_
  refine thn (hb pins s1 σ H1 _ I1 q1) fun u s2 ⟨y, H2, I2, r2, q2⟩ => ?_
  exact hf v u s2 x y H2 I2 r1 r2 q2
theorem pe_op {op : Operator} {r : R2} (ho : OpR X (binaryOp op) r) (ha : PE X a ta) (hb : PE X b tb) : PE X (.BinOp a op b pos) (tOp r ta tb) := by
  intro pins s σ H Q I h
  exact wpAny_BinOp (binT ha hb I h fun v u s2 x y H2 I2 rx ry q => ho pins s2 σ H2 x y v u Q I2 rx ry q)
theorem pe_un {op : UnaryOp} {r : V → Hp → VK → Prop} (ho : UnR X (unaryOp op) r) (ha : PE X a ta) : PE X (.UnaryOp op a pos) (tUn r ta) := by
  intro pins s σ H Q I h
  exact UnaryOp_ (thn (ha pins s σ H _ I h) fun v s1 ⟨x, H1, I1, r1, q1⟩ => ho pins s1 σ H1 x v Q I1 r1 q1)
theorem opI {f : Value → Value → Sem Value} {C : Int → Int → Prop} {g : Int → Int → Int}
    (rule : ∀ (i j : Int) (t u : Tok) (s : Shared) (Q : Value → Shared → Prop) (E : Value → Shared → Prop), C i j → Q (.int (g i j) s.toks) { s with toks := s.toks + 1 } → wpAny (model X.prog X.w) X.A (f (.int i t) (.int j u)) Q E s) :
    OpR X f (rI C fun i j => .int (g i j)) := by
  intro pins s σ H x y v u Q I rx ry h
  obtain ⟨i, j, rfl, rfl, hc, q⟩ := h
  obtain ⟨t, rfl⟩ := rx
  obtain ⟨t', rfl⟩ := ry
  exact rule i j t t' s _ _ hc ⟨.int (g i j), H, I.tok _, ⟨_, rfl⟩, q⟩
theorem opI0 {f : Value → Value → Sem Value} {g : Int → Int → Int}
    (rule : ∀ (i j : Int) (t u : Tok) (s : Shared) (Q : Value → Shared → Prop) (E : Value → Shared → Prop), Q (.int (g i j) s.toks) { s with toks := s.toks + 1 } → wpAny (model X.prog X.w) X.A (f (.int i t) (.int j u)) Q E s) :
    OpR X f (rI0 fun i j => .int (g i j)) := by
  intro pins s σ H x y v u Q I rx ry h
  obtain ⟨i, j, rfl, rfl, q⟩ := h
  obtain ⟨t, rfl⟩ := rx
  obtain ⟨t', rfl⟩ := ry
  exact rule i j t t' s _ _ ⟨.int (g i j), H, I.tok _, ⟨_, rfl⟩, q⟩
theorem opB0 {f : Value → Value → Sem Value} {g : Int → Int → Bool}
    (rule : ∀ (i j : Int) (t u : Tok) (s : Shared) (Q : Value → Shared → Prop) (E : Value → Shared → Prop), Q (.bool (g i j)) s → wpAny (model X.prog X.w) X.A (f (.int i t) (.int j u)) Q E s) :
    OpR X f (rI0 fun i j => .bl (g i j)) := by
  intro pins s σ H x y v u Q I rx ry h
  obtain ⟨i, j, rfl, rfl, q⟩ := h
  obtain ⟨t, rfl⟩ := rx
  obtain ⟨t', rfl⟩ := ry
  exact rule i j t t' s _ _ ⟨.bl (g i j), H, I, rfl, q⟩
noncomputable def CDiv (i j : Int) : Prop := 0 < j ∧ j < 1073741824
noncomputable def CPow (i j : Int) : Prop := 0 ≤ j ∧ j ≤ 1000000 ∧ i.natAbs < 2 ^ 64
noncomputable def CMul (i j : Int) : Prop := (-(2 ^ 64) < i ∧ i < 2 ^ 64) ∨ (-(2 ^ 64) < j ∧ j < 2 ^ 64)
theorem CMul.ok {i j : Int} (h : CMul i j) : IntMulOk i j := by
  rcases h with ⟨h1, h2⟩ | ⟨h1, h2⟩
  · exact .of_left (intBits_le_64 h1 h2)
  · exact .of_right (intBits_le_64 h1 h2)
theorem op_add : OpR X (binaryOp .Add) (rI0 fun i j => .int (i + j)) := opI0 fun _ _ _ _ _ _ _ q => add_int q
theorem op_sub : OpR X (binaryOp .Sub) (rI0 fun i j => .int (i - j)) := opI0 fun _ _ _ _ _ _ _ q => sub_int q
theorem op_fdiv : OpR X (binaryOp .FloorDiv) (rI CDiv fun i j => .int (i / j)) := opI fun i j _ _ _ _ _ hc q => by
  have h1 : (0 : Int) < j := hc.1
  have h2 : j < 1073741824 := hc.2
  exact floordiv_int (by omega) (by rw [Int.fdiv_eq_ediv_of_nonneg i (by omega)]; exact q) (.inl (PyProof.noPylong_small (by omega)))
theorem op_mod : OpR X (binaryOp .Mod) (rI (fun _ j => 0 < j) fun i j => .int (i % j)) := opI fun i j _ _ _ _ _ hc q => by
  have h1 : (0 : Int) < j := hc
  exact mod_int' (by omega) (by rw [Int.fmod_eq_emod_of_nonneg i (by omega)]; exact q)
theorem op_pow : OpR X (binaryOp .Pow) (rI CPow fun i j => .int (i ^ j.toNat)) := opI fun _ _ _ _ _ _ _ hc q => pow_int_small hc.1 hc.2.1 hc.2.2 q
theorem op_shl : OpR X (binaryOp .LShift) (rI CPow fun i j => .int (i * 2 ^ j.toNat)) := opI fun _ _ _ _ _ _ _ hc q => lshift_int_small hc.1 hc.2.1 hc.2.2 q
theorem op_and : OpR X (binaryOp .BitAnd) (rI0 fun i j => .int (Builtin.bitAnd i j)) := opI0 fun _ _ _ _ _ _ _ q => and_int q
theorem op_or : OpR X (binaryOp .BitOr) (rI0 fun i j => .int (Builtin.bitOr i j)) := opI0 fun _ _ _ _ _ _ _ q => or_int q
theorem op_xor : OpR X (binaryOp .BitXor) (rI0 fun i j => .int (Builtin.bitXor i j)) := opI0 fun _ _ _ _ _ _ _ q => xor_int q
theorem unI {f : Value → Sem Value} {g : Int → Int}
    (rule : ∀ (i : Int) (t : Tok) (s : Shared) (Q : Value → Shared → Prop) (E : Value → Shared → Prop), Q (.int (g i) s.toks) { s with toks := s.toks + 1 } → wpAny (model X.prog X.w) X.A (f (.int i t)) Q E s) :
    UnR X f (rU fun i => .int (g i)) := by
  intro pins s σ H x v Q I rx h
  obtain ⟨i, rfl, q⟩ := h
  obtain ⟨t, rfl⟩ := rx
  exact rule i t s _ _ ⟨.int (g i), H, I.tok _, ⟨_, rfl⟩, q⟩
theorem un_neg : UnR X (unaryOp .USub) (rU fun i => .int (-i)) := unI fun _ _ _ _ _ q => neg_int q
end
section
variable {X : Cx} {a b c : Expr} {ta tb tc : TE} {pos : Pos}
theorem fin_bl {pins : List (Addr × Obj)} {σ : St} {H : Hp} {s : Shared} {Q : VK} {k k' : Bool} (I : Inv X pins σ H s) (q : Q (.bl k) H) (e : k = k') : EP X pins σ Q (.bool k') s := by
  subst e
  exact ⟨.bl k, H, I, rfl, q⟩
theorem op_lt : OpR X (compareOp .Lt) (rI0 fun i j => .bl (decide (i < j))) := opB0 fun _ _ _ _ _ _ _ q => lt_int q
theorem op_le : OpR X (compareOp .LtE) (rI0 fun i j => .bl (decide (i ≤ j))) := opB0 fun _ _ _ _ _ _ _ q => le_int q
theorem op_gt : OpR X (compareOp .Gt) (rI0 fun i j => .bl (decide (j < i))) := opB0 fun _ _ _ _ _ _ _ q => gt_int q
theorem op_isN : OpR X (compareOp .Is) (fun x y H Q => y = .non ∧ Q (.bl (decide (x = .non))) H) := by
  intro pins s σ H x y v u Q I rx ry h
  obtain ⟨rfl, q⟩ := h
  cases ry
  refine is_none_gen (fin_bl I q ?_)
  cases x <;> first
    | (cases rx; rfl)
    | (obtain ⟨t, rfl⟩ := rx; rfl)
theorem op_notN : OpR X (compareOp .IsNot) (fun x y H Q => y = .non ∧ Q (.bl (!decide (x = .non))) H) := by
  intro pins s σ H x y v u Q I rx ry h
  obtain ⟨rfl, q⟩ := h
  cases ry
  refine isnot_none_gen (fin_bl I q ?_)
  cases x <;> first
    | (cases rx; rfl)
    | (obtain ⟨t, rfl⟩ := rx; rfl)
theorem OpR.or {f : Value → Value → Sem Value} {r r' : R2} (h : OpR X f r) (h' : OpR X f r') : OpR X f (fun x y H Q => r x y H Q ∨ r' x y H Q) := by
  intro pins s σ H x y v u Q I rx ry q
  rcases q with q | q
  · exact h pins s σ H x y v u Q I rx ry q
  · exact h' pins s σ H x y v u Q I rx ry q
theorem nomark (b : Expr) {op : CmpOp} (h : op ≠ .In := by decide) (h2 : op ≠ .NotIn := by decide) : behindInMarks op b = false := by
  have e1 : (op == CmpOp.In) = false := by cases op <;> first | rfl | exact absurd rfl h
  have e2 : (op == CmpOp.NotIn) = false := by cases op <;> first | rfl | exact absurd rfl h2
  cases b <;> simp [behindInMarks, e1, e2]
theorem pe_cmpR {op : CmpOp} {r : R2} (ho : OpR X (compareOp op) r) (ha : PE X a ta) (hb : PE X b tb) (hm : behindInMarks op b = false) : PE X (.Compare a [op] [b] pos) (tOp r ta tb) := by
  intro pins s σ H Q I h
  exact wpAny_Compare1 (binT ha hb I h fun v u s2 x y H2 I2 rx ry q => ho pins s2 σ H2 x y v u Q I2 rx ry q) hm
noncomputable def tTest (t : TE) : TT := fun σ H Q => t σ H fun x H' => ∃ k, x = .bl k ∧ Q k H'
theorem pt_cmpR {op : CmpOp} {r : R2} (ho : OpR X (compareOp op) r) (ha : PE X a ta) (hb : PE X b tb) (hm : behindInMarks op b = false) : PT X (.Compare a [op] [b] pos) (tTest (tOp r ta tb)) := by
  intro pins s σ H Q I h
  refine wpAny_isTrue_Compare1 (thn (ha pins s σ H _ I h) fun v s1 ⟨x, H1, I1, r1, q1⟩ => thn (hb pins s1 σ H1 _ I1 q1) fun u s2 ⟨y, H2, I2, r2, q2⟩ =>
    thn (ho pins s2 σ H2 x y v u _ I2 r1 r2 q2) fun c s3 ⟨z, H3, I3, r3, k, e, q3⟩ => ?_) hm
  subst e
  cases r3
  exact wpAny_truthy_bool ⟨H3, I3, q3⟩
theorem line63 : (sizeLine : Nat) < 2 ^ 63 := by rw [sizeLine_eq]; decide
theorem op_add_str : OpR X (binaryOp .Add) (fun x y H Q => ∃ i j, x = .str i ∧ y = .str j ∧ i.length + j.length ≤ sizeLine ∧ Q (.str (i ++ j)) H) := by
  intro pins s σ H x y v u Q I rx ry h
  obtain ⟨i, j, rfl, rfl, hz, q⟩ := h
  obtain ⟨t, rfl⟩ := rx
  obtain ⟨t', rfl⟩ := ry
  exact add_str (fun t' tk => ⟨.str (i ++ j), H, I.tok _, ⟨_, rfl⟩, q⟩) hz
theorem vals1 {x : V} {us : List Value} (r : Vals [x] us) : ∃ u, us = [u] ∧ RelV x u := by
  cases r with
  | cons r1 r2 => cases r2; exact ⟨_, rfl, r1⟩
theorem vals2 {x y : V} {us : List Value} (r : Vals [x, y] us) : ∃ u w', us = [u, w'] ∧ RelV x u ∧ RelV y w' := by
  cases r with
  | cons r1 r2 =>
    cases r2 with
    | cons r3 r4 => cases r4; exact ⟨_, _, rfl, r1, r3⟩
theorem call_max2 (hc : X.calm = true) : CallR X (.builtin "max") (fun xs H Q => ∃ i j, xs = [.int i, .int j] ∧ Q (.int (if j > i then j else i)) H) := by
  intro pins s σ H xs us Q I r h
  obtain ⟨i, j, rfl, q⟩ := h
  obtain ⟨u, w', rfl, ⟨t, rfl⟩, ⟨t', rfl⟩⟩ := vals2 r
  refine max_two_ints (I.ok.hd hc) fun h' tk k => ⟨_, H, I.kept k, ?_, q⟩
  by_cases hj : j > i
  · rw [if_pos hj, if_pos hj]; exact ⟨_, rfl⟩
  · rw [if_neg hj, if_neg hj]; exact ⟨_, rfl⟩
theorem call_int1 : CallR X (.type "int") (fun xs H Q => (∃ i, xs = [.int i] ∧ Q (.int i) H) ∨ ∃ k, xs = [.bl k] ∧ Q (.int (if k then 1 else 0)) H) := by
  intro pins s σ H xs us Q I r h
  rcases h with ⟨i, rfl, q⟩ | ⟨k, rfl, q⟩
  · obtain ⟨u, rfl, t, rfl⟩ := vals1 r
    exact call_int_int ⟨.int i, H, I, ⟨_, rfl⟩, q⟩
  · obtain ⟨u, rfl, r1⟩ := vals1 r
    cases r1
    exact call_int_bool ⟨.int (if k then 1 else 0), H, I.tok _, ⟨_, rfl⟩, q⟩
end
end L2
namespace L2
open PySem PySem.Spec PyProof.Rows
structure ObjM (h : Heap) (x dx C : Addr) (mA : Str → Option Value) : Prop where
  obj : h.get? x = some (PySem.W.instObj C dx)
  ns : h.Ns1 dx mA
  ne : dx ≠ x
theorem lookIn_ns {h : Heap} {dx : Addr} {mA : Str → Option Value} (n : h.Ns1 dx mA) : ∃ od, h.get? dx = some od ∧ ∀ name, PySem.W.lookIn name od = some (mA name) := by
  obtain ⟨o, es, ep, ho, hd, hk, _, hm⟩ := n
  refine ⟨o, ho, fun name => ?_⟩
  have e := hm name
  unfold nsFind findBy at e
  rw [← Array.find?_toList] at e
  unfold PySem.W.lookIn
  rw [hd]
  dsimp only
  split
  · rename_i y q
    rw [q] at e
    exact congrArg some e
  · rename_i q
    rw [q] at e
    have a : es.toList.any (·.refKey) = false := by
      rw [List.any_eq_false]
      intro y hy
      obtain ⟨z, t, hkey⟩ := hk y (Array.mem_toList_iff.mp hy)
      simp [DictEntry.refKey, hkey]
    have a' : ¬ es.toList.any (·.refKey) = true := by rw [a]; exact Bool.false_ne_true
    rw [if_neg a']
    exact congrArg some e
theorem ObjM.look {h : Heap} {x dx C : Addr} {mA : Str → Option Value} (I : ObjM h x dx C mA) : ∃ od, PySem.W.InstAt h x (PySem.W.instObj C dx) C (some od) ∧ ∀ name, PySem.W.lookIn name od = some (mA name) :=
  let ⟨od, ho, hl⟩ := lookIn_ns I.ns
  ⟨od, ⟨I.obj, rfl, rfl, ho⟩, hl⟩
section
variable {prog : Program} {w : World} {A : Around} {E : Value → Shared → Prop} {s : Shared} {K : PySem.W.Frag} {x dx C f : Addr} {mA : Str → Option Value} {name : Str} {v : Value}
end
section
variable {P : Program} {w : World} {H H' : Hp} {h h' : Heap} {a C dx : Addr} {fs fs' : List (Str × V)}
theorem ins_get (hok : HOk P w H h) (e : H a = some (.ins C dx fs)) : ∃ mA, ObjM h a dx C mA ∧ (∀ f, RelO (fs.lookup f) (mA f)) ∧ PySem.Within mA (fs.map (·.1)) ∧ fs.length ≤ 1000 ∧ H dx = some (.own a) := by
  obtain ⟨d, z, ne, ob, mA, n, r, q⟩ := (show ObjOk P w H h a (.ins C dx fs) from hok a _ e)
  exact ⟨mA, ⟨ob, n, ne⟩, r, q, z, d⟩
end
structure Cls (K : PySem.W.Frag) (C : Addr) : Prop where
  pg : PySem.W.plainGet K C Str.empty = true
  hd : PySem.W.hasDictIn K C = true
  po : PySem.W.plainOver K C = true
  sa : PySem.W.findIn K (.ref C) "__setattr__" = some (some (.builtin "object.__setattr__"))
theorem Cls.get {K : PySem.W.Frag} {C : Addr} (c : Cls K C) (f : Str) : PySem.W.plainGet K C f = true := c.pg
structure Con (K : PySem.W.Frag) (C : Addr) (f : Str) (v : V) (u : Value) : Prop where
  at_ : PySem.W.findIn K (.ref C) f = some (some u)
  rel : RelV v u
  get : PySem.W.specialIn K u "__get__" = some none
  cp : PySem.W.copiedNames.contains f = false
structure Meth (K : PySem.W.Frag) (C : Addr) (m : Str) (f : Addr) : Prop where
  at_ : PySem.W.findIn K (.ref C) m = some (some (.ref f))
  fn : PySem.W.isFn K (.ref f) = true
  kp : PySem.W.keepIn K (.ref f) = true
section
variable {X : Cx} {pins : List (Addr × Obj)} {σ : St} {H : Hp} {s : Shared} {a C dx : Addr} {fs : List (Str × V)} {f : Str} {v : V} {A : Around} {E : Value → Shared → Prop}
end
section
variable {X : Cx} {o e value : Expr} {f : Str} {pos pos' tpos : Pos} {ta tv : TE}
end
section
variable {X : Cx} {pins : List (Addr × Obj)} {σ : St} {H : Hp} {s : Shared} {A : Around} {E : Value → Shared → Prop} {Q : Value → Shared → Prop} {c : Value} {b : Bool}
inductive TyOf (K : PySem.W.Frag) (H : Hp) : V → Value → Prop where
  | non : TyOf K H .non (.type "NoneType")
  | bl (x : Bool) : TyOf K H (.bl x) (.type "bool")
  | int (i : Int) : TyOf K H (.int i) (.type "int")
  | str (x : Str) : TyOf K H (.str x) (.type "str")
  | flt (x : UInt64) : TyOf K H (.flt x) (.type "float")
  | lst {a : Addr} {xs : List V} (e : H a = some (.lst xs)) : TyOf K H (.ref a) (.type "list")
  | frz {a : Addr} {o : Obj} {xs : List V} (e : H a = some (.frz o (.lst xs))) : TyOf K H (.ref a) (.type "list")
  | tup {a : Addr} {xs : List V} (e : H a = some (.tup xs)) : TyOf K H (.ref a) (.type "tuple")
  | dK {a : Addr} {kvs : List (Key × V)} (e : H a = some (.dK kvs)) : TyOf K H (.ref a) (.type "dict")
  | dT {a : Addr} {kvs : List (List Key × V)} (e : H a = some (.dT kvs)) : TyOf K H (.ref a) (.type "dict")
  | ins {a C dx : Addr} {fs : List (Str × V)} (e : H a = some (.ins C dx fs)) (cl : Cls K C) (ha : PySem.W.findIn K (.ref C) "__class__" = some (some (.builtin "object.__class__")))
      (hn : PySem.W.specialIn K (.builtin "object.__class__") "__get__" = some (some (.builtin "getset_descriptor.__get__"))) (htk : PySem.W.takesIn K (.builtin "object.__class__") = some true)
      (hm : PySem.W.mroIn K C (.type "object") = some true) : TyOf K H (.ref a) (.ref C)
theorem isinst_ok {x : V} {u t : Value} (I : Inv X pins σ H s) (rx : RelV x u) (ty : TyOf X.K H x t) (e : PySem.W.kitOne X.K t c = some b) (h : ∀ tk, Q (.bool b) { s with toks := tk }) :
    wpAny (model X.prog X.w) A (call (.builtin "isinstance") [u, c]) Q E s := by
  cases ty with
  | non => cases (show u = Value.none from rx); exact PySem.W.kia_one PySem.W.kitx_none I.kIn True.intro e (fun z => nomatch z) h
  | bl y => cases (show u = Value.bool y from rx); exact PySem.W.kia_one PySem.W.kitx_bool I.kIn True.intro e (fun z => nomatch z) h
  | int i => obtain ⟨t, q⟩ := (show ∃ t, u = Value.int i t from rx); cases q; exact PySem.W.kia_one PySem.W.kitx_int I.kIn True.intro e (fun z => nomatch z) h
  | str y => obtain ⟨t, q⟩ := (show ∃ t, u = Value.str y t from rx); cases q; exact PySem.W.kia_one PySem.W.kitx_str I.kIn True.intro e (fun z => nomatch z) h
  | flt y => obtain ⟨t, q⟩ := (show ∃ t, u = Value.float y t from rx); cases q; exact PySem.W.kia_one PySem.W.kitx_float I.kIn True.intro e (fun z => nomatch z) h
  | @lst a xs ea =>
    cases (show u = Value.ref a from rx)
    obtain ⟨_, _, n, _, h1⟩ := (show ObjOk X.prog X.w H s.heap a (.lst xs) from I.hok a _ ea)
    exact PySem.W.kia_one PySem.W.kitx_list I.kIn ⟨_, h1, rfl⟩ e (fun z => nomatch z) h
  | @frz a ob xs ea =>
    cases (show u = Value.ref a from rx)
    obtain ⟨_, _, _, n, _, h1⟩ := (show ObjOk X.prog X.w H s.heap a (.frz ob (.lst xs)) from I.hok a _ ea)
    exact PySem.W.kia_one PySem.W.kitx_list I.kIn ⟨_, h1, rfl⟩ e (fun z => nomatch z) h
  | @tup a xs ea =>
    cases (show u = Value.ref a from rx)
    obtain ⟨_, _, _, p⟩ := (show ObjOk X.prog X.w H s.heap a (.tup xs) from I.hok a _ ea)
    obtain ⟨o, h1, ⟨h2, _⟩, _⟩ := p
    exact PySem.W.kia_one PySem.W.kitx_tuple I.kIn ⟨o, h1, h2⟩ e (fun z => nomatch z) h
  | @dK a kvs ea =>
    cases (show u = Value.ref a from rx)
    obtain ⟨_, _, vs, _, p⟩ := (show ObjOk X.prog X.w H s.heap a (.dK kvs) from I.hok a _ ea)
    obtain ⟨o, es, ep, h1, h2, _⟩ := p
    exact PySem.W.kia_one PySem.W.kitx_dict I.kIn ⟨o, h1, h2.1⟩ e (fun z => nomatch z) h
  | @dT a kvs ea =>
    cases (show u = Value.ref a from rx)
    obtain ⟨_, _, xs, _, o, es, ep, h1, h2, _⟩ := (show ObjOk X.prog X.w H s.heap a (.dT kvs) from I.hok a _ ea)
    exact PySem.W.kia_one PySem.W.kitx_dict I.kIn ⟨o, h1, h2.1⟩ e (fun z => nomatch z) h
  | @ins a C dx fs ea cl ha hn htk hm =>
    cases (show u = Value.ref a from rx)
    obtain ⟨mA, O, _⟩ := ins_get I.hok ea
    obtain ⟨od, J, _⟩ := O.look
    exact PySem.W.kia_one (PySem.W.kitx_own (cl.get _) cl.hd ha hn htk hm) I.kIn J e (fun z => nomatch z) h
end
end L2
namespace L2
open PySem PySem.Spec PyProof.Rows
structure Room (k : Nat) (A : Around) : Prop where
  hd : A.handled = none
  dp : A.depth + 3 * k + 5 < recursionLimit
  un : A.units + 16 * k + 200 < cLine
theorem Room.mono {j k : Nat} {A : Around} (r : Room k A) (h : j ≤ k) : Room j A := ⟨r.hd, by have := r.dp; omega, by have := r.un; omega⟩
theorem Room.deeper {k : Nat} {A : Around} (r : Room (k + 1) A) (env : Env) : Room k (A.deeper env) :=
  ⟨r.hd, by have := r.dp; show A.depth + 1 + 3 * k + 5 < _; omega, by have := r.un; show A.units + 3 + 16 * k + 200 < _; omega⟩
theorem Room.in1 {k : Nat} {A : Around} (r : Room (k + 1) A) : Room k A.in1 :=
  ⟨r.hd, by have := r.dp; show A.depth + 3 * k + 5 < _; omega, by have := r.un; show A.units + 1 + 16 * k + 200 < _; omega⟩
theorem Room.depth {k : Nat} {A : Around} (r : Room k A) : A.depth < recursionLimit := by have := r.dp; omega
theorem Room.units {k : Nat} {A : Around} (r : Room k A) : A.units + 64 < cLine := by have := r.un; omega
noncomputable def tNil : TA := fun _ H Q => Q [] H
noncomputable def tCons (ta : TE) (tr : TA) : TA := fun σ H Q => ta σ H fun x H1 => tr σ H1 fun xs H2 => Q (x :: xs) H2
section
variable {X : Cx} {e : Expr} {es : List Expr} {te : TE} {t : TA} {pos : Pos}
theorem pa_nil : PA X [] tNil := fun _ _ _ _ H Q I h => Calls.spliced_nil ⟨[], H, I, .nil, h⟩
theorem pa_cons (ha : PE X e te) (hr : PA X es t) (hs : starEach (e :: es) X.env = (false, eval e X.env) :: starEach es X.env := by rfl) : PA X (e :: es) (tCons te t) := by
  intro pos pins s σ H Q I h
  rw [hs]
  show wpAny _ _ (spliced ((false, eval e X.env) :: backTo pos (starEach es X.env))) _ _ s
  refine Calls.spliced_cons (thn (ha pins s σ H _ I h) fun u s1 ⟨x, H1, I1, r1, q1⟩ => ?_)
  exact thn (hr pos pins s1 σ H1 _ I1 q1) fun us s2 ⟨xs, H2, I2, r2, q2⟩ => ⟨x :: xs, H2, I2, .cons r1 r2, q2⟩
noncomputable def tTup (t : TA) : TE := fun σ H Q => t σ H fun xs H1 => xs.length ≤ sizeLine ∧ ∀ p, H1 p = none → Q (.ref p) (upd H1 p (.tup xs))
noncomputable def tLst (t : TA) : TE := fun σ H Q => t σ H fun xs H1 => xs.length ≤ sizeLine ∧ ∀ p, H1 p = none → Q (.ref p) (upd H1 p (.lst xs))
theorem pe_tup {x1} (h : PA X es t) : PE X (.Tuple es x1 pos) (tTup t) := by
  intro pins s σ H Q I hq
  refine wpAny_Tuple_spliced (thn (h pos pins s σ H _ I hq) fun us s1 ⟨xs, H1, I1, r, z, q⟩ => ⟨by rw [← r.length]; exact z, ?_⟩)
  have hf : H1 s1.heap.objs.size = none := I1.hok.fresh (Nat.le_refl _)
  refine ⟨.ref s1.heap.objs.size, upd H1 s1.heap.objs.size (.tup xs), I1.laid (t' := s1.toks) (fun b u e => Heap.get?_push_of_some _ e) (Nat.le_refl _) ?_, rfl, q _ hf⟩
  exact ⟨z, us, r, ⟨_, Heap.get?_push_size _ rfl, ⟨rfl, _, rfl⟩, rfl⟩⟩
theorem pe_lst (h : PA X es t) : PE X (.List es pos) (tLst t) := by
  intro pins s σ H Q I hq
  refine wpAny_List_spliced (thn (h pos pins s σ H _ I hq) fun us s1 ⟨xs, H1, I1, r, z, q⟩ => ⟨by rw [← r.length]; exact z, ?_⟩)
  have hf : H1 s1.heap.objs.size = none := I1.hok.fresh (Nat.le_refl _)
  refine ⟨.ref s1.heap.objs.size, upd H1 s1.heap.objs.size (.lst xs), I1.laid (t' := s1.toks) (fun b u e => Heap.get?_push_of_some _ e) (Nat.le_refl _) ?_, rfl, q _ hf⟩
  exact ⟨z, us, 0, r, Heap.get?_push_size _ rfl⟩
end
noncomputable abbrev Sp := List V → Hp → VK → XK → Prop
noncomputable abbrev CXT := List Env → Hp → Shared → XK → Value → Shared → Prop
structure Env0 (P : Program) (w : World) (K : PySem.W.Frag) (mg : Str → Option Value) (base : Heap) (A : Around) (outer : List Env) (s : Shared) (H : Hp) : Prop where
  frames : A.frames = some outer
  mod : Mod K mg base
  bs : ∀ b o, base.get? b = some o → s.heap.get? b = some o ∧ H b = none
  bsz : base.objs.size ≤ s.heap.objs.size
  funs : s.heap.FunFrames base outer
  frf : ∀ b ∈ frs outer, H b = none
  hok : HOk P w H s.heap
  bare : AllBare s.gens
noncomputable def CE (outer : List Env) (P : Program) (w : World) (H : Hp) (s : Shared) (Q : VK) (u : Value) (s' : Shared) : Prop :=
  ∃ v H', s'.os = s.os ∧ AllBare s'.gens ∧ Un (frs outer) [] H H' s.heap s'.heap ∧ HOk P w H' s'.heap ∧ RelV v u ∧ Q v H'
noncomputable def CR (CX : CXT) (outer : List Env) (P : Program) (w : World) (H : Hp) (s : Shared) (Q : VK) (E : XK) (r : Result) (s' : Shared) : Prop :=
  match r with
  | .ok (.ret u) => CE outer P w H s Q u s'
  | .ok _ => False
  | .error e => CX outer H s E e s'
structure FnOk (P : Program) (w : World) (K : PySem.W.Frag) (mg : Str → Option Value) (base : Heap) (CX : CXT) (k : Nat) (f : Addr) (fd : FuncData) (ps : List Str) (sp : Sp) : Prop where
  len : ∀ vs H Q E, sp vs H Q E → vs.length = ps.length
  run : ∀ (A : Around) (outer : List Env) (s : Shared) (H : Hp) (args : Args) (us : List Value) (vs : List V) (Q : VK) (E : XK), Room k A → Env0 P w K mg base A outer s H → BindsTo s fd args (ps.zip us) → Vals vs us → sp vs H Q E →
    codeAny (model P w) A (.call (.ref f) args) (CR CX outer P w H s Q E) s
theorem FnOk.mono {P : Program} {w : World} {K : PySem.W.Frag} {mg : Str → Option Value} {base : Heap} {CX : CXT} {j k : Nat} {f : Addr} {fd : FuncData} {ps : List Str} {sp : Sp} (F : FnOk P w K mg base CX j f fd ps sp) (h : j ≤ k) :
    FnOk P w K mg base CX k f fd ps sp := ⟨F.len, fun A outer s H args us vs Q E hr => F.run A outer s H args us vs Q E (hr.mono h)⟩
theorem FnOk.imp {P : Program} {w : World} {K : PySem.W.Frag} {mg : Str → Option Value} {base : Heap} {CX : CXT} {k : Nat} {f : Addr} {fd : FuncData} {ps : List Str} {sp sp' : Sp} (F : FnOk P w K mg base CX k f fd ps sp)
    (h : ∀ vs H Q E, sp' vs H Q E → sp vs H Q E) : FnOk P w K mg base CX k f fd ps sp' :=
  ⟨fun vs H Q E q => F.len vs H Q E (h _ _ _ _ q), fun A outer s H args us vs Q E hr he hb hv hs => F.run A outer s H args us vs Q E hr he hb hv (h _ _ _ _ hs)⟩
theorem Env0.in1 {P : Program} {w : World} {K : PySem.W.Frag} {mg : Str → Option Value} {base : Heap} {A : Around} {outer : List Env} {s : Shared} {H : Hp} (e : Env0 P w K mg base A outer s H) :
    Env0 P w K mg base A.in1 outer s H := ⟨e.frames, e.mod, e.bs, e.bsz, e.funs, e.frf, e.hok, e.bare⟩
section
variable {X : Cx} {pins : List (Addr × Obj)} {σ : St} {H : Hp} {s s' : Shared}
theorem Inv.env0 (I : Inv X pins σ H s) : Env0 X.prog X.w X.K X.mg X.base X.A X.stack s H :=
  ⟨I.ok.frames, I.ok.mod, I.bs, Nat.le_trans I.ok.bsz I.sz, I.stack, I.stkFree, I.hok, I.bare⟩
theorem Inv.after {Q : VK} {u : Value} (I : Inv X pins σ H s) (h : CE X.stack X.prog X.w H s Q u s') : EP X pins σ Q u s' := by
  obtain ⟨v, H', os, bare, un, hok, r, q⟩ := h
  obtain ⟨hh, g, d, t, os'⟩ := s'
  obtain rfl : os' = s.os := os
  exact ⟨v, H', I.call (h' := hh) (g' := g) (d' := d) (t' := t) (ch := []) un hok bare (fun b z => absurd z (by simp)), r, q⟩
end
noncomputable def tCall (sp : Sp) (dvs : List V) (E : XK) (t : TA) : TE := fun σ H Q => t σ H fun vs H1 => sp (vs ++ dvs) H1 Q E
noncomputable def Binds (K : PySem.W.Frag) (fd : FuncData) (ps : List Str) (ds : List Value) : Prop :=
  ∀ (s : Shared) (us : List Value), K.In s.heap → (us ++ ds).length = ps.length → BindsTo s fd ⟨us, []⟩ (ps.zip (us ++ ds))
theorem Binds.all {K : PySem.W.Frag} {fd : FuncData} {ps : List Str} (h : ∀ us : List Value, us.length = ps.length → bindArgs fd ⟨us, []⟩ = pure (ps.zip us)) : Binds K fd ps [] := fun s us _ hl => by
  rw [List.append_nil] at hl ⊢
  exact .of_eq (h us hl)
noncomputable def Passes (CX : CXT) (X : Cx) (E : XK) : Prop := ∀ (pins : List (Addr × Obj)) (σ : St) (H : Hp) (s : Shared) (e : Value) (s' : Shared), Inv X pins σ H s → CX X.stack H s E e s' → X.xe e s'
section
variable {X : Cx} {CX : CXT} {k : Nat} {f C : Addr} {fd : FuncData} {ps : List Str} {sp : Sp} {dvs : List V} {ds : List Value} {E : XK} {x m : Str} {p pos apos : Pos} {e o : Expr} {es : List Expr} {ta : TE} {t : TA}
theorem run_fn {pins : List (Addr × Obj)} {σ : St} {H : Hp} {s : Shared} {Q : VK} {us : List Value} {vs : List V} (F : FnOk X.prog X.w X.K X.mg X.base CX k f fd ps sp) (hr : Room k X.A) (hb : Binds X.K fd ps ds) (hd : Vals dvs ds) (hx : Passes CX X E)
    (I : Inv X pins σ H s) (r : Vals vs us) (h : sp (vs ++ dvs) H Q E) : wpAny (model X.prog X.w) X.A (call (.ref f) us) (EP X pins σ Q) X.xe s := by
  have r2 : Vals (vs ++ dvs) (us ++ ds) := r.append hd
  have hl : (us ++ ds).length = ps.length := by rw [← r2.length]; exact F.len _ _ _ _ h
  refine wpAny_call (codeAny_mono (F.run X.A X.stack s H ⟨us, []⟩ (us ++ ds) (vs ++ dvs) Q E hr I.env0 (hb s us I.kIn hl) r2 h) fun r s' hq => ?_)
  cases r with
  | error e => exact hx pins σ H s e s' I hq
  | ok fl =>
    cases fl with
    | ret u => exact I.after hq
    | next => exact False.elim hq
    | brk => exact False.elim hq
    | cont => exact False.elim hq
theorem pe_call (F : FnOk X.prog X.w X.K X.mg X.base CX k f fd ps sp) (hr : Room k X.A) (hg : Gl X x) (hm : X.mg x = some (.ref f)) (hk : PySem.W.keepIn X.K (.ref f) = true) (hb : Binds X.K fd ps ds) (hd : Vals dvs ds) (hx : Passes CX X E)
    (ha : PA X (e :: es) t) (hdb : (x == ("__debug__" : Str)) = false := by decide) (he : starEach (e :: es) X.env = (false, eval e X.env) :: starEach es X.env := by rfl) (hpl : (backTo pos (starEach es X.env)).any (·.1) = false := by rfl) :
    PE X (.Call (.Name x p) (e :: es) [] pos) (tCall sp dvs E t) := by
  intro pins s σ H Q I h
  refine wpAny_Call_Name_kw (ld_glob I hg hm ?_ hdb)
  refine PySem.W.callWith_K (h₀ := X.base) I.ok.mod.kin hk (thn (ha pos pins s σ H _ I h) fun us s1 ⟨vs, H1, I1, r, q⟩ => ⟨I1.kIn, ?_⟩) he hpl
  exact run_fn F hr hb hd hx I1 r q
structure Mk (K : PySem.W.Frag) (C f : Addr) : Prop where
  makes : PySem.W.makesIn K C = true
  init : PySem.W.findIn K (.ref C) "__init__" = some (some (.ref f))
  fn : PySem.W.isFn K (.ref f) = true
  kp : PySem.W.keepIn K (.ref C) = true
end
noncomputable def PK (X : Cx) (kws : List Keyword) (t : TA) : Prop :=
  ∀ (pos : Pos) (pins : List (Addr × Obj)) (s : Shared) (σ : St) (H : Hp) (Q : List V → Hp → Prop), Inv X pins σ H s → t σ H Q → wpAny (model X.prog X.w) X.A (evalAll ((backToKw pos (keywordEach kws X.env)).map (·.2))) (AP X pins σ Q) X.xe s
section
variable {X : Cx} {CX : CXT} {k : Nat} {f C : Addr} {fd : FuncData} {ps ks : List Str} {sp : Sp} {E : XK} {x m : Str} {p pos apos kpos : Pos} {e o : Expr} {es : List Expr} {kws : List Keyword} {te ta : TE} {t tk : TA} {nm : Option Str}
structure KBinds (K : PySem.W.Frag) (fd : FuncData) (ps ks : List Str) (g : List Value → List Value → List Value) (gV : List V → List V → List V) : Prop where
  to : ∀ (s : Shared) (us ws : List Value), K.In s.heap → (g us ws).length = ps.length → BindsTo s fd ⟨us, ks.zip ws⟩ (ps.zip (g us ws))
  rel : ∀ {vs : List V} {us : List Value} {zs : List V} {ws : List Value}, Vals vs us → Vals zs ws → Vals (gV vs zs) (g us ws)
variable {g : List Value → List Value → List Value} {gV : List V → List V → List V}
end
structure FnScope (N P : List Str) (sc : Scope) : Prop where
  kind : sc.kind = .function
  co : sc.isCoroutine = false
  gen : sc.isGenerator = false
  nd : N.Nodup
  pre : N.take P.length = P
  par : ∀ x ∈ P, sc.names.lookup x = some .local ∨ sc.names.lookup x = some .cell
  nofree : ∀ y ∈ sc.names, y.2 ≠ .free
theorem bindL_out {kindOf : Str → Option NameKind} {x : Str} : ∀ {binds : List (Str × Value)} {m : Str → Option Value}, (∀ v, (x, v) ∉ binds) → bindL kindOf binds m x = m x
  | [], _, _ => rfl
  | (n, v) :: r, m, h => by
    unfold bindL
    rw [bindL_out fun w hw => h w (List.mem_cons_of_mem _ hw)]
    split
    · have : x ≠ n := by rintro rfl; exact h v List.mem_cons_self
      simp [this]
    · rfl
theorem bindC_out {kindOf : Str → Option NameKind} {x : Str} : ∀ {binds : List (Str × Value)} {m : Str → Option Value}, (∀ v, (x, v) ∉ binds) → bindC kindOf binds m x = m x
  | [], _, _ => rfl
  | (n, v) :: r, m, h => by
    unfold bindC
    rw [bindC_out fun w hw => h w (List.mem_cons_of_mem _ hw)]
    split
    · rfl
    · have : x ≠ n := by rintro rfl; exact h v List.mem_cons_self
      simp [this]
theorem bindL_get {kindOf : Str → Option NameKind} {x : Str} {v : Value} : ∀ {P : List Str} {vs : List Value} {i : Nat} {m : Str → Option Value}, P.Nodup → P[i]? = some x → vs[i]? = some v → kindOf x = some .local →
    bindL kindOf (P.zip vs) m x = some v
  | [], _, _, _, _, h, _, _ => by simp at h
  | _ :: _, [], _, _, _, _, h, _ => by simp at h
  | p :: P, w :: vs, 0, m, nd, h1, h2, hk => by
    simp at h1 h2; subst h1; subst h2
    show bindL kindOf ((p, w) :: P.zip vs) m p = _
    unfold bindL
    rw [bindL_out fun v hv => (List.nodup_cons.mp nd).1 (List.of_mem_zip hv).1, if_pos hk]
    simp
  | p :: P, w :: vs, i + 1, m, nd, h1, h2, hk => by
    show bindL kindOf ((p, w) :: P.zip vs) m x = _
    unfold bindL
    exact bindL_get (i := i) (List.nodup_cons.mp nd).2 (by simpa using h1) (by simpa using h2) hk
theorem bindC_get {kindOf : Str → Option NameKind} {x : Str} {v : Value} : ∀ {P : List Str} {vs : List Value} {i : Nat} {m : Str → Option Value}, P.Nodup → P[i]? = some x → vs[i]? = some v → kindOf x ≠ some .local →
    bindC kindOf (P.zip vs) m x = some v
  | [], _, _, _, _, h, _, _ => by simp at h
  | _ :: _, [], _, _, _, _, h, _ => by simp at h
  | p :: P, w :: vs, 0, m, nd, h1, h2, hk => by
    simp at h1 h2; subst h1; subst h2
    show bindC kindOf ((p, w) :: P.zip vs) m p = _
    unfold bindC
    rw [bindC_out fun v hv => (List.nodup_cons.mp nd).1 (List.of_mem_zip hv).1, if_neg hk]
    simp
  | p :: P, w :: vs, i + 1, m, nd, h1, h2, hk => by
    show bindC kindOf ((p, w) :: P.zip vs) m x = _
    unfold bindC
    exact bindC_get (i := i) (List.nodup_cons.mp nd).2 (by simpa using h1) (by simpa using h2) hk
noncomputable def start (N : List Str) (vs : List V) : St := vs.map some ++ List.replicate (N.length - vs.length) none
noncomputable def cxOf (CX : CXT) (P : Program) (w : World) (K : PySem.W.Frag) (mg : Str → Option Value) (base : Heap) (N : List Str) (qual : Str) (scope : Scope) (f : Addr) (cd : Value) (A : Around) (outer : List Env) (s : Shared) (H : Hp) (E : XK) : Cx where
  prog := P
  w := w
  K := K
  mg := mg
  base := base
  A := A.deeper (envOfC qual scope s.heap.objs.size f cd)
  N := N
  s₀ := s
  H₀ := H
  env := envOfC qual scope s.heap.objs.size f cd
  outer := outer
  stack := envOfC qual scope s.heap.objs.size f cd :: outer
  ex := []
  calm := true
  fn := fun _ => true
  pn := []
  xe := fun e s' => wpAny (model P w) (A.deeper (envOfC qual scope s.heap.objs.size f cd)) (leaving (envOfC qual scope s.heap.objs.size f cd) e) (fun _ s'' => CX outer H s E e s'') (fun e' s'' => CX outer H s E e' s'') s'
theorem cell_has {sc : Scope} {n : Nat} {x : Str} (h : sc.names.lookup x = some .cell) : ∃ c, (cellsFrom n sc.names []).lookup x = some c := by
  have q := PySem.W.cellsFrom_some sc.names n [] (.inl h)
  exact Option.isSome_iff_exists.mp q
theorem inv_start {CX : CXT} {P : Program} {w : World} {K : PySem.W.Frag} {mg : Str → Option Value} {base : Heap} {N ps : List Str} {qual : Str} {scope : Scope} {f : Addr} {cd : Value} {A : Around} {outer : List Env} {s s1 : Shared} {H : Hp} {E : XK} {us : List Value} {vs : List V}
    (S : FnScope N ps scope) (hd : A.handled = none) (e0 : Env0 P w K mg base A outer s H) (hl : vs.length = ps.length) (r : Vals vs us)
    (x : InCallC s s.heap.objs.size (bindL (envOfC qual scope s.heap.objs.size f cd).kindOf (ps.zip us) fun _ => none) (cellsFrom (s.heap.objs.size + 1) scope.names []) (bindC (envOfC qual scope s.heap.objs.size f cd).kindOf (ps.zip us) fun _ => none) s1) :
    Inv (cxOf CX P w K mg base N qual scope f cd A outer s H E) [] (start N vs) H s1 := by
  have hpl : ps.length ≤ N.length := by have := congrArg List.length S.pre; rw [List.length_take] at this; omega
  obtain ⟨h1, tk, rfl, hk⟩ := x.done
  have noA : ∀ b : Addr, b ∉ (cxOf CX P w K mg base N qual scope f cd A outer s H E).ex := fun b z => absurd (show b ∈ ([] : List Addr) from z) (by simp)
  refine ⟨⟨e0.mod, S.kind, rfl, rfl, Nat.le_refl _, fun y z c h1 h2 => ?_, fun y hy => ?_, fun y c _ h => ?_, fun _ => hd, Around.frames_deeper e0.frames, .inr ⟨rfl, rfl⟩, fun b z => absurd z (noA b), e0.bs, e0.bsz, fun b _ _ => noA b, fun b z => absurd z (noA b), e0.funs, e0.frf⟩,
    rfl, e0.bare, Un.kept hk, ⟨_, x.toInCall.ns, fun i y v h1 h2 h3 => ?_⟩, fun y c h => ⟨_, x.cell y c h⟩, e0.hok.fresh (Nat.le_refl _), fun y c h => ?_, fun p hp => absurd (show p ∈ ([] : List (Addr × Obj)) from hp) (by simp), e0.hok.kept hk, ?_⟩
  · exact name_of_addr x.apart (PySem.mem_of_lookup h1) (PySem.mem_of_lookup h2)
  · have hy : scope.names.lookup y = some .cell ∨ scope.names.lookup y = some .free := hy
    rcases hy with hy | hy
    · exact cell_has hy
    · exact absurd rfl (S.nofree _ (PySem.mem_of_lookup hy))
  · exact Nat.le_of_lt (x.above y c (PySem.mem_of_lookup h))
  · have hi : i < vs.length := by
      unfold start at h2
      by_cases hi : i < vs.length
      · exact hi
      · rw [List.getElem?_append_right (by simpa using hi)] at h2
        rw [List.getElem?_replicate] at h2
        split at h2 <;> cases h2
    have ha : vs[i]? = some v := by
      unfold start at h2
      rw [List.getElem?_append_left (by simpa using hi), List.getElem?_map] at h2
      cases e : vs[i]? with
      | none => rw [e] at h2; cases h2
      | some a => rw [e] at h2; cases h2; rfl
    obtain ⟨u, hu, rv⟩ := r.get ha
    have hp : ps[i]? = some y := by
      rw [← S.pre, List.getElem?_take_of_lt (by omega)]; exact h1
    have ndP : ps.Nodup := by rw [← S.pre]; exact S.nd.sublist (List.take_sublist _ _)
    refine ⟨u, rv, ?_⟩
    rcases S.par y (List.mem_of_getElem? hp) with k | k
    · exact .inl ⟨k, bindL_get ndP hp hu k⟩
    · obtain ⟨c, e⟩ := cell_has (n := s.heap.objs.size + 1) k
      refine .inr ⟨.inl k, c, e, ?_⟩
      have q := x.cell y c e
      rw [bindC_get ndP hp hu (by show scope.names.lookup y ≠ _; rw [k]; decide)] at q
      exact q
  · exact e0.hok.fresh (Nat.le_of_lt (x.above y c (PySem.mem_of_lookup h)))
  · unfold start
    show _ = N.length
    rw [List.length_append, List.length_map, List.length_replicate]
    omega
theorem fn_of {CX : CXT} {P : Program} {w : World} {K : PySem.W.Frag} {mg : Str → Option Value} {base : Heap} {k : Nat} {f : Addr} {name qual : Str} {params : Arguments} {body : List Stmt} {scope : Scope} {dV kV doc pm cdv ct oc : Value} {an od : Option Addr}
    {osl : Array (Option Value)} {N ps : List Str} {sp : Sp} (lk : K.lookup f = some ⟨oc, od, .func (PySem.W.fnOf name qual params body scope dV kV doc pm an cdv ct), osl⟩) (hcd : PySem.W.codeIn K cdv qual = true) (S : FnScope N ps scope)
    (len : ∀ vs H Q E, sp vs H Q E → vs.length = ps.length)
    (hbody : ∀ (A : Around) (outer : List Env) (s : Shared) (H : Hp) (vs : List V) (Q : VK) (E : XK), Room k (A.deeper (envOfC qual scope s.heap.objs.size f cdv)) → sp vs H Q E →
      ∃ t, PSs (cxOf CX P w K mg base N qual scope f cdv A outer s H E) body t ∧ t { nx := fun _ H' => Q .non H', rt := Q } (start N vs) H) :
    FnOk P w K mg base CX (k + 1) f (PySem.W.fnOf name qual params body scope dV kV doc pm an cdv ct) ps sp := by
  refine ⟨len, fun A outer s H args us vs Q E hr e0 hb r hsp => ?_⟩
  have hl := len _ _ _ _ hsp
  have KX : K.In s.heap := e0.mod.kin.keeps fun b o e => (e0.bs b o e).1
  have lim : s.heap.NoLimit := e0.mod.nolimit.keeps fun b o e => (e0.bs b o e).1
  have hkind : ∀ y ∈ ps.zip us, scope.names.lookup y.1 = some .local ∨ (scope.names.lookup y.1 = some .cell ∧ ((cellsFrom (s.heap.objs.size + 1) scope.names []).lookup y.1).isSome = true) := fun ⟨n, v⟩ hy => by
    rcases S.par n (List.of_mem_zip hy).1 with q | q
    · exact .inl q
    · exact .inr ⟨q, PySem.W.cellsFrom_some _ _ _ (.inl q)⟩
  refine codeAny_call_function hr.depth (KX _ _ lk) rfl S.co S.gen rfl (PySem.W.codeRec_of KX hcd) (hb _ _ _ _ ?_)
  refine wpAny_newFunctionEnv_cells S.kind hkind fun env he s1 x => ?_
  subst he
  refine ⟨lim.keeps x.toInCall.keep, codeAny_func ?_⟩
  obtain ⟨t, ht, hq⟩ := hbody A outer s H vs Q E (hr.deeper _) hsp
  have I : Inv (cxOf CX P w K mg base N qual scope f cdv A outer s H E) [] (start N vs) H s1 := inv_start S hr.hd e0 hl r x
  refine wpAny_mono (ht [] s1 (start N vs) H _ I hq) (fun fl s' hs => ?_) fun e s' hs => hs
  have fin : ∀ {σ' : St} {H' : Hp} {v : V} {u : Value}, Inv (cxOf CX P w K mg base N qual scope f cdv A outer s H E) [] σ' H' s' → RelV v u → Q v H' → CE outer P w H s Q u s' :=
    fun {σ' H' v u} J rv q => ⟨v, H', J.os, J.bare, J.base, J.hok, rv, q⟩
  cases fl with
  | ret u =>
    obtain ⟨v, σ', H', J, rv, q⟩ := hs
    exact fin J rv q
  | next =>
    obtain ⟨σ', H', J, q⟩ := hs
    exact fin (v := V.non) (u := Value.none) J rfl q
  | brk =>
    obtain ⟨_, _, _, q⟩ := hs
    exact False.elim q
  | cont =>
    obtain ⟨_, _, _, q⟩ := hs
    exact False.elim q
end L2
namespace L2
open PySem PySem.Spec PyProof.Rows
section
variable {X : Cx} {x : Str} {p pos : Pos} {e : Expr} {es : List Expr} {t : TA} {id T : String} {r : List V → Hp → VK → Prop}
noncomputable def tCB (r : List V → Hp → VK → Prop) (t : TA) : TE := fun σ H Q => t σ H fun vs H1 => r vs H1 Q
theorem pe_callB (hc : CallR X (.builtin id) r) (hg : Gl X x) (hm : X.mg x = none) (hv : bootBuiltins x = some (.builtin id)) (ha : PA X (e :: es) t) (hn : x ≠ "__name__" := by decide) (hdb : (x == ("__debug__" : Str)) = false := by decide)
    (he : starEach (e :: es) X.env = (false, eval e X.env) :: starEach es X.env := by rfl) (hpl : (backTo pos (starEach es X.env)).any (·.1) = false := by rfl) : PE X (.Call (.Name x p) (e :: es) [] pos) (tCB r t) := by
  intro pins s σ H Q I h
  refine wpAny_Call_Name_kw (ld_blt I hg hm hv ?_ hn hdb)
  exact PyProof.Rows.callWith_builtin1 (thn (ha pos pins s σ H _ I h) fun us s1 ⟨vs, H1, I1, r1, q1⟩ => hc pins s1 σ H1 vs us Q I1 r1 q1) he hpl
theorem pe_callTy (hc : CallR X (.type T) r) (hg : Gl X x) (hm : X.mg x = none) (hv : bootBuiltins x = some (.type T)) (ha : PA X (e :: es) t) (hn : x ≠ "__name__" := by decide) (hdb : (x == ("__debug__" : Str)) = false := by decide)
    (he : starEach (e :: es) X.env = (false, eval e X.env) :: starEach es X.env := by rfl) (hpl : (backTo pos (starEach es X.env)).any (·.1) = false := by rfl) : PE X (.Call (.Name x p) (e :: es) [] pos) (tCB r t) := by
  intro pins s σ H Q I h
  refine wpAny_Call_Name_kw (ld_blt I hg hm hv ?_ hn hdb)
  exact PyProof.Rows.callWith_type1 (thn (ha pos pins s σ H _ I h) fun us s1 ⟨vs, H1, I1, r1, q1⟩ => hc pins s1 σ H1 vs us Q I1 r1 q1) he hpl
end
end L2
namespace HT
open PySem PyProof.Rows
section
open PySem.SeqAt
open PySem.AutoSeq1 (wpAny_loadPart')
open PySem.MeetsSeq PySem.MeetsSeq2 PySem.MeetsSeq3
end
section
variable {prog : Program} {w : World} {A : Around} {E : Value → Shared → Prop} {s : Shared}
noncomputable def sIx (n d : Nat) : Option Int → Nat
  | none => d
  | some v => if v < 0 then (v + (n : Int)).toNat else min v.toNat n
theorem sIx_none (n d : Nat) : sIx n d none = d := rfl
theorem sIx_le (n d : Nat) (hd : d ≤ n) (o : Option Int) : sIx n d o ≤ n := by
  cases o with
  | none => exact hd
  | some v =>
    show (if v < 0 then (v + (n : Int)).toNat else min v.toNat n) ≤ n
    by_cases hv : v < 0
    · rw [if_pos hv]; omega
    · rw [if_neg hv]; exact Nat.min_le_right _ _
theorem clip_eq (v : Int) (n d : Nat) : (if v < 0 then max (v + (n : Int)) 0 else min v (n : Int)) = ((sIx n d (some v) : Nat) : Int) := by
  show (if v < 0 then max (v + (n : Int)) 0 else min v (n : Int)) = (((if v < 0 then (v + (n : Int)).toNat else min v.toNat n) : Nat) : Int)
  by_cases hv : v < 0
  · simp only [if_pos hv]; omega
  · simp only [if_neg hv]; omega
theorem adjust_gen (lo hi : Option Int) (n : Nat) : Builtin.Slice.sliceAdjust lo hi 1 (n : Int) = (((sIx n 0 lo : Nat) : Int), ((sIx n n hi : Nat) : Int)) := by
  have h1 : ¬ ((1 : Int) < 0) := by omega
  unfold Builtin.Slice.sliceAdjust
  simp only [h1, if_false]
  refine Prod.ext ?_ ?_
  · cases lo with
    | none => rfl
    | some v => exact clip_eq v n 0
  · cases hi with
    | none => rfl
    | some v => exact clip_eq v n n
theorem places_gen (i j : Nat) : Builtin.Slice.slicePlaces (i : Int) (j : Int) 1 = j - i := by
  unfold Builtin.Slice.slicePlaces
  have h1 : (1 : Int) > 0 := by omega
  simp only [h1, if_true, Int.ediv_one]
  split <;> omega
theorem slicePart_ {v : Value} {o : Option Int} {Q : Option Int → Shared → Prop} (p : IsPart v o) (h : Q o s) : wpAny (model prog w) A (Builtin.Slice.slicePartIndex v) Q E s := by
  cases p with
  | none => exact slicePart_none h
  | int i t => exact slicePart_int h
theorem sliceApplied_gen {sl : Addr} {vl vu : Value} {lo hi : Option Int} {n : Nat} {Q : Int × Int × Nat → Shared → Prop} (hs : s.heap.IsSliceOf sl vl vu .none) (pl : IsPart vl lo) (pu : IsPart vu hi)
    (h : Q (((sIx n 0 lo : Nat) : Int), 1, sIx n n hi - sIx n 0 lo) s) : wpAny (model prog w) A (Builtin.Slice.sliceApplied (.ref sl) (pure (n : Int))) Q E s := by
  obtain ⟨os, hos, hcs, hds⟩ := id hs
  unfold Builtin.Slice.sliceApplied Builtin.Slice.sliceFields
  refine wpAny_bind (wpAny_bind (wpAny_field hos hds (x := vl) rfl (wpAny_bind (wpAny_field hos hds (x := vu) rfl (wpAny_bind (wpAny_field hos hds (x := .none) rfl (wpAny_pure ?_)))))))
  refine wpAny_bind (slicePart_none ?_)
  show wpAny _ _ (if ((1 : Int) == 0) = true then _ else _) _ _ s
  rw [if_neg (by decide)]
  refine wpAny_bind (slicePart_ pl (wpAny_bind (slicePart_ pu (wpAny_bind (wpAny_pure ?_)))))
  show wpAny _ _ (match Builtin.Slice.sliceAdjust lo hi 1 (n : Int) with | (lo, hi) => pure (lo, (1 : Int), Builtin.Slice.slicePlaces lo hi 1)) _ _ s
  rw [adjust_gen lo hi n]
  show wpAny _ _ (pure (((sIx n 0 lo : Nat) : Int), (1 : Int), Builtin.Slice.slicePlaces ((sIx n 0 lo : Nat) : Int) ((sIx n n hi : Nat) : Int) 1)) _ _ s
  rw [places_gen]
  exact wpAny_pure h
theorem pick_gen (xs : Array Value) (i k : Nat) : ((List.range k).filterMap fun (m : Nat) => xs[((i : Int) + (m : Int) * 1).toNat]?).toArray = ((xs.toList.drop i).take k).toArray := by
  have e : (fun (m : Nat) => xs[((i : Int) + (m : Int) * 1).toNat]?) = fun m => xs[i + m]? := by
    funext m
    have : ((i : Int) + (m : Int) * 1).toNat = i + m := by omega
    rw [this]
  rw [e]
  have := pick_run xs i k
  rw [List.filterMap_map] at this
  have e2 : ((fun x => xs[x]?) ∘ fun x => i + x) = fun m => xs[i + m]? := rfl
  rw [e2] at this
  rw [this]
theorem getItem_tuple_cut {t sl : Addr} {items : Array Value} {vl vu : Value} {lo hi : Option Int} {Q : Value → Shared → Prop} (ht : IsTup s.heap t items) (hs : s.heap.IsSliceOf sl vl vu .none) (pl : IsPart vl lo) (pu : IsPart vu hi)
    (hw : ¬ (sIx items.size 0 lo = 0 ∧ sIx items.size items.size hi = items.size))
    (h : Q (.ref s.heap.objs.size) { s with heap := s.heap.push { cls := .type "tuple", data := .seq ((items.toList.drop (sIx items.size 0 lo)).take (sIx items.size items.size hi - sIx items.size 0 lo)).toArray } })
    (hsz : items.size ≤ sizeLine) : wpAny (model prog w) A (getItem (.ref t) (.ref sl)) Q E s := by
  have htake : sizeOk (.seq ((items.toList.drop (sIx items.size 0 lo)).take (sIx items.size items.size hi - sIx items.size 0 lo)).toArray) := by
    show ((items.toList.drop (sIx items.size 0 lo)).take (sIx items.size items.size hi - sIx items.size 0 lo)).toArray.size ≤ sizeLine
    rw [List.size_toArray, List.length_take, List.length_drop, Array.length_toList]
    omega
  have hj : sIx items.size items.size hi ≤ items.size := sIx_le _ _ (Nat.le_refl _) hi
  obtain ⟨os, hos, hcs, hds⟩ := id hs
  have hTs : s.TypeIs (.ref sl) "slice" := ⟨os, hos, hcs⟩
  unfold getItem
  try with_reducible refine wpAny_holding ?_
  first | refine wpAny_bind (wpAny_pure ?_) | skip
  refine wpAny_bind (wpAny_sequenceKey ht.typeIs (by decide) ?_)
  refine wpAny_bind (wpAny_callSpecial?_slot (name := Str.ofString "__getitem__") ht.typeIs PyProof.Rows.slot_tuple_getitem
    (wpAny_call_entry PyProof.Rows.slot_tuple_getitem ht.typeIs entry_tuple_getitem ?_ (args_tuple_getitem _ _)))
  show wpAny _ _ (Builtin.Tuple.tupleItemsOf (.ref t) >>= _) _ _ s
  refine wpAny_bind (tupleItemsOf_ ht ?_)
  refine wpAny_bind (wpAny_typeOf hTs ?_)
  rw [if_pos (by decide)]
  refine wpAny_bind (sliceApplied_gen hs pl pu ?_)
  have hno : ¬ ((((sIx items.size 0 lo : Nat) : Int) == 0 && (1 : Int) == 1 && (sIx items.size items.size hi - sIx items.size 0 lo) == items.size) = true) := by
    intro q
    rw [Bool.and_eq_true, Bool.and_eq_true] at q
    have q1 : ((sIx items.size 0 lo : Nat) : Int) = 0 := eq_of_beq q.1.1
    have q2 : sIx items.size items.size hi - sIx items.size 0 lo = items.size := eq_of_beq q.2
    exact hw ⟨by omega, by omega⟩
  show wpAny _ _ (if (((sIx items.size 0 lo : Nat) : Int) == 0 && (1 : Int) == 1 && (sIx items.size items.size hi - sIx items.size 0 lo) == items.size) = true then _ else _) _ _ s
  rw [if_neg hno, pick_gen]
  first
    | exact wpAny_bind (m := Builtin.Tuple.tupleExact _) (wpAny_newObj_type (wpAny_pure ⟨_, rfl, wpAny_pure h⟩) htake)
    | exact wpAny_bind (m := Builtin.Tuple.tupleExact _) (wpAny_newObj_type (wpAny_bind (wpAny_pure (wpAny_pure ⟨_, rfl, wpAny_pure h⟩))) htake)
    | exact wpAny_bind (wpAny_bind (m := Builtin.Tuple.tupleExact _) (wpAny_newObj_type (wpAny_pure (wpAny_pure ⟨_, rfl, wpAny_pure h⟩)) htake))
    | exact wpAny_bind (wpAny_bind (m := Builtin.Tuple.tupleExact _) (wpAny_newObj_type (wpAny_pure ⟨_, rfl, wpAny_pure h⟩) htake))
end
end HT
namespace L2
open PySem PySem.Spec PyProof.Rows
noncomputable abbrev TO := St → Hp → (Option Int → Hp → Prop) → Prop
noncomputable def PO (X : Cx) (e : Option Expr) (t : TO) : Prop :=
  ∀ (pins : List (Addr × Obj)) (s : Shared) (σ : St) (H : Hp) (Q : Option Int → Hp → Prop), Inv X pins σ H s → t σ H Q →
    wpAny (model X.prog X.w) X.A (evalPart e X.env) (fun u s' => ∃ o H', Inv X pins σ H' s' ∧ IsPart u o ∧ Q o H') X.xe s
noncomputable def tNoPart : TO := fun _ H Q => Q none H
noncomputable def tPart (t : TE) : TO := fun σ H Q => t σ H fun x H1 => ∃ i, x = .int i ∧ Q (some i) H1
section
variable {X : Cx} {e : Expr} {te : TE} {lo hi : Option Expr} {tl th : TO} {pos p2 : Pos}
theorem po_none : PO X none tNoPart := by
  intro pins s σ H Q I h
  rw [evalPart_none]
  exact wpAny_pure ⟨none, H, I, .none, h⟩
theorem po_some (h : PE X e te) : PO X (some e) (tPart te) := by
  intro pins s σ H Q I hw
  rw [evalPart_some]
  refine thn (h pins s σ H _ I hw) fun u s1 ⟨x, H1, I1, r1, q1⟩ => ?_
  obtain ⟨i, rfl, q⟩ := q1
  obtain ⟨t, rfl⟩ := r1
  exact ⟨some i, H1, I1, .int i t, q⟩
noncomputable def SlR (X : Cx) (r : V → Option Int → Option Int → Hp → VK → Prop) : Prop :=
  ∀ (pins : List (Addr × Obj)) (s : Shared) (σ : St) (H : Hp) (x : V) (v vl vu : Value) (lo hi : Option Int) (sl : Addr) (Q : VK), Inv X pins σ H s → RelV x v → s.heap.IsSliceOf sl vl vu .none → IsPart vl lo → IsPart vu hi → r x lo hi H Q →
    ∃ T id, typeLookup (.type T) "__getitem__" = pure (some (.builtin id)) ∧ s.TypeIs v T ∧ wpAny (model X.prog X.w) X.A (getItem v (.ref sl)) (EP X pins σ Q) X.xe s
theorem SlR.or {r r' : V → Option Int → Option Int → Hp → VK → Prop} (h : SlR X r) (h' : SlR X r') : SlR X (fun x lo hi H Q => r x lo hi H Q ∨ r' x lo hi H Q) := by
  intro pins s σ H x v vl vu lo hi sl Q I rx hs pl pu q
  rcases q with q | q
  · exact h pins s σ H x v vl vu lo hi sl Q I rx hs pl pu q
  · exact h' pins s σ H x v vl vu lo hi sl Q I rx hs pl pu q
noncomputable def tSl (r : V → Option Int → Option Int → Hp → VK → Prop) (te : TE) (tl th : TO) : TE := fun σ H Q => te σ H fun x H1 => tl σ H1 fun l H2 => th σ H2 fun u H3 => r x l u H3 Q
theorem pe_slice {r : V → Option Int → Option Int → Hp → VK → Prop} (hr : SlR X r) (he : PE X e te) (hl : PO X lo tl) (hu : PO X hi th) : PE X (.Subscript e (.Slice lo hi none p2) pos) (tSl r te tl th) := by
  intro pins s σ H Q I h
  refine Subscript_ (thn (he pins s σ H _ I h) fun v s1 ⟨x, H1, I1, r1, q1⟩ => ?_)
  refine wpAny_Slice (thn (hl pins s1 σ H1 _ I1 q1) fun vl s2 ⟨l, H2, I2, pl, q2⟩ => thn (hu pins s2 σ H2 _ I2 q2) fun vu s3 ⟨u, H3, I3, pu, q3⟩ => ?_)
  rw [evalPart_none]
  refine wpAny_pure ?_
  have I4 : Inv X pins σ H3 { s3 with heap := s3.heap.push { cls := .type "slice", data := .fields #[vl, vu, .none] } } := I3.kept (t' := s3.toks) fun b ob q => Heap.get?_push_of_some _ q
  obtain ⟨T, id, hT, ht, hg⟩ := hr pins { s3 with heap := s3.heap.push { cls := .type "slice", data := .fields #[vl, vu, .none] } } σ H3 x v vl vu l u s3.heap.objs.size Q I4 r1 (Heap.IsSliceOf.new ..) pl pu q3
  show wpAny (model X.prog X.w) X.A (subscriptTail e (.Slice lo hi none p2) v (.ref s3.heap.objs.size)) (EP X pins σ Q) X.xe { s3 with heap := s3.heap.push { cls := .type "slice", data := .fields #[vl, vu, .none] } }
  exact tail_any (ops := [.ref s3.heap.objs.size, v]) ht hT hg (by with_unfolding_all rfl)
noncomputable def cutV (xs : List V) (lo hi : Option Int) : List V := (xs.drop (HT.sIx xs.length 0 lo)).take (HT.sIx xs.length xs.length hi - HT.sIx xs.length 0 lo)
theorem cutV_length (xs : List V) (lo hi : Option Int) : (cutV xs lo hi).length ≤ xs.length := by
  unfold cutV
  rw [List.length_take, List.length_drop]
  omega
noncomputable def rSlT (K : PySem.W.Frag) : V → Option Int → Option Int → Hp → VK → Prop := fun x lo hi H Q => ∃ a xs, x = .ref a ∧ SqT K H a xs ∧
  ¬ (HT.sIx xs.length 0 lo = 0 ∧ HT.sIx xs.length xs.length hi = xs.length) ∧ ∀ p, H p = none → Q (.ref p) (upd H p (.tup (cutV xs lo hi)))
theorem sl_tup : SlR X (rSlT X.K) := by
  intro pins s σ H x v vl vu lo hi sl Q I rx hs pl pu h
  obtain ⟨a, xs, rfl, hx, hw, q⟩ := h
  cases rx
  obtain ⟨its, r, ht, hz⟩ := I.tuple hx
  have hlen : its.toArray.size = xs.length := by rw [List.size_toArray]; exact r.length.symm
  refine ⟨"tuple", _, PyProof.Rows.slot_tuple_getitem.lookup, ht.typeIs, ?_⟩
  refine HT.getItem_tuple_cut ht hs pl pu (by rw [hlen]; exact hw) ?_ (by rw [hlen]; exact hz)
  rw [hlen]
  refine ⟨.ref s.heap.objs.size, _, I.laid (t' := s.toks) (o := .tup (cutV xs lo hi)) (fun b ob q => Heap.get?_push_of_some _ q) (Nat.le_refl _) ?_, rfl, q _ (I.hok.fresh (Nat.le_refl _))⟩
  exact ⟨Nat.le_trans (cutV_length xs lo hi) hz, _, (r.drop (HT.sIx xs.length 0 lo)).take (HT.sIx xs.length xs.length hi - HT.sIx xs.length 0 lo), TupN.new _ _⟩
theorem Vals.nil_iff {xs : List V} {us : List Value} (r : Vals xs us) : us = [] ↔ xs = [] := by
  cases r with
  | nil => simp
  | cons _ _ => simp
end
end L2
namespace L2
open PySem PySem.Spec PyProof.Rows
noncomputable def ixN (n : Nat) (i : Int) : Option Nat := if 0 ≤ i then (if i < n then some i.toNat else none) else if -(n : Int) ≤ i then some (i + n).toNat else none
noncomputable def atI {α : Type} (xs : List α) (i : Int) : Option α := (ixN xs.length i).bind fun j => xs[j]?
theorem ixN_seq {n : Nat} {i : Int} {j : Nat} (h : ixN n i = some j) : seqIndex? i n = some j ∧ j < n ∧ -(n : Int) ≤ i ∧ i < n := by
  unfold ixN at h
  by_cases h0 : 0 ≤ i
  · rw [if_pos h0] at h
    by_cases h1 : i < n
    · rw [if_pos h1] at h
      have e : i.toNat = j := Option.some.inj h
      exact ⟨by rw [seqIndex_of h0 h1, e], by omega, by omega, h1⟩
    · rw [if_neg h1] at h; cases h
  · rw [if_neg h0] at h
    by_cases h1 : -(n : Int) ≤ i
    · rw [if_pos h1] at h
      have e : (i + n).toNat = j := Option.some.inj h
      exact ⟨by rw [seqIndex_neg (by omega) h1, e], by omega, h1, by omega⟩
    · rw [if_neg h1] at h; cases h
theorem atI_get {α : Type} {xs : List α} {i : Int} {v : α} (h : atI xs i = some v) : ∃ j, seqIndex? i xs.length = some j ∧ xs[j]? = some v ∧ j < xs.length ∧ -(xs.length : Int) ≤ i ∧ i < xs.length := by
  unfold atI at h
  cases e : ixN xs.length i with
  | none => rw [e] at h; cases h
  | some j =>
    rw [e] at h
    obtain ⟨h1, h2, h3, h4⟩ := ixN_seq e
    exact ⟨j, h1, h, h2, h3, h4⟩
theorem atI_nat {α : Type} {xs : List α} {j : Nat} {v : α} (h : xs[j]? = some v) : atI xs (j : Int) = some v := by
  have hj : j < xs.length := (List.getElem?_eq_some_iff.mp h).1
  have e : ixN xs.length (j : Int) = some j := by
    unfold ixN
    rw [if_pos (by omega), if_pos (by omega)]; simp
  unfold atI; rw [e]; exact h
noncomputable def PlainIx (b : Expr) : Prop := ∀ o i, subscripted b false o i = operate [o, i] (getItem o i)
noncomputable def IxR (X : Cx) (r : R2) : Prop :=
  ∀ (value slice : Expr) (pins : List (Addr × Obj)) (s : Shared) (σ : St) (H : Hp) (x y : V) (v u : Value) (Q : VK), Inv X pins σ H s → RelV x v → RelV y u → r x y H Q →
    subscripted slice false v u = operate [v, u] (getItem v u) → wpAny (model X.prog X.w) X.A (subscriptTail value slice v u) (EP X pins σ Q) X.xe s
noncomputable def MtR (X : Cx) (id : String) (r : V → List V → Hp → VK → Prop) : Prop :=
  ∀ (pins : List (Addr × Obj)) (s : Shared) (σ : St) (H : Hp) (x : V) (xs : List V) (v : Value) (us : List Value) (Q : VK), Inv X pins σ H s → RelV x v → Vals xs us → r x xs H Q →
    wpAny (model X.prog X.w) X.A (call (.builtin id) (v :: us)) (EP X pins σ Q) X.xe s
section
variable {X : Cx} {a b : Expr} {ta tb : TE} {pos : Pos}
theorem IxR.or {r r' : R2} (h : IxR X r) (h' : IxR X r') : IxR X (fun x y H Q => r x y H Q ∨ r' x y H Q) := by
  intro value slice pins s σ H x y v u Q I rx ry q hs
  rcases q with q | q
  · exact h value slice pins s σ H x y v u Q I rx ry q hs
  · exact h' value slice pins s σ H x y v u Q I rx ry q hs
theorem MtR.or {id : String} {r r' : V → List V → Hp → VK → Prop} (h : MtR X id r) (h' : MtR X id r') : MtR X id (fun x xs H Q => r x xs H Q ∨ r' x xs H Q) := by
  intro pins s σ H x xs v us Q I rx rs q
  rcases q with q | q
  · exact h pins s σ H x xs v us Q I rx rs q
  · exact h' pins s σ H x xs v us Q I rx rs q
theorem pe_ix {r : R2} (hr : IxR X r) (ha : PE X a ta) (hb : PE X b tb) (hs : PlainIx b) : PE X (.Subscript a b pos) (tOp r ta tb) := by
  intro pins s σ H Q I h
  exact Subscript_ (binT ha hb I h fun v u s2 x y H2 I2 rx ry q => hr a b pins s2 σ H2 x y v u Q I2 rx ry q (hs _ _))
noncomputable def rIxL (K : PySem.W.Frag) : R2 := fun x y H Q => ∃ p xs i v, x = .ref p ∧ y = .int i ∧ SqL K H p xs ∧ atI xs i = some v ∧ Q v H
noncomputable def rIxT (K : PySem.W.Frag) : R2 := fun x y H Q => ∃ p xs i v, x = .ref p ∧ y = .int i ∧ SqT K H p xs ∧ atI xs i = some v ∧ Q v H
noncomputable def rIxS : R2 := fun x y H Q => ∃ z i c, x = .str z ∧ y = .int i ∧ z.length ≤ sizeLine ∧ atI z.cps.toList i = some c ∧ Q (.str ⟨#[c]⟩) H
theorem ix_list : IxR X (rIxL X.K) := by
  intro value slice pins s σ H x y v u Q I rx ry h hs
  obtain ⟨p, xs, i, z, rfl, rfl, hq, he, q⟩ := h
  cases rx
  obtain ⟨t, rfl⟩ := ry
  obtain ⟨its, r, pl, hz⟩ := I.list hq
  obtain ⟨j, h1, h2, h3, h4, h5⟩ := atI_get he
  obtain ⟨w, ew, rw'⟩ := r.get h2
  have hl := r.length
  have hn := line63
  have fin : EP X pins σ Q w s := ⟨z, H, I, rw', q⟩
  by_cases h0 : 0 ≤ i
  · have hj : i.toNat = j := by
      rw [seqIndex_of h0 h5] at h1
      exact Option.some.inj h1
    exact item_listR pl.isList h0 (by omega) (by rw [hj]; simpa using ew) fin hs
  · have hj : (i + (its.toArray.size : Int)).toNat = j := by
      rw [seqIndex_neg (by omega) h4] at h1
      rw [List.size_toArray, ← hl]
      exact Option.some.inj h1
    exact subscriptTail_builtinR (x := w) pl.isList.typeIs slot_list_getitem.lookup
      (wpAny_getItem_list_neg (Q := fun r s' => r = w ∧ EP X pins σ Q r s') pl.isList (by omega) (by rw [List.size_toArray] <;> omega) (by omega) (by rw [hj]; simpa using ew) ⟨rfl, fin⟩) hs
theorem ix_tup : IxR X (rIxT X.K) := by
  intro value slice pins s σ H x y v u Q I rx ry h hs
  obtain ⟨p, xs, i, z, rfl, rfl, hq, he, q⟩ := h
  cases rx
  obtain ⟨t, rfl⟩ := ry
  obtain ⟨its, r, pl, hz⟩ := I.tuple hq
  obtain ⟨j, h1, h2, h3, h4, h5⟩ := atI_get he
  obtain ⟨w, ew, rw'⟩ := r.get h2
  have hl := r.length
  have hn := line63
  have fin : EP X pins σ Q w s := ⟨z, H, I, rw', q⟩
  exact subscriptTail_builtinR (x := w) pl.typeIs slot_tuple_getitem.lookup
    (getItem_tuple (j := j) (Q := fun r s' => r = w ∧ EP X pins σ Q r s') pl (by omega) (by omega) (by rw [List.size_toArray, ← hl]; exact h1) (by simpa using ew) ⟨rfl, fin⟩) hs
theorem ix_str : IxR X rIxS := by
  intro value slice pins s σ H x y v u Q I rx ry h hs
  obtain ⟨z, i, c, rfl, rfl, hz, he, q⟩ := h
  obtain ⟨t, rfl⟩ := rx
  obtain ⟨t', rfl⟩ := ry
  obtain ⟨j, h1, h2, h3, h4, h5⟩ := atI_get he
  have hl : z.cps.toList.length = z.length := by simp [Str.length]
  rw [hl] at h1 h4 h5
  have hn := line63
  exact tail_any (typeIs_str s z t) slot_str_getitem.lookup (getItem_str (c := c) (by
    have e1 : decide (i < -(2 ^ 63 : Int)) = false := decide_eq_false (by omega)
    have e2 : decide (i ≥ 2 ^ 63) = false := decide_eq_false (by omega)
    rw [e1, e2, Bool.or_false]) (by rw [h1]; simpa using h2) ⟨.str ⟨#[c]⟩, H, I.tok _, ⟨_, rfl⟩, q⟩) hs
noncomputable def rIx (K : PySem.W.Frag) : R2 := fun x y H Q => rIxL K x y H Q ∨ rIxT K x y H Q ∨ rIxS x y H Q
theorem ix_seq : IxR X (rIx X.K) := ix_list.or (ix_tup.or ix_str)
theorem mapSeq_set (its : List Value) (n j : Nat) (u : Value) : Obj.mapSeq (·.setIfInBounds j u) { cls := .type "list", data := .seq its.toArray n } = { cls := .type "list", data := .seq (its.set j u).toArray n } := by
  simp [Obj.mapSeq]
theorem Inv.lst {pins : List (Addr × Obj)} {σ : St} {H : Hp} {s : Shared} {p : Addr} {xs : List V} (I : Inv X pins σ H s) (h : H p = some (.lst xs)) :
    ∃ (its : List Value) (n : Nat), Vals xs its ∧ s.heap.get? p = some { cls := .type "list", data := .seq its.toArray n } ∧ xs.length ≤ sizeLine := by
  obtain ⟨z, its, n, r, e⟩ := I.hok p _ h
  exact ⟨its, n, r, e, z⟩
theorem Inv.lstUpd {pins : List (Addr × Obj)} {σ : St} {H : Hp} {s : Shared} {p : Addr} {xs ys : List V} {its its' : List Value} {n n' : Nat} {f : Obj → Obj} (I : Inv X pins σ H s) (h : H p = some (.lst xs))
    (ho : s.heap.get? p = some { cls := .type "list", data := .seq its.toArray n }) (hf : f { cls := .type "list", data := .seq its.toArray n } = { cls := .type "list", data := .seq its'.toArray n' }) (r : Vals ys its') (hz : ys.length ≤ sizeLine) (t : Nat) :
    Inv X pins σ (upd H p (.lst ys)) { s with heap := s.heap.update p f, toks := t } := by
  have e : (s.heap.update p f).get? p = some { cls := .type "list", data := .seq its'.toArray n' } := by
    rw [Heap.get?_update_self f ho (by rw [hf] <;> rfl), hf]
  refine I.write (x := p) (e := p) (by rw [h]; trivial) (.inl rfl) (fun b u hb q => (Heap.get?_update_other _ _ (Ne.symm hb)).trans q) ⟨_, e⟩ ?_
  exact ⟨hz, its', n', r, e⟩
noncomputable def rSetL : V → V → V → Hp → (Hp → Prop) → Prop := fun o i v H Q => ∃ p xs k j, o = .ref p ∧ i = .int k ∧ H p = some (.lst xs) ∧ ixN xs.length k = some j ∧ Q (upd H p (.lst (xs.set j v)))
theorem set_list : PSet X rSetL := by
  intro pins s σ H o i v ov iv u Q I ro ri rv h
  obtain ⟨p, xs, k, j, rfl, rfl, hp, hj, q⟩ := h
  cases ro
  obtain ⟨t, rfl⟩ := ri
  obtain ⟨its, n, r, ho, hz⟩ := I.lst hp
  obtain ⟨h1, h2, h3, h4⟩ := ixN_seq hj
  have hl := r.length
  have hn := line63
  have I' : Inv X pins σ (upd H p (.lst (xs.set j v))) { s with heap := s.heap.update p (Obj.mapSeq (·.setIfInBounds j u)) } :=
    I.lstUpd hp ho (mapSeq_set its n j u) (r.set rv j) (by rw [List.length_set]; exact hz) s.toks
  by_cases h0 : 0 ≤ k
  · have hk : k.toNat = j := by
      rw [seqIndex_of h0 h4] at h1
      exact Option.some.inj h1
    exact PySem.W.ki_setAt ho h0 (by omega) (by rw [List.size_toArray, ← hl]; exact h4) (by rw [hk]; exact ⟨_, I', q⟩)
  · have hk : (k + (its.toArray.size : Int)).toNat = j := by
      rw [seqIndex_neg (by omega) h3] at h1
      rw [List.size_toArray, ← hl]
      exact Option.some.inj h1
    exact PySem.W.ki_setBack ho (by omega) (by rw [List.size_toArray, ← hl]; exact h3) (by omega) (by rw [hk]; exact ⟨_, I', q⟩)
theorem slice_bounds (lo hi : Option Int) (n : Nat) : (sliceBounds lo hi none n).1 = ((HT.sIx n 0 lo : Nat) : Int) ∧ (sliceBounds lo hi none n).2.1 = ((HT.sIx n n hi : Nat) : Int) ∧ (sliceBounds lo hi none n).2.2 = 1 := by
  refine ⟨?_, ?_, rfl⟩
  · cases lo with
    | none => simp [sliceBounds, HT.sIx]
    | some i =>
      simp only [sliceBounds, HT.sIx, Option.getD_none, show (1 : Int) > 0 by decide, if_true]
      by_cases h : i < 0
      · simp only [h, if_true] <;> omega
      · simp only [h, if_false] <;> omega
  · cases hi with
    | none => simp [sliceBounds, HT.sIx]
    | some i =>
      simp only [sliceBounds, HT.sIx, Option.getD_none, show (1 : Int) > 0 by decide, if_true]
      by_cases h : i < 0
      · simp only [h, if_true] <;> omega
      · simp only [h, if_false] <;> omega
theorem slicePick_cut (its : List Value) (lo hi : Option Int) : slicePick its.toArray lo hi none = ((its.drop (HT.sIx its.length 0 lo)).take (HT.sIx its.length its.length hi - HT.sIx its.length 0 lo)).toArray := by
  obtain ⟨h1, h2, h3⟩ := slice_bounds lo hi its.toArray.size
  unfold slicePick
  rw [h1, h2, h3]
  simp only [sliceRange_one, pick_run, List.size_toArray] <;> rfl
noncomputable def rSlL (K : PySem.W.Frag) : V → Option Int → Option Int → Hp → VK → Prop := fun x lo hi H Q => ∃ a xs, x = .ref a ∧ SqL K H a xs ∧ ∀ p, H p = none → Q (.ref p) (upd H p (.lst (cutV xs lo hi)))
theorem sl_list : SlR X (rSlL X.K) := by
  intro pins s σ H x v vl vu lo hi sl Q I rx hs pl pu h
  obtain ⟨a, xs, rfl, hx, q⟩ := h
  cases rx
  obtain ⟨its, r, ht, hz⟩ := I.list hx
  have hlen := r.length
  refine ⟨"list", _, slot_list_getitem.lookup, ht.isList.typeIs, ?_⟩
  refine wpAny_getItem_list_slice ht.isList hs pl pu .none (by simp) ?_ (by rw [List.size_toArray] <;> omega)
  rw [slicePick_cut, ← hlen]
  refine ⟨.ref s.heap.objs.size, _, I.laid (t' := s.toks) (o := .lst (cutV xs lo hi)) (fun b ob q => Heap.get?_push_of_some _ q) (Nat.le_refl _) ?_, rfl, q _ (I.hok.fresh (Nat.le_refl _))⟩
  exact ⟨Nat.le_trans (cutV_length xs lo hi) hz, _, 0, (r.drop (HT.sIx xs.length 0 lo)).take (HT.sIx xs.length xs.length hi - HT.sIx xs.length 0 lo), Heap.get?_push_size _ rfl⟩
theorem call_len_seq : CallR X (.builtin "len") (fun xs H Q => ∃ p ys, xs = [.ref p] ∧ (SqL X.K H p ys ∨ SqT X.K H p ys) ∧ Q (.int ys.length) H) := by
  intro pins s σ H xs us Q I r h
  obtain ⟨p, ys, rfl, hq, q⟩ := h
  obtain ⟨u, rfl, rx⟩ := vals1 r
  cases rx
  have hn := line63
  rcases hq with hq | hq
  · obtain ⟨its, r', pl, hz⟩ := I.list hq
    have hlen := r'.length
    exact Calls.call_len_list pl.isList (by simp only [List.size_toArray] <;> omega) ⟨.int ys.length, H, I.tok _, ⟨s.toks + 1, by rw [List.size_toArray, hlen]⟩, q⟩
  · obtain ⟨its, r', pl, hz⟩ := I.tuple hq
    have hlen := r'.length
    exact len_tuple pl (by simp only [List.size_toArray] <;> omega) ⟨.int ys.length, H, I.tok _, ⟨s.toks + 1, by rw [List.size_toArray, hlen]⟩, q⟩
theorem CallR.or {f : Value} {r r' : List V → Hp → VK → Prop} (h : CallR X f r) (h' : CallR X f r') : CallR X f (fun xs H Q => r xs H Q ∨ r' xs H Q) := by
  intro pins s σ H xs us Q I rs q
  rcases q with q | q
  · exact h pins s σ H xs us Q I rs q
  · exact h' pins s σ H xs us Q I rs q
theorem call_list_of : CallR X (.type "list") (fun xs H Q => ∃ p ys, xs = [.ref p] ∧ (SqL X.K H p ys ∨ SqT X.K H p ys) ∧ ∀ l, H l = none → Q (.ref l) (upd H l (.lst ys))) := by
  intro pins s σ H xs us Q I r h
  obtain ⟨p, ys, rfl, hq, q⟩ := h
  obtain ⟨u, rfl, rx⟩ := vals1 r
  cases rx
  have fin : ∀ (its : List Value), Vals ys its → ys.length ≤ sizeLine → ∀ (h' : Heap) (c' : Nat), (∀ b o', s.heap.get? b = some o' → h'.get? b = some o') →
      h'.get? s.heap.objs.size = some { cls := .type "list", dict := none, data := .seq its.toArray c', slots := #[] } → EP X pins σ Q (.ref s.heap.objs.size) { s with heap := h' } := fun its r' hz h' c' kp e =>
    ⟨.ref s.heap.objs.size, _, I.laid (t' := s.toks) kp (Nat.le_refl _) (show ObjOk X.prog X.w _ h' _ (.lst ys) from ⟨hz, its, c', r', e⟩), rfl, q _ (I.hok.fresh (Nat.le_refl _))⟩
  rcases hq with hq | hq
  · obtain ⟨its, r', pl, hz⟩ := I.list hq
    have hlen := r'.length
    obtain ⟨o, ho, hc, n, hd⟩ := pl.isList
    exact call_list_seq p (.inl rfl) ho hc hd (fun h' c' kp e => fin its r' hz h' c' kp e) (by simp only [List.size_toArray] <;> omega)
  · obtain ⟨its, r', pl, hz⟩ := I.tuple hq
    have hlen := r'.length
    obtain ⟨o, ho, hc, n, hd⟩ := pl
    exact call_list_seq p (.inr rfl) ho hc hd (fun h' c' kp e => fin its r' hz h' c' kp e) (by simp only [List.size_toArray] <;> omega)
theorem call_tuple_of : CallR X (.type "tuple") (fun xs H Q => ∃ p ys, xs = [.ref p] ∧ ((SqL X.K H p ys ∧ ∀ l, H l = none → Q (.ref l) (upd H l (.tup ys))) ∨ (SqT X.K H p ys ∧ Q (.ref p) H))) := by
  intro pins s σ H xs us Q I r h
  obtain ⟨p, ys, rfl, h⟩ := h
  obtain ⟨u, rfl, rx⟩ := vals1 r
  cases rx
  rcases h with ⟨hq, q⟩ | ⟨hq, q⟩
  · obtain ⟨its, r', pl, hz⟩ := I.list hq
    have hlen := r'.length
    refine call_tuple_list pl.isList (fun h' kp => ?_) (by simp only [List.size_toArray] <;> omega)
    have I1 : Inv X pins σ H { s with heap := h' } := I.kept (t' := s.toks) kp
    have I2 : Inv X pins σ (upd H h'.objs.size (.tup ys)) { s with heap := h'.push { cls := .type "tuple", data := .seq its.toArray } } :=
      I1.laid (t' := s.toks) (fun b o e => Heap.get?_push_of_some _ e) (Nat.le_refl _) (show ObjOk X.prog X.w _ _ _ (.tup ys) from ⟨hz, its, r', TupN.new _ _⟩)
    exact ⟨.ref h'.objs.size, _, I2, rfl, q _ (I1.hok.fresh (Nat.le_refl _))⟩
  · obtain ⟨its, r', pl, hz⟩ := I.tuple hq
    exact call_tuple_same pl ⟨.ref p, H, I, rfl, q⟩
noncomputable def tyV (K : PySem.W.Frag) (T : String) (x : V) (H : Hp) : Prop := match x with
  | .str _ => T = "str"
  | .int _ => T = "int"
  | .ref p => (T = "list" ∧ ∃ xs, SqL K H p xs) ∨ (T = "tuple" ∧ ∃ o, K.lookup p = some o ∧ o.cls = .type "tuple" ∧ o.dict = none) ∨
      (T = "dict" ∧ ((∃ kvs, H p = some (.dK kvs)) ∨ ∃ kvs, H p = some (.dT kvs))) ∨ (T = "set" ∧ ∃ S n, H p = some (.set S n))
  | _ => False
theorem tyV_is {pins : List (Addr × Obj)} {σ : St} {H : Hp} {s : Shared} {T : String} {x : V} {v : Value} (I : Inv X pins σ H s) (r : RelV x v) (ty : tyV X.K T x H) :
    s.TypeIs v T ∧ ∀ a, v = .ref a → ∃ ob, s.heap.get? a = some ob ∧ ob.dict = none := by
  cases x with
  | str z =>
    obtain ⟨t, rfl⟩ := r
    cases (show T = "str" from ty)
    exact ⟨typeIs_str s z t, fun _ e => nomatch e⟩
  | int i =>
    obtain ⟨t, rfl⟩ := r
    cases (show T = "int" from ty)
    exact ⟨typeIs_int s i t, fun _ e => nomatch e⟩
  | ref p =>
    cases r
    rcases ty with ⟨rfl, xs, hq⟩ | ⟨rfl, o, hk, hc, hd⟩ | ⟨rfl, hk⟩ | ⟨rfl, S, n, hk⟩
    · obtain ⟨its, _, pl, _⟩ := I.list hq
      refine ⟨pl.isList.typeIs, fun a e => ?_⟩
      cases e
      obtain ⟨o, n, e, c, hd, _⟩ := pl
      exact ⟨o, e, hd⟩
    · refine ⟨⟨o, I.kIn p o hk, hc⟩, fun a e => ?_⟩
      cases e
      exact ⟨o, I.kIn _ o hk, hd⟩
    · have z : ∃ o, s.heap.get? p = some o ∧ o.ExactDict := by
        rcases hk with ⟨kvs, hk⟩ | ⟨kvs, hk⟩
        · obtain ⟨_, _, _, _, o, _, _, e, ex, _⟩ := I.hok p _ hk
          exact ⟨o, e, ex⟩
        · obtain ⟨_, _, _, _, o, _, _, e, ex, _⟩ := I.hok p _ hk
          exact ⟨o, e, ex⟩
      obtain ⟨o, e, ex⟩ := z
      refine ⟨⟨o, e, ex.1⟩, fun a e2 => ?_⟩
      cases e2
      exact ⟨o, e, ex.2.1⟩
    · obtain ⟨o, _, _, _, e, ex, _⟩ := I.hok p _ hk
      refine ⟨⟨o, e, ex.1⟩, fun a e2 => ?_⟩
      cases e2
      exact ⟨o, e, ex.2.1⟩
  | _ => exact False.elim ty
noncomputable def tBM (K : PySem.W.Frag) (T : String) (r : V → List V → Hp → VK → Prop) (to : TE) (t : TA) : TE := fun σ H Q => to σ H fun x H1 => tyV K T x H1 ∧ t σ H1 fun xs H2 => r x xs H2 Q
variable {o e : Expr} {es : List Expr} {to : TE} {t : TA} {name : Str} {apos cpos : Pos} {T id : String} {r : V → List V → Hp → VK → Prop}
theorem pe_bm (pa : PlainAttrs T) (slot : Slot T name id) (hty : typeOf (.builtin id) = pure (.type "method_descriptor")) (hm : MtR X id r) (ho : PE X o to) (ha : PA X (e :: es) t)
    (hbase : attributeBase o name X.env (eval o X.env) = eval o X.env := by rfl)
    (hfew : ((backTo cpos (starEach (e :: es) X.env)).all (fun x => !x.1) && (backToKw cpos (keywordEach [] X.env)).all (fun x => x.1.isSome)
      && decide ((e :: es).length + ([] : List Keyword).length + (if ([] : List Keyword).isEmpty then 0 else 1) < 30)) = true := by rfl)
    (hline : (apos.endLine == cpos.line) = true := by rfl) (hs : starEach (e :: es) X.env = (false, eval e X.env) :: starEach es X.env := by rfl) (hplain : (backTo cpos (starEach es X.env)).any (·.1) = false := by rfl) :
    PE X (.Call (.Attribute o name apos) (e :: es) [] cpos) (tBM X.K T r to t) := by
  intro pins s σ H Q I h
  refine wpAny_Call_method_late hbase hfew hline rfl (thn (ho pins s σ H _ I h) fun v s1 ⟨x, H1, I1, r1, ty, q1⟩ => ?_)
  obtain ⟨h1, h2⟩ := tyV_is I1 r1 ty
  refine ⟨T, id, pa, slot, hty, h1, h2, ?_⟩
  have hA := ha cpos pins s1 σ H1 _ I1 q1
  rw [hs] at hA ⊢
  refine Calls.callWith_builtin (by show (false || (backTo cpos (starEach es X.env)).any (·.1)) = false; rw [hplain] <;> rfl) (Calls.evalArgs_plain ?_)
  exact thn hA fun us s2 ⟨vs, H2, I2, r2, q2⟩ => hm pins s2 σ H2 x vs v us Q I2 r1 r2 q2
end
end L2
namespace L2
open PySem PySem.Spec PyProof.Rows
noncomputable def MtM (X : Cx) (id : String) (r : V → List V → Hp → VK → Prop) : Prop :=
  ∀ (pins : List (Addr × Obj)) (s : Shared) (σ : St) (H : Hp) (x : V) (xs : List V) (v : Value) (us : List Value) (Q : VK), Inv X pins σ H s → RelV x v → Vals xs us → r x xs H Q →
    wpAny (model X.prog X.w) X.A (call (.builtin id) (v :: us)) (EP X pins σ Q) X.xe s
theorem Vals.one : ∀ {x : V} {us : List Value}, Vals [x] us → ∃ u, us = [u] ∧ RelV x u
  | _, _, .cons r .nil => ⟨_, rfl, r⟩
theorem Vals.two : ∀ {x y : V} {us : List Value}, Vals [x, y] us → ∃ u v, us = [u, v] ∧ RelV x u ∧ RelV y v
  | _, _, _, .cons r (.cons q .nil) => ⟨_, _, rfl, r, q⟩
theorem Vals.zero : ∀ {us : List Value}, Vals [] us → us = []
  | _, .nil => rfl
theorem Vals.rep {xs : List V} {us : List Value} (h : Vals xs us) : ∀ k : Nat, Vals (List.replicate k xs).flatten (List.replicate k us).flatten
  | 0 => .nil
  | k + 1 => by
    rw [List.replicate_succ, List.replicate_succ, List.flatten_cons, List.flatten_cons]
    exact Vals.append h (Vals.rep h k)
theorem foldl_rep (its : List Value) : ∀ (k : Nat) (acc : List Value),
    List.foldl (fun x1 x2 => x1 ++ x2) acc.toArray (List.replicate k its.toArray) = (acc ++ (List.replicate k its).flatten).toArray
  | 0, acc => by simp
  | k + 1, acc => by
    have e : acc.toArray ++ its.toArray = (acc ++ its).toArray := by simp
    have e2 : (acc ++ its) ++ (List.replicate k its).flatten = acc ++ (List.replicate (k + 1) its).flatten := by
      rw [List.replicate_succ, List.flatten_cons, List.append_assoc]
    rw [← e2, ← foldl_rep its k (acc ++ its), ← e, List.replicate_succ, List.foldl_cons]
section
variable {X : Cx} {pins : List (Addr × Obj)} {σ : St} {H : Hp} {s : Shared} {l b : Addr} {xs ys zs : List V}
theorem Inv.lset {its its' : List Value} {n : Nat} {f : Array Value → Array Value} {t' : Nat} (I : Inv X pins σ H s) (hH : H l = some (.lst xs))
    (e : s.heap.get? l = some { cls := .type "list", data := .seq its.toArray n }) (hf : f its.toArray = its'.toArray) (hv : Vals ys its') (hz : ys.length ≤ sizeLine) :
    Inv X pins σ (upd H l (.lst ys)) { s with heap := s.heap.update l (Obj.mapSeq f), toks := t' } := by
  have q := PySem.IsL.update e f
  rw [hf] at q
  refine I.write (x := l) (e := l) (by rw [hH]; exact trivial) (.inl rfl) (fun b' u hb hu => (Heap.get?_update_other s.heap (Obj.mapSeq f) (Ne.symm hb)).trans hu) ⟨_, q⟩ ?_
  exact ⟨hz, its', _, hv, q⟩
theorem Inv.lnew {its : List Value} {t' : Nat} (I : Inv X pins σ H s) (hv : Vals ys its) (hz : ys.length ≤ sizeLine) :
    Inv X pins σ (upd H s.heap.objs.size (.lst ys)) { s with heap := s.heap.push { cls := .type "list", data := .seq its.toArray }, toks := t' } :=
  I.laid (fun _ _ q => Heap.get?_push_of_some _ q) (Nat.le_refl _) ⟨hz, its, 0, hv, Heap.get?_push_size _ rfl⟩
theorem Inv.fresh (I : Inv X pins σ H s) : H s.heap.objs.size = none := I.hok.fresh (Nat.le_refl _)
theorem Inv.lstM (I : Inv X pins σ H s) (hH : H l = some (.lst xs)) : xs.length ≤ sizeLine ∧ ∃ (its : List Value) (n : Nat), Vals xs its ∧ xs.length = its.length ∧ s.heap.get? l = some { cls := .type "list", data := .seq its.toArray n } := by
  obtain ⟨z, its, n, r, e⟩ := I.hok l _ hH
  exact ⟨z, its, n, r, r.length, e⟩
theorem notLongL {n : Nat} (h : n ≤ sizeLine) : Builtin.List.listTooLong n = false := by
  unfold Builtin.List.listTooLong
  exact decide_eq_false (by omega)
end
section
variable {X : Cx}
noncomputable def rAppend : V → List V → Hp → VK → Prop := fun x vs H Q => ∃ l xs y, x = .ref l ∧ vs = [y] ∧ H l = some (.lst xs) ∧ xs.length < sizeLine ∧ Q .non (upd H l (.lst (xs ++ [y])))
theorem mt_append : MtM X "list.append" rAppend := by
  intro pins s σ H x vs v us Q I rx rv h
  obtain ⟨l, xs, y, rfl, rfl, hH, hz, q⟩ := h
  cases rx
  obtain ⟨u, rfl, ru⟩ := rv.one
  obtain ⟨z, its, n, r, hl, e⟩ := I.lstM hH
  refine call_meets F.slot_list_append ⟨_, e, rfl⟩ F.entry_list_append (F.args_list_append_2 _ _) (PySem.list_append l its.toArray n u (by rw [List.size_toArray]; omega)) ⟨e, ?_⟩
  refine ⟨.non, _, I.lset (its' := its ++ [u]) hH e (by simp) (r.append (.cons ru .nil)) ?_, rfl, q⟩
  rw [List.length_append, List.length_singleton]
  omega
noncomputable def rExtend : V → List V → Hp → VK → Prop := fun x vs H Q => ∃ l b xs zs, x = .ref l ∧ vs = [.ref b] ∧ H l = some (.lst xs) ∧ H b = some (.lst zs) ∧ xs.length + zs.length ≤ sizeLine ∧ Q .non (upd H l (.lst (xs ++ zs)))
theorem mt_extend : MtM X "list.extend" rExtend := by
  intro pins s σ H x vs v us Q I rx rv h
  obtain ⟨l, b, xs, zs, rfl, rfl, hH, hB, hz, q⟩ := h
  cases rx
  obtain ⟨u, rfl, ru⟩ := rv.one
  cases ru
  obtain ⟨z, its, n, r, hl, e⟩ := I.lstM hH
  obtain ⟨z2, its2, n2, r2, hl2, e2⟩ := I.lstM hB
  have hsz : its.toArray.size + its2.toArray.size ≤ sizeLine := by rw [List.size_toArray, List.size_toArray]; omega
  have hlong : ¬ (!its.toArray.isEmpty && Builtin.List.listTooLong (its.toArray.size + its2.toArray.size)) = true := by
    rw [notLongL hsz, Bool.and_false]
    exact Bool.false_ne_true
  refine call_meets F.slot_list_extend ⟨_, e, rfl⟩ F.entry_list_extend (F.args_list_extend_2 _ _)
    (AutoSeq1.list_extend_list_list_0 l its.toArray n b its2.toArray n2 hlong (by rw [List.size_toArray]; omega) (by omega)) ⟨e, e2, ?_⟩
  refine ⟨.non, _, I.lset (its' := its ++ its2) hH e (by simp) (r.append r2) ?_, rfl, q⟩
  rw [List.length_append]
  omega
noncomputable def rRep : R2 := fun x y H Q => ∃ l k xs, x = .ref l ∧ y = .int k ∧ H l = some (.lst xs) ∧ -(2 ^ 63) ≤ k ∧ k < 2 ^ 63 ∧ xs.length * k.toNat ≤ sizeLine ∧
  ∀ p, H p = none → Q (.ref p) (upd H p (.lst (List.replicate k.toNat xs).flatten))
theorem len_rep {α : Type} (xs : List α) (k : Nat) : (List.replicate k xs).flatten.length = k * xs.length := by
  induction k with
  | zero => simp
  | succ k ih => rw [List.replicate_succ, List.flatten_cons, List.length_append, ih, Nat.succ_mul, Nat.add_comm]
theorem op_rep : OpR X (binaryOp .Mult) rRep := by
  intro pins s σ H x y v u Q I rx ry h
  obtain ⟨l, k, xs, rfl, rfl, hH, h1, h2, hz, q⟩ := h
  cases rx
  obtain ⟨t, rfl⟩ := ry
  obtain ⟨z, its, n, r, hl, e⟩ := I.lstM hH
  have hlen : its.toArray.size * k.toNat ≤ sizeLine := by rw [List.size_toArray, ← hl]; exact hz
  have hcap : ¬ its.toArray.size * k.toNat > (2 ^ 63 - 1) / 8 := by
    have : (sizeLine : Nat) ≤ (2 ^ 63 - 1) / 8 := by decide
    omega
  have hfit : ¬ (!Builtin.List.listFitsIndex k) = true := by
    rw [fitsIndex_both h1 h2]
    exact Bool.false_ne_true
  have hlong : ¬ Builtin.List.listTooLong (its.toArray.size * k.toNat) = true := by
    rw [notLongL hlen]
    exact Bool.false_ne_true
  have hnew : List.foldl (fun x1 x2 => x1 ++ x2) #[] (List.replicate (if its.toArray.isEmpty = true then 0 else k.toNat) its.toArray) = (List.replicate k.toNat its).flatten.toArray := by
    have f0 : ∀ m : Nat, List.foldl (fun x1 x2 => x1 ++ x2) #[] (List.replicate m its.toArray) = (List.replicate m its).flatten.toArray := fun m => by
      have := foldl_rep its m []
      rw [List.nil_append] at this
      exact this
    rw [f0]
    cases its with
    | nil => simp
    | cons a r' => rw [if_neg (by simp)]
  refine wpAny_binaryOp_repeat_ref (T := "list") (U := "int") (by decide) ⟨_, e, rfl⟩ (fun s' => typeIs_int s' k t) noFill_list_mul F.fills_int_mul F.slot_int_rmul repeat_list F.slot_int_index.lookup
    (call_meets F.slot_int_rmul (typeIs_int s k t) F.entry_int_rmul (F.args_int_rmul_2 _ _) (int___rmul___int_list k t l its.toArray n)
      ⟨e, rfl, ⟨_, e, rfl⟩, call_meets F.slot_list_mul ⟨_, e, rfl⟩ F.entry_list_mul (F.args_list_mul_2 _ _) (AutoListH.list___mul___list_int_3 l its.toArray n k t hfit hcap hlong) ⟨e, ?_⟩⟩)
  rw [hnew]
  exact ⟨.ref _, _, I.lnew (t' := s.toks) (r.rep k.toNat) (by rw [len_rep, Nat.mul_comm]; exact hz), rfl, q _ I.fresh⟩
end
section
variable {prog : Program} {w : World} {A : Around} {E : Value → Shared → Prop} {s : Shared}
end
section
variable {X : Cx}
end
end L2
namespace Att
open PySem PySem.W PySem.Calls PyProof.Rows
theorem ints_of_wellAll {P : Params} {h : Heap} : ∀ (ns : List Int) (vs : List Value), WellAll P h vs (ns.map WData.int) → IntsAre vs ns := by
  intro ns
  induction ns with
  | nil =>
    intro vs w
    rw [List.map_nil] at w
    cases w
    exact .nil
  | cons n ns ih =>
    intro vs w
    rw [List.map_cons] at w
    cases w with
    | cons a b =>
      cases a
      exact .cons _ _ (ih _ b)
theorem script_of {l : OpenLaw} {n : Nat} (hn : l.most = some n) {P : Params} {h : Heap} {args : List WData} {vals : List Value}
    (hpre : l.row.toRowW.claim.pre args = true) (hwl : WellAll P h vals args) :
    ∃ a vs ns, vals = [Value.ref a] ∧ args = [WData.list (ns.map WData.int)] ∧ h.get? a = some { cls := .type "list", data := .seq vs.toArray } ∧ IntsAre vs ns ∧ ns.length ≤ n := by
  have hsh : WShape.hasAll [] args [.list .int] = true := (pre_splitW hpre).1
  have hc : l.pre.holds [] { args := args } = true := (pre_splitW hpre).2
  obtain ⟨d, r, rfl, h1, h2⟩ := hasAllW_cons hsh
  obtain rfl := hasAllW_nil h2
  obtain ⟨xs, rfl, h3⟩ := hasW_list h1
  obtain ⟨ns, rfl⟩ := items_int h3
  have hlen : ns.length ≤ n := by
    unfold OpenLaw.pre at hc
    have h4 : (WTm.not (.lt (.lit (.int (n : Int))) (.len (.arg 0)))).holds [] { args := [.list (ns.map .int)] } = true := by
      have h4 := (holds_andW hc).1
      rw [hn] at h4
      exact h4
    have h5 := condW_of h4 (w_not (w_lt w_lit (w_len_list (w_arg rfl))))
    rw [List.length_map] at h5
    refine Nat.le_of_not_lt fun q => ?_
    have q' : (n : Int) < ((ns.length : Nat) : Int) := by omega
    first
      | (rw [decide_eq_true q'] at h5; exact absurd h5 (by decide))
      | (simp at h5; omega)
  cases hwl with
  | cons w1 w2 =>
    cases w2
    cases w1 with
    | list ho hall => exact ⟨_, _, ns, rfl, rfl, ho, ints_of_wellAll ns _ hall, hlen⟩
theorem post_true (l : OpenLaw) (args : List WData) : l.row.toRowW.claim.post args (.bool true) args = true :=
  postW_of (r := l.row.toRowW) (X := (true == true))
    (show WShape.has [] (.bool true) .bool = true by first | rfl | decide | simp [WShape.has, WShape.arms, WShape.armsAll])
    (show (WTm.eq .res (.lit (.bool true))).value [] { args := args, res := some (.bool true), after := args } = some (.bool (true == true)) from w_eq_bool (w_res rfl) w_lit) rfl
theorem attach_call {l : OpenLaw} {n : Nat} {q : Program} {loose : List Str} {XP : (Str → Option Value) → Heap → Prop} {YP : World → Heap → Prop} {d : DefRec}
    (hn : l.most = some n) (hdf : d.params.defaults = [])
    (call : ∀ (w : World) (s₀ s₁ : Shared) (mg mb : Str → Option Value) (fa : Addr) (o : Obj) (pm cd doc : Value) (a : Addr) (vs : List Value) (ns : List Int),
      Ground q loose [] XP w s₀ mg mb s₁.heap → YP w s₁.heap →
      s₁.heap.get? fa = some o → o.data = .func (docDef d.name d.params d.body d.scope pm cd doc) → s₁.heap.CodeRec cd d.name → mg d.name = some (.ref fa) →
      s₁.heap.get? a = some { cls := .type "list", data := .seq vs.toArray } → IntsAre vs ns → ns.length ≤ n → s₁.gens = #[] →
      codeAny (model l.prog w) callerA (.call (.ref fa) ⟨[.ref a], []⟩) (fun r s' => r = .ok (.ret (.bool true)) ∧ OldK s₁.heap s'.heap ∧ s'.os = s₁.os ∧ AllBare s'.gens) s₁) :
    WalkO q loose XP YP l.row.toRowW d [] (fun f vs => PySem.call f vs) := by
  intro w s₀ s₁ mg mb G Y fa o pm cd doc dV kV ho hd hcd hD hmg hg args vals as hpre hlay hrd hwl hlo
  obtain rfl : dV = .none := Dflts.none hD hdf
  obtain rfl : kV = .none := Dflts.noKw hD
  obtain ⟨a, vs, ns, rfl, rfl, hobj, hints, hlen⟩ := script_of hn hpre hwl
  refine enter_call (codeAny_mono (call w s₀ s₁ mg mb fa o pm cd doc a vs ns G Y ho (fd_plain hd) hcd hmg hobj hints hlen hg) fun r s' hq => ?_)
  obtain ⟨rfl, h2, h3, h4⟩ := hq
  exact ⟨.inl ⟨.bool true, .bool true, [], rfl, fun _ => rfl, .bool true, post_true l _, fun _ => ⟨List.Pairwise.nil, fun _ hm => (nomatch hm)⟩⟩, h2, h3, h4⟩
section
variable {prog : Program} {w : World} {A : Around} {E : Value → Shared → Prop} {s : Shared} {K : Frag}
end
end Att
namespace L2
open PySem PySem.Spec PyProof.Rows
theorem vals_ints : ∀ {vs : List Value} {ns : List Int}, IntsAre vs ns → Vals (ns.map V.int) vs
  | _, _, .nil => .nil
  | _, _, .cons n t h => .cons ⟨t, rfl⟩ (vals_ints h)
noncomputable def Only (H : Hp) : Prop := ∀ b, H b = none ∨ ∃ o xs, H b = some (.frz o (.lst xs))
theorem law_call {P : Program} {w : World} {K : PySem.W.Frag} {mg mb : Str → Option Value} {CX : CXT} {k : Nat} {fa a : Addr} {fd : FuncData} {x : Str} {sp : Sp} {s₁ : Shared} {vs : List Value} {ns : List Int}
    (KX : K.In s₁.heap) (hns : s₁.heap.Ns mainGlobals mg) (hb : s₁.heap.Ns builtinsNs mb) (hbb : ∀ x : Str, x ≠ "__name__" → mb x = bootBuiltins x) (hlim : s₁.heap.NoLimit) (hg : s₁.gens = #[])
    (ha : s₁.heap.get? a = some { cls := .type "list", data := .seq vs.toArray }) (hi : IntsAre vs ns) (hl : ns.length ≤ sizeLine) (hr : Room k callerA)
    (F : ∀ base : Heap, K.In base → base.Ns mainGlobals mg → FnOk P w K mg base CX k fa fd [x] sp) (hbind : ∀ (s : Shared) (u : Value), BindsTo s fd ⟨[u], []⟩ [(x, u)])
    (hsp : ∀ H : Hp, Only H → SqL K H a (ns.map V.int) → sp [.ref a] H (fun v _ => v = .bl true) fun _ _ _ => False)
    (hCX : ∀ H e s', CX [] H s₁ (fun _ _ _ => False) e s' → False) :
    codeAny (model P w) callerA (.call (.ref fa) ⟨[.ref a], []⟩) (fun r s' => r = .ok (.ret (.bool true)) ∧ OldK s₁.heap s'.heap ∧ s'.os = s₁.os ∧ AllBare s'.gens) s₁ := by
  have rv := vals_ints hi
  have lenV := hi.length
  -- from an abstract heap in which nothing but the script may be tracked
  have core : ∀ H : Hp, Only H → SqL K H a (ns.map V.int) → HOk P w H s₁.heap → (∀ b, H b ≠ none → b = a) → (H a ≠ none → K.lookup a = none) →
      codeAny (model P w) callerA (.call (.ref fa) ⟨[.ref a], []⟩) (fun r s' => r = .ok (.ret (.bool true)) ∧ OldK s₁.heap s'.heap ∧ s'.os = s₁.os ∧ AllBare s'.gens) s₁ := by
    intro H hO hS hok hA hK
    have base_of : ∀ {b : Addr} {o : Obj}, s₁.heap.get? b = some o → H b = none → (hidT s₁.heap H).get? b = some o := fun e n => hidT_get e n
    have noA : ∀ {b : Addr} {o : Obj} {es : Array DictEntry} {ep : Nat}, s₁.heap.get? b = some o → o.data = .dict es ep → H b = none := fun {b o es ep} e d => by
      cases q : H b with
      | none => rfl
      | some u =>
        have e' : b = a := hA b (by rw [q]; simp)
        subst e'
        rw [ha] at e; cases e
        have d' : Data.seq vs.toArray _ = Data.dict es ep := d
        cases d'
    have nsK : ∀ {b : Addr} {m : Str → Option Value}, s₁.heap.Ns b m → (hidT s₁.heap H).Ns b m := fun {b m} ⟨o, es, ep, e, d, r⟩ => ⟨o, es, ep, base_of e (noA e d), d, r⟩
    have hKb : K.In (hidT s₁.heap H) := fun b o e => base_of (KX b o e) (by
      cases q : H b with
      | none => rfl
      | some u =>
        have e' : b = a := hA b (by rw [q]; simp)
        subst e'
        rw [hK (by rw [q]; simp)] at e; cases e)
    have hM : Mod K mg (hidT s₁.heap H) := ⟨hKb, nsK hns, ⟨mb, nsK hb, hbb⟩, let ⟨mc, h1, h2⟩ := hlim; ⟨mc, nsK h1, h2⟩⟩
    have e0 : Env0 P w K mg (hidT s₁.heap H) callerA [] s₁ H := ⟨rfl, hM, fun b o e => of_hidT e, Nat.le_of_eq (hidT_size _ _), trivial, fun b hb => absurd (show b ∈ ([] : List Addr) from hb) (by simp), hok, .of_eq hg⟩
    refine codeAny_mono ((F _ hKb (nsK hns)).run callerA [] s₁ H ⟨[.ref a], []⟩ [.ref a] [.ref a] _ _ hr e0 (hbind s₁ (.ref a)) (.cons rfl .nil) (hsp H hO hS)) fun r s' h => ?_
    cases r with
    | error e => exact (hCX H e s' h).elim
    | ok fl =>
      cases fl with
      | next => exact False.elim h
      | brk => exact False.elim h
      | cont => exact False.elim h
      | ret u =>
        obtain ⟨v, H', os, bare, un, hok', r', q⟩ := h
        have q' : v = .bl true := q
        subst q'
        obtain rfl : u = Value.bool true := r'
        refine ⟨rfl, OldK.of_keep fun b o e => ?_, os, bare⟩
        cases q : H b with
        | none => exact un.keep b o e q (by intro z; exact absurd (show b ∈ ([] : List Addr) from z) (by simp)) (by simp)
        | some u =>
          rcases hO b with z | ⟨ob, xs, z⟩
          · rw [q] at z; cases z
          · have z2 := un.frzs b ob _ z
            obtain ⟨e1, _⟩ := hok b _ z
            obtain ⟨e2, _⟩ := hok' b _ z2
            rw [e] at e1; cases e1
            exact e2
  cases hk : K.lookup a with
  | some o =>
    -- the script is one of the module's own objects
    have e := KX a o hk
    rw [ha] at e
    cases e
    refine core (fun _ => none) (fun _ => .inl rfl) (.inr ⟨_, vs.toArray, _, hk, rfl, rfl, rfl, by rw [List.size_toArray, lenV]; exact hl, by simpa using rv⟩) (fun b u z => by have z' : (none : Option HO) = some u := z; cases z') (fun b z => absurd rfl z) fun z => absurd rfl z
  | none =>
    refine core (fun b => if b = a then some (.frz { cls := .type "list", data := .seq vs.toArray } (.lst (ns.map V.int))) else none) (fun b => ?_) (.inl (.inr ⟨{ cls := .type "list", data := .seq vs.toArray }, if_pos rfl⟩)) (fun b u z => ?_) (fun b z => ?_) fun _ => hk
    · by_cases hb : b = a
      · exact .inr ⟨_, _, if_pos hb⟩
      · exact .inl (if_neg hb)
    · by_cases hb : b = a
      · have z' := (if_pos hb).symm.trans z
        cases z'
        subst hb
        exact ⟨ha, by rw [List.length_map]; exact hl, vs, _, rv, ha⟩
      · have z' := (if_neg hb).symm.trans z
        cases z'
    · by_cases hb : b = a
      · exact hb
      · exact absurd (if_neg hb) z
end L2
namespace L2
open PySem PySem.Spec PyProof.Rows
theorem walk_of {l : PySem.W.OpenLaw} {n k : Nat} {q : Program} {loose : List Str} {XP : (Str → Option Value) → Heap → Prop} {YP : World → Heap → Prop} {d : DefRec} {K : Params → PySem.W.Frag} {CX : World → CXT} {sp : World → Sp} {x : Str}
    (hn : l.most = some n) (hn2 : n ≤ sizeLine) (hdf : d.params.defaults = []) (hr : Room k callerA)
    (hY : ∀ (w : World) (h : Heap), YP w h → (K w.params).In h)
    (F : ∀ (w : World) (mg : Str → Option Value) (fa : Addr) (h : Heap), (K w.params).In h → h.Ns mainGlobals mg → mg d.name = some (.ref fa) →
      ∃ fd : FuncData, (∀ (s : Shared) (u : Value), BindsTo s fd ⟨[u], []⟩ [(x, u)]) ∧
        ∀ base : Heap, (K w.params).In base → base.Ns mainGlobals mg → FnOk l.prog w (K w.params) mg base (CX w) k fa fd [x] (sp w))
    (hsp : ∀ (w : World) (H : Hp) (a : Addr) (ns : List Int), ns.length ≤ n → Only H → SqL (K w.params) H a (ns.map V.int) → sp w [.ref a] H (fun v _ => v = .bl true) fun _ _ _ => False)
    (hCX : ∀ (w : World) (H : Hp) (s : Shared) (e : Value) (s' : Shared), CX w [] H s (fun _ _ _ => False) e s' → False) :
    PySem.W.WalkO q loose XP YP l.row.toRowW d [] (fun f vs => PySem.call f vs) := by
  refine Att.attach_call hn hdf fun w s₀ s₁ mg mb fa o pm cd doc a vs ns G Y ho hd hcd hmg hobj hints hlen hg => ?_
  have KX := hY w _ Y
  obtain ⟨fd, hb, hF⟩ := F w mg fa _ KX G.T.g hmg
  exact law_call KX G.T.g G.T.b G.T.builtins G.T.nolimit hg hobj hints (Nat.le_trans hlen hn2) hr hF hb (fun H hO hS => hsp w H a ns hlen hO hS) fun H e s' => hCX w H s₁ e s'
end L2
namespace L2
open PySem PySem.Spec PyProof.Rows
noncomputable def defArgs (s : Stmt) : Arguments := match s with
  | .FunctionDef _ a _ _ _ _ _ _ _ _ => a
  | _ => { posonlyargs := [], args := [], vararg := none, kwonlyargs := [], kw_defaults := [], kwarg := none, defaults := [] }
noncomputable def defBody (s : Stmt) : List Stmt := match s with
  | .FunctionDef _ _ b _ _ _ _ _ _ _ => b
  | _ => []
noncomputable def defScope (s : Stmt) : Scope := match s with
  | .FunctionDef _ _ _ _ _ _ sc _ _ _ => sc
  | _ => { kind := .function, names := [], isGenerator := false, isCoroutine := false }
noncomputable abbrev CX0 : CXT := fun _ _ _ _ _ _ => False
noncomputable abbrev E0 : XK := fun _ _ _ => False
theorem pass0 {X : Cx} : Passes CX0 X E0 := fun _ _ _ _ _ _ _ h => h.elim
structure Fun (K : PySem.W.Frag) (x qual : Str) (st : Stmt) (f : Addr) (fd : FuncData) : Prop where
  ex : ∃ (oc : Value) (od : Option Addr) (kV doc pm : Value) (an : Option Addr) (cdv ct : Value) (osl : Array (Option Value)),
    fd = PySem.W.fnOf x qual (defArgs st) (defBody st) (defScope st) .none kV doc pm an cdv ct ∧ K.lookup f = some ⟨oc, od, .func fd, osl⟩ ∧ PySem.W.codeIn K cdv qual = true
  kp : PySem.W.keepIn K (.ref f) = true
section
variable {P : Program} {w : World} {K : PySem.W.Frag} {mg : Str → Option Value} {base : Heap}
theorem Fun.ok {x qual : Str} {st : Stmt} {f : Addr} {fd : FuncData} {N ps : List Str} {k : Nat} {sp : Sp} (F : Fun K x qual st f fd) (S : FnScope N ps (defScope st)) (len : ∀ vs H Q E, sp vs H Q E → vs.length = ps.length)
    (hbody : ∀ (cdv : Value) (A : Around) (outer : List Env) (s : Shared) (H : Hp) (vs : List V) (Q : VK) (E : XK), Room k (A.deeper (envOfC qual (defScope st) s.heap.objs.size f cdv)) → sp vs H Q E →
      ∃ t, PSs (cxOf CX0 P w K mg base N qual (defScope st) f cdv A outer s H E).nox (defBody st) t ∧ t { nx := fun _ H' => Q .non H', rt := Q } (start N vs) H) : FnOk P w K mg base CX0 (k + 1) f fd ps sp := by
  obtain ⟨oc, od, kV, doc, pm, an, cdv, ct, osl, rfl, lk, hcd⟩ := F.ex
  refine fn_of lk hcd S len fun A outer s H vs Q E hr hsp => ?_
  obtain ⟨t, h, q⟩ := hbody cdv A outer s H vs Q E hr hsp
  exact ⟨t, h.nox, q⟩
theorem Fun.binds {x qual : Str} {st : Stmt} {f : Addr} {fd : FuncData} {ps : List Str} (F : Fun K x qual st f fd)
    (h : ∀ (kV doc pm : Value) (an : Option Addr) (cdv ct : Value) (us : List Value), us.length = ps.length → bindArgs (PySem.W.fnOf x qual (defArgs st) (defBody st) (defScope st) .none kV doc pm an cdv ct) ⟨us, []⟩ = pure (ps.zip us)) : Binds K fd ps [] := by
  obtain ⟨oc, od, kV, doc, pm, an, cdv, ct, osl, rfl, lk, hcd⟩ := F.ex
  exact .all (h kV doc pm an cdv ct)
theorem fun_mk {x qual : Str} {st : Stmt} {f : Addr} {oc : Value} {od an : Option Addr} {osl : Array (Option Value)} {kV doc pm cdv ct : Value} (l : K.lookup f = some ⟨oc, od, .func (PySem.W.fnOf x qual (defArgs st) (defBody st) (defScope st) .none kV doc pm an cdv ct), osl⟩)
    (c : PySem.W.codeIn K cdv qual = true) (k : PySem.W.keepIn K (.ref f) = true) : Fun K x qual st f (PySem.W.fnOf x qual (defArgs st) (defBody st) (defScope st) .none kV doc pm an cdv ct) := ⟨⟨oc, od, kV, doc, pm, an, cdv, ct, osl, rfl, l, c⟩, k⟩
end
section
variable {X : Cx}
theorem pv (i : Nat) {x : Str} {pos : Pos} (hN : X.N[i]? = some x := by rfl) (hv : Vis X.env.scope x := by first | exact Or.inl rfl | exact Or.inr (Or.inl rfl) | exact Or.inr (Or.inr rfl)) (hd : (x == ("__debug__" : Str)) = false := by decide)
    (hcd : (x == ("__classdict__" : Str)) = false := by decide) : PE X (.Name x pos) (tVar i) := pe_var hN hv hd hcd
end
theorem iteF {A B : Prop} (h : B) : if false = true then A else B := by
  rw [if_neg Bool.false_ne_true]
  exact h
theorem iteT {A B : Prop} (h : A) : if true = true then A else B := by
  rw [if_pos rfl]
  exact h
noncomputable def Same (H H' : Hp) : Prop := ∀ b o, H b = some o → H' b = some o
theorem Same.refl (H : Hp) : Same H H := fun _ _ h => h
theorem Same.trans {H H1 H2 : Hp} (a : Same H H1) (b : Same H1 H2) : Same H H2 := fun c o h => b c o (a c o h)
theorem Same.free {H H' : Hp} (e : Same H H') {l : Addr} (h : H' l = Option.none) : H l = Option.none := by
  cases q : H l with
  | none => rfl
  | some o =>
    rw [e l o q] at h
    cases h
theorem Same.seq {K : PySem.W.Frag} {H H' : Hp} {a : Addr} {xs : List V} (e : Same H H') (h : SqL K H a xs) : SqL K H' a xs := by
  rcases h with (h | ⟨o, h⟩) | h
  · exact .inl (.inl (e _ _ h))
  · exact .inl (.inr ⟨o, e _ _ h⟩)
  · exact .inr h
end L2
set_option Elab.async false
set_option linter.all false
set_option maxRecDepth 100000
set_option maxHeartbeats 4000000
namespace L2
open PySem PySem.Spec PyProof.Rows
section
variable {X : Cx} {pins : List (Addr × Obj)} {σ : St} {H : Hp} {s : Shared}
theorem Inv.track {d : Addr} {o : HO} (I : Inv X pins σ H s) (hn : H d = none) (hy : X.s₀.heap.objs.size ≤ d) (hL : d ≠ X.env.locals) (hc : ∀ x c, X.env.cells.lookup x = some c → c ≠ d)
    (hp : ∀ p ∈ X.pn ++ pins, p.1 ≠ d) (new : ObjOk X.prog X.w (upd H d o) s.heap d o) : Inv X pins σ (upd H d o) s := by
  have old : ∀ b ob, X.s₀.heap.get? b = some ob → b ≠ d := fun b ob e => Nat.ne_of_lt (Nat.lt_of_lt_of_le (Heap.lt_size e) hy)
  have was : ∀ b u, H b = some u → b ≠ d := fun b u e => ne_of_none e hn
  refine ⟨I.ok, I.os, I.bare, ⟨I.base.keep, I.base.slot, fun b ob e n hx => ?_, I.base.there, fun b xs e => ?_, fun b ob u e => ?_, fun b ps e => ?_⟩, I.loc, I.cell, ?_, fun x c e => ?_, fun p z => ?_, fun b u e => ?_, I.len⟩
  · rw [upd_ne (old b ob e)]; exact I.base.free b ob e n hx
  · have q := I.base.tups b xs e
    rw [upd_ne (was b _ q)]; exact q
  · have q := I.base.frzs b ob u e
    rw [upd_ne (was b _ q)]; exact q
  · obtain ⟨m, q⟩ := I.base.tbls b ps e
    exact ⟨m, by rw [upd_ne (was b _ q)]; exact q⟩
  · rw [upd_ne (Ne.symm hL)]; exact I.free
  · rw [upd_ne (hc x c e)]; exact I.freeC x c e
  · obtain ⟨e, n, r⟩ := I.pin p z
    exact ⟨e, by rw [upd_ne (hp p z)]; exact n, r⟩
  · by_cases hb : b = d
    · subst hb
      rw [upd_same] at e
      cases e
      exact new
    · rw [upd_ne hb] at e
      refine (I.hok b u e).stay (fun c v _ q => q) (fun c q => ?_) fun c xs q => ?_
      · rw [upd_ne (was c _ q)]; exact q
      · rw [upd_ne (was c _ q)]; exact q
end
theorem closure_of {env : Env} : ∀ (names : List (Str × NameKind)) (acc : List (Str × Addr)), (∀ y ∈ names, y.2 = .free → ∃ c, env.cells.lookup y.1 = some c) →
    ∃ cl, (forIn names acc fun (p : Str × NameKind) (cs : List (Str × Addr)) => (if (p.2 == NameKind.free) = true then do let c ← cellOf env p.1; pure (ForInStep.yield ((p.1, c) :: cs)) else pure (ForInStep.yield cs) : Sem (ForInStep (List (Str × Addr))))) = pure cl ∧
      (∀ x c, cl.lookup x = some c → acc.lookup x = some c ∨ env.cells.lookup x = some c) ∧ (∀ x c, acc.lookup x = some c → ∃ c', cl.lookup x = some c') ∧ ∀ y ∈ names, y.2 = .free → ∃ c, cl.lookup y.1 = some c
  | [], acc, _ => ⟨acc, rfl, fun _ _ h => .inl h, fun _ c h => ⟨c, h⟩, fun _ h => nomatch h⟩
  | (n, k) :: r, acc, hh => by
    by_cases hk : k = .free
    · subst hk
      obtain ⟨c, hc⟩ := hh (n, .free) List.mem_cons_self rfl
      obtain ⟨cl, e, h1, h2, h3⟩ := closure_of (env := env) r ((n, c) :: acc) fun y hy => hh y (List.mem_cons_of_mem _ hy)
      have ec : cellOf env n = pure c := by
        unfold cellOf
        rw [hc]
      have here : ∃ c', cl.lookup n = some c' := h2 n c (by simp [List.lookup_cons])
      refine ⟨cl, ?_, fun x d q => ?_, fun x d q => ?_, fun y hy hf => ?_⟩
      · rw [List.forIn_cons]
        simp only [beq_self_eq_true, if_true, ec, pure_bind]
        exact e
      · rcases h1 x d q with z | z
        · rw [List.lookup_cons] at z
          by_cases hx : x = n
          · subst hx
            simp only [beq_self_eq_true] at z
            cases z
            exact .inr hc
          · rw [beq_eq_false_iff_ne.mpr hx] at z
            exact .inl z
        · exact .inr z
      · by_cases hx : x = n
        · subst hx; exact here
        · exact h2 x d (by rw [List.lookup_cons, beq_eq_false_iff_ne.mpr hx]; exact q)
      · rcases List.mem_cons.mp hy with rfl | hy
        · exact here
        · exact h3 y hy hf
    · obtain ⟨cl, e, h1, h2, h3⟩ := closure_of (env := env) r acc fun y hy => hh y (List.mem_cons_of_mem _ hy)
      refine ⟨cl, ?_, h1, h2, fun y hy hf => ?_⟩
      · rw [List.forIn_cons]
        have hb : (k == NameKind.free) = false := by simpa using hk
        simp only [hb, Bool.false_eq_true, if_false, pure_bind]
        exact e
      · rcases List.mem_cons.mp hy with rfl | hy
        · exact absurd hf hk
        · exact h3 y hy hf
theorem closure_some {env : Env} {scope : Scope} (hh : ∀ y ∈ scope.names, y.2 = .free → ∃ c, env.cells.lookup y.1 = some c) :
    ∃ cl, closureFor scope env = pure cl ∧ (∀ x c, cl.lookup x = some c → env.cells.lookup x = some c) ∧ ∀ y ∈ scope.names, y.2 = .free → ∃ c, cl.lookup y.1 = some c := by
  obtain ⟨cl, e, h1, _, h3⟩ := closure_of (env := env) scope.names [] hh
  refine ⟨cl, ?_, fun x c q => (h1 x c q).elim (fun z => by simp at z) id, h3⟩
  unfold closureFor
  simp only [bind_pure]
  exact e
noncomputable def cxB (X : Cx) (N : List Str) (scope : Scope) (s : Shared) (H : Hp) (C : Addr) (cl : List (Str × Addr)) (fp : List Addr) : Cx where
  prog := X.prog
  w := X.w
  K := X.K
  mg := X.mg
  base := X.base
  A := X.A
  N := N
  s₀ := s
  H₀ := H
  env := compEnvC scope cl C X.env
  outer := X.stack
  stack := X.stack
  ex := fp
  fn := fun _ => false
  calm := X.calm
  pn := []
  xe := fun _ _ => False
noncomputable def caps (n : Nat) (js : List Nat) (σ : St) : St := List.replicate n none ++ js.map fun j => (σ[j]?).join
noncomputable def Own (n : Nat) (g : TG) : Prop := ∀ v σ H Q, g v σ H Q → g v σ H fun σ2 H2 => Q σ2 H2 ∧ σ2.length = σ.length ∧ ∀ i, n ≤ i → σ2[i]? = σ[i]?
theorem own_name {n i : Nat} (h : i < n) : Own n (gName i) := fun v σ H Q q => ⟨q, by simp, fun j hj => by rw [List.getElem?_set_ne (by omega)]⟩
theorem own_tup2 {K : PySem.W.Frag} {n i j : Nat} (hi : i < n) (hj : j < n) : Own n (gTup K 2 (gCons (gName i) (gCons (gName j) gNil))) := fun v σ H Q q => by
  obtain ⟨a, xs, e, h, hl, x, r, e1, y, r2, e2, e3, q⟩ := q
  exact ⟨a, xs, e, h, hl, x, r, e1, y, r2, e2, e3, q, by simp, fun k hk => by rw [List.getElem?_set_ne (by omega), List.getElem?_set_ne (by omega)]⟩
noncomputable def PIf (X : Cx) (ifs : List Expr) (t : TT) : Prop :=
  ∀ (pins : List (Addr × Obj)) (s : Shared) (σ : St) (H : Hp) (Q : Bool → Hp → Prop), Inv X pins σ H s → t σ H Q →
    wpAny (model X.prog X.w) X.A (forIn ifs true fun c r => if r = true then do let ok ← isTrue c X.env (eval c X.env); pure (ForInStep.yield ok) else pure (ForInStep.yield r)) (TP X pins σ Q) X.xe s
noncomputable def tYes : TT := fun _ H Q => Q true H
theorem pif_nil {X : Cx} : PIf X [] tYes := fun _ _ _ H _ I h => wpAny_tests_nil ⟨H, I, h⟩
theorem pif_one {X : Cx} {c : Expr} {t : TT} (hc : PT X c t) : PIf X [c] t := fun pins s σ H Q I h => wpAny_tests_one (hc pins s σ H Q I h)
noncomputable def cGo (g : TG) (tt : TT) (te : TE) (σ0 : St) (Fin : List V → Hp → Prop) (J : It) (H1 : Hp) : Prop :=
  ∃ W : Nat → Nat → List V → Hp → Prop, (∃ m, W 0 m [] H1) ∧ ∀ i m ys H2, W i m ys H2 →
    (J.stop i H2 ∧ ys.length ≤ sizeLine ∧ Fin ys H2) ∨
    (J.go i H2 ∧ ys.length < sizeLine ∧ ∃ N : List V → Hp → Prop, (∀ ys' H', N ys' H' → ∃ m', m' < m ∧ W (i + 1) m' ys' H') ∧ ∀ x H3, J.yld i H2 x H3 → g x σ0 H3 fun σ4 H4 => tt σ4 H4 fun b H5 =>
      if b = true then te σ4 H5 fun y H6 => N (ys ++ [y]) H6 else N ys H5)
noncomputable def tComp (n : Nat) (js : List Nat) (wi : TI) (g : TG) (tt : TT) (te : TE) : TE := fun σ H Q =>
  wi σ H (cGo g tt te (caps n js σ) fun ys H2 => ∀ D, H2 D = none → Q (.ref D) (upd H2 D (.lst ys)))
noncomputable def sComp (k n : Nat) (js : List Nat) (wi : TI) (g : TG) (tt : TT) (te : TE) : TS := fun E σ H =>
  wi σ H (cGo g tt te (caps n js σ) fun ys H2 => ∀ D, H2 D = none → E.nx (σ.set k (some (.ref D))) (upd H2 D (.lst ys)))
noncomputable def compOk (sc : Scope) (N0 N : List Str) (n : Nat) (js : List Nat) (scope : Scope) : Bool :=
  decide (scope.kind = .function) && scope.names.all (fun y => decide (y.2 ≠ .cell)) && scope.names.all (fun y => decide (y.2 ≠ .free) || decide (sc.names.lookup y.1 = some .cell) || decide (sc.names.lookup y.1 = some .free)) &&
  scope.names.all (fun y => decide (y.2 ≠ .local) || decide (scope.names.lookup y.1 = some .local)) && decide (js.map (fun j => N0[j]?) = (N.drop n).map some) &&
  (N.drop n).all (fun x => decide (sc.names.lookup x = some .cell) || decide (sc.names.lookup x = some .free)) && (N.drop n).all (fun x => decide (scope.names.lookup x = some .free)) && decide (n + js.length = N.length)
theorem relabel_free {env : Env} : ∀ {names : List (Str × NameKind)} {x : Str}, (names.map fun (n, k) => if (k == NameKind.free && env.scope.kind == .function && env.kindOf n == some .cell) then (n, NameKind.cell) else (n, k)).lookup x = some .cell ∨
    (names.map fun (n, k) => if (k == NameKind.free && env.scope.kind == .function && env.kindOf n == some .cell) then (n, NameKind.cell) else (n, k)).lookup x = some .free → (∀ y ∈ names, y.2 ≠ .cell) → ∃ y ∈ names, y.1 = x ∧ y.2 = .free
  | [], _, h, _ => by rcases h with h | h <;> simp at h
  | (n, k) :: r, x, h, hc => by
    have ih := @relabel_free env r x
    by_cases hx : x = n
    · subst hx
      refine ⟨(x, k), List.mem_cons_self, rfl, ?_⟩
      have hk : k ≠ .cell := hc (x, k) List.mem_cons_self
      by_cases hf : k = .free
      · exact hf
      · exfalso
        have hb : (k == NameKind.free) = false := by simpa using hf
        simp only [List.map_cons, hb, Bool.false_and, Bool.false_eq_true, if_false, List.lookup_cons, beq_self_eq_true] at h
        rcases h with h | h
        · exact hk (Option.some.inj h)
        · exact hf (Option.some.inj h)
    · have hb : (x == n) = false := beq_eq_false_iff_ne.mpr hx
      have step : ∀ (q : Str × NameKind) (l : List (Str × NameKind)), q.1 = n → List.lookup x (q :: l) = List.lookup x l := fun q l e => by
        obtain ⟨a, b⟩ := q
        have e' : a = n := e
        subst e'
        rw [List.lookup_cons, hb]
      have nm : (if (k == NameKind.free && env.scope.kind == .function && env.kindOf n == some .cell) then (n, NameKind.cell) else (n, k)).1 = n := by split <;> rfl
      rw [List.map_cons, step _ _ nm] at h
      obtain ⟨y, hy, r1, r2⟩ := ih h fun y hy => hc y (List.mem_cons_of_mem _ hy)
      exact ⟨y, List.mem_cons_of_mem _ hy, r1, r2⟩
theorem mem_of_lookup {x : Str} {k : NameKind} : ∀ {l : List (Str × NameKind)}, l.lookup x = some k → (x, k) ∈ l
  | [], h => by simp at h
  | (a, b) :: r, h => by
    rw [List.lookup_cons] at h
    by_cases hx : x = a
    · subst hx
      simp only [beq_self_eq_true] at h
      cases h
      exact List.mem_cons_self
    · rw [beq_eq_false_iff_ne.mpr hx] at h
      exact List.mem_cons_of_mem _ (mem_of_lookup h)
theorem relabel_notlocal {env : Env} {x : Str} : ∀ (l : List (Str × NameKind)), l.lookup x = some .free → (l.map fun (n, k) => if (k == NameKind.free && env.scope.kind == .function && env.kindOf n == some .cell) then (n, NameKind.cell) else (n, k)).lookup x ≠ some .local
  | [], q => by simp at q
  | (a, b) :: r, q => fun z => by
    rw [List.lookup_cons] at q
    by_cases hx : x = a
    · subst hx
      simp only [beq_self_eq_true] at q
      cases q
      rw [List.map_cons] at z
      dsimp only at z
      split at z
      · simp [List.lookup_cons] at z
      · simp [List.lookup_cons] at z
    · rw [beq_eq_false_iff_ne.mpr hx] at q
      refine relabel_notlocal (env := env) r q ?_
      by_cases hc : (b == NameKind.free && env.scope.kind == .function && env.kindOf a == some .cell) = true
      · simp only [List.map_cons, if_pos hc, List.lookup_cons, beq_eq_false_iff_ne.mpr hx] at z
        exact z
      · simp only [List.map_cons, if_neg hc, List.lookup_cons, beq_eq_false_iff_ne.mpr hx] at z
        exact z
theorem caps_len (n : Nat) (js : List Nat) (σ : St) : (caps n js σ).length = n + js.length := by simp [caps]
theorem caps_own {n : Nat} {js : List Nat} {σ : St} {i : Nat} (h : i < n) : (caps n js σ)[i]? = some none := by
  unfold caps
  rw [List.getElem?_append_left (by simpa using h), List.getElem?_replicate, if_pos h]
theorem caps_cap {n : Nat} {js : List Nat} {σ : St} {i : Nat} {v : V} (h : n ≤ i) (e : (caps n js σ)[i]? = some (some v)) : ∃ j, js[i - n]? = some j ∧ σ[j]? = some (some v) := by
  unfold caps at e
  rw [List.getElem?_append_right (by simpa using h), List.length_replicate, List.getElem?_map] at e
  cases q : js[i - n]? with
  | none => rw [q] at e; cases e
  | some j =>
    rw [q] at e
    refine ⟨j, rfl, ?_⟩
    have e' : (σ[j]?).join = some v := Option.some.inj e
    cases z : σ[j]? with
    | none => rw [z] at e'; cases e'
    | some o => rw [z] at e'; exact congrArg some e'
section
variable {X : Cx} {tg elt iter : Expr} {ifs : List Expr} {scope : Scope} {pos : Pos} {N N0 : List Str} {n : Nat} {js : List Nat} {sc : Scope} {g : TG} {tt : TT} {te : TE}
end
end L2
namespace L2
open PySem PySem.Spec PyProof.Rows
section
variable {X : Cx} {tg elt iter : Expr} {ifs : List Expr} {scope : Scope} {pos : Pos} {N N0 : List Str} {n : Nat} {js : List Nat} {sc : Scope} {wi : TI} {g : TG} {tt : TT} {te : TE}
theorem comp_has {pins : List (Addr × Obj)} {σ : St} {H : Hp} {s : Shared} (I : Inv X pins σ H s) (hsc : X.env.scope = sc) (ok : compOk sc N0 N n js scope = true) : ∀ y ∈ scope.names, y.2 = .free → ∃ c, X.env.cells.lookup y.1 = some c := by
  simp only [compOk, Bool.and_eq_true, decide_eq_true_eq, List.all_eq_true, Bool.or_eq_true] at ok
  obtain ⟨⟨⟨⟨⟨⟨⟨kind, cell⟩, free⟩, nms⟩, cap⟩, lc⟩, lf⟩, len⟩ := ok
  subst hsc
  intro y hy hf
  rcases free y hy with (z | z) | z
  · exact absurd hf z
  · exact I.ok.has y.1 (.inl z)
  · exact I.ok.has y.1 (.inr z)
theorem comp_names (ok : compOk sc N0 N n js scope = true) : scope.kind = .function ∧ ∀ x ∈ scope.names, x.2 = .local → scope.names.lookup x.1 = some .local := by
  simp only [compOk, Bool.and_eq_true, decide_eq_true_eq, List.all_eq_true, Bool.or_eq_true] at ok
  obtain ⟨⟨⟨⟨⟨⟨⟨kind, cell⟩, free⟩, nms⟩, cap⟩, lc⟩, lf⟩, len⟩ := ok
  refine ⟨kind, fun x hx hl => ?_⟩
  rcases nms x hx with z | z
  · exact absurd hl z
  · exact z
theorem Inv.butC {pins : List (Addr × Obj)} {σ : St} {H : Hp} {s : Shared} {C : Addr} {oC : Obj} {h' : Heap} (I : Inv X (pins ++ [(C, oC)]) σ H s) (hs : Heap.SameBut C s.heap h') (h1 : X.s₀.heap.objs.size ≤ C) (h2 : C ≠ X.env.locals)
    (h3 : ∀ x c, X.env.cells.lookup x = some c → c ≠ C) (h4 : ∀ p ∈ X.pn ++ pins, p.1 ≠ C) (h5 : H C = none) : Inv X pins σ H { s with heap := h' } :=
  I.unpinned.turned (it := C) (t' := s.toks) (fun b o hb e => hs.extBut b o hb e) h5 h2 (.inr h1) h3 h4
end
end L2
namespace L2
open PySem PySem.Spec PyProof.Rows
theorem Same.new {H : Hp} {l : Addr} {o : HO} (h : H l = none) : Same H (upd H l o) := fun b u e => by rw [upd_ne (ne_of_none e h)]; exact e
theorem Same.tup {K : PySem.W.Frag} {H H' : Hp} {a : Addr} {xs : List V} (e : Same H H') (h : SqT K H a xs) : SqT K H' a xs := by
  rcases h with (h | ⟨o, h⟩) | h
  · exact .inl (.inl (e _ _ h))
  · exact .inl (.inr ⟨o, e _ _ h⟩)
  · exact .inr h
end L2
namespace L2
open PySem PySem.Spec PyProof.Rows
section
variable {X : Cx} {K : PySem.W.Frag}
theorem ix_seqK (h : X.K = K) : IxR X (rIx K) := h ▸ ix_seq
theorem call_lenK (h : X.K = K) : CallR X (.builtin "len") (fun xs H Q => ∃ p ys, xs = [.ref p] ∧ (SqL K H p ys ∨ SqT K H p ys) ∧ Q (.int ys.length) H) := by subst h; exact call_len_seq
theorem call_listK (h : X.K = K) : CallR X (.type "list") (fun xs H Q => ∃ p ys, xs = [.ref p] ∧ (SqL K H p ys ∨ SqT K H p ys) ∧ ∀ l, H l = none → Q (.ref l) (upd H l (.lst ys))) := by subst h; exact call_list_of
theorem call_tupleK (h : X.K = K) : CallR X (.type "tuple") (fun xs H Q => ∃ p ys, xs = [.ref p] ∧ ((SqL K H p ys ∧ ∀ l, H l = none → Q (.ref l) (upd H l (.tup ys))) ∨ (SqT K H p ys ∧ Q (.ref p) H))) := by subst h; exact call_tuple_of
theorem pi_listK {tg l : Expr} {tl : TE} (h : X.K = K) (hl : PE X l tl) : PI X tg l (iList K tl) := h ▸ pi_list hl
theorem pi_tupK {tg l : Expr} {tl : TE} (h : X.K = K) (hl : PE X l tl) : PI X tg l (iTup K tl) := h ▸ pi_tup hl
theorem pg_tupK {es : List Expr} {k : Nat} {t : TGs} {n : Nat} {pos : Pos} (hK : X.K = K) (hc : X.calm = true) (h : PGs X es t) (hn : (assignEach es X.env).length = n := by rfl) (hst : (assignEach es X.env).findIdx? (·.1) = none := by rfl) : PG X (.Tuple es k pos) (gTup K n t) := hK ▸ pg_tup hc h hn hst
end
end L2
set_option Elab.async false
set_option linter.all false
set_option maxRecDepth 100000
set_option maxHeartbeats 4000000
namespace L2
open PySem PySem.Spec PyProof.Rows
theorem PE.or {X : Cx} {e : Expr} {t u : TE} (h : PE X e t) (k : PE X e u) : PE X e fun σ H Q => t σ H Q ∨ u σ H Q := fun pins s σ H Q I q => by
  rcases q with q | q
  · exact h pins s σ H Q I q
  · exact k pins s σ H Q I q
theorem PT.or {X : Cx} {e : Expr} {t u : TT} (h : PT X e t) (k : PT X e u) : PT X e fun σ H Q => t σ H Q ∨ u σ H Q := fun pins s σ H Q I q => by
  rcases q with q | q
  · exact h pins s σ H Q I q
  · exact k pins s σ H Q I q
noncomputable def clsV : V → Option Value
  | .ref a => some (.ref a)
  | .ty n => some (.type n)
  | _ => none
noncomputable def rIsi (K : PySem.W.Frag) : List V → Hp → VK → Prop := fun xs H Q => ∃ x y t c b, xs = [x, y] ∧ clsV y = some c ∧ TyOf K H x t ∧ PySem.W.kitOne K t c = some b ∧ Q (.bl b) H
section
variable {X : Cx}
theorem call_isi {K : PySem.W.Frag} (hK : X.K = K) : CallR X (.builtin "isinstance") (rIsi K) := by
  subst hK
  intro pins s σ H xs us Q I r h
  obtain ⟨x, y, t, c, b, rfl, hc, ty, e, q⟩ := h
  obtain ⟨u, w, rfl, ru, rw'⟩ := vals2 r
  have ew : w = c := by
    cases y with
    | ref a =>
      have z : w = Value.ref a := rw'
      rw [z]
      exact Option.some.inj hc
    | ty n =>
      have z : w = Value.type n := rw'
      rw [z]
      exact Option.some.inj hc
    | _ => cases hc
  subst ew
  exact isinst_ok I ru ty e fun tk => ⟨.bl b, H, I.tok tk, rfl, q⟩
theorem kit_self {K : PySem.W.Frag} {v : Value} : PySem.W.kitOne K v v = some true := by
  unfold PySem.W.kitOne
  rw [if_pos (beq_self_eq_true v)]
theorem kit_ref {K : PySem.W.Frag} {t : Value} {d : Addr} {b : Bool} (h1 : PySem.W.isClsIn K d = true) (h2 : PySem.W.typeIn K (.ref d) = some (.type "type")) (h3 : PySem.W.subIn K t (.ref d) = some b) (hn : t ≠ .ref d) : PySem.W.kitOne K t (.ref d) = some b := by
  unfold PySem.W.kitOne
  rw [if_neg (fun z => hn (eq_of_beq z))]
  unfold PySem.W.kitCls
  have e : ((PySem.W.clsIn K d).isSome && PySem.W.typeIn K (.ref d) == some (.type "type")) = true := by
    rw [h2, beq_self_eq_true, Bool.and_true]
    exact h1
  dsimp only
  rw [if_pos e]
  exact h3
theorem kit_ty {K : PySem.W.Frag} {T U : String} {b : Bool} (hm : PySem.W.kitMeta U = true) (h3 : PySem.W.subIn K (.type T) (.type U) = some b) (hn : Value.type T ≠ .type U) : PySem.W.kitOne K (.type T) (.type U) = some b := by
  unfold PySem.W.kitOne
  rw [if_neg (fun z => hn (eq_of_beq z))]
  unfold PySem.W.kitCls
  dsimp only
  rw [if_pos hm]
  exact h3
mutual
inductive DV (K : PySem.W.Frag) (H : Hp) : V → PyData → Prop
  | non : DV K H .non .none
  | bl (b : Bool) : DV K H (.bl b) (.bool b)
  | int (i : Int) : DV K H (.int i) (.int i)
  | str (x : Str) : DV K H (.str x) (.str x)
  | lst {a : Addr} {xs : List V} {ds : List PyData} : SqL K H a xs → DVs K H xs ds → DV K H (.ref a) (.list ds)
  | tup {a : Addr} {xs : List V} {ds : List PyData} : SqT K H a xs → DVs K H xs ds → DV K H (.ref a) (.tuple ds)
inductive DVs (K : PySem.W.Frag) (H : Hp) : List V → List PyData → Prop
  | nil : DVs K H [] []
  | cons {x : V} {xs : List V} {d : PyData} {ds : List PyData} : DV K H x d → DVs K H xs ds → DVs K H (x :: xs) (d :: ds)
end
mutual
theorem dv_reads {pins : List (Addr × Obj)} {σ : St} {H : Hp} {s : Shared} (I : Inv X pins σ H s) : ∀ {x : V} {d : PyData} {u : Value}, DV X.K H x d → RelV x u → ∃ as, Reads s.heap u d as
  | _, _, u, .non, r => by cases (show u = Value.none from r); exact ⟨_, .none⟩
  | _, _, u, .bl b, r => by cases (show u = Value.bool b from r); exact ⟨_, .bool b⟩
  | _, _, u, .int i, r => by obtain ⟨t, e⟩ := (show ∃ t, u = Value.int i t from r); cases e; exact ⟨_, .int i t⟩
  | _, _, u, .str x, r => by obtain ⟨t, e⟩ := (show ∃ t, u = Value.str x t from r); cases e; exact ⟨_, .str x t⟩
  | _, _, u, .lst (a := a) hq hs, r => by
    cases (show u = Value.ref a from r)
    obtain ⟨its, rv, pl, _⟩ := I.list hq
    obtain ⟨o, e, c, n, dd⟩ := pl.isList
    obtain ⟨as, q⟩ := dv_readsAll I hs rv
    exact ⟨_, reads_list_at e c dd (by simpa using q)⟩
  | _, _, u, .tup (a := a) hq hs, r => by
    cases (show u = Value.ref a from r)
    obtain ⟨its, rv, pl, _⟩ := I.tuple hq
    obtain ⟨o, e, c, n, dd⟩ := pl
    obtain ⟨as, q⟩ := dv_readsAll I hs rv
    exact ⟨_, reads_tuple_at e c dd (by simpa using q)⟩
theorem dv_readsAll {pins : List (Addr × Obj)} {σ : St} {H : Hp} {s : Shared} (I : Inv X pins σ H s) : ∀ {xs : List V} {ds : List PyData} {us : List Value}, DVs X.K H xs ds → Vals xs us → ∃ as, ReadsAll s.heap us ds as
  | _, _, _, .nil, .nil => ⟨_, .nil⟩
  | _, _, _, .cons h t, .cons r rs => by
    obtain ⟨as, q⟩ := dv_reads I h r
    obtain ⟨bs, p⟩ := dv_readsAll I t rs
    exact ⟨_, .cons q p⟩
end
noncomputable def rEqD (K : PySem.W.Frag) : R2 := fun x y H Q => ∃ d e, DV K H x d ∧ DV K H y e ∧ SeqAt.shaped d = true ∧ SeqAt.shaped e = true ∧ Q (.bl (PyData.eqv d e)) H
noncomputable def rNeD (K : PySem.W.Frag) : R2 := fun x y H Q => ∃ d e, DV K H x d ∧ DV K H y e ∧ SeqAt.shaped d = true ∧ SeqAt.shaped e = true ∧ Q (.bl (!PyData.eqv d e)) H
theorem op_eqD {K : PySem.W.Frag} (hK : X.K = K) (hu : X.A.units + 64 < cLine) : OpR X (compareOp .Eq) (rEqD K) := by
  subst hK
  intro pins s σ H x y v u Q I rx ry h
  obtain ⟨d, e, hd, he, sd, se, q⟩ := h
  obtain ⟨as, ra⟩ := dv_reads I hd rx
  obtain ⟨bs, rb⟩ := dv_reads I he ry
  exact eq_dataH ra rb sd se hu ⟨.bl _, H, I, rfl, q⟩
theorem op_neD {K : PySem.W.Frag} (hK : X.K = K) (hu : X.A.units + 64 < cLine) : OpR X (compareOp .NotEq) (rNeD K) := by
  subst hK
  intro pins s σ H x y v u Q I rx ry h
  obtain ⟨d, e, hd, he, sd, se, q⟩ := h
  obtain ⟨as, ra⟩ := dv_reads I hd rx
  obtain ⟨bs, rb⟩ := dv_reads I he ry
  exact ne_dataH ra rb sd se hu ⟨.bl _, H, I, rfl, q⟩
structure MkN (K : PySem.W.Frag) (C : Addr) : Prop where
  makes : PySem.W.makesIn K C = true
  init : PySem.W.findIn K (.ref C) "__init__" = some (some (.builtin "object.__init__"))
  kp : PySem.W.keepIn K (.ref C) = true
end
end L2
set_option Elab.async false
set_option linter.all false
set_option maxRecDepth 100000
set_option maxHeartbeats 4000000
namespace L2
open PySem PySem.Spec PyProof.Rows
noncomputable def seqIs (b : Bool) (h : Heap) (l : Addr) (xs : Array Value) : Prop := match b with
  | true => h.IsList l xs
  | false => h.IsTuple l xs
noncomputable def iterIs (b : Bool) (h : Heap) (i l : Addr) (k : Nat) : Prop := match b with
  | true => h.IsListIter i l k
  | false => h.IsTupleIter i l k
noncomputable def iterObj (b : Bool) (l : Addr) : Obj := { cls := .type (if b then "list_iterator" else "tuple_iterator"), data := .fields #[.ref l, .int 0 0] }
theorem seqIs.at_ {b : Bool} {h h' : Heap} {l : Addr} {xs : Array Value} (q : seqIs b h l xs) (e : ∀ o, h.get? l = some o → h'.get? l = some o) : seqIs b h' l xs := by
  cases b
  · obtain ⟨o, z, r⟩ := (show h.IsTuple l xs from q)
    exact (show h'.IsTuple l xs from ⟨o, e o z, r⟩)
  · obtain ⟨o, z, r⟩ := (show h.IsList l xs from q)
    exact (show h'.IsList l xs from ⟨o, e o z, r⟩)
theorem iterIs.at_ {b : Bool} {h h' : Heap} {i l : Addr} {k : Nat} (q : iterIs b h i l k) (e : ∀ o, h.get? i = some o → h'.get? i = some o) : iterIs b h' i l k := by
  cases b
  · obtain ⟨o, z, r⟩ := (show h.IsTupleIter i l k from q)
    exact (show h'.IsTupleIter i l k from ⟨o, e o z, r⟩)
  · obtain ⟨o, z, r⟩ := (show h.IsListIter i l k from q)
    exact (show h'.IsListIter i l k from ⟨o, e o z, r⟩)
theorem iterIs.obj {b : Bool} {h : Heap} {i l : Addr} {k : Nat} (q : iterIs b h i l k) : ∃ o, h.get? i = some o ∧ ∀ v, o.data ≠ .cell v := by
  cases b
  · obtain ⟨o, z, _, d⟩ := (show h.IsTupleIter i l k from q)
    exact ⟨o, z, fun v e => by rw [d] at e; cases e⟩
  · obtain ⟨o, z, _, d⟩ := (show h.IsListIter i l k from q)
    exact ⟨o, z, fun v e => by rw [d] at e; cases e⟩
theorem iterIs.mk_ {b : Bool} {h : Heap} {i l : Addr} (q : h.get? i = some (iterObj b l)) : iterIs b h i l 0 := by
  cases b
  · exact (show h.IsTupleIter i l 0 from ⟨_, q, rfl, rfl⟩)
  · exact (show h.IsListIter i l 0 from ⟨_, q, rfl, rfl⟩)
section
variable {prog : Program} {w : World} {A : Around} {E : Value → Shared → Prop} {s : Shared}
theorem pyIter_seq {b : Bool} {l : Addr} {xs : Array Value} {Q : Value → Shared → Prop} (q : seqIs b s.heap l xs) (h : Q (.ref s.heap.objs.size) { s with heap := s.heap.push (iterObj b l) }) : wpAny (model prog w) A (pyIter (.ref l)) Q E s := by
  cases b
  · exact wpAny_pyIter_tuple (show s.heap.IsTuple l xs from q) h
  · exact wpAny_pyIter_list (show s.heap.IsList l xs from q) h
theorem nextOf_tuple {i l : Addr} {k : Nat} {xs : Array Value} {x : Value} {Q : Value → Shared → Prop} (st : s.heap.IsTupleIter i l k) (tp : s.heap.IsTuple l xs) (e : xs[k]? = some x)
    (h : ∀ h', h'.IsTupleIter i l (k + 1) → Heap.SameBut i s.heap h' → Q x { s with heap := h' }) : wpAny (model prog w) A (Builtin.SmallTypes.nextOf (.ref i)) Q E s := by
  obtain ⟨oi, gi, ci, di⟩ := id st
  obtain ⟨ot, gt, _, nt, dt⟩ := tp
  unfold Builtin.SmallTypes.nextOf
  refine wpAny_bind (wpAny_callSpecial?_slot (name := Str.ofString "__next__") st.typeIs F.slot_tuple_iterator_next (wpAny_call_entry F.slot_tuple_iterator_next st.typeIs F.entry_tuple_iterator_next ?_ (F.args_tuple_iterator_next_1 _)))
  show wpAny _ _ (field (.ref i) 0 >>= _) _ _ s
  refine wpAny_bind (wpAny_field gi di (x := .ref l) rfl ?_)
  show wpAny _ _ (if (Value.ref l == Value.none) = true then _ else _) _ _ s
  rw [if_neg (by exact Bool.false_ne_true : ¬ ((Value.ref l == Value.none) = true))]
  show wpAny _ _ (field (.ref i) 1 >>= _) _ _ s
  refine wpAny_bind (wpAny_field gi di (x := .int k 0) rfl ?_)
  show wpAny _ _ (seqItems? (.ref l) >>= _) _ _ s
  refine wpAny_bind (wpAny_seqItems gt dt ?_)
  simp only [Int.toNat_natCast, e]
  refine wpAny_bind (wpAny_setField gi di (by simp) (wpAny_pure ⟨x, rfl, wpAny_pure (h _ ?_ (Heap.SameBut.update ..))⟩))
  refine ⟨_, Heap.get?_update_self _ gi (Obj.isFreed_of_fields (Obj.data_mapFields di _)), (Obj.cls_mapFields ..).trans ci, ?_⟩
  rw [Obj.data_mapFields di]
  simp [rawInt]
theorem nextOf_tuple_end {i l : Addr} {k : Nat} {xs : Array Value} {Q : Value → Shared → Prop} (hh : A.handled = none) (st : s.heap.IsTupleIter i l k) (tp : s.heap.IsTuple l xs) (e : xs[k]? = none)
    (h : ∀ h' x, Heap.ExtBut i s.heap h' → (∃ o, h'.get? x = some o ∧ o.cls = .type "StopIteration") → E (.ref x) { s with heap := h' }) : wpAny (model prog w) A (Builtin.SmallTypes.nextOf (.ref i)) Q E s := by
  obtain ⟨oi, gi, ci, di⟩ := id st
  obtain ⟨ot, gt, _, nt, dt⟩ := tp
  unfold Builtin.SmallTypes.nextOf
  refine wpAny_bind (wpAny_callSpecial?_slot (name := Str.ofString "__next__") st.typeIs F.slot_tuple_iterator_next (wpAny_call_entry F.slot_tuple_iterator_next st.typeIs F.entry_tuple_iterator_next ?_ (F.args_tuple_iterator_next_1 _)))
  show wpAny _ _ (field (.ref i) 0 >>= _) _ _ s
  refine wpAny_bind (wpAny_field gi di (x := .ref l) rfl ?_)
  show wpAny _ _ (if (Value.ref l == Value.none) = true then _ else _) _ _ s
  rw [if_neg (by exact Bool.false_ne_true : ¬ ((Value.ref l == Value.none) = true))]
  show wpAny _ _ (field (.ref i) 1 >>= _) _ _ s
  refine wpAny_bind (wpAny_field gi di (x := .int k 0) rfl ?_)
  show wpAny _ _ (seqItems? (.ref l) >>= _) _ _ s
  refine wpAny_bind (wpAny_seqItems gt dt ?_)
  simp only [Int.toNat_natCast, e]
  refine wpAny_bind (wpAny_rule (wpAny_bind (wpAny_setField gi di (by simp) ?_)))
  show wpAny _ _ (newExc (.type "StopIteration") [] >>= _) _ _ _
  refine wpAny_bind ?_
  simp only [newExc, newTuple]
  refine wpAny_bind (wpAny_newObj_type ?_ (by size_fits))
  refine wpAny_bind (m := firstArgMember _ _) (wpAny_of_eq (a := Value.none) (by first | rfl | (simp only [firstArgMember] <;> rfl)) ?_)
  refine wpAny_newObj_type ?_ (by size_fits)
  simp only [raiseNew]
  refine wpAny_bind (wpAny_handled ?_)
  first | rw [(hh : A.in1.handled = none)] | rw [hh]
  refine wpAny_bind (wpAny_pure (wpAny_throw ?_))
  exact h _ _ (((Heap.SameBut.update ..).extBut.push _).push _) ⟨_, Heap.get?_push_size _ rfl, rfl⟩
theorem nextOf_seq {b : Bool} {i l : Addr} {k : Nat} {xs : Array Value} {x : Value} {Q : Value → Shared → Prop} (st : iterIs b s.heap i l k) (tp : seqIs b s.heap l xs) (e : xs[k]? = some x)
    (h : ∀ h', iterIs b h' i l (k + 1) → Heap.SameBut i s.heap h' → Q x { s with heap := h' }) : wpAny (model prog w) A (Builtin.SmallTypes.nextOf (.ref i)) Q E s := by
  cases b
  · exact nextOf_tuple st tp e h
  · exact wpAny_nextOf_list_item st tp e h
theorem nextOf_seq_end {b : Bool} {i l : Addr} {k : Nat} {xs : Array Value} {Q : Value → Shared → Prop} (hh : A.handled = none) (st : iterIs b s.heap i l k) (tp : seqIs b s.heap l xs) (e : xs[k]? = none)
    (h : ∀ h' x, Heap.ExtBut i s.heap h' → (∃ o, h'.get? x = some o ∧ o.cls = .type "StopIteration") → E (.ref x) { s with heap := h' }) : wpAny (model prog w) A (Builtin.SmallTypes.nextOf (.ref i)) Q E s := by
  cases b
  · exact nextOf_tuple_end hh st tp e h
  · exact wpAny_nextOf_list_end hh st tp e h
theorem zip_item {z TI TO i1 i2 l1 l2 : Addr} {b1 b2 : Bool} {k1 k2 : Nat} {xs ys : Array Value} {x y a b : Value} {Q : Option Value → Shared → Prop} (D : ZipApart z TI TO i1 i2 l1 l2)
    (hz : IsZip s.heap z TI TO .none) (hTI : IsPair s.heap TI (.ref i1) (.ref i2)) (hTO : IsPair s.heap TO a b) (h1 : iterIs b1 s.heap i1 l1 k1) (h2 : iterIs b2 s.heap i2 l2 k2) (q1 : seqIs b1 s.heap l1 xs) (q2 : seqIs b2 s.heap l2 ys) (hx : xs[k1]? = some x) (hy : ys[k2]? = some y)
    (hQ : ∀ h', IsZip h' z TI TO (rawInt s.heap.objs.size) → IsPair h' TO x y → iterIs b1 h' i1 l1 (k1 + 1) → iterIs b2 h' i2 l2 (k2 + 1) → IsPair h' s.heap.objs.size x y →
      (∀ c o, c ≠ z → c ≠ TO → c ≠ i1 → c ≠ i2 → s.heap.get? c = some o → h'.get? c = some o) → Q (some (.ref s.heap.objs.size)) { s with heap := h' }) : wpAny (model prog w) A (pyNext (.ref z)) Q E s := by
  have ty : s.TypeIs (.ref z) "zip" := ⟨_, hz, rfl⟩
  unfold pyNext
  refine wpAny_bind (wpAny_attempt (wpAny_callSpecial?_slot (name := Str.ofString "__next__") ty F.slot_zip_next (wpAny_call_entry F.slot_zip_next ty F.entry_zip_next ?_ (F.args_zip_next_1 _))))
  show wpAny _ _ (field (.ref z) 2 >>= _) _ _ _
  refine wpAny_bind (wpAny_field hz rfl (x := .bool false) rfl ?_)
  show wpAny _ _ (field (.ref z) 3 >>= _) _ _ _
  refine wpAny_bind (wpAny_field hz rfl (x := .ref TI) rfl (wpAny_bind (wpAny_seqItems hTI rfl ?_)))
  show wpAny _ _ (Builtin.SmallTypes.ownedTupleIsFree (.ref z) >>= _) _ _ _
  refine wpAny_bind ?_
  unfold Builtin.SmallTypes.ownedTupleIsFree
  refine wpAny_bind (wpAny_field hz rfl (x := .none) rfl (wpAny_pure ?_))
  simp only [if_true]
  refine wpAny_bind (wpAny_rule (wpAny_bind (wpAny_field hz rfl (x := .ref TO) rfl (wpAny_bind (wpAny_setField_rec hz (by simp) fun g1 z1 s1 => ?_)))))
  have Z1 : IsZip g1 z TI TO .ellipsis := z1
  refine wpAny_bind ?_
  simp only [List.zipIdx_cons, List.zipIdx_nil, List.forIn_cons, List.forIn_nil]
  refine wpAny_bind (wpAny_bind (wpAny_onRaise ?_))
  show wpAny _ _ (Builtin.SmallTypes.nextOf (.ref i1) >>= _) _ _ _
  refine wpAny_bind (nextOf_seq (h1.at_ fun o e => s1.extBut _ o D.i1z e) (q1.at_ fun o e => s1.extBut _ o D.l1z e) hx fun g2 n2 s2 => wpAny_pure ?_)
  have P2 : IsPair g2 TO a b := s2.extBut _ _ D.TOi1 (s1.extBut _ _ D.TOz hTO)
  refine wpAny_bind (wpAny_seqItems P2 rfl (wpAny_bind (wpAny_updateSeq_pair P2 fun g3 p3 s3 => wpAny_bind (wpAny_letGo (wpAny_pure ?_)))))
  have P3 : IsPair g3 TO x b := p3
  refine wpAny_bind (wpAny_bind (wpAny_onRaise ?_))
  show wpAny _ _ (Builtin.SmallTypes.nextOf (.ref i2) >>= _) _ _ _
  refine wpAny_bind (nextOf_seq (h2.at_ fun o e => s3.extBut _ o D.TOi2.symm (s2.extBut _ o D.i12.symm (s1.extBut _ o D.i2z e))) (q2.at_ fun o e => s3.extBut _ o D.l2TO (s2.extBut _ o D.l2i1 (s1.extBut _ o D.l2z e))) hy fun g4 n4 s4 => wpAny_pure ?_)
  have P4 : IsPair g4 TO x b := s4.extBut _ _ D.TOi2 P3
  refine wpAny_bind (wpAny_seqItems P4 rfl (wpAny_bind (wpAny_updateSeq_pair P4 fun g5 p5 s5 => wpAny_bind (wpAny_letGo (wpAny_pure (wpAny_pure ?_))))))
  have P5 : IsPair g5 TO x y := p5
  refine wpAny_bind (wpAny_seqItems P5 rfl (wpAny_bind (wpAny_newTuple ?_)))
  have sz : g5.objs.size = s.heap.objs.size := by rw [s5.1, s4.1, s3.1, s2.1, s1.1]
  have Z5 : IsZip g5 z TI TO .ellipsis := s5.extBut _ _ D.TOz.symm (s4.extBut _ _ D.i2z.symm (s3.extBut _ _ D.TOz.symm (s2.extBut _ _ D.i1z.symm Z1)))
  have K5 : ∀ c o, c ≠ z → c ≠ TO → c ≠ i1 → c ≠ i2 → s.heap.get? c = some o → g5.get? c = some o := fun c o c1 c2 c3 c4 e => s5.extBut _ _ c2 (s4.extBut _ _ c4 (s3.extBut _ _ c2 (s2.extBut _ _ c3 (s1.extBut _ _ c1 e))))
  have N1 : iterIs b1 g5 i1 l1 (k1 + 1) := n2.at_ fun o e => s5.extBut _ o D.TOi1.symm (s4.extBut _ o D.i12 (s3.extBut _ o D.TOi1.symm e))
  have N2 : iterIs b2 g5 i2 l2 (k2 + 1) := n4.at_ fun o e => s5.extBut _ o D.TOi2.symm e
  have zlt : z < g5.objs.size := Heap.lt_size Z5
  show wpAny _ _ (Builtin.SmallTypes.ownedTupleHandOut (.ref z) (.ref g5.objs.size) >>= _) _ _ _
  refine wpAny_bind ?_
  unfold Builtin.SmallTypes.ownedTupleHandOut
  have Z6 : IsZip (g5.push { cls := .type "tuple", data := .seq #[x, y] }) z TI TO .ellipsis := Heap.get?_push_of_some _ Z5
  refine wpAny_bind (wpAny_setField_rec Z6 (by simp) fun g7 z7 s7 => ?_)
  have Z7 : IsZip g7 z TI TO (rawInt g5.objs.size) := z7
  refine wpAny_setField_rec Z7 (by simp) fun g8 z8 s8 => ?_
  have Z8 : IsZip g8 z TI TO (rawInt g5.objs.size) := z8
  have up : ∀ c o, c ≠ z → g5.get? c = some o → g8.get? c = some o := fun c o c1 e => s8.extBut _ _ c1 (s7.extBut _ _ c1 (Heap.get?_push_of_some _ e))
  have T8 : IsPair g8 g5.objs.size x y := s8.extBut _ _ (Nat.ne_of_gt zlt) (s7.extBut _ _ (Nat.ne_of_gt zlt) (Heap.get?_push_size _ rfl))
  rw [sz] at Z8 T8
  refine wpAny_pure ⟨_, rfl, wpAny_pure ?_⟩
  show Q (some (.ref g5.objs.size)) _
  rw [sz]
  exact hQ g8 Z8 (up _ _ D.TOz P5) (N1.at_ fun o e => up _ o D.i1z e) (N2.at_ fun o e => up _ o D.i2z e) T8 fun c o c1 c2 c3 c4 e => up c o c1 (K5 c o c1 c2 c3 c4 e)
theorem zip_end {z TI TO i1 i2 l1 l2 : Addr} {b1 b2 : Bool} {k1 k2 : Nat} {xs ys : Array Value} {a b : Value} {Q : Option Value → Shared → Prop} (hh : A.handled = none) (D : ZipApart z TI TO i1 i2 l1 l2)
    (hz : IsZip s.heap z TI TO .none) (hTI : IsPair s.heap TI (.ref i1) (.ref i2)) (hTO : IsPair s.heap TO a b) (h1 : iterIs b1 s.heap i1 l1 k1) (h2 : iterIs b2 s.heap i2 l2 k2) (q1 : seqIs b1 s.heap l1 xs) (q2 : seqIs b2 s.heap l2 ys) (hend : xs[k1]? = none ∨ ys[k2]? = none)
    (hQ : ∀ h', (∀ c o, c ≠ z → c ≠ TO → c ≠ i1 → c ≠ i2 → s.heap.get? c = some o → h'.get? c = some o) → Q none { s with heap := h' }) : wpAny (model prog w) A (pyNext (.ref z)) Q E s := by
  have ty : s.TypeIs (.ref z) "zip" := ⟨_, hz, rfl⟩
  have fin : ∀ (h' : Heap) (e : Addr), (∀ c o, c ≠ z → c ≠ TO → c ≠ i1 → c ≠ i2 → s.heap.get? c = some o → h'.get? c = some o) → (∃ o, h'.get? e = some o ∧ o.cls = .type "StopIteration") →
      wpAny (model prog w) A (isInstance (.ref e) (.type "StopIteration") >>= fun r => if r = true then pure none else throw (.ref e)) Q E { s with heap := h' } := fun h' e hk ⟨o, ho, hc⟩ =>
    wpAny_bind (wpAny_isInstance (T := "StopIteration") (b := true) ⟨o, ho, hc⟩ isSubtype_stop (wpAny_pure (hQ _ hk)))
  unfold pyNext
  refine wpAny_bind (wpAny_attempt (wpAny_callSpecial?_slot (name := Str.ofString "__next__") ty F.slot_zip_next (wpAny_call_entry F.slot_zip_next ty F.entry_zip_next ?_ (F.args_zip_next_1 _))))
  show wpAny _ _ (field (.ref z) 2 >>= _) _ _ _
  refine wpAny_bind (wpAny_field hz rfl (x := .bool false) rfl ?_)
  show wpAny _ _ (field (.ref z) 3 >>= _) _ _ _
  refine wpAny_bind (wpAny_field hz rfl (x := .ref TI) rfl (wpAny_bind (wpAny_seqItems hTI rfl ?_)))
  show wpAny _ _ (Builtin.SmallTypes.ownedTupleIsFree (.ref z) >>= _) _ _ _
  refine wpAny_bind ?_
  unfold Builtin.SmallTypes.ownedTupleIsFree
  refine wpAny_bind (wpAny_field hz rfl (x := .none) rfl (wpAny_pure ?_))
  simp only [if_true]
  refine wpAny_bind (wpAny_rule (wpAny_bind (wpAny_field hz rfl (x := .ref TO) rfl (wpAny_bind (wpAny_setField_rec hz (by simp) fun g1 z1 s1 => ?_)))))
  have Z1 : IsZip g1 z TI TO .ellipsis := z1
  refine wpAny_bind ?_
  simp only [List.zipIdx_cons, List.zipIdx_nil, List.forIn_cons, List.forIn_nil]
  refine wpAny_bind (wpAny_bind (wpAny_onRaise ?_))
  show wpAny _ _ (Builtin.SmallTypes.nextOf (.ref i1) >>= _) _ _ _
  have I1 : iterIs b1 g1 i1 l1 k1 := h1.at_ fun o e => s1.extBut _ o D.i1z e
  have L1 : seqIs b1 g1 l1 xs := q1.at_ fun o e => s1.extBut _ o D.l1z e
  cases ex : xs[k1]? with
  | none =>
    refine wpAny_bind (nextOf_seq_end hh I1 L1 ex fun g2 e s2 he => ?_)
    obtain ⟨oe, he, ce⟩ := he
    have Z2 : IsZip g2 z TI TO .ellipsis := s2 _ _ D.i1z.symm Z1
    have nez : e ≠ z := fun q => by subst q; rw [Z2] at he; cases he; simp at ce
    exact wpAny_setField_rec Z2 (by simp) fun g3 _ s3 => fin g3 e (fun c o c1 _ c3 _ q => s3.extBut _ _ c1 (s2 _ _ c3 (s1.extBut _ _ c1 q))) ⟨oe, s3.extBut _ _ nez he, ce⟩
  | some x =>
    have ey : ys[k2]? = none := by
      rcases hend with q | q
      · rw [ex] at q; cases q
      · exact q
    refine wpAny_bind (nextOf_seq I1 L1 ex fun g2 n2 s2 => wpAny_pure ?_)
    have P2 : IsPair g2 TO a b := s2.extBut _ _ D.TOi1 (s1.extBut _ _ D.TOz hTO)
    refine wpAny_bind (wpAny_seqItems P2 rfl (wpAny_bind (wpAny_updateSeq_pair P2 fun g3 p3 s3 => wpAny_bind (wpAny_letGo (wpAny_pure ?_)))))
    refine wpAny_bind (wpAny_bind (wpAny_onRaise ?_))
    show wpAny _ _ (Builtin.SmallTypes.nextOf (.ref i2) >>= _) _ _ _
    refine wpAny_bind (nextOf_seq_end hh (h2.at_ fun o e => s3.extBut _ o D.TOi2.symm (s2.extBut _ o D.i12.symm (s1.extBut _ o D.i2z e))) (q2.at_ fun o e => s3.extBut _ o D.l2TO (s2.extBut _ o D.l2i1 (s1.extBut _ o D.l2z e))) ey fun g4 e s4 he => ?_)
    obtain ⟨oe, he, ce⟩ := he
    have Z4 : IsZip g4 z TI TO .ellipsis := s4 _ _ D.i2z.symm (s3.extBut _ _ D.TOz.symm (s2.extBut _ _ D.i1z.symm Z1))
    have nez : e ≠ z := fun q => by subst q; rw [Z4] at he; cases he; simp at ce
    exact wpAny_setField_rec Z4 (by simp) fun g5 _ s5 => fin g5 e (fun c o c1 c2 c3 c4 q => s5.extBut _ _ c1 (s4 _ _ c4 (s3.extBut _ _ c2 (s2.extBut _ _ c3 (s1.extBut _ _ c1 q))))) ⟨oe, s5.extBut _ _ nez he, ce⟩
noncomputable abbrev zo1 (b1 : Bool) (h : Heap) (l1 : Addr) : Heap := h.push (iterObj b1 l1)
noncomputable abbrev zo2 (b1 b2 : Bool) (h : Heap) (l1 l2 : Addr) : Heap := (zo1 b1 h l1).push (iterObj b2 l2)
noncomputable abbrev zo3 (b1 b2 : Bool) (h : Heap) (l1 l2 : Addr) : Heap := (zo2 b1 b2 h l1 l2).push { cls := .type "tuple", data := .seq #[.ref h.objs.size, .ref (zo1 b1 h l1).objs.size] }
noncomputable abbrev zo4 (b1 b2 : Bool) (h : Heap) (l1 l2 : Addr) : Heap := (zo3 b1 b2 h l1 l2).push { cls := .type "tuple", data := .seq #[.none, .none] }
noncomputable abbrev zo5 (b1 b2 : Bool) (h : Heap) (l1 l2 : Addr) : Heap := (zo4 b1 b2 h l1 l2).push { cls := .type "zip", data := .fields #[.none, .bool false, .bool false, .ref (zo2 b1 b2 h l1 l2).objs.size, .ref (zo3 b1 b2 h l1 l2).objs.size] }
theorem zip_new (b1 b2 : Bool) (l1 l2 : Addr) (xs ys : Array Value) : Meets (Builtin.«zip.__new__» ⟨[.type "zip", .ref l1, .ref l2], []⟩) (fun _ R s => seqIs b1 s.heap l1 xs ∧ seqIs b2 s.heap l2 ys ∧
      R (.ok (.ret (.ref (zo4 b1 b2 s.heap l1 l2).objs.size))) { s with heap := zo5 b1 b2 s.heap l1 l2 }) := by
  refine .of_wp fun prog w A R s q => ?_
  obtain ⟨hp, g, d, tk, os⟩ := s
  obtain ⟨q1, q2, q⟩ := q
  have sub := sub_zip
  have L1 : seqIs b1 (Shared.heap ⟨hp, g, d, tk, os⟩) l1 xs := q1
  have L2' : seqIs b2 (Shared.heap ⟨hp.push (iterObj b1 l1), g, d, tk, os⟩) l2 ys := q2.at_ fun o z => Heap.get?_push_of_some _ z
  wp_walk using pyIter_seq L1, pyIter_seq L2'
  exact ⟨_, rfl, q⟩
theorem call_zip {b1 b2 : Bool} {l1 l2 : Addr} {xs ys : Array Value} {Q : Value → Shared → Prop} (q1 : seqIs b1 s.heap l1 xs) (q2 : seqIs b2 s.heap l2 ys)
    (h : ∀ h', IsZip h' (s.heap.objs.size + 4) (s.heap.objs.size + 2) (s.heap.objs.size + 3) .none → IsPair h' (s.heap.objs.size + 2) (.ref s.heap.objs.size) (.ref (s.heap.objs.size + 1)) → IsPair h' (s.heap.objs.size + 3) .none .none →
      iterIs b1 h' s.heap.objs.size l1 0 → iterIs b2 h' (s.heap.objs.size + 1) l2 0 → (∀ c o, s.heap.get? c = some o → h'.get? c = some o) → Q (.ref (s.heap.objs.size + 4)) { s with heap := h' }) :
    wpAny (model prog w) A (call (.type "zip") [.ref l1, .ref l2]) Q E s := by
  refine callType_new F.called_zip (by decide) (F.typeCall_zip_2 _ _) (F.newCall_zip_2 _ _) (fun obj => F.args_object_init_3 obj _ _) F.entry_zip_new (zip_new b1 b2 l1 l2 xs ys) ⟨q1, q2, ?_⟩
  have y1 : (zo1 b1 s.heap l1).objs.size = s.heap.objs.size + 1 := Heap.size_push ..
  have y2 : (zo2 b1 b2 s.heap l1 l2).objs.size = s.heap.objs.size + 2 := by rw [Heap.size_push, y1]
  have y3 : (zo3 b1 b2 s.heap l1 l2).objs.size = s.heap.objs.size + 3 := by rw [Heap.size_push, y2]
  have y4 : (zo4 b1 b2 s.heap l1 l2).objs.size = s.heap.objs.size + 4 := by rw [Heap.size_push, y3]
  have k5 : (zo5 b1 b2 s.heap l1 l2).get? (zo4 b1 b2 s.heap l1 l2).objs.size = some _ := Heap.get?_push_size _ rfl
  have k4 : (zo5 b1 b2 s.heap l1 l2).get? (zo3 b1 b2 s.heap l1 l2).objs.size = some _ := Heap.get?_push_of_some _ (Heap.get?_push_size _ rfl)
  have k3 : (zo5 b1 b2 s.heap l1 l2).get? (zo2 b1 b2 s.heap l1 l2).objs.size = some _ := Heap.get?_push_of_some _ (Heap.get?_push_of_some _ (Heap.get?_push_size _ rfl))
  have k2 : (zo5 b1 b2 s.heap l1 l2).get? (zo1 b1 s.heap l1).objs.size = some (iterObj b2 l2) := Heap.get?_push_of_some _ (Heap.get?_push_of_some _ (Heap.get?_push_of_some _ (Heap.get?_push_size _ (by cases b2 <;> rfl))))
  have k1 : (zo5 b1 b2 s.heap l1 l2).get? s.heap.objs.size = some (iterObj b1 l1) := Heap.get?_push_of_some _ (Heap.get?_push_of_some _ (Heap.get?_push_of_some _ (Heap.get?_push_of_some _ (Heap.get?_push_size _ (by cases b1 <;> rfl)))))
  show _ ∧ _
  rw [y2, y3, y4] at k5
  rw [y1, y2] at k3
  rw [y3] at k4
  rw [y1] at k2
  rw [y4]
  exact ⟨⟨_, k5, rfl⟩, h _ k5 k3 k4 (iterIs.mk_ k1) (iterIs.mk_ k2) fun c o x => Heap.get?_push_of_some _ (Heap.get?_push_of_some _ (Heap.get?_push_of_some _ (Heap.get?_push_of_some _ (Heap.get?_push_of_some _ x))))⟩
end
end L2
namespace L2
open PySem PySem.Spec PyProof.Rows
noncomputable def SqB (K : PySem.W.Frag) (b : Bool) (H : Hp) (p : Addr) (xs : List V) : Prop := match b with
  | true => SqL K H p xs
  | false => SqT K H p xs
section
variable {X : Cx} {pins : List (Addr × Obj)} {σ : St} {H : Hp} {s : Shared} {b b1 b2 : Bool} {p p1 p2 : Addr} {xs ys : List V}
theorem Inv.seqB (I : Inv X pins σ H s) (h : SqB X.K b H p xs) : ∃ its : List Value, Vals xs its ∧ seqIs b s.heap p its.toArray ∧ xs.length ≤ sizeLine := by
  cases b
  · obtain ⟨its, r, q, hz⟩ := I.tuple (show SqT X.K H p xs from h)
    exact ⟨its, r, (show s.heap.IsTuple p its.toArray from q), hz⟩
  · obtain ⟨its, r, q, hz⟩ := I.list (show SqL X.K H p xs from h)
    exact ⟨its, r, (show s.heap.IsList p its.toArray from q.isList), hz⟩
theorem Inv.seqB_inj (I : Inv X pins σ H s) (h : SqB X.K b H p xs) (h' : SqB X.K b H p ys) : xs = ys := by
  cases b
  · exact I.tuple_inj h h'
  · exact I.list_inj h h'
end
noncomputable def Itz (K : PySem.W.Frag) (b1 b2 : Bool) (p1 p2 : Addr) : It :=
  ⟨fun i H => ∃ xs ys x y, SqB K b1 H p1 xs ∧ SqB K b2 H p2 ys ∧ xs[i]? = some x ∧ ys[i]? = some y,
   fun i H v H' => ∃ T x y, v = .ref T ∧ H T = none ∧ H' = upd H T (.tup [x, y]) ∧ (∀ xs, SqB K b1 H p1 xs → xs[i]? = some x) ∧ ∀ ys, SqB K b2 H p2 ys → ys[i]? = some y,
   fun i H => ∃ xs ys, SqB K b1 H p1 xs ∧ SqB K b2 H p2 ys ∧ (xs.length ≤ i ∨ ys.length ≤ i)⟩
noncomputable def zipAt (b1 b2 : Bool) (p1 p2 z TI TO i1 i2 : Addr) (i : Nat) (h : Heap) : Prop := IsZip h z TI TO .none ∧ IsPair h TI (.ref i1) (.ref i2) ∧ (∃ a b, IsPair h TO a b) ∧ iterIs b1 h i1 p1 i ∧ iterIs b2 h i2 p2 i
theorem turn_zip {P : Program} {w : World} {K : PySem.W.Frag} {elts : List Expr} {x1 : Nat} {pos : Pos} (b1 b2 : Bool) {p1 p2 z TI TO i1 i2 : Addr} (D : ZipApart z TI TO i1 i2 p1 p2) :
    Turn P w K (.Tuple elts x1 pos) (Itz K b1 b2 p1 p2) [z, TI, TO, i1, i2] z (zipAt b1 b2 p1 p2 z TI TO i1 i2) where
  mem := by simp
  obj := fun i h st c hc => by
    obtain ⟨hz, hI, ⟨a, b, hO⟩, j1, j2⟩ := st
    simp only [List.mem_cons, List.not_mem_nil, or_false] at hc
    rcases hc with rfl | rfl | rfl | rfl | rfl
    · exact ⟨_, hz, fun v e => by cases e⟩
    · exact ⟨_, hI, fun v e => by cases e⟩
    · exact ⟨_, hO, fun v e => by cases e⟩
    · exact j1.obj
    · exact j2.obj
  keep := fun i h h' st k => by
    obtain ⟨hz, hI, ⟨a, b, hO⟩, j1, j2⟩ := st
    exact ⟨k z (by simp) _ hz, k TI (by simp) _ hI, ⟨a, b, k TO (by simp) _ hO⟩, j1.at_ fun o e => k i1 (by simp) o e, j2.at_ fun o e => k i2 (by simp) o e⟩
  item := by
    intro X hP hw hK hc i pins s σ H E I hf st hg
    subst hP hw hK
    obtain ⟨xs, ys, x, y, q1, q2, ex, ey⟩ := hg
    obtain ⟨it1, r1, t1, _⟩ := I.seqB q1
    obtain ⟨it2, r2, t2, _⟩ := I.seqB q2
    obtain ⟨u, eu, ru⟩ := r1.get ex
    obtain ⟨v, ev, rv⟩ := r2.get ey
    obtain ⟨hz, hI, ⟨a, b, hO⟩, j1, j2⟩ := st
    refine zip_item D hz hI hO j1 j2 t1 t2 (x := u) (y := v) (by simpa using eu) (by simpa using ev) fun h' z' o' n1 n2 tp kk => ?_
    refine ⟨_, rfl, ?_⟩
    refine wpAny_letOwnedTupleGo_zip z' fun h'' z'' s'' => ?_
    have fresh : H s.heap.objs.size = none := I.hok.fresh (Nat.le_refl _)
    have zne : s.heap.objs.size ≠ z := fun e => by
      have := Heap.lt_size hz
      rw [← e] at this
      exact Nat.lt_irrefl _ this
    have keep : ∀ c o, c ∉ [z, TI, TO, i1, i2] → s.heap.get? c = some o → h''.get? c = some o := fun c o hc e => by
      simp only [List.mem_cons, List.not_mem_nil, or_false, not_or] at hc
      exact s''.extBut c o hc.1 (kk c o hc.1 hc.2.2.1 hc.2.2.2.1 hc.2.2.2.2 e)
    have tp' : h''.get? s.heap.objs.size = some { cls := .type "tuple", data := .seq #[u, v] } := s''.extBut _ _ zne tp
    have I' : Inv X pins σ (upd H s.heap.objs.size (.tup [x, y])) { s with heap := h'', toks := s.toks } := by
      refine I.step (g' := s.gens) (d' := s.drawn) (ch := [z, TI, TO, i1, i2]) (fun c hc => ?_) (fun c o _ _ hc e _ => keep c o hc e) (fun c o _ _ hc e _ => ⟨o.slots, keep c o hc e⟩) (fun c o _ e n => ?_) (fun c o hc e => ⟨o, keep c o hc e⟩)
        (fun c zs e => ?_) (fun c o w' e => ?_) (fun c ps e => ⟨#[], ?_⟩) (fun m hm => ?_) (fun c o e => ?_) I.bare
      · obtain ⟨_, f1, f2, f3, f4, f5⟩ := hf c hc
        exact ⟨f3, f1, f4, f5⟩
      · rw [upd_ne (Nat.ne_of_lt (Heap.lt_size e))]; exact n
      · rw [upd_ne (ne_of_none e fresh)]; exact e
      · rw [upd_ne (ne_of_none e fresh)]; exact e
      · rw [upd_ne (ne_of_none e fresh), e]; simp
      · obtain ⟨o, es, ep, ho, r⟩ := hm
        exact ⟨o, es, ep, keep _ o (fun q => (hf _ q).2.1 rfl) ho, r⟩
      · by_cases hb : c = s.heap.objs.size
        · subst hb
          rw [upd_same] at e
          cases e
          exact ⟨by show 2 ≤ sizeLine; decide, [u, v], .cons ru (.cons rv .nil), ⟨_, tp', ⟨rfl, _, rfl⟩, rfl⟩⟩
        · rw [upd_ne hb] at e
          refine (I.hok c o e).stay (fun d w' hd q => keep d w' (fun m => ?_) q) (fun d q => ?_) fun d zs q => ?_
          · have n := (hf d m).1
            rcases hd with rfl | hd
            · rw [n] at e; cases e
            · rw [n] at hd; cases hd
          · rw [upd_ne (ne_of_none q fresh)]; exact q
          · rw [upd_ne (ne_of_none q fresh)]; exact q
    refine ⟨.ref s.heap.objs.size, _, I', rfl, ⟨_, x, y, rfl, fresh, rfl, fun zs q => by rw [I.seqB_inj q q1]; exact ex, fun zs q => by rw [I.seqB_inj q q2]; exact ey⟩, ?_, fun c hc => ?_⟩
    · refine ⟨z'', s''.extBut _ _ D.TIz (kk _ _ D.TIz D.TITO D.TIi1 D.TIi2 hI), ⟨u, v, s''.extBut _ _ D.TOz o'⟩, n1.at_ fun o e => s''.extBut _ o D.i1z e, n2.at_ fun o e => s''.extBut _ o D.i2z e⟩
    · have lt : c < s.heap.objs.size := by
        simp only [List.mem_cons, List.not_mem_nil, or_false] at hc
        rcases hc with rfl | rfl | rfl | rfl | rfl
        · exact Heap.lt_size hz
        · exact Heap.lt_size hI
        · exact Heap.lt_size hO
        · obtain ⟨o, e, _⟩ := j1.obj; exact Heap.lt_size e
        · obtain ⟨o, e, _⟩ := j2.obj; exact Heap.lt_size e
      rw [upd_ne (Nat.ne_of_lt lt)]
      exact (hf c hc).1
  done := by
    intro X hP hw hK hc i pins s σ H E I hf st hg
    subst hP hw hK
    obtain ⟨xs, ys, q1, q2, hl⟩ := hg
    obtain ⟨it1, r1, t1, _⟩ := I.seqB q1
    obtain ⟨it2, r2, t2, _⟩ := I.seqB q2
    obtain ⟨hz, hI, ⟨a, b, hO⟩, j1, j2⟩ := st
    have l1 := r1.length
    have l2 := r2.length
    refine zip_end (I.ok.hd hc) D hz hI hO j1 j2 t1 t2 (by rcases hl with h | h; exact .inl (by simp; omega); exact .inr (by simp; omega)) fun h' kk => ⟨rfl, ?_⟩
    have keep : ∀ c o, c ∉ [z, TI, TO, i1, i2] → s.heap.get? c = some o → h'.get? c = some o := fun c o hc e => by
      simp only [List.mem_cons, List.not_mem_nil, or_false, not_or] at hc
      exact kk c o hc.1 hc.2.2.1 hc.2.2.2.1 hc.2.2.2.2 e
    show Inv X pins σ H { s with heap := h', toks := s.toks }
    refine I.step (g' := s.gens) (d' := s.drawn) (ch := [z, TI, TO, i1, i2]) (fun c hc => ?_) (fun c o _ _ hc e _ => keep c o hc e) (fun c o _ _ hc e _ => ⟨o.slots, keep c o hc e⟩) (fun c o _ e n => n) (fun c o hc e => ⟨o, keep c o hc e⟩)
      (fun c zs e => e) (fun c o w' e => e) (fun c ps e => ⟨#[], by rw [e]; simp⟩) (fun m hm => ?_) (fun c o e => ?_) I.bare
    · obtain ⟨_, f1, f2, f3, f4, f5⟩ := hf c hc
      exact ⟨f3, f1, f4, f5⟩
    · obtain ⟨o, es, ep, ho, r⟩ := hm
      exact ⟨o, es, ep, keep _ o (fun q => (hf _ q).2.1 rfl) ho, r⟩
    · refine (I.hok c o e).stay (fun d w' hd q => keep d w' (fun m => ?_) q) (fun d q => q) fun d zs q => q
      have n := (hf d m).1
      rcases hd with rfl | hd
      · rw [n] at e; cases e
      · rw [n] at hd; cases hd
  self := fun _ _ _ _ _ st h => wpAny_pyIter_zip st.1 h
section
variable {X : Cx} {a b : Expr} {ta : TA} {p pos : Pos} {elts : List Expr} {x1 : Nat} {tp : Pos}
noncomputable def iZip (K : PySem.W.Frag) (b1 b2 : Bool) (ta : TA) : TI := fun σ H R => ta σ H fun vs H1 => ∃ p1 p2, vs = [.ref p1, .ref p2] ∧ (∃ xs, SqB K b1 H1 p1 xs) ∧ (∃ ys, SqB K b2 H1 p2 ys) ∧ R (Itz K b1 b2 p1 p2) H1
theorem pi_zip {K : PySem.W.Frag} (b1 b2 : Bool) (hK : X.K = K) (hg : Gl X "zip") (hm : X.mg "zip" = none) (ha : PA X [a, b] ta) (he : starEach [a, b] X.env = (false, eval a X.env) :: starEach [b] X.env := by rfl) (hpl : (backTo pos (starEach [b] X.env)).any (·.1) = false := by rfl) :
    PI X (.Tuple elts x1 tp) (.Call (.Name "zip" p) [a, b] [] pos) (iZip K b1 b2 ta) := by
  subst hK
  intro pins s σ H R I h
  refine wpAny_Call_Name_kw (ld_blt I hg hm (u := .type "zip") (by rfl) ?_)
  refine PyProof.Rows.callWith_type1 (thn (ha pos pins s σ H _ I h) fun us s1 h1 => ?_) he hpl
  obtain ⟨vs, H1, I1, r1, p1, p2, rfl, ⟨xs, q1⟩, ⟨ys, q2⟩, k⟩ := h1
  obtain ⟨u, w', rfl, ru, rw'⟩ := vals2 r1
  cases (show u = Value.ref p1 from ru)
  cases (show w' = Value.ref p2 from rw')
  obtain ⟨it1, r1, t1, _⟩ := I1.seqB q1
  obtain ⟨it2, r2, t2, _⟩ := I1.seqB q2
  have lt : ∀ {c : Addr} {b : Bool} {zs : Array Value}, seqIs b s1.heap c zs → c < s1.heap.objs.size := fun {c b zs} q => by
    cases b
    · obtain ⟨o, e, _⟩ := (show s1.heap.IsTuple c zs from q); exact Heap.lt_size e
    · obtain ⟨o, e, _⟩ := (show s1.heap.IsList c zs from q); exact Heap.lt_size e
  refine call_zip t1 t2 fun h' hz hI hO j1 j2 kk => wpAny_pyIter_zip hz ?_
  have D := zipApart_new (lt t1) (lt t2)
  have I2 : Inv X pins σ H1 { s1 with heap := h', toks := s1.toks } := I1.kept kk
  refine ⟨_, _, _, _, H1, rfl, I2, turn_zip b1 b2 D, ⟨hz, hI, ⟨_, _, hO⟩, j1, j2⟩, fun c hc => ?_, k⟩
  have le : s1.heap.objs.size ≤ c := by
    simp only [List.mem_cons, List.not_mem_nil, or_false] at hc
    rcases hc with rfl | rfl | rfl | rfl | rfl <;> first | exact Nat.le_refl _ | exact Nat.le_add_right _ _
  exact I1.fpOk le (I1.hok.fresh le)
end
end L2
set_option Elab.async false
set_option linter.all false
set_option maxRecDepth 100000
set_option maxHeartbeats 4000000
namespace L2
open PySem PySem.Spec PyProof.Rows
end L2
set_option Elab.async false
set_option linter.all false
set_option maxRecDepth 100000
set_option maxHeartbeats 4000000
namespace L2
open PySem PySem.Spec PyProof.Rows
section
variable {X : Cx}
theorem preSum_list : ∀ (ns : List Int) (k : Nat), k ≤ ns.length → preSum (fun i => ns.getD i 0) k = (ns.take k).sum
  | ns, 0, _ => by simp [preSum]
  | ns, k + 1, h => by
    have hk : k < ns.length := h
    rw [preSum, preSum_list ns k (Nat.le_of_lt hk), List.take_add_one, List.getElem?_eq_getElem hk, List.sum_append]
    have e : ns.getD k 0 = ns[k] := by rw [List.getD_eq_getElem?_getD, List.getElem?_eq_getElem hk]; rfl
    rw [e]
    simp
theorem vals_nums_get : ∀ {ns : List Int} {us : List Value} {i : Nat} {v : Value}, Vals (ns.map V.int) us → us[i]? = some v → ∃ t, v = .int (ns.getD i 0) t
  | [], us, i, v, r, e => by cases r; simp at e
  | n :: ns, us, 0, v, r, e => by
    cases r with
    | cons h t =>
      obtain ⟨tk, q⟩ := h
      simp at e
      exact ⟨tk, by rw [← e, q]; rfl⟩
  | n :: ns, us, i + 1, v, r, e => by
    cases r with
    | cons h t =>
      obtain ⟨tk, q⟩ := vals_nums_get (i := i) t (by simpa using e)
      exact ⟨tk, by rw [q]; rfl⟩
end
end L2
set_option Elab.async false
set_option linter.all false
set_option maxRecDepth 100000
set_option maxHeartbeats 4000000
namespace L2
open PySem PySem.Spec PyProof.Rows
noncomputable def Exc (B : Heap) (e : Addr) (cls fl : Value) (h : Heap) : Prop :=
  ∃ oe vs T oT ts, h.get? e = some oe ∧ oe.cls = cls ∧ oe.dict = none ∧ oe.data = .fields vs ∧ vs[1]? = some (.ref T) ∧ B.get? T = none ∧ T ≠ e ∧ h.get? T = some oT ∧ oT.data = .fields ts ∧ ts[3]? = some fl
structure FlyD (B : Heap) (l : List Env) (e : Addr) (cls fl : Value) (h : Heap) : Prop where
  st : B.StaysIn h
  new : B.get? e = none
  fr : h.FunFrames B l
  ex : Exc B e cls fl h
section
variable {M : Model} {A : Around} {E : Value → Shared → Prop} {s : Shared} {B : Heap} {env : Env} {outer l : List Env} {L e : Addr} {cls fl : Value} {Q : Unit → Shared → Prop}
theorem fr_ne {h : Heap} (hl : h.FunFrames B l) {b : Addr} {o : Obj} {vs : Array Value} (ho : h.get? b = some o) (hd : o.data = .fields vs) : b ∉ l.filterMap (·.frame) := fun hb => by
  obtain ⟨_, o1, e1, d1⟩ := hl.mem hb
  rw [ho] at e1
  cases e1
  exact d1 vs hd
theorem step_rec {h : Heap} {b : Addr} {o : Obj} {vs : Array Value} {g : Array Value → Array Value} (st : B.StaysIn h) (hl : h.FunFrames B l) (hn : B.get? b = none) (ho : h.get? b = some o) (hd : o.data = .fields vs) :
    B.StaysIn (h.update b (Obj.mapFields g)) ∧ (h.update b (Obj.mapFields g)).FunFrames B l ∧ h.UpToSlots (h.update b (Obj.mapFields g)) ∧ (h.update b (Obj.mapFields g)).get? b = some (Obj.mapFields g o) ∧ ∀ c, c ≠ b → (h.update b (Obj.mapFields g)).get? c = h.get? c := by
  have oth : ∀ c, c ≠ b → (h.update b (Obj.mapFields g)).get? c = h.get? c := fun c hc => Heap.get?_update_other _ _ (Ne.symm hc)
  have nrec : ∀ c u, h.get? c = some u → (∀ ws, u.data ≠ .fields ws) → c ≠ b := fun c u q nf z => by
    rw [z, ho] at q
    cases q
    exact nf vs hd
  refine ⟨fun c u q => (oth c fun z => by rw [z, hn] at q; cases q).trans (st c u q), hl.of_keeps fun c u q nf => ⟨u, (oth c (nrec c u q nf)).trans q, rfl⟩, fun c u q nf => ⟨u.slots, (oth c (nrec c u q nf)).trans q⟩, ?_, oth⟩
  exact Heap.get?_update_self _ ho (Obj.isFreed_of_fields (Obj.data_mapFields hd g))
theorem fly_land (F : FlyD B l e cls fl s.heap) (k : ∀ h', FlyD B l e cls .none h' → s.heap.UpToSlots h' → Q () { s with heap := h' }) : wpAny M A (setFlight (.ref e) none) Q E s := by
  obtain ⟨oe, vs, T, oT, ts, he, hc, hdn, hd, h1, hnT, hTe, hT, hdT, h3⟩ := F.ex
  obtain ⟨k1, k2, k3, k4, k5⟩ := step_rec (g := (·.setIfInBounds 3 ((none : Option Addr).elim Value.none fun f => rawInt f))) F.st F.fr hnT hT hdT
  unfold setFlight
  refine wpAny_bind (wpAny_field he hd h1 ?_)
  rw [if_pos (by simp : (Value.ref T != Value.none) = true)]
  refine wpAny_setField hT hdT (Array.getElem?_eq_some_iff.mp h3).1 (k _ ⟨k1, F.new, k2, ?_⟩ k3)
  have sz := (Array.getElem?_eq_some_iff.mp h3).1
  exact ⟨oe, vs, T, _, _, (k5 e (Ne.symm hTe)).trans he, hc, hdn, hd, h1, hnT, hTe, k4, Obj.data_mapFields hdT _, by simp [sz]⟩
theorem fly_entry {oe : Obj} {vs : Array Value} {head : Value} {hn : Bool} (hfr : A.frames = some (env :: outer)) (hf : env.frame = some L) (st : B.StaysIn s.heap) (hl : s.heap.FunFrames B (env :: outer)) (new : B.get? e = none)
    (he : s.heap.get? e = some oe) (hd : oe.data = .fields vs) (hdn : oe.dict = none) (sz : 1 < vs.size)
    (k : ∀ h', FlyD B (env :: outer) e oe.cls (rawInt L) h' → s.heap.UpToSlots h' → Q () { s with heap := h' }) :
    wpAny M A (do let a ← frameOf env; let pl ← entryPlaceOf L hn; let b ← EntryCells.newEntry head a .none (rawInt L) .none pl; setField (.ref e) 1 b) Q E s := by
  have nef := fr_ne hl he hd
  refine wpAny_bind (wpAny_frameOf_fun hfr hl hf fun h1 so => wpAny_bind (wpAny_entryPlaceOf fun pl hpl => ?_))
  have st1 : B.StaysIn h1 := fun b o q => (so.2.1 b fun z => by rw [(hl.mem z).1] at q; cases q).trans (st b o q)
  have fr1 : h1.FunFrames B (env :: outer) := hl.of_keeps fun b o q nf => by
    obtain ⟨sl, z⟩ := so.2.2 b o q
    exact ⟨_, z, rfl⟩
  have e1 : h1.get? e = some oe := (so.2.1 e nef).trans he
  unfold EntryCells.newEntry newFields
  refine wpAny_bind (wpAny_newObj_type ?_ (hpl.sizeOk5 _ _ _ _ _))
  generalize hO : ({ cls := .type "traceback", dict := none, data := .fields ([head, .ref L, .none, rawInt L, .none] ++ (if pl.isEmpty then List.replicate 6 Value.none else pl)).toArray } : Obj) = oT
  have dT : oT.data = .fields ([head, .ref L, .none, rawInt L, .none] ++ (if pl.isEmpty then List.replicate 6 Value.none else pl)).toArray := by rw [← hO]
  have nfT : oT.isFreed = false := by rw [← hO]; rfl
  have kp : ∀ b o, h1.get? b = some o → (h1.push oT).get? b = some o := fun b o q => Heap.get?_push_of_some oT q
  have fr2 : (h1.push oT).FunFrames B (env :: outer) := fr1.of_keeps fun b o q nf => ⟨o, kp b o q, rfl⟩
  obtain ⟨k1, k2, k3, k4, k5⟩ := step_rec (g := (·.setIfInBounds 1 (Value.ref h1.objs.size))) (fun b o q => kp b o (st1 b o q)) fr2 new (kp _ _ e1) hd
  have neT : h1.objs.size ≠ e := Nat.ne_of_gt (Heap.lt_size e1)
  refine wpAny_setField (kp _ _ e1) hd sz (k _ ⟨k1, new, k2, _, _, h1.objs.size, oT, _, k4, Obj.cls_mapFields _ _, ?_, Obj.data_mapFields hd _, by simp [sz], st1.fresh, neT, (k5 _ neT).trans (Heap.get?_push_size h1 nfT), dT, ?_⟩ ?_)
  · obtain ⟨c, d, dt, sl⟩ := oe
    cases dt <;> exact hdn
  · simp
  · refine Heap.UpToSlots.trans (fun b o q nf => ?_) k3
    obtain ⟨sl, z⟩ := so.2.2 b o q
    exact ⟨sl, kp _ _ z⟩
theorem note_new {oe : Obj} {vs : Array Value} (hfr : A.frames = some (env :: outer)) (hf : env.frame = some L) (st : B.StaysIn s.heap) (hl : s.heap.FunFrames B (env :: outer)) (new : B.get? e = none)
    (he : s.heap.get? e = some oe) (hd : oe.data = .fields vs) (hdn : oe.dict = none) (h1 : vs[1]? = some .none)
    (k : ∀ h', FlyD B (env :: outer) e oe.cls (rawInt L) h' → s.heap.UpToSlots h' → Q () { s with heap := h' }) : wpAny M A (noteFrame (.ref e) env) Q E s := by
  unfold noteFrame
  simp only [hf]
  refine wpAny_bind (wpAny_field he hd h1 ?_)
  rw [if_neg (by decide)]
  exact fly_entry hfr hf st hl new he hd hdn (Array.getElem?_eq_some_iff.mp h1).1 k
theorem note_on (hfr : A.frames = some (env :: outer)) (hf : env.frame = some L) (F : FlyD B (env :: outer) e cls .none s.heap)
    (k : ∀ h', FlyD B (env :: outer) e cls (rawInt L) h' → s.heap.UpToSlots h' → Q () { s with heap := h' }) : wpAny M A (noteFrame (.ref e) env) Q E s := by
  obtain ⟨oe, vs, T, oT, ts, he, hc, hdn, hd, h1, hnT, hTe, hT, hdT, h3⟩ := F.ex
  subst hc
  obtain ⟨k1, k2, k3, k4, k5⟩ := step_rec (g := (·.setIfInBounds 3 Value.none)) F.st F.fr hnT hT hdT
  unfold noteFrame
  simp only [hf]
  refine wpAny_bind (wpAny_field he hd h1 ?_)
  rw [if_pos (by simp : (Value.ref T != Value.none) = true)]
  refine wpAny_bind (wpAny_field hT hdT h3 ?_)
  rw [if_neg (by simp [rawInt] : ¬ ((Value.none == rawInt L) = true))]
  refine wpAny_bind (wpAny_setField hT hdT (Array.getElem?_eq_some_iff.mp h3).1 ?_)
  exact fly_entry hfr hf k1 k2 F.new ((k5 e (Ne.symm hTe)).trans he) hd hdn (Array.getElem?_eq_some_iff.mp h1).1 fun h' F' up => k h' F' (k3.trans up)
theorem FlyD.less {fl : Value} {h : Heap} (F : FlyD B (env :: outer) e cls fl h) : FlyD B outer e cls fl h := ⟨F.st, F.new, F.fr.2.2, F.ex⟩
theorem lv_new {oe : Obj} {vs : Array Value} (hfr : A.frames = some (env :: outer)) (hf : env.frame = some L) (st : B.StaysIn s.heap) (hl : s.heap.FunFrames B (env :: outer)) (new : B.get? e = none)
    (he : s.heap.get? e = some oe) (hd : oe.data = .fields vs) (hdn : oe.dict = none) (h1 : vs[1]? = some .none)
    (k : ∀ h', FlyD B outer e oe.cls .none h' → s.heap.UpToSlots h' → Q () { s with heap := h' }) : wpAny M A (leaving env (.ref e)) Q E s := by
  unfold leaving
  exact wpAny_bind (note_new hfr hf st hl new he hd hdn h1 fun h' F up => fly_land (s := { s with heap := h' }) F fun h2 F2 up2 => k h2 F2.less (up.trans up2))
theorem lv_on (hfr : A.frames = some (env :: outer)) (hf : env.frame = some L) (F : FlyD B (env :: outer) e cls .none s.heap)
    (k : ∀ h', FlyD B outer e cls .none h' → s.heap.UpToSlots h' → Q () { s with heap := h' }) : wpAny M A (leaving env (.ref e)) Q E s := by
  unfold leaving
  exact wpAny_bind (note_on hfr hf F fun h' F up => fly_land (s := { s with heap := h' }) F fun h2 F2 up2 => k h2 F2.less (up.trans up2))
end
end L2
set_option Elab.async false
set_option linter.all false
set_option maxRecDepth 100000
set_option maxHeartbeats 4000000
namespace L2
open PySem PySem.Spec PyProof.Rows
structure Flies (P : Program) (w : World) (l : List Env) (H : Hp) (s : Shared) (cls : Value) (e : Addr) (H' : Hp) (s' : Shared) : Prop where
  os : s'.os = s.os
  bare : AllBare s'.gens
  un : Un (frs l) [] H H' s.heap s'.heap
  hok : HOk P w H' s'.heap
  fly : ∃ B, FlyD B l e cls .none s'.heap ∧ ∀ b o, s'.heap.get? b = some o → b ∉ frs l → (H' b ≠ none ∨ ∃ o', s.heap.get? b = some o') → B.get? b = some o
noncomputable def CX1 (P : Program) (w : World) : CXT := fun outer H s E e s' => ∃ ea cls H', e = .ref ea ∧ Flies P w outer H s cls ea H' s' ∧ E cls none H'
theorem ObjOk.there {P : Program} {w : World} {H : Hp} {h : Heap} {a : Addr} {o : HO} (x : ObjOk P w H h a o) : ∃ u, h.get? a = some u := by
  cases o with
  | lst xs => obtain ⟨_, _, _, _, e⟩ := x; exact ⟨_, e⟩
  | tup xs => obtain ⟨_, _, _, ob, e, _⟩ := x; exact ⟨_, e⟩
  | dK kvs => obtain ⟨_, _, _, _, o, _, _, e, _⟩ := x; exact ⟨_, e⟩
  | dT kvs => obtain ⟨_, _, _, _, o, _, _, e, _⟩ := x; exact ⟨_, e⟩
  | set S n => obtain ⟨o, _, _, _, e, _⟩ := x; exact ⟨_, e⟩
  | ins C dx fs => obtain ⟨_, _, _, e, _⟩ := x; exact ⟨_, e⟩
  | own y => exact x
  | xd fs => obtain ⟨_, ⟨_, _, _, e, _⟩, _⟩ := x; exact ⟨_, e⟩
  | rng lo hi => obtain ⟨_, _, _, e⟩ := x; exact ⟨_, e⟩
  | frz ob u => obtain ⟨e, _⟩ := x; exact ⟨_, e⟩
  | tbl ps => exact ⟨_, (show h.get? a = some _ from x)⟩
  | met f y => exact ⟨_, (show h.get? a = some _ from x)⟩
  | ext φ => obtain ⟨_, ⟨_, e⟩, _⟩ := x; exact ⟨_, e⟩
section
variable {X : Cx} {pins : List (Addr × Obj)} {σ : St} {H H' : Hp} {s : Shared}
theorem flies_out {hm : Heap} {s2 : Shared} {B : Heap} {e : Addr} {cls : Value} (I : Inv X pins σ H s) (hstk : X.stack = X.env :: X.outer) (hfr : X.env.frame = some X.env.locals) (hex : X.ex = []) (os : s2.os = s.os) (bare : AllBare s2.gens) (U : Un (frs X.stack) [] H H' s.heap hm)
    (hok : HOk X.prog X.w H' hm) (cond : ∀ b o, hm.get? b = some o → b ∉ frs X.stack → (H' b ≠ none ∨ ∃ o', s.heap.get? b = some o') → B.get? b = some o)
    (fl : FlyD B X.outer e cls .none s2.heap) (up : hm.UpToSlots s2.heap) : Flies X.prog X.w X.outer X.H₀ X.s₀ cls e H' s2 := by
  have fsub : ∀ b, b ∉ X.fs → b ≠ X.env.locals → b ∉ frs X.stack := fun b h1 h2 z => (List.mem_cons.mp (I.stkSub b z)).elim h2 h1
  have fin : ∀ b ∈ X.fs, b ∈ frs X.stack := fun b hb => by
    rw [hstk]
    show b ∈ (X.env :: X.outer).filterMap (·.frame)
    rw [List.filterMap_cons, hfr]
    exact List.mem_cons_of_mem _ hb
  have neL : ∀ b o, X.s₀.heap.get? b = some o → b ≠ X.env.locals := fun b o e z => by
    have q := I.ok.above
    rw [← z] at q
    exact absurd (Nat.lt_of_lt_of_le (Heap.lt_size e) q) (Nat.lt_irrefl _)
  have fr_data : ∀ b ∈ frs X.stack, ∀ o, hm.get? b = some o → ∀ vs, o.data ≠ .fields vs := fun b hb o eo vs q => by
    obtain ⟨_, o1, e1, d1⟩ := I.stack.mem hb
    obtain ⟨sl, e2⟩ := U.slot b o1 e1 (I.stkFree b hb) hb (by simp)
    rw [eo] at e2
    cases e2
    exact d1 vs q
  have free_fr : ∀ b ∈ frs X.stack, H' b = none := fun b hb => by
    obtain ⟨_, o1, e1, d1⟩ := I.stack.mem hb
    exact U.free b o1 e1 (I.stkFree b hb) (by simp)
  have at_b : ∀ b o o0, s.heap.get? b = some o0 → hm.get? b = some o → b ∉ frs X.stack → s2.heap.get? b = some o := fun b o o0 e0 e1 nb => fl.st b o (cond b o e1 nb (.inr ⟨o0, e0⟩))
  have base := I.base
  rw [hex] at base
  have nx : ∀ b : Addr, b ∉ ([] : List Addr) := fun b => by simp
  have tracked : ∀ b u, H' b ≠ none → hm.get? b = some u → s2.heap.get? b = some u := fun b u hb e => fl.st b u (cond b u e (fun z => hb (free_fr b z)) (.inl hb))
  refine ⟨os.trans I.os, bare, ⟨fun b o e n hf _ => ?_, fun b o e n hf _ => ?_, fun b o e n _ => ?_, fun b o e _ => ?_, fun b xs e => U.tups b xs (base.tups b xs e), fun b o u e => U.frzs b o u (base.frzs b o u e), fun b ps e => ?_⟩, fun a o e => ?_, B, fl, fun b o e nf h => ?_⟩
  · have e1 := base.keep b o e n hf (nx b)
    have nb := fsub b hf (neL b o e)
    exact at_b b o o e1 (U.keep b o e1 (base.free b o e n (nx b)) nb (nx b)) nb
  · obtain ⟨sl1, e1⟩ := base.slot b o e n hf (nx b)
    obtain ⟨sl2, e2⟩ := U.slot b _ e1 (base.free b o e n (nx b)) (fin b hf) (nx b)
    obtain ⟨sl3, e3⟩ := up b _ e2 (fr_data b (fin b hf) _ e2)
    exact ⟨sl3, e3⟩
  · obtain ⟨o1, e1⟩ := base.there b o e (nx b)
    exact U.free b o1 e1 (base.free b o e n (nx b)) (nx b)
  · obtain ⟨o1, e1⟩ := base.there b o e (nx b)
    obtain ⟨o2, e2⟩ := U.there b o1 e1 (nx b)
    by_cases hb : b ∈ frs X.stack
    · obtain ⟨sl3, e3⟩ := up b _ e2 (fr_data b hb _ e2)
      exact ⟨_, e3⟩
    · exact ⟨_, at_b b o2 o1 e1 e2 hb⟩
  · obtain ⟨m1, e1⟩ := base.tbls b ps e
    obtain ⟨m2, e2⟩ := U.tbls b _ e1
    exact ⟨m1 ++ m2, by rw [e2, Array.append_assoc]⟩
  · refine (hok a o e).stay (fun b u hb q => tracked b u ?_ q) (fun _ q => q) fun _ _ q => q
    rcases hb with rfl | hb
    · rw [e]; exact fun z => nomatch z
    · rw [hb]; exact fun z => nomatch z
  · rcases h with h | ⟨o0, e0⟩
    · cases q : H' b with
      | none => exact absurd q h
      | some u =>
        obtain ⟨o1, e1⟩ := (hok b u q).there
        have e2 := tracked b o1 h e1
        rw [e] at e2
        cases e2
        exact cond b o e1 (fun z => h (free_fr b z)) (.inl h)
    · have nb := fsub b nf (neL b o0 e0)
      obtain ⟨o1, e1⟩ := base.there b o0 e0 (nx b)
      obtain ⟨o2, e2⟩ := U.there b o1 e1 (nx b)
      have e3 := at_b b o2 o1 e1 e2 nb
      rw [e] at e3
      cases e3
      exact cond b o e2 nb (.inr ⟨o1, e1⟩)
end
section
variable {P : Program} {w : World} {K : PySem.W.Frag} {mg : Str → Option Value} {base : Heap} {N : List Str} {qual : Str} {scope : Scope} {f : Addr} {cd : Value} {A : Around} {outer : List Env} {s₀ : Shared} {H₀ : Hp} {E : XK}
noncomputable abbrev cxX (P : Program) (w : World) (K : PySem.W.Frag) (mg : Str → Option Value) (base : Heap) (N : List Str) (qual : Str) (scope : Scope) (f : Addr) (cd : Value) (A : Around) (outer : List Env) (s₀ : Shared) (H₀ : Hp) (E : XK) : Cx := cxOf (CX1 P w) P w K mg base N qual scope f cd A outer s₀ H₀ E
theorem passX : Passes (CX1 P w) (cxX P w K mg base N qual scope f cd A outer s₀ H₀ E) E := by
  intro pins σ H s e s' I h
  obtain ⟨ea, cls, H', rfl, F, hE⟩ := h
  obtain ⟨B, fl, cond⟩ := F.fly
  show wpAny (model P w) _ (leaving _ (.ref ea)) _ _ s'
  refine lv_on (L := s₀.heap.objs.size) I.ok.frames rfl fl fun h' fl' up => ?_
  exact ⟨ea, cls, H', rfl, flies_out (s2 := { s' with heap := h' }) I rfl rfl rfl F.os F.bare F.un F.hok cond fl' up, hE⟩
noncomputable def NewX (X : Cx) (E : XK) : Prop := ∀ (pins : List (Addr × Obj)) (σ : St) (H : Hp) (s : Shared) (h' : Heap) (e : Addr) (cls : Value) (vs : List Value), Inv X pins σ H s → Heap.MadeExcOf s.heap h' e cls vs → E cls none H → X.xe (.ref e) { s with heap := h' }
theorem newX : NewX (cxX P w K mg base N qual scope f cd A outer s₀ H₀ E) E := by
  intro pins σ H s h' e cls vs I hx hE
  show wpAny (model P w) _ (leaving _ (.ref e)) _ _ _
  have hin : ∀ env ∈ (cxX P w K mg base N qual scope f cd A outer s₀ H₀ E).stack, ∀ a, env.frame = some a → a ∈ frs (cxX P w K mg base N qual scope f cd A outer s₀ H₀ E).stack := fun env he a hb => List.mem_filterMap.mpr ⟨env, he, hb⟩
  obtain ⟨t, he, _, _⟩ := hx.there
  refine lv_new (L := s₀.heap.objs.size) (B := PySem.W.hideAll s.heap (frs (cxX P w K mg base N qual scope f cd A outer s₀ H₀ E).stack)) I.ok.frames rfl (fun b o q => hx.keeps b o (PySem.W.of_hideAll _ q)) ((PySem.W.funFrames_hide I.stack hin).of_keeps fun b o q _ => ⟨o, hx.keeps b o q, rfl⟩) ?_ he rfl rfl rfl fun h2 fl up => ?_
  · cases q : (PySem.W.hideAll s.heap (frs (cxX P w K mg base N qual scope f cd A outer s₀ H₀ E).stack)).get? e with
    | none => rfl
    | some o =>
      have z := PySem.W.of_hideAll _ q
      rw [hx.new] at z
      cases z
  refine ⟨e, cls, H, rfl, flies_out (s2 := { s with heap := h2 }) (hm := s.heap) I rfl rfl rfl rfl I.bare Un.refl I.hok (fun b o e1 nb _ => PySem.W.hideAll_get _ e1 nb) fl ((Heap.UpToSlots.of_keeps hx.keeps).trans up), hE⟩
end
end L2
set_option Elab.async false
set_option linter.all false
set_option maxRecDepth 100000
set_option maxHeartbeats 4000000
namespace L2
open PySem PySem.Spec PyProof.Rows
noncomputable def ExcHere (h : Heap) (C : Addr) (bmB : List Value) (newId : String) : Prop :=
  ∃ bm N nm q bs hdct sn sub ab col dd k0 k1 k2 k3 k5 mN, h.get? C = some (excClassObj nm q C N bs bm hdct sn sub ab col dd k0 k1 k2 k3 k5 newId) ∧ h.Ns N mN ∧ mN "__init__" = none ∧ OwnTail h bmB bm
theorem exc_here {K : PySem.W.Frag} {h : Heap} {C : Addr} {bmB : List Value} {newId : String} (kin : K.In h) (q : PySem.W.excIn K C bmB newId = true) : ExcHere h C bmB newId := by
  rw [PySem.W.excIn] at q
  split at q
  case h_2 => cases q
  case h_1 dd cd sl eC =>
    split at q
    case h_2 => cases q
    case h_1 C1 bm k0 k1 k2 k3 n k5 hm hs =>
      obtain ⟨sl⟩ := sl
      obtain ⟨nm, bs, mro, ns, qn, hd, sn, sub, ab, col, del⟩ := cd
      simp only [Bool.and_eq_true, beq_iff_eq, Bool.not_eq_true'] at q hm hs
      obtain ⟨⟨⟨⟨⟨q1, q2⟩, q3⟩, q4⟩, q5⟩, q6⟩ := q
      subst hm hs q1 q2 q3
      exact ⟨bm, ns, nm, qn, bs, hd, sn, sub, ab, col, dd, k0, k1, k2, k3, k5, h.nsMap ns, kin _ _ eC, Heap.Ns.of_isNs (PySem.W.isNs_of_in kin q5), PySem.W.nsMap_none_of_in kin q5 q6, PySem.W.tail_of_in kin q4⟩
section
variable {X : Cx} {x : Str} {C : Addr} {bmB : List Value} {B newId initId : String} {np cpos pos : Pos} {e : Expr} {es : List Expr} {t : TA} {E : XK}
noncomputable def tRaise (C : Addr) (E : XK) (t : TA) : TS := fun _ σ H => t σ H fun vs H1 => vs.length ≤ sizeLine ∧ E (.ref C) none H1
theorem ps_raise (new : NewX X E) (hc : X.calm = true) (hg : Gl X x) (hm : X.mg x = some (.ref C)) (q : PySem.W.excIn X.K C bmB newId = true) (FB : ExcBaseFacts B newId initId bmB) (ha : PA X (e :: es) t)
    (he : starEach (e :: es) X.env = (false, eval e X.env) :: starEach es X.env := by rfl) (hpl : (backTo cpos (starEach es X.env)).any (·.1) = false := by rfl) (hd : (x == ("__debug__" : Str)) = false := by decide) :
    PS X (.Raise (some (.Call (.Name x np) (e :: es) [] cpos)) none pos) (tRaise C E t) := by
  intro pins s σ H D I h
  obtain ⟨bm, N, nm, qn, bs, hdct, sn, sub, ab, col, dd, k0, k1, k2, k3, k5, mN, hC, hN, hni, T⟩ := exc_here I.ok.mod.kin q
  refine wpAny_Raise_call_subT (C := C) (nm := nm) (q := qn) (N := N) (bs := bs) (bm := bm) (hdct := hdct) (sn := sn) (sub := sub) (ab := ab) (col := col) (dd := dd) (k0 := k0) (k1 := k1) (k2 := k2) (k3 := k3) (k5 := k5)
    FB (mN := mN) (T.hasType FB.hasBase) (I.ok.hd hc) (by rw [he]; show (false || (backTo cpos (starEach es X.env)).any (·.1)) = false; rw [hpl]; rfl) hni (ld_glob I hg hm ⟨rfl, ?_⟩ hd)
  have ha' := ha cpos pins s σ H _ I h
  rw [he] at ha' ⊢
  refine Calls.evalArgs_plain (thn ha' fun us s1 ⟨vs, H1, I1, r, hl, hE⟩ => ?_)
  exact ⟨rfl, by rw [← r.length]; exact hl, I1.bk _ _ hC, hN.keeps I1.bk, T.keeps I1.bk, fun h' ea hx => new pins σ H1 s1 h' ea (.ref C) us I1 hx hE⟩
end
end L2
set_option Elab.async false
set_option linter.all false
set_option maxRecDepth 100000
set_option maxHeartbeats 4000000
namespace L2
open PySem PySem.Spec PyProof.Rows
noncomputable abbrev Cx.suite (X : Cx) (e : Addr) : Cx := { X with A := X.A.mark (some (.ref e)), calm := false, xe := fun _ _ => False }
noncomputable def excO (e : Addr) (cls : Value) : HO := .ext fun h => ∃ oe vs, h.get? e = some oe ∧ oe.cls = cls ∧ oe.dict = none ∧ oe.data = .fields vs
section
variable {X : Cx} {pins : List (Addr × Obj)} {σ : St} {H H' : Hp} {s s1 : Shared} {e : Addr} {cls fl : Value}
theorem Cx.Ok.suite (ok : X.Ok) (e : Addr) : (X.suite e).Ok :=
  ⟨ok.mod, ok.kind, ok.glob, ok.blt, ok.above, ok.inj, ok.has, ok.cab, (fun z => nomatch z), ok.frames, ok.stk, ok.exf, ok.bs, ok.bsz, ok.noex, ok.exfs, ok.funs, ok.frf⟩
theorem Inv.suite (I : Inv X pins σ H s) (e : Addr) : Inv (X.suite e) pins σ H s := ⟨I.ok.suite e, I.os, I.bare, I.base, I.loc, I.cell, I.free, I.freeC, I.pin, I.hok, I.len⟩
theorem Inv.unsuite (ok : X.Ok) (I : Inv (X.suite e) pins σ H s) : Inv X pins σ H s := ⟨ok, I.os, I.bare, I.base, I.loc, I.cell, I.free, I.freeC, I.pin, I.hok, I.len⟩
theorem Flies.fresh {l : List Env} {P : Program} {w : World} (F : Flies P w l H s cls e H' s1) : s.heap.get? e = none ∧ H' e = none := by
  obtain ⟨B, fl, cond⟩ := F.fly
  obtain ⟨oe, vs, T, oT, ts, he, hc, hdn, hd, _⟩ := fl.ex
  have nf := fr_ne fl.fr he hd
  have no : ¬ (H' e ≠ none ∨ ∃ o', s.heap.get? e = some o') := fun z => by
    have q := cond e oe he nf z
    rw [fl.new] at q
    cases q
  constructor
  · cases q : s.heap.get? e with
    | none => rfl
    | some o => exact absurd (.inr ⟨o, q⟩) no
  · cases q : H' e with
    | none => rfl
    | some o => exact absurd (.inl (by rw [q]; exact fun z => nomatch z)) no
theorem flies_in {h2 B : Heap} (I : Inv X pins σ H s) (F : Flies X.prog X.w X.stack H s cls e H' s1) (fl : FlyD B X.stack e cls fl h2) (cond : ∀ b o, s1.heap.get? b = some o → b ∉ frs X.stack → (H' b ≠ none ∨ ∃ o', s.heap.get? b = some o') → B.get? b = some o)
    (up : s1.heap.UpToSlots h2) : Inv X pins σ H' { s1 with heap := h2 } := by
  have free_fr : ∀ b ∈ frs X.stack, H' b = none := fun b hb => by
    obtain ⟨_, o1, e1, d1⟩ := I.stack.mem hb
    exact F.un.free b o1 e1 (I.stkFree b hb) (by simp)
  have fr_data : ∀ b ∈ frs X.stack, ∀ o, s1.heap.get? b = some o → ∀ vs, o.data ≠ .fields vs := fun b hb o eo vs q => by
    obtain ⟨_, o1, e1, d1⟩ := I.stack.mem hb
    obtain ⟨sl, e2⟩ := F.un.slot b o1 e1 (I.stkFree b hb) hb (by simp)
    rw [eo] at e2
    cases e2
    exact d1 vs q
  refine I.call' (s' := { s1 with heap := h2 }) (ch := []) F.os ⟨fun b o e n hf _ => ?_, fun b o e n hf _ => ?_, F.un.free, fun b o e _ => ?_, F.un.tups, F.un.frzs, F.un.tbls⟩ (fun a o q => ?_) F.bare (fun b hb => absurd hb (by simp))
  · exact fl.st b o (cond b o (F.un.keep b o e n hf (by simp)) hf (.inr ⟨o, e⟩))
  · obtain ⟨sl, e1⟩ := F.un.slot b o e n hf (by simp)
    obtain ⟨sl2, e2⟩ := up b _ e1 (fr_data b hf _ e1)
    exact ⟨sl2, e2⟩
  · obtain ⟨o1, e1⟩ := F.un.there b o e (by simp)
    by_cases hb : b ∈ frs X.stack
    · obtain ⟨sl2, e2⟩ := up b _ e1 (fr_data b hb _ e1)
      exact ⟨_, e2⟩
    · exact ⟨o1, fl.st b o1 (cond b o1 e1 hb (.inr ⟨o, e⟩))⟩
  · refine (F.hok a o q).stay (fun b u hb z => ?_) (fun _ q => q) fun _ _ q => q
    have nb : H' b ≠ none := by
      rcases hb with rfl | hb
      · rw [q]; exact fun z => nomatch z
      · rw [hb]; exact fun z => nomatch z
    exact fl.st b u (cond b u z (fun y => nb (free_fr b y)) (.inl nb))
theorem Inv.trackX (I : Inv X pins σ H s) (hex : X.ex = []) (n : H e = none) (n0 : X.s₀.heap.get? e = none) (np : ∀ p ∈ X.pn ++ pins, p.1 ≠ e) {oe : Obj} {vs : Array Value} (he : s.heap.get? e = some oe) (hc : oe.cls = cls) (hdn : oe.dict = none) (hd : oe.data = .fields vs) :
    Inv X pins σ (upd H e (excO e cls)) s := by
  have neq : ∀ b o, H b = some o → b ≠ e := fun b o q z => by rw [z, n] at q; cases q
  have nL : X.env.locals ≠ e := fun z => by
    obtain ⟨m, ⟨o, es, ep, ho, hdd, _⟩, _⟩ := I.loc
    rw [z, he] at ho
    cases ho
    rw [hd] at hdd
    cases hdd
  have nC : ∀ x c, X.env.cells.lookup x = some c → c ≠ e := fun x c q z => by
    obtain ⟨v, o, ho, hdd⟩ := I.cell x c q
    rw [z, he] at ho
    cases ho
    rw [hd] at hdd
    cases hdd
  refine ⟨I.ok, I.os, I.bare, ⟨I.base.keep, I.base.slot, fun b o q m hx => ?_, I.base.there, fun b xs q => ?_, fun b o u q => ?_, fun b ps q => ?_⟩, I.loc, I.cell, by rw [upd_ne nL]; exact I.free, fun x c q => by rw [upd_ne (nC x c q)]; exact I.freeC x c q, fun p hp => ?_, fun b u q => ?_, I.len⟩
  · have nb : b ≠ e := fun z => by rw [z, n0] at q; cases q
    rw [upd_ne nb]
    exact I.base.free b o q m hx
  · have z := I.base.tups b xs q
    rw [upd_ne (neq _ _ z)]
    exact z
  · have z := I.base.frzs b o u q
    rw [upd_ne (neq _ _ z)]
    exact z
  · obtain ⟨m, z⟩ := I.base.tbls b ps q
    exact ⟨m, by rw [upd_ne (neq _ _ z)]; exact z⟩
  · obtain ⟨a1, a2, a3⟩ := I.pin p hp
    exact ⟨a1, by rw [upd_ne (np p hp)]; exact a2, a3⟩
  · by_cases hb : b = e
    · subst hb
      rw [upd_same] at q
      cases q
      refine ⟨⟨oe, vs, he, hc, hdn, hd⟩, ⟨oe, he⟩, fun h1 h2 ⟨o1, w1, a1, a2, a3, a4⟩ k => ⟨o1, w1, k _ a1, a2, a3, a4⟩⟩
    · rw [upd_ne hb] at q
      refine (I.hok b u q).stay (fun _ _ _ z => z) (fun c z => ?_) fun c xs z => ?_
      · rw [upd_ne (neq _ _ z)]; exact z
      · rw [upd_ne (neq _ _ z)]; exact z
theorem name_gone {M : Model} {A : Around} {E : Value → Shared → Prop} {i : Nat} {n : Str} {pos : Pos} {Q : Unit → Shared → Prop} (I : Inv X pins σ H s) (hN : X.N.Nodup) (hi : X.N[i]? = some n) (hk : X.env.kindOf n = some .local)
    (k : ∀ s', Inv X pins (σ.set i none) H s' → Q () s') : wpAny M A (do bindName X.env n .none; unbindBehindTheSuite X.env n pos) Q E s := by
  obtain ⟨m, hn, hl⟩ := id I.loc
  have hcls : (X.env.scope.kind == .class || (X.env.scope.kind == .module && X.env.locals != X.env.globals)) = false := by rw [I.ok.kind]; rfl
  refine wpAny_nameGoes_keeps hk hn hcls fun h2 v hn2 sb => ?_
  obtain ⟨oL, _, _, hoL, dL, _⟩ := id hn
  have oth : ∀ b, b ≠ X.env.locals → h2.get? b = s.heap.get? b := sb.2
  have old : ∀ b o, X.s₀.heap.get? b = some o → b ≠ X.env.locals := fun b o q z => by
    have w := I.ok.above
    rw [← z] at w
    exact absurd (Nat.lt_of_lt_of_le (Heap.lt_size q) w) (Nat.lt_irrefl _)
  have nC : ∀ x c, X.env.cells.lookup x = some c → c ≠ X.env.locals := fun x c q z => by
    obtain ⟨v, o, ho, hdd⟩ := I.cell x c q
    rw [z, hoL] at ho
    cases ho
    rw [dL] at hdd
    cases hdd
  have nT : ∀ b o, H b = some o → b ≠ X.env.locals := fun b o q z => by rw [z, I.free] at q; cases q
  refine k _ ⟨I.ok, I.os, I.bare, ⟨fun b o q m hb hx => (oth b (old b o q)).trans (I.base.keep b o q m hb hx), fun b o q m hb hx => ?_, I.base.free, fun b o q hx => ?_, I.base.tups, I.base.frzs, I.base.tbls⟩, ⟨_, hn2, fun j y v' e1 e2 e3 => ?_⟩, fun x c q => ?_, I.free, I.freeC, fun p hp => ?_, fun b u q => ?_, by rw [List.length_set]; exact I.len⟩
  · obtain ⟨sl, z⟩ := I.base.slot b o q m hb hx
    exact ⟨sl, (oth b (old b o q)).trans z⟩
  · obtain ⟨o', z⟩ := I.base.there b o q hx
    exact ⟨o', (oth b (old b o q)).trans z⟩
  · by_cases hj : j = i
    · subst hj
      have hl := I.len
      have hlt : j < σ.length := by rw [hl]; exact (List.getElem?_eq_some_iff.mp e1).1
      rw [List.getElem?_set_self hlt] at e2
      cases e2
    · rw [List.getElem?_set_ne (Ne.symm hj)] at e2
      obtain ⟨u, r, z⟩ := hl j y v' e1 e2 e3
      refine ⟨u, r, ?_⟩
      have ny : y ≠ n := fun z => hj (nodup_ix hN e1 (z ▸ hi))
      rcases z with ⟨z1, z2⟩ | ⟨z1, c, z2, z3⟩
      · exact .inl ⟨z1, (if_neg ny).trans z2⟩
      · obtain ⟨o, ho, hdd⟩ := z3
        exact .inr ⟨z1, c, z2, o, (oth c (nC y c z2)).trans ho, hdd⟩
  · obtain ⟨v, o, ho, hdd⟩ := I.cell x c q
    exact ⟨v, o, (oth c (nC x c q)).trans ho, hdd⟩
  · obtain ⟨a1, a2, a3, a4⟩ := I.pin p hp
    exact ⟨(oth p.1 a3).trans a1, a2, a3, a4⟩
  · refine (I.hok b u q).stay (fun c w hc z => (oth c ?_).trans z) (fun _ z => z) fun _ _ z => z
    rcases hc with rfl | hc
    · exact nT c u q
    · exact nT c _ hc
end
end L2
set_option Elab.async false
set_option linter.all false
set_option maxRecDepth 100000
set_option maxHeartbeats 4000000
namespace L2
open PySem PySem.Spec PyProof.Rows
noncomputable def Ends.less (D : Ends) (i : Nat) : Ends := { nx := fun σ H => D.nx (σ.set i none) H, rt := D.rt, bk := fun σ H => D.bk (σ.set i none) H, ct := fun σ H => D.ct (σ.set i none) H }
section
variable {X : Cx} {pins : List (Addr × Obj)} {σ : St} {H H' : Hp} {s s1 : Shared} {e : Addr} {cls c : Value} {i : Nat} {x n : Str} {np pos hpos : Pos} {b₀ : Stmt} {suite : List Stmt} {ts : TS} {D : Ends}
theorem looks_exc {M : Model} {h : Heap} {oe : Obj} (he : h.get? e = some oe) (hc : oe.cls = cls) : PySem.W.Looks M h (typeOf (.ref e)) cls := hc ▸ (PySem.W.Looks.ld he).andThen .now
theorem handle_as (I : Inv X pins σ H s) (hstk : X.stack = X.env :: X.outer) (hfr : X.env.frame = some X.env.locals) (hex : X.ex = []) (hN : X.N.Nodup) (hi : X.N[i]? = some n) (hlo : X.env.scope.names.lookup n = some .local) (hg : Gl X x) (hm : X.mg x = some c)
    (hd : (x == ("__debug__" : Str)) = false) (F : Flies X.prog X.w X.stack H s cls e H' s1) (hx : PySem.W.exmOne X.K cls c = some true) (hs : PSs (X.suite e) (b₀ :: suite) ts) (h : ts (D.less i) (σ.set i (some (.ref e))) (upd H' e (excO e cls))) :
    wpAny (model X.prog X.w) X.A (noteFrame (.ref e) X.env) (fun _ s2 => wpAny (model X.prog X.w) X.A (setFlight (.ref e) none) (fun _ s3 =>
      wpAny (model X.prog X.w) X.A (handleBy (.ref e) X.env [.ExceptHandler (some (.Name x np)) (some n) (b₀ :: suite) hpos]) (SP X pins D) X.xe s3) X.xe s2) X.xe s1 := by
  obtain ⟨B, fl, cond⟩ := F.fly
  obtain ⟨n0, nH⟩ := F.fresh
  have hfs : X.A.frames = some (X.env :: X.outer) := by rw [← hstk]; exact I.ok.frames
  rw [hstk] at fl
  refine note_on hfs hfr fl fun h4 fl4 up4 => ?_
  refine fly_land (s := { s1 with heap := h4 }) fl4 fun h5 fl5 up5 => ?_
  have fl5' := fl5
  rw [← hstk] at fl5'
  have I5 := (flies_in I F fl5' cond (up4.trans up5)).suite e
  refine wpAny_handleBy_cons (codeAny_handlers_test (ld_glob I5 hg hm ?_ hd)) (fun q => nomatch q)
  obtain ⟨oe, vs, T, oT, ts', he, hc, _⟩ := fl5.ex
  refine (PySem.W.exm_one I5.kIn (looks_exc he hc) hx).here ?_
  show codeAny _ _ _ _ _
  refine codeAny_handlers_suite_as ?_
  refine fly_land (s := { s1 with heap := h5 }) fl5 fun h6 fl6 up6 => ?_
  have fl6' := fl6
  rw [← hstk] at fl6'
  have I6 := flies_in I F fl6' cond ((up4.trans up5).trans up6)
  obtain ⟨oe6, vs6, _, _, _, he6, hc6, hdn6, hd6, _⟩ := fl6.ex
  have np0 : X.s₀.heap.get? e = none := by
    cases q : X.s₀.heap.get? e with
    | none => rfl
    | some o =>
      obtain ⟨o', z⟩ := I.base.there e o q (by rw [hex]; simp)
      rw [n0] at z
      cases z
  have I7 := I6.trackX hex nH np0 (fun p hp z => by
    have w := (I.pin p hp).1
    rw [z, n0] at w
    cases w) he6 hc6 hdn6 hd6
  refine store_ok I7 hN hi (.inl hlo) (show RelV (.ref e) (.ref e) from rfl) (fun s8 I8 => ?_) (.inr hlo)
  refine wpAny_mono (hs pins s8 _ _ _ (I8.suite e) h) (fun f s9 q => ?_) fun _ _ z => z.elim
  show wpAny _ _ _ _ _ _
  cases f with
  | next =>
    obtain ⟨σ9, H9, I9, d9⟩ := q
    exact name_gone (I9.unsuite I.ok) hN hi hlo fun s10 I10 => ⟨_, _, I10, d9⟩
  | brk =>
    obtain ⟨σ9, H9, I9, d9⟩ := q
    exact name_gone (I9.unsuite I.ok) hN hi hlo fun s10 I10 => ⟨_, _, I10, d9⟩
  | cont =>
    obtain ⟨σ9, H9, I9, d9⟩ := q
    exact name_gone (I9.unsuite I.ok) hN hi hlo fun s10 I10 => ⟨_, _, I10, d9⟩
  | ret u =>
    obtain ⟨v, σ9, H9, I9, r9, d9⟩ := q
    exact name_gone (I9.unsuite I.ok) hN hi hlo fun s10 I10 => ⟨v, _, _, I10, r9, d9⟩
theorem SP.unsuite {f : Flow} (ok : X.Ok) (h : SP (X.suite e) pins D f s) : SP X pins D f s := by
  cases f with
  | next => obtain ⟨σ', H', I, q⟩ := h; exact ⟨σ', H', I.unsuite ok, q⟩
  | brk => obtain ⟨σ', H', I, q⟩ := h; exact ⟨σ', H', I.unsuite ok, q⟩
  | cont => obtain ⟨σ', H', I, q⟩ := h; exact ⟨σ', H', I.unsuite ok, q⟩
  | ret u => obtain ⟨v, σ', H', I, r, q⟩ := h; exact ⟨v, σ', H', I.unsuite ok, r, q⟩
end
noncomputable def PEat (X : Cx) (pins : List (Addr × Obj)) (σ : St) (e : Expr) (t : TE) : Prop := ∀ (s : Shared) (H : Hp) (Q : VK), Inv X pins σ H s → t σ H Q → wpAny (model X.prog X.w) X.A (eval e X.env) (EP X pins σ Q) X.xe s
noncomputable def PSat (X : Cx) (pins : List (Addr × Obj)) (σ : St) (st : Stmt) (t : TS) : Prop := ∀ (s : Shared) (H : Hp) (D : Ends), Inv X pins σ H s → t D σ H → wpAny (model X.prog X.w) X.A (exec st X.env) (SP X pins D) X.xe s
noncomputable def PSsAt (X : Cx) (pins : List (Addr × Obj)) (σ : St) (st : List Stmt) (t : TS) : Prop := ∀ (s : Shared) (H : Hp) (D : Ends), Inv X pins σ H s → t D σ H → wpAny (model X.prog X.w) X.A (execs st X.env) (SP X pins D) X.xe s
noncomputable def PassesAt (CX : CXT) (X : Cx) (pins : List (Addr × Obj)) (σ : St) (E : XK) : Prop := ∀ (H : Hp) (s : Shared) (e : Value) (s' : Shared), Inv X pins σ H s → CX X.stack H s E e s' → X.xe e s'
section
variable {X : Cx} {pins : List (Addr × Obj)} {σ : St} {CX : CXT} {k : Nat} {f : Addr} {fd : FuncData} {ps : List Str} {sp : Sp} {dvs : List V} {ds : List Value} {E : XK} {x : Str} {p pos cpos : Pos} {e c : Expr} {es : List Expr} {t : TA} {te : TE} {tc : TT} {st : Stmt} {a b : List Stmt} {ta tb u : TS}
theorem at_call (F : FnOk X.prog X.w X.K X.mg X.base CX k f fd ps sp) (hr : Room k X.A) (hg : Gl X x) (hm : X.mg x = some (.ref f)) (hk : PySem.W.keepIn X.K (.ref f) = true) (hb : Binds X.K fd ps ds) (hd : Vals dvs ds) (hx : PassesAt CX X pins σ E)
    (ha : PA X (e :: es) t) (hdb : (x == ("__debug__" : Str)) = false := by decide) (he : starEach (e :: es) X.env = (false, eval e X.env) :: starEach es X.env := by rfl) (hpl : (backTo pos (starEach es X.env)).any (·.1) = false := by rfl) :
    PEat X pins σ (.Call (.Name x p) (e :: es) [] pos) (tCall sp dvs E t) := by
  intro s H Q I h
  refine wpAny_Call_Name_kw (ld_glob I hg hm ?_ hdb)
  refine PySem.W.callWith_K (h₀ := X.base) I.ok.mod.kin hk (thn (ha pos pins s σ H _ I h) fun us s1 ⟨vs, H1, I1, r, q⟩ => ⟨I1.kIn, ?_⟩) he hpl
  have r2 : Vals (vs ++ dvs) (us ++ ds) := r.append hd
  have hl : (us ++ ds).length = ps.length := by rw [← r2.length]; exact F.len _ _ _ _ q
  refine wpAny_call (codeAny_mono (F.run X.A X.stack s1 H1 ⟨us, []⟩ (us ++ ds) (vs ++ dvs) Q E hr I1.env0 (hb s1 us I1.kIn hl) r2 q) fun r s' hq => ?_)
  cases r with
  | error e => exact hx H1 s1 e s' I1 hq
  | ok fl =>
    cases fl with
    | ret u => exact I1.after hq
    | next => exact False.elim hq
    | brk => exact False.elim hq
    | cont => exact False.elim hq
theorem at_expr (he : PEat X pins σ e te) (hs : swapsWith e none pos.line X.env = pure false := by rfl) : PSat X pins σ (.Expr e pos) (tDrop te) := by
  intro s H D I h
  exact wpAny_Expr_any (thn (he s H _ I h) fun v s1 ⟨x, H1, I1, r1, q1⟩ => ⟨σ, H1, I1, q1⟩) I.quiet hs
theorem at_one (h1 : PSat X pins σ st ta) : PSsAt X pins σ [st] ta := by
  intro s H D I h
  refine wpAny_execs_cons (thn (h1 s H D I h) fun f s1 q => ?_)
  cases f with
  | next => exact wpAny_execs_nil q
  | ret v => exact q
  | brk => exact q
  | cont => exact q
end
section
variable {X : Cx} {c : Value} {i : Nat} {x n : Str} {np pos hpos : Pos} {body : List Stmt} {b₀ : Stmt} {suite : List Stmt} {ts : TS} {tb : XK → TS}
noncomputable def tTryAs (K : PySem.W.Frag) (c : Value) (i : Nat) (tb : XK → TS) (ts : TS) : TS := fun D σ H =>
  tb (fun cls _ H' => PySem.W.exmOne K cls c = some true ∧ ∀ e, H' e = none → ts (D.less i) (σ.set i (some (.ref e))) (upd H' e (excO e cls))) D σ H
theorem ps_try_as (hstk : X.stack = X.env :: X.outer) (hfr : X.env.frame = some X.env.locals) (hex : X.ex = []) (hN : X.N.Nodup) (hi : X.N[i]? = some n) (hlo : X.env.scope.names.lookup n = some .local) (hg : Gl X x) (hm : X.mg x = some c)
    (hb : ∀ xe pins σ E, PassesAt (CX1 X.prog X.w) (X.wish xe) pins σ E → PSsAt (X.wish xe) pins σ body (tb E)) (hs : ∀ e, PSs (X.suite e) (b₀ :: suite) ts) (hd : (x == ("__debug__" : Str)) = false := by decide) :
    PS X (.Try body [.ExceptHandler (some (.Name x np)) (some n) (b₀ :: suite) hpos] [] [] pos) (tTryAs X.K c i tb ts) := by
  intro pins s σ H D I h
  refine wpAny_Try_except ?_
  refine wpAny_mono (hb (fun e s1 => wpAny (model X.prog X.w) X.A (noteFrame e X.env) (fun _ s2 => wpAny (model X.prog X.w) X.A (setFlight e none) (fun _ s3 =>
      wpAny (model X.prog X.w) X.A (handleBy e X.env [.ExceptHandler (some (.Name x np)) (some n) (b₀ :: suite) hpos]) (SP X pins D) X.xe s3) X.xe s2) X.xe s1) pins σ _ (fun H1 s1 e s' I1 q => ?_) s H D (I.wish _) h) (fun f s1 q => ?_) fun _ _ z => z
  · obtain ⟨ea, cls, H', rfl, F, hx, hE⟩ := q
    exact handle_as I1.unwish hstk hfr hex hN hi hlo hg hm hd F hx (hs ea) (hE ea F.fresh.2)
  · have q := q.unwish
    cases f with
    | next => exact wpAny_execs_nil q
    | ret v => exact q
    | brk => exact q
    | cont => exact q
end
section
variable {P : Program} {w : World} {K : PySem.W.Frag} {mg : Str → Option Value} {base : Heap}
theorem Fun.okX {x qual : Str} {st : Stmt} {f : Addr} {fd : FuncData} {N ps : List Str} {k : Nat} {sp : Sp} (F : Fun K x qual st f fd) (S : FnScope N ps (defScope st)) (len : ∀ vs H Q E, sp vs H Q E → vs.length = ps.length)
    (hbody : ∀ (cdv : Value) (A : Around) (outer : List Env) (s : Shared) (H : Hp) (vs : List V) (Q : VK) (E : XK), Room k (A.deeper (envOfC qual (defScope st) s.heap.objs.size f cdv)) → sp vs H Q E →
      ∃ t, PSs (cxX P w K mg base N qual (defScope st) f cdv A outer s H E) (defBody st) t ∧ t { nx := fun _ H' => Q .non H', rt := Q } (start N vs) H) : FnOk P w K mg base (CX1 P w) (k + 1) f fd ps sp := by
  obtain ⟨oc, od, kV, doc, pm, an, cdv, ct, osl, rfl, lk, hcd⟩ := F.ex
  exact fn_of lk hcd S len fun A outer s H vs Q E hr hsp => hbody cdv A outer s H vs Q E hr hsp
theorem FnOk.calm {f : Addr} {fd : FuncData} {ps : List Str} {k : Nat} {sp : Sp} (F : FnOk P w K mg base CX0 k f fd ps sp) : FnOk P w K mg base (CX1 P w) k f fd ps sp :=
  ⟨F.len, fun A outer s H args us vs Q E hr he hb hv hs => codeAny_mono (F.run A outer s H args us vs Q E hr he hb hv hs) fun r s' q => by
    cases r with
    | ok fl => cases fl <;> exact q
    | error e => exact False.elim q⟩
end
end L2
set_option Elab.async false
set_option linter.all false
set_option maxRecDepth 100000
set_option maxHeartbeats 4000000
namespace L2
open PySem PySem.Spec PyProof.Rows
section
variable {prog : Program} {w : World} {A : Around} {E : Value → Shared → Prop} {s : Shared} {K : PySem.W.Frag} {e C : Addr} {oe : Obj}
theorem exc_check {M : Model} {hp : Heap} {g : Array GenState} {d : Drawn} {t : Nat} {os : OsState} {nm : Value} {Q : Unit → Shared → Prop} (L4 : PySem.W.Looks M hp (isInstance (.ref e) (.type "BaseException")) true) (hq : Q () ⟨hp, g, d, t, os⟩) :
    wpAny M A (checkBuiltinCall "BaseException.__getattribute__" ⟨[.ref e, nm], []⟩) Q E ⟨hp, g, d, t, os⟩ := by
  have hk : builtinKind "BaseException.__getattribute__" = some .slot := by decide +kernel
  have hsp : splitId "BaseException.__getattribute__" = some ("BaseException", "__getattribute__") := by decide +kernel
  have ha := F.args_bexc_ga (.ref e) nm
  simp only [checkBuiltinCall, hk, hsp]
  refine wpAny_bind (L4.at ?_)
  simp only [Bool.not_true, Bool.false_eq_true, if_false]
  cases sg : Manifest.signature? "BaseException.__getattribute__" with
  | none => exact wpAny_pure hq
  | some z =>
    simp only [argsOk, sg] at ha
    show wpAny M A (Bind.checkArgs "BaseException.__getattribute__" z ⟨[.ref e, nm], []⟩) Q E _
    rw [ha]
    exact wpAny_pure hq
theorem exc_class {Q : Option Value → Shared → Prop} (kin : K.In s.heap) (I : PySem.W.InstAt s.heap e oe C none) (ga : PySem.W.findIn K (.ref C) "__getattribute__" = some (some (.builtin "BaseException.__getattribute__"))) (gt : PySem.W.findIn K (.ref C) "__getattr__" = some none)
    (bs : PySem.W.subIn K (.ref C) (.type "BaseException") = some true) (fo : PySem.W.findObj K C none "__class__" = some (.bind (.builtin "getset_descriptor.__get__") (.builtin "object.__class__"))) (hm : PySem.W.mroIn K C (.type "object") = some true)
    (h : Q (some (.ref C)) { s with toks := s.toks + 1 }) : wpAny (model prog w) A (getAttr? (.ref e) "__class__") Q E s := by
  obtain ⟨hp, g, d, t, os⟩ := s
  have L0 := I.type (M := model prog w)
  have L1 := PySem.W.looks_findIn (M := model prog w) kin ga
  have L2 := PySem.W.looks_findIn (M := model prog w) kin gt
  have L3 := PySem.W.looks_find (M := model prog w) kin I fo
  have L4 : PySem.W.Looks (model prog w) hp (isInstance (.ref e) (.type "BaseException")) true := L0.andThen (PySem.W.looks_subIn (M := model prog w) kin bs)
  have hk : builtinKind "BaseException.__getattribute__" = some .slot := by decide +kernel
  have hsp : splitId "BaseException.__getattribute__" = some ("BaseException", "__getattribute__") := by decide +kernel
  unfold getAttr? getAttrBy? getAttrBy
  refine wpAny_bind (wpAny_mkText (wpAny_bind (wpAny_attempt (wpAny_holding (wpAny_bind (L0.at (wpAny_bind (L1.at ?_))))))))
  show wpAny _ _ (getAttrByItsOwn _ _ _ _ _ _) _ _ _
  unfold getAttrByItsOwn hookBefore
  refine wpAny_bind (L2.at ?_)
  refine wpAny_bind (wpAny_attempt (wpAny_holding ?_))
  show wpAny _ _ (boundAndCalled _ _ _) _ _ _
  unfold boundAndCalled
  rw [F.attr_ValueError.ga.bind]
  refine wpAny_bind (wpAny_pure ?_)
  refine wpAny_call (codeAny_call_builtin F.attr_ValueError.ga.plain F.entry_bexc_ga ?_)
  refine exc_check L4 ?_
  unfold Builtin.«object.__getattribute__»
  repeat (any_goals (first | assumption | with_reducible refine L0.at ?_ | with_reducible refine L3.at ?_ | wp_step))
  refine PySem.W.class_get (s := ⟨hp, g, d, t + 1, os⟩) (ox := oe) (od := none) kin I hm ?_
  show wpAny _ _ (ret (Value.ref C)) _ _ _
  refine wpAny_pure ?_
  show wpAny _ _ (handedOut (Value.ref C)) _ _ _
  exact PySem.W.handed_on rfl (wpAny_pure h)
end
structure ExcK (K : PySem.W.Frag) (C : Addr) : Prop where
  cls : PySem.W.isClsIn K C = true
  ty : PySem.W.typeIn K (.ref C) = some (.type "type")
  sf : PySem.W.subIn K (.ref C) (.ref C) = some true
  ga : PySem.W.findIn K (.ref C) "__getattribute__" = some (some (.builtin "BaseException.__getattribute__"))
  gt : PySem.W.findIn K (.ref C) "__getattr__" = some none
  bs : PySem.W.subIn K (.ref C) (.type "BaseException") = some true
  ha : PySem.W.findIn K (.ref C) "__class__" = some (some (.builtin "object.__class__"))
  hn : PySem.W.specialIn K (.builtin "object.__class__") "__get__" = some (some (.builtin "getset_descriptor.__get__"))
  tk : PySem.W.takesIn K (.builtin "object.__class__") = some true
  hm : PySem.W.mroIn K C (.type "object") = some true
theorem find_exc {K : PySem.W.Frag} {C : Addr} (k : ExcK K C) : PySem.W.findObj K C none "__class__" = some (.bind (.builtin "getset_descriptor.__get__") (.builtin "object.__class__")) := by
  obtain ⟨cd, e⟩ := Option.isSome_iff_exists.mp (show (PySem.W.clsIn K C).isSome = true from k.cls)
  simp [PySem.W.findObj, e, k.ha, k.hn, k.tk]
theorem kitx_exc {K : PySem.W.Frag} {e C : Addr} (k : ExcK K C) : PySem.W.KitX K (.ref e) (.ref C) (fun h => ∃ oe, PySem.W.InstAt h e oe C none) where
  ty := fun _ _ _ ⟨_, I⟩ => I.type
  it := fun M h kin _ => by
    have q : PySem.W.kitCls K (.ref C) (.ref C) = some true := by
      unfold PySem.W.kitCls
      have z : ((PySem.W.clsIn K C).isSome && PySem.W.typeIn K (.ref C) == some (.type "type")) = true := by
        rw [k.ty, beq_self_eq_true, Bool.and_true]
        exact k.cls
      dsimp only
      rw [if_pos z]
      exact k.sf
    exact (PySem.W.kit_cls kin q).2.1
  ne := fun h tp dd its n sl kin htp => by
    refine Bool.eq_false_iff.mpr fun q => ?_
    have q : C = tp := Value.ref.inj (beq_iff_eq.mp q)
    subst q
    have z := k.cls
    unfold PySem.W.isClsIn PySem.W.clsIn at z
    split at z
    · rename_i lo
      have w := kin _ _ lo
      rw [htp] at w
      cases w
    · cases z
  ca := fun {prog w A E Q s} kin ⟨oe, I⟩ h => exc_class kin I k.ga k.gt k.bs (find_exc k) k.hm h
section
variable {X : Cx} {pins : List (Addr × Obj)} {σ : St} {H : Hp} {s : Shared} {A : Around} {E : Value → Shared → Prop} {Q : Value → Shared → Prop} {c : Value} {b : Bool} {a C : Addr}
theorem exc_inst (I : Inv X pins σ H s) (q : H a = some (excO a (.ref C))) : ∃ oe, PySem.W.InstAt s.heap a oe C none := by
  obtain ⟨⟨oe, vs, he, hc, hdn, hd⟩, _⟩ := (show ObjOk X.prog X.w H s.heap a (excO a (.ref C)) from I.hok a _ q)
  refine ⟨oe, he, hc, ?_, ?_⟩
  · unfold PySem.W.notCls
    rw [hd]
  · rw [hdn]
    exact True.intro
theorem isinst_exc (I : Inv X pins σ H s) (q : H a = some (excO a (.ref C))) (k : ExcK X.K C) (e : PySem.W.kitOne X.K (.ref C) c = some b) (h : ∀ tk, Q (.bool b) { s with toks := tk }) :
    wpAny (model X.prog X.w) A (call (.builtin "isinstance") [.ref a, c]) Q E s :=
  PySem.W.kia_one (kitx_exc k) I.kIn (exc_inst I q) e (fun z => nomatch z) h
theorem isinst_excT {tp : Addr} {dd : Option Addr} {its : List Value} {n : Nat} {sl : Array (Option Value)} (I : Inv X pins σ H s) (q : H a = some (excO a (.ref C))) (k : ExcK X.K C) (htp : s.heap.get? tp = some ⟨.type "tuple", dd, .seq its.toArray n, sl⟩)
    (e : PySem.W.kitAny X.K (.ref C) its = some b) (h : ∀ tk, Q (.bool b) { s with toks := tk }) : wpAny (model X.prog X.w) A (call (.builtin "isinstance") [.ref a, .ref tp]) Q E s :=
  PySem.W.kia_tup (kitx_exc k) I.kIn (exc_inst I q) htp e (fun z => nomatch z) h
end
end L2
set_option Elab.async false
set_option linter.all false
set_option maxRecDepth 100000
set_option maxHeartbeats 4000000
namespace L2
open PySem PySem.Spec PyProof.Rows
inductive D where
  | non
  | bl (b : Bool)
  | int (i : Int)
  | str (x : Str)
  | lst (xs : List D)
  | tup (xs : List D)
  | obj (x : Str) (fs : List (Str × D))
  | dct (kvs : List (Key × D))
  | dit (kvs : List (List Key × D))
  | exc (x : Str)
  | fn (x : Str)
mutual
inductive Rp (K : PySem.W.Frag) (R : Hp) : V → D → Prop
  | non : Rp K R .non .non
  | bl (b : Bool) : Rp K R (.bl b) (.bl b)
  | int (i : Int) : Rp K R (.int i) (.int i)
  | str (x : Str) : Rp K R (.str x) (.str x)
  | lst {a : Addr} {xs : List V} {ds : List D} : SqL K R a xs → Rps K R xs ds → Rp K R (.ref a) (.lst ds)
  | tup {a : Addr} {xs : List V} {ds : List D} : R a = some (.tup xs) → Rps K R xs ds → Rp K R (.ref a) (.tup ds)
  | obj {a C dx : Addr} {x : Str} {fs : List (Str × V)} {gs : List (Str × D)} : PySem.W.nsIn K mainGlobals x = some (some (.ref C)) → R a = some (.ins C dx fs) → Rfs K R fs gs → Rp K R (.ref a) (.obj x gs)
  | dct {a : Addr} {kvs : List (Key × V)} {gs : List (Key × D)} : R a = some (.dK kvs) → Rkk K R kvs gs → Rp K R (.ref a) (.dct gs)
  | dit {a : Addr} {kvs : List (List Key × V)} {gs : List (List Key × D)} : R a = some (.dT kvs) → Rkt K R kvs gs → Rp K R (.ref a) (.dit gs)
  | exc {a C : Addr} {x : Str} : PySem.W.nsIn K mainGlobals x = some (some (.ref C)) → ExcK K C → R a = some (excO a (.ref C)) → Rp K R (.ref a) (.exc x)
  | fn {l : Addr} {x : Str} : PySem.W.nsIn K mainGlobals x = some (some (.ref l)) → Rp K R (.ref l) (.fn x)
inductive Rps (K : PySem.W.Frag) (R : Hp) : List V → List D → Prop
  | nil : Rps K R [] []
  | cons {x : V} {xs : List V} {d : D} {ds : List D} : Rp K R x d → Rps K R xs ds → Rps K R (x :: xs) (d :: ds)
inductive Rfs (K : PySem.W.Frag) (R : Hp) : List (Str × V) → List (Str × D) → Prop
  | nil : Rfs K R [] []
  | cons {f : Str} {x : V} {xs : List (Str × V)} {d : D} {ds : List (Str × D)} : Rp K R x d → Rfs K R xs ds → Rfs K R ((f, x) :: xs) ((f, d) :: ds)
inductive Rkk (K : PySem.W.Frag) (R : Hp) : List (Key × V) → List (Key × D) → Prop
  | nil : Rkk K R [] []
  | cons {f : Key} {x : V} {xs : List (Key × V)} {d : D} {ds : List (Key × D)} : Rp K R x d → Rkk K R xs ds → Rkk K R ((f, x) :: xs) ((f, d) :: ds)
inductive Rkt (K : PySem.W.Frag) (R : Hp) : List (List Key × V) → List (List Key × D) → Prop
  | nil : Rkt K R [] []
  | cons {f : List Key} {x : V} {xs : List (List Key × V)} {d : D} {ds : List (List Key × D)} : Rp K R x d → Rkt K R xs ds → Rkt K R ((f, x) :: xs) ((f, d) :: ds)
end
section
variable {K : PySem.W.Frag} {R : Hp}
theorem Rp.isI {x : V} {i : Int} (h : Rp K R x (.int i)) : x = .int i := by cases h; rfl
theorem Rp.isS {x : V} {i : Str} (h : Rp K R x (.str i)) : x = .str i := by cases h; rfl
theorem Rp.isB {x : V} {i : Bool} (h : Rp K R x (.bl i)) : x = .bl i := by cases h; rfl
theorem Rp.isN {x : V} (h : Rp K R x .non) : x = .non := by cases h; rfl
noncomputable def atomV : D → Option V
  | .int i => some (.int i)
  | .str i => some (.str i)
  | .bl i => some (.bl i)
  | .non => some .non
  | _ => none
theorem Rp.isA {x v : V} : {d : D} → Rp K R x d → atomV d = some v → x = v
  | .int _, h, e => h.isI.trans (Option.some.inj e)
  | .str _, h, e => h.isS.trans (Option.some.inj e)
  | .bl _, h, e => h.isB.trans (Option.some.inj e)
  | .non, h, e => h.isN.trans (Option.some.inj e)
theorem Rp.isL {x : V} {ds : List D} (h : Rp K R x (.lst ds)) : ∃ a xs, x = .ref a ∧ SqL K R a xs ∧ Rps K R xs ds := by
  cases h with
  | @lst a xs ds h r => exact ⟨a, xs, rfl, h, r⟩
theorem Rp.isT {x : V} {ds : List D} (h : Rp K R x (.tup ds)) : ∃ a xs, x = .ref a ∧ R a = some (.tup xs) ∧ Rps K R xs ds := by
  cases h with
  | @tup a xs ds h r => exact ⟨a, xs, rfl, h, r⟩
theorem Rps.isN {xs : List V} (h : Rps K R xs []) : xs = [] := by cases h; rfl
theorem Rps.isC {xs : List V} {d : D} {ds : List D} (h : Rps K R xs (d :: ds)) : ∃ x ys, xs = x :: ys ∧ Rp K R x d ∧ Rps K R ys ds := by
  cases h with
  | @cons x ys d ds h r => exact ⟨x, ys, rfl, h, r⟩
end
noncomputable abbrev Rho := List (Option D)
theorem Same.sqL {K : PySem.W.Frag} {H H' : Hp} {a : Addr} {xs : List V} (e : Same H H') (h : SqL K H a xs) : SqL K H' a xs := by
  rcases h with (h | ⟨o, h⟩) | h
  · exact .inl (.inl (e _ _ h))
  · exact .inl (.inr ⟨o, e _ _ h⟩)
  · exact .inr h
section
variable {K : PySem.W.Frag} {R R' : Hp}
theorem Rp.mono (s : Same R R') {v : V} {d : D} (h : Rp K R v d) : Rp K R' v d :=
  Rp.rec (motive_1 := fun v d _ => Rp K R' v d) (motive_2 := fun xs ds _ => Rps K R' xs ds) (motive_3 := fun xs ds _ => Rfs K R' xs ds) (motive_4 := fun xs ds _ => Rkk K R' xs ds) (motive_5 := fun xs ds _ => Rkt K R' xs ds)
    .non .bl .int .str (fun h _ r => .lst (s.sqL h) r) (fun h _ r => .tup (s _ _ h) r) (fun n h _ r => .obj n (s _ _ h) r) (fun h _ r => .dct (s _ _ h) r) (fun h _ r => .dit (s _ _ h) r) (fun n k h => .exc n k (s _ _ h)) (fun n => .fn n)
    .nil (fun _ _ h r => .cons h r) .nil (fun _ _ h r => .cons h r) .nil (fun _ _ h r => .cons h r) .nil (fun _ _ h r => .cons h r) h
theorem Rps.mono (s : Same R R') {xs : List V} {ds : List D} (h : Rps K R xs ds) : Rps K R' xs ds :=
  Rps.rec (motive_1 := fun v d _ => Rp K R' v d) (motive_2 := fun xs ds _ => Rps K R' xs ds) (motive_3 := fun xs ds _ => Rfs K R' xs ds) (motive_4 := fun xs ds _ => Rkk K R' xs ds) (motive_5 := fun xs ds _ => Rkt K R' xs ds)
    .non .bl .int .str (fun h _ r => .lst (s.sqL h) r) (fun h _ r => .tup (s _ _ h) r) (fun n h _ r => .obj n (s _ _ h) r) (fun h _ r => .dct (s _ _ h) r) (fun h _ r => .dit (s _ _ h) r) (fun n k h => .exc n k (s _ _ h)) (fun n => .fn n)
    .nil (fun _ _ h r => .cons h r) .nil (fun _ _ h r => .cons h r) .nil (fun _ _ h r => .cons h r) .nil (fun _ _ h r => .cons h r) h
theorem Rfs.mono (s : Same R R') {xs : List (Str × V)} {ds : List (Str × D)} (h : Rfs K R xs ds) : Rfs K R' xs ds :=
  Rfs.rec (motive_1 := fun v d _ => Rp K R' v d) (motive_2 := fun xs ds _ => Rps K R' xs ds) (motive_3 := fun xs ds _ => Rfs K R' xs ds) (motive_4 := fun xs ds _ => Rkk K R' xs ds) (motive_5 := fun xs ds _ => Rkt K R' xs ds)
    .non .bl .int .str (fun h _ r => .lst (s.sqL h) r) (fun h _ r => .tup (s _ _ h) r) (fun n h _ r => .obj n (s _ _ h) r) (fun h _ r => .dct (s _ _ h) r) (fun h _ r => .dit (s _ _ h) r) (fun n k h => .exc n k (s _ _ h)) (fun n => .fn n)
    .nil (fun _ _ h r => .cons h r) .nil (fun _ _ h r => .cons h r) .nil (fun _ _ h r => .cons h r) .nil (fun _ _ h r => .cons h r) h
theorem Rkk.mono (s : Same R R') {xs : List (Key × V)} {ds : List (Key × D)} (h : Rkk K R xs ds) : Rkk K R' xs ds :=
  Rkk.rec (motive_1 := fun v d _ => Rp K R' v d) (motive_2 := fun xs ds _ => Rps K R' xs ds) (motive_3 := fun xs ds _ => Rfs K R' xs ds) (motive_4 := fun xs ds _ => Rkk K R' xs ds) (motive_5 := fun xs ds _ => Rkt K R' xs ds)
    .non .bl .int .str (fun h _ r => .lst (s.sqL h) r) (fun h _ r => .tup (s _ _ h) r) (fun n h _ r => .obj n (s _ _ h) r) (fun h _ r => .dct (s _ _ h) r) (fun h _ r => .dit (s _ _ h) r) (fun n k h => .exc n k (s _ _ h)) (fun n => .fn n)
    .nil (fun _ _ h r => .cons h r) .nil (fun _ _ h r => .cons h r) .nil (fun _ _ h r => .cons h r) .nil (fun _ _ h r => .cons h r) h
theorem Rkt.mono (s : Same R R') {xs : List (List Key × V)} {ds : List (List Key × D)} (h : Rkt K R xs ds) : Rkt K R' xs ds :=
  Rkt.rec (motive_1 := fun v d _ => Rp K R' v d) (motive_2 := fun xs ds _ => Rps K R' xs ds) (motive_3 := fun xs ds _ => Rfs K R' xs ds) (motive_4 := fun xs ds _ => Rkk K R' xs ds) (motive_5 := fun xs ds _ => Rkt K R' xs ds)
    .non .bl .int .str (fun h _ r => .lst (s.sqL h) r) (fun h _ r => .tup (s _ _ h) r) (fun n h _ r => .obj n (s _ _ h) r) (fun h _ r => .dct (s _ _ h) r) (fun h _ r => .dit (s _ _ h) r) (fun n k h => .exc n k (s _ _ h)) (fun n => .fn n)
    .nil (fun _ _ h r => .cons h r) .nil (fun _ _ h r => .cons h r) .nil (fun _ _ h r => .cons h r) .nil (fun _ _ h r => .cons h r) h
theorem Rps.length : ∀ {xs : List V} {ds : List D}, Rps K R xs ds → xs.length = ds.length
  | _, _, .nil => rfl
  | _, _, .cons _ r => by rw [List.length_cons, List.length_cons, Rps.length r]
theorem Rps.get : ∀ {xs : List V} {ds : List D} {i : Nat} {d : D}, Rps K R xs ds → ds[i]? = some d → ∃ v, xs[i]? = some v ∧ Rp K R v d
  | _, _, _, _, .nil, e => by simp at e
  | _, _, 0, _, .cons h _, e => by simp at e; subst e; exact ⟨_, rfl, h⟩
  | _, _, i + 1, d, .cons _ r, e => by
    obtain ⟨v, h1, h2⟩ := Rps.get (i := i) (d := d) r (by simpa using e)
    exact ⟨v, by simpa using h1, h2⟩
theorem Rps.append : ∀ {xs ys : List V} {ds es : List D}, Rps K R xs ds → Rps K R ys es → Rps K R (xs ++ ys) (ds ++ es)
  | _, _, _, _, .nil, s => s
  | _, _, _, _, .cons r t, s => .cons r (Rps.append t s)
theorem Rps.take : ∀ {xs : List V} {ds : List D} (n : Nat), Rps K R xs ds → Rps K R (xs.take n) (ds.take n)
  | _, _, 0, _ => .nil
  | _, _, _ + 1, .nil => .nil
  | _, _, n + 1, .cons r t => .cons r (Rps.take n t)
theorem Rps.drop : ∀ {xs : List V} {ds : List D} (n : Nat), Rps K R xs ds → Rps K R (xs.drop n) (ds.drop n)
  | _, _, 0, r => r
  | _, _, _ + 1, .nil => .nil
  | _, _, n + 1, .cons _ t => Rps.drop n t
theorem Rps.set {x : V} {d : D} (r : Rp K R x d) : ∀ {xs : List V} {ds : List D} (i : Nat), Rps K R xs ds → Rps K R (xs.set i x) (ds.set i d)
  | _, _, _, .nil => .nil
  | _, _, 0, .cons _ t => .cons r t
  | _, _, i + 1, .cons q t => .cons q (Rps.set r i t)
theorem Rps.one {x : V} {d : D} (r : Rp K R x d) : Rps K R [x] [d] := .cons r .nil
theorem Rps.ints : ∀ ns : List Int, Rps K R (ns.map V.int) (ns.map D.int)
  | [] => .nil
  | n :: ns => .cons (.int n) (Rps.ints ns)
theorem Rps.snoc {xs : List V} {ds : List D} {x : V} {d : D} (h : Rps K R xs ds) (r : Rp K R x d) : Rps K R (xs ++ [x]) (ds ++ [d]) := h.append (.one r)
end
inductive Sc : V → D → Prop
  | non : Sc .non .non
  | bl (b : Bool) : Sc (.bl b) (.bl b)
  | int (i : Int) : Sc (.int i) (.int i)
  | str (x : Str) : Sc (.str x) (.str x)
theorem Sc.rp {K : PySem.W.Frag} {R : Hp} {v : V} {d : D} (h : Sc v d) : Rp K R v d := by
  cases h with
  | non => exact .non
  | bl b => exact .bl b
  | int i => exact .int i
  | str x => exact .str x
noncomputable def Frh (H : Hp) (a : Addr) : Prop := H a = none ∨ ∃ xs, H a = some (.tup xs)
noncomputable def Liv (H H' : Hp) (a : Addr) : Prop := H' a ≠ none ∧ ∀ xs, H' a = some (.tup xs) → H a = some (.tup xs)
theorem Liv.refl {H : Hp} {a : Addr} (h : H a ≠ none) : Liv H H a := ⟨h, fun _ e => e⟩
theorem Liv.trans {H H1 H2 : Hp} {a : Addr} (x : Liv H H1 a) (y : Liv H1 H2 a) : Liv H H2 a := ⟨y.1, fun xs e => x.2 xs (y.2 xs e)⟩
theorem Frh.back {H H1 : Hp} {a : Addr} (h : H a ≠ none → Liv H H1 a) (z : Frh H1 a) : Frh H a := by
  cases q : H a with
  | none => exact .inl q
  | some o =>
    have v := h (by rw [q]; exact fun z => nomatch z)
    rcases z with z | ⟨xs, z⟩
    · exact absurd z v.1
    · exact .inr ⟨xs, v.2 xs z⟩
structure Ext (H R H' R' : Hp) : Prop where
  h : Same H H'
  r : Same R R'
  s : ∀ a o, R' a = some o → H' a = some o
  n : ∀ a, R' a ≠ none → R a ≠ none ∨ Frh H a
theorem Ext.refl {H R : Hp} (s : ∀ a o, R a = some o → H a = some o) : Ext H R H R := ⟨Same.refl _, Same.refl _, s, fun _ h => .inl h⟩
theorem Same.some {H H' : Hp} (s : Same H H') {a : Addr} (h : H a ≠ none) : H' a ≠ none := by
  cases q : H a with
  | none => exact absurd q h
  | some o => rw [s a o q]; exact fun z => nomatch z
theorem Same.liv {H H' : Hp} (s : Same H H') {a : Addr} (h : H a ≠ none) : Liv H H' a := ⟨s.some h, fun xs e => by
  cases q : H a with
  | none => exact absurd q h
  | some o => rw [s a o q] at e; exact e⟩
theorem Ext.trans {H R H1 R1 H2 R2 : Hp} (x : Ext H R H1 R1) (y : Ext H1 R1 H2 R2) : Ext H R H2 R2 := by
  refine ⟨x.h.trans y.h, x.r.trans y.r, y.s, fun a h => ?_⟩
  rcases y.n a h with z | z
  · exact x.n a z
  · exact .inr (z.back x.h.liv)
theorem Ext.new {H R : Hp} {a : Addr} {o : HO} (s : ∀ a o, R a = some o → H a = some o) (h : H a = none) : Ext H R (upd H a o) (upd R a o) := by
  have hr : R a = none := by
    cases q : R a with
    | none => rfl
    | some u => rw [s a u q] at h; cases h
  refine ⟨Same.new h, Same.new hr, fun b u e => ?_, fun b e => ?_⟩
  · by_cases hb : b = a
    · subst hb; rw [upd_same] at e ⊢; exact e
    · rw [upd_ne hb] at e ⊢; exact s b u e
  · by_cases hb : b = a
    · subst hb; exact .inr (.inl h)
    · rw [upd_ne hb] at e; exact .inl e
theorem Ext.hid {H R : Hp} {a : Addr} {o : HO} (s : ∀ a o, R a = some o → H a = some o) (h : H a = none) : Ext H R (upd H a o) R :=
  ⟨Same.new h, Same.refl _, fun b u e => Same.new h _ _ (s b u e), fun _ e => .inl e⟩
theorem Ext.know {H R H' R' : Hp} {l : Addr} {o : HO} (x : Ext H R H' R') (h : H l = none) (h' : H' l = some o) (hr : R' l = none) : Ext H R H' (upd R' l o) := by
  refine ⟨x.h, x.r.trans (Same.new hr), fun b u e => ?_, fun b e => ?_⟩
  · by_cases hb : b = l
    · subst hb; rw [upd_same] at e; rw [h', e]
    · rw [upd_ne hb] at e; exact x.s b u e
  · by_cases hb : b = l
    · subst hb; exact .inr (.inl h)
    · rw [upd_ne hb] at e; exact x.n b e
structure Anc where
  H0 : Hp
  R0 : Hp
  L : Addr → Prop
  P : List Nat
inductive Ob (K : PySem.W.Frag) (R : Hp) : HO → D → Prop
  | lst {vs : List V} {ds : List D} : Rps K R vs ds → Ob K R (.lst vs) (.lst ds)
  | dct {kvs : List (Key × V)} {gs : List (Key × D)} : Rkk K R kvs gs → Ob K R (.dK kvs) (.dct gs)
  | dit {kvs : List (List Key × V)} {gs : List (List Key × D)} : Rkt K R kvs gs → Ob K R (.dT kvs) (.dit gs)
theorem Ob.isL {K : PySem.W.Frag} {R : Hp} {o : HO} {ds : List D} (h : Ob K R o (.lst ds)) : ∃ vs, o = .lst vs ∧ Rps K R vs ds := by
  cases h with
  | lst r => exact ⟨_, rfl, r⟩
theorem Ob.mono {K : PySem.W.Frag} {R R' : Hp} {o : HO} {d : D} (s : Same R R') (h : Ob K R o d) : Ob K R' o d := by
  cases h with
  | lst r => exact .lst (r.mono s)
  | dct r => exact .dct (r.mono s)
  | dit r => exact .dit (r.mono s)
theorem Ob.noF {K : PySem.W.Frag} {H R : Hp} {o : HO} {d : D} {l : Addr} (h : Ob K R o d) (e : H l = some o) (z : Frh H l) : False := by
  rcases z with z | ⟨xs, z⟩
  · rw [e] at z; cases z
  · rw [e] at z; cases z; cases h
theorem Ob.rp {K : PySem.W.Frag} {R : Hp} {o : HO} {d : D} {l : Addr} (h : Ob K R o d) (e : R l = some o) : Rp K R (.ref l) d := by
  cases h with
  | lst r => exact .lst (SqL.of e) r
  | dct r => exact .dct e r
  | dit r => exact .dit e r
structure StR (K : PySem.W.Frag) (Z : Anc) (O : List Nat) (σ : St) (H R : Hp) (ρ : Rho) : Prop where
  sub : ∀ a o, R a = some o → H a = some o
  len : σ.length = ρ.length
  env : ∀ i d, i ∉ O → ρ[i]? = some (some d) → ∃ v, σ[i]? = some (some v) ∧ Rp K R v d
  own : ∀ i, i ∈ O → ∃ l vs ds, ρ[i]? = some (some ds) ∧ σ[i]? = some (some (.ref l)) ∧ H l = some vs ∧ R l = none ∧ Ob K R vs ds
  dis : ∀ i j, i ∈ O → j ∈ O → i ≠ j → ∀ l, σ[i]? = some (some (.ref l)) → σ[j]? ≠ some (some (.ref l))
  ah : ∀ a o, Z.H0 a = some o → ¬ Z.L a → H a = some o
  ar : Same Z.R0 R
  an : ∀ a, R a ≠ none → Z.R0 a ≠ none ∨ Frh Z.H0 a
  ad : ∀ a, Z.H0 a ≠ none → Liv Z.H0 H a
  ao : ∀ i, i ∈ O → i ∉ Z.P → ∀ l, σ[i]? = some (some (.ref l)) → Z.H0 l = none
  ap : ∀ i, i ∈ O → i ∈ Z.P → ∀ l, σ[i]? = some (some (.ref l)) → Z.L l
structure Stp (O : List Nat) (σ : St) (H R H' R' : Hp) : Prop where
  r : Same R R'
  h : ∀ a o, H a = some o → (∀ i, i ∈ O → σ[i]? ≠ some (some (.ref a))) → H' a = some o
  n : ∀ a, R' a ≠ none → R a ≠ none ∨ Frh H a
  d : ∀ a, H a ≠ none → Liv H H' a
theorem Stp.refl (O : List Nat) (σ : St) (H R : Hp) : Stp O σ H R H R := ⟨Same.refl _, fun _ _ e _ => e, fun _ h => .inl h, fun _ h => .refl h⟩
theorem Stp.trans {O : List Nat} {σ : St} {H R H1 R1 H2 R2 : Hp} (x : Stp O σ H R H1 R1) (y : Stp O σ H1 R1 H2 R2) : Stp O σ H R H2 R2 := by
  refine ⟨x.r.trans y.r, fun a o e n => y.h a o (x.h a o e n) n, fun a h => ?_, fun a h => (x.d a h).trans (y.d a (x.d a h).1)⟩
  rcases y.n a h with z | z
  · exact x.n a z
  · exact .inr (z.back (x.d a))
theorem Ext.stp {O : List Nat} {σ : St} {H R H' R' : Hp} (x : Ext H R H' R') : Stp O σ H R H' R' := ⟨x.r, fun a o e _ => x.h a o e, x.n, fun _ h => x.h.liv h⟩
section
variable {K : PySem.W.Frag} {Z : Anc} {O O' : List Nat} {σ σ' : St} {H R H' R' : Hp} {ρ ρ' : Rho}
theorem StR.ext (S : StR K Z O σ H R ρ) (x : Ext H R H' R') : StR K Z O σ H' R' ρ := by
  refine ⟨x.s, S.len, fun i d hi e => ?_, fun i hi => ?_, S.dis, fun a o e n => x.h a o (S.ah a o e n), S.ar.trans x.r, fun a h => ?_, fun a h => (S.ad a h).trans (x.h.liv (S.ad a h).1), S.ao, S.ap⟩
  · obtain ⟨v, h1, h2⟩ := S.env i d hi e
    exact ⟨v, h1, h2.mono x.r⟩
  · obtain ⟨l, vs, ds, h1, h2, h3, h4, h5⟩ := S.own i hi
    refine ⟨l, vs, ds, h1, h2, x.h _ _ h3, ?_, h5.mono x.r⟩
    cases q : R' l with
    | none => rfl
    | some o =>
      rcases x.n l (by rw [q]; exact fun z => nomatch z) with z | z
      · exact absurd h4 z
      · exact (h5.noF h3 z).elim
  · rcases x.n a h with z | z
    · exact S.an a z
    · exact .inr (z.back (S.ad a))
noncomputable def frzR (O O' : List Nat) (σ : St) (H R : Hp) : Hp := fun a => open Classical in if ∃ i, i ∈ O ∧ i ∉ O' ∧ σ[i]? = some (some (.ref a)) then H a else R a
theorem StR.freeze (S : StR K Z O σ H R ρ) (hs : ∀ i, i ∈ O' → i ∈ O) (hp : ∀ i, i ∈ Z.P → i ∈ O → i ∈ O') : StR K Z O' σ H (frzR O O' σ H R) ρ ∧ Same R (frzR O O' σ H R) := by
  have same : Same R (frzR O O' σ H R) := fun a o e => by
    unfold frzR
    split
    · exact S.sub a o e
    · exact e
  refine ⟨⟨fun a o e => ?_, S.len, fun i d hi e => ?_, fun i hi => ?_, fun i j hi hj => S.dis i j (hs i hi) (hs j hj), S.ah, S.ar.trans same, fun a h => ?_, S.ad, fun i hi => S.ao i (hs i hi), fun i hi => S.ap i (hs i hi)⟩, same⟩
  · unfold frzR at e
    split at e
    · exact e
    · exact S.sub a o e
  · by_cases hO : i ∈ O
    · obtain ⟨l, vs, ds, h1, h2, h3, h4, h5⟩ := S.own i hO
      rw [e] at h1
      have ed : d = ds := Option.some.inj (Option.some.inj h1)
      subst ed
      refine ⟨.ref l, h2, (h5.mono same).rp ?_⟩
      unfold frzR
      rw [if_pos ⟨i, hO, hi, h2⟩]
      exact h3
    · obtain ⟨v, h1, h2⟩ := S.env i d hO e
      exact ⟨v, h1, h2.mono same⟩
  · obtain ⟨l, vs, ds, h1, h2, h3, h4, h5⟩ := S.own i (hs i hi)
    refine ⟨l, vs, ds, h1, h2, h3, ?_, h5.mono same⟩
    unfold frzR
    rw [if_neg ?_]
    · exact h4
    · rintro ⟨j, hj, hj', e⟩
      exact S.dis j i hj (hs i hi) (fun z => hj' (z ▸ hi)) l e h2
  · unfold frzR at h
    split at h
    · rename_i z
      obtain ⟨j, hj, hj', e⟩ := z
      exact .inr (.inl (S.ao j hj (fun z => hj' (hp j z hj)) a e))
    · exact S.an a h
theorem StR.set (S : StR K Z O σ H R ρ) {i : Nat} {v : V} {d : D} (hi : i ∉ O) (r : Rp K R v d) : StR K Z O (σ.set i (some v)) H R (ρ.set i (some d)) := by
  have ne : ∀ j, j ∈ O → i ≠ j := fun j hj z => hi (z ▸ hj)
  refine ⟨S.sub, by rw [List.length_set, List.length_set]; exact S.len, fun j e hj q => ?_, fun j hj => ?_, fun j k hj hk n l e => ?_, S.ah, S.ar, S.an, S.ad, fun j hj hp l e => ?_, fun j hj hp l e => ?_⟩
  · by_cases hij : i = j
    · subst hij
      have hl : i < ρ.length := by
        have := (List.getElem?_eq_some_iff.mp q).1
        rwa [List.length_set] at this
      rw [List.getElem?_set_self hl] at q
      have e' : d = e := Option.some.inj (Option.some.inj q)
      subst e'
      exact ⟨v, by rw [List.getElem?_set_self (by rw [S.len]; exact hl)], r⟩
    · rw [List.getElem?_set_ne hij] at q
      obtain ⟨w, h1, h2⟩ := S.env j e hj q
      exact ⟨w, by rw [List.getElem?_set_ne hij]; exact h1, h2⟩
  · obtain ⟨l, vs, ds, h1, h2, h3, h4, h5⟩ := S.own j hj
    exact ⟨l, vs, ds, by rw [List.getElem?_set_ne (ne j hj)]; exact h1, by rw [List.getElem?_set_ne (ne j hj)]; exact h2, h3, h4, h5⟩
  · rw [List.getElem?_set_ne (ne j hj)] at e
    rw [List.getElem?_set_ne (ne k hk)]
    exact S.dis j k hj hk n l e
  · rw [List.getElem?_set_ne (ne j hj)] at e
    exact S.ao j hj hp l e
  · rw [List.getElem?_set_ne (ne j hj)] at e
    exact S.ap j hj hp l e
theorem StR.write (S : StR K Z O σ H R ρ) {i : Nat} {l : Addr} {vs : HO} {ds : D} (hi : i ∈ O) (hl : σ[i]? = some (some (.ref l))) (r : Ob K R vs ds) : StR K Z O σ (upd H l vs) R (ρ.set i (some ds)) := by
  obtain ⟨l0, vs0, ds0, h1, h2, h3, h4, h5⟩ := S.own i hi
  rw [hl] at h2
  cases h2
  have other : ∀ j, j ∈ O → i ≠ j → ∀ k, σ[j]? = some (some (.ref k)) → k ≠ l := fun j hj n k e z => by
    subst z
    exact S.dis i j hi hj n k hl e
  refine ⟨fun a o e => ?_, by rw [List.length_set]; exact S.len, fun j d hj q => ?_, fun j hj => ?_, S.dis, fun a o e n => ?_, S.ar, S.an, fun a h => ?_, S.ao, S.ap⟩
  · have ne : a ≠ l := fun z => by subst z; rw [h4] at e; cases e
    rw [upd_ne ne]; exact S.sub a o e
  · have n : i ≠ j := fun z => hj (z ▸ hi)
    rw [List.getElem?_set_ne n] at q
    exact S.env j d hj q
  · by_cases n : i = j
    · subst n
      have hlen : i < ρ.length := (List.getElem?_eq_some_iff.mp h1).1
      exact ⟨l, vs, ds, by rw [List.getElem?_set_self hlen], hl, upd_same, h4, r⟩
    · obtain ⟨k, vs', ds', g1, g2, g3, g4, g5⟩ := S.own j hj
      exact ⟨k, vs', ds', by rw [List.getElem?_set_ne n]; exact g1, g2, by rw [upd_ne (other j hj n k g2)]; exact g3, g4, g5⟩
  · have ne : a ≠ l := fun z => by
      subst z
      by_cases hp : i ∈ Z.P
      · exact n (S.ap i hi hp a hl)
      · rw [S.ao i hi hp a hl] at e; cases e
    rw [upd_ne ne]; exact S.ah a o e n
  · by_cases ha : a = l
    · subst ha; exact ⟨by rw [upd_same]; exact (fun z => (nomatch z)), fun xs e => by rw [upd_same] at e; cases e; cases r⟩
    · exact ⟨by rw [upd_ne ha]; exact (S.ad a h).1, fun xs e => by rw [upd_ne ha] at e; exact (S.ad a h).2 xs e⟩
theorem StR.take (S : StR K Z O σ H R ρ) {i : Nat} {l : Addr} {vs : HO} {ds : D} (hi : i ∉ O) (hin : i ∈ O') (hO : ∀ j, j ∈ O' → j = i ∨ j ∈ O) (hp : i ∉ Z.P) (hlen : i < ρ.length) (h0 : Z.H0 l = none) (hH : H l = some vs) (hR : R l = none) (hn : ∀ j, j ∈ O → σ[j]? ≠ some (some (.ref l))) (hs : ∀ j, j ∈ O → j ∈ O') (r : Ob K R vs ds) :
    StR K Z O' (σ.set i (some (.ref l))) H R (ρ.set i (some ds)) := by
  have ne : ∀ j, j ∈ O → i ≠ j := fun j hj z => hi (z ▸ hj)
  have hl : i < σ.length := by rw [S.len]; exact hlen
  refine ⟨S.sub, by rw [List.length_set, List.length_set]; exact S.len, fun j e hj q => ?_, fun j hj => ?_, fun j k hj hk n m e => ?_, S.ah, S.ar, S.an, S.ad, fun j hj hp l e => ?_, fun j hj hp' l e => ?_⟩
  · by_cases hij : i = j
    · subst hij
      rw [List.getElem?_set_self hlen] at q
      have e' : ds = e := Option.some.inj (Option.some.inj q)
      subst e'
      exact absurd hin hj
    · rw [List.getElem?_set_ne hij] at q
      obtain ⟨w, h1, h2⟩ := S.env j e (fun z => hj (hs j z)) q
      exact ⟨w, by rw [List.getElem?_set_ne hij]; exact h1, h2⟩
  · rcases hO j hj with rfl | hj'
    · exact ⟨l, vs, ds, by rw [List.getElem?_set_self hlen], by rw [List.getElem?_set_self hl], hH, hR, r⟩
    · obtain ⟨k, vs', ds', g1, g2, g3, g4, g5⟩ := S.own j hj'
      exact ⟨k, vs', ds', by rw [List.getElem?_set_ne (ne j hj')]; exact g1, by rw [List.getElem?_set_ne (ne j hj')]; exact g2, g3, g4, g5⟩
  · rcases hO j hj with rfl | hj'
    · rw [List.getElem?_set_self hl] at e
      cases e
      rcases hO k hk with rfl | hk'
      · exact absurd rfl n
      · rw [List.getElem?_set_ne (ne k hk')]
        exact hn k hk'
    · rw [List.getElem?_set_ne (ne j hj')] at e
      rcases hO k hk with rfl | hk'
      · rw [List.getElem?_set_self hl]
        intro z
        cases z
        exact hn j hj' e
      · rw [List.getElem?_set_ne (ne k hk')]
        exact S.dis j k hj' hk' n m e
  · rcases hO j hj with rfl | hj'
    · rw [List.getElem?_set_self hl] at e
      cases e
      exact h0
    · rw [List.getElem?_set_ne (ne j hj')] at e
      exact S.ao j hj' hp l e
  · rcases hO j hj with rfl | hj'
    · exact absurd hp' hp
    · rw [List.getElem?_set_ne (ne j hj')] at e
      exact S.ap j hj' hp' l e
end
end L2
set_option Elab.async false
set_option linter.all false
set_option maxRecDepth 100000
set_option maxHeartbeats 4000000
namespace L2
open PySem PySem.Spec PyProof.Rows
noncomputable def mBind {α β : Type} (a : Rho → Option (α × Rho)) (k : α → Rho → Option (β × Rho)) : Rho → Option (β × Rho) := fun ρ => match a ρ with
  | none => none
  | some (x, ρ1) => k x ρ1
noncomputable def mRet {α : Type} (x : α) : Rho → Option (α × Rho) := fun ρ => some (x, ρ)
noncomputable def mLift {α : Type} (o : Option α) : Rho → Option (α × Rho) := fun ρ => match o with
  | none => none
  | some x => some (x, ρ)
theorem mBind_some {α β : Type} {a : Rho → Option (α × Rho)} {k : α → Rho → Option (β × Rho)} {ρ : Rho} {r : β × Rho} (h : mBind a k ρ = some r) : ∃ x ρ1, a ρ = some (x, ρ1) ∧ k x ρ1 = some r := by
  unfold mBind at h
  cases e : a ρ with
  | none => rw [e] at h; cases h
  | some p => rw [e] at h; exact ⟨p.1, p.2, rfl, h⟩
theorem mLift_some {α : Type} {o : Option α} {ρ : Rho} {x : α} {ρ' : Rho} (h : mLift o ρ = some (x, ρ')) : o = some x ∧ ρ' = ρ := by
  unfold mLift at h
  cases o with
  | none => cases h
  | some y => cases h; exact ⟨rfl, rfl⟩
noncomputable def mVar (i : Nat) : Rho → Option (D × Rho) := fun ρ => match ρ[i]? with
  | some (some d) => some (d, ρ)
  | _ => none
theorem mVar_some {i : Nat} {ρ ρ' : Rho} {d : D} (h : mVar i ρ = some (d, ρ')) : ρ[i]? = some (some d) ∧ ρ' = ρ := by
  unfold mVar at h
  cases e : ρ[i]? with
  | none => rw [e] at h; cases h
  | some o =>
    rw [e] at h
    cases o with
    | none => cases h
    | some y => cases h; exact ⟨rfl, rfl⟩
section
variable (K : PySem.W.Frag) (O : List Nat)
noncomputable def ME (t : TE) (f : Rho → Option (D × Rho)) : Prop := ∀ (Z : Anc) (σ : St) (H R : Hp) (ρ : Rho) (d : D) (ρ' : Rho) (Q : VK), StR K Z O σ H R ρ → f ρ = some (d, ρ') → (∀ v H' R', StR K Z O σ H' R' ρ' → Stp O σ H R H' R' → Rp K R' v d → Q v H') → t σ H Q
noncomputable def MB (t : TE) (f : Rho → Option (D × Rho)) : Prop := ∀ (Z : Anc) (σ : St) (H R : Hp) (ρ : Rho) (d : D) (ρ' : Rho) (Q : VK), StR K Z O σ H R ρ → f ρ = some (d, ρ') → (∀ v H' R', StR K Z O σ H' R' ρ' → Stp O σ H R H' R' → Rp K H' v d → Q v H') → t σ H Q
noncomputable def MT (t : TT) (f : Rho → Option (Bool × Rho)) : Prop := ∀ (Z : Anc) (σ : St) (H R : Hp) (ρ : Rho) (b : Bool) (ρ' : Rho) (Q : Bool → Hp → Prop), StR K Z O σ H R ρ → f ρ = some (b, ρ') → (∀ H' R', StR K Z O σ H' R' ρ' → Stp O σ H R H' R' → Q b H') → t σ H Q
noncomputable def MA (t : TA) (f : Rho → Option (List D × Rho)) : Prop := ∀ (Z : Anc) (σ : St) (H R : Hp) (ρ : Rho) (ds : List D) (ρ' : Rho) (Q : List V → Hp → Prop), StR K Z O σ H R ρ → f ρ = some (ds, ρ') → (∀ vs H' R', StR K Z O σ H' R' ρ' → Stp O σ H R H' R' → Rps K R' vs ds → Q vs H') → t σ H Q
noncomputable def MN (t : TE) (f : Rho → Option (List D × Rho)) : Prop := ∀ (Z : Anc) (σ : St) (H R : Hp) (ρ : Rho) (ds : List D) (ρ' : Rho) (Q : VK), StR K Z O σ H R ρ → f ρ = some (ds, ρ') → (∀ l vs H' R', StR K Z O σ H' R' ρ' → Stp O σ H R H' R' → H l = none → H' l = some (.lst vs) → R' l = none → Rps K R' vs ds → Q (.ref l) H') → t σ H Q
end
section
variable {K : PySem.W.Frag} {Z : Anc} {O : List Nat} {t ta tb tc : TE} {tA tB' : TT} {tr : TA}
theorem StR.same {σ : St} {H R : Hp} {ρ : Rho} (S : StR K Z O σ H R ρ) : Same R H := S.sub
theorem ME.mb {f : Rho → Option (D × Rho)} (h : ME K O t f) : MB K O t f := fun Z σ H R ρ d ρ' Q S e k => h Z σ H R ρ d ρ' Q S e fun v H' R' S' st r => k v H' R' S' st (r.mono S'.same)
theorem StR.notnew {σ : St} {H R : Hp} {ρ : Rho} (S : StR K Z O σ H R ρ) {l : Addr} (h : H l = none) : ∀ j, j ∈ O → σ[j]? ≠ some (some (.ref l)) := fun j hj e => by
  obtain ⟨k, vs, ds, _, h2, h3, _⟩ := S.own j hj
  rw [e] at h2
  (first | obtain rfl := h2.isA rfl | cases h2)
  rw [h] at h3
  (first | obtain rfl := h3.isA rfl | cases h3)
theorem StR.know {σ : St} {H R : Hp} {ρ : Rho} {l : Addr} {vs : HO} (S : StR K Z O σ H R ρ) (h0 : Z.H0 l = none) (hH : H l = some vs) (hR : R l = none) (hn : ∀ j, j ∈ O → σ[j]? ≠ some (some (.ref l))) : StR K Z O σ H (upd R l vs) ρ := by
  have same : Same R (upd R l vs) := Same.new hR
  refine ⟨fun a o e => ?_, S.len, fun i d hi e => ?_, fun i hi => ?_, S.dis, S.ah, S.ar.trans same, fun a h => ?_, S.ad, S.ao, S.ap⟩
  · by_cases ha : a = l
    · subst ha; rw [upd_same] at e; rw [hH, e]
    · rw [upd_ne ha] at e; exact S.sub a o e
  · obtain ⟨v, h1, h2⟩ := S.env i d hi e
    exact ⟨v, h1, h2.mono same⟩
  · obtain ⟨k, ws, ds, h1, h2, h3, h4, h5⟩ := S.own i hi
    refine ⟨k, ws, ds, h1, h2, h3, ?_, h5.mono same⟩
    rw [upd_ne (fun z => hn i hi (by rw [← z]; exact h2))]
    exact h4
  · by_cases ha : a = l
    · subst ha; exact .inr (.inl h0)
    · rw [upd_ne ha] at h; exact S.an a h
theorem StR.new0 {σ : St} {H R : Hp} {ρ : Rho} {l : Addr} (S : StR K Z O σ H R ρ) (h : H l = none) : Z.H0 l = none := by
  cases q : Z.H0 l with
  | none => rfl
  | some o => exact absurd h (S.ad l (by rw [q]; exact fun z => nomatch z)).1
theorem Stp.know {σ : St} {H R H' R' : Hp} {l : Addr} {o : HO} (x : Stp O σ H R H' R') (h : H l = none) (hr : R' l = none) : Stp O σ H R H' (upd R' l o) := by
  refine ⟨x.r.trans (Same.new hr), x.h, fun b e => ?_, x.d⟩
  by_cases hb : b = l
  · subst hb; exact .inr (.inl h)
  · rw [upd_ne hb] at e; exact x.n b e
theorem MN.me {f : Rho → Option (List D × Rho)} (h : MN K O t f) : ME K O t (mBind f fun ds => mRet (.lst ds)) := fun Z σ H R ρ d ρ' Q S e k => by
  obtain ⟨ds, ρ1, e1, e2⟩ := mBind_some e
  cases e2
  refine h Z σ H R ρ ds _ Q S e1 fun l vs H' R' S' st h0 hH hR r => ?_
  refine k _ H' (upd R' l (.lst vs)) (S'.know (S.new0 h0) hH hR ?_) (st.know h0 hR) (.lst (SqL.of upd_same) (r.mono (Same.new hR)))
  exact S.notnew h0
theorem me_var {i : Nat} (hi : i ∉ O) : ME K O (tVar i) (mVar i) := fun Z σ H R ρ d ρ' Q S e k => by
  obtain ⟨e1, rfl⟩ := mVar_some e
  obtain ⟨v, h1, h2⟩ := S.env i d hi e1
  exact ⟨v, h1, k v H R S (Stp.refl _ _ _ _) h2⟩
theorem mb_var {i : Nat} : MB K O (tVar i) (mVar i) := fun Z σ H R ρ d ρ' Q S e k => by
  obtain ⟨e1, rfl⟩ := mVar_some e
  by_cases hi : i ∈ O
  · obtain ⟨l, vs, ds, h1, h2, h3, h4, h5⟩ := S.own i hi
    rw [e1] at h1
    (first | obtain rfl := h1.isA rfl | cases h1)
    exact ⟨.ref l, h2, k _ H R S (Stp.refl _ _ _ _) ((h5.mono S.same).rp h3)⟩
  · obtain ⟨v, h1, h2⟩ := S.env i d hi e1
    exact ⟨v, h1, k v H R S (Stp.refl _ _ _ _) (h2.mono S.same)⟩
theorem me_c {v : V} {d : D} (h : Sc v d) : ME K O (tC v) (mRet d) := fun Z σ H R ρ e ρ' Q S q k => by
  (first | obtain rfl := q.isA rfl | cases q)
  exact k v H R S (Stp.refl _ _ _ _) h.rp
theorem me_int {i : Int} : ME K O (tC (.int i)) (mRet (.int i)) := me_c (.int i)
theorem me_str {x : Str} : ME K O (tC (.str x)) (mRet (.str x)) := me_c (.str x)
theorem me_bl {b : Bool} : ME K O (tC (.bl b)) (mRet (.bl b)) := me_c (.bl b)
theorem me_non : ME K O (tC .non) (mRet .non) := me_c .non
noncomputable def mOp2 (g : D → D → Option D) (fa fb : Rho → Option (D × Rho)) : Rho → Option (D × Rho) := mBind fa fun x => mBind fb fun y => mLift (g x y)
noncomputable def OpS (K : PySem.W.Frag) (r : R2) (g : D → D → Option D) : Prop := ∀ (H : Hp) (x y : V) (d e u : D) (Q : VK), Rp K H x d → Rp K H y e → g d e = some u → (∀ v, Sc v u → Q v H) → r x y H Q
noncomputable def OpG (K : PySem.W.Frag) (r : R2) (g : D → D → Option D) : Prop := ∀ (H R : Hp) (x y : V) (d e u : D) (Q : VK), (∀ a o, R a = some o → H a = some o) → Rp K R x d → Rp K R y e → g d e = some u → (∀ v H' R', Ext H R H' R' → Rp K R' v u → Q v H') → r x y H Q
theorem OpS.g {r : R2} {g : D → D → Option D} (h : OpS K r g) : OpG K r g := fun H R x y d e u Q s rx ry q k =>
  h H x y d e u Q (rx.mono s) (ry.mono s) q fun v z => k v H R (Ext.refl s) z.rp
theorem me_op {r : R2} {g : D → D → Option D} {fa fb : Rho → Option (D × Rho)} (h : OpG K r g) (ha : ME K O ta fa) (hb : ME K O tb fb) : ME K O (tOp r ta tb) (mOp2 g fa fb) := fun Z σ H R ρ d ρ' Q S e k => by
  obtain ⟨x, ρ1, e1, e⟩ := mBind_some e
  obtain ⟨y, ρ2, e2, e⟩ := mBind_some e
  obtain ⟨e3, rfl⟩ := mLift_some e
  refine ha Z σ H R ρ x ρ1 _ S e1 fun v H1 R1 S1 st1 r1 => hb Z σ H1 R1 ρ1 y _ _ S1 e2 fun w H2 R2 S2 st2 r2 => ?_
  exact h H2 R2 v w x y d Q S2.sub (r1.mono st2.r) r2 e3 fun z H3 R3 x3 r3 => k z H3 R3 (S2.ext x3) ((st1.trans st2).trans x3.stp) r3
theorem me_opB {r : R2} {g : D → D → Option D} {fa fb : Rho → Option (D × Rho)} (h : OpS K r g) (ha : ME K O ta fa) (hb : MB K O tb fb) : ME K O (tOp r ta tb) (mOp2 g fa fb) := fun Z σ H R ρ d ρ' Q S e k => by
  obtain ⟨x, ρ1, e1, e⟩ := mBind_some e
  obtain ⟨y, ρ2, e2, e⟩ := mBind_some e
  obtain ⟨e3, rfl⟩ := mLift_some e
  refine ha Z σ H R ρ x ρ1 _ S e1 fun v H1 R1 S1 st1 r1 => hb Z σ H1 R1 ρ1 y _ _ S1 e2 fun w H2 R2 S2 st2 r2 => ?_
  exact h H2 v w x y d Q ((r1.mono st2.r).mono S2.same) r2 e3 fun z q => k z H2 R2 S2 (st1.trans st2) q.rp
noncomputable def mOpO (g : D → D → Option D) (i : Nat) (fb : Rho → Option (D × Rho)) : Rho → Option (D × Rho) := mBind fb fun y => mBind (mVar i) fun x => mLift (g x y)
noncomputable def mIxO (i : Nat) (fb : Rho → Option (D × Rho)) : Rho → Option (D × Rho) := mBind fb fun y => mBind (mVar i) fun x => mLift (match x, y with
  | .lst xs, .int j => atI xs j
  | _, _ => none)
theorem atI_rps {R : Hp} {xs : List V} {ds : List D} {i : Int} {d : D} (r : Rps K R xs ds) (h : atI ds i = some d) : ∃ v, atI xs i = some v ∧ Rp K R v d := by
  unfold atI at h ⊢
  rw [r.length]
  cases e : ixN ds.length i with
  | none => rw [e] at h; cases h
  | some j =>
    rw [e] at h
    exact r.get h
theorem me_ixO {i : Nat} {fb : Rho → Option (D × Rho)} (hi : i ∈ O) (hb : ME K O tb fb) : ME K O (tOp (rIx K) (tVar i) tb) (mIxO i fb) := fun Z σ H R ρ d ρ' Q S e k => by
  obtain ⟨y, ρ1, e1, e⟩ := mBind_some e
  obtain ⟨x, ρ2, e2, e⟩ := mBind_some e
  obtain ⟨e3, rfl⟩ := mLift_some e
  obtain ⟨e4, rfl⟩ := mVar_some e2
  obtain ⟨l, vs, ds, h1, h2, h3, _⟩ := S.own i hi
  refine ⟨.ref l, h2, hb Z σ H R ρ y _ _ S e1 fun w H1 R1 S1 st1 r1 => ?_⟩
  obtain ⟨l', vs', ds', g1, g2, g3, g4, g5⟩ := S1.own i hi
  rw [h2] at g2
  cases g2
  rw [e4] at g1
  cases g1
  split at e3
  · obtain rfl := r1.isA rfl
    obtain ⟨us, rfl, q5⟩ := g5.isL
    obtain ⟨v, q1, q2⟩ := atI_rps q5 e3
    exact .inl ⟨l, _, _, v, rfl, rfl, SqL.of g3, q1, k v H1 R1 S1 st1 q2⟩
  · cases e3
noncomputable def dIx : D → D → Option D
  | .lst xs, .int i => atI xs i
  | .tup xs, .int i => atI xs i
  | .str z, .int i => if z.length ≤ sizeLine then (atI z.cps.toList i).map fun c => .str ⟨#[c]⟩ else none
  | _, _ => none
theorem op_ix : OpG K (rIx K) dIx := fun H R x y d e u Q s rx ry q k => by
  unfold dIx at q
  split at q
  · rename_i xs i
    (first | obtain rfl := ry.isA rfl | cases ry)
    obtain ⟨_, _, rfl, h, r⟩ := rx.isL
    obtain ⟨v, q1, q2⟩ := atI_rps r q
    exact .inl ⟨_, _, i, v, rfl, rfl, Same.sqL s h, q1, k v H R (Ext.refl s) q2⟩
  · rename_i xs i
    (first | obtain rfl := ry.isA rfl | cases ry)
    obtain ⟨_, _, rfl, h, r⟩ := rx.isT
    obtain ⟨v, q1, q2⟩ := atI_rps r q
    exact .inr (.inl ⟨_, _, i, v, rfl, rfl, SqT.of (s _ _ h), q1, k v H R (Ext.refl s) q2⟩)
  · rename_i z i
    (first | obtain rfl := ry.isA rfl | cases ry)
    (first | obtain rfl := rx.isA rfl | cases rx)
    split at q
    · rename_i hz
      cases e' : atI z.cps.toList i with
      | none => rw [e'] at q; cases q
      | some c =>
        rw [e'] at q
        (first | obtain rfl := q.isA rfl | cases q)
        exact .inr (.inr ⟨z, i, c, rfl, rfl, hz, e', k _ H R (Ext.refl s) (.str _)⟩)
    · (first | obtain rfl := q.isA rfl | cases q)
  · (first | obtain rfl := q.isA rfl | cases q)
noncomputable def dI2 (C : Int → Int → Bool) (g : Int → Int → Int) : D → D → Option D
  | .int i, .int j => if C i j = true then some (.int (g i j)) else none
  | _, _ => none
theorem op_i {C : Int → Int → Bool} {P : Int → Int → Prop} {g : Int → Int → Int} (hc : ∀ i j, C i j = true → P i j) : OpG K (rI P fun i j => .int (g i j)) (dI2 C g) := fun H R x y d e u Q s rx ry q k => by
  unfold dI2 at q
  split at q
  · rename_i i j
    split at q
    · rename_i h
      (first | obtain rfl := q.isA rfl | cases q)
      (first | obtain rfl := rx.isA rfl | cases rx)
      (first | obtain rfl := ry.isA rfl | cases ry)
      exact ⟨i, j, rfl, rfl, hc i j h, k _ H R (Ext.refl s) (.int _)⟩
    · (first | obtain rfl := q.isA rfl | cases q)
  · (first | obtain rfl := q.isA rfl | cases q)
noncomputable def dI0 (g : Int → Int → Int) : D → D → Option D
  | .int i, .int j => some (.int (g i j))
  | _, _ => none
theorem op_i0 {g : Int → Int → Int} : OpG K (rI0 fun i j => .int (g i j)) (dI0 g) := fun H R x y d e u Q s rx ry q k => by
  unfold dI0 at q
  split at q
  · rename_i i j
    (first | obtain rfl := q.isA rfl | cases q)
    (first | obtain rfl := rx.isA rfl | cases rx)
    (first | obtain rfl := ry.isA rfl | cases ry)
    exact ⟨i, j, rfl, rfl, k _ H R (Ext.refl s) (.int _)⟩
  · (first | obtain rfl := q.isA rfl | cases q)
noncomputable def dB0 (g : Int → Int → Bool) : D → D → Option D
  | .int i, .int j => some (.bl (g i j))
  | _, _ => none
end
end L2
set_option Elab.async false
set_option linter.all false
set_option maxRecDepth 100000
set_option maxHeartbeats 4000000
namespace L2
open PySem PySem.Spec PyProof.Rows
section
variable {K : PySem.W.Frag} {Z : Anc} {O : List Nat} {t ta tb tc : TE} {tA tB' : TT} {tr : TA} {fa fb fc : Rho → Option (D × Rho)} {ga gb : Rho → Option (Bool × Rho)} {fs : Rho → Option (List D × Rho)}
noncomputable def mTest (f : Rho → Option (D × Rho)) : Rho → Option (Bool × Rho) := mBind f fun d => mLift (match d with
  | .bl b => some b
  | _ => none)
theorem mt_test (h : ME K O t fa) : MT K O (tTest t) (mTest fa) := fun Z σ H R ρ b ρ' Q S e k => by
  obtain ⟨d, ρ1, e1, e⟩ := mBind_some e
  obtain ⟨e2, rfl⟩ := mLift_some e
  refine h Z σ H R ρ d _ _ S e1 fun v H' R' S' st r => ?_
  (first | split at e2)
  · obtain rfl := r.isA rfl
    cases e2
    exact ⟨_, rfl, k H' R' S' st⟩
  · cases e2
theorem mt_val (h : ME K O t fa) : MT K O (tB t) (mTest fa) := fun Z σ H R ρ b ρ' Q S e k => by
  obtain ⟨d, ρ1, e1, e⟩ := mBind_some e
  obtain ⟨e2, rfl⟩ := mLift_some e
  refine h Z σ H R ρ d _ _ S e1 fun v H' R' S' st r => ?_
  (first | split at e2)
  · obtain rfl := r.isA rfl
    cases e2
    exact ⟨_, rfl, k H' R' S' st⟩
  · cases e2
noncomputable def mNot (f : Rho → Option (Bool × Rho)) : Rho → Option (Bool × Rho) := mBind f fun b => mRet (!b)
theorem mt_not (h : MT K O tA ga) : MT K O (tNot tA) (mNot ga) := fun Z σ H R ρ b ρ' Q S e k => by
  obtain ⟨c, ρ1, e1, e⟩ := mBind_some e
  cases e
  exact h Z σ H R ρ c _ _ S e1 fun H' R' S' st => k H' R' S' st
noncomputable def mAnd (f g : Rho → Option (Bool × Rho)) : Rho → Option (Bool × Rho) := mBind f fun b => if b = true then g else mRet false
noncomputable def mOr (f g : Rho → Option (Bool × Rho)) : Rho → Option (Bool × Rho) := mBind f fun b => if b = true then mRet true else g
theorem mt_and (h : MT K O tA ga) (h2 : MT K O tB' gb) : MT K O (tAnd tA tB') (mAnd ga gb) := fun Z σ H R ρ b ρ' Q S e k => by
  obtain ⟨c, ρ1, e1, e⟩ := mBind_some e
  refine h Z σ H R ρ c _ _ S e1 fun H' R' S' st => ?_
  cases c with
  | true => exact iteT (h2 Z σ H' R' ρ1 b ρ' Q S' e fun H2 R2 S2 st2 => k H2 R2 S2 (st.trans st2))
  | false => cases e; exact iteF (k H' R' S' st)
theorem mt_or (h : MT K O tA ga) (h2 : MT K O tB' gb) : MT K O (tOr tA tB') (mOr ga gb) := fun Z σ H R ρ b ρ' Q S e k => by
  obtain ⟨c, ρ1, e1, e⟩ := mBind_some e
  refine h Z σ H R ρ c _ _ S e1 fun H' R' S' st => ?_
  cases c with
  | true => cases e; exact iteT (k H' R' S' st)
  | false => exact iteF (h2 Z σ H' R' ρ1 b ρ' Q S' e fun H2 R2 S2 st2 => k H2 R2 S2 (st.trans st2))
noncomputable def mAndV (f g : Rho → Option (D × Rho)) : Rho → Option (D × Rho) := mBind (mTest f) fun b => if b = true then g else mRet (.bl false)
noncomputable def mOrV (f g : Rho → Option (D × Rho)) : Rho → Option (D × Rho) := mBind (mTest f) fun b => if b = true then mRet (.bl true) else g
noncomputable def mNotV (f : Rho → Option (D × Rho)) : Rho → Option (D × Rho) := mBind (mTest f) fun b => mRet (.bl (!b))
theorem me_and (h : ME K O ta fa) (h2 : ME K O tb fb) : ME K O (tAndV ta tb) (mAndV fa fb) := fun Z σ H R ρ d ρ' Q S e k => by
  obtain ⟨c, ρ1, e1, e⟩ := mBind_some e
  obtain ⟨x, ρ2, e1, e2⟩ := mBind_some e1
  obtain ⟨e2, rfl⟩ := mLift_some e2
  refine h Z σ H R ρ x _ _ S e1 fun v H' R' S' st r => ?_
  (first | split at e2)
  · obtain rfl := r.isA rfl
    cases e2
    refine ⟨_, rfl, ?_⟩
    cases c with
    | true => exact iteT (h2 Z σ H' R' _ d ρ' Q S' e fun v H2 R2 S2 st2 r2 => k v H2 R2 S2 (st.trans st2) r2)
    | false => cases e; exact iteF (k _ H' R' S' st (.bl false))
  · cases e2
noncomputable def mIf (f : Rho → Option (Bool × Rho)) (g h : Rho → Option (D × Rho)) : Rho → Option (D × Rho) := mBind f fun b => if b = true then g else h
theorem me_if (h : MT K O tA ga) (h1 : ME K O ta fa) (h2 : ME K O tb fb) : ME K O (tIf tA ta tb) (mIf ga fa fb) := fun Z σ H R ρ d ρ' Q S e k => by
  obtain ⟨c, ρ1, e1, e⟩ := mBind_some e
  refine h Z σ H R ρ c _ _ S e1 fun H' R' S' st => ?_
  cases c with
  | true => exact iteT (h1 Z σ H' R' ρ1 d ρ' Q S' e fun v H2 R2 S2 st2 r2 => k v H2 R2 S2 (st.trans st2) r2)
  | false => exact iteF (h2 Z σ H' R' ρ1 d ρ' Q S' e fun v H2 R2 S2 st2 r2 => k v H2 R2 S2 (st.trans st2) r2)
noncomputable def mNil : Rho → Option (List D × Rho) := mRet []
noncomputable def mCons (f : Rho → Option (D × Rho)) (g : Rho → Option (List D × Rho)) : Rho → Option (List D × Rho) := mBind f fun x => mBind g fun xs => mRet (x :: xs)
theorem ma_nil : MA K O tNil mNil := fun Z σ H R ρ ds ρ' Q S e k => by
  cases e
  exact k [] H R S (Stp.refl _ _ _ _) .nil
theorem ma_cons (h : ME K O t fa) (h2 : MA K O tr fs) : MA K O (tCons t tr) (mCons fa fs) := fun Z σ H R ρ ds ρ' Q S e k => by
  obtain ⟨x, ρ1, e1, e⟩ := mBind_some e
  obtain ⟨xs, ρ2, e2, e⟩ := mBind_some e
  cases e
  refine h Z σ H R ρ x _ _ S e1 fun v H1 R1 S1 st1 r1 => h2 Z σ H1 R1 ρ1 xs _ _ S1 e2 fun vs H2 R2 S2 st2 r2 => ?_
  exact k (v :: vs) H2 R2 S2 (st1.trans st2) (.cons (r1.mono st2.r) r2)
noncomputable def mTup (f : Rho → Option (List D × Rho)) : Rho → Option (D × Rho) := mBind f fun xs => mLift (if xs.length ≤ sizeLine then some (.tup xs) else none)
theorem me_tup (h : MA K O tr fs) : ME K O (tTup tr) (mTup fs) := fun Z σ H R ρ d ρ' Q S e k => by
  obtain ⟨xs, ρ1, e1, e⟩ := mBind_some e
  obtain ⟨e2, rfl⟩ := mLift_some e
  refine h Z σ H R ρ xs _ _ S e1 fun vs H1 R1 S1 st1 r1 => ?_
  split at e2
  · rename_i hz
    cases e2
    refine ⟨by rw [r1.length]; exact hz, fun p np => ?_⟩
    have x := Ext.new (o := .tup vs) S1.sub np
    exact k _ _ _ (S1.ext x) (st1.trans x.stp) (.tup upd_same (r1.mono x.r))
  · cases e2
noncomputable def mLst (f : Rho → Option (List D × Rho)) : Rho → Option (List D × Rho) := mBind f fun xs => mLift (if xs.length ≤ sizeLine then some xs else none)
theorem StR.out {σ : St} {H R : Hp} {ρ : Rho} {l : Addr} (S : StR K Z O σ H R ρ) (h : H l = none) : R l = none := by
  cases q : R l with
  | none => rfl
  | some o => rw [S.sub l o q] at h; cases h
theorem Stp.new {σ : St} {H R H' R' : Hp} {l : Addr} (x : Stp O σ H R H' R') (h : H' l = none) : H l = none := by
  cases q : H l with
  | none => rfl
  | some o => exact absurd h (x.d l (by rw [q]; exact fun z => nomatch z)).1
theorem mn_lst (h : MA K O tr fs) : MN K O (tLst tr) (mLst fs) := fun Z σ H R ρ ds ρ' Q S e k => by
  obtain ⟨xs, ρ1, e1, e⟩ := mBind_some e
  obtain ⟨e2, rfl⟩ := mLift_some e
  refine h Z σ H R ρ xs _ _ S e1 fun vs H1 R1 S1 st1 r1 => ?_
  split at e2
  · rename_i hz
    cases e2
    refine ⟨by rw [r1.length]; exact hz, fun p np => ?_⟩
    have x := Ext.hid (o := .lst vs) S1.sub np
    exact k p vs _ _ (S1.ext x) (st1.trans x.stp) (st1.new np) upd_same (S1.out np) r1
  · cases e2
noncomputable def CallS (K : PySem.W.Frag) (r : List V → Hp → VK → Prop) (g : D → Option D) : Prop := ∀ (H : Hp) (x : V) (d u : D) (Q : VK), Rp K H x d → g d = some u → (∀ v, Sc v u → Q v H) → r [x] H Q
noncomputable def mOp1 (g : D → Option D) (f : Rho → Option (D × Rho)) : Rho → Option (D × Rho) := mBind f fun x => mLift (g x)
theorem me_call1 {r : List V → Hp → VK → Prop} {g : D → Option D} (h : CallS K r g) (ha : MB K O t fa) : ME K O (tCB r (tCons t tNil)) (mOp1 g fa) := fun Z σ H R ρ d ρ' Q S e k => by
  obtain ⟨x, ρ1, e1, e⟩ := mBind_some e
  obtain ⟨e2, rfl⟩ := mLift_some e
  refine ha Z σ H R ρ x _ _ S e1 fun v H1 R1 S1 st1 r1 => ?_
  exact h H1 v x d Q r1 e2 fun w z => k w H1 R1 S1 st1 z.rp
noncomputable def dLen : D → Option D
  | .lst xs => some (.int xs.length)
  | .tup xs => some (.int xs.length)
  | _ => none
theorem cs_len : CallS K (fun xs H Q => ∃ p ys, xs = [.ref p] ∧ (SqL K H p ys ∨ SqT K H p ys) ∧ Q (.int ys.length) H) dLen := fun H x d u Q r e k => by
  (first | split at e | (unfold dLen at e; split at e))
  · obtain ⟨_, _, rfl, h, q⟩ := r.isL
    cases e
    refine ⟨_, _, rfl, .inl h, ?_⟩
    rw [q.length]
    exact k _ (.int _)
  · obtain ⟨_, _, rfl, h, q⟩ := r.isT
    cases e
    refine ⟨_, _, rfl, .inr (SqT.of h), ?_⟩
    rw [q.length]
    exact k _ (.int _)
  · cases e
noncomputable def dInt : D → Option D
  | .int i => some (.int i)
  | .bl b => some (.int (if b then 1 else 0))
  | _ => none
theorem cs_int : CallS K (fun xs H Q => (∃ i, xs = [.int i] ∧ Q (.int i) H) ∨ ∃ k, xs = [.bl k] ∧ Q (.int (if k then 1 else 0)) H) dInt := fun H x d u Q r e k => by
  (first | split at e | (unfold dInt at e; split at e))
  · rename_i i
    obtain rfl := r.isA rfl
    cases e
    exact .inl ⟨i, rfl, k _ (.int _)⟩
  · rename_i b
    obtain rfl := r.isA rfl
    cases e
    exact .inr ⟨b, rfl, k _ (.int _)⟩
  · cases e
noncomputable def intsD : List D → Option (List Int)
  | [] => some []
  | .int i :: r => (intsD r).map (i :: ·)
  | _ => none
noncomputable def boolsD : List D → Option (List Bool)
  | [] => some []
  | .bl i :: r => (boolsD r).map (i :: ·)
  | _ => none
theorem intsD_rps {R : Hp} : ∀ {xs : List V} {ds : List D} {ns : List Int}, Rps K R xs ds → intsD ds = some ns → xs = ns.map V.int
  | _, _, ns, .nil, e => by cases e; rfl
  | _, _, ns, .cons (d := d) h r, e => by
    cases h with
    | int i =>
      unfold intsD at e
      cases q : intsD _ with
      | none => rw [q] at e; cases e
      | some ms => rw [q] at e; cases e; rw [intsD_rps r q]; rfl
    | _ => cases e
theorem intsD_map : ∀ ns : List Int, intsD (ns.map D.int) = some ns
  | [] => rfl
  | n :: ns => by rw [List.map_cons, intsD, intsD_map ns]; rfl
noncomputable def dSum : D → Option D
  | .lst xs => (intsD xs).map fun ns => .int ns.sum
  | _ => none
noncomputable def dAll : D → Option D
  | .lst xs => (boolsD xs).map fun bs => .bl (bs.all id)
  | _ => none
end
end L2
set_option Elab.async false
set_option linter.all false
set_option maxRecDepth 100000
set_option maxHeartbeats 4000000
namespace L2
open PySem PySem.Spec PyProof.Rows
noncomputable def ItOk (K : PySem.W.Frag) (J : It) (R : Hp) (ds : List D) : Prop := ∀ (H' R' : Hp), Same R R' → (∀ a o, R' a = some o → H' a = some o) → ∀ i : Nat, (i = ds.length → J.stop i H') ∧ ∀ d, ds[i]? = some d → J.go i H' ∧ ∀ x H'', J.yld i H' x H'' → ∃ R'', Ext H' R' H'' R'' ∧ Rp K R'' x d
theorem ItOk.mono {K : PySem.W.Frag} {J : It} {R R1 : Hp} {ds : List D} (h : ItOk K J R ds) (s : Same R R1) : ItOk K J R1 ds := fun H' R' s' b => h H' R' (s.trans s') b
noncomputable def MI (K : PySem.W.Frag) (O : List Nat) (wi : TI) (f : Rho → Option (List D × Rho)) : Prop := ∀ (Z : Anc) (σ : St) (H R : Hp) (ρ : Rho) (ds : List D) (ρ' : Rho) (Q : It → Hp → Prop), StR K Z O σ H R ρ → f ρ = some (ds, ρ') → (∀ J H' R', StR K Z O σ H' R' ρ' → Stp O σ H R H' R' → ItOk K J R' ds → Q J H') → wi σ H Q
noncomputable def iSeq (K : PySem.W.Frag) (tl : TE) : TI := fun σ H R => iList K tl σ H R ∨ iTup K tl σ H R
theorem pi_seqK {X : Cx} {K : PySem.W.Frag} {tg l : Expr} {tl : TE} (h : X.K = K) (hl : PE X l tl) : PI X tg l (iSeq K tl) := fun pins s σ H R I q => by
  rcases q with q | q
  · exact pi_listK h hl pins s σ H R I q
  · exact pi_tupK h hl pins s σ H R I q
noncomputable def mSeq (f : Rho → Option (D × Rho)) : Rho → Option (List D × Rho) := mBind f fun d => mLift (match d with
  | .lst xs => some xs
  | .tup xs => some xs
  | _ => none)
section
variable {K : PySem.W.Frag} {O : List Nat} {t : TE} {tr : TA} {fa : Rho → Option (D × Rho)} {fs : Rho → Option (List D × Rho)}
theorem it_list {R : Hp} {a : Addr} {xs : List V} {ds : List D} (h : SqL K R a xs) (r : Rps K R xs ds) : ItOk K (Itl K a) R ds := fun H' R' s b i => by
  have q : SqL K H' a xs := Same.sqL b (Same.sqL s h)
  refine ⟨fun e => ⟨xs, q, by rw [r.length]; omega⟩, fun d e => ?_⟩
  obtain ⟨v, h1, h2⟩ := r.get e
  refine ⟨⟨xs, v, q, h1⟩, fun x H'' y => ?_⟩
  obtain ⟨rfl, y⟩ := y
  have ex := y xs q
  rw [h1] at ex
  cases ex
  exact ⟨R', Ext.refl b, h2.mono s⟩
theorem it_tup {R : Hp} {a : Addr} {xs : List V} {ds : List D} (h : SqT K R a xs) (r : Rps K R xs ds) : ItOk K (Itt K a) R ds := fun H' R' s b i => by
  have q : SqT K H' a xs := Same.tup b (Same.tup s h)
  refine ⟨fun e => ⟨xs, q, by rw [r.length]; omega⟩, fun d e => ?_⟩
  obtain ⟨v, h1, h2⟩ := r.get e
  refine ⟨⟨xs, v, q, h1⟩, fun x H'' y => ?_⟩
  obtain ⟨rfl, y⟩ := y
  have ex := y xs q
  rw [h1] at ex
  cases ex
  exact ⟨R', Ext.refl b, h2.mono s⟩
theorem mi_seq (h : ME K O t fa) : MI K O (iSeq K t) (mSeq fa) := fun Z σ H R ρ ds ρ' Q S e k => by
  obtain ⟨d, ρ1, e1, e⟩ := mBind_some e
  obtain ⟨e2, rfl⟩ := mLift_some e
  cases d with
  | lst xs =>
    cases e2
    refine .inl (h Z σ H R ρ _ _ _ S e1 fun v H1 R1 S1 st1 r1 => ?_)
    obtain ⟨_, _, rfl, q, r⟩ := r1.isL
    exact ⟨_, rfl, ⟨_, Same.sqL S1.same q⟩, k _ H1 R1 S1 st1 (it_list q r)⟩
  | tup xs =>
    cases e2
    refine .inr (h Z σ H R ρ _ _ _ S e1 fun v H1 R1 S1 st1 r1 => ?_)
    obtain ⟨_, _, rfl, q, r⟩ := r1.isT
    exact ⟨_, rfl, ⟨_, SqT.of (S1.same _ _ q)⟩, k _ H1 R1 S1 st1 (it_tup (SqT.of q) r)⟩
  | _ => cases e2
noncomputable def rangeD (lo : Int) (n : Nat) : List D := (List.range n).map fun (k : Nat) => D.int (lo + (k : Int))
theorem it_range {R : Hp} (lo : Int) (n : Nat) : ItOk K (Itr lo n) R (rangeD lo n) := fun H' R' s b i => by
  have len : (rangeD lo n).length = n := by simp [rangeD]
  refine ⟨fun e => by show n ≤ i; omega, fun d e => ?_⟩
  have hi : i < n := by
    have := (List.getElem?_eq_some_iff.mp e).1
    omega
  have ed : d = D.int (lo + (i : Int)) := by
    unfold rangeD at e
    rw [List.getElem?_map, List.getElem?_range hi] at e
    exact (Option.some.inj e).symm
  subst ed
  refine ⟨hi, fun x H'' y => ?_⟩
  obtain ⟨rfl, rfl⟩ := y
  exact ⟨R', Ext.refl b, .int _⟩
noncomputable def big (j : Int) : Bool := decide (-(2 ^ 62) ≤ j) && decide (j < 2 ^ 62)
noncomputable def mRng1 (f : Rho → Option (List D × Rho)) : Rho → Option (List D × Rho) := mBind f fun ds => mLift (match ds with
  | [.int j] => if big j = true then some (rangeD 0 j.toNat) else none
  | _ => none)
theorem mi_range1 (h : MA K O tr fs) : MI K O (iRng1 tr) (mRng1 fs) := fun Z σ H R ρ ds ρ' Q S e k => by
  obtain ⟨xs, ρ1, e1, e⟩ := mBind_some e
  obtain ⟨e2, rfl⟩ := mLift_some e
  split at e2
  · rename_i j
    split at e2
    · rename_i hb
      cases e2
      refine h Z σ H R ρ _ _ _ S e1 fun vs H1 R1 S1 st1 r1 => ?_
      obtain ⟨_, _, rfl, q, r⟩ := r1.isC
      (first | obtain rfl := r.isA rfl | cases r)
      (first | obtain rfl := q.isA rfl | cases q)
      unfold big at hb
      rw [Bool.and_eq_true] at hb
      exact ⟨j, rfl, of_decide_eq_true hb.1, of_decide_eq_true hb.2, k _ H1 R1 S1 st1 (it_range 0 _)⟩
    · cases e2
  · cases e2
noncomputable def mRng2 (f : Rho → Option (List D × Rho)) : Rho → Option (List D × Rho) := mBind f fun ds => mLift (match ds with
  | [.int i, .int j] => if (big i && big j) = true then some (rangeD i (j - i).toNat) else none
  | _ => none)
end
end L2
set_option Elab.async false
set_option linter.all false
set_option maxRecDepth 100000
set_option maxHeartbeats 4000000
namespace L2
open PySem PySem.Spec PyProof.Rows
noncomputable def MG (K : PySem.W.Frag) (O T : List Nat) (g : TG) (f : D → Rho → Option Rho) : Prop := ∀ (Z : Anc) (σ : St) (H R : Hp) (ρ : Rho) (x : V) (d : D) (ρ' : Rho) (Q : St → Hp → Prop), StR K Z O σ H R ρ → Rp K R x d → f d ρ = some ρ' → (∀ σ', StR K Z O σ' H R ρ' → (∀ j, j ∉ T → σ'[j]? = σ[j]?) → Q σ' H) → g x σ H Q
noncomputable def MGs (K : PySem.W.Frag) (O T : List Nat) (g : TGs) (f : List D → Rho → Option Rho) : Prop := ∀ (Z : Anc) (σ : St) (H R : Hp) (ρ : Rho) (xs : List V) (ds : List D) (ρ' : Rho) (Q : St → Hp → Prop), StR K Z O σ H R ρ → Rps K R xs ds → f ds ρ = some ρ' → (∀ σ', StR K Z O σ' H R ρ' → (∀ j, j ∉ T → σ'[j]? = σ[j]?) → Q σ' H) → g xs σ H Q
noncomputable def gSet (i : Nat) : D → Rho → Option Rho := fun d ρ => some (ρ.set i (some d))
noncomputable def gsNil : List D → Rho → Option Rho := fun ds ρ => match ds with
  | [] => some ρ
  | _ => none
noncomputable def gsCons (f : D → Rho → Option Rho) (g : List D → Rho → Option Rho) : List D → Rho → Option Rho := fun ds ρ => match ds with
  | d :: r => match f d ρ with
    | some ρ1 => g r ρ1
    | none => none
  | [] => none
noncomputable def gTupD (n : Nat) (f : List D → Rho → Option Rho) : D → Rho → Option Rho := fun d ρ => match d with
  | .tup ds => if ds.length = n then f ds ρ else none
  | _ => none
section
variable {K : PySem.W.Frag} {O T T' : List Nat} {g : TG} {gs : TGs} {f : D → Rho → Option Rho} {fs : List D → Rho → Option Rho}
theorem mg_name {i : Nat} (hi : i ∉ O) : MG K O [i] (gName i) (gSet i) := fun Z σ H R ρ x d ρ' Q S r e k => by
  cases e
  exact k _ (S.set hi r) fun j hj => List.getElem?_set_ne (fun (z : i = j) => hj (by rw [z]; exact List.mem_singleton_self j))
theorem mgs_nil : MGs K O [] gNil gsNil := fun Z σ H R ρ xs ds ρ' Q S r e k => by
  cases r with
  | nil => cases e; exact ⟨rfl, k σ S fun _ _ => rfl⟩
  | cons _ _ => cases e
theorem mgs_cons (h : MG K O T g f) (h2 : MGs K O T' gs fs) : MGs K O (T ++ T') (gCons g gs) (gsCons f fs) := fun Z σ H R ρ xs ds ρ' Q S r e k => by
  cases r with
  | nil => cases e
  | cons q r =>
    rename_i x xs d ds
    unfold gsCons at e
    cases e1 : f d ρ with
    | none => simp only [e1] at e; cases e
    | some ρ1 =>
      simp only [e1] at e
      refine ⟨x, xs, rfl, h Z σ H R ρ x d ρ1 _ S q e1 fun σ1 S1 n1 => h2 Z σ1 H R ρ1 xs ds ρ' _ S1 r e fun σ2 S2 n2 => ?_⟩
      refine k σ2 S2 fun j hj => ?_
      rw [List.mem_append, not_or] at hj
      rw [n2 j hj.2, n1 j hj.1]
theorem mg_tup {n : Nat} (h : MGs K O T gs fs) : MG K O T (gTup K n gs) (gTupD n fs) := fun Z σ H R ρ x d ρ' Q S r e k => by
  cases r with
  | tup q rs =>
    unfold gTupD at e
    simp only at e
    split at e
    · rename_i hn
      exact ⟨_, _, rfl, SqT.of (S.same _ _ q), by rw [rs.length]; exact hn, h Z σ H R ρ _ _ ρ' Q S rs e k⟩
    · cases e
  | _ => cases e
end
noncomputable def capsR (n : Nat) (js : List Nat) (ρ : Rho) : Rho := List.replicate n none ++ js.map fun j => (ρ[j]?).join
noncomputable def bwO : Option (Nat × Nat) → List Nat
  | none => []
  | some p => [p.2]
noncomputable def backR (bw : Option (Nat × Nat)) (ρ ρb : Rho) : Rho := match bw with
  | none => ρ
  | some p => match ρb[p.2]? with
    | some x => ρ.set p.1 x
    | none => ρ
noncomputable def bwOk (n : Nat) (js O : List Nat) (bw : Option (Nat × Nat)) : Bool := match bw with
  | none => js.all fun j => !O.contains j
  | some p => O.contains p.1 && decide (n ≤ p.2) && decide (js[p.2 - n]? = some p.1) && (List.range js.length).all fun k => decide (n + k = p.2) || !O.contains (js.getD k 0)
noncomputable def compRun (n : Nat) (js : List Nat) (bw : Option (Nat × Nat)) (fg : D → Rho → Option Rho) (ft : Rho → Option (Bool × Rho)) (fe : Rho → Option (D × Rho)) : List D → Rho → Option (List D × Rho)
  | [], ρ => some ([], ρ)
  | d :: r, ρ => match fg d (capsR n js ρ) with
    | none => none
    | some ρ1 => match ft ρ1 with
      | none => none
      | some (false, ρ2) => compRun n js bw fg ft fe r (backR bw ρ ρ2)
      | some (true, ρ2) => match fe ρ2 with
        | none => none
        | some (y, ρ3) => match compRun n js bw fg ft fe r (backR bw ρ ρ3) with
          | none => none
          | some (ys, ρ4) => some (y :: ys, ρ4)
section
variable {K : PySem.W.Frag} {Z Z' : Anc} {O : List Nat} {σ σ4 : St} {H R H6 R6 : Hp} {ρ ρ3 : Rho} {n : Nat} {js : List Nat} {bw : Option (Nat × Nat)}
theorem capsR_len : (capsR n js ρ).length = n + js.length := by simp [capsR]
theorem capsR_cap {i : Nat} {d : D} (e : (capsR n js ρ)[i]? = some (some d)) : n ≤ i ∧ ∃ j, js[i - n]? = some j ∧ ρ[j]? = some (some d) := by
  unfold capsR at e
  by_cases h : i < n
  · rw [List.getElem?_append_left (by simpa using h), List.getElem?_replicate, if_pos h] at e
    cases e
  · refine ⟨by omega, ?_⟩
    rw [List.getElem?_append_right (by simp; omega), List.length_replicate, List.getElem?_map] at e
    cases q : js[i - n]? with
    | none => rw [q] at e; cases e
    | some j =>
      rw [q] at e
      refine ⟨j, rfl, ?_⟩
      have e' : (ρ[j]?).join = some d := Option.some.inj e
      cases z : ρ[j]? with
      | none => rw [z] at e'; cases e'
      | some o => rw [z] at e'; have : o = some d := e'; rw [this]
theorem capsR_at {i j : Nat} (h : n ≤ i) (e : js[i - n]? = some j) {d : D} (q : ρ[j]? = some (some d)) : (capsR n js ρ)[i]? = some (some d) := by
  unfold capsR
  rw [List.getElem?_append_right (by simp; omega), List.length_replicate, List.getElem?_map, e]
  show some ((ρ[j]?).join) = _
  rw [q]
  rfl
theorem caps_at {i j : Nat} (h : n ≤ i) (e : js[i - n]? = some j) {v : V} (q : σ[j]? = some (some v)) : (caps n js σ)[i]? = some (some v) := by
  unfold caps
  rw [List.getElem?_append_right (by simp; omega), List.length_replicate, List.getElem?_map, e]
  show some ((σ[j]?).join) = _
  rw [q]
  rfl
noncomputable def bwL (bw : Option (Nat × Nat)) (σ : St) : Addr → Prop := match bw with
  | none => fun _ => False
  | some p => fun l => σ[p.1]? = some (some (.ref l))
theorem StR.block (S : StR K Z O σ H R ρ) (hb : bwOk n js O bw = true) : StR K ⟨H, R, bwL bw σ, bwO bw⟩ (bwO bw) (caps n js σ) H R (capsR n js ρ) := by
  have noO : ∀ i j, n ≤ i → js[i - n]? = some j → i ∉ bwO bw → j ∉ O := fun i j hi hj hn hO => by
    cases bw with
    | none =>
      unfold bwOk at hb
      have z := List.all_eq_true.mp hb j (List.mem_of_getElem? hj)
      simp at z
      exact z hO
    | some p =>
      unfold bwOk at hb
      simp only [Bool.and_eq_true] at hb
      have hk : i - n < js.length := (List.getElem?_eq_some_iff.mp hj).1
      have z := List.all_eq_true.mp hb.2 (i - n) (List.mem_range.mpr hk)
      have ej : js.getD (i - n) 0 = j := by rw [List.getD_eq_getElem?_getD, hj]; rfl
      rw [ej] at z
      simp only [Bool.or_eq_true, decide_eq_true_eq] at z
      rcases z with z | z
      · exact hn (by show i ∈ [p.2]; rw [List.mem_singleton]; omega)
      · simp at z; exact z hO
  have inO : ∀ p, bw = some p → p.1 ∈ O ∧ n ≤ p.2 ∧ js[p.2 - n]? = some p.1 := fun p e => by
    subst e
    unfold bwOk at hb
    simp only [Bool.and_eq_true, decide_eq_true_eq] at hb
    exact ⟨by simpa using hb.1.1.1, hb.1.1.2, hb.1.2⟩
  have only : ∀ i, i ∈ bwO bw → ∃ p, bw = some p ∧ i = p.2 := fun i hi => by
    cases bw with
    | none => exact absurd hi (by simp [bwO])
    | some p => exact ⟨p, rfl, by simpa [bwO] using hi⟩
  refine ⟨S.sub, by rw [capsR_len, caps_len], fun i d hi e => ?_, fun i hi => ?_, fun i j hi hj hn => ?_, fun a o e _ => e, Same.refl _, fun a h => .inl h, fun a h => .refl h, fun i hi hp => absurd hi hp, fun i hi _ l e => ?_⟩
  · obtain ⟨h1, j, h2, h3⟩ := capsR_cap e
    obtain ⟨v, q1, q2⟩ := S.env j d (noO i j h1 h2 hi) h3
    exact ⟨v, caps_at h1 h2 q1, q2⟩
  · obtain ⟨p, rfl, rfl⟩ := only i hi
    obtain ⟨h1, h2, h3⟩ := inO p rfl
    obtain ⟨l, vs, ds, q1, q2, q3⟩ := S.own p.1 h1
    exact ⟨l, vs, ds, capsR_at h2 h3 q1, caps_at h2 h3 q2, q3⟩
  · obtain ⟨p, rfl, rfl⟩ := only i hi
    obtain ⟨p', e, rfl⟩ := only j hj
    cases e
    exact absurd rfl hn
  · obtain ⟨p, rfl, rfl⟩ := only i hi
    obtain ⟨h1, h2, h3⟩ := inO p rfl
    obtain ⟨l', vs, ds, q1, q2, q3⟩ := S.own p.1 h1
    rw [caps_at h2 h3 q2] at e
    cases e
    exact q2
theorem StR.back (S : StR K Z O σ H R ρ) (hb : bwOk n js O bw = true) (Sb : StR K Z' (bwO bw) σ4 H6 R6 ρ3) (st : Stp (bwO bw) σ4 H R H6 R6) (hσ : ∀ p, bw = some p → σ4[p.2]? = σ[p.1]?) :
    StR K Z O σ H6 R6 (backR bw ρ ρ3) ∧ Stp O σ H R H6 R6 := by
  have inO : ∀ p, bw = some p → p.1 ∈ O := fun p e => by
    subst e
    unfold bwOk at hb
    simp only [Bool.and_eq_true, decide_eq_true_eq] at hb
    simpa using hb.1.1.1
  have only : ∀ i, i ∈ bwO bw → ∃ p, bw = some p ∧ i = p.2 := fun i hi => by
    cases bw with
    | none => exact absurd hi (by simp [bwO])
    | some p => exact ⟨p, rfl, by simpa [bwO] using hi⟩
  have st' : Stp O σ H R H6 R6 := ⟨st.r, fun a o e n => st.h a o e fun i hi z => by
    obtain ⟨p, e1, rfl⟩ := only i hi
    rw [hσ p e1] at z
    exact n p.1 (inO p e1) z, st.n, st.d⟩
  have keepH0 : ∀ a o, Z.H0 a = some o → ¬ Z.L a → H6 a = some o := fun a o e n => by
    refine st'.h a o (S.ah a o e n) fun i hi z => ?_
    by_cases hp : i ∈ Z.P
    · exact n (S.ap i hi hp a z)
    · rw [S.ao i hi hp a z] at e; cases e
  have len : (backR bw ρ ρ3).length = ρ.length := by
    unfold backR
    cases bw with
    | none => rfl
    | some p =>
      dsimp only
      split
      · rw [List.length_set]
      · rfl
  have other : ∀ i, (∀ p, bw = some p → p.1 ≠ i) → (backR bw ρ ρ3)[i]? = ρ[i]? := fun i h => by
    unfold backR
    cases bw with
    | none => rfl
    | some p =>
      dsimp only
      split
      · rw [List.getElem?_set_ne (h p rfl)]
      · rfl
  refine ⟨⟨Sb.sub, by rw [len]; exact S.len, fun i d hi e => ?_, fun i hi => ?_, S.dis, keepH0, S.ar.trans st.r, fun a h => ?_, fun a h => (S.ad a h).trans (st.d a (S.ad a h).1), S.ao, S.ap⟩, st'⟩
  · rw [other i fun p e1 z => hi (z ▸ inO p e1)] at e
    obtain ⟨v, h1, h2⟩ := S.env i d hi e
    exact ⟨v, h1, h2.mono st.r⟩
  · by_cases hp : ∃ p, bw = some p ∧ p.1 = i
    · obtain ⟨p, rfl, rfl⟩ := hp
      obtain ⟨l, vs, ds, q1, q2, q3, q4, q5⟩ := Sb.own p.2 (by simp [bwO])
      rw [hσ p rfl] at q2
      obtain ⟨_, _, _, g1, _⟩ := S.own p.1 hi
      have hlen : p.1 < ρ.length := (List.getElem?_eq_some_iff.mp g1).1
      refine ⟨l, vs, ds, ?_, q2, q3, q4, q5⟩
      unfold backR
      dsimp only
      rw [q1]
      exact List.getElem?_set_self hlen
    · have hne : ∀ p, bw = some p → p.1 ≠ i := fun p e z => hp ⟨p, e, z⟩
      obtain ⟨l, vs, ds, q1, q2, q3, q4, q5⟩ := S.own i hi
      have nob : ∀ j, j ∈ bwO bw → σ4[j]? ≠ some (some (.ref l)) := fun j hj z => by
        obtain ⟨p, e1, rfl⟩ := only j hj
        rw [hσ p e1] at z
        exact S.dis p.1 i (inO p e1) hi (hne p e1) l z q2
      refine ⟨l, vs, ds, by rw [other i hne]; exact q1, q2, st.h l _ q3 nob, ?_, q5.mono st.r⟩
      cases q : R6 l with
      | none => rfl
      | some o =>
        rcases st.n l (by rw [q]; exact fun z => nomatch z) with z | z
        · exact absurd q4 z
        · exact (q5.noF q3 z).elim
  · rcases st.n a h with z | z
    · exact S.an a z
    · exact .inr (z.back (S.ad a))
end
theorem cgo_mirror {K : PySem.W.Frag} {Z : Anc} {O T : List Nat} {σ : St} {H R : Hp} {ρ ρ' : Rho} {n : Nat} {js : List Nat} {bw : Option (Nat × Nat)} {g : TG} {tt : TT} {te : TE} {fg : D → Rho → Option Rho} {ft : Rho → Option (Bool × Rho)} {fe : Rho → Option (D × Rho)} {J : It} {ds ys : List D} {Fin : List V → Hp → Prop}
    (hb : bwOk n js O bw = true) (hg : MG K (bwO bw) T g fg) (hT : ∀ p, bw = some p → p.2 ∉ T) (ht : MT K (bwO bw) tt ft) (he : ME K (bwO bw) te fe) (S : StR K Z O σ H R ρ) (ok : ItOk K J R ds) (e : compRun n js bw fg ft fe ds ρ = some (ys, ρ')) (hz : ds.length ≤ sizeLine)
    (fin : ∀ vs H' R', StR K Z O σ H' R' ρ' → Stp O σ H R H' R' → Rps K R' vs ys → vs.length ≤ sizeLine → Fin vs H') : cGo g tt te (caps n js σ) Fin J H := by
  refine ⟨fun i m vs H2 => m = ds.length - i ∧ i ≤ ds.length ∧ vs.length ≤ i ∧ ∃ R2 ρ2 ys1 ys2, StR K Z O σ H2 R2 ρ2 ∧ Stp O σ H R H2 R2 ∧ Rps K R2 vs ys1 ∧ compRun n js bw fg ft fe (ds.drop i) ρ2 = some (ys2, ρ') ∧ ys1 ++ ys2 = ys,
    ⟨ds.length, by simp, Nat.zero_le _, Nat.zero_le _, R, ρ, [], ys, S, Stp.refl _ _ _ _, .nil, by rw [List.drop_zero]; exact e, rfl⟩, ?_⟩
  rintro i m vs H2 ⟨rfl, hi, hv, R2, ρ2, ys1, ys2, S2, st2, r2, e2, ey⟩
  obtain ⟨o1, o2⟩ := ok H2 R2 st2.r S2.sub i
  by_cases hlt : i < ds.length
  · obtain ⟨g1, g2⟩ := o2 ds[i] (List.getElem?_eq_getElem hlt)
    rw [List.drop_eq_getElem_cons hlt] at e2
    refine .inr ⟨g1, by omega, fun vs' H' => ∃ R' ρ2 ys1 ys2, vs'.length ≤ i + 1 ∧ StR K Z O σ H' R' ρ2 ∧ Stp O σ H R H' R' ∧ Rps K R' vs' ys1 ∧ compRun n js bw fg ft fe (ds.drop (i + 1)) ρ2 = some (ys2, ρ') ∧ ys1 ++ ys2 = ys, ?_, fun x H3 y => ?_⟩
    · rintro vs' H' ⟨R', ρ3, zs1, zs2, q0, q1, q2, q3, q4, q5⟩
      exact ⟨ds.length - (i + 1), by omega, rfl, hlt, q0, R', ρ3, zs1, zs2, q1, q2, q3, q4, q5⟩
    · obtain ⟨R3, x3, r3⟩ := g2 x H3 y
      have S3 := S2.ext x3
      have B3 := S3.block hb
      unfold compRun at e2
      cases e3 : fg ds[i] (capsR n js ρ2) with
      | none => rw [e3] at e2; cases e2
      | some ρb1 =>
        rw [e3] at e2
        dsimp only at e2
        refine hg _ _ _ _ _ x _ ρb1 _ B3 r3 e3 fun σ4 S4 n4 => ?_
        have cap : ∀ p, bw = some p → σ4[p.2]? = σ[p.1]? := fun p e1 => by
          rw [n4 p.2 (hT p e1)]
          subst e1
          unfold bwOk at hb
          simp only [Bool.and_eq_true, decide_eq_true_eq] at hb
          obtain ⟨l, _, _, _, q2, _⟩ := S3.own p.1 (by simpa using hb.1.1.1)
          rw [caps_at hb.1.1.2 hb.1.2 q2, q2]
        cases e4 : ft ρb1 with
        | none => rw [e4] at e2; cases e2
        | some c =>
          obtain ⟨b, ρb2⟩ := c
          rw [e4] at e2
          refine ht _ σ4 H3 R3 ρb1 b ρb2 _ S4 e4 fun H5 R5 S5 st5 => ?_
          cases b with
          | false =>
            dsimp only at e2
            obtain ⟨T1, T2⟩ := S3.back hb S5 st5 cap
            exact iteF ⟨R5, _, ys1, ys2, by omega, T1, (st2.trans x3.stp).trans T2, (r2.mono x3.r).mono st5.r, e2, ey⟩
          | true =>
            dsimp only at e2
            cases e5 : fe ρb2 with
            | none => rw [e5] at e2; cases e2
            | some c =>
              obtain ⟨y0, ρb3⟩ := c
              rw [e5] at e2
              dsimp only at e2
              cases e6 : compRun n js bw fg ft fe (ds.drop (i + 1)) (backR bw ρ2 ρb3) with
              | none => rw [e6] at e2; cases e2
              | some c =>
                obtain ⟨zs, ρ6⟩ := c
                rw [e6] at e2
                dsimp only at e2
                cases e2
                refine iteT (he _ σ4 H5 R5 ρb2 y0 ρb3 _ S5 e5 fun w H6 R6 S6 st6 r6 => ?_)
                obtain ⟨T1, T2⟩ := S3.back hb S6 (st5.trans st6) cap
                refine ⟨R6, _, ys1 ++ [y0], zs, by rw [List.length_append]; show vs.length + 1 ≤ i + 1; omega, T1, (st2.trans x3.stp).trans T2, (((r2.mono x3.r).mono st5.r).mono st6.r).snoc r6, e6, ?_⟩
                rw [← ey, List.append_assoc]
                rfl
  · have ei : i = ds.length := by omega
    subst ei
    rw [List.drop_length] at e2
    unfold compRun at e2
    cases e2
    rw [List.append_nil] at ey
    subst ey
    exact .inl ⟨o1 rfl, by omega, fin vs H2 R2 S2 st2 r2 (by omega)⟩
noncomputable def mComp (n : Nat) (js : List Nat) (bw : Option (Nat × Nat)) (fi : Rho → Option (List D × Rho)) (fg : D → Rho → Option Rho) (ft : Rho → Option (Bool × Rho)) (fe : Rho → Option (D × Rho)) : Rho → Option (List D × Rho) := mBind fi fun ds ρ => if ds.length ≤ sizeLine then compRun n js bw fg ft fe ds ρ else none
theorem mt_yes {K : PySem.W.Frag} {O : List Nat} : MT K O tYes (mRet true) := fun Z σ H R ρ b ρ' Q S e k => by
  cases e
  exact k H R S (Stp.refl _ _ _ _)
theorem mn_comp {K : PySem.W.Frag} {O T : List Nat} {n : Nat} {js : List Nat} {bw : Option (Nat × Nat)} {wi : TI} {g : TG} {tt : TT} {te : TE} {fi : Rho → Option (List D × Rho)} {fg : D → Rho → Option Rho} {ft : Rho → Option (Bool × Rho)} {fe : Rho → Option (D × Rho)}
    (hi : MI K O wi fi) (hg : MG K (bwO bw) T g fg) (ht : MT K (bwO bw) tt ft) (he : ME K (bwO bw) te fe) (hb : bwOk n js O bw = true := by decide) (hT : ∀ p, bw = some p → p.2 ∉ T := by decide) : MN K O (tComp n js wi g tt te) (mComp n js bw fi fg ft fe) := fun Z σ H R ρ ds ρ' Q S e k => by
  obtain ⟨xs, ρ1, e1, e⟩ := mBind_some e
  split at e
  · rename_i hz
    refine hi Z σ H R ρ xs ρ1 _ S e1 fun J H1 R1 S1 st1 ok => ?_
    refine cgo_mirror hb hg hT ht he S1 ok e hz fun vs H2 R2 S2 st2 r2 l2 D nD => ?_
    have x := Ext.hid (o := .lst vs) S2.sub nD
    exact k D vs _ _ (S2.ext x) ((st1.trans st2).trans x.stp) ((st1.trans st2).new nD) upd_same (S2.out nD) r2
  · cases e
end L2
set_option Elab.async false
set_option linter.all false
set_option maxRecDepth 100000
set_option maxHeartbeats 4000000
namespace L2
open PySem PySem.Spec PyProof.Rows
inductive Out where
  | nx (ρ : Rho)
  | rt (d : D) (ρ : Rho)
  | bk (ρ : Rho)
  | ct (ρ : Rho)
structure MC where
  K : PySem.W.Frag
  fr : Bool
  P : List Nat
  Ol : List Nat
noncomputable def Res (K : PySem.W.Frag) (fr : Bool) (H : Hp) (v : V) (d : D) (H' R' : Hp) : Prop := match fr with
  | false => Rp K R' v d
  | true => ∃ l vs ds, v = .ref l ∧ d = .lst ds ∧ H l = none ∧ H' l = some (.lst vs) ∧ R' l = none ∧ Rps K R' vs ds
noncomputable def Ends.ok (c : MC) (Z : Anc) (O' : List Nat) (R : Hp) (E : Ends) : Out → Prop
  | .nx ρ' => ∀ σ' H' R', StR c.K Z O' σ' H' R' ρ' → Same R R' → E.nx σ' H'
  | .bk ρ' => ∀ σ' H' R', StR c.K Z c.Ol σ' H' R' ρ' → Same R R' → E.bk σ' H'
  | .ct ρ' => ∀ σ' H' R', StR c.K Z c.Ol σ' H' R' ρ' → Same R R' → E.ct σ' H'
  | .rt d ρ' => ∀ v σ' H' R', StR c.K Z c.P σ' H' R' ρ' → Res c.K c.fr Z.H0 v d H' R' → E.rt v H'
noncomputable def MS (c : MC) (O O' : List Nat) (t : TS) (f : Rho → Option Out) : Prop := ∀ (Z : Anc) (E : Ends) (σ : St) (H R : Hp) (ρ : Rho) (o : Out), Z.P = c.P → StR c.K Z O σ H R ρ → f ρ = some o → E.ok c Z O' R o → t E σ H
noncomputable def subO (c : MC) (O O' : List Nat) : Bool := O'.all (fun i => O.contains i) && c.P.all fun i => !O.contains i || O'.contains i
section
variable {c : MC} {O O' O1 : List Nat} {t u : TS} {te : TE} {tt : TT} {g : TG} {f h : Rho → Option Out} {fe : Rho → Option (D × Rho)} {fn : Rho → Option (List D × Rho)} {ft : Rho → Option (Bool × Rho)} {fg : D → Rho → Option Rho}
theorem StR.sub' {Z : Anc} {σ : St} {H R : Hp} {ρ : Rho} (S : StR c.K Z O σ H R ρ) (hP : Z.P = c.P) (hs : subO c O O' = true) : StR c.K Z O' σ H (frzR O O' σ H R) ρ ∧ Same R (frzR O O' σ H R) := by
  unfold subO at hs
  simp only [Bool.and_eq_true, List.all_eq_true] at hs
  refine S.freeze (fun i hi => by simpa using hs.1 i hi) fun i hi hO => ?_
  rw [hP] at hi
  have z := hs.2 i hi
  simp only [Bool.or_eq_true] at z
  rcases z with z | z
  · simp at z; exact absurd hO z
  · simpa using z
noncomputable def sNil : Rho → Option Out := fun ρ => some (.nx ρ)
theorem ms_nil (hs : subO c O O' = true) : MS c O O' tNext sNil := fun Z E σ H R ρ o hP S e k => by
  cases e
  obtain ⟨S', s⟩ := S.sub' hP hs
  exact k σ H _ S' s
noncomputable def sSeq (f h : Rho → Option Out) : Rho → Option Out := fun ρ => match f ρ with
  | none => none
  | some (.nx ρ1) => h ρ1
  | some o => some o
theorem ms_seq (h1 : MS c O O1 t f) (h2 : MS c O1 O' u h) : MS c O O' (tSeq t u) (sSeq f h) := fun Z E σ H R ρ o hP S e k => by
  unfold sSeq at e
  cases e1 : f ρ with
  | none => rw [e1] at e; cases e
  | some o1 =>
    rw [e1] at e
    cases o1 with
    | nx ρ1 =>
      refine h1 Z _ σ H R ρ _ hP S e1 fun σ' H' R' S' s' => ?_
      refine h2 Z E σ' H' R' ρ1 o hP S' e ?_
      cases o with
      | nx ρ' => exact fun σ2 H2 R2 S2 s2 => k σ2 H2 R2 S2 (s'.trans s2)
      | bk ρ' => exact fun σ2 H2 R2 S2 s2 => k σ2 H2 R2 S2 (s'.trans s2)
      | ct ρ' => exact fun σ2 H2 R2 S2 s2 => k σ2 H2 R2 S2 (s'.trans s2)
      | rt d ρ' => exact k
    | bk ρ1 => cases e; exact h1 Z _ σ H R ρ _ hP S e1 k
    | ct ρ1 => cases e; exact h1 Z _ σ H R ρ _ hP S e1 k
    | rt d ρ1 => cases e; exact h1 Z _ σ H R ρ _ hP S e1 k
noncomputable def sSet (i : Nat) (fe : Rho → Option (D × Rho)) : Rho → Option Out := fun ρ => match fe ρ with
  | none => none
  | some (d, ρ1) => some (.nx (ρ1.set i (some d)))
theorem ms_set {i : Nat} (he : ME c.K O te fe) (hs : subO c O O' = true) (hi : i ∉ O') : MS c O O' (tAsg te (gName i)) (sSet i fe) := fun Z E σ H R ρ o hP S e k => by
  unfold sSet at e
  cases e1 : fe ρ with
  | none => rw [e1] at e; cases e
  | some p =>
    obtain ⟨d, ρ1⟩ := p
    rw [e1] at e
    cases e
    refine he Z σ H R ρ d ρ1 _ S e1 fun v H1 R1 S1 st1 r1 => ?_
    obtain ⟨S2, s2⟩ := S1.sub' hP hs
    exact k _ H1 _ (S2.set hi (r1.mono s2)) (st1.r.trans s2)
noncomputable def sOwn (i : Nat) (fn : Rho → Option (List D × Rho)) : Rho → Option Out := fun ρ => match fn ρ with
  | none => none
  | some (ds, ρ1) => if i < ρ1.length then some (.nx (ρ1.set i (some (.lst ds)))) else none
noncomputable def ownO (c : MC) (i : Nat) (O O' : List Nat) : Bool := subO c O (O'.filter fun j => decide (j ≠ i)) && O'.contains i && !c.P.contains i
theorem ms_own {i : Nat} (he : MN c.K O te fn) (hs : ownO c i O O' = true) : MS c O O' (tAsg te (gName i)) (sOwn i fn) := fun Z E σ H R ρ o hP S e k => by
  unfold sOwn at e
  unfold ownO at hs
  simp only [Bool.and_eq_true] at hs
  cases e1 : fn ρ with
  | none => rw [e1] at e; cases e
  | some p =>
    obtain ⟨ds, ρ1⟩ := p
    rw [e1] at e
    dsimp only at e
    split at e
    · rename_i hlen
      cases e
      refine he Z σ H R ρ ds ρ1 _ S e1 fun l vs H1 R1 S1 st1 h0 hH hR r1 => ?_
      obtain ⟨S2, s2⟩ := S1.sub' hP hs.1.1
      have notown : ∀ j, j ∈ O → σ[j]? ≠ some (some (.ref l)) := S.notnew h0
      have hO' : ∀ j, j ∈ O'.filter (fun j => decide (j ≠ i)) → j ∈ O := fun j hj => by
        have z := hs.1.1
        unfold subO at z
        simp only [Bool.and_eq_true, List.all_eq_true] at z
        simpa using z.1 j hj
      refine k _ H1 _ (S2.take (i := i) (l := l) (vs := .lst vs) (ds := .lst ds) (by simp) (by simpa using hs.1.2) (fun j hj => ?_) (by rw [hP]; simpa using hs.2) hlen (S.new0 h0) hH ?_ (fun j hj => notown j (hO' j hj)) (fun j hj => (List.mem_filter.mp hj).1) (.lst (r1.mono s2))) (st1.r.trans s2)
      · by_cases z : j = i
        · exact .inl z
        · exact .inr (List.mem_filter.mpr ⟨hj, by simpa using z⟩)
      · unfold frzR
        rw [if_neg ?_]
        · exact hR
        · rintro ⟨j, hj, _, z⟩
          exact notown j hj z
    · cases e
noncomputable def sAsg (fe : Rho → Option (D × Rho)) (fg : D → Rho → Option Rho) : Rho → Option Out := fun ρ => match fe ρ with
  | none => none
  | some (d, ρ1) => match fg d ρ1 with
    | none => none
    | some ρ2 => some (.nx ρ2)
noncomputable def sIf (ft : Rho → Option (Bool × Rho)) (f h : Rho → Option Out) : Rho → Option Out := fun ρ => match ft ρ with
  | none => none
  | some (b, ρ1) => if b = true then f ρ1 else h ρ1
theorem ms_if (ht : MT c.K O tt ft) (h1 : MS c O O' t f) (h2 : MS c O O' u h) : MS c O O' (tIfS tt t u) (sIf ft f h) := fun Z E σ H R ρ o hP S e k => by
  unfold sIf at e
  cases e1 : ft ρ with
  | none => rw [e1] at e; cases e
  | some p =>
    obtain ⟨b, ρ1⟩ := p
    rw [e1] at e
    dsimp only at e
    refine ht Z σ H R ρ b ρ1 _ S e1 fun H1 R1 S1 st1 => ?_
    have k' : E.ok c Z O' R1 o := by
      cases o with
      | nx ρ' => exact fun σ2 H2 R2 S2 s2 => k σ2 H2 R2 S2 (st1.r.trans s2)
      | bk ρ' => exact fun σ2 H2 R2 S2 s2 => k σ2 H2 R2 S2 (st1.r.trans s2)
      | ct ρ' => exact fun σ2 H2 R2 S2 s2 => k σ2 H2 R2 S2 (st1.r.trans s2)
      | rt d ρ' => exact k
    cases b with
    | true => exact iteT (h1 Z E σ H1 R1 ρ1 o hP S1 e k')
    | false => exact iteF (h2 Z E σ H1 R1 ρ1 o hP S1 e k')
noncomputable def sRet (fe : Rho → Option (D × Rho)) : Rho → Option Out := fun ρ => match fe ρ with
  | none => none
  | some (d, ρ1) => some (.rt d ρ1)
theorem ms_ret (hf : c.fr = false) (he : ME c.K O te fe) (hs : subO c O c.P = true) : MS c O O' (tRet te) (sRet fe) := fun Z E σ H R ρ o hP S e k => by
  unfold sRet at e
  cases e1 : fe ρ with
  | none => rw [e1] at e; cases e
  | some p =>
    obtain ⟨d, ρ1⟩ := p
    rw [e1] at e
    cases e
    refine he Z σ H R ρ d ρ1 _ S e1 fun v H1 R1 S1 st1 r1 => ?_
    obtain ⟨S2, s2⟩ := S1.sub' hP hs
    refine k v σ H1 _ S2 ?_
    unfold Res
    rw [hf]
    exact r1.mono s2
noncomputable def sRetL (fn : Rho → Option (List D × Rho)) : Rho → Option Out := fun ρ => match fn ρ with
  | none => none
  | some (ds, ρ1) => some (.rt (.lst ds) ρ1)
theorem StR.drop {K : PySem.W.Frag} {Z : Anc} {σ : St} {H R : Hp} {ρ : Rho} {i : Nat} (S : StR K Z O σ H R ρ) (hO : ∀ j, j ∈ O' → j ∈ O ∧ j ≠ i) (hc : ∀ j, j ∈ O → j ≠ i → j ∈ O') : StR K Z O' σ H R (ρ.set i none) := by
  refine ⟨S.sub, by rw [List.length_set]; exact S.len, fun j d hj e => ?_, fun j hj => ?_, fun j k hj hk => S.dis j k (hO j hj).1 (hO k hk).1, S.ah, S.ar, S.an, S.ad, fun j hj => S.ao j (hO j hj).1, fun j hj => S.ap j (hO j hj).1⟩
  · by_cases z : i = j
    · subst z
      have hl : i < ρ.length := by
        have := (List.getElem?_eq_some_iff.mp e).1
        rwa [List.length_set] at this
      rw [List.getElem?_set_self hl] at e
      cases e
    · rw [List.getElem?_set_ne z] at e
      exact S.env j d (fun q => hj (hc j q (Ne.symm z))) e
  · obtain ⟨l, vs, ds, h1, h2⟩ := S.own j (hO j hj).1
    exact ⟨l, vs, ds, by rw [List.getElem?_set_ne (Ne.symm (hO j hj).2)]; exact h1, h2⟩
noncomputable def sRetO (i : Nat) : Rho → Option Out := fun ρ => match ρ[i]? with
  | some (some (.lst xs)) => some (.rt (.lst xs) (ρ.set i none))
  | _ => none
theorem ms_retO {i : Nat} (hf : c.fr = true) (hi : i ∈ O) (hs : subO c O (i :: c.P) = true) (hp : i ∉ c.P) : MS c O O' (tRet (tVar i)) (sRetO i) := fun Z E σ H R ρ o hP S e k => by
  obtain ⟨S2, s2⟩ := S.sub' hP hs
  obtain ⟨l, vs, ds, h1, h2, h3, h4, h5⟩ := S2.own i List.mem_cons_self
  unfold sRetO at e
  rw [h1] at e
  have hd : ∃ xs, ds = .lst xs := by
    cases h5 with
    | lst _ => exact ⟨_, rfl⟩
    | _ => cases e
  obtain ⟨xs, rfl⟩ := hd
  cases e
  refine ⟨.ref l, h2, k _ σ H _ (S2.drop (i := i) (O' := c.P) (fun j hj => ⟨List.mem_cons_of_mem _ hj, fun z => hp (z ▸ hj)⟩) fun j hj n => ?_) ?_⟩
  · rcases List.mem_cons.mp hj with z | z
    · exact absurd z n
    · exact z
  · unfold Res
    rw [hf]
    cases h5 with
    | lst h5 => exact ⟨l, _, _, rfl, rfl, S2.ao i List.mem_cons_self (by rw [hP]; exact hp) l h2, h3, h4, h5⟩
noncomputable def sRetN : Rho → Option Out := fun ρ => some (.rt .non ρ)
noncomputable def sBk : Rho → Option Out := fun ρ => some (.bk ρ)
noncomputable def sCt : Rho → Option Out := fun ρ => some (.ct ρ)
noncomputable def forRun (fg : D → Rho → Option Rho) (fb : Rho → Option Out) : List D → Rho → Option Out
  | [], ρ => some (.nx ρ)
  | d :: r, ρ => match fg d ρ with
    | none => none
    | some ρ1 => match fb ρ1 with
      | none => none
      | some (.nx ρ2) => forRun fg fb r ρ2
      | some (.ct ρ2) => forRun fg fb r ρ2
      | some (.bk ρ2) => some (.nx ρ2)
      | some (.rt d ρ2) => some (.rt d ρ2)
noncomputable def sFor (fi : Rho → Option (List D × Rho)) (fg : D → Rho → Option Rho) (fb : Rho → Option Out) : Rho → Option Out := fun ρ => match fi ρ with
  | none => none
  | some (ds, ρ1) => forRun fg fb ds ρ1
theorem ms_for {T : List Nat} {wi : TI} {fi : Rho → Option (List D × Rho)} {tb : TS} {fb : Rho → Option Out} (hi : MI c.K O wi fi) (hs : subO c O O' = true) (hg : MG c.K O' T g fg) (hb : MS { c with Ol := O' } O' O' tb fb) : MS c O O' (tFor wi g tb) (sFor fi fg fb) := fun Z E σ H R ρ o hP S e k => by
  unfold sFor at e
  cases e1 : fi ρ with
  | none => rw [e1] at e; cases e
  | some p =>
    obtain ⟨ds, ρ1⟩ := p
    rw [e1] at e
    dsimp only at e
    refine hi Z σ H R ρ ds ρ1 _ S e1 fun J H1 R1 S1 st1 ok => ?_
    obtain ⟨S2, s2⟩ := S1.sub' hP hs
    have ok2 := ok.mono s2
    refine ⟨fun i m σ' H' => m = ds.length - i ∧ i ≤ ds.length ∧ ∃ R' ρ', StR c.K Z O' σ' H' R' ρ' ∧ Same (frzR O O' σ H1 R1) R' ∧ forRun fg fb (ds.drop i) ρ' = some o, ⟨ds.length, by simp, Nat.zero_le _, _, ρ1, S2, Same.refl _, by rw [List.drop_zero]; exact e⟩, ?_⟩
    rintro i m σ' H' ⟨rfl, hi', R', ρ', S', s', e'⟩
    obtain ⟨o1, o2⟩ := ok2 H' R' s' S'.sub i
    by_cases hlt : i < ds.length
    · obtain ⟨g1, g2⟩ := o2 ds[i] (List.getElem?_eq_getElem hlt)
      rw [List.drop_eq_getElem_cons hlt] at e'
      refine .inr ⟨g1, fun σ3 H3 => ∃ R3 ρ3, StR c.K Z O' σ3 H3 R3 ρ3 ∧ Same (frzR O O' σ H1 R1) R3 ∧ forRun fg fb (ds.drop (i + 1)) ρ3 = some o, ?_, fun x H3 y => ?_⟩
      · rintro σ3 H3 ⟨R3, ρ3, q1, q2, q3⟩
        exact ⟨ds.length - (i + 1), by omega, rfl, hlt, R3, ρ3, q1, q2, q3⟩
      · obtain ⟨R3, x3, r3⟩ := g2 x H3 y
        have S3 := S'.ext x3
        unfold forRun at e'
        cases e3 : fg ds[i] ρ' with
        | none => rw [e3] at e'; cases e'
        | some ρ4 =>
          rw [e3] at e'
          dsimp only at e'
          refine hg Z σ' H3 R3 ρ' x _ ρ4 _ S3 r3 e3 fun σ4 S4 _ => ?_
          cases e4 : fb ρ4 with
          | none => rw [e4] at e'; cases e'
          | some o4 =>
            rw [e4] at e'
            refine hb Z _ σ4 H3 R3 ρ4 o4 hP S4 e4 ?_
            cases o4 with
            | nx ρ5 => exact fun σ5 H5 R5 S5 s5 => ⟨R5, ρ5, S5, (s'.trans x3.r).trans s5, e'⟩
            | ct ρ5 => exact fun σ5 H5 R5 S5 s5 => ⟨R5, ρ5, S5, (s'.trans x3.r).trans s5, e'⟩
            | bk ρ5 =>
              cases e'
              exact fun σ5 H5 R5 S5 s5 => k σ5 H5 R5 S5 (((st1.r.trans s2).trans s').trans (x3.r.trans s5))
            | rt d ρ5 =>
              cases e'
              exact k
    · have ei : i = ds.length := by omega
      subst ei
      rw [List.drop_length] at e'
      unfold forRun at e'
      cases e'
      exact .inl ⟨o1 rfl, k σ' H' R' S' ((st1.r.trans s2).trans s')⟩
noncomputable def whileRun (ft : Rho → Option (Bool × Rho)) (fb : Rho → Option Out) : Nat → Rho → Option Out
  | 0, _ => none
  | n + 1, ρ => match ft ρ with
    | none => none
    | some (false, ρ1) => some (.nx ρ1)
    | some (true, ρ1) => match fb ρ1 with
      | none => none
      | some (.nx ρ2) => whileRun ft fb n ρ2
      | some (.ct ρ2) => whileRun ft fb n ρ2
      | some (.bk ρ2) => some (.nx ρ2)
      | some (.rt d ρ2) => some (.rt d ρ2)
theorem ms_while {n : Nat} {tb : TS} {fb : Rho → Option Out} (ht : MT c.K O' tt ft) (hs : subO c O O' = true) (hb : MS { c with Ol := O' } O' O' tb fb) : MS c O O' (tWhile tt tb) (whileRun ft fb n) := fun Z E σ H R ρ o hP S e k => by
  obtain ⟨S2, s2⟩ := S.sub' hP hs
  refine ⟨fun m σ' H' => ∃ R' ρ', StR c.K Z O' σ' H' R' ρ' ∧ Same (frzR O O' σ H R) R' ∧ whileRun ft fb m ρ' = some o, ⟨n, _, ρ, S2, Same.refl _, e⟩, ?_⟩
  rintro m σ' H' ⟨R', ρ', S', s', e'⟩
  cases m with
  | zero => cases e'
  | succ m =>
    unfold whileRun at e'
    cases e1 : ft ρ' with
    | none => rw [e1] at e'; cases e'
    | some p =>
      obtain ⟨b, ρ1⟩ := p
      rw [e1] at e'
      refine ht Z σ' H' R' ρ' b ρ1 _ S' e1 fun H1 R1 S1 st1 => ?_
      cases b with
      | false =>
        dsimp only at e'
        cases e'
        exact iteF (k σ' H1 R1 S1 ((s2.trans s').trans st1.r))
      | true =>
        dsimp only at e'
        refine iteT ⟨fun σ3 H3 => ∃ R3 ρ3, StR c.K Z O' σ3 H3 R3 ρ3 ∧ Same (frzR O O' σ H R) R3 ∧ whileRun ft fb m ρ3 = some o, fun σ3 H3 q => ⟨m, Nat.lt_succ_self _, q⟩, ?_⟩
        cases e4 : fb ρ1 with
        | none => rw [e4] at e'; cases e'
        | some o4 =>
          rw [e4] at e'
          refine hb Z _ σ' H1 R1 ρ1 o4 hP S1 e4 ?_
          cases o4 with
          | nx ρ5 => exact fun σ5 H5 R5 S5 s5 => ⟨R5, ρ5, S5, (s'.trans st1.r).trans s5, e'⟩
          | ct ρ5 => exact fun σ5 H5 R5 S5 s5 => ⟨R5, ρ5, S5, (s'.trans st1.r).trans s5, e'⟩
          | bk ρ5 =>
            cases e'
            exact fun σ5 H5 R5 S5 s5 => k σ5 H5 R5 S5 ((s2.trans s').trans (st1.r.trans s5))
          | rt d ρ5 =>
            cases e'
            exact k
end
end L2
set_option Elab.async false
set_option linter.all false
set_option maxRecDepth 100000
set_option maxHeartbeats 4000000
namespace L2
open PySem PySem.Spec PyProof.Rows
section
variable {c : MC} {O O' : List Nat} {te ti : TE} {fe fi : Rho → Option (D × Rho)} {tr : TA} {fs : Rho → Option (List D × Rho)}
noncomputable def isL (ρ : Rho) (i : Nat) : Bool := match ρ[i]? with
  | some (some (.lst _)) => true
  | _ => false
theorem isL_ob {K : PySem.W.Frag} {R : Hp} {ρ : Rho} {i : Nat} {o : HO} {d : D} (h : isL ρ i = true) (e : ρ[i]? = some (some d)) (b : Ob K R o d) : ∃ vs ds, o = .lst vs ∧ d = .lst ds ∧ Rps K R vs ds := by
  unfold isL at h
  rw [e] at h
  cases b with
  | lst r => exact ⟨_, _, rfl, rfl, r⟩
  | _ => cases h
noncomputable def sMut (g : List D → List D → Option (List D)) (i : Nat) (fs : Rho → Option (List D × Rho)) : Rho → Option Out := fun ρ => if isL ρ i = true then (match fs ρ with
  | none => none
  | some (as, ρ1) => match ρ1[i]? with
    | some (some (.lst xs)) => match g xs as with
      | some ys => some (.nx (ρ1.set i (some (.lst ys))))
      | none => none
    | _ => none) else none
noncomputable def MutOk (K : PySem.W.Frag) (r : V → List V → Hp → VK → Prop) (g : List D → List D → Option (List D)) : Prop := ∀ (H R : Hp) (l : Addr) (xs : List V) (ds : List D) (vs : List V) (as bs : List D) (Q : VK), (∀ a o, R a = some o → H a = some o) → H l = some (.lst xs) → R l = none → Rps K R xs ds → Rps K R vs as → g ds as = some bs → (∀ ys, Rps K R ys bs → Q .non (upd H l (.lst ys))) → r (.ref l) vs H Q
theorem ms_mut {r : V → List V → Hp → VK → Prop} {g : List D → List D → Option (List D)} {i : Nat} (hm : MutOk c.K r g) (hi : i ∈ O) (ha : MA c.K O tr fs) (hs : subO c O O' = true) : MS c O O' (tDrop (tBM c.K "list" r (tVar i) tr)) (sMut g i fs) := fun Z E σ H R ρ o hP S e k => by
  unfold sMut at e
  split at e
  case isFalse => cases e
  rename_i hL
  cases e1 : fs ρ with
  | none => rw [e1] at e; cases e
  | some p =>
    obtain ⟨as, ρ1⟩ := p
    rw [e1] at e
    dsimp only at e
    obtain ⟨l, vs, ds, h1, h2, h3, h4, h5⟩ := S.own i hi
    obtain ⟨us, _, rfl, rfl, _⟩ := isL_ob hL h1 h5
    refine ⟨.ref l, h2, .inl ⟨rfl, us, SqL.of h3⟩, ha Z σ H R ρ as ρ1 _ S e1 fun ws H1 R1 S1 st1 r1 => ?_⟩
    obtain ⟨l', vs', ds', g1, g2, g3, g4, g5⟩ := S1.own i hi
    rw [h2] at g2
    cases g2
    rw [g1] at e
    cases g5 with
    | dct _ => cases e
    | dit _ => cases e
    | lst g5 =>
    rename_i vs' ds'
    dsimp only at e
    cases e2 : g ds' as with
    | none => rw [e2] at e; cases e
    | some ys =>
      rw [e2] at e
      cases e
      refine hm H1 R1 l vs' ds' ws as ys _ S1.sub g3 g4 g5 r1 e2 fun zs rz => ?_
      obtain ⟨S2, s2⟩ := (S1.write hi h2 (.lst rz)).sub' hP hs
      exact k σ _ _ S2 (st1.r.trans s2)
noncomputable def dAppend : List D → List D → Option (List D) := fun xs as => match as with
  | [d] => if xs.length < sizeLine then some (xs ++ [d]) else none
  | _ => none
theorem mu_append {K : PySem.W.Frag} : MutOk K rAppend dAppend := fun H R l xs ds vs as bs Q s h hr r ra e k => by
  cases ra with
  | nil => cases e
  | cons q t =>
    cases t with
    | cons _ _ => cases e
    | nil =>
      rename_i x d
      have e' : (if ds.length < sizeLine then some (ds ++ [d]) else none) = some bs := e
      split at e'
      · rename_i hz
        cases e'
        exact ⟨l, xs, x, rfl, rfl, h, by rw [r.length]; exact hz, k _ (r.snoc q)⟩
      · cases e'
noncomputable def dInsert0 : List D → List D → Option (List D) := fun xs as => match as with
  | [.int 0, d] => if xs.length < sizeLine then some (d :: xs) else none
  | _ => none
noncomputable def sSetI (i : Nat) (fe fi : Rho → Option (D × Rho)) : Rho → Option Out := fun ρ => match fe ρ with
  | none => none
  | some (d, ρ1) => match fi ρ1 with
    | some (.int k, ρ2) => match ρ2[i]? with
      | some (some (.lst xs)) => match ixN xs.length k with
        | some j => some (.nx (ρ2.set i (some (.lst (xs.set j d)))))
        | none => none
      | _ => none
    | _ => none
theorem ms_setI {i : Nat} (hi : i ∈ O) (he : ME c.K O te fe) (hx : ME c.K O ti fi) (hs : subO c O O' = true) : MS c O O' (tAsg te (gSub (tVar i) ti rSetL)) (sSetI i fe fi) := fun Z E σ H R ρ o hP S e k => by
  unfold sSetI at e
  cases e1 : fe ρ with
  | none => rw [e1] at e; cases e
  | some p =>
    obtain ⟨d, ρ1⟩ := p
    rw [e1] at e
    dsimp only at e
    cases e2 : fi ρ1 with
    | none => rw [e2] at e; cases e
    | some p =>
      obtain ⟨x, ρ2⟩ := p
      rw [e2] at e
      refine he Z σ H R ρ d ρ1 _ S e1 fun v H1 R1 S1 st1 r1 => ?_
      obtain ⟨l, vs, ds, h1, h2, h3, h4, h5⟩ := S1.own i hi
      refine ⟨.ref l, h2, hx Z σ H1 R1 ρ1 x ρ2 _ S1 e2 fun w H2 R2 S2 st2 r2 => ?_⟩
      obtain ⟨l', vs', ds', g1, g2, g3, g4, g5⟩ := S2.own i hi
      rw [h2] at g2
      cases g2
      cases r2 with
      | int j =>
        dsimp only at e
        rw [g1] at e
        cases g5 with
        | dct _ => cases e
        | dit _ => cases e
        | lst g5 =>
        rename_i vs' ds'
        dsimp only at e
        cases e3 : ixN ds'.length j with
        | none => rw [e3] at e; cases e
        | some m =>
          rw [e3] at e
          cases e
          refine ⟨l, vs', j, m, rfl, rfl, g3, by rw [g5.length]; exact e3, ?_⟩
          obtain ⟨S3, s3⟩ := (S2.write hi h2 (.lst (g5.set (r1.mono st2.r) m))).sub' hP hs
          exact k σ _ _ S3 ((st1.r.trans st2.r).trans s3)
      | _ => cases e
noncomputable def sAug (g : Int → Int → Int) (i : Nat) (fe : Rho → Option (D × Rho)) : Rho → Option Out := fun ρ => match ρ[i]? with
  | some (some (.int x)) => match fe ρ with
    | some (.int y, ρ1) => some (.nx (ρ1.set i (some (.int (g x y)))))
    | _ => none
  | _ => none
end
noncomputable def runP (fr : Bool) (n N : Nat) (f : Rho → Option Out) (ds : List D) : Option D := if ds.length = n then match f (ds.map some ++ List.replicate (N - n) none) with
    | some (.rt d _) => some d
    | some (.nx _) => if fr = true then none else some .non
    | _ => none
  else none
noncomputable def spP (K : PySem.W.Frag) (fr : Bool) (n : Nat) (f : List D → Option D) : Sp := fun vs H Q _ => vs.length = n ∧ ∃ R ds d, (∀ a o, R a = some o → H a = some o) ∧ Rps K R vs ds ∧ f ds = some d ∧ ∀ v H' R', Ext H R H' R' → Res K fr H v d H' R' → Q v H'
theorem start_get {N : List Str} {vs : List V} {i : Nat} {v : V} (h : vs[i]? = some v) : (start N vs)[i]? = some (some v) := by
  unfold start
  have hi : i < vs.length := (List.getElem?_eq_some_iff.mp h).1
  rw [List.getElem?_append_left (by simpa using hi), List.getElem?_map, h]
  rfl
theorem slots_get {ds : List D} {m i : Nat} {d : D} (h : (ds.map some ++ List.replicate m none)[i]? = some (some d)) : ds[i]? = some d := by
  by_cases hi : i < ds.length
  · rw [List.getElem?_append_left (by simpa using hi), List.getElem?_map] at h
    cases q : ds[i]? with
    | none => rw [q] at h; cases h
    | some e => rw [q] at h; cases h; rfl
  · rw [List.getElem?_append_right (by simpa using hi), List.getElem?_replicate] at h
    split at h <;> cases h
theorem spP_body {K : PySem.W.Frag} {fr : Bool} {n : Nat} {Nms : List Str} {O' : List Nat} {t : TS} {f : Rho → Option Out} {vs : List V} {H : Hp} {Q : VK} {E : XK} (hm : MS ⟨K, fr, [], []⟩ [] O' t f) (h : spP K fr n (runP fr n Nms.length f) vs H Q E) : t { nx := fun _ H' => Q .non H', rt := Q } (start Nms vs) H := by
  obtain ⟨hn, R, ds, d, sub, r, e, k⟩ := h
  unfold runP at e
  split at e
  · rename_i hl
    have S : StR K ⟨H, R, fun _ => False, []⟩ [] (start Nms vs) H R (ds.map some ++ List.replicate (Nms.length - n) none) := by
      refine ⟨sub, ?_, fun i d _ q => ?_, fun i hi => absurd hi (by simp), fun i j hi => absurd hi (by simp), fun a o q _ => q, Same.refl _, fun a q => .inl q, fun a q => .refl q, fun i hi => absurd hi (by simp), fun i hi => absurd hi (by simp)⟩
      · unfold start
        rw [List.length_append, List.length_append, List.length_map, List.length_map, List.length_replicate, List.length_replicate, hn, hl]
      · obtain ⟨v, h1, h2⟩ := r.get (slots_get q)
        exact ⟨v, start_get h1, h2⟩
    have ext : ∀ {O1 : List Nat} {σ' : St} {H' R' : Hp} {ρ' : Rho}, StR K ⟨H, R, fun _ => False, []⟩ O1 σ' H' R' ρ' → Ext H R H' R' := fun S' => ⟨fun a o q => S'.ah a o q (fun z => z), S'.ar, S'.sub, S'.an⟩
    cases e1 : f (ds.map some ++ List.replicate (Nms.length - n) none) with
    | none => rw [e1] at e; cases e
    | some o =>
      rw [e1] at e
      refine hm _ _ _ _ _ _ o rfl S e1 ?_
      cases o with
      | nx ρ' =>
        dsimp only at e
        split at e
        · cases e
        · rename_i hf
          cases e
          refine fun σ' H' R' S' _ => k .non H' R' (ext S') ?_
          cases fr with
          | false => exact .non
          | true => exact absurd rfl hf
      | bk ρ' => cases e
      | ct ρ' => cases e
      | rt d' ρ' =>
        cases e
        exact fun v σ' H' R' S' q => k v H' R' (ext S') q
  · cases e
noncomputable def runS (fr : Bool) (n N : Nat) (f : Rho → Option Out) (xs ds : List D) : Option (D × List D) := if ds.length + 1 = n then match f (some (.lst xs) :: (ds.map some ++ List.replicate (N - n) none)) with
    | some (.rt d ρ) => (match (ρ[0]? : Option (Option D)) with
      | some (some (D.lst ys)) => some (d, ys)
      | _ => none)
    | some (.nx ρ) => if fr = true then none else (match (ρ[0]? : Option (Option D)) with
      | some (some (D.lst ys)) => some (.non, ys)
      | _ => none)
    | _ => none
  else none
structure ExtS (l : Addr) (H R H' R' : Hp) : Prop where
  h : ∀ a o, a ≠ l → H a = some o → H' a = some o
  r : Same R R'
  s : ∀ a o, R' a = some o → H' a = some o
  n : ∀ a, R' a ≠ none → R a ≠ none ∨ Frh H a
  d : ∀ a, H a ≠ none → Liv H H' a
noncomputable def spS (K : PySem.W.Frag) (fr : Bool) (n : Nat) (f : List D → List D → Option (D × List D)) : Sp := fun vs H Q _ => vs.length = n ∧ ∃ l ws R us xs ds d ys, vs = .ref l :: ws ∧ H l = some (.lst us) ∧ R l = none ∧ (∀ a o, R a = some o → H a = some o) ∧ Rps K R us xs ∧ Rps K R ws ds ∧ f xs ds = some (d, ys) ∧
  ∀ v H' R' us', ExtS l H R H' R' → H' l = some (.lst us') → R' l = none → Rps K R' us' ys → Res K fr H v d H' R' → Q v H'
theorem spS_body {K : PySem.W.Frag} {fr : Bool} {n : Nat} {Nms : List Str} {O' : List Nat} {t : TS} {f : Rho → Option Out} {vs : List V} {H : Hp} {Q : VK} {E : XK} (hm : MS ⟨K, fr, [0], []⟩ [0] [0] t f) (h : spS K fr n (runS fr n Nms.length f) vs H Q E) : t { nx := fun _ H' => Q .non H', rt := Q } (start Nms vs) H := by
  obtain ⟨hn, l, ws, R, us, xs, ds, d, ys, rfl, hH, hR, sub, ru, r, e, k⟩ := h
  unfold runS at e
  split at e
  · rename_i hl
    have ln : ws.length + 1 = n := by simpa using hn
    have S : StR K ⟨H, R, fun a => a = l, [0]⟩ [0] (start Nms (.ref l :: ws)) H R (some (.lst xs) :: (ds.map some ++ List.replicate (Nms.length - n) none)) := by
      have one : ∀ i, i ∈ [0] → i = 0 := fun i hi => by simpa using hi
      refine ⟨sub, ?_, fun i d hi q => ?_, fun i hi => ?_, fun i j hi hj z => absurd ((one i hi).trans (one j hj).symm) z, fun a o q _ => q, Same.refl _, fun a q => .inl q, fun a q => .refl q, fun i hi z => absurd hi z, fun i hi _ a q => ?_⟩
      · unfold start
        simp only [List.map_cons, List.cons_append, List.length_cons, List.length_append, List.length_map, List.length_replicate]
        omega
      · cases i with
        | zero => exact absurd (by simp) hi
        | succ i =>
          rw [List.getElem?_cons_succ] at q
          obtain ⟨v, h1, h2⟩ := r.get (slots_get q)
          exact ⟨v, start_get (by rw [List.getElem?_cons_succ]; exact h1), h2⟩
      · cases one i hi
        exact ⟨l, .lst us, .lst xs, rfl, rfl, hH, hR, .lst ru⟩
      · cases one i hi
        have q' : some (some (V.ref l)) = some (some (V.ref a)) := q
        cases q'
        rfl
    have ext : ∀ {σ' : St} {H' R' : Hp} {ρ' : Rho}, StR K ⟨H, R, fun a => a = l, [0]⟩ [0] σ' H' R' ρ' → ExtS l H R H' R' ∧ ∃ us' zs, ρ'[0]? = some (some zs) ∧ H' l = some us' ∧ R' l = none ∧ Ob K R' us' zs := fun {σ' H' R' ρ'} S' => by
      refine ⟨⟨fun a o n q => S'.ah a o q n, S'.ar, S'.sub, S'.an, S'.ad⟩, ?_⟩
      obtain ⟨l', us', zs, h1, h2, h3, h4, h5⟩ := S'.own 0 (by simp)
      have el : l' = l := S'.ap 0 (by simp) (by simp) l' h2
      subst el
      exact ⟨us', zs, h1, h3, h4, h5⟩
    cases e1 : f (some (.lst xs) :: (ds.map some ++ List.replicate (Nms.length - n) none)) with
    | none => rw [e1] at e; cases e
    | some o =>
      rw [e1] at e
      refine hm _ _ _ _ _ _ o rfl S e1 ?_
      cases o with
      | nx ρ' =>
        dsimp only at e
        split at e
        · cases e
        · rename_i hf
          refine fun σ' H' R' S' _ => ?_
          obtain ⟨x, us', zs, q1, q2, q3, q4⟩ := ext S'
          rw [q1] at e
          cases q4 with
          | dct _ => cases e
          | dit _ => cases e
          | lst q4 =>
          cases e
          refine k .non H' R' _ x q2 q3 q4 ?_
          cases fr with
          | false => exact .non
          | true => exact absurd rfl hf
      | bk ρ' => cases e
      | ct ρ' => cases e
      | rt d' ρ' =>
        dsimp only at e
        refine fun v σ' H' R' S' q => ?_
        obtain ⟨x, us', zs, q1, q2, q3, q4⟩ := ext S'
        rw [q1] at e
        cases q4 with
        | dct _ => cases e
        | dit _ => cases e
        | lst q4 =>
        cases e
        exact k v H' R' _ x q2 q3 q4 q
  · cases e
section
variable {K : PySem.W.Frag} {O : List Nat} {tr : TA} {fs : Rho → Option (List D × Rho)} {E : XK} {n : Nat}
noncomputable def mCall (f : List D → Option D) (fs : Rho → Option (List D × Rho)) : Rho → Option (D × Rho) := mBind fs fun ds => mLift (f ds)
noncomputable def runsN (n : Nat) (f : List D → Option D) : Prop := ∀ ds d, f ds = some d → ds.length = n
theorem runP_n {fr : Bool} {n N : Nat} {f : Rho → Option Out} : runsN n (runP fr n N f) := fun ds d e => by
  unfold runP at e
  split at e
  · assumption
  · cases e
theorem me_callP {f : List D → Option D} (hf : runsN n f) (h : MA K O tr fs) : ME K O (tCall (spP K false n f) [] E tr) (mCall f fs) := fun Z σ H R ρ d ρ' Q S e k => by
  obtain ⟨ds, ρ1, e1, e⟩ := mBind_some e
  obtain ⟨e2, rfl⟩ := mLift_some e
  refine h Z σ H R ρ ds _ _ S e1 fun vs H1 R1 S1 st1 r1 => ?_
  show spP K false n f (vs ++ []) H1 Q E
  rw [List.append_nil]
  exact ⟨by rw [r1.length]; exact hf ds d e2, R1, ds, d, S1.sub, r1, e2, fun v H2 R2 x q => k v H2 R2 (S1.ext x) (st1.trans x.stp) q⟩
noncomputable def lstOf (o : Option D) : Option (List D) := match o with
  | some (.lst ds) => some ds
  | _ => none
noncomputable def mCallL (f : List D → Option D) (fs : Rho → Option (List D × Rho)) : Rho → Option (List D × Rho) := mBind fs fun ds => mLift (lstOf (f ds))
theorem lstOf_some {o : Option D} {ds : List D} (h : lstOf o = some ds) : o = some (.lst ds) := by
  unfold lstOf at h
  split at h
  · cases h; rfl
  · (first | obtain rfl := h.isA rfl | cases h)
theorem mn_callP {f : List D → Option D} (hf : runsN n f) (h : MA K O tr fs) : MN K O (tCall (spP K true n f) [] E tr) (mCallL f fs) := fun Z σ H R ρ d ρ' Q S e k => by
  obtain ⟨ds, ρ1, e1, e⟩ := mBind_some e
  obtain ⟨e2, rfl⟩ := mLift_some e
  have e3 := lstOf_some e2
  refine h Z σ H R ρ ds _ _ S e1 fun vs H1 R1 S1 st1 r1 => ?_
  show spP K true n f (vs ++ []) H1 Q E
  rw [List.append_nil]
  refine ⟨by rw [r1.length]; exact hf ds _ e3, R1, ds, _, S1.sub, r1, e3, fun v H2 R2 x q => ?_⟩
  obtain ⟨l, us, gs, rfl, e4, h0, hH, hR, r⟩ := q
  cases e4
  exact k l us H2 R2 (S1.ext x) (st1.trans x.stp) (st1.new h0) hH hR r
noncomputable def mCallS (f : List D → List D → Option (D × List D)) (i : Nat) (fs : Rho → Option (List D × Rho)) : Rho → Option (D × Rho) := mBind fs fun ds ρ => match ρ[i]? with
  | some (some (.lst xs)) => match f xs ds with
    | some (d, ys) => some (d, ρ.set i (some (.lst ys)))
    | none => none
  | _ => none
noncomputable def runsS (n : Nat) (f : List D → List D → Option (D × List D)) : Prop := ∀ xs ds r, f xs ds = some r → ds.length + 1 = n
theorem runS_n {fr : Bool} {n N : Nat} {f : Rho → Option Out} : runsS n (runS fr n N f) := fun xs ds r e => by
  unfold runS at e
  split at e
  · assumption
  · cases e
theorem me_callS {f : List D → List D → Option (D × List D)} {i : Nat} (hf : runsS n f) (hi : i ∈ O) (h : MA K O tr fs) : ME K O (tCall (spS K false n f) [] E (tCons (tVar i) tr)) (mCallS f i fs) := fun Z σ H R ρ d ρ' Q S e k => by
  obtain ⟨ds, ρ1, e1, e⟩ := mBind_some e
  obtain ⟨l, vs0, ds0, h1, h2, h3, h4, h5⟩ := S.own i hi
  refine ⟨.ref l, h2, h Z σ H R ρ ds ρ1 _ S e1 fun vs H1 R1 S1 st1 r1 => ?_⟩
  obtain ⟨l', us, xs, g1, g2, g3, g4, g5⟩ := S1.own i hi
  rw [h2] at g2
  cases g2
  rw [g1] at e
  cases g5 with
  | dct _ => cases e
  | dit _ => cases e
  | lst g5 =>
  rename_i us xs
  dsimp only at e
  cases e2 : f xs ds with
  | none => rw [e2] at e; cases e
  | some p =>
    obtain ⟨d', ys⟩ := p
    rw [e2] at e
    cases e
    show spS K false n f (.ref l :: vs ++ []) H1 Q E
    rw [List.append_nil]
    refine ⟨by rw [List.length_cons, r1.length]; exact hf _ _ _ e2, l, vs, R1, us, xs, ds, d, ys, rfl, g3, g4, S1.sub, g5, r1, e2, fun v H2 R2 us' x hH hR ru q => ?_⟩
    have hlen : i < ρ1.length := (List.getElem?_eq_some_iff.mp g1).1
    have st2 : Stp O σ H1 R1 H2 R2 := ⟨x.r, fun a o e n => x.h a o (fun z => by subst z; exact n i hi h2) e, x.n, x.d⟩
    have other : ∀ j, j ∈ O → i ≠ j → ∀ m, σ[j]? = some (some (.ref m)) → m ≠ l := fun j hj n m e z => by
      subst z
      exact S1.dis i j hi hj n m h2 e
    refine k v H2 R2 ⟨x.s, by rw [List.length_set]; exact S1.len, fun j e hj q => ?_, fun j hj => ?_, S1.dis, fun a o e n => ?_, S1.ar.trans x.r, fun a h => ?_, fun a h => (S1.ad a h).trans (x.d a (S1.ad a h).1), S1.ao, S1.ap⟩ (st1.trans st2) q
    · have n : i ≠ j := fun z => hj (z ▸ hi)
      rw [List.getElem?_set_ne n] at q
      obtain ⟨w, q1, q2⟩ := S1.env j e hj q
      exact ⟨w, q1, q2.mono x.r⟩
    · by_cases n : i = j
      · subst n
        exact ⟨l, .lst us', .lst ys, by rw [List.getElem?_set_self hlen], h2, hH, hR, .lst ru⟩
      · obtain ⟨m, vs', ds', q1, q2, q3, q4, q5⟩ := S1.own j hj
        refine ⟨m, vs', ds', by rw [List.getElem?_set_ne n]; exact q1, q2, x.h _ _ (other j hj n m q2) q3, ?_, q5.mono x.r⟩
        cases z : R2 m with
        | none => rfl
        | some o =>
          rcases x.n m (by rw [z]; exact fun y => nomatch y) with y | y
          · exact absurd q4 y
          · exact (q5.noF q3 y).elim
    · have ne : a ≠ l := fun z => by
        subst z
        by_cases hp : i ∈ Z.P
        · exact n (S1.ap i hi hp a h2)
        · rw [S1.ao i hi hp a h2] at e; cases e
      exact x.h a o ne (S1.ah a o e n)
    · rcases x.n a h with z | z
      · exact S1.an a z
      · exact .inr (z.back (S1.ad a))
end
end L2
set_option Elab.async false
set_option linter.all false
set_option maxRecDepth 100000
set_option maxHeartbeats 4000000
namespace L2
open PySem PySem.Spec PyProof.Rows
noncomputable def rCatS (K : PySem.W.Frag) : R2 := fun x y H Q => ∃ l b xs zs, x = .ref l ∧ y = .ref b ∧ SqL K H l xs ∧ SqL K H b zs ∧ xs.length + zs.length ≤ sizeLine ∧ ∀ p, H p = none → Q (.ref p) (upd H p (.lst (xs ++ zs)))
noncomputable def rCatU (K : PySem.W.Frag) : R2 := fun x y H Q => ∃ a b xs ys, x = .ref a ∧ y = .ref b ∧ SqT K H a xs ∧ SqT K H b ys ∧ xs.length + ys.length ≤ sizeLine ∧
  (xs = [] → Q (.ref b) H) ∧ (xs ≠ [] → ys = [] → Q (.ref a) H) ∧ (xs ≠ [] → ys ≠ [] → ∀ p, H p = none → Q (.ref p) (upd H p (.tup (xs ++ ys))))
section
variable {X : Cx} {K : PySem.W.Frag}
theorem op_catS (hK : X.K = K) : OpR X (binaryOp .Add) (rCatS K) := by
  subst hK
  intro pins s σ H x y v u Q I rx ry h
  obtain ⟨l, b, xs, zs, rfl, rfl, hH, hB, hz, q⟩ := h
  (first | obtain rfl := rx.isA rfl | cases rx)
  (first | obtain rfl := ry.isA rfl | cases ry)
  obtain ⟨its, r, pl, z⟩ := I.list hH
  obtain ⟨its2, r2, pl2, z2⟩ := I.list hB
  obtain ⟨⟨cls, dd, data, sl⟩, ho, hc, n, hd⟩ := pl.isList
  obtain ⟨⟨cls2, dd2, data2, sl2⟩, ho2, hc2, n2, hd2⟩ := pl2.isList
  simp only at hc hd hc2 hd2
  subst hc hd hc2 hd2
  have e : its.toArray ++ its2.toArray = (its ++ its2).toArray := by simp
  refine concat_meets ⟨_, ho, rfl⟩ ⟨_, ho2, rfl⟩ noFill_list_add seq_list_add PySem.F.slot_list_add PySem.F.entry_list_add (PySem.F.args_list_add_2 _ _) (list_addW l b its.toArray its2.toArray n n2 dd dd2 sl sl2 (by rw [List.size_toArray, List.size_toArray, ← r.length, ← r2.length]; exact hz)) ⟨ho, ho2, ?_⟩
  rw [e]
  exact ⟨.ref _, _, I.lnew (t' := s.toks) (r.append r2) (by rw [List.length_append]; omega), rfl, q _ I.fresh⟩
theorem op_catU (hK : X.K = K) : OpR X (binaryOp .Add) (rCatU K) := by
  subst hK
  intro pins s σ H x y v u Q I rx ry h
  obtain ⟨a, b, xs, ys, rfl, rfl, ha, hb, hz, q0, q1, q2⟩ := h
  (first | obtain rfl := rx.isA rfl | cases rx)
  (first | obtain rfl := ry.isA rfl | cases ry)
  obtain ⟨its, r1, p1, _⟩ := I.tuple ha
  obtain ⟨its2, r2, p2, _⟩ := I.tuple hb
  obtain ⟨⟨cls, dd, data, sl⟩, ho, hc, n, hd⟩ := id p1
  obtain ⟨⟨cls2, dd2, data2, sl2⟩, ho2, hc2, n2, hd2⟩ := id p2
  simp only at hc hd hc2 hd2
  subst hc hd hc2 hd2
  have e : its.toArray ++ its2.toArray = (its ++ its2).toArray := by simp
  by_cases hv : its = []
  · exact concat_meets ⟨_, ho, rfl⟩ ⟨_, ho2, rfl⟩ noFill_tuple_add seq_tuple_add PySem.F.slot_tuple_add PySem.F.entry_tuple_add (PySem.F.args_tuple_add_2 _ _)
      (tuple_addW0 a b its.toArray its2.toArray n n2 dd dd2 sl sl2 (by simp [hv])) ⟨ho, ho2, ⟨.ref b, H, I, rfl, q0 (r1.nil_iff.mp hv)⟩⟩
  · have hx : xs ≠ [] := fun z => hv (r1.nil_iff.mpr z)
    by_cases hw : its2 = []
    · exact concat_meets ⟨_, ho, rfl⟩ ⟨_, ho2, rfl⟩ noFill_tuple_add seq_tuple_add PySem.F.slot_tuple_add PySem.F.entry_tuple_add (PySem.F.args_tuple_add_2 _ _)
        (tuple_addW1 a b its.toArray its2.toArray n n2 dd dd2 sl sl2 (by simpa using hv) (by simp [hw])) ⟨ho, ho2, ⟨.ref a, H, I, rfl, q1 hx (r2.nil_iff.mp hw)⟩⟩
    · refine concat_meets ⟨_, ho, rfl⟩ ⟨_, ho2, rfl⟩ noFill_tuple_add seq_tuple_add PySem.F.slot_tuple_add PySem.F.entry_tuple_add (PySem.F.args_tuple_add_2 _ _)
        (tuple_addW2 a b its.toArray its2.toArray n n2 dd dd2 sl sl2 (by simpa using hv) (by simpa using hw) (by rw [List.size_toArray, List.size_toArray, ← r1.length, ← r2.length]; exact hz)) ⟨ho, ho2, ?_⟩
      rw [e]
      refine ⟨.ref s.heap.objs.size, _, I.laid (t' := s.toks) (o := .tup (xs ++ ys)) (fun b ob q => Heap.get?_push_of_some _ q) (Nat.le_refl _) ?_, rfl, q2 hx (fun w => hw (r2.nil_iff.mpr w)) _ (I.hok.fresh (Nat.le_refl _))⟩
      exact ⟨by rw [List.length_append]; exact hz, _, r1.append r2, TupN.new _ _⟩
noncomputable def rAddG (K : PySem.W.Frag) : R2 := fun x y H Q => rI0 (fun i j => .int (i + j)) x y H Q ∨ rCatS K x y H Q ∨ rCatU K x y H Q ∨ ∃ i j, x = .str i ∧ y = .str j ∧ i.length + j.length ≤ sizeLine ∧ Q (.str (i ++ j)) H
theorem op_addG (hK : X.K = K) : OpR X (binaryOp .Add) (rAddG K) := op_add.or ((op_catS hK).or ((op_catU hK).or op_add_str))
end
section
variable {K : PySem.W.Frag} {O : List Nat}
noncomputable def dAdd : D → D → Option D
  | .int i, .int j => some (.int (i + j))
  | .lst xs, .lst ys => if xs.length + ys.length ≤ sizeLine then some (.lst (xs ++ ys)) else none
  | .tup xs, .tup ys => if xs.length + ys.length ≤ sizeLine then some (.tup (xs ++ ys)) else none
  | .str x, .str y => if x.length + y.length ≤ sizeLine then some (.str (x ++ y)) else none
  | _, _ => none
theorem og_add : OpG K (rAddG K) dAdd := fun H R x y d e u Q s rx ry q k => by
  unfold dAdd at q
  split at q
  · rename_i i j
    (first | obtain rfl := q.isA rfl | cases q)
    (first | obtain rfl := rx.isA rfl | cases rx)
    (first | obtain rfl := ry.isA rfl | cases ry)
    exact .inl ⟨i, j, rfl, rfl, k _ H R (Ext.refl s) (.int _)⟩
  · split at q
    · rename_i hz
      (first | obtain rfl := q.isA rfl | cases q)
      obtain ⟨a1, xs, rfl, h, r⟩ := rx.isL
      obtain ⟨a2, ys, rfl, h2, r2⟩ := ry.isL
      refine .inr (.inl ⟨_, _, _, _, rfl, rfl, Same.sqL s h, Same.sqL s h2, by rw [r.length, r2.length]; exact hz, fun p np => ?_⟩)
      have x := Ext.new (o := .lst (xs ++ ys)) s np
      exact k _ _ _ x (.lst (SqL.of upd_same) ((r.append r2).mono x.r))
    · (first | obtain rfl := q.isA rfl | cases q)
  · split at q
    · rename_i hz
      (first | obtain rfl := q.isA rfl | cases q)
      obtain ⟨a1, xs, rfl, h, r⟩ := rx.isT
      obtain ⟨a2, ys, rfl, h2, r2⟩ := ry.isT
      refine .inr (.inr (.inl ⟨_, _, _, _, rfl, rfl, SqT.of (s _ _ h), SqT.of (s _ _ h2), by rw [r.length, r2.length]; exact hz, fun z => ?_, fun _ z => ?_, fun _ _ p np => ?_⟩))
      · subst z
        (first | obtain rfl := r.isA rfl | cases r)
        exact k _ H R (Ext.refl s) (.tup h2 r2)
      · subst z
        (first | obtain rfl := r2.isA rfl | cases r2)
        rw [List.append_nil] at k
        exact k _ H R (Ext.refl s) (.tup h r)
      · have x := Ext.new (o := .tup (xs ++ ys)) s np
        exact k _ _ _ x (.tup upd_same ((r.append r2).mono x.r))
    · (first | obtain rfl := q.isA rfl | cases q)
  · rename_i i j
    split at q
    · rename_i hz
      (first | obtain rfl := q.isA rfl | cases q)
      (first | obtain rfl := rx.isA rfl | cases rx)
      (first | obtain rfl := ry.isA rfl | cases ry)
      exact .inr (.inr (.inr ⟨i, j, rfl, rfl, hz, k _ H R (Ext.refl s) (.str _)⟩))
    · (first | obtain rfl := q.isA rfl | cases q)
  · (first | obtain rfl := q.isA rfl | cases q)
noncomputable def mOp2L (g : D → D → Option (List D)) (fa fb : Rho → Option (D × Rho)) : Rho → Option (List D × Rho) := mBind fa fun x => mBind fb fun y => mLift (g x y)
noncomputable def dCatL : D → D → Option (List D)
  | .lst xs, .lst ys => if xs.length + ys.length ≤ sizeLine then some (xs ++ ys) else none
  | _, _ => none
end
mutual
noncomputable def D.toP : D → Option PyData
  | .non => some .none
  | .bl b => some (.bool b)
  | .int i => some (.int i)
  | .str x => some (.str x)
  | .lst xs => (D.toPs xs).map PyData.list
  | .tup xs => (D.toPs xs).map PyData.tuple
  | .obj _ _ => none
  | .dct _ => none
  | .exc _ => none
  | .fn _ => none
  | .dit _ => none
noncomputable def D.toPs : List D → Option (List PyData)
  | [] => some []
  | d :: r => match D.toP d, D.toPs r with
    | some p, some ps => some (p :: ps)
    | _, _ => none
end
section
variable {K : PySem.W.Frag} {O : List Nat} {R : Hp}
theorem dv_non (p : PyData) (e : D.toP .non = some p) : DV K R .non p := by simp only [D.toP] at e; cases e; exact .non
theorem dv_bl (b : Bool) (p : PyData) (e : D.toP (.bl b) = some p) : DV K R (.bl b) p := by simp only [D.toP] at e; cases e; exact .bl b
theorem dv_int (b : Int) (p : PyData) (e : D.toP (.int b) = some p) : DV K R (.int b) p := by simp only [D.toP] at e; cases e; exact .int b
theorem dv_str (b : Str) (p : PyData) (e : D.toP (.str b) = some p) : DV K R (.str b) p := by simp only [D.toP] at e; cases e; exact .str b
theorem dv_lst {a : Addr} {xs : List V} {ds : List D} {p : PyData} (h : SqL K R a xs) (r : ∀ ps, D.toPs ds = some ps → DVs K R xs ps) (e : D.toP (.lst ds) = some p) : DV K R (.ref a) p := by
  simp only [D.toP] at e
  cases z : D.toPs ds with
  | none => rw [z] at e; cases e
  | some ps => rw [z] at e; cases e; exact .lst h (r _ z)
theorem dv_tup {a : Addr} {xs : List V} {ds : List D} {p : PyData} (h : R a = some (.tup xs)) (r : ∀ ps, D.toPs ds = some ps → DVs K R xs ps) (e : D.toP (.tup ds) = some p) : DV K R (.ref a) p := by
  simp only [D.toP] at e
  cases z : D.toPs ds with
  | none => rw [z] at e; cases e
  | some ps => rw [z] at e; cases e; exact .tup (SqT.of h) (r _ z)
theorem dvs_nil (ps : List PyData) (e : D.toPs [] = some ps) : DVs K R [] ps := by simp only [D.toPs] at e; cases e; exact .nil
theorem dvs_cons {x : V} {xs : List V} {d : D} {ds : List D} {ps : List PyData} (h : ∀ p, d.toP = some p → DV K R x p) (r : ∀ ps, D.toPs ds = some ps → DVs K R xs ps) (e : D.toPs (d :: ds) = some ps) : DVs K R (x :: xs) ps := by
  simp only [D.toPs] at e
  cases z : d.toP with
  | none => rw [z] at e; cases e
  | some p =>
    cases w : D.toPs ds with
    | none => rw [z, w] at e; cases e
    | some qs => rw [z, w] at e; cases e; exact .cons (h _ z) (r _ w)
theorem Rp.dv {v : V} {d : D} {p : PyData} (h : Rp K R v d) (e : d.toP = some p) : DV K R v p :=
  Rp.rec (motive_1 := fun v d _ => ∀ p, d.toP = some p → DV K R v p) (motive_2 := fun xs ds _ => ∀ ps, D.toPs ds = some ps → DVs K R xs ps) (motive_3 := fun _ _ _ => True) (motive_4 := fun _ _ _ => True) (motive_5 := fun _ _ _ => True)
    dv_non dv_bl dv_int dv_str (fun h _ r _ => dv_lst h r) (fun h _ r _ => dv_tup h r) (fun _ _ _ _ _ e => by simp only [D.toP] at e; cases e) (fun _ _ _ _ e => by simp only [D.toP] at e; cases e) (fun _ _ _ _ e => by simp only [D.toP] at e; cases e) (fun _ _ _ _ e => by simp only [D.toP] at e; cases e) (fun _ _ e => by simp only [D.toP] at e; cases e)
    dvs_nil (fun _ _ h r _ => dvs_cons h r) trivial (fun _ _ _ _ => trivial) trivial (fun _ _ _ _ => trivial) trivial (fun _ _ _ _ => trivial) h _ e
theorem Rps.dvs {xs : List V} {ds : List D} {ps : List PyData} (h : Rps K R xs ds) (e : D.toPs ds = some ps) : DVs K R xs ps :=
  Rps.rec (motive_1 := fun v d _ => ∀ p, d.toP = some p → DV K R v p) (motive_2 := fun xs ds _ => ∀ ps, D.toPs ds = some ps → DVs K R xs ps) (motive_3 := fun _ _ _ => True) (motive_4 := fun _ _ _ => True) (motive_5 := fun _ _ _ => True)
    dv_non dv_bl dv_int dv_str (fun h _ r _ => dv_lst h r) (fun h _ r _ => dv_tup h r) (fun _ _ _ _ _ e => by simp only [D.toP] at e; cases e) (fun _ _ _ _ e => by simp only [D.toP] at e; cases e) (fun _ _ _ _ e => by simp only [D.toP] at e; cases e) (fun _ _ _ _ e => by simp only [D.toP] at e; cases e) (fun _ _ e => by simp only [D.toP] at e; cases e)
    dvs_nil (fun _ _ h r _ => dvs_cons h r) trivial (fun _ _ _ _ => trivial) trivial (fun _ _ _ _ => trivial) trivial (fun _ _ _ _ => trivial) h _ e
noncomputable def eqD (d e : D) : Option Bool := match d.toP, e.toP with
  | some p, some q => if SeqAt.shaped p = true ∧ SeqAt.shaped q = true then some (PyData.eqv p q) else none
  | _, _ => none
noncomputable def dEq (d e : D) : Option D := (eqD d e).map .bl
noncomputable def dNe (d e : D) : Option D := (eqD d e).map fun b => .bl (!b)
theorem eqD_some {d e : D} {b : Bool} (h : eqD d e = some b) : ∃ p q, d.toP = some p ∧ e.toP = some q ∧ SeqAt.shaped p = true ∧ SeqAt.shaped q = true ∧ PyData.eqv p q = b := by
  unfold eqD at h
  cases h1 : d.toP with
  | none => rw [h1] at h; cases h
  | some p =>
    cases h2 : e.toP with
    | none => rw [h1, h2] at h; cases h
    | some q =>
      rw [h1, h2] at h
      dsimp only at h
      split at h
      · rename_i z
        exact ⟨p, q, rfl, rfl, z.1, z.2, Option.some.inj h⟩
      · (first | obtain rfl := h.isA rfl | cases h)
theorem os_eq : OpS K (rEqD K) dEq := fun H x y d e u Q rx ry q k => by
  unfold dEq at q
  cases h : eqD d e with
  | none => rw [h] at q; cases q
  | some b =>
    rw [h] at q
    (first | obtain rfl := q.isA rfl | cases q)
    obtain ⟨p, r, h1, h2, h3, h4, h5⟩ := eqD_some h
    refine ⟨p, r, rx.dv h1, ry.dv h2, h3, h4, ?_⟩
    rw [h5]
    exact k _ (.bl _)
theorem os_ne : OpS K (rNeD K) dNe := fun H x y d e u Q rx ry q k => by
  unfold dNe at q
  cases h : eqD d e with
  | none => rw [h] at q; cases q
  | some b =>
    rw [h] at q
    (first | obtain rfl := q.isA rfl | cases q)
    obtain ⟨p, r, h1, h2, h3, h4, h5⟩ := eqD_some h
    refine ⟨p, r, rx.dv h1, ry.dv h2, h3, h4, ?_⟩
    rw [h5]
    exact k _ (.bl _)
noncomputable def dIsN (d e : D) : Option D := match e with
  | .non => some (.bl (match d with | .non => true | _ => false))
  | _ => none
noncomputable def dNotN (d e : D) : Option D := match e with
  | .non => some (.bl (match d with | .non => false | _ => true))
  | _ => none
theorem os_isN : OpS K (fun x y H Q => y = .non ∧ Q (.bl (decide (x = .non))) H) dIsN := fun H x y d e u Q rx ry q k => by
  (first | split at q | (unfold dIsN at q; split at q))
  · obtain rfl := ry.isA rfl
    refine ⟨rfl, ?_⟩
    cases rx <;> (cases q; exact k _ (.bl _))
  · cases q
theorem os_notN : OpS K (fun x y H Q => y = .non ∧ Q (.bl (!decide (x = .non))) H) dNotN := fun H x y d e u Q rx ry q k => by
  (first | split at q | (unfold dNotN at q; split at q))
  · obtain rfl := ry.isA rfl
    refine ⟨rfl, ?_⟩
    cases rx <;> (cases q; exact k _ (.bl _))
  · cases q
end
end L2
set_option Elab.async false
set_option linter.all false
set_option maxRecDepth 100000
set_option maxHeartbeats 4000000
namespace L2
open PySem PySem.Spec PyProof.Rows
section
variable {K : PySem.W.Frag} {O : List Nat} {t ta tb tc : TE} {tr : TA} {fa fb fc : Rho → Option (D × Rho)} {fs : Rho → Option (List D × Rho)}
noncomputable def CallG (K : PySem.W.Frag) (r : List V → Hp → VK → Prop) (g : D → Option D) : Prop := ∀ (H R : Hp) (x : V) (d u : D) (Q : VK), (∀ a o, R a = some o → H a = some o) → Rp K R x d → g d = some u → (∀ v H' R', Ext H R H' R' → Rp K R' v u → Q v H') → r [x] H Q
theorem me_callG {r : List V → Hp → VK → Prop} {g : D → Option D} (h : CallG K r g) (ha : ME K O t fa) : ME K O (tCB r (tCons t tNil)) (mOp1 g fa) := fun Z σ H R ρ d ρ' Q S e k => by
  obtain ⟨x, ρ1, e1, e⟩ := mBind_some e
  obtain ⟨e2, rfl⟩ := mLift_some e
  refine ha Z σ H R ρ x _ _ S e1 fun v H1 R1 S1 st1 r1 => ?_
  exact h H1 R1 v x d Q S1.sub r1 e2 fun w H2 R2 x2 r2 => k w H2 R2 (S1.ext x2) (st1.trans x2.stp) r2
noncomputable def CallN (K : PySem.W.Frag) (r : List V → Hp → VK → Prop) (g : D → Option (List D)) : Prop := ∀ (H R : Hp) (x : V) (d : D) (us : List D) (Q : VK), (∀ a o, R a = some o → H a = some o) → Rp K R x d → g d = some us → (∀ l vs, H l = none → Rps K R vs us → Q (.ref l) (upd H l (.lst vs))) → r [x] H Q
noncomputable def mOp1L (g : D → Option (List D)) (f : Rho → Option (D × Rho)) : Rho → Option (List D × Rho) := mBind f fun x => mLift (g x)
theorem mn_call1 {r : List V → Hp → VK → Prop} {g : D → Option (List D)} (h : CallN K r g) (ha : ME K O t fa) : MN K O (tCB r (tCons t tNil)) (mOp1L g fa) := fun Z σ H R ρ d ρ' Q S e k => by
  obtain ⟨x, ρ1, e1, e⟩ := mBind_some e
  obtain ⟨e2, rfl⟩ := mLift_some e
  refine ha Z σ H R ρ x _ _ S e1 fun v H1 R1 S1 st1 r1 => ?_
  refine h H1 R1 v x d Q S1.sub r1 e2 fun l vs hl rv => ?_
  have y := Ext.hid (o := .lst vs) S1.sub hl
  exact k l vs _ _ (S1.ext y) (st1.trans y.stp) (st1.new hl) upd_same (S1.out hl) rv
noncomputable def dSeq : D → Option (List D)
  | .lst xs => some xs
  | .tup xs => some xs
  | _ => none
theorem cn_list : CallN K (fun xs H Q => ∃ p ys, xs = [.ref p] ∧ (SqL K H p ys ∨ SqT K H p ys) ∧ ∀ l, H l = none → Q (.ref l) (upd H l (.lst ys))) dSeq := fun H R x d us Q s r e k => by
  (first | split at e | (unfold dSeq at e; split at e))
  · obtain ⟨_, _, rfl, h, q⟩ := r.isL
    cases e
    exact ⟨_, _, rfl, .inl (Same.sqL s h), fun l hl => k l _ hl q⟩
  · obtain ⟨_, _, rfl, h, q⟩ := r.isT
    cases e
    exact ⟨_, _, rfl, .inr (SqT.of (s _ _ h)), fun l hl => k l _ hl q⟩
  · cases e
noncomputable def dTuple : D → Option D
  | .lst xs => some (.tup xs)
  | .tup xs => some (.tup xs)
  | _ => none
theorem cg_tuple : CallG K (fun xs H Q => ∃ p ys, xs = [.ref p] ∧ ((SqL K H p ys ∧ ∀ l, H l = none → Q (.ref l) (upd H l (.tup ys))) ∨ (SqT K H p ys ∧ Q (.ref p) H))) dTuple := fun H R x d u Q s r e k => by
  cases r with
  | lst h q =>
    cases e
    refine ⟨_, _, rfl, .inl ⟨Same.sqL s h, fun l hl => ?_⟩⟩
    rename_i a xs ds
    have y := Ext.new (o := .tup xs) s hl
    exact k _ _ _ y (.tup upd_same (q.mono y.r))
  | tup h q => cases e; exact ⟨_, _, rfl, .inr ⟨SqT.of (s _ _ h), k _ H R (Ext.refl s) (.tup h q)⟩⟩
  | _ => cases e
noncomputable def MO (K : PySem.W.Frag) (O : List Nat) (t : TO) (f : Rho → Option (Option Int × Rho)) : Prop := ∀ (Z : Anc) (σ : St) (H R : Hp) (ρ : Rho) (o : Option Int) (ρ' : Rho) (Q : Option Int → Hp → Prop), StR K Z O σ H R ρ → f ρ = some (o, ρ') → (∀ H' R', StR K Z O σ H' R' ρ' → Stp O σ H R H' R' → Q o H') → t σ H Q
theorem mo_none : MO K O tNoPart (mRet none) := fun Z σ H R ρ o ρ' Q S e k => by
  cases e
  exact k H R S (Stp.refl _ _ _ _)
noncomputable def mPart (f : Rho → Option (D × Rho)) : Rho → Option (Option Int × Rho) := mBind f fun d => mLift (match d with
  | .int i => some (some i)
  | _ => none)
theorem mo_some (h : ME K O t fa) : MO K O (tPart t) (mPart fa) := fun Z σ H R ρ o ρ' Q S e k => by
  obtain ⟨x, ρ1, e1, e⟩ := mBind_some e
  obtain ⟨e2, rfl⟩ := mLift_some e
  refine h Z σ H R ρ x _ _ S e1 fun v H1 R1 S1 st1 r1 => ?_
  (first | split at e2)
  · rename_i i
    obtain rfl := r1.isA rfl
    cases e2
    exact ⟨i, rfl, k H1 R1 S1 st1⟩
  · cases e2
noncomputable def cutD (xs : List D) (lo hi : Option Int) : List D := (xs.drop (HT.sIx xs.length 0 lo)).take (HT.sIx xs.length xs.length hi - HT.sIx xs.length 0 lo)
theorem Rps.cut {R : Hp} {xs : List V} {ds : List D} (r : Rps K R xs ds) (lo hi : Option Int) : Rps K R (cutV xs lo hi) (cutD ds lo hi) := by
  unfold cutV cutD
  rw [r.length]
  exact (r.drop _).take _
noncomputable def rSlG (K : PySem.W.Frag) : V → Option Int → Option Int → Hp → VK → Prop := fun x lo hi H Q => rSlL K x lo hi H Q ∨ rSlT K x lo hi H Q
theorem sl_seqK {X : Cx} (h : X.K = K) : SlR X (rSlG K) := by
  subst h
  exact sl_list.or sl_tup
noncomputable def dSl (d : D) (lo hi : Option Int) : Option D := match d with
  | .lst xs => some (.lst (cutD xs lo hi))
  | .tup xs => if HT.sIx xs.length 0 lo = 0 ∧ HT.sIx xs.length xs.length hi = xs.length then none else some (.tup (cutD xs lo hi))
  | _ => none
noncomputable def mSl (f : Rho → Option (D × Rho)) (fl fh : Rho → Option (Option Int × Rho)) : Rho → Option (D × Rho) := mBind f fun d => mBind fl fun lo => mBind fh fun hi => mLift (dSl d lo hi)
theorem me_slice {tl th : TO} {fl fh : Rho → Option (Option Int × Rho)} (h : ME K O t fa) (hl : MO K O tl fl) (hh : MO K O th fh) : ME K O (tSl (rSlG K) t tl th) (mSl fa fl fh) := fun Z σ H R ρ d ρ' Q S e k => by
  obtain ⟨x, ρ1, e1, e⟩ := mBind_some e
  obtain ⟨lo, ρ2, e2, e⟩ := mBind_some e
  obtain ⟨hi, ρ3, e3, e⟩ := mBind_some e
  obtain ⟨e4, rfl⟩ := mLift_some e
  refine h Z σ H R ρ x _ _ S e1 fun v H1 R1 S1 st1 r1 => hl Z σ H1 R1 ρ1 lo _ _ S1 e2 fun H2 R2 S2 st2 => hh Z σ H2 R2 ρ2 hi _ _ S2 e3 fun H3 R3 S3 st3 => ?_
  have r3 := (r1.mono st2.r).mono st3.r
  have st := (st1.trans st2).trans st3
  cases r3 with
  | @lst a xs ds q r =>
    cases e4
    refine .inl ⟨a, xs, rfl, Same.sqL S3.same q, fun p np => ?_⟩
    have y := Ext.new (o := .lst (cutV xs lo hi)) S3.sub np
    exact k _ _ _ (S3.ext y) (st.trans y.stp) (.lst (SqL.of upd_same) ((r.cut lo hi).mono y.r))
  | @tup a xs ds q r =>
    have e5 : (if HT.sIx ds.length 0 lo = 0 ∧ HT.sIx ds.length ds.length hi = ds.length then none else some (D.tup (cutD ds lo hi))) = some d := e4
    split at e5
    · cases e5
    · rename_i hn
      cases e5
      refine .inr ⟨a, xs, rfl, SqT.of (S3.same _ _ q), by rw [r.length]; exact hn, fun p np => ?_⟩
      have y := Ext.new (o := .tup (cutV xs lo hi)) S3.sub np
      exact k _ _ _ (S3.ext y) (st.trans y.stp) (.tup upd_same ((r.cut lo hi).mono y.r))
  | _ => cases e4
noncomputable def mSlL (f : Rho → Option (D × Rho)) (fl fh : Rho → Option (Option Int × Rho)) : Rho → Option (List D × Rho) := mBind f fun d => mBind fl fun lo => mBind fh fun hi => mLift (match d with
  | .lst xs => some (cutD xs lo hi)
  | _ => none)
noncomputable def mChain (g g' : D → D → Option D) (fa fb fc : Rho → Option (D × Rho)) : Rho → Option (D × Rho) := mBind fa fun x => mBind fb fun y => mBind (mTest (mLift (g x y))) fun b => if b = true then mBind fc fun z => mLift (g' y z) else mRet (.bl false)
theorem os_b0 {g : Int → Int → Bool} : OpS K (rI0 fun i j => .bl (g i j)) (dB0 g) := fun H x y d e u Q rx ry q k => by
  unfold dB0 at q
  split at q
  · rename_i i j
    (first | obtain rfl := q.isA rfl | cases q)
    (first | obtain rfl := rx.isA rfl | cases rx)
    (first | obtain rfl := ry.isA rfl | cases ry)
    exact ⟨i, j, rfl, rfl, k _ (.bl _)⟩
  · (first | obtain rfl := q.isA rfl | cases q)
noncomputable def flatD : D → Bool
  | .non => true
  | .bl _ => true
  | .int _ => true
  | .str _ => true
  | _ => false
noncomputable def mDivmod (f : Rho → Option (List D × Rho)) : Rho → Option (D × Rho) := mBind f fun ds => mLift (match ds with
  | [.int i, .int j] => if 0 < j ∧ j < 1073741824 then some (.tup [.int (i / j), .int (i % j)]) else none
  | _ => none)
noncomputable def mMM (g : Int → Int → Int) (f : Rho → Option (List D × Rho)) : Rho → Option (D × Rho) := mBind f fun ds => mLift (match ds with
  | [.int i, .int j] => some (.int (g i j))
  | _ => none)
theorem me_mm {g : Int → Int → Int} (h : MA K O tr fs) : ME K O (tCB (fun xs H Q => ∃ i j, xs = [.int i, .int j] ∧ Q (.int (g i j)) H) tr) (mMM g fs) := fun Z σ H R ρ d ρ' Q S e k => by
  obtain ⟨xs, ρ1, e1, e⟩ := mBind_some e
  obtain ⟨e2, rfl⟩ := mLift_some e
  refine h Z σ H R ρ xs _ _ S e1 fun vs H1 R1 S1 st1 r1 => ?_
  split at e2
  · rename_i i j
    cases e2
    obtain ⟨_, _, rfl, q, r⟩ := r1.isC
    (first | obtain rfl := q.isA rfl | cases q)
    cases r with
    | cons q r =>
      (first | obtain rfl := q.isA rfl | cases q)
      (first | obtain rfl := r.isA rfl | cases r)
      exact ⟨i, j, rfl, k _ H1 R1 S1 st1 (.int _)⟩
  · cases e2
noncomputable def iZipG (K : PySem.W.Frag) (ta : TA) : TI := fun σ H R => (iZip K true true ta σ H R ∨ iZip K true false ta σ H R) ∨ (iZip K false true ta σ H R ∨ iZip K false false ta σ H R)
theorem pi_zipG {X : Cx} {a b : Expr} {ta : TA} {p pos : Pos} {elts : List Expr} {x1 : Nat} {tp : Pos} (hK : X.K = K) (hg : Gl X "zip") (hm : X.mg "zip" = none) (ha : PA X [a, b] ta) (he : starEach [a, b] X.env = (false, eval a X.env) :: starEach [b] X.env := by rfl) (hpl : (backTo pos (starEach [b] X.env)).any (·.1) = false := by rfl) :
    PI X (.Tuple elts x1 tp) (.Call (.Name "zip" p) [a, b] [] pos) (iZipG K ta) := fun pins s σ H R I q => by
  rcases q with (q | q) | (q | q)
  · exact pi_zip true true hK hg hm ha he hpl pins s σ H R I q
  · exact pi_zip true false hK hg hm ha he hpl pins s σ H R I q
  · exact pi_zip false true hK hg hm ha he hpl pins s σ H R I q
  · exact pi_zip false false hK hg hm ha he hpl pins s σ H R I q
noncomputable def zipD (xs ys : List D) : List D := List.zipWith (fun x y => D.tup [x, y]) xs ys
noncomputable def mZip (f : Rho → Option (List D × Rho)) : Rho → Option (List D × Rho) := mBind f fun ds => mLift (match ds with
  | [x, y] => match dSeq x, dSeq y with
    | some xs, some ys => some (zipD xs ys)
    | _, _ => none
  | _ => none)
theorem SqB.inj_same {K : PySem.W.Frag} {b : Bool} {R H : Hp} {p : Addr} {xs : List V} (s : Same R H) (h : SqB K b R p xs) : SqB K b H p xs := by
  cases b
  · exact Same.tup s h
  · exact Same.sqL s h
theorem it_zip {R : Hp} {b1 b2 : Bool} {p1 p2 : Addr} {xs ys : List V} {ds es : List D} (h1 : SqB K b1 R p1 xs) (h2 : SqB K b2 R p2 ys) (r1 : Rps K R xs ds) (r2 : Rps K R ys es) : ItOk K (Itz K b1 b2 p1 p2) R (zipD ds es) := fun H' R' s b i => by
  have q1 := (SqB.inj_same s h1)
  have q2 := (SqB.inj_same s h2)
  have g1 := (SqB.inj_same b q1)
  have g2 := (SqB.inj_same b q2)
  have len : (zipD ds es).length = min ds.length es.length := by simp [zipD]
  have l1 := r1.length
  have l2 := r2.length
  refine ⟨fun e => ⟨xs, ys, g1, g2, by omega⟩, fun d e => ?_⟩
  unfold zipD at e
  rw [List.getElem?_zipWith] at e
  cases e1 : ds[i]? with
  | none => rw [e1] at e; cases e
  | some d1 =>
    cases e2 : es[i]? with
    | none => rw [e1, e2] at e; cases e
    | some d2 =>
      rw [e1, e2] at e
      cases e
      obtain ⟨v1, a1, a2⟩ := r1.get e1
      obtain ⟨v2, c1, c2⟩ := r2.get e2
      refine ⟨⟨xs, ys, v1, v2, g1, g2, a1, c1⟩, fun x H'' y => ?_⟩
      obtain ⟨T, x1, y1, rfl, hT, rfl, z1, z2⟩ := y
      have w1 := z1 xs g1
      have w2 := z2 ys g2
      rw [a1] at w1
      rw [c1] at w2
      cases w1
      cases w2
      have y := Ext.new (o := .tup [v1, v2]) b hT
      exact ⟨_, y, .tup upd_same (.cons ((a2.mono s).mono y.r) (.cons ((c2.mono s).mono y.r) .nil))⟩
theorem dSeq_some {x : D} {ds : List D} (h : dSeq x = some ds) : x = .lst ds ∨ x = .tup ds := by
  unfold dSeq at h
  split at h
  · cases h; exact .inl rfl
  · cases h; exact .inr rfl
  · (first | obtain rfl := h.isA rfl | cases h)
theorem mi_zip (h : MA K O tr fs) : MI K O (iZipG K tr) (mZip fs) := fun Z σ H R ρ ds ρ' Q S e k => by
  obtain ⟨xs, ρ1, e1, e⟩ := mBind_some e
  obtain ⟨e2, rfl⟩ := mLift_some e
  have go : ∀ (b1 b2 : Bool) (x y : D) (as bs : List D), xs = [x, y] → ds = zipD as bs → (∀ (R1 : Hp) (v : V), Rp K R1 v x → ∃ p vs, v = .ref p ∧ SqB K b1 R1 p vs ∧ Rps K R1 vs as) → (∀ (R1 : Hp) (v : V), Rp K R1 v y → ∃ p vs, v = .ref p ∧ SqB K b2 R1 p vs ∧ Rps K R1 vs bs) → iZip K b1 b2 tr σ H Q := fun b1 b2 x y as bs hx hd g1 g2 => by
    subst hx hd
    refine h Z σ H R ρ _ _ _ S e1 fun vs H1 R1 S1 st1 r1 => ?_
    obtain ⟨_, _, rfl, q, r⟩ := r1.isC
    obtain ⟨_, _, rfl, q', r⟩ := r.isC
    (first | obtain rfl := r.isA rfl | cases r)
    obtain ⟨p1, us, rfl, s1, t1⟩ := g1 _ _ q
    obtain ⟨p2, ws, rfl, s2, t2⟩ := g2 _ _ q'
    exact ⟨p1, p2, rfl, ⟨us, SqB.inj_same S1.same s1⟩, ⟨ws, SqB.inj_same S1.same s2⟩, k _ H1 R1 S1 st1 (it_zip s1 s2 t1 t2)⟩
  have gl : ∀ (as : List D) (R1 : Hp) (v : V), Rp K R1 v (.lst as) → ∃ p vs, v = .ref p ∧ SqB K true R1 p vs ∧ Rps K R1 vs as := fun as R1 v r => by
    obtain ⟨_, _, rfl, h, q⟩ := r.isL
    exact ⟨_, _, rfl, h, q⟩
  have gt : ∀ (as : List D) (R1 : Hp) (v : V), Rp K R1 v (.tup as) → ∃ p vs, v = .ref p ∧ SqB K false R1 p vs ∧ Rps K R1 vs as := fun as R1 v r => by
    obtain ⟨_, _, rfl, h, q⟩ := r.isT
    exact ⟨_, _, rfl, SqT.of h, q⟩
  split at e2
  · rename_i x y
    split at e2
    · rename_i as bs h1 h2
      cases e2
      rcases dSeq_some h1 with rfl | rfl <;> rcases dSeq_some h2 with rfl | rfl
      · exact .inl (.inl (go true true _ _ as bs rfl rfl (gl as) (gl bs)))
      · exact .inl (.inr (go true false _ _ as bs rfl rfl (gl as) (gt bs)))
      · exact .inr (.inl (go false true _ _ as bs rfl rfl (gt as) (gl bs)))
      · exact .inr (.inr (go false false _ _ as bs rfl rfl (gt as) (gt bs)))
    · cases e2
  · cases e2
end
inductive TyO (K : PySem.W.Frag) (H : Hp) : V → Value → Prop where
  | of {x : V} {t : Value} (h : TyOf K H x t) : TyO K H x t
  | sl {a : Addr} {xs : List V} (h : SqL K H a xs) : TyO K H (.ref a) (.type "list")
  | st {a : Addr} {xs : List V} (h : SqT K H a xs) : TyO K H (.ref a) (.type "tuple")
noncomputable def rIsO (K : PySem.W.Frag) : List V → Hp → VK → Prop := fun xs H Q => ∃ x y t c b, xs = [x, y] ∧ clsV y = some c ∧ TyO K H x t ∧ PySem.W.kitOne K t c = some b ∧ Q (.bl b) H
section
variable {X : Cx} {K : PySem.W.Frag} {O : List Nat} {t : TE} {fa : Rho → Option (D × Rho)}
theorem call_isO (hK : X.K = K) : CallR X (.builtin "isinstance") (rIsO K) := by
  subst hK
  intro pins s σ H xs us Q I r h
  obtain ⟨x, y, t, c, b, rfl, hc, ty, e, q⟩ := h
  cases ty with
  | of h => exact call_isi rfl pins s σ H [x, y] us Q I r ⟨x, y, t, c, b, rfl, hc, h, e, q⟩
  | sl h =>
    obtain ⟨u, w, rfl, ru, rw'⟩ := vals2 r
    (first | obtain rfl := ru.isA rfl | cases ru)
    have ew : w = c := by
      cases y with
      | ref a => exact (show w = Value.ref a from rw').trans (Option.some.inj hc)
      | ty n => exact (show w = Value.type n from rw').trans (Option.some.inj hc)
      | _ => cases hc
    subst ew
    obtain ⟨its, rv, pl, _⟩ := I.list h
    obtain ⟨o, e1, c1, _⟩ := pl.isList
    exact PySem.W.kia_one PySem.W.kitx_list I.kIn ⟨o, e1, c1⟩ e (fun z => nomatch z) fun tk => ⟨.bl b, H, I.tok tk, rfl, q⟩
  | st h =>
    obtain ⟨u, w, rfl, ru, rw'⟩ := vals2 r
    (first | obtain rfl := ru.isA rfl | cases ru)
    have ew : w = c := by
      cases y with
      | ref a => exact (show w = Value.ref a from rw').trans (Option.some.inj hc)
      | ty n => exact (show w = Value.type n from rw').trans (Option.some.inj hc)
      | _ => cases hc
    subst ew
    obtain ⟨its, rv, pl, _⟩ := I.tuple h
    obtain ⟨o, e1, c1, _⟩ := pl
    exact PySem.W.kia_one PySem.W.kitx_tuple I.kIn ⟨o, e1, c1⟩ e (fun z => nomatch z) fun tk => ⟨.bl b, H, I.tok tk, rfl, q⟩
noncomputable def tyN : D → Option String
  | .non => some "NoneType"
  | .bl _ => some "bool"
  | .int _ => some "int"
  | .str _ => some "str"
  | .lst _ => some "list"
  | .tup _ => some "tuple"
  | .dct _ => some "dict"
  | .exc _ => none
  | .fn _ => none
  | .dit _ => some "dict"
  | .obj _ _ => none
theorem tyO_of {H : Hp} {v : V} {d : D} {n : String} (r : Rp K H v d) (e : tyN d = some n) : TyO K H v (.type n) := by
  cases r with
  | non => cases e; exact .of .non
  | bl b => cases e; exact .of (.bl b)
  | int i => cases e; exact .of (.int i)
  | str x => cases e; exact .of (.str x)
  | lst h _ => cases e; exact .sl h
  | tup h _ => cases e; exact .st (SqT.of h)
  | dct h _ => cases e; exact .of (.dK h)
  | dit h _ => cases e; exact .of (.dT h)
  | obj _ _ => cases e
  | exc _ _ _ => cases e
  | fn _ => cases e
noncomputable def KitB (K : PySem.W.Frag) (Y : String) (f : String → Option Bool) : Prop := ∀ s b, f s = some b → PySem.W.kitOne K (.type s) (.type Y) = some b
noncomputable def isTab (Y : String) : String → Option Bool := fun s =>
  if s = "NoneType" then some (decide (Y = "NoneType")) else if s = "bool" then some (decide (Y = "bool") || decide (Y = "int")) else if s = "int" then some (decide (Y = "int")) else if s = "str" then some (decide (Y = "str"))
  else if s = "list" then some (decide (Y = "list")) else if s = "tuple" then some (decide (Y = "tuple")) else if s = "dict" then some (decide (Y = "dict")) else none
theorem kitB_mk {Y : String} (h1 : PySem.W.kitOne K (.type "NoneType") (.type Y) = some (decide (Y = "NoneType"))) (h2 : PySem.W.kitOne K (.type "bool") (.type Y) = some (decide (Y = "bool") || decide (Y = "int"))) (h3 : PySem.W.kitOne K (.type "int") (.type Y) = some (decide (Y = "int")))
    (h4 : PySem.W.kitOne K (.type "str") (.type Y) = some (decide (Y = "str"))) (h5 : PySem.W.kitOne K (.type "list") (.type Y) = some (decide (Y = "list"))) (h6 : PySem.W.kitOne K (.type "tuple") (.type Y) = some (decide (Y = "tuple"))) (h7 : PySem.W.kitOne K (.type "dict") (.type Y) = some (decide (Y = "dict"))) : KitB K Y (isTab Y) := fun s b e => by
  unfold isTab at e
  split at e
  · rename_i z; subst z; rw [← e]; exact h1
  split at e
  · rename_i z; subst z; rw [← e]; exact h2
  split at e
  · rename_i z; subst z; rw [← e]; exact h3
  split at e
  · rename_i z; subst z; rw [← e]; exact h4
  split at e
  · rename_i z; subst z; rw [← e]; exact h5
  split at e
  · rename_i z; subst z; rw [← e]; exact h6
  split at e
  · rename_i z; subst z; rw [← e]; exact h7
  · cases e
noncomputable def dIsi (f : String → Option Bool) (d : D) : Option D := match tyN d with
  | some s => (f s).map .bl
  | none => none
theorem me_isi {Y : String} {f : String → Option Bool} (hk : KitB K Y f) (ha : MB K O t fa) : ME K O (tCB (rIsO K) (tCons t (tCons (tC (.ty Y)) tNil))) (mOp1 (dIsi f) fa) := fun Z σ H R ρ d ρ' Q S e k => by
  obtain ⟨x, ρ1, e1, e⟩ := mBind_some e
  obtain ⟨e2, rfl⟩ := mLift_some e
  refine ha Z σ H R ρ x _ _ S e1 fun v H1 R1 S1 st1 r1 => ?_
  unfold dIsi at e2
  cases e3 : tyN x with
  | none => rw [e3] at e2; cases e2
  | some s =>
    rw [e3] at e2
    dsimp only at e2
    cases e4 : f s with
    | none => rw [e4] at e2; cases e2
    | some b =>
      rw [e4] at e2
      cases e2
      exact ⟨v, .ty Y, .type s, .type Y, b, rfl, rfl, tyO_of r1 e3, hk s b e4, k _ H1 R1 S1 st1 (.bl b)⟩
end
end L2
set_option Elab.async false
set_option linter.all false
set_option maxRecDepth 100000
set_option maxHeartbeats 4000000
namespace L2
open PySem PySem.Spec PyProof.Rows
noncomputable def mOf (f : Rho → Option (List D × Rho)) : Rho → Option (D × Rho) := mBind f fun ds => mRet (D.lst ds)
section
variable {K : PySem.W.Frag} {O O1 O' : List Nat} {t : TE} {c : MC} {u : TS} {f : Rho → Option Out} {fn : Rho → Option (List D × Rho)}
theorem me_new (h : MN K O t fn) : ME K O t (mOf fn) := h.me
theorem ms_weak (h : MS c O O1 u f) (hs : subO c O1 O' = true) : MS c O O' u f := fun Z E σ H R ρ o hP S e k => by
  refine h Z E σ H R ρ o hP S e ?_
  cases o with
  | nx ρ' =>
    intro σ' H' R' S' s'
    obtain ⟨S2, s2⟩ := S'.sub' hP hs
    exact k σ' H' _ S2 (s'.trans s2)
  | bk ρ' => exact k
  | ct ρ' => exact k
  | rt d ρ' => exact k
theorem ms_setC {k n : Nat} {js : List Nat} {wi : TI} {g : TG} {tt : TT} {te : TE} (he : MN c.K O (tComp n js wi g tt te) fn) (hs : subO c O O' = true) (hi : k ∉ O') : MS c O O' (sComp k n js wi g tt te) (sSet k (mOf fn)) :=
  show MS c O O' (tAsg (tComp n js wi g tt te) (gName k)) (sSet k (mOf fn)) from ms_set (me_new he) hs hi
noncomputable def sDrop (fe : Rho → Option (D × Rho)) : Rho → Option Out := fun ρ => match fe ρ with
  | none => none
  | some (_, ρ1) => some (.nx ρ1)
theorem ms_expr {fe : Rho → Option (D × Rho)} (he : ME c.K O t fe) (hs : subO c O O' = true) : MS c O O' (tDrop t) (sDrop fe) := fun Z E σ H R ρ o hP S e k => by
  unfold sDrop at e
  cases e1 : fe ρ with
  | none => rw [e1] at e; cases e
  | some p =>
    obtain ⟨d, ρ1⟩ := p
    rw [e1] at e
    cases e
    refine he Z σ H R ρ d ρ1 _ S e1 fun v H1 R1 S1 st1 r1 => ?_
    obtain ⟨S2, s2⟩ := S1.sub' hP hs
    exact k σ H1 _ S2 (st1.r.trans s2)
end
noncomputable def okMul (i j : Int) : Bool := (decide (-(2 ^ 64) < i) && decide (i < 2 ^ 64)) || (decide (-(2 ^ 64) < j) && decide (j < 2 ^ 64))
noncomputable def okDiv (_ j : Int) : Bool := decide (0 < j) && decide (j < 1073741824)
noncomputable def okMod (_ j : Int) : Bool := decide (0 < j)
noncomputable def okPow (i j : Int) : Bool := decide (0 ≤ j) && decide (j ≤ 1000000) && decide (i.natAbs < 2 ^ 64)
noncomputable def okShr (_ j : Int) : Bool := decide (0 ≤ j)
noncomputable abbrev dDiv : D → D → Option D := dI2 okDiv fun i j => i / j
noncomputable abbrev dMod : D → D → Option D := dI2 okMod fun i j => i % j
noncomputable abbrev dPow : D → D → Option D := dI2 okPow fun i j => i ^ j.toNat
noncomputable abbrev dShl : D → D → Option D := dI2 okPow fun i j => i * 2 ^ j.toNat
noncomputable abbrev dSub : D → D → Option D := dI0 fun i j => i - j
noncomputable abbrev dAnd : D → D → Option D := dI0 fun i j => Builtin.bitAnd i j
noncomputable abbrev dOr : D → D → Option D := dI0 fun i j => Builtin.bitOr i j
noncomputable abbrev dXor : D → D → Option D := dI0 fun i j => Builtin.bitXor i j
noncomputable abbrev dLt : D → D → Option D := dB0 fun i j => decide (i < j)
noncomputable abbrev dLe : D → D → Option D := dB0 fun i j => decide (i ≤ j)
noncomputable abbrev dGt : D → D → Option D := dB0 fun i j => decide (j < i)
section
variable {K : PySem.W.Frag}
theorem og_div : OpG K (rI CDiv fun i j => .int (i / j)) dDiv := op_i fun i j h => by
  unfold okDiv at h
  simp only [Bool.and_eq_true, decide_eq_true_eq] at h
  exact h
theorem og_mod : OpG K (rI (fun _ j => 0 < j) fun i j => .int (i % j)) dMod := op_i fun i j h => of_decide_eq_true h
theorem og_pow : OpG K (rI CPow fun i j => .int (i ^ j.toNat)) dPow := op_i fun i j h => by
  unfold okPow at h
  simp only [Bool.and_eq_true, decide_eq_true_eq] at h
  exact ⟨h.1.1, h.1.2, h.2⟩
theorem og_shl : OpG K (rI CPow fun i j => .int (i * 2 ^ j.toNat)) dShl := op_i fun i j h => by
  unfold okPow at h
  simp only [Bool.and_eq_true, decide_eq_true_eq] at h
  exact ⟨h.1.1, h.1.2, h.2⟩
theorem og_sub : OpG K (rI0 fun i j => .int (i - j)) dSub := op_i0
theorem og_and : OpG K (rI0 fun i j => .int (Builtin.bitAnd i j)) dAnd := op_i0
theorem og_or : OpG K (rI0 fun i j => .int (Builtin.bitOr i j)) dOr := op_i0
theorem og_xor : OpG K (rI0 fun i j => .int (Builtin.bitXor i j)) dXor := op_i0
noncomputable def spLaw (K : PySem.W.Frag) (n : Nat) : Sp := fun vs H Q _ => ∃ (b : Addr) (ns : List Int), vs = [.ref b] ∧ SqL K H b (ns.map V.int) ∧ ns.length ≤ n ∧ ∀ H', Q (.bl true) H'
theorem law_of {P : Program} {w : World} {mg : Str → Option Value} {base : Heap} {CX : CXT} {k n : Nat} {fa : Addr} {fd : FuncData} {x : Str} {f : List D → Option D} (F : FnOk P w K mg base CX k fa fd [x] (spP K false 1 f)) (h : ∀ ns : List Int, ns.length ≤ n → f [.lst (ns.map D.int)] = some (.bl true)) : FnOk P w K mg base CX k fa fd [x] (spLaw K n) :=
  F.imp fun vs H Q E q => by
    obtain ⟨b, ns, rfl, hb, hl, k⟩ := q
    refine ⟨rfl, H, [.lst (ns.map D.int)], .bl true, fun _ _ e => e, .cons (.lst hb (Rps.ints ns)) .nil, h ns hl, fun v H' R' _ r => ?_⟩
    have r' : Rp K R' v (.bl true) := r
    cases r'
    exact k H'
end
end L2
set_option Elab.async false
set_option linter.all false
set_option maxRecDepth 100000
set_option maxHeartbeats 4000000
namespace L2
open PySem PySem.Spec PyProof.Rows
section
variable {K : PySem.W.Frag} {O O' : List Nat} {t ta tb : TE} {fa fb : Rho → Option (D × Rho)} {fn : Rho → Option (List D × Rho)} {c : MC}
noncomputable def isBl (d : D) (b : Bool) : Bool := match d with
  | .bl x => x == b
  | _ => false
noncomputable def dIsB (d e : D) : Option D := match e with
  | .bl b => some (.bl (isBl d b))
  | _ => none
noncomputable def dNotB (d e : D) : Option D := match e with
  | .bl b => some (.bl (!isBl d b))
  | _ => none
noncomputable def dNeg : D → Option D
  | .int i => some (.int (-i))
  | _ => none
theorem me_neg (h : ME K O t fa) : ME K O (tUn (rU fun i => .int (-i)) t) (mOp1 dNeg fa) := fun Z σ H R ρ d ρ' Q S e k => by
  obtain ⟨x, ρ1, e1, e⟩ := mBind_some e
  obtain ⟨e2, rfl⟩ := mLift_some e
  refine h Z σ H R ρ x _ _ S e1 fun v H1 R1 S1 st1 r1 => ?_
  (first | split at e2 | (unfold dNeg at e2; split at e2))
  · rename_i i
    obtain rfl := r1.isA rfl
    cases e2
    exact ⟨i, rfl, k _ H1 R1 S1 st1 (.int _)⟩
  · cases e2
theorem Rps.empty {R : Hp} {xs : List V} {ds : List D} (r : Rps K R xs ds) : xs.isEmpty = ds.isEmpty := by cases r <;> rfl
noncomputable def dAny : D → Option D
  | .lst xs => (boolsD xs).map fun bs => .bl (bs.any id)
  | _ => none
noncomputable def sExt (i : Nat) (fn : Rho → Option (List D × Rho)) : Rho → Option Out := fun ρ => if isL ρ i = true then (match fn ρ with
  | none => none
  | some (ys, ρ1) => match ρ1[i]? with
    | some (some (.lst xs)) => if xs.length + ys.length ≤ sizeLine then some (.nx (ρ1.set i (some (.lst (xs ++ ys))))) else none
    | _ => none) else none
theorem ms_ext {i : Nat} (hi : i ∈ O) (ha : MN c.K O ta fn) (hs : subO c O O' = true) : MS c O O' (tDrop (tBM c.K "list" rExtend (tVar i) (tCons ta tNil))) (sExt i fn) := fun Z E σ H R ρ o hP S e k => by
  unfold sExt at e
  split at e
  case isFalse => cases e
  rename_i hL
  cases e1 : fn ρ with
  | none => rw [e1] at e; cases e
  | some p =>
    obtain ⟨ys, ρ1⟩ := p
    rw [e1] at e
    dsimp only at e
    obtain ⟨l, vs, ds, h1, h2, h3, h4, h5⟩ := S.own i hi
    obtain ⟨us, _, rfl, rfl, _⟩ := isL_ob hL h1 h5
    refine ⟨.ref l, h2, .inl ⟨rfl, us, SqL.of h3⟩, ha Z σ H R ρ ys ρ1 _ S e1 fun b zs H1 R1 S1 st1 b0 bH bR r1 => ?_⟩
    obtain ⟨l', vs', ds', g1, g2, g3, g4, g5⟩ := S1.own i hi
    rw [h2] at g2
    cases g2
    rw [g1] at e
    cases g5 with
    | dct _ => cases e
    | dit _ => cases e
    | lst g5 =>
    rename_i vs' ds'
    dsimp only at e
    split at e
    · rename_i hz
      cases e
      refine ⟨l, b, vs', zs, rfl, rfl, g3, bH, by rw [g5.length, r1.length]; exact hz, ?_⟩
      obtain ⟨S2, s2⟩ := (S1.write hi h2 (.lst (g5.append r1))).sub' hP hs
      exact k σ _ _ S2 (st1.r.trans s2)
    · cases e
noncomputable def mRep (fn : Rho → Option (List D × Rho)) (fb : Rho → Option (D × Rho)) : Rho → Option (List D × Rho) := mBind fn fun xs => mBind fb fun y => mLift (match y with
  | .int k => if -(2 ^ 63) ≤ k ∧ k < 2 ^ 63 ∧ xs.length * k.toNat ≤ sizeLine then some (List.replicate k.toNat xs).flatten else none
  | _ => none)
theorem Rps.rep {R : Hp} {xs : List V} {ds : List D} (r : Rps K R xs ds) : ∀ k : Nat, Rps K R (List.replicate k xs).flatten (List.replicate k ds).flatten
  | 0 => .nil
  | k + 1 => by
    rw [List.replicate_succ, List.replicate_succ, List.flatten_cons, List.flatten_cons]
    exact r.append (Rps.rep r k)
theorem mn_rep (ha : MN K O ta fn) (hb : ME K O tb fb) : MN K O (tOp rRep ta tb) (mRep fn fb) := fun Z σ H R ρ d ρ' Q S e k => by
  obtain ⟨xs, ρ1, e1, e⟩ := mBind_some e
  obtain ⟨y, ρ2, e2, e⟩ := mBind_some e
  obtain ⟨e3, rfl⟩ := mLift_some e
  refine ha Z σ H R ρ xs ρ1 _ S e1 fun l vs H1 R1 S1 st1 h0 hH hR r1 => hb Z σ H1 R1 ρ1 y _ _ S1 e2 fun w H2 R2 S2 st2 r2 => ?_
  (first | split at e3)
  · rename_i j
    obtain rfl := r2.isA rfl
    have e4 : (if -(2 ^ 63) ≤ j ∧ j < 2 ^ 63 ∧ xs.length * j.toNat ≤ sizeLine then some (List.replicate j.toNat xs).flatten else none) = some d := e3
    split at e4
    · rename_i hz
      cases e4
      refine ⟨l, j, vs, rfl, rfl, st2.h l _ hH (fun i hi => S.notnew h0 i hi), hz.1, hz.2.1, by rw [r1.length]; exact hz.2.2, fun p np => ?_⟩
      have y := Ext.hid (o := .lst (List.replicate j.toNat vs).flatten) S2.sub np
      exact k p _ _ _ (S2.ext y) ((st1.trans st2).trans y.stp) ((st1.trans st2).new np) upd_same (S2.out np) ((r1.mono st2.r).rep _)
    · cases e4
  · cases e3
end
end L2
set_option Elab.async false
set_option linter.all false
set_option maxRecDepth 100000
set_option maxHeartbeats 4000000
namespace L2
open PySem PySem.Spec PyProof.Rows
section
variable {M : Model} {A : Around} {E : Value → Shared → Prop} {s : Shared}
theorem inplace_list {a b : Value} {Q : Value → Shared → Prop} (ha : s.TypeIs a "list") (hb : s.TypeIs b "list") (hc : wpAny M A (call (.builtin "list.__iadd__") [a, b]) Q E s) : wpAny M A (inplaceOp .Add a b) Q E s := by
  unfold inplaceOp
  refine wpAny_holding ?_
  have hfi : fillsInplaceSlot (.type "list") "add" (Operator.Add == .Add) = pure false := by
    unfold fillsInplaceSlot
    show (typeLookup (.type "list") (dunderI "add") >>= fun fi => pure (fi.isSome && !isSeqSlot fi)) = pure false
    rw [F.slot_list_iadd.lookup]
    rfl
  have hsi : seqSlot? (.type "list") (dunderI "add") = pure (some (.builtin "list.__iadd__")) := PySem.seqSlot_of F.slot_list_iadd.lookup (by decide +kernel)
  refine wpAny_bind (wpAny_typeOf ha (wpAny_bind (wpAny_of_eq hfi ?_)))
  show wpAny M A (if false = true then _ else _) Q E s
  rw [if_neg Bool.false_ne_true]
  refine wpAny_bind (wpAny_binaryOp1_none (nm := "add") ha hb noFill_list_add ?_)
  refine wpAny_bind (wpAny_of_eq hsi ?_)
  exact wpAny_bind (wpAny_rule hc)
end
noncomputable def ipL : TIp := fun x y H Q => ∃ l b xs zs, x = .ref l ∧ y = .ref b ∧ H l = some (.lst xs) ∧ H b = some (.lst zs) ∧ xs.length + zs.length ≤ sizeLine ∧ Q (.ref l) (upd H l (.lst (xs ++ zs)))
section
variable {X : Cx} {K : PySem.W.Frag}
theorem ip_list : PIp X .Add ipL := by
  intro pins s σ H x y v u Q I r1 r2 h
  obtain ⟨l, b, xs, zs, rfl, rfl, hH, hB, hz, q⟩ := h
  (first | obtain rfl := r1.isA rfl | cases r1)
  (first | obtain rfl := r2.isA rfl | cases r2)
  obtain ⟨z, its, n, r, hl, e⟩ := I.lstM hH
  obtain ⟨z2, its2, n2, r2, hl2, e2⟩ := I.lstM hB
  have hsz : its.toArray.size + its2.toArray.size ≤ sizeLine := by rw [List.size_toArray, List.size_toArray]; omega
  have hlong : ¬ (!its.toArray.isEmpty && Builtin.List.listTooLong (its.toArray.size + its2.toArray.size)) = true := by
    rw [notLongL hsz, Bool.and_false]
    exact Bool.false_ne_true
  refine inplace_list ⟨_, e, rfl⟩ ⟨_, e2, rfl⟩ (call_meets F.slot_list_iadd ⟨_, e, rfl⟩ F.entry_list_iadd (F.args_list_iadd_2 _ _)
    (AutoSeq1.list___iadd___list_list_0 l its.toArray n b its2.toArray n2 hlong (by rw [List.size_toArray]; omega) (by omega)) ⟨e, e2, ?_⟩)
  refine ⟨.ref l, _, I.lset (its' := its ++ its2) hH e (by simp) (r.append r2) ?_, rfl, q⟩
  rw [List.length_append]
  omega
end
section
variable {c : MC} {O O' : List Nat} {te : TE} {fn : Rho → Option (List D × Rho)}
theorem ms_augL {i : Nat} (hi : i ∈ O) (he : MN c.K O te fn) (hs : subO c O O' = true) : MS c O O' (tAug i te ipL) (sExt i fn) := fun Z E σ H R ρ o hP S e k => by
  unfold sExt at e
  split at e
  case isFalse => cases e
  rename_i hL
  cases e1 : fn ρ with
  | none => rw [e1] at e; cases e
  | some p =>
    obtain ⟨ys, ρ1⟩ := p
    rw [e1] at e
    dsimp only at e
    obtain ⟨l, vs, ds, h1, h2, h3, h4, h5⟩ := S.own i hi
    refine ⟨.ref l, h2, he Z σ H R ρ ys ρ1 _ S e1 fun b zs H1 R1 S1 st1 b0 bH bR r1 => ?_⟩
    obtain ⟨l', vs', ds', g1, g2, g3, g4, g5⟩ := S1.own i hi
    rw [h2] at g2
    cases g2
    rw [g1] at e
    cases g5 with
    | dct _ => cases e
    | dit _ => cases e
    | lst g5 =>
    rename_i vs' ds'
    dsimp only at e
    split at e
    · rename_i hz
      cases e
      refine ⟨l, b, vs', zs, rfl, rfl, g3, bH, by rw [g5.length, r1.length]; exact hz, ?_⟩
      obtain ⟨S2, s2⟩ := (S1.write hi h2 (.lst (g5.append r1))).sub' hP hs
      have same : σ.set i (some (.ref l)) = σ := by
        have hlen : i < σ.length := (List.getElem?_eq_some_iff.mp h2).1
        refine List.ext_getElem? fun j => ?_
        by_cases hj : i = j
        · subst hj; rw [List.getElem?_set_self hlen, h2]
        · rw [List.getElem?_set_ne hj]
      show E.nx (σ.set i (some (.ref l))) _
      rw [same]
      exact k σ _ _ S2 (st1.r.trans s2)
    · cases e
end
theorem foldl_size {α : Type} (a : Array α) : ∀ (k : Nat) (acc : Array α), (List.foldl (fun x1 x2 => x1 ++ x2) acc (List.replicate k a)).size = acc.size + k * a.size
  | 0, acc => by simp
  | k + 1, acc => by
    rw [List.replicate_succ, List.foldl_cons, foldl_size a k, Array.size_append, Nat.succ_mul]
    omega
theorem noFill_tuple_mul : fillsNumberSlot (.type "tuple") "mul" = pure false :=
  PySem.fillsNumberSlot_seq (id := "tuple.__mul__") (r := some (.builtin "tuple.__rmul__")) F.slot_tuple_mul.lookup (by decide +kernel) F.slot_tuple_rmul.lookup (by decide +kernel)
theorem repeat_tuple : seqRepeat? (.type "tuple") = pure (some (.builtin "tuple.__mul__")) := by
  unfold seqRepeat?
  rw [PySem.seqSlot_of (T := "tuple") (name := "__mul__") (id := "tuple.__mul__") F.slot_tuple_mul.lookup (by decide +kernel), PySem.seqSlot_of (T := "tuple") (name := "__rmul__") (id := "tuple.__rmul__") F.slot_tuple_rmul.lookup (by decide +kernel)]
  rfl
theorem int_rmul_tuple (a : Int) (t : Tok) (l : Addr) (items : Array Value) (n : Nat) (dd : Option Addr) (sl : Array (Option Value)) :
    Meets (Builtin.«int.__rmul__» ⟨[.int a t, .ref l], []⟩) (fun _ R s => s.heap.get? l = some { cls := .type "tuple", dict := dd, data := .seq items n, slots := sl } ∧ R (.ok (.ret Value.notImplemented)) s) :=
  .of_wp fun prog w A R s h => by obtain ⟨hp, g, d, tk, os⟩ := s; obtain ⟨hl, h⟩ := h; wp_walk; exact ⟨_, rfl, h⟩
theorem tuple_mulW (l : Addr) (items : Array Value) (n : Nat) (dd : Option Addr) (sl : Array (Option Value)) (x : Int) (u : Tok) (h1 : 1 < x) (h2 : x ≤ 1000) (he : items.isEmpty = false) (hz : items.size ≤ 1000) :
    Meets (Builtin.«tuple.__mul__» ⟨[.ref l, .int x u], []⟩) (fun _ R s => s.heap.get? l = some { cls := .type "tuple", dict := dd, data := .seq items n, slots := sl } ∧ R (.ok (.ret (Value.ref s.heap.objs.size))) { s with heap := s.heap.push { cls := Value.type "tuple", data := Data.seq (List.foldl (fun x1 x2 => x1 ++ x2) #[] (List.replicate x.toNat items)) }, toks := s.toks }) :=
  .of_wp fun prog w A R s h => by
    obtain ⟨hp, g, d, tk, os⟩ := s; obtain ⟨hl, h⟩ := h
    have f1 := AutoSeq1.idx_int
    have f2 := AutoSeq1.sub_tuple_tuple
    have hc0 : ¬ (decide (x < -2 ^ 63) || decide (x ≥ 2 ^ 63)) = true := by
      simp only [Bool.or_eq_true, decide_eq_true_eq]
      omega
    have hc1 : ¬ (items.isEmpty || x == 1) = true := by
      rw [he, Bool.false_or]
      simp
      omega
    have hc2 : ¬ (decide (x ≤ 0) || items.isEmpty) = true := by
      rw [he, Bool.or_false]
      simp
      omega
    have hm : (items.size : Int) * x ≤ 1000 * 1000 := Int.le_trans (Int.mul_le_mul_of_nonneg_left h2 (Int.natCast_nonneg _)) (Int.mul_le_mul_of_nonneg_right (by omega) (by decide))
    have hc3 : ¬ (items.size : Int) * x > (2 ^ 63 - 1) / 8 := by omega
    have hc4 : ¬ Builtin.Tuple.tupleTooMany ((items.size : Int) * x) = true := by
      unfold Builtin.Tuple.tupleTooMany
      have : (sizeLine : Int) ≥ 1000 * 1000 := by decide
      simp
      omega
    wp_walk using wpAny_loadPart' hl
    rw [if_neg hc0]
    wp_walk using wpAny_loadPart' hl
    rw [if_neg hc1]
    rw [if_neg hc2]
    rw [if_neg hc3]
    rw [if_neg hc4]
    wp_walk using wpAny_loadPart' hl
    have hc5 : ¬ (List.foldl (fun x1 x2 => x1 ++ x2) #[] (List.replicate x.toNat items)).size > sizeLine := by
      rw [foldl_size]
      have h7 : x.toNat * items.size ≤ 1000 * 1000 := Nat.mul_le_mul (by omega) hz
      have h8 : (sizeLine : Nat) ≥ 1000 * 1000 := by decide
      simp
      omega
    rw [if_neg hc5]
    wp_walk using wpAny_loadPart' hl
    exact ⟨_, rfl, h⟩
noncomputable def rRepT (K : PySem.W.Frag) : R2 := fun x y H Q => ∃ l k xs, x = .ref l ∧ y = .int k ∧ SqT K H l xs ∧ 1 < k ∧ k ≤ 1000 ∧ xs ≠ [] ∧ xs.length ≤ 1000 ∧ ∀ p, H p = none → Q (.ref p) (upd H p (.tup (List.replicate k.toNat xs).flatten))
section
variable {X : Cx} {K : PySem.W.Frag}
theorem op_repT (hK : X.K = K) : OpR X (binaryOp .Mult) (rRepT K) := by
  subst hK
  intro pins s σ H x y v u Q I rx ry h
  obtain ⟨l, k, xs, rfl, rfl, hH, h1, h2, hx, hz, q⟩ := h
  (first | obtain rfl := rx.isA rfl | cases rx)
  obtain ⟨t, rfl⟩ := ry
  obtain ⟨its, r1, p1, _⟩ := I.tuple hH
  obtain ⟨⟨cls, dd, data, sl⟩, ho, hc, n, hd⟩ := id p1
  simp only at hc hd
  subst hc hd
  have hlen := r1.length
  have he : its.toArray.isEmpty = false := by
    cases its with
    | nil => exact absurd (r1.nil_iff.mp rfl) hx
    | cons a r => rfl
  have f0 : List.foldl (fun x1 x2 => x1 ++ x2) #[] (List.replicate k.toNat its.toArray) = (List.replicate k.toNat its).flatten.toArray := by
    have := foldl_rep its k.toNat []
    rw [List.nil_append] at this
    exact this
  refine wpAny_binaryOp_repeat_ref (T := "tuple") (U := "int") (by decide) ⟨_, ho, rfl⟩ (fun s' => typeIs_int s' k t) noFill_tuple_mul F.fills_int_mul F.slot_int_rmul repeat_tuple F.slot_int_index.lookup
    (call_meets F.slot_int_rmul (typeIs_int s k t) F.entry_int_rmul (F.args_int_rmul_2 _ _) (int_rmul_tuple k t l its.toArray n dd sl)
      ⟨ho, rfl, ⟨_, ho, rfl⟩, call_meets F.slot_tuple_mul ⟨_, ho, rfl⟩ F.entry_tuple_mul (F.args_tuple_mul_2 _ _) (tuple_mulW l its.toArray n dd sl k t h1 h2 he (by rw [List.size_toArray]; omega)) ⟨ho, ?_⟩⟩)
  rw [f0]
  have hsz : (List.replicate k.toNat xs).flatten.length ≤ sizeLine := by
    rw [len_rep]
    exact Nat.le_trans (Nat.mul_le_mul (by omega : k.toNat ≤ 1000) hz) (by decide)
  refine ⟨.ref s.heap.objs.size, _, I.laid (t' := s.toks) (o := .tup (List.replicate k.toNat xs).flatten) (fun b ob q => Heap.get?_push_of_some _ q) (Nat.le_refl _) ?_, rfl, q _ (I.hok.fresh (Nat.le_refl _))⟩
  exact ⟨hsz, _, r1.rep k.toNat, TupN.new _ _⟩
noncomputable def strRep (z : Str) (k : Int) : Str := if (k == 1 || z.length == 0) = true then z else ⟨List.foldl (fun x1 x2 => x1 ++ x2) #[] (List.replicate k.toNat z.cps)⟩
theorem op_repStr : OpR X (binaryOp .Mult) (fun x y H Q => ∃ z k, x = .str z ∧ y = .int k ∧ 0 < k ∧ k ≤ 1000 ∧ 0 < z.length ∧ z.length ≤ 1000 ∧ Q (.str (strRep z k)) H) := by
  intro pins s σ H x y v u Q I rx ry h
  obtain ⟨z, k, rfl, rfl, h1, h2, h3, h4, q⟩ := h
  obtain ⟨t, rfl⟩ := rx
  obtain ⟨t', rfl⟩ := ry
  have hm : z.length * k.toNat ≤ 1000 * 1000 := Nat.mul_le_mul h4 (by omega)
  refine PySem.P.mul_str (by simp; omega) (fun _ _ => ?_) (fun _ _ => ?_) ?_
  · intro hgt
    have h5 : ((2 : Int) ^ 63 - 1) / 1000 ≤ (2 ^ 63 - 1) / k := by
      refine Int.le_ediv_of_mul_le h1 ?_
      have : ((2 : Int) ^ 63 - 1) / 1000 * k ≤ (2 ^ 63 - 1) / 1000 * 1000 := Int.mul_le_mul_of_nonneg_left h2 (by decide)
      exact Int.le_trans this (by decide)
    have h6 : (1000 : Int) < (2 ^ 63 - 1) / 1000 := by decide
    omega
  · unfold Builtin.Str.tooLong
    have : (sizeLine : Nat) ≥ 1000 * 1000 := by decide
    simp
    omega
  · rw [if_neg (by omega)]
    unfold strRep at q
    split
    · rename_i hh
      rw [if_pos hh] at q
      exact ⟨.str z, H, I, ⟨t, rfl⟩, q⟩
    · rename_i hh
      rw [if_neg hh] at q
      refine ⟨?_, ⟨.str _, H, I.tok _, ⟨_, rfl⟩, q⟩⟩
      show (List.foldl (fun x1 x2 => x1 ++ x2) #[] (List.replicate k.toNat z.cps)).size ≤ sizeLine
      rw [foldl_size]
      have h7 : k.toNat * z.cps.size ≤ 1000 * 1000 := Nat.mul_le_mul (by omega) h4
      have h8 : (sizeLine : Nat) ≥ 1000 * 1000 := by decide
      simp
      omega
noncomputable def CMul2 (i j : Int) : Prop := CMul i j ∨ (i.natAbs < 2 ^ 250 ∧ j.natAbs < 2 ^ 250)
theorem bits250 {k : Int} (h : k.natAbs < 2 ^ 250) : Builtin.Int.intBits k ≤ 250 := by
  unfold Builtin.Int.intBits
  split
  · exact Nat.zero_le _
  · rename_i h0
    have hk : k.natAbs ≠ 0 := fun z => h0 (by simpa using z)
    have : k.natAbs.log2 < 250 := (Nat.log2_lt hk).mpr h
    omega
theorem CMul2.ok {i j : Int} (h : CMul2 i j) : IntMulOk i j := by
  rcases h with h | ⟨h1, h2⟩
  · exact h.ok
  · exact IntMulOk.of_le (bits250 h1) (bits250 h2) (by decide)
theorem op_mul2 : OpR X (binaryOp .Mult) (rI CMul2 fun i j => .int (i * j)) := opI fun _ _ _ _ _ _ _ hc q => mul_int q hc.ok
noncomputable def bigM (i : Int) : Bool := decide (i.natAbs < 2 ^ 250)
noncomputable def okMul2 (i j : Int) : Bool := okMul i j || (bigM i && bigM j)
theorem okMul2_of {i j : Int} (h : okMul2 i j = true) : CMul2 i j := by
  unfold okMul2 okMul bigM at h
  simp only [Bool.or_eq_true, Bool.and_eq_true, decide_eq_true_eq] at h
  rcases h with h | h
  · exact .inl h
  · exact .inr h
noncomputable def rMulG (K : PySem.W.Frag) : R2 := fun x y H Q => rI CMul2 (fun i j => .int (i * j)) x y H Q ∨ rRepT K x y H Q ∨ ∃ z k, x = .str z ∧ y = .int k ∧ 0 < k ∧ k ≤ 1000 ∧ 0 < z.length ∧ z.length ≤ 1000 ∧ Q (.str (strRep z k)) H
theorem op_mulG (hK : X.K = K) : OpR X (binaryOp .Mult) (rMulG K) := op_mul2.or ((op_repT hK).or op_repStr)
end
noncomputable def dMulG : D → D → Option D
  | .int i, .int j => if okMul2 i j = true then some (.int (i * j)) else none
  | .tup xs, .int k => if 1 < k ∧ k ≤ 1000 ∧ xs ≠ [] ∧ xs.length ≤ 1000 then some (.tup (List.replicate k.toNat xs).flatten) else none
  | .str z, .int k => if 0 < k ∧ k ≤ 1000 ∧ 0 < z.length ∧ z.length ≤ 1000 then some (.str (strRep z k)) else none
  | _, _ => none
theorem og_mulG {K : PySem.W.Frag} : OpG K (rMulG K) dMulG := fun H R x y d e u Q s rx ry q k => by
  unfold dMulG at q
  split at q
  · rename_i i j
    split at q
    · rename_i h
      (first | obtain rfl := q.isA rfl | cases q)
      (first | obtain rfl := rx.isA rfl | cases rx)
      (first | obtain rfl := ry.isA rfl | cases ry)
      exact .inl ⟨i, j, rfl, rfl, okMul2_of h, k _ H R (Ext.refl s) (.int _)⟩
    · (first | obtain rfl := q.isA rfl | cases q)
  · rename_i ds j
    split at q
    · rename_i hc
      (first | obtain rfl := q.isA rfl | cases q)
      (first | obtain rfl := ry.isA rfl | cases ry)
      obtain ⟨a, xs, rfl, h, r⟩ := rx.isT
      refine .inr (.inl ⟨a, j, xs, rfl, rfl, SqT.of (s _ _ h), hc.1, hc.2.1, fun z => ?_, by rw [r.length]; exact hc.2.2.2, fun p np => ?_⟩)
      · subst z
        (first | obtain rfl := r.isA rfl | cases r)
        exact hc.2.2.1 rfl
      · have y := Ext.new (o := .tup (List.replicate j.toNat xs).flatten) s np
        exact k _ _ _ y (.tup upd_same ((r.rep _).mono y.r))
    · (first | obtain rfl := q.isA rfl | cases q)
  · rename_i z j
    split at q
    · rename_i hc
      (first | obtain rfl := q.isA rfl | cases q)
      (first | obtain rfl := ry.isA rfl | cases ry)
      (first | obtain rfl := rx.isA rfl | cases rx)
      exact .inr (.inr ⟨z, j, rfl, rfl, hc.1, hc.2.1, hc.2.2.1, hc.2.2.2, k _ H R (Ext.refl s) (.str _)⟩)
    · (first | obtain rfl := q.isA rfl | cases q)
  · (first | obtain rfl := q.isA rfl | cases q)
section
variable {X : Cx} {K : PySem.W.Frag} {O : List Nat} {pos : Pos}
end
noncomputable def strsD : List D → Option (List Str)
  | [] => some []
  | .str i :: r => (strsD r).map (i :: ·)
  | _ => none
noncomputable def dJoin (x y : D) : Option D := match x, y with
  | .str z, .lst ds => match strsD ds with
    | some ns => if (ns.map (·.length)).sum + ns.length * z.length ≤ 16777216 then some (.str (Txt.join z ns)) else none
    | none => none
  | _, _ => none
end L2
set_option Elab.async false
set_option linter.all false
set_option maxRecDepth 100000
set_option maxHeartbeats 4000000
namespace L2
open PySem PySem.Spec PyProof.Rows
inductive TyX (K : PySem.W.Frag) (H : Hp) : V → Value → Prop where
  | exc {a C : Addr} (h : H a = some (excO a (.ref C))) (k : ExcK K C) : TyX K H (.ref a) (.ref C)
  | non : TyX K H .non (.type "NoneType")
noncomputable def clsVs : List V → Option (List Value)
  | [] => some []
  | v :: vs => match clsV v, clsVs vs with
    | some c, some cs => some (c :: cs)
    | _, _ => none
noncomputable def rIsX (K : PySem.W.Frag) : List V → Hp → VK → Prop := fun xs H Q => ∃ x y t b, xs = [x, y] ∧ TyX K H x t ∧ Q (.bl b) H ∧
  ((∃ c, clsV y = some c ∧ PySem.W.kitOne K t c = some b) ∨ ∃ p ys cs, y = .ref p ∧ H p = some (.tup ys) ∧ clsVs ys = some cs ∧ PySem.W.kitAny K t cs = some b)
theorem clsV_val {y : V} {c w : Value} (h : clsV y = some c) (r : RelV y w) : w = c := by
  cases y with
  | ref a => exact (show w = Value.ref a from r).trans (Option.some.inj h)
  | ty n => exact (show w = Value.type n from r).trans (Option.some.inj h)
  | _ => cases h
theorem clsVs_vals : ∀ {ys : List V} {cs us : List Value}, clsVs ys = some cs → Vals ys us → us = cs
  | [], cs, us, h, r => by cases r; cases h; rfl
  | y :: ys, cs, us, h, r => by
    cases r with
    | cons r1 r2 =>
      unfold clsVs at h
      cases h1 : clsV y with
      | none => rw [h1] at h; cases h
      | some c =>
        rw [h1] at h
        cases h2 : clsVs ys with
        | none => rw [h2] at h; cases h
        | some ds =>
          rw [h2] at h
          (first | obtain rfl := h.isA rfl | cases h)
          rw [clsV_val h1 r1, clsVs_vals h2 r2]
section
variable {X : Cx} {K : PySem.W.Frag} {O : List Nat} {t : TE} {fa : Rho → Option (D × Rho)}
theorem call_isX (hK : X.K = K) : CallR X (.builtin "isinstance") (rIsX K) := by
  subst hK
  intro pins s σ H xs us Q I r h
  obtain ⟨x, y, t, b, rfl, ty, q, h⟩ := h
  obtain ⟨u, w, rfl, ru, rw'⟩ := vals2 r
  rcases h with ⟨c, hc, e⟩ | ⟨p, ys, cs, rfl, hp, hcs, e⟩
  · have ew := clsV_val hc rw'
    subst ew
    cases ty with
    | exc h k => cases ru; exact isinst_exc I h k e fun tk => ⟨.bl b, H, I.tok tk, rfl, q⟩
    | non => cases ru; exact PySem.W.kia_one PySem.W.kitx_none I.kIn True.intro e (fun z => nomatch z) fun tk => ⟨.bl b, H, I.tok tk, rfl, q⟩
  · cases rw'
    obtain ⟨_, its, rv, ob, e1, ⟨c1, n1, d1⟩, _⟩ := (show ObjOk X.prog X.w H s.heap p (.tup ys) from I.hok p _ hp)
    have ei := clsVs_vals hcs rv
    subst ei
    obtain ⟨oc, od, da, sl⟩ := ob
    simp only at c1 d1
    subst c1 d1
    cases ty with
    | exc h k => cases ru; exact isinst_excT I h k e1 e fun tk => ⟨.bl b, H, I.tok tk, rfl, q⟩
    | non => cases ru; exact PySem.W.kia_tup PySem.W.kitx_none I.kIn True.intro e1 e (fun z => nomatch z) fun tk => ⟨.bl b, H, I.tok tk, rfl, q⟩
noncomputable def dIsX (sub : Str → Option Bool) : D → Option D
  | .exc x => (sub x).map .bl
  | .non => some (.bl false)
  | _ => none
structure KitE (K : PySem.W.Frag) (c : Value) (sub : Str → Option Bool) : Prop where
  exc : ∀ x C b, PySem.W.nsIn K mainGlobals x = some (some (.ref C)) → sub x = some b → PySem.W.kitOne K (.ref C) c = some b
  non : PySem.W.kitOne K (.type "NoneType") c = some false
structure KitEs (K : PySem.W.Frag) (cs : List Value) (sub : Str → Option Bool) : Prop where
  exc : ∀ x C b, PySem.W.nsIn K mainGlobals x = some (some (.ref C)) → sub x = some b → PySem.W.kitAny K (.ref C) cs = some b
  non : PySem.W.kitAny K (.type "NoneType") cs = some false
theorem me_isX {y : V} {c : Value} {sub : Str → Option Bool} (hc : clsV y = some c) (hk : KitE K c sub) (ha : ME K O t fa) : ME K O (tCB (rIsX K) (tCons t (tCons (tC y) tNil))) (mOp1 (dIsX sub) fa) := fun Z σ H R ρ d ρ' Q S e k => by
  obtain ⟨x, ρ1, e1, e⟩ := mBind_some e
  obtain ⟨e2, rfl⟩ := mLift_some e
  refine ha Z σ H R ρ x _ _ S e1 fun v H1 R1 S1 st1 r1 => ?_
  cases r1 with
  | exc n ke h =>
    rename_i a C z
    cases e3 : sub z with
    | none => rw [dIsX, e3] at e2; cases e2
    | some b =>
      rw [dIsX, e3] at e2
      cases e2
      exact ⟨_, y, _, b, rfl, .exc (S1.sub _ _ h) ke, k _ H1 R1 S1 st1 (.bl b), .inl ⟨c, hc, hk.exc _ _ _ n e3⟩⟩
  | non =>
    cases e2
    exact ⟨_, y, _, false, rfl, .non, k _ H1 R1 S1 st1 (.bl false), .inl ⟨c, hc, hk.non⟩⟩
  | _ => cases e2
end
end L2
set_option Elab.async false
set_option linter.all false
set_option maxRecDepth 100000
set_option maxHeartbeats 4000000
namespace L2
open PySem PySem.Spec PyProof.Rows
noncomputable abbrev Xr := Rho → Option (Str × Rho)
noncomputable def ExE (K : PySem.W.Frag) (E : XK) (C : Str) (H : Hp) : Prop := ∀ v, PySem.W.nsIn K mainGlobals C = some (some v) → E v none H
section
variable (K : PySem.W.Frag) (O : List Nat)
noncomputable def MX (t : TE) (E : XK) (fx : Xr) : Prop := ∀ (Z : Anc) (σ : St) (H R : Hp) (ρ : Rho) (C : Str) (ρ' : Rho) (Q : VK), StR K Z O σ H R ρ → fx ρ = some (C, ρ') → (∀ H' R', StR K Z O σ H' R' ρ' → Stp O σ H R H' R' → ExE K E C H') → t σ H Q
noncomputable def MTX (t : TT) (E : XK) (fx : Xr) : Prop := ∀ (Z : Anc) (σ : St) (H R : Hp) (ρ : Rho) (C : Str) (ρ' : Rho) (Q : Bool → Hp → Prop), StR K Z O σ H R ρ → fx ρ = some (C, ρ') → (∀ H' R', StR K Z O σ H' R' ρ' → Stp O σ H R H' R' → ExE K E C H') → t σ H Q
noncomputable def MAX (t : TA) (E : XK) (fx : Xr) : Prop := ∀ (Z : Anc) (σ : St) (H R : Hp) (ρ : Rho) (C : Str) (ρ' : Rho) (Q : List V → Hp → Prop), StR K Z O σ H R ρ → fx ρ = some (C, ρ') → (∀ H' R', StR K Z O σ H' R' ρ' → Stp O σ H R H' R' → ExE K E C H') → t σ H Q
noncomputable def MIX (t : TI) (E : XK) (fx : Xr) : Prop := ∀ (Z : Anc) (σ : St) (H R : Hp) (ρ : Rho) (C : Str) (ρ' : Rho) (Q : It → Hp → Prop), StR K Z O σ H R ρ → fx ρ = some (C, ρ') → (∀ H' R', StR K Z O σ H' R' ρ' → Stp O σ H R H' R' → ExE K E C H') → t σ H Q
end
noncomputable def xNo : Xr := fun _ => none
noncomputable def xThen {α : Type} (fa : Rho → Option (α × Rho)) (xa xb : Xr) : Xr := fun ρ => match xa ρ with
  | some r => some r
  | none => match fa ρ with
    | some (_, ρ1) => xb ρ1
    | none => none
theorem xThen_some {α : Type} {fa : Rho → Option (α × Rho)} {xa xb : Xr} {ρ : Rho} {r : Str × Rho} (h : xThen fa xa xb ρ = some r) : xa ρ = some r ∨ ∃ a ρ1, fa ρ = some (a, ρ1) ∧ xb ρ1 = some r := by
  unfold xThen at h
  cases e : xa ρ with
  | some q => rw [e] at h; cases h; exact .inl rfl
  | none =>
    rw [e] at h
    cases e2 : fa ρ with
    | none => rw [e2] at h; cases h
    | some p => rw [e2] at h; exact .inr ⟨p.1, p.2, rfl, h⟩
section
variable {K : PySem.W.Frag} {O : List Nat} {E : XK} {t ta tb : TE} {tr : TA} {tt : TT} {fa fb : Rho → Option (D × Rho)} {fs : Rho → Option (List D × Rho)} {xa xb xs : Xr}
theorem mtx_no : MTX K O tt E xNo := fun _ _ _ _ _ _ _ _ _ e => by cases e
theorem max_no : MAX K O tr E xNo := fun _ _ _ _ _ _ _ _ _ e => by cases e
theorem max_cons (ha : ME K O ta fa) (ka : MX K O ta E xa) (kr : MAX K O tr E xs) : MAX K O (tCons ta tr) E (xThen fa xa xs) := fun Z σ H R ρ C ρ' Q S e k => by
  rcases xThen_some e with e | ⟨a, ρ1, e1, e2⟩
  · exact ka Z σ H R ρ C ρ' _ S e k
  · exact ha Z σ H R ρ a ρ1 _ S e1 fun v H1 R1 S1 st1 r1 => kr Z σ H1 R1 ρ1 C ρ' _ S1 e2 fun H2 R2 S2 st2 => k H2 R2 S2 (st1.trans st2)
noncomputable def spPX (K : PySem.W.Frag) (fr : Bool) (n : Nat) (f : List D → Option D) (fx : List D → Option Str) : Sp := fun vs H Q E => spP K fr n f vs H Q E ∨
  (vs.length = n ∧ ∃ R ds C, (∀ a o, R a = some o → H a = some o) ∧ Rps K R vs ds ∧ fx ds = some C ∧ ∀ H' R', Ext H R H' R' → ExE K E C H')
theorem spPX_len {fr : Bool} {n : Nat} {f : List D → Option D} {fx : List D → Option Str} {vs : List V} {H : Hp} {Q : VK} (h : spPX K fr n f fx vs H Q E) : vs.length = n := by
  rcases h with h | h
  · exact h.1
  · exact h.1
noncomputable def xCall (fx : List D → Option Str) (fs : Rho → Option (List D × Rho)) (xs : Xr) : Xr := fun ρ => match xs ρ with
  | some r => some r
  | none => match fs ρ with
    | some (ds, ρ1) => (fx ds).map fun C => (C, ρ1)
    | none => none
noncomputable def runsX (n : Nat) (fx : List D → Option Str) : Prop := ∀ ds C, fx ds = some C → ds.length = n
theorem mx_call {n : Nat} {fr : Bool} {f : List D → Option D} {fx : List D → Option Str} (hf : runsX n fx) (h : MA K O tr fs) (hx : MAX K O tr E xs) : MX K O (tCall (spPX K fr n f fx) [] E tr) E (xCall fx fs xs) := fun Z σ H R ρ C ρ' Q S e k => by
  unfold xCall at e
  cases e1 : xs ρ with
  | some r => rw [e1] at e; cases e; exact hx Z σ H R ρ C ρ' _ S e1 k
  | none =>
    rw [e1] at e
    cases e2 : fs ρ with
    | none => rw [e2] at e; cases e
    | some p =>
      obtain ⟨ds, ρ1⟩ := p
      rw [e2] at e
      dsimp only at e
      cases e3 : fx ds with
      | none => rw [e3] at e; cases e
      | some C1 =>
        rw [e3] at e
        cases e
        refine h Z σ H R ρ ds _ _ S e2 fun vs H1 R1 S1 st1 r1 => ?_
        show spPX K fr n f fx (vs ++ []) H1 Q E
        rw [List.append_nil]
        exact .inr ⟨by rw [r1.length]; exact hf ds C e3, R1, ds, C, S1.sub, r1, e3, fun H2 R2 x => k H2 R2 (S1.ext x) (st1.trans x.stp)⟩
theorem me_callX {n : Nat} {f : List D → Option D} {fx : List D → Option Str} (hf : runsN n f) (h : MA K O tr fs) : ME K O (tCall (spPX K false n f fx) [] E tr) (mCall f fs) := fun Z σ H R ρ d ρ' Q S e k => by
  obtain ⟨ds, ρ1, e1, e⟩ := mBind_some e
  obtain ⟨e2, rfl⟩ := mLift_some e
  refine h Z σ H R ρ ds _ _ S e1 fun vs H1 R1 S1 st1 r1 => ?_
  show spPX K false n f fx (vs ++ []) H1 Q E
  rw [List.append_nil]
  exact .inl ⟨by rw [r1.length]; exact hf ds d e2, R1, ds, d, S1.sub, r1, e2, fun v H2 R2 x q => k v H2 R2 (S1.ext x) (st1.trans x.stp) q⟩
end
noncomputable def MSX (c : MC) (O : List Nat) (t : TS) (E : XK) (fx : Xr) : Prop := ∀ (Z : Anc) (D : Ends) (σ : St) (H R : Hp) (ρ : Rho) (C : Str) (ρ' : Rho), Z.P = c.P → StR c.K Z O σ H R ρ → fx ρ = some (C, ρ') → (∀ O' σ' H' R', StR c.K Z O' σ' H' R' ρ' → ExE c.K E C H') → t D σ H
noncomputable def MSXa (c : MC) (O : List Nat) (t : TS) (E : XK) (fx : Xr) : Prop := ∀ (Z : Anc) (D : Ends) (σ : St) (H R : Hp) (ρ : Rho) (C : Str) (ρ' : Rho), Z.P = c.P → StR c.K Z O σ H R ρ → fx ρ = some (C, ρ') → (∀ H' R', StR c.K Z O σ H' R' ρ' → Same R R' → ExE c.K E C H') → t D σ H
theorem MSXa.g {c : MC} {O : List Nat} {t : TS} {E : XK} {fx : Xr} (h : MSXa c O t E fx) : MSX c O t E fx := fun Z D σ H R ρ C ρ' hP S e k => h Z D σ H R ρ C ρ' hP S e fun H' R' S' _ => k O σ H' R' S'
section
variable {c : MC} {O O' O1 : List Nat} {t u : TS} {te : TE} {tt : TT} {tr : TA} {g : TG} {f h : Rho → Option Out} {fe : Rho → Option (D × Rho)} {fs : Rho → Option (List D × Rho)} {ft : Rho → Option (Bool × Rho)} {E : XK} {xe xt fx hx : Xr}
theorem msx_no : MSX c O t E xNo := fun _ _ _ _ _ _ _ _ _ _ e => by cases e
theorem msxa_expr (h : MX c.K O te E xe) : MSXa c O (tDrop te) E xe := fun Z D σ H R ρ C ρ' hP S e k => h Z σ H R ρ C ρ' _ S e fun H' R' S' st => k H' R' S' st.r
theorem msxa_asg (h : MX c.K O te E xe) : MSXa c O (tAsg te g) E xe := fun Z D σ H R ρ C ρ' hP S e k => h Z σ H R ρ C ρ' _ S e fun H' R' S' st => k H' R' S' st.r
noncomputable def xRaise (C : Str) (fs : Rho → Option (List D × Rho)) : Xr := fun ρ => match fs ρ with
  | some (ds, ρ1) => if ds.length ≤ sizeLine then some (C, ρ1) else none
  | none => none
theorem msxa_raise {x : Str} {a : Addr} (hx : PySem.W.nsIn c.K mainGlobals x = some (some (.ref a))) (h : MA c.K O tr fs) : MSXa c O (tRaise a E tr) E (xRaise x fs) := fun Z D σ H R ρ C ρ' hP S e k => by
  unfold xRaise at e
  cases e1 : fs ρ with
  | none => rw [e1] at e; cases e
  | some p =>
    obtain ⟨ds, ρ1⟩ := p
    rw [e1] at e
    dsimp only at e
    split at e
    · rename_i hl
      cases e
      refine h Z σ H R ρ ds _ _ S e1 fun vs H1 R1 S1 st1 r1 => ⟨by rw [r1.length]; exact hl, k H1 R1 S1 st1.r _ hx⟩
    · cases e
theorem ms_raise {a : Addr} : MS c O O' (tRaise a E tr) (fun _ => none) := fun _ _ _ _ _ _ _ _ _ e => by cases e
noncomputable def xIf (ft : Rho → Option (Bool × Rho)) (xt fx hx : Xr) : Xr := fun ρ => match xt ρ with
  | some r => some r
  | none => match ft ρ with
    | some (true, ρ1) => fx ρ1
    | some (false, ρ1) => hx ρ1
    | none => none
theorem xIf_some {ρ : Rho} {r : Str × Rho} (e : xIf ft xt fx hx ρ = some r) : xt ρ = some r ∨ (∃ ρ1, ft ρ = some (true, ρ1) ∧ fx ρ1 = some r) ∨ ∃ ρ1, ft ρ = some (false, ρ1) ∧ hx ρ1 = some r := by
  unfold xIf at e
  cases e1 : xt ρ with
  | some q => rw [e1] at e; cases e; exact .inl rfl
  | none =>
    rw [e1] at e
    cases e2 : ft ρ with
    | none => rw [e2] at e; cases e
    | some p =>
      obtain ⟨b, ρ1⟩ := p
      rw [e2] at e
      cases b with
      | true => exact .inr (.inl ⟨ρ1, rfl, e⟩)
      | false => exact .inr (.inr ⟨ρ1, rfl, e⟩)
theorem msx_if (ht : MT c.K O tt ft) (kt : MTX c.K O tt E xt) (k1 : MSX c O t E fx) (k2 : MSX c O u E hx) : MSX c O (tIfS tt t u) E (xIf ft xt fx hx) := fun Z D σ H R ρ C ρ' hP S e k => by
  rcases xIf_some e with e | ⟨ρ1, e1, e2⟩ | ⟨ρ1, e1, e2⟩
  · exact kt Z σ H R ρ C ρ' _ S e fun H' R' S' st => k O σ H' R' S'
  · exact ht Z σ H R ρ true ρ1 _ S e1 fun H1 R1 S1 st1 => iteT (k1 Z D σ H1 R1 ρ1 C ρ' hP S1 e2 k)
  · exact ht Z σ H R ρ false ρ1 _ S e1 fun H1 R1 S1 st1 => iteF (k2 Z D σ H1 R1 ρ1 C ρ' hP S1 e2 k)
noncomputable def xSeq (f : Rho → Option Out) (fx hx : Xr) : Xr := fun ρ => match fx ρ with
  | some r => some r
  | none => match f ρ with
    | some (.nx ρ1) => hx ρ1
    | _ => none
theorem msx_seq (h1 : MS c O O1 t f) (k1 : MSX c O t E fx) (k2 : MSX c O1 u E hx) : MSX c O (tSeq t u) E (xSeq f fx hx) := fun Z D σ H R ρ C ρ' hP S e k => by
  unfold xSeq at e
  cases e1 : fx ρ with
  | some q => rw [e1] at e; cases e; exact k1 Z _ σ H R ρ C ρ' hP S e1 k
  | none =>
    rw [e1] at e
    cases e2 : f ρ with
    | none => rw [e2] at e; cases e
    | some o =>
      rw [e2] at e
      cases o with
      | nx ρ1 => exact h1 Z _ σ H R ρ _ hP S e2 fun σ1 H1 R1 S1 _ => k2 Z D σ1 H1 R1 ρ1 C ρ' hP S1 e k
      | _ => cases e
end
noncomputable def outLess (i : Nat) : Out → Out
  | .nx ρ => .nx (ρ.set i none)
  | .bk ρ => .bk (ρ.set i none)
  | .ct ρ => .ct (ρ.set i none)
  | .rt d ρ => .rt d (ρ.set i none)
noncomputable def sTryAs (i : Nat) (sub : Str → Bool) (fb : Rho → Option Out) (xb : Xr) (fh : Rho → Option Out) : Rho → Option Out := fun ρ => match xb ρ with
  | some (C, ρ1) => if sub C = true then (fh (ρ1.set i (some (.exc C)))).map (outLess i) else none
  | none => fb ρ
noncomputable def sTry (sub : Str → Bool) (fb : Rho → Option Out) (xb : Xr) (fh : Rho → Option Out) : Rho → Option Out := fun ρ => match xb ρ with
  | some (C, ρ1) => if sub C = true then fh ρ1 else none
  | none => fb ρ
noncomputable def KitM (K : PySem.W.Frag) (c : Value) (sub : Str → Bool) : Prop := ∀ C v, PySem.W.nsIn K mainGlobals C = some (some v) → sub C = true → PySem.W.exmOne K v c = some true ∧ ∃ a, v = .ref a ∧ ExcK K a
section
variable {c : MC} {O O' : List Nat} {cv : Value} {i : Nat} {sub : Str → Bool} {tb : XK → TS} {ts : TS} {fb fh : Rho → Option Out} {xb : Xr}
theorem StR.unset {K : PySem.W.Frag} {Z : Anc} {σ : St} {H R : Hp} {ρ : Rho} (S : StR K Z O σ H R ρ) (hi : i ∉ O) : StR K Z O (σ.set i none) H R (ρ.set i none) := by
  have ne : ∀ j, j ∈ O → i ≠ j := fun j hj z => hi (z ▸ hj)
  refine ⟨S.sub, by rw [List.length_set, List.length_set]; exact S.len, fun j e hj q => ?_, fun j hj => ?_, fun j k hj hk n l e => ?_, S.ah, S.ar, S.an, S.ad, fun j hj hp l e => ?_, fun j hj hp l e => ?_⟩
  · by_cases hij : i = j
    · subst hij
      have hl : i < ρ.length := by
        have := (List.getElem?_eq_some_iff.mp q).1
        rwa [List.length_set] at this
      rw [List.getElem?_set_self hl] at q
      (first | obtain rfl := q.isA rfl | cases q)
    · rw [List.getElem?_set_ne hij] at q ⊢
      exact S.env j e hj q
  · rw [List.getElem?_set_ne (ne j hj), List.getElem?_set_ne (ne j hj)]
    exact S.own j hj
  · rw [List.getElem?_set_ne (ne j hj)] at e
    rw [List.getElem?_set_ne (ne k hk)]
    exact S.dis j k hj hk n l e
  · rw [List.getElem?_set_ne (ne j hj)] at e
    exact S.ao j hj hp l e
  · rw [List.getElem?_set_ne (ne j hj)] at e
    exact S.ap j hj hp l e
theorem ms_try_as (km : KitM c.K cv sub) (hb : ∀ E, MS c O O' (tb E) fb) (kb : ∀ E, MSXa c O (tb E) E xb) (hs : MS c O O' ts fh) (hi : i ∉ O) (hi' : i ∉ O') (hl : i ∉ c.Ol) (hp : i ∉ c.P) :
    MS c O O' (tTryAs c.K cv i tb ts) (sTryAs i sub fb xb fh) := fun Z D σ H R ρ o hP S e k => by
  unfold sTryAs at e
  cases e1 : xb ρ with
  | none => rw [e1] at e; exact hb _ Z D σ H R ρ o hP S e k
  | some p =>
    obtain ⟨C, ρ1⟩ := p
    rw [e1] at e
    dsimp only at e
    split at e
    · rename_i hsub
      cases e2 : fh (ρ1.set i (some (.exc C))) with
      | none => rw [e2] at e; cases e
      | some o2 =>
        rw [e2] at e
        cases e
        refine kb _ Z D σ H R ρ C ρ1 hP S e1 fun H' R' S' s' v hv => ?_
        obtain ⟨q1, a, rfl, ke⟩ := km C v hv hsub
        refine ⟨q1, fun ea ne => ?_⟩
        have x := Ext.new (o := excO ea (.ref a)) S'.sub ne
        have S2 := (S'.ext x).set (i := i) (v := .ref ea) (d := .exc C) hi (.exc hv ke upd_same)
        refine hs Z (D.less i) _ _ _ _ o2 hP S2 e2 ?_
        have s2 : Same R (upd R' ea (excO ea (.ref a))) := s'.trans x.r
        cases o2 with
        | nx ρ2 => exact fun σ3 H3 R3 S3 s3 => k _ H3 R3 (S3.unset hi') (s2.trans s3)
        | bk ρ2 => exact fun σ3 H3 R3 S3 s3 => k _ H3 R3 (S3.unset hl) (s2.trans s3)
        | ct ρ2 => exact fun σ3 H3 R3 S3 s3 => k _ H3 R3 (S3.unset hl) (s2.trans s3)
        | rt d ρ2 => exact fun v σ3 H3 R3 S3 q => k v _ H3 R3 (S3.unset hp) q
    · cases e
end
noncomputable def runX (n N : Nat) (fx : Xr) (ds : List D) : Option Str := if ds.length = n then (fx (ds.map some ++ List.replicate (N - n) none)).map (·.1) else none
theorem runX_n {n N : Nat} {fx : Xr} : runsX n (runX n N fx) := fun ds C e => by
  unfold runX at e
  split at e
  · assumption
  · cases e
theorem spPX_body {K : PySem.W.Frag} {fr : Bool} {n : Nat} {Nms : List Str} {O' : List Nat} {t : TS} {f : Rho → Option Out} {fx : Xr} {vs : List V} {H : Hp} {Q : VK} {E : XK} (hm : MS ⟨K, fr, [], []⟩ [] O' t f) (hx : MSX ⟨K, fr, [], []⟩ [] t E fx)
    (h : spPX K fr n (runP fr n Nms.length f) (runX n Nms.length fx) vs H Q E) : t { nx := fun _ H' => Q .non H', rt := Q } (start Nms vs) H := by
  rcases h with h | ⟨hn, R, ds, C, sub, r, e, k⟩
  · exact spP_body hm h
  · unfold runX at e
    split at e
    · rename_i hl
      have S : StR K ⟨H, R, fun _ => False, []⟩ [] (start Nms vs) H R (ds.map some ++ List.replicate (Nms.length - n) none) := by
        refine ⟨sub, ?_, fun i d _ q => ?_, fun i hi => absurd hi (by simp), fun i j hi => absurd hi (by simp), fun a o q _ => q, Same.refl _, fun a q => .inl q, fun a q => .refl q, fun i hi => absurd hi (by simp), fun i hi => absurd hi (by simp)⟩
        · unfold start
          rw [List.length_append, List.length_append, List.length_map, List.length_map, List.length_replicate, List.length_replicate, hn, hl]
        · obtain ⟨v, h1, h2⟩ := r.get (slots_get q)
          exact ⟨v, start_get h1, h2⟩
      cases e1 : fx (ds.map some ++ List.replicate (Nms.length - n) none) with
      | none => rw [e1] at e; cases e
      | some p =>
        obtain ⟨C1, ρ1⟩ := p
        rw [e1] at e
        cases e
        exact hx _ _ _ _ _ _ _ ρ1 rfl S e1 fun O2 σ' H' R' S' => k H' R' ⟨fun a o q => S'.ah a o q (fun z => z), S'.ar, S'.sub, S'.an⟩
    · cases e
theorem pass1 {X : Cx} {P : Program} {w : World} : Passes (CX1 P w) X E0 := fun _ _ _ _ _ _ _ h => by
  obtain ⟨_, _, _, _, _, z⟩ := h
  exact z.elim
end L2
set_option Elab.async false
set_option linter.all false
set_option maxRecDepth 100000
set_option maxHeartbeats 4000000
namespace L2
open PySem PySem.Spec PyProof.Rows
section
variable {K : PySem.W.Frag} {O : List Nat} {tr : TA} {fs : Rho → Option (List D × Rho)} {E : XK} {n : Nat}
theorem mn_callX {f : List D → Option D} {fx : List D → Option Str} (hf : runsN n f) (h : MA K O tr fs) : MN K O (tCall (spPX K true n f fx) [] E tr) (mCallL f fs) := fun Z σ H R ρ ds ρ' Q S e k => by
  obtain ⟨as, ρ1, e1, e⟩ := mBind_some e
  obtain ⟨e2, rfl⟩ := mLift_some e
  have e3 := lstOf_some e2
  refine h Z σ H R ρ as _ _ S e1 fun vs H1 R1 S1 st1 r1 => ?_
  show spPX K true n f fx (vs ++ []) H1 Q E
  rw [List.append_nil]
  refine .inl ⟨by rw [r1.length]; exact hf as _ e3, R1, as, _, S1.sub, r1, e3, fun v H2 R2 x q => ?_⟩
  obtain ⟨l, us, gs, rfl, e4, h0, hH, hR, r⟩ := q
  cases e4
  exact k l us H2 R2 (S1.ext x) (st1.trans x.stp) (st1.new h0) hH hR r
end
section
variable {K : PySem.W.Frag}
theorem exm_mk {t : Value} {d : Addr} {b : Bool} (h0 : PySem.W.subIn K (.ref d) (.type "BaseException") = some true) (h1 : PySem.W.isClsIn K d = true) (h2 : PySem.W.typeIn K (.ref d) = some (.type "type")) (h3 : PySem.W.subIn K t (.ref d) = some b) : PySem.W.exmOne K t (.ref d) = some b := by
  unfold PySem.W.exmOne
  rw [h0, if_pos (beq_self_eq_true _)]
  unfold PySem.W.kitCls
  have e : ((PySem.W.clsIn K d).isSome && PySem.W.typeIn K (.ref d) == some (.type "type")) = true := by
    rw [h2, beq_self_eq_true, Bool.and_true]
    exact h1
  dsimp only
  rw [if_pos e]
  exact h3
theorem look_mem {β : Type} {x : Str} {b : β} : ∀ {tab : List (Str × β)}, tab.lookup x = some b → (x, b) ∈ tab
  | [], h => by cases h
  | (y, d) :: tab, h => by
    unfold List.lookup at h
    by_cases q : (x == y) = true
    · rw [q] at h
      (first | obtain rfl := h.isA rfl | cases h)
      rw [beq_iff_eq.mp q]
      exact List.mem_cons_self
    · rw [Bool.eq_false_iff.mpr q] at h
      exact List.mem_cons_of_mem _ (look_mem h)
theorem kitE_of {c : Value} {tab : List (Str × Bool)} (h : ∀ p ∈ tab, ∃ C, PySem.W.nsIn K mainGlobals p.1 = some (some (.ref C)) ∧ PySem.W.kitOne K (.ref C) c = some p.2) (n : PySem.W.kitOne K (.type "NoneType") c = some false) : KitE K c (fun x => tab.lookup x) :=
  ⟨fun x C b e q => by
    obtain ⟨C2, e2, k⟩ := h _ (look_mem q)
    rw [e] at e2
    cases e2
    exact k, n⟩
theorem kitM_of {c : Value} {tab : List Str} (h : ∀ x ∈ tab, ∃ a, PySem.W.nsIn K mainGlobals x = some (some (.ref a)) ∧ PySem.W.exmOne K (.ref a) c = some true ∧ ExcK K a) : KitM K c (fun x => tab.contains x) := fun C v e q => by
  obtain ⟨a, e2, k, x⟩ := h C (by simpa using q)
  rw [e] at e2
  cases e2
  exact ⟨k, a, rfl, x⟩
end
end L2
set_option Elab.async false
set_option linter.all false
set_option maxRecDepth 100000
set_option maxHeartbeats 4000000
namespace L2
open PySem PySem.Spec PyProof.Rows
theorem PS.nox {X : Cx} {st : Stmt} {t : TS} (h : PS X.nox st t) : PS X st t := fun pins s σ H D I hw =>
  wpAny_mono (h pins s σ H D (I.wish _) hw) (fun _ _ q => q.unwish) fun _ _ z => False.elim z
theorem PS.or {X : Cx} {st : Stmt} {t u : TS} (h1 : PS X st t) (h2 : PS X st u) : PS X st (fun D σ H => t D σ H ∨ u D σ H) := fun pins s σ H D I h => by
  rcases h with h | h
  · exact h1 pins s σ H D I h
  · exact h2 pins s σ H D I h
noncomputable def tForR (wi : TI) : TS := fun _ σ H => wi σ H fun _ _ => False
theorem ps_forR {X : Cx} {tg iter : Expr} {body : List Stmt} {wi : TI} {pos : Pos} (hi : PI X tg iter wi) (hs : ∀ x, foldedSetIterable iter X.env x = pure x := by intro _; rfl) : PS X (.For tg iter body [] pos) (tForR wi) := by
  intro pins s σ H D I h
  refine wpAny_For (thn (hi pins s σ H _ I h) fun v s1 h1 => thn h1 fun itv s2 h2 => ?_) hs
  obtain ⟨_, _, _, _, _, _, _, _, _, _, z⟩ := h2
  exact z.elim
theorem ms_orl {c : MC} {O O' : List Nat} {t u : TS} {f : Rho → Option Out} (h : MS c O O' t f) : MS c O O' (fun D σ H => t D σ H ∨ u D σ H) f := fun Z E σ H R ρ o hP S e k => .inl (h Z E σ H R ρ o hP S e k)
theorem msx_forR {c : MC} {O : List Nat} {t : TS} {wi : TI} {E : XK} {xi : Xr} (h : MIX c.K O wi E xi) : MSX c O (fun D σ H => t D σ H ∨ tForR wi D σ H) E xi := fun Z D σ H R ρ C ρ' hP S e k => .inr (h Z σ H R ρ C ρ' _ S e fun H' R' S' _ => k O σ H' R' S')
theorem mix_rng1 {K : PySem.W.Frag} {O : List Nat} {ta : TA} {E : XK} {xs : Xr} (h : MAX K O ta E xs) : MIX K O (iRng1 ta) E xs := fun Z σ H R ρ C ρ' Q S e k => h Z σ H R ρ C ρ' _ S e k
section
variable (K : PySem.W.Frag) (O : List Nat)
end
section
variable {K : PySem.W.Frag} {O : List Nat} {ta : TE} {tr : TA} {fa : Rho → Option (D × Rho)} {fs : Rho → Option (List D × Rho)} {E : XK} {n : Nat}
noncomputable def scD : D → Bool
  | .non => true
  | .bl _ => true
  | .int _ => true
  | .str _ => true
  | _ => false
noncomputable def mCallB (f : List D → Option D) (fs : Rho → Option (List D × Rho)) : Rho → Option (D × Rho) := mBind fs fun ds => mLift (match f ds with
  | some d => if scD d = true then some d else none
  | none => none)
end
end L2
set_option Elab.async false
set_option linter.all false
set_option maxRecDepth 100000
set_option maxHeartbeats 4000000
namespace L2
open PySem PySem.Spec PyProof.Rows
theorem fst_some {α : Type} {o : Option (α × Rho)} {x : α} (h : o.map (·.1) = some x) : ∃ ρ, o = some (x, ρ) := by
  cases o with
  | none => cases h
  | some p => cases h; exact ⟨p.2, rfl⟩
theorem cm_map {n : Nat} {js : List Nat} {fg : D → Rho → Option Rho} {fe : Rho → Option (D × Rho)} {ρ : Rho} (g : D → D) : ∀ (xs : List D), (∀ x ∈ xs, ∃ ρ1, fg x (capsR n js ρ) = some ρ1 ∧ (fe ρ1).map (·.1) = some (g x)) → compRun n js none fg (mRet true) fe xs ρ = some (xs.map g, ρ)
  | [], _ => rfl
  | x :: xs, h => by
    obtain ⟨ρ1, h1, h2⟩ := h x List.mem_cons_self
    obtain ⟨ρ2, h2⟩ := fst_some h2
    have ih := cm_map (n := n) (js := js) (fg := fg) (fe := fe) (ρ := ρ) g xs fun y hy => h y (List.mem_cons_of_mem _ hy)
    simp only [compRun, h1, mRet, h2, backR]
    rw [ih]
    rfl
theorem cm_filter {n : Nat} {js : List Nat} {fg : D → Rho → Option Rho} {ft : Rho → Option (Bool × Rho)} {fe : Rho → Option (D × Rho)} {ρ : Rho} (p : D → Bool) (g : D → D) : ∀ (xs : List D), (∀ x ∈ xs, ∃ ρ1, fg x (capsR n js ρ) = some ρ1 ∧ ft ρ1 = some (p x, ρ1) ∧ (p x = true → (fe ρ1).map (·.1) = some (g x))) → compRun n js none fg ft fe xs ρ = some ((xs.filter p).map g, ρ)
  | [], _ => rfl
  | x :: xs, h => by
    obtain ⟨ρ1, h1, h2, h3⟩ := h x List.mem_cons_self
    have ih := cm_filter (n := n) (js := js) (fg := fg) (ft := ft) (fe := fe) (ρ := ρ) p g xs fun y hy => h y (List.mem_cons_of_mem _ hy)
    cases hp : p x with
    | false =>
      rw [hp] at h2
      simp only [compRun, h1, h2, backR]
      rw [ih, List.filter_cons_of_neg (by rw [hp]; exact Bool.false_ne_true)]
    | true =>
      rw [hp] at h2
      obtain ⟨ρ3, h4⟩ := fst_some (h3 hp)
      simp only [compRun, h1, h2, h4, backR]
      rw [ih, List.filter_cons_of_pos hp]
      rfl
theorem cm_state {n p q : Nat} {js : List Nat} {fg : D → Rho → Option Rho} {fe : Rho → Option (D × Rho)} {S : Type} (ρ : S → Rho) (G : D → Prop) : ∀ (xs : List D), (∀ x ∈ xs, ∀ s, ∃ ρ1 ρ2 y s', fg x (capsR n js (ρ s)) = some ρ1 ∧ fe ρ1 = some (y, ρ2) ∧ backR (some (p, q)) (ρ s) ρ2 = ρ s' ∧ G y) → ∀ s, ∃ ys s', compRun n js (some (p, q)) fg (mRet true) fe xs (ρ s) = some (ys, ρ s') ∧ ys.length = xs.length ∧ ∀ y ∈ ys, G y
  | [], _, s => ⟨[], s, rfl, rfl, fun _ h => nomatch h⟩
  | x :: xs, h, s => by
    obtain ⟨ρ1, ρ2, y, s1, h1, h2, h3, h4⟩ := h x List.mem_cons_self s
    obtain ⟨ys, s2, g1, g2, g3⟩ := cm_state ρ G xs (fun y hy => h y (List.mem_cons_of_mem _ hy)) s1
    refine ⟨y :: ys, s2, ?_, by rw [List.length_cons, List.length_cons, g2], fun z hz => ?_⟩
    · simp only [compRun, h1, mRet, h2, h3]
      rw [g1]
    · rcases List.mem_cons.mp hz with rfl | hz
      · exact h4
      · exact g3 z hz
theorem for_inv {fg : D → Rho → Option Rho} {fb : Rho → Option Out} (I : Nat → Rho → Prop) : ∀ (xs : List D) (k : Nat) (ρ : Rho), I k ρ → (∀ i x ρ, xs[i]? = some x → I (k + i) ρ → ∃ ρ1 ρ2, fg x ρ = some ρ1 ∧ (fb ρ1 = some (.nx ρ2) ∨ fb ρ1 = some (.ct ρ2)) ∧ I (k + i + 1) ρ2) → ∃ ρ', forRun fg fb xs ρ = some (.nx ρ') ∧ I (k + xs.length) ρ'
  | [], k, ρ, h0, _ => ⟨ρ, rfl, h0⟩
  | x :: xs, k, ρ, h0, hs => by
    obtain ⟨ρ1, ρ2, h1, h2, h3⟩ := hs 0 x ρ rfl h0
    obtain ⟨ρ', g1, g2⟩ := for_inv I xs (k + 1) ρ2 h3 fun i y ρ e hi => by
      have e1 : k + 1 + i = k + (i + 1) := by omega
      rw [e1] at hi ⊢
      exact hs (i + 1) y ρ (by simpa using e) hi
    refine ⟨ρ', ?_, by rw [List.length_cons]; have e1 : k + (xs.length + 1) = k + 1 + xs.length := by omega
                       rw [e1]; exact g2⟩
    simp only [forRun, h1]
    rcases h2 with h2 | h2
    · rw [h2]; exact g1
    · rw [h2]; exact g1
theorem for_all {fg : D → Rho → Option Rho} {fb : Rho → Option Out} (I : Rho → Prop) : ∀ (xs : List D) (ρ : Rho), I ρ → (∀ x ρ, x ∈ xs → I ρ → ∃ ρ1 ρ2, fg x ρ = some ρ1 ∧ (fb ρ1 = some (.nx ρ2) ∨ fb ρ1 = some (.ct ρ2)) ∧ I ρ2) → ∃ ρ', forRun fg fb xs ρ = some (.nx ρ') ∧ I ρ' := fun xs ρ h0 hs => by
  obtain ⟨ρ', h1, h2⟩ := for_inv (fg := fg) (fb := fb) (fun _ => I) xs 0 ρ h0 fun i x ρ e hi => hs x ρ (List.mem_of_getElem? e) hi
  exact ⟨ρ', h1, h2⟩
theorem at0 {α : Type} (x : α) (xs : List α) : atI (x :: xs) 0 = some x := by
  unfold atI ixN
  simp
theorem at1 {α : Type} (x y : α) (xs : List α) : atI (x :: y :: xs) 1 = some y := atI_nat (j := 1) rfl
theorem at2 {α : Type} (x y z : α) (xs : List α) : atI (x :: y :: z :: xs) 2 = some z := atI_nat (j := 2) rfl
theorem at3 {α : Type} (x y z u : α) (xs : List α) : atI (x :: y :: z :: u :: xs) 3 = some u := atI_nat (j := 3) rfl
theorem at4 {α : Type} (x y z u v : α) (xs : List α) : atI (x :: y :: z :: u :: v :: xs) 4 = some v := atI_nat (j := 4) rfl
theorem at5 {α : Type} (x y z u v w : α) (xs : List α) : atI (x :: y :: z :: u :: v :: w :: xs) 5 = some w := atI_nat (j := 5) rfl
theorem at_nat {α : Type} {xs : List α} {i : Int} (h0 : 0 ≤ i) (h : i < xs.length) : atI xs i = xs[i.toNat]? := by
  unfold atI ixN
  rw [if_pos h0, if_pos h]
  rfl
theorem line_of {n : Nat} (h : n ≤ 1000000) : n ≤ sizeLine := Nat.le_trans h (by decide)
theorem rangeD_len (lo : Int) (n : Nat) : (rangeD lo n).length = n := by simp [rangeD]
theorem rangeD_get {lo : Int} {n i : Nat} {d : D} (h : (rangeD lo n)[i]? = some d) : i < n ∧ d = .int (lo + (i : Int)) := by
  have hi : i < n := by
    have := (List.getElem?_eq_some_iff.mp h).1
    rwa [rangeD_len] at this
  refine ⟨hi, ?_⟩
  unfold rangeD at h
  rw [List.getElem?_map, List.getElem?_range hi] at h
  exact (Option.some.inj h).symm
noncomputable def nx (s : Int) : Int := (s * 1181783497276652981 + 12345678910987) % (2 ^ 61 - 1)
noncomputable def dr (s m : Int) : Int := nx s / 65537 % m
theorem dr_lo (s : Int) {m : Int} (h : 0 < m) : 0 ≤ dr s m := Int.emod_nonneg _ (by omega)
theorem dr_hi (s : Int) {m : Int} (h : 0 < m) : dr s m < m := Int.emod_lt_of_pos _ h
theorem eqD_int (i j : Int) : eqD (.int i) (.int j) = some (i == j) := by
  simp [eqD, D.toP, SeqAt.shaped, PyData.canLay0, PyData.depth, PyData.eqv]
theorem eqD_bl (i j : Bool) : eqD (.bl i) (.bl j) = some (i == j) := by
  simp [eqD, D.toP, SeqAt.shaped, PyData.canLay0, PyData.depth, PyData.eqv]
theorem eqD_str {i j : Str} (hi : PyData.strOk i = true) (hj : PyData.strOk j = true) : eqD (.str i) (.str j) = some (i == j) := by
  simp [eqD, D.toP, SeqAt.shaped, PyData.canLay0, PyData.depth, PyData.eqv, hi, hj]
theorem eqD_none_int (j : Int) : eqD .non (.int j) = some false := by
  simp [eqD, D.toP, SeqAt.shaped, PyData.canLay0, PyData.depth, PyData.eqv]
theorem eqD_int_none (j : Int) : eqD (.int j) .non = some false := by
  simp [eqD, D.toP, SeqAt.shaped, PyData.canLay0, PyData.depth, PyData.eqv]
theorem eqD_none : eqD .non .non = some true := by
  simp [eqD, D.toP, SeqAt.shaped, PyData.canLay0, PyData.depth, PyData.eqv]
theorem join_one' (z : Str) : PySem.Txt.join "" [z] = z := rfl
section
variable {α β : Type} {a : Rho → Option (α × Rho)} {k : α → Rho → Option (β × Rho)} {ρ : Rho} {fa fb fc : Rho → Option (D × Rho)} {ga gb : Rho → Option (Bool × Rho)} {fs : Rho → Option (List D × Rho)} {g g' : D → D → Option D} {g1 : D → Option D} {gl : D → Option (List D)} {g2 : D → D → Option (List D)} {fl fh : Rho → Option (Option Int × Rho)}
theorem ev_bind : mBind a k ρ = (a ρ).bind fun p => k p.1 p.2 := by
  unfold mBind
  cases a ρ <;> rfl
theorem ev_ret {x : α} : mRet x ρ = some (x, ρ) := rfl
theorem ev_lift {o : Option α} : mLift o ρ = o.map fun x => (x, ρ) := by cases o <;> rfl
theorem ev_var {i : Nat} : mVar i ρ = (ρ[i]?).join.map fun d => (d, ρ) := by
  unfold mVar
  cases h : ρ[i]? with
  | none => rfl
  | some o => cases o <;> rfl
theorem ev_op2 : mOp2 g fa fb ρ = (fa ρ).bind fun p => (fb p.2).bind fun q => (g p.1 q.1).map fun x => (x, q.2) := by
  unfold mOp2
  rw [ev_bind]
  congr 1; funext p
  rw [ev_bind]
  congr 1; funext q
  rw [ev_lift]
theorem ev_op1 : mOp1 g1 fa ρ = (fa ρ).bind fun p => (g1 p.1).map fun x => (x, p.2) := by
  unfold mOp1
  rw [ev_bind]
  congr 1; funext p
  rw [ev_lift]
theorem ev_op1L : mOp1L gl fa ρ = (fa ρ).bind fun p => (gl p.1).map fun x => (x, p.2) := by
  unfold mOp1L
  rw [ev_bind]
  congr 1; funext p
  rw [ev_lift]
theorem ev_op2L : mOp2L g2 fa fb ρ = (fa ρ).bind fun p => (fb p.2).bind fun q => (g2 p.1 q.1).map fun x => (x, q.2) := by
  unfold mOp2L
  rw [ev_bind]
  congr 1; funext p
  rw [ev_bind]
  congr 1; funext q
  rw [ev_lift]
theorem ev_opO {i : Nat} : mOpO g i fb ρ = (fb ρ).bind fun q => ((q.2[i]?).join).bind fun x => (g x q.1).map fun z => (z, q.2) := by
  unfold mOpO
  rw [ev_bind]
  congr 1; funext q
  rw [ev_bind, ev_var]
  cases (q.2[i]?).join with
  | none => rfl
  | some x => show mLift _ _ = _; rw [ev_lift]; rfl
noncomputable def ixO : D → D → Option D
  | .lst xs, .int j => atI xs j
  | _, _ => none
theorem ev_ixO {i : Nat} : mIxO i fb ρ = (fb ρ).bind fun q => ((q.2[i]?).join).bind fun x => (ixO x q.1).map fun z => (z, q.2) := by
  unfold mIxO
  rw [ev_bind]
  congr 1; funext q
  rw [ev_bind, ev_var]
  cases (q.2[i]?).join with
  | none => rfl
  | some x => show mLift _ _ = _; rw [ev_lift]; first | rfl | (cases x <;> (cases q.1 <;> rfl))
noncomputable def blO : D → Option Bool
  | .bl b => some b
  | _ => none
theorem ev_test : mTest fa ρ = (fa ρ).bind fun p => (blO p.1).map fun x => (x, p.2) := by
  unfold mTest
  rw [ev_bind]
  congr 1; funext p
  rw [ev_lift]
  first | rfl | (cases p.1 <;> rfl)
theorem ev_not : mNot ga ρ = (ga ρ).map fun p => (!p.1, p.2) := by
  unfold mNot
  rw [ev_bind]
  cases ga ρ <;> rfl
theorem ev_and : mAnd ga gb ρ = (ga ρ).bind fun p => if p.1 = true then gb p.2 else some (false, p.2) := by
  unfold mAnd
  rw [ev_bind]
  congr 1; funext p
  split <;> rfl
theorem ev_or : mOr ga gb ρ = (ga ρ).bind fun p => if p.1 = true then some (true, p.2) else gb p.2 := by
  unfold mOr
  rw [ev_bind]
  congr 1; funext p
  split <;> rfl
theorem ev_andV : mAndV fa fb ρ = (mTest fa ρ).bind fun p => if p.1 = true then fb p.2 else some (.bl false, p.2) := by
  unfold mAndV
  rw [ev_bind]
  congr 1; funext p
  split <;> rfl
theorem ev_orV : mOrV fa fb ρ = (mTest fa ρ).bind fun p => if p.1 = true then some (.bl true, p.2) else fb p.2 := by
  unfold mOrV
  rw [ev_bind]
  congr 1; funext p
  split <;> rfl
theorem ev_notV : mNotV fa ρ = (mTest fa ρ).map fun p => (.bl (!p.1), p.2) := by
  unfold mNotV
  rw [ev_bind]
  cases mTest fa ρ <;> rfl
theorem ev_if : mIf ga fa fb ρ = (ga ρ).bind fun p => if p.1 = true then fa p.2 else fb p.2 := by
  unfold mIf
  rw [ev_bind]
  congr 1; funext p
  split <;> rfl
theorem ev_nil : mNil ρ = some ([], ρ) := rfl
theorem ev_cons : mCons fa fs ρ = (fa ρ).bind fun p => (fs p.2).map fun q => (p.1 :: q.1, q.2) := by
  unfold mCons
  rw [ev_bind]
  congr 1; funext p
  rw [ev_bind]
  cases fs p.2 <;> rfl
theorem ev_tup : mTup fs ρ = (fs ρ).bind fun p => if p.1.length ≤ sizeLine then some (.tup p.1, p.2) else none := by
  unfold mTup
  rw [ev_bind]
  congr 1; funext p
  rw [ev_lift]
  split <;> rfl
theorem ev_lst : mLst fs ρ = (fs ρ).bind fun p => if p.1.length ≤ sizeLine then some (p.1, p.2) else none := by
  unfold mLst
  rw [ev_bind]
  congr 1; funext p
  rw [ev_lift]
  split <;> rfl
theorem ev_of : mOf fs ρ = (fs ρ).map fun p => (.lst p.1, p.2) := by
  unfold mOf
  rw [ev_bind]
  cases fs ρ <;> rfl
theorem ev_call {f : List D → Option D} : mCall f fs ρ = (fs ρ).bind fun p => (f p.1).map fun x => (x, p.2) := by
  unfold mCall
  rw [ev_bind]
  congr 1; funext p
  rw [ev_lift]
theorem ev_callL {f : List D → Option D} : mCallL f fs ρ = (fs ρ).bind fun p => (lstOf (f p.1)).map fun x => (x, p.2) := by
  unfold mCallL
  rw [ev_bind]
  congr 1; funext p
  rw [ev_lift]
noncomputable def lsO : D → Option (List D)
  | .lst xs => some xs
  | _ => none
theorem ev_callS {f : List D → List D → Option (D × List D)} {i : Nat} : mCallS f i fs ρ = (fs ρ).bind fun p => ((p.2[i]?).join.bind lsO).bind fun xs => (f xs p.1).map fun r => (r.1, p.2.set i (some (.lst r.2))) := by
  unfold mCallS
  rw [ev_bind]
  congr 1; funext p
  cases h : p.2[i]? with
  | none => rfl
  | some o =>
    cases o with
    | none => rfl
    | some d =>
      cases d with
      | lst xs =>
        show (match f xs p.1 with | some (d, ys) => some (d, p.2.set i (some (.lst ys))) | none => none) = _
        show _ = (f xs p.1).map _
        cases f xs p.1 <;> rfl
      | _ => rfl
theorem ev_comp {n : Nat} {js : List Nat} {bw : Option (Nat × Nat)} {fg : D → Rho → Option Rho} : mComp n js bw fs fg ga fa ρ = (fs ρ).bind fun p => if p.1.length ≤ sizeLine then compRun n js bw fg ga fa p.1 p.2 else none := by
  unfold mComp
  rw [ev_bind]
theorem ev_seq : mSeq fa ρ = (fa ρ).bind fun p => (dSeq p.1).map fun x => (x, p.2) := by
  unfold mSeq
  rw [ev_bind]
  congr 1; funext p
  rw [ev_lift]
  cases p.1 <;> rfl
noncomputable def rng1 : List D → Option (List D)
  | [.int j] => if big j = true then some (rangeD 0 j.toNat) else none
  | _ => none
theorem ev_rng1 : mRng1 fs ρ = (fs ρ).bind fun p => (rng1 p.1).map fun x => (x, p.2) := by
  unfold mRng1
  rw [ev_bind]
  congr 1; funext p
  rw [ev_lift]
  rfl
noncomputable def rng2 : List D → Option (List D)
  | [.int i, .int j] => if (big i && big j) = true then some (rangeD i (j - i).toNat) else none
  | _ => none
theorem ev_rng2 : mRng2 fs ρ = (fs ρ).bind fun p => (rng2 p.1).map fun x => (x, p.2) := by
  unfold mRng2
  rw [ev_bind]
  congr 1; funext p
  rw [ev_lift]
  rfl
noncomputable def zip2 : List D → Option (List D)
  | [x, y] => match dSeq x, dSeq y with
    | some xs, some ys => some (zipD xs ys)
    | _, _ => none
  | _ => none
theorem ev_zip : mZip fs ρ = (fs ρ).bind fun p => (zip2 p.1).map fun x => (x, p.2) := by
  unfold mZip
  rw [ev_bind]
  congr 1; funext p
  rw [ev_lift]
  rfl
noncomputable def inO : D → Option (Option Int)
  | .int i => some (some i)
  | _ => none
theorem ev_part : mPart fa ρ = (fa ρ).bind fun p => (inO p.1).map fun x => (x, p.2) := by
  unfold mPart
  rw [ev_bind]
  congr 1; funext p
  rw [ev_lift]
  cases p.1 <;> rfl
theorem ev_sl : mSl fa fl fh ρ = (fa ρ).bind fun p => (fl p.2).bind fun q => (fh q.2).bind fun r => (dSl p.1 q.1 r.1).map fun x => (x, r.2) := by
  unfold mSl
  rw [ev_bind]
  congr 1; funext p
  rw [ev_bind]
  congr 1; funext q
  rw [ev_bind]
  congr 1; funext r
  rw [ev_lift]
noncomputable def slO (d : D) (lo hi : Option Int) : Option (List D) := match d with
  | .lst xs => some (cutD xs lo hi)
  | _ => none
theorem ev_slL : mSlL fa fl fh ρ = (fa ρ).bind fun p => (fl p.2).bind fun q => (fh q.2).bind fun r => (slO p.1 q.1 r.1).map fun x => (x, r.2) := by
  unfold mSlL
  rw [ev_bind]
  congr 1; funext p
  rw [ev_bind]
  congr 1; funext q
  rw [ev_bind]
  congr 1; funext r
  rw [ev_lift]
  rfl
theorem ev_chain : mChain g g' fa fb fc ρ = (fa ρ).bind fun p => (fb p.2).bind fun q => ((g p.1 q.1).bind blO).bind fun b => if b = true then (fc q.2).bind fun r => (g' q.1 r.1).map fun x => (x, r.2) else some (.bl false, q.2) := by
  unfold mChain
  rw [ev_bind]
  congr 1; funext p
  rw [ev_bind]
  congr 1; funext q
  rw [ev_bind, ev_test, ev_lift]
  cases g p.1 q.1 with
  | none => rfl
  | some d =>
    cases d with
    | bl b =>
      cases b with
      | true =>
        show mBind fc (fun z => mLift (g' q.1 z)) q.2 = _
        rw [ev_bind]
        show _ = (fc q.2).bind _
        congr 1; funext r
        rw [ev_lift]
      | false => rfl
    | _ => rfl
theorem ev_sseq {f h : Rho → Option Out} : sSeq f h ρ = (f ρ).bind fun o => match o with
    | .nx ρ1 => h ρ1
    | o => some o := by
  unfold sSeq
  cases f ρ with
  | none => rfl
  | some o => cases o <;> rfl
theorem ev_sset {i : Nat} : sSet i fa ρ = (fa ρ).map fun p => .nx (p.2.set i (some p.1)) := by
  unfold sSet
  cases fa ρ <;> rfl
theorem ev_sown {i : Nat} : sOwn i fs ρ = (fs ρ).bind fun p => if i < p.2.length then some (.nx (p.2.set i (some (.lst p.1)))) else none := by
  unfold sOwn
  cases fs ρ <;> rfl
theorem ev_sasg {fg : D → Rho → Option Rho} : sAsg fa fg ρ = (fa ρ).bind fun p => (fg p.1 p.2).map .nx := by
  unfold sAsg
  cases fa ρ with
  | none => rfl
  | some p =>
    obtain ⟨d, ρ1⟩ := p
    show (match fg d ρ1 with | none => none | some ρ2 => some (Out.nx ρ2)) = (fg d ρ1).map _
    cases fg d ρ1 <;> rfl
theorem ev_sif {f h : Rho → Option Out} : sIf ga f h ρ = (ga ρ).bind fun p => if p.1 = true then f p.2 else h p.2 := by
  unfold sIf
  cases ga ρ <;> rfl
theorem ev_sret : sRet fa ρ = (fa ρ).map fun p => .rt p.1 p.2 := by
  unfold sRet
  cases fa ρ <;> rfl
theorem ev_sretL : sRetL fs ρ = (fs ρ).map fun p => .rt (.lst p.1) p.2 := by
  unfold sRetL
  cases fs ρ <;> rfl
theorem ev_sretO {i : Nat} : sRetO i ρ = ((ρ[i]?).join.bind lsO).map fun d => .rt (.lst d) (ρ.set i none) := by
  unfold sRetO
  cases h : ρ[i]? with
  | none => rfl
  | some o =>
    cases o with
    | none => rfl
    | some d => cases d <;> rfl
theorem isL_bind {α : Type} (i : Nat) (x : Option α) : (if isL ρ i = true then x else none) = ((ρ[i]?).join.bind lsO).bind fun _ => x := by
  unfold isL
  cases h : ρ[i]? with
  | none => rfl
  | some o =>
    cases o with
    | none => rfl
    | some d => cases d <;> rfl
theorem ev_snil : sNil ρ = some (.nx ρ) := rfl
theorem ev_sretN : sRetN ρ = some (.rt .non ρ) := rfl
theorem ev_sbk : sBk ρ = some (.bk ρ) := rfl
theorem ev_sct : sCt ρ = some (.ct ρ) := rfl
theorem ev_sdrop : sDrop fa ρ = (fa ρ).map fun p => .nx p.2 := by
  unfold sDrop
  cases fa ρ <;> rfl
theorem ev_smut {gm : List D → List D → Option (List D)} {i : Nat} : sMut gm i fs ρ = ((ρ[i]?).join.bind lsO).bind fun _ => (fs ρ).bind fun p => ((p.2[i]?).join.bind lsO).bind fun xs => (gm xs p.1).map fun ys => .nx (p.2.set i (some (.lst ys))) := by
  refine Eq.trans ?_ (isL_bind _ _)
  unfold sMut
  congr 1
  cases fs ρ with
  | none => rfl
  | some p =>
    show (match p.2[i]? with | some (some (.lst xs)) => _ | _ => none) = _
    show _ = ((p.2[i]?).join.bind lsO).bind _
    cases h : p.2[i]? with
    | none => rfl
    | some o =>
      cases o with
      | none => rfl
      | some d =>
        cases d with
        | lst xs =>
          show (match gm xs p.1 with | some ys => some (Out.nx _) | none => none) = (gm xs p.1).map _
          cases gm xs p.1 <;> rfl
        | _ => rfl
theorem ev_sext {i : Nat} : sExt i fs ρ = ((ρ[i]?).join.bind lsO).bind fun _ => (fs ρ).bind fun p => ((p.2[i]?).join.bind lsO).bind fun xs => if xs.length + p.1.length ≤ sizeLine then some (.nx (p.2.set i (some (.lst (xs ++ p.1))))) else none := by
  refine Eq.trans ?_ (isL_bind _ _)
  unfold sExt
  congr 1
  cases fs ρ with
  | none => rfl
  | some p =>
    show (match p.2[i]? with | some (some (.lst xs)) => _ | _ => none) = _
    show _ = ((p.2[i]?).join.bind lsO).bind _
    cases h : p.2[i]? with
    | none => rfl
    | some o =>
      cases o with
      | none => rfl
      | some d => cases d <;> rfl
noncomputable def setI (x d k : D) : Option D := match x, k with
  | .lst xs, .int j => (ixN xs.length j).map fun m => .lst (xs.set m d)
  | _, _ => none
theorem ev_sseti {i : Nat} : sSetI i fa fb ρ = (fa ρ).bind fun p => (fb p.2).bind fun q => ((q.2[i]?).join).bind fun x => (setI x p.1 q.1).map fun y => .nx (q.2.set i (some y)) := by
  unfold sSetI
  cases fa ρ with
  | none => rfl
  | some p =>
    show (match fb p.2 with | some (.int k, ρ2) => _ | _ => none) = (fb p.2).bind _
    cases fb p.2 with
    | none => rfl
    | some q =>
      obtain ⟨y, ρ2⟩ := q
      cases y with
      | int j =>
        show (match ρ2[i]? with | some (some (.lst xs)) => _ | _ => none) = ((ρ2[i]?).join).bind _
        cases h : ρ2[i]? with
        | none => rfl
        | some o =>
          cases o with
          | none => rfl
          | some d =>
            cases d with
            | lst xs =>
              show (match ixN xs.length j with | some m => some (Out.nx _) | none => none) = ((ixN xs.length j).map _).map _
              cases ixN xs.length j <;> rfl
            | _ => rfl
      | _ =>
        show none = ((ρ2[i]?).join).bind _
        cases h : (ρ2[i]?).join with
        | none => rfl
        | some x => cases x <;> rfl
theorem ev_sfor {fg : D → Rho → Option Rho} {f : Rho → Option Out} : sFor fs fg f ρ = (fs ρ).bind fun p => forRun fg f p.1 p.2 := by
  unfold sFor
  cases fs ρ <;> rfl
theorem ev_gset {i : Nat} {d : D} : gSet i d ρ = some (ρ.set i (some d)) := rfl
theorem ev_saug {gi : Int → Int → Int} {i : Nat} : sAug gi i fa ρ = ((ρ[i]?).join).bind fun x => (fa ρ).bind fun p => (dI0 gi x p.1).map fun z => .nx (p.2.set i (some z)) := by
  unfold sAug
  cases h : ρ[i]? with
  | none => rfl
  | some o =>
    cases o with
    | none => rfl
    | some d =>
      cases d with
      | int x =>
        show (match fa ρ with | some (.int y, ρ1) => some (Out.nx _) | _ => none) = (fa ρ).bind _
        cases fa ρ with
        | none => rfl
        | some p =>
          obtain ⟨y, ρ1⟩ := p
          cases y <;> rfl
      | _ =>
        show none = (fa ρ).bind _
        cases fa ρ with
        | none => rfl
        | some p =>
          obtain ⟨y, ρ1⟩ := p
          cases y <;> rfl
end
theorem le_line {n : Nat} (h : n ≤ 1000000) : (n ≤ sizeLine) = True := eq_true (line_of h)
theorem lt_line {n : Nat} (h : n ≤ 1000000) : (n < sizeLine) = True := eq_true (Nat.lt_of_le_of_lt h (by decide))
theorem sIx_pos {n d : Nat} {k : Int} (h : 0 ≤ k) : HT.sIx n d (some k) = min k.toNat n := by
  show (if k < 0 then (k + (n : Int)).toNat else min k.toNat n) = _
  rw [if_neg (by omega)]
theorem cutD_to (xs : List D) {k : Int} (h : 0 ≤ k) : cutD xs none (some k) = xs.take k.toNat := by
  unfold cutD
  rw [sIx_pos h, HT.sIx_none, List.drop_zero, Nat.sub_zero]
  exact List.take_eq_take_min.symm
theorem cutD_from (xs : List D) {k : Int} (h : 0 ≤ k) : cutD xs (some k) none = xs.drop k.toNat := by
  unfold cutD
  rw [sIx_pos h, HT.sIx_none]
  by_cases hk : k.toNat ≤ xs.length
  · rw [Nat.min_eq_left hk]
    exact List.take_of_length_le (by rw [List.length_drop]; exact Nat.le_refl _)
  · rw [Nat.min_eq_right (by omega), List.drop_eq_nil_of_le (Nat.le_refl _), List.drop_eq_nil_of_le (by omega)]
    simp
theorem dSl_tto {xs : List D} {k : Int} (h0 : 0 ≤ k) (h : k < (xs.length : Int)) : dSl (.tup xs) none (some k) = some (.tup (xs.take k.toNat)) := by
  show (if HT.sIx xs.length 0 none = 0 ∧ HT.sIx xs.length xs.length (some k) = xs.length then none else some (D.tup (cutD xs none (some k)))) = _
  rw [sIx_pos h0, if_neg (by omega), cutD_to xs h0]
theorem dSl_tfrom {xs : List D} {k : Int} (h0 : 0 < k) (h : xs ≠ []) : dSl (.tup xs) (some k) none = some (.tup (xs.drop k.toNat)) := by
  have hl : 0 < xs.length := List.length_pos_iff.mpr h
  show (if HT.sIx xs.length 0 (some k) = 0 ∧ HT.sIx xs.length xs.length none = xs.length then none else some (D.tup (cutD xs (some k) none))) = _
  rw [sIx_pos (by omega), if_neg (by omega), cutD_from xs (by omega)]
theorem dSl_lto {xs : List D} {k : Int} (h0 : 0 ≤ k) : dSl (.lst xs) none (some k) = some (.lst (xs.take k.toNat)) := by
  show some (D.lst (cutD xs none (some k))) = _
  rw [cutD_to xs h0]
theorem dSl_lfrom {xs : List D} {k : Int} (h0 : 0 ≤ k) : dSl (.lst xs) (some k) none = some (.lst (xs.drop k.toNat)) := by
  show some (D.lst (cutD xs (some k) none)) = _
  rw [cutD_from xs h0]
end L2
set_option Elab.async false
set_option linter.all false
set_option maxRecDepth 100000
set_option maxHeartbeats 4000000
namespace L2
open PySem PySem.Spec PyProof.Rows
section
variable {X : Cx} {a : Expr} {ta : TE} {p pos : Pos} {elts : List Expr} {x1 : Nat} {tp : Pos}
end
noncomputable def enumD (xs : List D) : List D := xs.zipIdx.map fun q => D.tup [.int (q.2 : Int), q.1]
section
variable {K : PySem.W.Frag} {O : List Nat} {t : TE} {fa : Rho → Option (D × Rho)}
noncomputable def mEnum (f : Rho → Option (D × Rho)) : Rho → Option (List D × Rho) := mBind f fun d => mLift (match d with
  | .lst xs => some (enumD xs)
  | _ => none)
noncomputable def enumO : D → Option (List D)
  | .lst xs => some (enumD xs)
  | _ => none
theorem ev_enum {ρ : Rho} : mEnum fa ρ = (fa ρ).bind fun p => (enumO p.1).map fun x => (x, p.2) := by
  unfold mEnum
  rw [ev_bind]
  congr 1; funext p
  rw [ev_lift]
  cases p.1 <;> rfl
end
section
variable {X : Cx} {K : PySem.W.Frag} {c : MC} {O O' : List Nat} {t : TE} {fa : Rho → Option (D × Rho)}
noncomputable def sExtT (i : Nat) (fa : Rho → Option (D × Rho)) : Rho → Option Out := fun ρ => if isL ρ i = true then (match fa ρ with
  | some (.tup ys, ρ1) => match ρ1[i]? with
    | some (some (.lst xs)) => if xs.length + ys.length ≤ sizeLine then some (.nx (ρ1.set i (some (.lst (xs ++ ys))))) else none
    | _ => none
  | _ => none) else none
end
section
variable {ρ : Rho} {fa fb : Rho → Option (D × Rho)} {fs : Rho → Option (List D × Rho)}
noncomputable def tupO : D → Option (List D)
  | .tup xs => some xs
  | _ => none
theorem ev_sextT {i : Nat} : sExtT i fa ρ = ((ρ[i]?).join.bind lsO).bind fun _ => (fa ρ).bind fun p => (tupO p.1).bind fun ys => ((p.2[i]?).join.bind lsO).bind fun xs => if xs.length + ys.length ≤ sizeLine then some (.nx (p.2.set i (some (.lst (xs ++ ys))))) else none := by
  refine Eq.trans ?_ (isL_bind _ _)
  unfold sExtT
  congr 1
  cases fa ρ with
  | none => rfl
  | some p =>
    obtain ⟨d, ρ1⟩ := p
    cases d with
    | tup ys =>
      show (match ρ1[i]? with | some (some (.lst xs)) => _ | _ => none) = ((ρ1[i]?).join.bind lsO).bind _
      cases h : ρ1[i]? with
      | none => rfl
      | some o =>
        cases o with
        | none => rfl
        | some d => cases d <;> rfl
    | _ => rfl
noncomputable def repO (xs : List D) : D → Option (List D)
  | .int k => if -(2 ^ 63) ≤ k ∧ k < 2 ^ 63 ∧ xs.length * k.toNat ≤ sizeLine then some (List.replicate k.toNat xs).flatten else none
  | _ => none
theorem ev_rep : mRep fs fb ρ = (fs ρ).bind fun p => (fb p.2).bind fun q => (repO p.1 q.1).map fun x => (x, q.2) := by
  unfold mRep
  rw [ev_bind]
  congr 1; funext p
  rw [ev_bind]
  congr 1; funext q
  rw [ev_lift]
  cases q.1 <;> rfl
theorem rep_at {ρ1 ρ2 : Rho} {xs zs : List D} {y : D} (h1 : fs ρ = some (xs, ρ1)) (h2 : fb ρ1 = some (y, ρ2)) (h3 : repO xs y = some zs) : mRep fs fb ρ = some (zs, ρ2) := by
  rw [ev_rep, h1]
  show (fb ρ1).bind _ = _
  rw [h2]
  show (repO xs y).map _ = _
  rw [h3]
  rfl
theorem rep_one (x : D) {k : Int} (h0 : 0 ≤ k) (h : k ≤ 1000000) : repO [x] (.int k) = some (List.replicate k.toNat x) := by
  have hz : [x].length * k.toNat ≤ sizeLine := by rw [List.length_singleton, Nat.one_mul]; exact line_of (by omega)
  show (if -(2 ^ 63) ≤ k ∧ k < 2 ^ 63 ∧ [x].length * k.toNat ≤ sizeLine then some (List.replicate k.toNat [x]).flatten else none) = _
  rw [if_pos ⟨by omega, by omega, hz⟩, List.flatten_replicate_singleton]
noncomputable def dvm : List D → Option D
  | [.int i, .int j] => if 0 < j ∧ j < 1073741824 then some (.tup [.int (i / j), .int (i % j)]) else none
  | _ => none
theorem ev_divmod : mDivmod fs ρ = (fs ρ).bind fun p => (dvm p.1).map fun x => (x, p.2) := by
  unfold mDivmod
  rw [ev_bind]
  congr 1; funext p
  rw [ev_lift]
  rfl
theorem zipD_ints (xs ys : List Int) : zipD (xs.map D.int) (ys.map D.int) = (xs.zip ys).map fun q => D.tup [.int q.1, .int q.2] := by
  unfold zipD
  rw [List.zipWith_map, List.zip, List.map_zipWith]
end
end L2
set_option Elab.async false
set_option linter.all false
set_option maxRecDepth 100000
set_option maxHeartbeats 4000000
namespace L2
open PySem PySem.Spec PyProof.Rows
section
variable {prog : Program} {w : World} {A : Around} {E : Value → Shared → Prop} {s : Shared} {a₀ : Array Keyed}
end
section
variable {X : Cx} {K : PySem.W.Frag}
end
section
variable {K : PySem.W.Frag} {O : List Nat} {t tb : TE} {fa fb : Rho → Option (D × Rho)}
noncomputable def dUp : D → Option (List D)
  | .lst ds => match intsD ds with
    | some ns => if ns.Pairwise (· ≤ ·) then some ds else none
    | none => none
  | _ => none
noncomputable def dCnt (x y : D) : Option D := match x, y with
  | .lst ds, .int k => (intsD ds).map fun ns => .int (ns.count k : Nat)
  | _, _ => none
noncomputable def dCntT (x y : D) : Option D := match x, y with
  | .tup ds, .int k => (intsD ds).map fun ns => .int (ns.count k : Nat)
  | _, _ => none
noncomputable def mLend (f : Rho → Option (Bool × Rho)) : Rho → Option (Bool × Rho) := fun ρ => (f ρ).map fun p => (p.1, ρ)
end
end L2
set_option Elab.async false
set_option linter.all false
set_option maxRecDepth 100000
set_option maxHeartbeats 4000000
namespace L2
open PySem PySem.Spec PyProof.Rows
section
variable {X : Cx}
end
end L2
set_option Elab.async false
set_option linter.all false
set_option maxRecDepth 100000
set_option maxHeartbeats 4000000
namespace L2
open PySem PySem.Spec PyProof.Rows
section
variable {X : Cx}
end
section
variable {K : PySem.W.Frag} {O : List Nat} {t tb : TE} {fa fb : Rho → Option (D × Rho)}
end
section
variable {c : MC} {O O' : List Nat} {te : TE} {fe : Rho → Option (D × Rho)}
end
end L2
set_option Elab.async false
set_option linter.all false
set_option maxRecDepth 100000
set_option maxHeartbeats 4000000
namespace L2
open PySem PySem.Spec PyProof.Rows
noncomputable def runS1 (fr : Bool) (n N : Nat) (f : Rho → Option Out) (xs ds : List D) : Option (D × List D) := match ds with
  | [] => none
  | d0 :: ds => if ds.length + 2 = n then match f (some d0 :: some (.lst xs) :: (ds.map some ++ List.replicate (N - n) none)) with
    | some (.rt d ρ) => (match (ρ[1]? : Option (Option D)) with
      | some (some (D.lst ys)) => some (d, ys)
      | _ => none)
    | some (.nx ρ) => if fr = true then none else (match (ρ[1]? : Option (Option D)) with
      | some (some (D.lst ys)) => some (.non, ys)
      | _ => none)
    | _ => none
  else none
section
variable {K : PySem.W.Frag} {O : List Nat} {tr : TA} {fs : Rho → Option (List D × Rho)} {E : XK} {n : Nat}
noncomputable def mCallS1 (f : List D → List D → Option (D × List D)) (i : Nat) (f0 : Rho → Option (D × Rho)) (fs : Rho → Option (List D × Rho)) : Rho → Option (D × Rho) := mBind f0 fun d0 => mBind fs fun ds ρ => match ρ[i]? with
  | some (some (.lst xs)) => match f xs (d0 :: ds) with
    | some (d, ys) => some (d, ρ.set i (some (.lst ys)))
    | none => none
  | _ => none
end
section
variable {X : Cx} {K : PySem.W.Frag} {o e : Expr} {es : List Expr} {to : TE} {t : TA} {name : Str} {apos cpos : Pos} {T id : String} {r : V → List V → Hp → VK → Prop}
end
end L2
set_option Elab.async false
set_option linter.all false
set_option maxRecDepth 100000
set_option maxHeartbeats 4000000
namespace L2
open PySem PySem.NumText
end L2
set_option Elab.async false
set_option linter.all false
set_option maxRecDepth 100000
set_option maxHeartbeats 4000000
namespace L2
open PySem PySem.NumText
end L2
set_option Elab.async false
set_option linter.all false
set_option maxRecDepth 100000
set_option maxHeartbeats 4000000
namespace L2
noncomputable def parF : Nat → Nat → Nat
  | 0, _ => 0
  | f + 1, n => (n % 2 + parF f (n / 2)) % 2
theorem parF_zero : ∀ f, parF f 0 = 0
  | 0 => rfl
  | f + 1 => by unfold parF; rw [show (0 : Nat) / 2 = 0 from rfl, parF_zero f]
theorem parF_lt : ∀ f n, parF f n < 2
  | 0, _ => Nat.zero_lt_two
  | f + 1, n => Nat.mod_lt _ (by decide)
noncomputable def sgn (win tap : Int) : Int := (parF 5 (win.toNat &&& tap.toNat) : Nat)
noncomputable def pickR (row : List Int) (signs : List Int) : List Int := ((signs.zip row).filter fun q => q.2 == 1).map (·.1)
theorem pickR_map (row taps : List Int) (g : Int → Int) : pickR row (taps.map g) = ((taps.zip row).filter fun q => q.2 == 1).map fun q => g q.1 := by
  unfold pickR
  rw [List.zip_map_left, List.filter_map, List.map_map]
  rfl
noncomputable def rowAt (rows : List (List Int)) (k : Nat) : List Int := (rows[k % rows.length]?).getD []
theorem flat_snoc {α : Type} (f : Nat → List α) (k : Nat) : (List.range (k + 1)).flatMap f = (List.range k).flatMap f ++ f k := by
  rw [List.range_succ, List.flatMap_append]
  simp
theorem flat_len {α : Type} (f : Nat → List α) (m : Nat) (h : ∀ k, (f k).length ≤ m) : ∀ n, ((List.range n).flatMap f).length ≤ n * m
  | 0 => by simp
  | n + 1 => by
    rw [flat_snoc, List.length_append]
    have := flat_len f m h n
    have := h n
    rw [Nat.succ_mul]
    omega
noncomputable def selK (taps : List Int) (rows : List (List Int)) (k : Nat) : List (Int × Int) := (taps.zip (rowAt rows k)).filter fun q => q.2 == 1
end L2
namespace L2
open PySem
noncomputable def rowD (row : List Int) : D := .tup (row.map D.int)
noncomputable def schD (r : Int) (taps : List Int) (rows : List (List Int)) (e : Str) : D := .tup [.int r, .tup (taps.map D.int), .tup (rows.map rowD), .str e]
structure SchOk (r : Int) (taps : List Int) (rows : List (List Int)) (e : Str) : Prop where
  r0 : 0 ≤ r
  r4 : r ≤ 4
  t1 : 1 ≤ taps.length
  t4 : taps.length ≤ 4
  tb : ∀ t ∈ taps, 0 ≤ t ∧ t < 2 * 2 ^ r.toNat
  m1 : 1 ≤ rows.length
  m6 : rows.length ≤ 6
  rw : ∀ row ∈ rows, row.length = taps.length ∧ ∀ b ∈ row, b = 0 ∨ b = 1
  en : e = "open" ∨ e = "ended" ∨ e = "ring"
theorem ints_of {P : Int → Prop} : ∀ {ys : List D}, (∀ y ∈ ys, ∃ t, y = .int t ∧ P t) → ∃ ts : List Int, ys = ts.map D.int ∧ ∀ t ∈ ts, P t
  | [], _ => ⟨[], rfl, fun _ h => nomatch h⟩
  | y :: ys, h => by
    obtain ⟨t, rfl, ht⟩ := h y List.mem_cons_self
    obtain ⟨ts, rfl, hs⟩ := ints_of (P := P) fun z hz => h z (List.mem_cons_of_mem _ hz)
    refine ⟨t :: ts, rfl, fun u hu => ?_⟩
    rcases List.mem_cons.mp hu with rfl | hu
    · exact ht
    · exact hs u hu
theorem s_or : eqD (.str "open") (.str "ring") = some false := by rw [eqD_str (by decide +kernel) (by decide +kernel)]; decide +kernel
theorem s_er : eqD (.str "ended") (.str "ring") = some false := by rw [eqD_str (by decide +kernel) (by decide +kernel)]; decide +kernel
theorem s_rr : eqD (.str "ring") (.str "ring") = some true := by rw [eqD_str (by decide +kernel) (by decide +kernel)]; decide +kernel
theorem s_oe : eqD (.str "open") (.str "ended") = some false := by rw [eqD_str (by decide +kernel) (by decide +kernel)]; decide +kernel
theorem s_ee : eqD (.str "ended") (.str "ended") = some true := by rw [eqD_str (by decide +kernel) (by decide +kernel)]; decide +kernel
theorem s_re : eqD (.str "ring") (.str "ended") = some false := by rw [eqD_str (by decide +kernel) (by decide +kernel)]; decide +kernel
theorem at_last {α : Type} (xs : List α) (x : α) : atI (xs ++ [x]) (-1) = some x := by
  unfold atI ixN
  have h1 : ¬ ((0 : Int) ≤ -1) := by decide
  have h2 : (-(((xs ++ [x]).length : Nat) : Int) ≤ -1) := by rw [List.length_append, List.length_singleton]; omega
  have h3 : ((-1 : Int) + (((xs ++ [x]).length : Nat) : Int)).toNat = xs.length := by rw [List.length_append, List.length_singleton]; omega
  rw [if_neg h1, if_pos h2, h3]
  show (xs ++ [x])[xs.length]? = some x
  rw [List.getElem?_append_right (Nat.le_refl _), Nat.sub_self]
  rfl
noncomputable def isRing (e : Str) : Bool := decide (e = "ring")
noncomputable def zerosR (r : Int) (e : Str) : Nat := if e = "ended" then r.toNat else 0
theorem and_one {x : Int} (h : 0 ≤ x) : Builtin.bitAnd x 1 = x % 2 := by
  unfold Builtin.bitAnd
  rw [decide_eq_true h, decide_eq_true (by decide : (0 : Int) ≤ 1)]
  show ((x.toNat &&& 1 : Nat) : Int) = x % 2
  rw [Nat.and_one_is_mod]
  omega
theorem and_nat {x y : Int} (h : 0 ≤ x) (g : 0 ≤ y) : Builtin.bitAnd x y = ((x.toNat &&& y.toNat : Nat) : Int) := by
  unfold Builtin.bitAnd
  rw [decide_eq_true h, decide_eq_true g]
theorem xor_bits {x y : Int} (h : x = 0 ∨ x = 1) (g : y = 0 ∨ y = 1) : Builtin.bitXor x y = (x + y) % 2 := by
  rcases h with rfl | rfl <;> rcases g with rfl | rfl <;> decide
theorem pow_le4 {r : Int} (r0 : 0 ≤ r) (r4 : r ≤ 4) : (1 : Int) ≤ 2 ^ r.toNat ∧ (2 : Int) ^ r.toNat ≤ 16 := by
  rcases (by omega : r = 0 ∨ r = 1 ∨ r = 2 ∨ r = 3 ∨ r = 4) with rfl | rfl | rfl | rfl | rfl <;> decide
end L2
set_option Elab.async false
set_option linter.all false
set_option maxRecDepth 100000
set_option maxHeartbeats 4000000
namespace L2
open PySem PySem.Spec
section
variable {fa : Rho → Option (D × Rho)} {fl fh : Rho → Option (Option Int × Rho)} {ρ : Rho}
end
end L2
set_option Elab.async false
set_option linter.all false
set_option maxRecDepth 100000
set_option maxHeartbeats 4000000
namespace L2
open PySem PySem.Spec
noncomputable def DOk (n : Nat) (d : D) : Prop := ∃ p, d.toP = some p ∧ p.canLay0 = true ∧ p.depth ≤ n
noncomputable def DOks (n : Nat) (ds : List D) : Prop := ∃ ps, D.toPs ds = some ps ∧ PyData.canLayAll0 ps = true ∧ PyData.depthAll ps ≤ n
theorem DOk.int (n : Nat) (i : Int) : DOk n (.int i) := ⟨.int i, by simp only [D.toP], by simp only [PyData.canLay0], by simp only [PyData.depth]; exact Nat.zero_le _⟩
theorem DOk.bl (n : Nat) (i : Bool) : DOk n (.bl i) := ⟨.bool i, by simp only [D.toP], by simp only [PyData.canLay0], by simp only [PyData.depth]; exact Nat.zero_le _⟩
theorem DOk.str (n : Nat) {x : Str} (h : PyData.strOk x = true) : DOk n (.str x) := ⟨.str x, by simp only [D.toP], by simp only [PyData.canLay0]; exact h, by simp only [PyData.depth]; exact Nat.zero_le _⟩
theorem DOks.nil (n : Nat) : DOks n [] := ⟨[], by simp only [D.toPs], by simp only [PyData.canLayAll0], by simp only [PyData.depthAll]; exact Nat.zero_le _⟩
theorem DOks.cons {n : Nat} {d : D} {ds : List D} (h : DOk n d) (r : DOks n ds) : DOks n (d :: ds) := by
  obtain ⟨p, h1, h2, h3⟩ := h
  obtain ⟨ps, g1, g2, g3⟩ := r
  refine ⟨p :: ps, by simp only [D.toPs, h1, g1], by simp only [PyData.canLayAll0, h2, g2]; rfl, ?_⟩
  simp only [PyData.depthAll]
  exact Nat.max_le.mpr ⟨h3, g3⟩
theorem DOks.all {n : Nat} : ∀ {ds : List D}, (∀ d ∈ ds, DOk n d) → DOks n ds
  | [], _ => DOks.nil n
  | d :: ds, h => DOks.cons (h d List.mem_cons_self) (DOks.all fun x hx => h x (List.mem_cons_of_mem _ hx))
theorem DOks.lst {n : Nat} {ds : List D} (h : DOks n ds) : DOk (n + 1) (.lst ds) := by
  obtain ⟨ps, g1, g2, g3⟩ := h
  exact ⟨.list ps, by simp only [D.toP, g1]; rfl, by simp only [PyData.canLay0]; exact g2, by simp only [PyData.depth]; omega⟩
theorem DOks.tup {n : Nat} {ds : List D} (h : DOks n ds) : DOk (n + 1) (.tup ds) := by
  obtain ⟨ps, g1, g2, g3⟩ := h
  exact ⟨.tuple ps, by simp only [D.toP, g1]; rfl, by simp only [PyData.canLay0]; exact g2, by simp only [PyData.depth]; omega⟩
theorem eqD_self {n : Nat} {d : D} (h : DOk n d) (hn : n ≤ 64) : eqD d d = some true := by
  obtain ⟨p, h1, h2, h3⟩ := h
  have hs : SeqAt.shaped p = true := by
    unfold SeqAt.shaped
    rw [h2, decide_eq_true (by omega : p.depth ≤ 64)]
    rfl
  unfold eqD
  rw [h1]
  show (if SeqAt.shaped p = true ∧ SeqAt.shaped p = true then some (PyData.eqv p p) else none) = some true
  rw [if_pos ⟨hs, hs⟩, SeqAt.eqv_refl p h2]
theorem DOk.ints (xs : List Int) : DOk 1 (.lst (xs.map D.int)) := DOks.lst (.all fun d hd => by
  obtain ⟨i, _, rfl⟩ := List.mem_map.mp hd
  exact .int _ i)
theorem DOk.le {n m : Nat} {d : D} (h : DOk n d) (hn : n ≤ m) : DOk m d := by
  obtain ⟨p, h1, h2, h3⟩ := h
  exact ⟨p, h1, h2, by omega⟩
end L2
namespace L2
open PySem PySem.Spec
end L2
set_option Elab.async false
set_option linter.all false
set_option maxRecDepth 100000
set_option maxHeartbeats 4000000
namespace L2
open PySem PySem.Spec PyProof.Rows
section
variable {X : Cx}
end
section
variable {K : PySem.W.Frag} {O : List Nat} {t tb : TE} {fa fb : Rho → Option (D × Rho)}
end
end L2
set_option Elab.async false
set_option linter.all false
set_option maxRecDepth 100000
set_option maxHeartbeats 4000000
namespace L2
open PySem PySem.Spec
end L2
set_option Elab.async false
set_option linter.all false
set_option maxRecDepth 100000
set_option maxHeartbeats 4000000
namespace L2
open PySem PySem.Spec PyProof.Rows
section
variable {X : Cx}
end
section
variable {K : PySem.W.Frag} {O : List Nat} {t tb : TE} {fa fb : Rho → Option (D × Rho)}
end
end L2
set_option Elab.async false
set_option linter.all false
set_option maxRecDepth 100000
set_option maxHeartbeats 4000000
namespace L2
open PySem PySem.Spec PyProof.Rows
section
variable {X : Cx} {pins : List (Addr × Obj)} {σ : St} {CX : CXT} {k : Nat} {f : Addr} {fd : FuncData} {ps : List Str} {sp : Sp} {dvs : List V} {ds : List Value} {E : XK} {x : Str} {p pos : Pos} {e : Expr} {es : List Expr} {t : TA} {i : Nat}
theorem PEat.or {e : Expr} {t u : TE} (h : PEat X pins σ e t) (k : PEat X pins σ e u) : PEat X pins σ e fun σ H Q => t σ H Q ∨ u σ H Q := fun s H Q I q => by
  rcases q with q | q
  · exact h s H Q I q
  · exact k s H Q I q
end
section
variable {K : PySem.W.Frag} {O : List Nat} {tr : TA} {fs : Rho → Option (List D × Rho)} {E : XK} {n : Nat}
end
end L2
set_option Elab.async false
set_option linter.all false
set_option maxRecDepth 100000
set_option maxHeartbeats 4000000
namespace L2
open PySem PySem.Spec PyProof.Rows
noncomputable def sk (x : Str) : String := if x.cps.all (· < 128) = true then "str_ascii_iterator" else "str_iterator"
noncomputable def strObj (x : Str) (t : Tok) : Obj := { cls := .type (sk x), data := .fields #[.str x t, .int 0 0] }
section
variable {prog : Program} {w : World} {A : Around} {E : Value → Shared → Prop} {s : Shared}
noncomputable abbrev zs1 (b1 : Bool) (h : Heap) (l1 : Addr) : Heap := h.push (iterObj b1 l1)
noncomputable abbrev zs2 (b1 : Bool) (h : Heap) (l1 : Addr) (x2 : Str) (t2 : Tok) : Heap := (zs1 b1 h l1).push (strObj x2 t2)
end
section
variable {X : Cx} {a b : Expr} {ta : TA} {p pos : Pos} {elts : List Expr} {x1 : Nat} {tp : Pos}
end
section
variable {K : PySem.W.Frag} {O : List Nat} {tr : TA} {fs : Rho → Option (List D × Rho)}
end
end L2
set_option Elab.async false
set_option linter.all false
set_option maxRecDepth 100000
set_option maxHeartbeats 4000000
namespace L2
open PySem PySem.Spec PySem.NumText
section
variable {K : PySem.W.Frag} {O : List Nat} {E : XK}
end
end L2
set_option Elab.async false
set_option linter.all false
set_option maxRecDepth 100000
set_option maxHeartbeats 4000000
namespace L2
open PySem PySem.Spec PyProof.Rows
section
variable {c : MC} {O O' : List Nat} {te : TE} {fa : Rho → Option (D × Rho)}
end
end L2
set_option Elab.async false
set_option linter.all false
set_option maxRecDepth 100000
set_option maxHeartbeats 4000000
namespace L2
open PySem PySem.Spec PyProof.Rows
section
variable {M : Model} {A : Around} {E : Value → Shared → Prop} {s : Shared} {B : Heap} {env : Env} {outer l : List Env} {L e : Addr} {cls fl : Value} {Q : Unit → Shared → Prop}
theorem frs_but {B B' h h' : Heap} {C : Addr} (hB : ∀ b, B.get? b = none → B'.get? b = none) (hh : ∀ b o, b ≠ C → h.get? b = some o → h'.get? b = some o) : ∀ {l : List Env}, h.FunFrames B l → C ∉ l.filterMap (·.frame) → h'.FunFrames B' l
  | [], _, _ => trivial
  | env :: _, ⟨hk, ⟨L, o, hf, hn, ho, hd⟩, hr⟩, hc => by
    rw [List.filterMap_cons, hf] at hc
    exact ⟨hk, ⟨L, o, hf, hB _ hn, hh L o (fun z => hc (by rw [← z]; exact List.mem_cons_self)) ho, hd⟩, frs_but hB hh hr fun z => hc (List.mem_cons_of_mem _ z)⟩
theorem FlyD.butC {C : Addr} {h h' : Heap} {oC : Obj} (F : FlyD B l e cls fl h) (hC : B.get? C = some oC) (hl : C ∉ l.filterMap (·.frame)) (hs : Heap.SameBut C h h') : FlyD (PySem.W.hideAll B [C]) l e cls fl h' := by
  have hB : ∀ b, B.get? b = none → (PySem.W.hideAll B [C]).get? b = none := fun b hb => by
    cases q : (PySem.W.hideAll B [C]).get? b with
    | none => rfl
    | some o => rw [PySem.W.of_hideAll _ q] at hb; cases hb
  have ne : ∀ b, B.get? b = none → b ≠ C := fun b hb z => by rw [z, hC] at hb; cases hb
  obtain ⟨oe, vs, T, oT, ts, he, hc, hdn, hd, h1, hnT, hTe, hT, hdT, h3⟩ := F.ex
  refine ⟨fun b o q => ?_, hB e F.new, frs_but hB (fun b o n q => hs.extBut b o n q) F.fr hl, oe, vs, T, oT, ts, hs.extBut e oe (ne e F.new) he, hc, hdn, hd, h1, hB T hnT, hTe, hs.extBut T oT (ne T hnT) hT, hdT, h3⟩
  have nb : b ≠ C := fun z => by rw [z, PySem.W.hideAll_none [C] (.head _)] at q; cases q
  exact hs.extBut b o nb (F.st b o (PySem.W.of_hideAll _ q))
end
section
variable {X : Cx} {pins : List (Addr × Obj)} {σ : St} {H H' : Hp} {s : Shared}
end
noncomputable def PassN (X : Cx) (E : XK) : Prop := ∀ (pins : List (Addr × Obj)) (σ : St) (H : Hp) (s : Shared) (C : Addr) (oC : Obj) (e : Value) (s' : Shared), Inv X pins σ H s → CX1 X.prog X.w X.stack H s E e s' → s.heap.get? C = some oC → H C = none → X.s₀.heap.objs.size ≤ C → C ∉ frs X.stack →
  wpAny (model X.prog X.w) X.A (noteFrame e X.env) (fun _ s2 => s2.heap.get? C = some oC ∧ ∀ h', Heap.SameBut C s2.heap h' → ∀ (what : String) (cenv : Env), wpAny (model X.prog X.w) X.A (PySem.passOn what e cenv : Sem Value) (fun _ _ => False) X.xe { s2 with heap := h' }) (fun _ _ => False) s'
section
variable {P : Program} {w : World} {K : PySem.W.Frag} {mg : Str → Option Value} {base : Heap} {N : List Str} {qual : Str} {scope : Scope} {f : Addr} {cd : Value} {A : Around} {outer : List Env} {s₀ : Shared} {H₀ : Hp} {E : XK}
end
noncomputable def cxY (X : Cx) (E : XK) (N : List Str) (scope : Scope) (s : Shared) (H : Hp) (C : Addr) (cl : List (Str × Addr)) (fp : List Addr) : Cx :=
  (cxB X N scope s H C cl fp).wish fun e s' => ∃ p σ8 H8 s8, Inv (cxB X N scope s H C cl fp) p σ8 H8 s8 ∧ CX1 X.prog X.w X.stack H8 s8 E e s'
theorem comp_loopX {XE : Value → Shared → Prop} {prog : Program} {w : World} {A : Around} {R : Result → Shared → Prop} {s : Shared} {elt target iter : Expr} {ifs : List Expr} {scope : Scope} {pos : Pos} {it acc : Value} {env : Env} (hx : ∀ e s, XE e s → notedBy (model prog w) A env (fun e s' => R (.error e) s') e s) (I : Nat → Shared → Prop)
    (turn : ∀ n s, I n s → wpAny (model prog w) A (pyNext it) (fun r s₁ => (r = none ∧ R (.ok .next) s₁) ∨ ∃ v, r = some v ∧ wpAny (model prog w) A (letOwnedTupleGo target it v) (fun _ s₀ =>
      wpAny (model prog w) A (assign target env v) (fun _ s₂ =>
        wpAny (model prog w) A (forIn ifs true fun c r => if r = true then do let ok ← isTrue c env (eval c env); pure (ForInStep.yield ok) else pure (ForInStep.yield r)) (fun ok s₃ =>
          if ok = true then wpAny (model prog w) A (eval elt env) (fun x s₄ => wpAny (model prog w) A (call (.builtin "list.append") [acc, x]) (fun _ s₅ => ∃ m, m < n ∧ I m s₅) (fun _ _ => False) s₄) XE s₃
          else ∃ m, m < n ∧ I m s₃) XE s₂) XE s₀) (fun _ _ => False) s₁) (fun _ _ => False) s)
    (n : Nat) (h : I n s) : codeAny (model prog w) A (.compLoop (.ListComp elt [⟨target, iter, ifs, 0⟩] scope pos) 0 it acc env) R s := by
  have no : ∀ {E : Value → Shared → Prop} (x : Value) (z : Shared), False → E x z := fun _ _ f => f.elim
  refine codeAny_loop rfl I (fun n s hI => ?_) n h
  show wpAny _ A ((compTurn (.ListComp elt [⟨target, iter, ifs, 0⟩] scope pos) 0 it acc env).onRaise (fun x => do noteFrame x env; theTreesLotGoes x)) _ _ s
  refine wpAny_noted ?_
  rw [compTurn_list]
  refine wpAny_bind (wpAny_standAt (wpAny_bind (wpAny_mono (turn n s hI) (fun r s₁ h₁ => ?_) no)))
  rcases h₁ with ⟨e, h₁⟩ | ⟨v, e, h₁⟩
  · subst e
    exact wpAny_pure h₁
  · subst e
    refine wpAny_bind (wpAny_mono h₁ (fun _ s₀ h₀ => wpAny_bind (wpAny_mono h₀ (fun _ s₂ h₂ => wpAny_bind (wpAny_mono h₂ (fun ok s₃ h₃ => ?_) hx)) hx)) no)
    cases ok with
    | false => exact wpAny_pure ⟨rfl, h₃⟩
    | true =>
      have q : wpAny (model prog w) A (eval elt env) _ _ s₃ := h₃
      exact wpAny_bind (wpAny_bind (wpAny_mono q (fun x s₄ h₄ => wpAny_bind (wpAny_mono h₄ (fun _ s₅ h₅ => wpAny_pure (wpAny_pure ⟨rfl, h₅⟩)) no)) hx))
section
variable {X : Cx} {tg elt iter : Expr} {ifs : List Expr} {scope : Scope} {pos : Pos} {N N0 : List Str} {n : Nat} {js : List Nat} {sc : Scope} {wi : TI} {g : TG} {tt : TT} {te : TE}
theorem comp_blockX {EX : XK} {pins : List (Addr × Obj)} {σ : St} {H : Hp} {s : Shared} {it : Addr} {fp : List Addr} {tn : Nat → Heap → Prop} {J : It} {cl : List (Str × Addr)} {Fin : List V → Hp → Prop} {RR : Value → Addr → Result → Shared → Prop} {E : Value → Shared → Prop}
    (hNx : PassN X EX) (hc : X.calm = true) (hsc : X.env.scope = sc) (hN0 : X.N = N0) (ok : compOk sc N0 N n js scope = true)
    (hg : ∀ s H C cl fp, PG (cxY X EX N scope s H C cl fp) tg g) (hgo : Own n g) (ht : ∀ s H C cl fp, PIf (cxY X EX N scope s H C cl fp) ifs tt) (he : ∀ s H C cl fp, PE (cxY X EX N scope s H C cl fp) elt te)
    (I : Inv X pins σ H s) (T : Turn X.prog X.w X.K tg J fp it tn) (st : tn 0 s.heap) (fo : ∀ b ∈ fp, FpOk X pins H b)
    (hcl : ∀ x c, cl.lookup x = some c → X.env.cells.lookup x = some c) (hcl2 : ∀ y ∈ scope.names, y.2 = .free → ∃ c, cl.lookup y.1 = some c)
    (G : cGo g tt te (caps n js σ) Fin J H)
    (k : ∀ (D C : Addr) (oC : Obj) (m : Str → Option Value) (ys : List V) (H' : Hp) (s' : Shared), Inv X (pins ++ [(C, oC)]) σ (upd H' D (.lst ys)) s' → H' D = none → s'.heap.Ns C m → X.s₀.heap.objs.size ≤ C → C ≠ X.env.locals → (∀ x c, X.env.cells.lookup x = some c → c ≠ C) →
      (∀ p ∈ X.pn ++ pins, p.1 ≠ C) → upd H' D (.lst ys) C = none → Fin ys H' → RR (.ref D) C (.ok .next) s')
    (kx : ∀ (D C : Addr) (m : Str → Option Value) (e : Value) (s2 : Shared), s2.heap.Ns C m → (∀ h', Heap.SameBut C s2.heap h' → ∀ (what : String) (cenv : Env), wpAny (model X.prog X.w) X.A (PySem.passOn what e cenv : Sem Value) (fun _ _ => False) X.xe { s2 with heap := h' }) → RR (.ref D) C (.error e) s2) :
    wpAny (model X.prog X.w) X.A (newList []) (fun acc s₃ => wpAny (model X.prog X.w) X.A (newFunctionEnv scope X.env.globals cl [] X.env.qual none .none (some X.env)) (fun cenv s₄ =>
      codeAny (model X.prog X.w) X.A (.compStart (.ListComp elt [⟨tg, iter, ifs, 0⟩] scope pos) 0 (.ref it) acc { cenv with scope := relabel scope X.env }) (RR acc cenv.locals) s₄) E s₃) E s := by
  simp only [compOk, Bool.and_eq_true, decide_eq_true_eq, List.all_eq_true, Bool.or_eq_true] at ok
  obtain ⟨⟨⟨⟨⟨⟨⟨kind, cell⟩, free⟩, nms⟩, cap⟩, lc⟩, lf⟩, len⟩ := ok
  subst hN0 hsc
  refine wpAny_newObj_type (wpAny_newFunctionEnv cell (by intro y hy; simp at hy) (fun h1 ns1 sb1 => ?_) kind)
  dsimp only at ns1 sb1 ⊢
  generalize eG : s.heap.push { cls := .type "list", dict := none, data := .seq ([] : List Value).toArray } = G2 at ns1 sb1 ⊢
  have eC : G2.objs.size = s.heap.objs.size + 1 := by rw [← eG, Heap.size_push]
  generalize eCC : G2.objs.size = C at ns1 sb1 eC ⊢
  generalize eD : s.heap.objs.size = D at eC ⊢
  have ltD : ∀ b o, s.heap.get? b = some o → b < D := fun b o e => eD ▸ Heap.lt_size e
  have DC : D ≠ C := by rw [eC]; exact Nat.ne_of_lt (Nat.lt_succ_self _)
  have bC : ∀ b : Nat, b < D → b ≠ C := fun b hb z => by rw [z, eC] at hb; exact absurd hb (Nat.not_lt.mpr (Nat.le_succ _))
  have old : ∀ b o, s.heap.get? b = some o → h1.get? b = some o := fun b o e => by
    have hb := ltD b o e
    refine sb1.extBut b o (bC b hb) (Heap.get?_push_of_some _ ?_)
    rw [← eG]
    exact Heap.get?_push_of_some _ e
  have accD : h1.get? D = some { cls := .type "list", data := .seq ([] : List Value).toArray 0 } := by
    refine sb1.extBut _ _ DC (Heap.get?_push_of_some _ ?_)
    rw [← eG, ← eD]
    exact Heap.get?_push_size _ rfl
  have freeD : H D = none := I.hok.fresh (by rw [eD]; exact Nat.le_refl _)
  have freeC : H C = none := I.hok.fresh (by rw [eD, eC]; exact Nat.le_succ _)
  have fpD : ∀ b ∈ fp, b < D := fun b hb => let ⟨o, e, _⟩ := T.obj 0 _ st b hb; ltD b o e
  have cellD : ∀ x c, X.env.cells.lookup x = some c → c < D := fun x c e => let ⟨v, o, ho, _⟩ := I.cell x c e; ltD c o ho
  have pinD : ∀ p ∈ X.pn ++ pins, p.1 < D := fun p hp => ltD _ _ (I.pin p hp).1
  have stkD : ∀ b ∈ frs X.stack, b < D := fun b hb => by
    rcases List.mem_cons.mp (I.stkSub b hb) with e | z
    · subst e; rw [← eD]; exact I.lt
    · obtain ⟨_, o, ho, _⟩ := I.ok.funs.mem z
      rw [← eD]
      exact Nat.lt_of_lt_of_le (Heap.lt_size ho) I.sz
  have fpS : ∀ b ∈ fp, b ∉ frs X.stack := fun b hb z => by
    obtain ⟨_, f1, f2, _⟩ := fo b hb
    rcases List.mem_cons.mp (I.stkSub b z) with e | q
    · exact f1 e
    · exact f2 q
  have kindB : (compEnvC scope cl C X.env).scope.kind = .function := kind
  have okB : (cxB X N scope s H C cl fp).Ok := {
    mod := I.ok.mod
    kind := kind
    glob := I.ok.glob
    blt := I.ok.blt
    above := by show s.heap.objs.size ≤ C; rw [eD, eC]; exact Nat.le_succ _
    inj := fun x y c e1 e2 => I.ok.inj x y c (hcl x c e1) (hcl y c e2)
    has := fun x hx => by
      obtain ⟨y, hy, e, f⟩ := relabel_free (env := X.env) (names := scope.names) (x := x) hx cell
      subst e
      exact hcl2 y hy f
    cab := fun x c z => by cases z
    hd := I.ok.hd
    frames := I.ok.frames
    stk := .inl rfl
    exf := fun b hb => ⟨bC b (fpD b hb), fun x c e => (fo b hb).2.2.2.2.1 x c (hcl x c e)⟩
    bs := fun b o e => I.bs b o e
    bsz := Nat.le_trans I.ok.bsz I.sz
    noex := fun b o e hb => by
      rcases (fo b hb).2.2.2.1 with z | z
      · exact I.ok.noex b o e z
      · exact absurd (Nat.lt_of_lt_of_le (Heap.lt_size e) (Nat.le_trans I.ok.bsz z)) (Nat.lt_irrefl _)
    exfs := fpS
    funs := I.stack
    frf := I.stkFree }
  have upH : ∀ b o, s.heap.get? b = some o → h1.get? b = some o := old
  have IB : Inv (cxB X N scope s H C cl fp) [(D, { cls := .type "list", data := .seq ([] : List Value).toArray 0 })] (caps n js σ) H { s with heap := h1, toks := s.toks + ([] : List (Str × Value)).length } := by
    refine ⟨okB, rfl, I.bare, Un.kept old, ⟨_, ns1, fun i x v e1 e2 e3 => ?_⟩, fun x c e => ?_, freeC, fun x c e => I.freeC x c (hcl x c e), fun p hp => ?_, I.hok.kept old, ?_⟩
    · have hi : n ≤ i := by
        by_cases hlt : i < n
        · rw [caps_own hlt] at e2; cases e2
        · omega
      obtain ⟨j, ej, ev⟩ := caps_cap hi e2
      have hxN : (N.drop n)[i - n]? = some x := by
        rw [List.getElem?_drop, show n + (i - n) = i by omega]
        exact e1
      have hxm : x ∈ N.drop n := List.mem_of_getElem? hxN
      have eN : X.N[j]? = some x := by
        have q : (js.map fun j => X.N[j]?)[i - n]? = some (X.N[j]?) := by rw [List.getElem?_map, ej]; rfl
        rw [cap, List.getElem?_map, hxN] at q
        exact (Option.some.inj q).symm
      obtain ⟨m0, _, hl⟩ := I.loc
      have kx := lc x hxm
      have vis : Vis X.env.scope x := by
        rcases kx with z | z
        · exact .inr (.inl z)
        · exact .inr (.inr z)
      obtain ⟨u, r, lk⟩ := hl j x v eN ev vis
      refine ⟨u, r, ?_⟩
      rcases lk with ⟨q, _⟩ | ⟨_, c, ec, o, ho, hd⟩
      · exfalso
        have q' : X.env.scope.names.lookup x = some .local := q
        rcases kx with z | z
        · rw [z] at q'; cases q'
        · rw [z] at q'; cases q'
      · have fx : scope.names.lookup x = some .free := lf x hxm
        obtain ⟨c', ec'⟩ : ∃ c', cl.lookup x = some c' := by
          have hm : (x, NameKind.free) ∈ scope.names := mem_of_lookup fx
          exact hcl2 _ hm rfl
        have ecc : c' = c := by
          have z := hcl x c' ec'
          rw [ec] at z
          exact (Option.some.inj z).symm
        subst ecc
        refine .inr ⟨?_, c', ec', o, old _ _ ho, hd⟩
        rcases e3 with z | z | z
        · exfalso
          have z' : (relabel scope X.env).names.lookup x = some .local := z
          exact relabel_notlocal _ fx z'
        · exact .inl z
        · exact .inr z
    · obtain ⟨v, o, ho, hd⟩ := I.cell x c (hcl x c e)
      exact ⟨v, o, old _ _ ho, hd⟩
    · have e : p = (D, { cls := .type "list", data := .seq ([] : List Value).toArray 0 }) := by simpa [cxB] using hp
      subst e
      exact ⟨accD, freeD, DC, fun z => absurd (stkD D z) (Nat.lt_irrefl _), fun v => by intro z; cases z⟩
    · show (caps n js σ).length = N.length
      rw [caps_len]
      exact len
  -- what stays true of the iterator's records
  have stat : ∀ {H' : Hp} {oD : Obj}, (∀ b ∈ fp, H' b = none) → ∀ b ∈ fp, FpOk (cxB X N scope s H C cl fp) [(D, oD)] H' b := fun {H' oD} hn b hb =>
    ⟨hn b hb, bC b (fpD b hb), fpS b hb, .inl hb, fun x c e => (fo b hb).2.2.2.2.1 x c (hcl x c e), fun p hp => by
      have e : p = (D, oD) := by simpa [cxB] using hp
      subst e
      exact Nat.ne_of_gt (fpD b hb)⟩
  obtain ⟨W, ⟨m0, w0⟩, turn⟩ := G
  have loop : codeAny (model X.prog X.w) X.A (.compLoop (.ListComp elt [⟨tg, iter, ifs, 0⟩] scope pos) 0 (.ref it) (.ref D) (compEnvC scope cl C X.env)) (RR (.ref D) C) { s with heap := h1, toks := s.toks + ([] : List (Str × Value)).length } := by
    refine comp_loopX (XE := (cxY X EX N scope s H C cl fp).xe) ?err (fun m s' => ∃ (i : Nat) (ys : List V) (its : List Value) (kk : Nat) (σ' : St) (H' : Hp), Inv (cxB X N scope s H C cl fp) [(D, { cls := .type "list", data := .seq its.toArray kk })] σ' H' s' ∧ Vals ys its ∧ (σ'.length = (caps n js σ).length ∧ ∀ i, n ≤ i → σ'[i]? = (caps n js σ)[i]?) ∧
      tn i s'.heap ∧ (∀ b ∈ fp, H' b = none) ∧ W i m ys H') ?turn m0 ⟨0, [], [], 0, _, H, IB, .nil, ⟨rfl, fun _ _ => rfl⟩, T.keep _ _ _ st fun b hb o e => old b o e, fun b hb => (fo b hb).1, w0⟩
    case err =>
      rintro e s9 ⟨p8, σ8, H8, s8, I8, h9⟩
      have J8 : Inv X pins σ H8 s8 := I.call' (s' := s8) I8.os (ch := fp) I8.base I8.hok I8.bare fun b hb => by
        obtain ⟨_, f1, f2, f3, f4, f5⟩ := fo b hb
        exact ⟨f3, f1, f4, f5⟩
      obtain ⟨mC, nsC, _⟩ := I8.loc
      obtain ⟨oC, es, ep, hoC, rC⟩ := nsC
      have cS : X.s₀.heap.objs.size ≤ C := Nat.le_trans I.sz (by rw [eD, eC]; exact Nat.le_succ _)
      have cF : C ∉ frs X.stack := fun z => absurd (stkD C z) (by rw [eC]; exact Nat.not_lt.mpr (Nat.le_succ _))
      show wpAny _ X.A (noteFrame e X.env) _ _ s9
      exact wpAny_mono (hNx pins σ H8 s8 C oC e s9 J8 h9 hoC I8.free cS cF) (fun _ s10 q => kx D C mC e s10 ⟨oC, es, ep, q.1, rC⟩ q.2) fun _ _ z => z.elim
    case turn =>
    rintro m s3 ⟨i, ys, its, kk, σ3, H3, I3, r3, ⟨l3, a3⟩, st3, fr3, w3⟩
    have I3' : Inv (cxB X N scope s H C cl fp) [(D, { cls := .type "list", data := .seq its.toArray kk })] (caps n js σ) H3 s3 := I3.weak l3.symm fun j v e => by
      by_cases hj : j < n
      · rw [caps_own hj] at e; cases e
      · rw [a3 j (by omega)]; exact e
    rcases turn i m ys H3 w3 with ⟨stop, hz, fin⟩ | ⟨go, hz, Nn, hNn, step⟩
    · refine wpAny_mono (T.done (cxB X N scope s H C cl fp) rfl rfl rfl hc i _ s3 _ H3 (fun _ _ => False) I3' (stat fr3) st3 stop) (fun r s4 h4 => ?_) fun _ _ z => z
      obtain ⟨hr, I4⟩ := h4
      refine .inl ⟨hr, ?_⟩
      have pD := I4.pin (D, { cls := .type "list", data := .seq its.toArray kk }) (by simp [cxB])
      obtain ⟨mC, nsC, _⟩ := I4.loc
      obtain ⟨oC, es, ep, hoC, dC, rC⟩ := id nsC
      have J4 : Inv X pins σ H3 s4 := I.call' (s' := s4) I4.os (ch := fp) I4.base I4.hok I4.bare fun b hb => by
        obtain ⟨_, f1, f2, f3, f4, f5⟩ := fo b hb
        exact ⟨f3, f1, f4, f5⟩
      have fC : H3 C = none := I4.free
      have ltL : X.env.locals < D := eD ▸ I.lt
      have cL : C ≠ X.env.locals := (bC _ ltL).symm
      have cC : ∀ x c, X.env.cells.lookup x = some c → c ≠ C := fun x c e => bC c (cellD x c e)
      have cP : ∀ p ∈ X.pn ++ pins, p.1 ≠ C := fun p hp => bC p.1 (pinD p hp)
      have cS : X.s₀.heap.objs.size ≤ C := Nat.le_trans I.sz (by rw [eD, eC]; exact Nat.le_succ _)
      have dS : X.s₀.heap.objs.size ≤ D := by have := I.sz; rw [eD] at this; exact this
      have cF : C ∉ X.fs := fun z => by
        obtain ⟨_, o, ho, _⟩ := I.ok.funs.mem z
        exact Nat.lt_irrefl _ (Nat.lt_of_lt_of_le (Heap.lt_size ho) cS)
      have J5 : Inv X (pins ++ [(C, oC)]) σ H3 s4 := J4.pins_of fun p hp => (List.mem_append.mp hp).elim (fun z => J4.pin p (List.mem_append_right _ z)) fun z => by
        have e : p = (C, oC) := by simpa using z
        subst e
        exact ⟨hoC, fC, cL, cF, fun v z => by have z' : oC.data = .cell v := z; rw [dC] at z'; cases z'⟩
      refine k D C oC mC ys H3 s4 (J5.track pD.2.1 dS (Nat.ne_of_gt ltL) (fun x c e => Nat.ne_of_lt (cellD x c e)) (fun p hp => ?_) ?_) pD.2.1 nsC cS cL cC cP ?_ fin
      · rcases List.mem_append.mp hp with z | z
        · exact Nat.ne_of_lt (pinD p (List.mem_append_left _ z))
        · rcases List.mem_append.mp z with z | z
          · exact Nat.ne_of_lt (pinD p (List.mem_append_right _ z))
          · have e : p = (C, oC) := by simpa using z
            subst e
            exact Ne.symm DC
      · exact ⟨hz, its, kk, r3, pD.1⟩
      · rw [upd_ne (Ne.symm DC)]
        exact fC
    · refine wpAny_mono (T.item (cxB X N scope s H C cl fp) rfl rfl rfl hc i _ s3 _ H3 (fun _ _ => False) I3' (stat fr3) st3 go) (fun r s4 h4 => ?_) fun _ _ z => z
      obtain ⟨u, hr, h4⟩ := h4
      refine .inr ⟨u, hr, ?_⟩
      refine thn h4 fun _ s5 h5 => ?_
      obtain ⟨x, H5, I5, r5, y5, st5, fr5⟩ := h5
      have I5' := I5.pinned (stat fr5) (T.obj _ _ st5)
      refine thn (hg s H C cl fp _ s5 _ H5 x u _ (I5'.wish _) r5 (hgo _ _ _ _ (step x H5 y5))) fun _ s6 h6 => ?_
      obtain ⟨σ6, H6, I6, q6, l6, a6⟩ := h6
      refine thn (ht s H C cl fp _ s6 σ6 H6 _ I6 q6) fun ok s7 h7 => ?_
      obtain ⟨H7, I7y, q7⟩ := h7
      have I7 := I7y.unwish
      have stays : ∀ {H8 : Hp} {s8 : Shared}, Inv (cxB X N scope s H C cl fp) ([(D, { cls := .type "list", data := .seq its.toArray kk })] ++ pinsAt fp s5.heap) σ6 H8 s8 → (∀ b ∈ fp, ∀ o, s5.heap.get? b = some o → s8.heap.get? b = some o) ∧ ∀ b ∈ fp, H8 b = none := fun {H8 s8} I8 =>
        ⟨fun b hb o e => (I8.pin (b, o) (List.mem_append_right _ (List.mem_append_right _ (mem_pinsAt hb e)))).1, fun b hb => by
          obtain ⟨o, e, d⟩ := T.obj _ _ st5 b hb
          exact (I8.pin (b, o) (List.mem_append_right _ (List.mem_append_right _ (mem_pinsAt hb e)))).2.1⟩
      cases ok with
      | false =>
        obtain ⟨m', hm, w7⟩ := hNn ys H7 (show Nn ys H7 from q7)
        obtain ⟨z1, z2⟩ := stays I7
        exact ⟨m', hm, i + 1, ys, its, kk, σ6, H7, I7.unpinned, r3, ⟨l6, a6⟩, T.keep _ _ _ st5 z1, z2, w7⟩
      | true =>
        show wpAny _ _ (eval elt _) _ _ s7
        refine thn (he s H C cl fp _ s7 σ6 H7 _ I7y q7) fun y s8 h8 => ?_
        obtain ⟨vy, H8, I8y, ry, n8⟩ := h8
        have I8 := I8y.unwish
        obtain ⟨m', hm, w8⟩ := hNn _ _ n8
        obtain ⟨z1, z2⟩ := stays I8
        have pD := I8.pin (D, { cls := .type "list", data := .seq its.toArray kk }) (by simp [cxB])
        have lenits : its.length < sizeLine := by rw [← r3.length]; exact hz
        refine append_at pD.1 (fun h9 hs9 hD9 => ?_) (by simpa using Nat.le_of_lt lenits)
        have keep9 : ∀ b o, b ≠ D → s8.heap.get? b = some o → h9.get? b = some o := fun b o hb e => hs9.extBut b o hb e
        have I9 : Inv (cxB X N scope s H C cl fp) [] σ6 H8 { s8 with heap := h9 } := (I8.pins_of (pins' := []) fun p hp => nomatch hp).turned (it := D) keep9 pD.2.1 DC (.inr (by show s.heap.objs.size ≤ D; rw [eD]; exact Nat.le_refl _))
          (fun x c e => Nat.ne_of_lt (cellD x c (hcl x c e))) fun p hp => by simp [cxB] at hp
        refine ⟨m', hm, i + 1, ys ++ [vy], its ++ [y], kk + 1, σ6, H8, I9.pins_of fun p hp => ?_, r3.append (.cons ry .nil), ⟨l6, a6⟩, T.keep _ _ _ st5 fun b hb o e => keep9 b o (Nat.ne_of_lt (fpD b hb)) (z1 b hb o e), z2, w8⟩
        have e : p = (D, { cls := .type "list", data := .seq (its ++ [y]).toArray (kk + 1) }) := by simpa using hp
        subst e
        refine ⟨?_, pD.2.1, DC, fun z => absurd (stkD D z) (Nat.lt_irrefl _), fun v z => by cases z⟩
        show h9.get? D = _
        rw [hD9, List.push_toArray]
  exact codeAny_compStart_list loop (T.self _ 0 _ _ _ (T.keep _ _ _ st fun b hb o e => old b o e) loop)
end
section
variable {X : Cx} {tg elt iter : Expr} {ifs : List Expr} {scope : Scope} {pos : Pos} {N N0 : List Str} {n : Nat} {js : List Nat} {sc : Scope} {wi : TI} {g : TG} {tt : TT} {te : TE}
theorem pe_compX {EX : XK} (hNx : PassN X EX) (hc : X.calm = true) (hsc : X.env.scope = sc) (hN0 : X.N = N0) (ok : compOk sc N0 N n js scope = true) (hi : PI X tg iter wi)
    (hg : ∀ s H C cl fp, PG (cxY X EX N scope s H C cl fp) tg g) (hgo : Own n g) (ht : ∀ s H C cl fp, PIf (cxY X EX N scope s H C cl fp) ifs tt) (he : ∀ s H C cl fp, PE (cxY X EX N scope s H C cl fp) elt te)
    (hs : ∀ x, foldedSetIterable iter X.env x = pure x := by intro _; rfl) : PE X (.ListComp elt [⟨tg, iter, ifs, 0⟩] scope pos) (tComp n js wi g tt te) := by
  intro pins s σ H Q I h
  obtain ⟨cl, hclos, c1, c2⟩ := closure_some (comp_has I hsc ok)
  obtain ⟨kd, nm⟩ := comp_names ok
  rw [eval_ListComp]
  refine wpAny_comprehension_free (use := none) rfl hs hclos kd nm ?_
  refine thn (hi pins s σ H _ I h) fun v s1 h1 => thn h1 fun itv s2 h2 => ?_
  obtain ⟨it, fp, tn, J, H2, e, I2, T, st2, f2, G⟩ := h2
  subst e
  refine comp_blockX (RR := fun acc C => compPost (model X.prog X.w) X.A X.xe none (EP X pins σ Q) acc C) hNx hc hsc hN0 ok hg hgo ht he I2 T st2 f2 c1 c2 G ?_ (fun D C m e s2 ns q => ⟨m, ns, fun h' hs cenv _ => q h' hs _ cenv⟩)
  intro D C oC m ys H' s' I' hD ns k1 k2 k3 k4 k5 fin
  exact ⟨m, ns, fun h' hs' => ⟨.ref D, _, I'.butC hs' k1 k2 k3 k4 k5, rfl, fin D hD⟩⟩
theorem ps_compX {EX : XK} {k : Nat} {y : Str} {py spos : Pos} (hNx : PassN X EX) (hc : X.calm = true) (hsc : X.env.scope = sc) (hN0 : X.N = N0) (ok : compOk sc N0 N n js scope = true) (hN : X.N.Nodup) (hk : X.N[k]? = some y) (hy : Loc X.env.scope y)
    (hi : PI X tg iter wi) (hg : ∀ s H C cl fp, PG (cxY X EX N scope s H C cl fp) tg g) (hgo : Own n g) (ht : ∀ s H C cl fp, PIf (cxY X EX N scope s H C cl fp) ifs tt) (he : ∀ s H C cl fp, PE (cxY X EX N scope s H C cl fp) elt te)
    (hsw : swapsWith (.ListComp elt [⟨tg, iter, ifs, 0⟩] scope pos) (some (.Name y py)) spos.line X.env = pure true := by rfl) (hs : ∀ x, foldedSetIterable iter X.env x = pure x := by intro _; rfl)
    (hf : X.fn y = true ∨ X.env.scope.names.lookup y = some .local := by first | exact .inl rfl | exact .inr rfl) : PS X (.Assign [.Name y py] (.ListComp elt [⟨tg, iter, ifs, 0⟩] scope pos) spos) (sComp k n js wi g tt te) := by
  intro pins s σ H D0 I h
  obtain ⟨cl, hclos, c1, c2⟩ := closure_some (comp_has I hsc ok)
  obtain ⟨kd, nm⟩ := comp_names ok
  rw [exec_Assign_Name_used _ _ _ _ hsw]
  refine wpAny_bind (wpAny_standAt (wpAny_bind ?_))
  show wpAny _ X.A (comprehension (.ListComp elt [⟨tg, iter, ifs, 0⟩] scope pos) scope X.env _ (newList []) false (eval iter X.env) (some (assign (.Name y py) X.env)) >>= fun _ => pure ()) _ _ s
  refine wpAny_bind (wpAny_mono (wpAny_comprehension_free (use := some (assign (.Name y py) X.env)) (Q := fun _ s' => SP X pins D0 .next s') rfl hs hclos kd nm ?_) (fun _ s' q => wpAny_pure (wpAny_pure q)) fun _ _ z => z)
  refine thn (hi pins s σ H _ I h) fun v s1 h1 => thn h1 fun itv s2 h2 => ?_
  obtain ⟨it, fp, tn, J, H2, e, I2, T, st2, f2, G⟩ := h2
  subst e
  refine comp_blockX (RR := fun acc C => compPost (model X.prog X.w) X.A X.xe (some (assign (.Name y py) X.env)) (fun _ s' => SP X pins D0 .next s') acc C) hNx hc hsc hN0 ok hg hgo ht he I2 T st2 f2 c1 c2 G ?_ (fun D C m e s2 ns q => ⟨m, ns, fun h' hs cenv _ => q h' hs _ cenv⟩)
  intro D C oC m ys H' s' I' hD ns k1 k2 k3 k4 k5 fin
  show wpAny _ X.A (assign (.Name y py) X.env (.ref D)) _ _ s'
  refine wpAny_assign_Name (store_ok I' hN hk hy (v := .ref D) rfl (fun s'' I'' => ?_) hf)
  have pc := I''.pin (C, oC) (List.mem_append_right _ (List.mem_append_right _ List.mem_cons_self))
  obtain ⟨o, es, ep, ho, r⟩ := ns
  have pc' := I'.pin (C, oC) (List.mem_append_right _ (List.mem_append_right _ List.mem_cons_self))
  have eo : o = oC := by
    have z := pc'.1
    rw [ho] at z
    exact Option.some.inj z
  subst eo
  exact ⟨m, ⟨o, es, ep, pc.1, r⟩, fun h' hs' => ⟨_, _, I''.butC hs' k1 k2 k3 k4 k5, fin D hD⟩⟩
end
theorem passN0 {X : Cx} : PassN X E0 := fun _ _ _ _ _ _ _ _ _ h => by
  obtain ⟨_, _, _, _, _, hE⟩ := h
  exact hE.elim
theorem len1 {α : Type} {Pr : List α → Prop} (h : ∀ a, Pr [a]) (us : List α) (hl : us.length = 1) : Pr us := by
  match us, hl with
  | [a], _ => exact h a
theorem len2 {α : Type} {Pr : List α → Prop} (h : ∀ a b, Pr [a, b]) (us : List α) (hl : us.length = 2) : Pr us := by
  match us, hl with
  | [a, b], _ => exact h a b
theorem len3 {α : Type} {Pr : List α → Prop} (h : ∀ a b c, Pr [a, b, c]) (us : List α) (hl : us.length = 3) : Pr us := by
  match us, hl with
  | [a, b, c], _ => exact h a b c
@[irreducible] def QSs (X : Cx) (st : List Stmt) (t : TS) : Prop := PSs X st t
section
variable {X : Cx} {st : Stmt} {sts a b : List Stmt} {t u : TS} {tc : TT} {c tg iter : Expr} {wi : TI} {g : TG} {pos : Pos}
theorem QSs.out (h : QSs X sts t) : PSs X sts t := by
  unfold QSs at h
  exact h
theorem QSs.of (h : PSs X sts t) : QSs X sts t := by
  unfold QSs
  exact h
end
end L2
set_option Elab.async false
set_option linter.all false
set_option maxRecDepth 100000
set_option maxHeartbeats 4000000
namespace L2
open PySem PySem.Spec PyProof.Rows
inductive Inn (K : PySem.W.Frag) (H R : Hp) : List Addr → List (List D) → Prop
  | nil : Inn K H R [] []
  | cons {a : Addr} {as : List Addr} {vs : List V} {ds : List D} {dss : List (List D)} : H a = some (.lst vs) → R a = none → Rps K R vs ds → Inn K H R as dss → Inn K H R (a :: as) (ds :: dss)
structure Deep (K : PySem.W.Frag) (H R : Hp) (l : Addr) (as : List Addr) (dss : List (List D)) : Prop where
  top : H l = some (.lst (as.map V.ref))
  rl : R l = none
  inn : Inn K H R as dss
  nd : (l :: as).Nodup
end L2
namespace L2
open PySem PySem.Spec PyProof.Rows
theorem StR.put {K : PySem.W.Frag} {Z : Anc} {O : List Nat} {σ : St} {H R : Hp} {ρ : Rho} {a : Addr} {o : HO} (S : StR K Z O σ H R ρ) (hr : R a = none) (n : ∀ i, i ∈ O → σ[i]? ≠ some (some (.ref a))) (z : Z.H0 a = none) : StR K Z O σ (upd H a o) R ρ := by
  have ne : ∀ b u, Z.H0 b = some u → b ≠ a := fun b u e q => by rw [q, z] at e; cases e
  refine ⟨fun b u e => ?_, S.len, S.env, fun i hi => ?_, S.dis, fun b u e nl => ?_, S.ar, S.an, fun b h => ?_, S.ao, S.ap⟩
  · have q : b ≠ a := fun q => by rw [q, hr] at e; cases e
    rw [upd_ne q]
    exact S.sub b u e
  · obtain ⟨l, vs, ds, h1, h2, h3, h4, h5⟩ := S.own i hi
    have q : l ≠ a := fun q => n i hi (by rw [h2, q])
    exact ⟨l, vs, ds, h1, h2, by rw [upd_ne q]; exact h3, h4, h5⟩
  · rw [upd_ne (ne b u e)]
    exact S.ah b u e nl
  · have q : b ≠ a := fun q => h (by rw [q]; exact z)
    have l := S.ad b h
    unfold Liv at l ⊢
    rw [upd_ne q]
    exact l
end L2
namespace L2
open PySem PySem.Spec PyProof.Rows
theorem Inn.has {K : PySem.W.Frag} {H R : Hp} {as : List Addr} {dss : List (List D)} (h : Inn K H R as dss) : ∀ a ∈ as, ∃ vs, H a = some (.lst vs) := by
  induction h with
  | nil => exact fun _ h => nomatch h
  | cons h1 _ _ _ ih =>
    intro a ha
    rcases List.mem_cons.mp ha with rfl | ha
    · exact ⟨_, h1⟩
    · exact ih a ha
theorem Inn.wr {K : PySem.W.Frag} {H R : Hp} {as : List Addr} {dss : List (List D)} {b : Addr} {o : HO} (h : Inn K H R as dss) (n : b ∉ as) : Inn K (upd H b o) R as dss := by
  induction h with
  | nil => exact .nil
  | cons h1 h2 h3 _ ih =>
    exact .cons (by rw [upd_ne fun q => n (by rw [q]; exact List.mem_cons_self)]; exact h1) h2 h3 (ih fun q => n (List.mem_cons_of_mem _ q))
theorem Inn.snoc {K : PySem.W.Frag} {H R : Hp} {as : List Addr} {dss : List (List D)} {b : Addr} {vs : List V} {ds : List D} (h : Inn K H R as dss) (h1 : H b = some (.lst vs)) (h2 : R b = none) (h3 : Rps K R vs ds) : Inn K H R (as ++ [b]) (dss ++ [ds]) := by
  induction h with
  | nil => exact .cons h1 h2 h3 .nil
  | cons g1 g2 g3 _ ih => exact .cons g1 g2 g3 ih
theorem Deep.grow {K : PySem.W.Frag} {H R : Hp} {l b : Addr} {as : List Addr} {dss : List (List D)} {vs : List V} {ds : List D} (h : Deep K H R l as dss) (hb : H b = none) (rb : R b = none) (r : Rps K R vs ds) : Deep K (upd (upd H b (.lst vs)) l (.lst ((as ++ [b]).map V.ref))) R l (as ++ [b]) (dss ++ [ds]) := by
  have bl : b ≠ l := fun q => by have := h.top; rw [← q, hb] at this; cases this
  have ba : b ∉ as := fun q => by
    obtain ⟨us, e⟩ := h.inn.has b q
    rw [hb] at e
    cases e
  have nl : l ∉ as := (List.nodup_cons.mp h.nd).1
  have na : as.Nodup := (List.nodup_cons.mp h.nd).2
  refine ⟨upd_same, h.rl, ?_, ?_⟩
  · refine Inn.wr (Inn.snoc (h.inn.wr ba) upd_same rb r) fun q => ?_
    rcases List.mem_append.mp q with q | q
    · exact nl q
    · exact bl (List.mem_singleton.mp q).symm
  · refine List.nodup_cons.mpr ⟨fun q => ?_, ?_⟩
    · rcases List.mem_append.mp q with q | q
      · exact nl q
      · exact bl (List.mem_singleton.mp q).symm
    · exact List.nodup_append.mpr ⟨na, by simp, fun x hx y hy q => ba (by rw [List.mem_singleton.mp hy] at q; exact q ▸ hx)⟩
end L2
namespace L2
open PySem PySem.Spec PyProof.Rows
theorem Inn.len {K : PySem.W.Frag} {H R : Hp} {as : List Addr} {dss : List (List D)} (h : Inn K H R as dss) : as.length = dss.length := by
  induction h with
  | nil => rfl
  | cons _ _ _ _ ih => rw [List.length_cons, List.length_cons, ih]
theorem Inn.at {K : PySem.W.Frag} {H R : Hp} {as : List Addr} {dss : List (List D)} (h : Inn K H R as dss) : ∀ {k : Nat} {a : Addr}, as[k]? = some a → ∃ vs ds, dss[k]? = some ds ∧ H a = some (.lst vs) ∧ R a = none ∧ Rps K R vs ds := by
  induction h with
  | nil => intro k a e; simp at e
  | cons h1 h2 h3 _ ih =>
    intro k a e
    cases k with
    | zero =>
      cases e
      exact ⟨_, _, rfl, h1, h2, h3⟩
    | succ k => exact ih e
theorem Inn.setAt {K : PySem.W.Frag} {H R : Hp} {as : List Addr} {dss : List (List D)} {vs : List V} {ds : List D} (h : Inn K H R as dss) (r : Rps K R vs ds) : ∀ {k : Nat} {a : Addr}, as.Nodup → as[k]? = some a → Inn K (upd H a (.lst vs)) R as (dss.set k ds) := by
  induction h with
  | nil => intro k a _ e; simp at e
  | @cons b _ _ _ _ h1 h2 h3 t ih =>
    intro k a nd e
    obtain ⟨n1, n2⟩ := List.nodup_cons.mp nd
    cases k with
    | zero =>
      cases e
      exact .cons upd_same h2 r (t.wr n1)
    | succ k =>
      rw [List.getElem?_cons_succ] at e
      have m := List.mem_of_getElem? e
      have ne : b ≠ a := fun q => n1 (by rw [q]; exact m)
      exact .cons (by rw [upd_ne ne]; exact h1) h2 h3 (ih n2 e)
theorem Deep.setAt {K : PySem.W.Frag} {H R : Hp} {l a : Addr} {as : List Addr} {dss : List (List D)} {vs : List V} {ds : List D} {k : Nat} (h : Deep K H R l as dss) (e : as[k]? = some a) (r : Rps K R vs ds) : Deep K (upd H a (.lst vs)) R l as (dss.set k ds) := by
  obtain ⟨n1, n2⟩ := List.nodup_cons.mp h.nd
  have ne : l ≠ a := fun q => n1 (by rw [q]; exact List.mem_of_getElem? e)
  exact ⟨by rw [upd_ne ne]; exact h.top, h.rl, h.inn.setAt r n2 e, h.nd⟩
end L2
namespace L2
open PySem PySem.Spec PyProof.Rows
theorem Inn.other {K : PySem.W.Frag} {H R : Hp} {as : List Addr} {dss : List (List D)} {b : Addr} {o : HO} (h : Inn K H R as dss) (n : b ∉ as) (hb : R b = none) : Inn K H (upd R b o) as dss := by
  have s : Same R (upd R b o) := fun a u e => by
    have q : a ≠ b := fun q => by rw [q, hb] at e; cases e
    rw [upd_ne q]
    exact e
  induction h with
  | nil => exact .nil
  | cons h1 h2 h3 _ ih =>
    exact .cons h1 (by rw [upd_ne fun q => n (by rw [q]; exact List.mem_cons_self)]; exact h2) (h3.mono s) (ih fun q => n (List.mem_cons_of_mem _ q))
theorem StR.knowAll {K : PySem.W.Frag} {Z : Anc} {O : List Nat} {σ : St} {H : Hp} {ρ : Rho} : ∀ {as : List Addr} {dss : List (List D)} {R : Hp}, StR K Z O σ H R ρ → Inn K H R as dss → as.Nodup → (∀ a ∈ as, Z.H0 a = none ∧ ∀ j, j ∈ O → σ[j]? ≠ some (some (.ref a))) → ∃ R1, StR K Z O σ H R1 ρ ∧ Same R R1 ∧ Rps K R1 (as.map V.ref) (dss.map D.lst) ∧ ∀ b, b ∉ as → R1 b = R b
  | [], dss, R, S, h, _, _ => by
    have l := h.len
    cases dss with
    | cons x r => simp at l
    | nil => exact ⟨R, S, Same.refl _, .nil, fun _ _ => rfl⟩
  | a :: as, dss, R, S, h, nd, hz => by
    cases h with
    | @cons _ _ vs ds dss h1 h2 h3 h4 =>
      obtain ⟨na, nd'⟩ := List.nodup_cons.mp nd
      obtain ⟨z1, z2⟩ := hz a List.mem_cons_self
      have s : Same R (upd R a (.lst vs)) := fun b u e => by
        have q : b ≠ a := fun q => by rw [q, h2] at e; cases e
        rw [upd_ne q]
        exact e
      obtain ⟨R1, S1, s1, r1, o1⟩ := StR.knowAll (S.know z1 h1 h2 z2) (h4.other na h2) nd' fun b hb => hz b (List.mem_cons_of_mem _ hb)
      refine ⟨R1, S1, s.trans s1, .cons (.lst (SqL.of (s1 _ _ upd_same)) ((h3.mono s).mono s1)) r1, fun b hb => ?_⟩
      have hb1 : b ≠ a := fun q => hb (by rw [q]; exact List.mem_cons_self)
      rw [o1 b fun q => hb (List.mem_cons_of_mem _ q), upd_ne hb1]
end L2
set_option Elab.async false
set_option linter.all false
set_option maxRecDepth 100000
set_option maxHeartbeats 4000000
namespace L2
open PySem PySem.Spec PyProof.Rows
theorem Inn.same {K : PySem.W.Frag} {H R H' : Hp} {as : List Addr} {dss : List (List D)} (h : Inn K H R as dss) (s : Same H H') : Inn K H' R as dss := by
  induction h with
  | nil => exact .nil
  | cons h1 h2 h3 _ ih => exact .cons (s _ _ h1) h2 h3 ih
theorem Inn.stp {K : PySem.W.Frag} {O : List Nat} {σ : St} {H R H' R' : Hp} {as : List Addr} {dss : List (List D)} (h : Inn K H R as dss) (s : Stp O σ H R H' R') (ow : ∀ a ∈ as, ∀ j, j ∈ O → σ[j]? ≠ some (some (.ref a))) : Inn K H' R' as dss := by
  induction h with
  | nil => exact .nil
  | @cons a as vs ds dss h1 h2 h3 _ ih =>
    refine .cons (s.h _ _ h1 (ow a List.mem_cons_self)) ?_ (h3.mono s.r) (ih fun b hb => ow b (List.mem_cons_of_mem _ hb))
    cases q : R' a with
    | none => rfl
    | some o =>
      rcases s.n a (by rw [q]; exact fun z => nomatch z) with z | z
      · exact absurd h2 z
      · rcases z with z | ⟨xs, z⟩ <;> (rw [h1] at z; cases z)
theorem Inn.rps {K : PySem.W.Frag} {H R : Hp} {as : List Addr} {dss : List (List D)} (h : Inn K H R as dss) (s : Same R H) : Rps K H (as.map V.ref) (dss.map D.lst) := by
  induction h with
  | nil => exact .nil
  | cons h1 h2 h3 _ ih => exact .cons (.lst (SqL.of h1) (h3.mono s)) ih
structure StD (K : PySem.W.Frag) (Z : Anc) (O : List Nat) (i : Nat) (σ : St) (H R : Hp) (ρ : Rho) (l : Addr) (as : List Addr) (dss : List (List D)) : Prop where
  st : StR K Z O σ H R ρ
  hi : i ∉ O
  no : ρ[i]? = some none
  at' : σ[i]? = some (some (.ref l))
  dp : Deep K H R l as dss
  z0 : ∀ a ∈ l :: as, Z.H0 a = none
  ow : ∀ a ∈ l :: as, ∀ j, j ∈ O → σ[j]? ≠ some (some (.ref a))
section
variable {K : PySem.W.Frag} {Z : Anc} {O : List Nat} {i j : Nat} {σ : St} {H R H' R' : Hp} {ρ ρ' : Rho} {l : Addr} {as : List Addr} {dss : List (List D)}
theorem StD.stp (S : StD K Z O i σ H R ρ l as dss) (T : StR K Z O σ H' R' ρ') (s : Stp O σ H R H' R') (no : ρ'[i]? = some none) : StD K Z O i σ H' R' ρ' l as dss := by
  refine ⟨T, S.hi, no, S.at', ⟨s.h _ _ S.dp.top (S.ow l List.mem_cons_self), ?_, S.dp.inn.stp s fun a ha => S.ow a (List.mem_cons_of_mem _ ha), S.dp.nd⟩, S.z0, S.ow⟩
  cases q : R' l with
  | none => rfl
  | some o =>
    rcases s.n l (by rw [q]; exact fun z => nomatch z) with z | z
    · exact absurd S.dp.rl z
    · rcases z with z | ⟨xs, z⟩ <;> (rw [S.dp.top] at z; cases z)
theorem StD.grown (S : StD K Z O i σ H R ρ l as dss) (s : Same H H') : StD K Z O i σ H' R ρ l as dss :=
  have y : Ext H R H' R := ⟨s, Same.refl _, fun a o z => s _ _ (S.st.sub a o z), fun _ z => .inl z⟩
  S.stp (S.st.ext y) y.stp S.no
theorem StD.lent (S : StD K Z O i σ H R ρ l as dss) : StR K ⟨H, H, fun _ => False, []⟩ [] σ H H (ρ.set i (some (.lst (dss.map D.lst)))) := by
  have hl : i < ρ.length := (List.getElem?_eq_some_iff.mp S.no).1
  refine ⟨fun _ _ z => z, by rw [List.length_set]; exact S.st.len, fun j d _ z => ?_, fun i hi => (nomatch hi), fun i j hi _ => (nomatch hi), fun _ _ z _ => z, Same.refl _, fun _ z => .inl z, fun _ z => .refl z, fun i hi _ => (nomatch hi), fun i hi _ => (nomatch hi)⟩
  by_cases q : i = j
  · subst q
    rw [List.getElem?_set_self hl] at z
    cases z
    exact ⟨_, S.at', .lst (SqL.of S.dp.top) (S.dp.inn.rps S.st.sub)⟩
  · rw [List.getElem?_set_ne q] at z
    by_cases hO : j ∈ O
    · obtain ⟨m, vs, ds, h1, h2, h3, h4, h5⟩ := S.st.own j hO
      rw [h1] at z
      cases z
      exact ⟨_, h2, (h5.mono S.st.sub).rp h3⟩
    · obtain ⟨v, h1, h2⟩ := S.st.env j d hO z
      exact ⟨v, h1, h2.mono S.st.sub⟩
theorem StD.test {tt : TT} {f : Rho → Option (Bool × Rho)} {b : Bool} {ρ1 : Rho} {Q : Bool → Hp → Prop} (S : StD K Z O i σ H R ρ l as dss) (h : MT K [] tt f) (e : f (ρ.set i (some (.lst (dss.map D.lst)))) = some (b, ρ1)) (k : ∀ H', StD K Z O i σ H' R ρ l as dss → Q b H') : tt σ H Q :=
  h _ σ H H _ b ρ1 Q S.lent e fun H' R' S' st => k H' (S.grown fun a o z => st.h a o z fun i hi => (nomatch hi))
theorem StD.set (S : StD K Z O i σ H R ρ l as dss) {v : V} {d : D} (hj : j ∉ O) (ij : j ≠ i) (r : Rp K R v d) : StD K Z O i (σ.set j (some v)) H R (ρ.set j (some d)) l as dss :=
  ⟨S.st.set hj r, S.hi, by rw [List.getElem?_set_ne ij]; exact S.no, by rw [List.getElem?_set_ne ij]; exact S.at', S.dp, S.z0, fun a ha k hk => by
    rw [List.getElem?_set_ne fun (q : j = k) => hj (q ▸ hk)]
    exact S.ow a ha k hk⟩
theorem StR.weak (S : StR K Z O σ H R ρ) (hl : ρ'.length = ρ.length) (he : ∀ j d, j ∉ O → ρ'[j]? = some (some d) → ρ[j]? = some (some d)) (ho : ∀ j, j ∈ O → ρ'[j]? = ρ[j]?) : StR K Z O σ H R ρ' :=
  ⟨S.sub, by rw [hl]; exact S.len, fun j d hj e => S.env j d hj (he j d hj e), fun j hj => by rw [ho j hj]; exact S.own j hj, S.dis, S.ah, S.ar, S.an, S.ad, S.ao, S.ap⟩
theorem StR.blind {v : V} (S : StR K Z O σ H R ρ) (hj : j ∉ O) : StR K Z O (σ.set j (some v)) H R (ρ.set j none) := by
  have ne : ∀ k, k ∈ O → j ≠ k := fun k hk z => hj (z ▸ hk)
  refine ⟨S.sub, by rw [List.length_set, List.length_set]; exact S.len, fun k e hk q => ?_, fun k hk => ?_, fun k m hk hm n l e => ?_, S.ah, S.ar, S.an, S.ad, fun k hk hp l e => ?_, fun k hk hp l e => ?_⟩
  · by_cases hij : j = k
    · subst hij
      have hl : j < ρ.length := by
        have := (List.getElem?_eq_some_iff.mp q).1
        rwa [List.length_set] at this
      rw [List.getElem?_set_self hl] at q
      cases q
    · rw [List.getElem?_set_ne hij] at q ⊢
      exact S.env k e hk q
  · rw [List.getElem?_set_ne (ne k hk), List.getElem?_set_ne (ne k hk)]
    exact S.own k hk
  · rw [List.getElem?_set_ne (ne k hk)] at e
    rw [List.getElem?_set_ne (ne m hm)]
    exact S.dis k m hk hm n l e
  · rw [List.getElem?_set_ne (ne k hk)] at e
    exact S.ao k hk hp l e
  · rw [List.getElem?_set_ne (ne k hk)] at e
    exact S.ap k hk hp l e
theorem StD.blind {v : V} (S : StD K Z O i σ H R ρ l as dss) (hj : j ∉ O) (ij : j ≠ i) (nj : ρ[j]? = some none) : StD K Z O i (σ.set j (some v)) H R ρ l as dss := by
  have e : ρ.set j none = ρ := by
    apply List.ext_getElem?
    intro k
    by_cases q : j = k
    · subst q
      rw [List.getElem?_set_self (List.getElem?_eq_some_iff.mp nj).1, nj]
    · rw [List.getElem?_set_ne q]
  refine ⟨e ▸ S.st.blind hj, S.hi, S.no, by rw [List.getElem?_set_ne ij]; exact S.at', S.dp, S.z0, fun a ha k hk => ?_⟩
  rw [List.getElem?_set_ne fun (q : j = k) => hj (q ▸ hk)]
  exact S.ow a ha k hk
theorem StD.wrAt {k : Nat} {a : Addr} {vs : List V} {ds : List D} (S : StD K Z O i σ H R ρ l as dss) (e : as[k]? = some a) (r : Rps K R vs ds) : StD K Z O i σ (upd H a (.lst vs)) R ρ l as (dss.set k ds) := by
  have m : a ∈ l :: as := List.mem_cons_of_mem _ (List.mem_of_getElem? e)
  obtain ⟨_, _, _, _, hr, _⟩ := S.dp.inn.at e
  exact ⟨S.st.put hr (fun j hj => S.ow a m j hj) (S.z0 a m), S.hi, S.no, S.at', S.dp.setAt e r, S.z0, S.ow⟩
theorem StD.grow {b : Addr} {vs : List V} {ds : List D} (S : StD K Z O i σ H R ρ l as dss) (hb : H b = none) (r : Rps K R vs ds) : StD K Z O i σ (upd (upd H b (.lst vs)) l (.lst ((as ++ [b]).map V.ref))) R ρ l (as ++ [b]) (dss ++ [ds]) := by
  have rb : R b = none := S.st.out hb
  have zb : Z.H0 b = none := S.st.new0 hb
  have ob : ∀ j, j ∈ O → σ[j]? ≠ some (some (.ref b)) := S.st.notnew hb
  have m : l ∈ l :: as := List.mem_cons_self
  have mem : ∀ a, a ∈ l :: (as ++ [b]) → a ∈ l :: as ∨ a = b := fun a ha => by
    rcases List.mem_cons.mp ha with q | q
    · exact .inl (q ▸ m)
    · rcases List.mem_append.mp q with q | q
      · exact .inl (List.mem_cons_of_mem _ q)
      · exact .inr (List.mem_singleton.mp q)
  refine ⟨(S.st.put rb ob zb).put S.dp.rl (S.ow l m) (S.z0 l m), S.hi, S.no, S.at', S.dp.grow hb rb r, fun a ha => ?_, fun a ha => ?_⟩
  · rcases mem a ha with q | q
    · exact S.z0 a q
    · rw [q]; exact zb
  · rcases mem a ha with q | q
    · exact S.ow a q
    · rw [q]; exact ob
end
noncomputable abbrev Fd := Rho → List (List D) → Option (Rho × List (List D))
noncomputable def MSD (K : PySem.W.Frag) (O : List Nat) (i : Nat) (t : TS) (f : Fd) : Prop := ∀ (Z : Anc) (E : Ends) (σ : St) (H R : Hp) (ρ : Rho) (l : Addr) (as : List Addr) (dss : List (List D)) (ρ' : Rho) (dss' : List (List D)), StD K Z O i σ H R ρ l as dss → f ρ dss = some (ρ', dss') →
  (∀ σ' H' R' as', StD K Z O i σ' H' R' ρ' l as' dss' → Same R R' → E.nx σ' H') → t E σ H
section
variable {K : PySem.W.Frag} {O : List Nat} {i j : Nat} {t u : TS} {te : TE} {tt : TT} {tr : TA} {f h : Fd} {fe : Rho → Option (D × Rho)} {fs : Rho → Option (List D × Rho)} {ft : Rho → Option (Bool × Rho)}
noncomputable def fdNil : Fd := fun ρ dss => some (ρ, dss)
theorem msd_nil : MSD K O i tNext fdNil := fun Z E σ H R ρ l as dss ρ' dss' S e k => by
  cases e
  exact k σ H R as S (Same.refl _)
noncomputable def fdSeq (f h : Fd) : Fd := fun ρ dss => match f ρ dss with
  | some p => h p.1 p.2
  | none => none
theorem msd_seq (h1 : MSD K O i t f) (h2 : MSD K O i u h) : MSD K O i (tSeq t u) (fdSeq f h) := fun Z E σ H R ρ l as dss ρ' dss' S e k => by
  unfold fdSeq at e
  split at e
  · rename_i p q
    exact h1 Z _ σ H R ρ l as dss p.1 p.2 S q fun σ1 H1 R1 as1 S1 s1 => h2 Z E σ1 H1 R1 p.1 l as1 p.2 ρ' dss' S1 e fun σ2 H2 R2 as2 S2 s2 => k σ2 H2 R2 as2 S2 (s1.trans s2)
  · cases e
noncomputable def fdIf (i : Nat) (ft : Rho → Option (Bool × Rho)) (f h : Fd) : Fd := fun ρ dss => match ft (ρ.set i (some (.lst (dss.map D.lst)))) with
  | some (b, _) => if b = true then f ρ dss else h ρ dss
  | none => none
theorem msd_if (ht : MT K [] tt ft) (h1 : MSD K O i t f) (h2 : MSD K O i u h) : MSD K O i (tIfS tt t u) (fdIf i ft f h) := fun Z E σ H R ρ l as dss ρ' dss' S e k => by
  unfold fdIf at e
  split at e
  · rename_i b ρ1 q
    refine S.test ht q fun H1 S1 => ?_
    cases b with
    | true => exact iteT (h1 Z E σ H1 R ρ l as dss ρ' dss' S1 e k)
    | false => exact iteF (h2 Z E σ H1 R ρ l as dss ρ' dss' S1 e k)
  · cases e
noncomputable def fdNo : Fd := fun _ _ => none
theorem msd_no : MSD K O i t fdNo := fun Z E σ H R ρ l as dss ρ' dss' S e k => by cases e
noncomputable def isFree (ρ : Rho) (i : Nat) : Bool := match ρ[i]? with
  | some none => true
  | _ => false
theorem isFree_at {ρ : Rho} {i : Nat} (h : isFree ρ i = true) : ρ[i]? = some none := by
  unfold isFree at h
  split at h
  · assumption
  · cases h
noncomputable def fdSet (i j : Nat) (fe : Rho → Option (D × Rho)) : Fd := fun ρ dss => match fe ρ with
  | some (d, ρ1) => if isFree ρ1 i = true then some (ρ1.set j (some d), dss) else none
  | none => none
theorem msd_set (he : ME K O te fe) (hj : j ∉ O) (ij : j ≠ i) : MSD K O i (tAsg te (gName j)) (fdSet i j fe) := fun Z E σ H R ρ l as dss ρ' dss' S e k => by
  unfold fdSet at e
  split at e
  · rename_i d ρ1 q
    split at e
    · rename_i z
      cases e
      have no := isFree_at z
      exact he Z σ H R ρ d ρ1 _ S.st q fun v H1 R1 S1 st1 r1 => k _ H1 R1 as ((S.stp S1 st1 no).set hj ij r1) st1.r
    · cases e
  · cases e
noncomputable def dPush (dss : List (List D)) (d : D) : Option (List (List D)) := match dss[dss.length - 1]? with
  | some ds => if ds.length < sizeLine then some (dss.set (dss.length - 1) (ds ++ [d])) else none
  | none => none
noncomputable def fdPush (i : Nat) (fs : Rho → Option (List D × Rho)) : Fd := fun ρ dss => match fs ρ with
  | some ([d], ρ1) => if isFree ρ1 i = true then (dPush dss d).map fun x => (ρ1, x) else none
  | _ => none
theorem msd_push {tm : TE} (hm : ∀ (σ : St) (H : Hp) (Q : VK), Q (.int (-1)) H → tm σ H Q) (ha : MA K O tr fs) : MSD K O i (tDrop (tBM K "list" rAppend (tOp (rIx K) (tVar i) tm) tr)) (fdPush i fs) := fun Z E σ H R ρ l as dss ρ' dss' S e k => by
  unfold fdPush at e
  split at e
  · rename_i d ρ1 q
    split at e
    · rename_i z
      have no := isFree_at z
      cases w : dPush dss d with
      | none => rw [w] at e; cases e
      | some x =>
        rw [w] at e
        cases e
        unfold dPush at w
        split at w
        · rename_i ds w1
          split at w
          · rename_i w2
            cases w
            have ln := S.dp.inn.len
            have hk : dss.length - 1 < as.length := by rw [ln]; exact (List.getElem?_eq_some_iff.mp w1).1
            have ea : as[dss.length - 1]? = some as[dss.length - 1] := List.getElem?_eq_getElem hk
            obtain ⟨vs, ds2, g1, g2, g3, g4⟩ := S.dp.inn.at ea
            rw [w1] at g1
            cases g1
            refine ⟨.ref l, S.at', hm σ H _ (.inl ⟨l, _, -1, .ref as[dss.length - 1], rfl, rfl, SqL.of S.dp.top, ?_, ?_⟩)⟩
            · unfold atI
              have e1 : ixN (as.map V.ref).length (-1) = some (dss.length - 1) := by
                rw [List.length_map, ln]
                unfold ixN
                rw [if_neg (by decide), if_pos (by omega)]
                congr 1
                omega
              rw [e1]
              show (as.map V.ref)[dss.length - 1]? = _
              rw [List.getElem?_map, ea]
              rfl
            · refine ⟨.inl ⟨rfl, vs, SqL.of g2⟩, ha Z σ H R ρ [d] _ _ S.st q fun ws H1 R1 S1 st1 r1 => ?_⟩
              obtain ⟨v, _, rfl, rv, rn⟩ := r1.isC
              cases rn
              have S2 := S.stp S1 st1 no
              obtain ⟨vs2, ds3, g1, g2, g3, g4⟩ := S2.dp.inn.at ea
              rw [w1] at g1
              cases g1
              exact ⟨_, vs2, v, rfl, rfl, g2, by rw [g4.length]; exact w2, k σ _ R1 as (S2.wrAt ea (g4.snoc rv)) st1.r⟩
          · cases w
        · cases w
    · cases e
  · cases e
noncomputable def fdGrow (i : Nat) (fs : Rho → Option (List D × Rho)) : Fd := fun ρ dss => match fs ρ with
  | some (ds, ρ1) => if isFree ρ1 i = true ∧ ds.length ≤ sizeLine ∧ dss.length < sizeLine then some (ρ1, dss ++ [ds]) else none
  | none => none
theorem msd_grow (ha : MA K O tr fs) : MSD K O i (tDrop (tBM K "list" rAppend (tVar i) (tCons (tLst tr) tNil))) (fdGrow i fs) := fun Z E σ H R ρ l as dss ρ' dss' S e k => by
  unfold fdGrow at e
  split at e
  · rename_i ds ρ1 q
    split at e
    · rename_i z
      obtain ⟨z1, z2, z3⟩ := z
      have no := isFree_at z1
      cases e
      refine ⟨.ref l, S.at', .inl ⟨rfl, _, SqL.of S.dp.top⟩, ha Z σ H R ρ ds _ _ S.st q fun ws H1 R1 S1 st1 r1 => ⟨by rw [r1.length]; exact z2, fun b hb => ?_⟩⟩
      have S2 := S.stp S1 st1 no
      have nl : l ≠ b := fun y => by have := S2.dp.top; rw [y, hb] at this; cases this
      refine ⟨l, as.map V.ref, .ref b, rfl, rfl, by rw [upd_ne nl]; exact S2.dp.top, by rw [List.length_map, S2.dp.inn.len]; exact z3, ?_⟩
      have S3 := S2.grow hb r1
      rw [List.map_append] at S3
      exact k σ _ R1 _ S3 st1.r
    · cases e
  · cases e
noncomputable def fdRun (j : Nat) (f : Fd) : List D → Fd
  | [], ρ, dss => some (ρ, dss)
  | d :: r, ρ, dss => match f (ρ.set j (some d)) dss with
    | some p => fdRun j f r p.1 p.2
    | none => none
noncomputable def fdFor (i j : Nat) (fi : Rho → Option (List D × Rho)) (f : Fd) : Fd := fun ρ dss => match fi ρ with
  | some (ds, ρ1) => if isFree ρ1 i = true then fdRun j f ds ρ1 dss else none
  | none => none
theorem msd_for {wi : TI} {fi : Rho → Option (List D × Rho)} {tb : TS} (hi : MI K O wi fi) (hj : j ∉ O) (ij : j ≠ i) (hb : MSD K O i tb f) : MSD K O i (tFor wi (gName j) tb) (fdFor i j fi f) := fun Z E σ H R ρ l as dss ρ' dss' S e k => by
  unfold fdFor at e
  split at e
  · rename_i ds ρ1 q
    split at e
    · rename_i z
      have no := isFree_at z
      refine hi Z σ H R ρ ds ρ1 _ S.st q fun J H1 R1 S1 st1 ok => ?_
      have S2 := S.stp S1 st1 no
      refine ⟨fun n m σ' H' => m = ds.length - n ∧ n ≤ ds.length ∧ ∃ R2 ρ2 as2 dss2, StD K Z O i σ' H' R2 ρ2 l as2 dss2 ∧ Same R1 R2 ∧ fdRun j f (ds.drop n) ρ2 dss2 = some (ρ', dss'), ⟨ds.length, by simp, Nat.zero_le _, R1, ρ1, as, dss, S2, Same.refl _, by rw [List.drop_zero]; exact e⟩, ?_⟩
      rintro n m σ' H' ⟨rfl, hn, R2, ρ2, as2, dss2, S3, s3, e3⟩
      obtain ⟨o1, o2⟩ := ok H' R2 s3 S3.st.sub n
      by_cases hlt : n < ds.length
      · obtain ⟨g1, g2⟩ := o2 ds[n] (List.getElem?_eq_getElem hlt)
        rw [List.drop_eq_getElem_cons hlt] at e3
        refine .inr ⟨g1, fun σ3 H3 => ∃ R2 ρ2 as2 dss2, StD K Z O i σ3 H3 R2 ρ2 l as2 dss2 ∧ Same R1 R2 ∧ fdRun j f (ds.drop (n + 1)) ρ2 dss2 = some (ρ', dss'), ?_, fun x H3 y => ?_⟩
        · rintro σ3 H3 ⟨R3, ρ3, as3, dss3, q1, q2, q3⟩
          exact ⟨ds.length - (n + 1), by omega, rfl, hlt, R3, ρ3, as3, dss3, q1, q2, q3⟩
        · obtain ⟨R3, x3, r3⟩ := g2 x H3 y
          have S4 := (S3.stp (S3.st.ext x3) x3.stp S3.no).set hj ij r3
          unfold fdRun at e3
          split at e3
          · rename_i p e4
            exact hb Z _ _ H3 R3 _ l as2 dss2 p.1 p.2 S4 e4 fun σ5 H5 R5 as5 S5 s5 => ⟨R5, p.1, as5, p.2, S5, (s3.trans x3.r).trans s5, e3⟩
          · cases e3
      · have en : n = ds.length := by omega
        subst en
        rw [List.drop_length] at e3
        unfold fdRun at e3
        cases e3
        exact .inl ⟨o1 rfl, k σ' H' R2 as2 S3 (st1.r.trans s3)⟩
    · cases e
  · cases e
noncomputable def fdEach (j : Nat) (d : D) : Fd := fun ρ dss => if isFree ρ j = true ∧ (dss.all fun ds => decide (ds.length < sizeLine)) = true then some (ρ, dss.map (· ++ [d])) else none
theorem msd_each {v : V} {d : D} (hv : Sc v d) (hj : j ∉ O) (ij : j ≠ i) : MSD K O i (tFor (iSeq K (tVar i)) (gName j) (tDrop (tBM K "list" rAppend (tVar j) (tCons (tC v) tNil)))) (fdEach j d) := fun Z E σ H R ρ l as dss ρ' dss' S e k => by
  unfold fdEach at e
  split at e
  · rename_i z
    obtain ⟨z1, z2⟩ := z
    have nj := isFree_at z1
    cases e
    refine .inl ⟨.ref l, S.at', l, rfl, ⟨_, SqL.of S.dp.top⟩, fun n m σ' H' => m = dss.length - n ∧ n ≤ dss.length ∧ StD K Z O i σ' H' R ρ l as ((dss.take n).map (· ++ [d]) ++ dss.drop n), ⟨dss.length, by simp, Nat.zero_le _, by simpa using S⟩, ?_⟩
    rintro n m σ' H' ⟨rfl, hn, S3⟩
    have ln := S.dp.inn.len
    by_cases hlt : n < dss.length
    · have hk : n < as.length := by omega
      have ea : as[n]? = some as[n] := List.getElem?_eq_getElem hk
      have em : (as.map V.ref)[n]? = some (.ref as[n]) := by rw [List.getElem?_map, ea]; rfl
      refine .inr ⟨⟨_, _, SqL.of S3.dp.top, em⟩, fun σ3 H3 => StD K Z O i σ3 H3 R ρ l as ((dss.take (n + 1)).map (· ++ [d]) ++ dss.drop (n + 1)), ?_, fun x H3 y => ?_⟩
      · intro σ3 H3 q
        exact ⟨dss.length - (n + 1), by omega, rfl, hlt, q⟩
      · obtain ⟨rfl, y⟩ := y
        have ex := y _ (SqL.of S3.dp.top)
        rw [em] at ex
        cases ex
        have S4 := S3.blind (v := .ref as[n]) hj ij nj
        have hj' : j < σ'.length := by rw [S3.st.len]; exact (List.getElem?_eq_some_iff.mp nj).1
        obtain ⟨vs, ds, g1, g2, g3, g4⟩ := S4.dp.inn.at ea
        have lt1 : ((dss.take n).map (· ++ [d])).length = n := by simp; omega
        rw [List.getElem?_append_right (by omega), lt1, Nat.sub_self, List.getElem?_drop, Nat.add_zero] at g1
        have dsn : ds = dss[n] := by
          rw [List.getElem?_eq_getElem hlt] at g1
          exact (Option.some.inj g1).symm
        subst dsn
        have sz : dss[n].length < sizeLine := by
          have := List.all_eq_true.mp z2 dss[n] (List.getElem_mem hlt)
          simpa using this
        refine ⟨.ref as[n], by rw [List.getElem?_set_self hj'], .inl ⟨rfl, vs, SqL.of g2⟩, as[n], vs, v, rfl, rfl, g2, by rw [g4.length]; exact sz, ?_⟩
        have S5 := S4.wrAt ea (g4.snoc hv.rp)
        have en : ((dss.take n).map (· ++ [d]) ++ dss.drop n).set n (dss[n] ++ [d]) = (dss.take (n + 1)).map (· ++ [d]) ++ dss.drop (n + 1) := by
          rw [List.set_append_right _ _ (by omega), lt1, Nat.sub_self, List.drop_eq_getElem_cons hlt, List.set_cons_zero, List.take_succ_eq_append_getElem hlt, List.map_append, List.append_assoc]
          rfl
        rw [en] at S5
        exact S5
    · have en : n = dss.length := by omega
      subst en
      refine .inl ⟨⟨_, SqL.of S3.dp.top, by rw [List.length_map]; omega⟩, k σ' H' R as ?_ (Same.refl _)⟩
      simpa using S3
  · cases e
end
end L2
set_option Elab.async false
set_option linter.all false
set_option maxRecDepth 100000
set_option maxHeartbeats 4000000
namespace L2
open PySem PySem.Spec PyProof.Rows
noncomputable def spD (K : PySem.W.Frag) (n : Nat) (f : List D → Option (List (List D))) : Sp := fun vs H Q _ => vs.length = n ∧ ∃ R ds dss, (∀ a o, R a = some o → H a = some o) ∧ Rps K R vs ds ∧ f ds = some dss ∧
  ∀ l as H' R', Ext H R H' R' → (∀ a ∈ l :: as, H a = none) → Deep K H' R' l as dss → Q (.ref l) H'
noncomputable def spDX (K : PySem.W.Frag) (n : Nat) (f : List D → Option (List (List D))) (fx : List D → Option Str) : Sp := fun vs H Q E => spD K n f vs H Q E ∨
  (vs.length = n ∧ ∃ R ds C, (∀ a o, R a = some o → H a = some o) ∧ Rps K R vs ds ∧ fx ds = some C ∧ ∀ H' R', Ext H R H' R' → ExE K E C H')
theorem spDX_len {K : PySem.W.Frag} {n : Nat} {f : List D → Option (List (List D))} {fx : List D → Option Str} {vs : List V} {H : Hp} {Q : VK} {E : XK} (h : spDX K n f fx vs H Q E) : vs.length = n := by
  rcases h with h | h
  · exact h.1
  · exact h.1
noncomputable def dDeep (o : Option (List (List D))) : Option D := o.map fun dss => .lst (dss.map D.lst)
theorem Deep.known {K : PySem.W.Frag} {H R H' R' : Hp} {l : Addr} {as : List Addr} {dss : List (List D)} (x : Ext H R H' R') (z : ∀ a ∈ l :: as, H a = none) (h : Deep K H' R' l as dss) : ∃ R1, Ext H R H' R1 ∧ Rp K R1 (.ref l) (.lst (dss.map D.lst)) := by
  have S : StR K ⟨H, R, fun _ => False, []⟩ [] [] H' R' [] := ⟨x.s, rfl, fun i d _ q => by simp at q, fun i hi => (nomatch hi), fun i j hi => (nomatch hi), fun a o q _ => x.h a o q, x.r, x.n, fun a q => x.h.liv q, fun i hi => (nomatch hi), fun i hi => (nomatch hi)⟩
  obtain ⟨nl, nd⟩ := List.nodup_cons.mp h.nd
  obtain ⟨R1, S1, s1, r1, o1⟩ := S.knowAll h.inn nd fun a ha => ⟨z a (List.mem_cons_of_mem _ ha), fun j hj => (nomatch hj)⟩
  have e1 : R1 l = none := by rw [o1 l nl]; exact h.rl
  have S2 := S1.know (z l List.mem_cons_self) h.top e1 fun j hj => (nomatch hj)
  exact ⟨_, ⟨fun a o q => S2.ah a o q (fun z => z), S2.ar, S2.sub, S2.an⟩, .lst (SqL.of upd_same) (r1.mono (Same.new e1))⟩
theorem spP_D {K : PySem.W.Frag} {n : Nat} {f : List D → Option (List (List D))} {vs : List V} {H : Hp} {Q : VK} {E : XK} (h : spP K false n (fun ds => dDeep (f ds)) vs H Q E) : spD K n f vs H Q E := by
  obtain ⟨hn, R, ds, d, sub, r, e, k⟩ := h
  have e : dDeep (f ds) = some d := e
  cases q : f ds with
  | none => rw [q] at e; cases e
  | some dss =>
    rw [q] at e
    cases e
    refine ⟨hn, R, ds, dss, sub, r, q, fun l as H' R' x z dp => ?_⟩
    obtain ⟨R1, x1, r1⟩ := dp.known x z
    exact k _ H' R1 x1 r1
theorem spPX_D {K : PySem.W.Frag} {n : Nat} {f : List D → Option (List (List D))} {fx : List D → Option Str} {vs : List V} {H : Hp} {Q : VK} {E : XK} (h : spPX K false n (fun ds => dDeep (f ds)) fx vs H Q E) : spDX K n f fx vs H Q E := by
  rcases h with h | h
  · exact .inl (spP_D h)
  · exact .inr h
noncomputable def tDeep (i : Nat) (t : TS) : TS := tSeq (tAsg (tLst tNil) (gName i)) (tSeq t (tRet (tVar i)))
theorem StR.begin {K : PySem.W.Frag} {Z : Anc} {O : List Nat} {i : Nat} {σ : St} {H R : Hp} {ρ : Rho} {l : Addr} (S : StR K Z O σ H R ρ) (hi : i ∉ O) (hl : i < ρ.length) (h : H l = none) : StD K Z O i (σ.set i (some (.ref l))) (upd H l (.lst [])) R (ρ.set i none) l [] [] := by
  have x := Ext.hid (o := .lst []) S.sub h
  refine ⟨(S.ext x).blind hi, hi, List.getElem?_set_self hl, List.getElem?_set_self (by rw [S.len]; exact hl), ⟨upd_same, S.out h, .nil, by simp⟩, fun a ha => ?_, fun a ha j hj => ?_⟩
  · rw [List.mem_singleton.mp ha]; exact S.new0 h
  · rw [List.getElem?_set_ne fun (q : i = j) => hi (q ▸ hj), List.mem_singleton.mp ha]
    exact S.notnew h j hj
noncomputable def runD (n N i : Nat) (f : Fd) (ds : List D) : Option (List (List D)) := if ds.length = n then match f ((ds.map some ++ List.replicate (N - n) none).set i none) [] with
    | some p => some p.2
    | none => none
  else none
noncomputable def runD1 (n N i : Nat) (g : Rho → Option Out) (f : Fd) (ds : List D) : Option (List (List D)) := if ds.length = n then match g (ds.map some ++ List.replicate (N - n) none) with
    | some (.nx ρ) => if i < ρ.length then (match f (ρ.set i none) [] with
      | some p => some p.2
      | none => none) else none
    | _ => none
  else none
theorem deep_body {K : PySem.W.Frag} {i : Nat} {t : TS} {f : Fd} {H R H1 R1 : Hp} {σ : St} {ρ : Rho} {dss : List (List D)} {Q : VK} (hm : MSD K [] i t f) (S : StR K ⟨H, R, fun _ => False, []⟩ [] σ H1 R1 ρ) (hl : i < ρ.length) {ρ' : Rho} (e : f (ρ.set i none) [] = some (ρ', dss))
    (k : ∀ l as H' R', Ext H R H' R' → (∀ a ∈ l :: as, H a = none) → Deep K H' R' l as dss → Q (.ref l) H') : tDeep i t { nx := fun _ H' => Q .non H', rt := Q } σ H1 := by
  refine ⟨by show 0 ≤ sizeLine; exact Nat.zero_le _, fun p hp => ?_⟩
  refine hm _ _ _ _ R1 _ p [] [] ρ' dss (S.begin (by simp) hl hp) e fun σ' H' R' as' S' s' => ?_
  exact ⟨.ref p, S'.at', k p as' H' R' ⟨fun a o q => S'.st.ah a o q (fun z => z), S'.st.ar, S'.st.sub, S'.st.an⟩ S'.z0 S'.dp⟩
theorem first_st {K : PySem.W.Frag} {Nms : List Str} {n : Nat} {H R : Hp} {vs : List V} {ds : List D} (hn : vs.length = n) (hl : ds.length = n) (sub : ∀ a o, R a = some o → H a = some o) (r : Rps K R vs ds) : StR K ⟨H, R, fun _ => False, []⟩ [] (start Nms vs) H R (ds.map some ++ List.replicate (Nms.length - n) none) := by
  refine ⟨sub, ?_, fun i d _ q => ?_, fun i hi => absurd hi (by simp), fun i j hi => absurd hi (by simp), fun a o q _ => q, Same.refl _, fun a q => .inl q, fun a q => .refl q, fun i hi => absurd hi (by simp), fun i hi => absurd hi (by simp)⟩
  · unfold start
    rw [List.length_append, List.length_append, List.length_map, List.length_map, List.length_replicate, List.length_replicate, hn, hl]
  · obtain ⟨v, h1, h2⟩ := r.get (slots_get q)
    exact ⟨v, start_get h1, h2⟩
theorem spD_body {K : PySem.W.Frag} {n i : Nat} {Nms : List Str} {t : TS} {f : Fd} {vs : List V} {H : Hp} {Q : VK} {E : XK} (hi : i < n + (Nms.length - n)) (hm : MSD K [] i t f) (h : spD K n (runD n Nms.length i f) vs H Q E) : tDeep i t { nx := fun _ H' => Q .non H', rt := Q } (start Nms vs) H := by
  obtain ⟨hn, R, ds, dss, sub, r, e, k⟩ := h
  unfold runD at e
  split at e
  · rename_i hl
    split at e
    · rename_i p e1
      cases e
      exact deep_body hm (first_st hn hl sub r) (by simp only [List.length_append, List.length_map, List.length_replicate]; omega) e1 k
    · cases e
  · cases e
theorem spDX_body {K : PySem.W.Frag} {n i : Nat} {Nms : List Str} {t1 t : TS} {g : Rho → Option Out} {gx : Xr} {f : Fd} {vs : List V} {H : Hp} {Q : VK} {E : XK} (hi : i < n + (Nms.length - n)) (h1 : MS ⟨K, false, [], []⟩ [] [] t1 g) (hx : MSX ⟨K, false, [], []⟩ [] t1 E gx) (hm : MSD K [] i t f)
    (h : spDX K n (runD1 n Nms.length i g f) (runX n Nms.length gx) vs H Q E) : tSeq t1 (tDeep i t) { nx := fun _ H' => Q .non H', rt := Q } (start Nms vs) H := by
  rcases h with ⟨hn, R, ds, dss, sub, r, e, k⟩ | ⟨hn, R, ds, C, sub, r, e, k⟩
  · unfold runD1 at e
    split at e
    · rename_i hl
      have S := first_st (Nms := Nms) hn hl sub r
      split at e
      · rename_i ρ1 e1
        split at e
        · rename_i hl1
          split at e
          · rename_i p e2
            cases e
            exact h1 _ _ _ _ _ _ _ rfl S e1 fun σ1 H1 R1 S1 s1 => deep_body hm S1 hl1 e2 k
          · cases e
        · cases e
      · cases e
    · cases e
  · unfold runX at e
    split at e
    · rename_i hl
      have S := first_st (Nms := Nms) hn hl sub r
      cases e1 : gx (ds.map some ++ List.replicate (Nms.length - n) none) with
      | none => rw [e1] at e; cases e
      | some p =>
        obtain ⟨C1, ρ1⟩ := p
        rw [e1] at e
        cases e
        exact hx _ _ _ _ _ _ _ ρ1 rfl S e1 fun O2 σ' H' R' S' => k H' R' ⟨fun a o q => S'.ah a o q (fun z => z), S'.ar, S'.sub, S'.an⟩
    · cases e
theorem runD_n {n N i : Nat} {f : Fd} : runsN n (fun ds => dDeep (runD n N i f ds)) := fun ds d e => by
  have e : dDeep (runD n N i f ds) = some d := e
  unfold runD at e
  split at e
  · assumption
  · cases e
theorem runD1_n {n N i : Nat} {g : Rho → Option Out} {f : Fd} : runsN n (fun ds => dDeep (runD1 n N i g f ds)) := fun ds d e => by
  have e : dDeep (runD1 n N i g f ds) = some d := e
  unfold runD1 at e
  split at e
  · assumption
  · cases e
noncomputable def sChunk (i : Nat) (fs : Rho → Option (List D × Rho)) (fD : List D → Option (List (List D))) (g : Fd) : Rho → Option Out := fun ρ => match fs ρ with
  | some (ds, ρ1) => if i < ρ1.length then (match fD ds with
    | some dss => (match g (ρ1.set i none) dss with
      | some p => some (.nx p.1)
      | none => none)
    | none => none) else none
  | none => none
theorem ms_chunk {c : MC} {O : List Nat} {i n : Nat} {tr : TA} {fs : Rho → Option (List D × Rho)} {fD : List D → Option (List (List D))} {fx : List D → Option Str} {E : XK} {t : TS} {g : Fd} (hf : runsN n (fun ds => dDeep (fD ds))) (ha : MA c.K O tr fs) (hi : i ∉ O) (hm : MSD c.K O i t g) : MS c O O (tSeq (tAsg (tCall (spDX c.K n fD fx) [] E tr) (gName i)) t) (sChunk i fs fD g) := fun Z Dn σ H R ρ o hP S e k => by
  unfold sChunk at e
  split at e
  · rename_i ds ρ1 e1
    split at e
    · rename_i hl
      split at e
      · rename_i dss e2
        split at e
        · rename_i p e3
          cases e
          refine ha Z σ H R ρ ds ρ1 _ S e1 fun vs H1 R1 S1 st1 r1 => ?_
          show spDX c.K n fD fx (vs ++ []) H1 _ E
          rw [List.append_nil]
          refine .inl ⟨by rw [r1.length]; exact hf ds (.lst (dss.map D.lst)) (by show dDeep (fD ds) = _; rw [e2]; rfl), R1, ds, dss, S1.sub, r1, e2, fun l as H2 R2 x z dp => ?_⟩
          have T : StD c.K Z O i (σ.set i (some (.ref l))) H2 R2 (ρ1.set i none) l as dss := by
            refine ⟨(S1.ext x).blind hi, hi, List.getElem?_set_self hl, List.getElem?_set_self (by rw [S1.len]; exact hl), dp, fun a ha => S1.new0 (z a ha), fun a ha j hj => ?_⟩
            rw [List.getElem?_set_ne fun (q : i = j) => hi (q ▸ hj)]
            exact S1.notnew (z a ha) j hj
          exact hm Z _ _ H2 R2 _ l as dss p.1 p.2 T e3 fun σ' H' R' as' S' s' => k σ' H' R' S'.st ((st1.r.trans x.r).trans s')
        · cases e
      · cases e
    · cases e
  · cases e
theorem ms_as6 {c : MC} {O O' : List Nat} {t1 t2 t3 t4 t5 t6 u : TS} {f : Rho → Option Out} (h : MS c O O' (tSeq (tSeq t1 (tSeq t2 (tSeq t3 (tSeq t4 (tSeq t5 t6))))) u) f) : MS c O O' (tSeq t1 (tSeq t2 (tSeq t3 (tSeq t4 (tSeq t5 (tSeq t6 u)))))) f := h
theorem call_sumT {X : Cx} {K : PySem.W.Frag} (hK : X.K = K) (hc : X.calm = true) : CallR X (.builtin "sum") (fun xs H Q => ∃ (p : Addr) (ns : List Int), xs = [.ref p] ∧ SqT K H p (ns.map V.int) ∧ Q (.int ns.sum) H) := by
  subst hK
  intro pins s σ H xs us Q I r h
  obtain ⟨p, ns, rfl, hq, q⟩ := h
  obtain ⟨u, rfl, ru⟩ := vals1 r
  cases ru
  obtain ⟨its, rv, pl, hz⟩ := I.tuple hq
  have hh : X.A.in1.handled = none := I.ok.hd hc
  have hl : s.heap.IsTuple p its.toArray := pl
  have hlt : p < s.heap.objs.size := by obtain ⟨_, e, _⟩ := hl; exact Heap.lt_size e
  refine call_sum_walkG (wpAny_pyIter_tuple hl ?_)
  refine ⟨_, _, _, _, _, _, fun i => ns.getD i 0, rfl, Walks.tuple hh s.heap.objs.size p (Nat.ne_of_lt hlt) its.toArray, ⟨⟨_, Heap.get?_push_size _ rfl, rfl, rfl⟩, hl.push _⟩, fun b hb => ?_, fun i v hP => vals_nums_get rv (by simpa using hP), fun h' tk t' hk => ?_⟩
  · show b < (s.heap.push _).objs.size
    rw [Heap.size_push]
    rcases List.mem_cons.mp hb with rfl | hb
    · exact Nat.lt_succ_self _
    · rw [List.mem_singleton.mp hb]; exact Nat.lt_succ_of_lt hlt
  · have len : its.toArray.size = ns.length := by have := rv.length; simp at this; simp; omega
    refine ⟨.int ns.sum, H, I.kept (t' := tk) fun b o e => hk b o (fun z => ?_) (Heap.get?_push_of_some _ e), ⟨t', ?_⟩, q⟩
    · have := Heap.lt_size e
      rw [List.mem_singleton.mp z] at this
      exact Nat.lt_irrefl _ this
    · rw [len, preSum_list ns _ (Nat.le_refl _), List.take_length]
noncomputable def dSumT : D → Option D
  | .tup xs => (intsD xs).map fun ns => .int ns.sum
  | _ => none
theorem cs_sumT {K : PySem.W.Frag} : CallS K (fun xs H Q => ∃ (p : Addr) (ns : List Int), xs = [.ref p] ∧ SqT K H p (ns.map V.int) ∧ Q (.int ns.sum) H) dSumT := fun H x d u Q r e k => by
  unfold dSumT at e
  split at e
  · rename_i ds
    obtain ⟨a, xs, rfl, h, q⟩ := r.isT
    cases z : intsD ds with
    | none => rw [z] at e; cases e
    | some ns =>
      rw [z] at e
      cases e
      have ex := intsD_rps q z
      subst ex
      exact ⟨_, ns, rfl, SqT.of h, k _ (.int _)⟩
  · cases e
end L2
set_option Elab.async false
set_option linter.all false
set_option maxRecDepth 100000
set_option maxHeartbeats 4000000
namespace K41
open PySem L2
noncomputable def top (i : Nat) : Stmt := PySem.Challenge.pw_trellisway_k41_blocks_parted.main.body.getD i (.Pass ⟨0, 0, 0, 0⟩)
noncomputable abbrev s_rooms_at : Stmt := top 4
theorem sc_rooms_at : FnScope ["reach"] ["reach"] (defScope s_rooms_at) := ⟨rfl, rfl, rfl, by decide +kernel, rfl, by decide +kernel, by decide +kernel⟩
noncomputable abbrev s_rooms : Stmt := top 5
theorem sc_rooms : FnScope ["scheme"] ["scheme"] (defScope s_rooms) := ⟨rfl, rfl, rfl, by decide +kernel, rfl, by decide +kernel, by decide +kernel⟩
noncomputable abbrev s_parity : Stmt := top 6
theorem sc_parity : FnScope ["number", "left", "odd"] ["number"] (defScope s_parity) := ⟨rfl, rfl, rfl, by decide +kernel, rfl, by decide +kernel, by decide +kernel⟩
noncomputable abbrev s_step : Stmt := top 7
theorem sc_step : FnScope ["scheme", "room", "bit", "window", "signs"] ["scheme", "room", "bit"] (defScope s_step) := ⟨rfl, rfl, rfl, by decide +kernel, rfl, by decide +kernel, by decide +kernel⟩
noncomputable abbrev s_sent_at : Stmt := top 8
theorem sc_sent_at : FnScope ["scheme", "number", "signs", "rows", "row"] ["scheme", "number", "signs"] (defScope s_sent_at) := ⟨rfl, rfl, rfl, by decide +kernel, rfl, by decide +kernel, by decide +kernel⟩
noncomputable abbrev s_is_ring : Stmt := top 10
theorem sc_is_ring : FnScope ["scheme"] ["scheme"] (defScope s_is_ring) := ⟨rfl, rfl, rfl, by decide +kernel, rfl, by decide +kernel, by decide +kernel⟩
noncomputable abbrev s_check_size : Stmt := top 11
theorem sc_check_size : FnScope ["scheme", "size"] ["scheme", "size"] (defScope s_check_size) := ⟨rfl, rfl, rfl, by decide +kernel, rfl, by decide +kernel, by decide +kernel⟩
noncomputable abbrev s_bits_behind : Stmt := top 12
theorem sc_bits_behind : FnScope ["scheme"] ["scheme"] (defScope s_bits_behind) := ⟨rfl, rfl, rfl, by decide +kernel, rfl, by decide +kernel, by decide +kernel⟩
noncomputable abbrev s_steps_of : Stmt := top 13
theorem sc_steps_of : FnScope ["scheme", "size"] ["scheme", "size"] (defScope s_steps_of) := ⟨rfl, rfl, rfl, by decide +kernel, rfl, by decide +kernel, by decide +kernel⟩
noncomputable abbrev s_places_of : Stmt := top 14
theorem sc_places_of : FnScope ["scheme", "size", "signs", "places", "number"] ["scheme", "size"] (defScope s_places_of) := ⟨rfl, rfl, rfl, by decide +kernel, rfl, by decide +kernel, by decide +kernel⟩
noncomputable abbrev s_is_parted : Stmt := top 16
theorem sc_is_parted : FnScope ["earlier", "later", "pause"] ["earlier", "later", "pause"] (defScope s_is_parted) := ⟨rfl, rfl, rfl, by decide +kernel, rfl, by decide +kernel, by decide +kernel⟩
noncomputable abbrev s_blocks : Stmt := top 17
theorem sc_blocks : FnScope ["scheme", "size", "places", "pause", "steps", "found", "place"] ["scheme", "size", "places", "pause"] (defScope s_blocks) := ⟨rfl, rfl, rfl, by decide +kernel, rfl, by decide +kernel, by decide +kernel⟩
noncomputable abbrev s__law_next : Stmt := top 19
theorem sc__law_next : FnScope ["_law_state", "_law_many"] ["_law_state", "_law_many"] (defScope s__law_next) := ⟨rfl, rfl, rfl, by decide +kernel, rfl, by decide +kernel, by decide +kernel⟩
noncomputable abbrev s__law_scheme : Stmt := top 20
theorem sc__law_scheme : FnScope ["_law_state", "_law_most", "_law_ending", "_law_reach", "_law_taps", "_law_rows", "_law_k"] ["_law_state", "_law_most", "_law_ending"] (defScope s__law_scheme) := ⟨rfl, rfl, rfl, by decide +kernel, rfl, by decide +kernel, by decide +kernel⟩
noncomputable abbrev s__law_steps : Stmt := top 21
theorem sc__law_steps : FnScope ["_law_scheme_here", "_law_size", "_law_many", "_law_some", "_law_k"] ["_law_scheme_here", "_law_size"] (defScope s__law_steps) := ⟨rfl, rfl, rfl, by decide +kernel, rfl, by decide +kernel, by decide +kernel⟩
noncomputable abbrev s__law_parted : Stmt := top 22
theorem sc__law_parted : FnScope ["_law_numbers", "_law_places", "_law_pause", "_law_some", "_law_place"] ["_law_numbers", "_law_places", "_law_pause"] (defScope s__law_parted) := ⟨rfl, rfl, rfl, by decide +kernel, rfl, by decide +kernel, by decide +kernel⟩
noncomputable abbrev s__law_refused : Stmt := top 23
theorem sc__law_refused : FnScope ["_law_scheme_here", "_law_size", "_law_pause", "_law_caught", "e"] ["_law_scheme_here", "_law_size", "_law_pause"] (defScope s__law_refused) := ⟨rfl, rfl, rfl, by decide +kernel, rfl, by decide +kernel, by decide +kernel⟩
noncomputable abbrev s_law : Stmt := top 24
theorem sc_law : FnScope ["_law_script", "_law_cell", "_law_state", "_law_scheme_here", "_law_size", "_law_numbers", "_law_seldom", "_law_places", "_law_pause", "_law_handed", "_law_found", "_law_due", "_law_block"] ["_law_script"] (defScope s_law) := ⟨rfl, rfl, rfl, by decide +kernel, rfl, by decide +kernel, by decide +kernel⟩
set_option genInjectivity false in
structure Ad where
  c_WayError : Addr
  c_NoWord : Addr
  f_rooms_at : Addr
  fd_rooms_at : FuncData
  f_rooms : Addr
  fd_rooms : FuncData
  f_parity : Addr
  fd_parity : FuncData
  f_step : Addr
  fd_step : FuncData
  f_sent_at : Addr
  fd_sent_at : FuncData
  f_is_ring : Addr
  fd_is_ring : FuncData
  f_check_size : Addr
  fd_check_size : FuncData
  f_bits_behind : Addr
  fd_bits_behind : FuncData
  f_steps_of : Addr
  fd_steps_of : FuncData
  f_places_of : Addr
  fd_places_of : FuncData
  f_is_parted : Addr
  fd_is_parted : FuncData
  f_blocks : Addr
  fd_blocks : FuncData
  f__law_next : Addr
  fd__law_next : FuncData
  f__law_scheme : Addr
  fd__law_scheme : FuncData
  f__law_steps : Addr
  fd__law_steps : FuncData
  f__law_parted : Addr
  fd__law_parted : FuncData
  f__law_refused : Addr
  fd__law_refused : FuncData
  f_law : Addr
  fd_law : FuncData
structure Txt (K : PySem.W.Frag) (mg : Str → Option Value) (a : Ad) : Prop where
  mg_WayError : mg "WayError" = some (.ref a.c_WayError)
  ns_WayError : PySem.W.nsIn K mainGlobals "WayError" = some (some (.ref a.c_WayError))
  ek_WayError : ExcK K a.c_WayError
  mg_NoWord : mg "NoWord" = some (.ref a.c_NoWord)
  ns_NoWord : PySem.W.nsIn K mainGlobals "NoWord" = some (some (.ref a.c_NoWord))
  ek_NoWord : ExcK K a.c_NoWord
  ex_NoWord : PySem.W.excIn K a.c_NoWord [.type "ValueError", .type "Exception", .type "BaseException", .type "object"] "ValueError.__new__" = true
  em_WayError_WayError : PySem.W.exmOne K (.ref a.c_WayError) (.ref a.c_WayError) = some true
  em_NoWord_WayError : PySem.W.exmOne K (.ref a.c_NoWord) (.ref a.c_WayError) = some true
  F_rooms_at : Fun K "rooms_at" "rooms_at" s_rooms_at a.f_rooms_at a.fd_rooms_at
  B_rooms_at : Binds K a.fd_rooms_at ["reach"] []
  mg_rooms_at : mg "rooms_at" = some (.ref a.f_rooms_at)
  kp_rooms_at : PySem.W.keepIn K (.ref a.f_rooms_at) = true
  F_rooms : Fun K "rooms" "rooms" s_rooms a.f_rooms a.fd_rooms
  B_rooms : Binds K a.fd_rooms ["scheme"] []
  mg_rooms : mg "rooms" = some (.ref a.f_rooms)
  kp_rooms : PySem.W.keepIn K (.ref a.f_rooms) = true
  F_parity : Fun K "parity" "parity" s_parity a.f_parity a.fd_parity
  B_parity : Binds K a.fd_parity ["number"] []
  mg_parity : mg "parity" = some (.ref a.f_parity)
  kp_parity : PySem.W.keepIn K (.ref a.f_parity) = true
  F_step : Fun K "step" "step" s_step a.f_step a.fd_step
  B_step : Binds K a.fd_step ["scheme", "room", "bit"] []
  mg_step : mg "step" = some (.ref a.f_step)
  kp_step : PySem.W.keepIn K (.ref a.f_step) = true
  F_sent_at : Fun K "sent_at" "sent_at" s_sent_at a.f_sent_at a.fd_sent_at
  B_sent_at : Binds K a.fd_sent_at ["scheme", "number", "signs"] []
  mg_sent_at : mg "sent_at" = some (.ref a.f_sent_at)
  kp_sent_at : PySem.W.keepIn K (.ref a.f_sent_at) = true
  F_is_ring : Fun K "is_ring" "is_ring" s_is_ring a.f_is_ring a.fd_is_ring
  B_is_ring : Binds K a.fd_is_ring ["scheme"] []
  mg_is_ring : mg "is_ring" = some (.ref a.f_is_ring)
  kp_is_ring : PySem.W.keepIn K (.ref a.f_is_ring) = true
  F_check_size : Fun K "check_size" "check_size" s_check_size a.f_check_size a.fd_check_size
  B_check_size : Binds K a.fd_check_size ["scheme", "size"] []
  mg_check_size : mg "check_size" = some (.ref a.f_check_size)
  kp_check_size : PySem.W.keepIn K (.ref a.f_check_size) = true
  F_bits_behind : Fun K "bits_behind" "bits_behind" s_bits_behind a.f_bits_behind a.fd_bits_behind
  B_bits_behind : Binds K a.fd_bits_behind ["scheme"] []
  mg_bits_behind : mg "bits_behind" = some (.ref a.f_bits_behind)
  kp_bits_behind : PySem.W.keepIn K (.ref a.f_bits_behind) = true
  F_steps_of : Fun K "steps_of" "steps_of" s_steps_of a.f_steps_of a.fd_steps_of
  B_steps_of : Binds K a.fd_steps_of ["scheme", "size"] []
  mg_steps_of : mg "steps_of" = some (.ref a.f_steps_of)
  kp_steps_of : PySem.W.keepIn K (.ref a.f_steps_of) = true
  F_places_of : Fun K "places_of" "places_of" s_places_of a.f_places_of a.fd_places_of
  B_places_of : Binds K a.fd_places_of ["scheme", "size"] []
  mg_places_of : mg "places_of" = some (.ref a.f_places_of)
  kp_places_of : PySem.W.keepIn K (.ref a.f_places_of) = true
  F_is_parted : Fun K "is_parted" "is_parted" s_is_parted a.f_is_parted a.fd_is_parted
  B_is_parted : Binds K a.fd_is_parted ["earlier", "later", "pause"] []
  mg_is_parted : mg "is_parted" = some (.ref a.f_is_parted)
  kp_is_parted : PySem.W.keepIn K (.ref a.f_is_parted) = true
  F_blocks : Fun K "blocks" "blocks" s_blocks a.f_blocks a.fd_blocks
  B_blocks : Binds K a.fd_blocks ["scheme", "size", "places", "pause"] []
  mg_blocks : mg "blocks" = some (.ref a.f_blocks)
  kp_blocks : PySem.W.keepIn K (.ref a.f_blocks) = true
  F__law_next : Fun K "_law_next" "_law_next" s__law_next a.f__law_next a.fd__law_next
  B__law_next : Binds K a.fd__law_next ["_law_state", "_law_many"] []
  mg__law_next : mg "_law_next" = some (.ref a.f__law_next)
  kp__law_next : PySem.W.keepIn K (.ref a.f__law_next) = true
  F__law_scheme : Fun K "_law_scheme" "_law_scheme" s__law_scheme a.f__law_scheme a.fd__law_scheme
  B__law_scheme : Binds K a.fd__law_scheme ["_law_state", "_law_most", "_law_ending"] []
  mg__law_scheme : mg "_law_scheme" = some (.ref a.f__law_scheme)
  kp__law_scheme : PySem.W.keepIn K (.ref a.f__law_scheme) = true
  F__law_steps : Fun K "_law_steps" "_law_steps" s__law_steps a.f__law_steps a.fd__law_steps
  B__law_steps : Binds K a.fd__law_steps ["_law_scheme_here", "_law_size"] []
  mg__law_steps : mg "_law_steps" = some (.ref a.f__law_steps)
  kp__law_steps : PySem.W.keepIn K (.ref a.f__law_steps) = true
  F__law_parted : Fun K "_law_parted" "_law_parted" s__law_parted a.f__law_parted a.fd__law_parted
  B__law_parted : Binds K a.fd__law_parted ["_law_numbers", "_law_places", "_law_pause"] []
  mg__law_parted : mg "_law_parted" = some (.ref a.f__law_parted)
  kp__law_parted : PySem.W.keepIn K (.ref a.f__law_parted) = true
  F__law_refused : Fun K "_law_refused" "_law_refused" s__law_refused a.f__law_refused a.fd__law_refused
  B__law_refused : Binds K a.fd__law_refused ["_law_scheme_here", "_law_size", "_law_pause"] []
  mg__law_refused : mg "_law_refused" = some (.ref a.f__law_refused)
  kp__law_refused : PySem.W.keepIn K (.ref a.f__law_refused) = true
  F_law : Fun K "law" "law" s_law a.f_law a.fd_law
  B_law : Binds K a.fd_law ["_law_script"] []
  mg_law : mg "law" = some (.ref a.f_law)
  kp_law : PySem.W.keepIn K (.ref a.f_law) = true
  z_int : mg "int" = none
  z_isinstance : mg "isinstance" = none
  z_len : mg "len" = none
  z_list : mg "list" = none
  z_max : mg "max" = none
  z_range : mg "range" = none
  z_sum : mg "sum" = none
  z_tuple : mg "tuple" = none
  z_zip : mg "zip" = none
  kit_ty_NoneType_ty_list : PySem.W.kitOne K (.type "NoneType") (.type "list") = some false
  kit_ty_bool_ty_list : PySem.W.kitOne K (.type "bool") (.type "list") = some false
  kit_ty_int_ty_list : PySem.W.kitOne K (.type "int") (.type "list") = some false
  kit_ty_str_ty_list : PySem.W.kitOne K (.type "str") (.type "list") = some false
  kit_ty_list_ty_list : PySem.W.kitOne K (.type "list") (.type "list") = some true
  kit_ty_tuple_ty_list : PySem.W.kitOne K (.type "tuple") (.type "list") = some false
  kit_ty_dict_ty_list : PySem.W.kitOne K (.type "dict") (.type "list") = some false
  kit_WayError_NoWord : PySem.W.kitOne K (.ref a.c_WayError) (.ref a.c_NoWord) = some false
  kit_NoWord_NoWord : PySem.W.kitOne K (.ref a.c_NoWord) (.ref a.c_NoWord) = some true
  kit_ty_NoneType_NoWord : PySem.W.kitOne K (.type "NoneType") (.ref a.c_NoWord) = some false
theorem isi_list {K : PySem.W.Frag} {mg : Str → Option Value} {a : Ad} (T : Txt K mg a) : KitB K "list" (isTab "list") := kitB_mk T.kit_ty_NoneType_ty_list T.kit_ty_bool_ty_list T.kit_ty_int_ty_list T.kit_ty_str_ty_list T.kit_ty_list_ty_list T.kit_ty_tuple_ty_list T.kit_ty_dict_ty_list
noncomputable def eb_NoWord : List (Str × Bool) := [("WayError", false), ("NoWord", true)]
theorem ke_NoWord {K : PySem.W.Frag} {mg : Str → Option Value} {a : Ad} (T : Txt K mg a) : KitE K (.ref a.c_NoWord) (fun x => eb_NoWord.lookup x) := by
  refine kitE_of (fun p hp => ?_) T.kit_ty_NoneType_NoWord
  unfold eb_NoWord at hp
  simp only [List.mem_cons, List.not_mem_nil, or_false] at hp
  rcases hp with rfl | rfl
  · exact ⟨_, T.ns_WayError, T.kit_WayError_NoWord⟩
  · exact ⟨_, T.ns_NoWord, T.kit_NoWord_NoWord⟩
noncomputable def tk_WayError : List Str := ["WayError", "NoWord"]
theorem km_WayError {K : PySem.W.Frag} {mg : Str → Option Value} {a : Ad} (T : Txt K mg a) : KitM K (.ref a.c_WayError) (fun x => tk_WayError.contains x) := by
  refine kitM_of fun x hx => ?_
  unfold tk_WayError at hx
  simp only [List.mem_cons, List.not_mem_nil, or_false] at hx
  rcases hx with rfl | rfl
  · exact ⟨_, T.ns_WayError, T.em_WayError_WayError, T.ek_WayError⟩
  · exact ⟨_, T.ns_NoWord, T.em_NoWord_WayError, T.ek_NoWord⟩
section
variable {P : Program} {w : World} {K : PySem.W.Frag} {mg : Str → Option Value} {base : Heap} {a : Ad}
noncomputable def b_rooms_at : Rho → Option Out :=
  (sRet (mOp2 dShl (mRet (.int 1)) (mVar 0)))
noncomputable def f_rooms_at : List D → Option D := runP false 1 1 b_rooms_at
theorem n_rooms_at : runsN 1 f_rooms_at := runP_n
theorem ok_rooms_at (T : Txt K mg a) : FnOk P w K mg base CX0 1 a.f_rooms_at a.fd_rooms_at ["reach"] (spP K false 1 f_rooms_at) := by
  refine T.F_rooms_at.ok sc_rooms_at (fun vs H Q E h => ?_) (fun cdv A outer s H vs Q E hr h => ?_)
  · exact h.1
  · refine ⟨_, (pss_one (ps_ret (pe_op op_shl pe_int (pv 0)))), ?_⟩
    exact spP_body (O' := []) (Nms := ["reach"]) (f := b_rooms_at) (by
      unfold b_rooms_at
      exact (ms_ret rfl (me_op og_shl me_int (me_var (i := 0) (by decide))) rfl)) h
noncomputable def b_rooms : Rho → Option Out :=
  (sRet (mCall f_rooms_at (mCons (mOp2 dIx (mVar 0) (mRet (.int 0))) mNil)))
noncomputable def f_rooms : List D → Option D := runP false 1 1 b_rooms
theorem n_rooms : runsN 1 f_rooms := runP_n
theorem ok_rooms (T : Txt K mg a) : FnOk P w K mg base CX0 2 a.f_rooms a.fd_rooms ["scheme"] (spP K false 1 f_rooms) := by
  have G_rooms_at := ok_rooms_at (P := P) (w := w) (base := base) T
  have B_rooms_at := T.B_rooms_at
  refine T.F_rooms.ok sc_rooms (fun vs H Q E h => ?_) (fun cdv A outer s H vs Q E hr h => ?_)
  · exact h.1
  · refine ⟨_, (pss_one (ps_ret (pe_call G_rooms_at (hr.mono (by decide)) (by rfl) T.mg_rooms_at T.kp_rooms_at B_rooms_at .nil pass0 (pa_cons (pe_ix (ix_seqK (K := K) rfl) (pv 0) pe_int (fun _ _ => rfl)) pa_nil)))), ?_⟩
    exact spP_body (O' := []) (Nms := ["scheme"]) (f := b_rooms) (by
      unfold b_rooms
      exact (ms_ret rfl (me_callP n_rooms_at (ma_cons (me_op op_ix (me_var (i := 0) (by decide)) me_int) ma_nil)) rfl)) h
noncomputable def b_parity : Rho → Option Out :=
  (sSeq (sSet 1 (mVar 0))
  (sSeq (sSet 2 (mRet (.int 0)))
  (sSeq (whileRun (mTest (mOp2 dGt (mVar 1) (mRet (.int 0))))
    (sSeq (sSet 2 (mOp2 dXor (mVar 2) (mOp2 dAnd (mVar 1) (mRet (.int 1)))))
  (sSet 1 (mOp2 dDiv (mVar 1) (mRet (.int 2))))) 1000)
  (sRet (mVar 2)))))
noncomputable def f_parity : List D → Option D := runP false 1 3 b_parity
theorem n_parity : runsN 1 f_parity := runP_n
theorem ok_parity (T : Txt K mg a) : FnOk P w K mg base CX0 1 a.f_parity a.fd_parity ["number"] (spP K false 1 f_parity) := by
  refine T.F_parity.ok sc_parity (fun vs H Q E h => ?_) (fun cdv A outer s H vs Q E hr h => ?_)
  · exact h.1
  · refine ⟨_, (pss_cons (ps_set (i := 1) sc_parity.nd rfl (by first | exact Or.inl rfl | exact Or.inr rfl) (pv 0))
      (pss_cons (ps_set (i := 2) sc_parity.nd rfl (by first | exact Or.inl rfl | exact Or.inr rfl) pe_int)
      (pss_cons (ps_while PassesOwn.never (pt_cmpR op_gt (pv 1) pe_int (nomark _)) (pss_cons (ps_set (i := 2) sc_parity.nd rfl (by first | exact Or.inl rfl | exact Or.inr rfl) (pe_op op_xor (pv 2) (pe_op op_and (pv 1) pe_int)))
      (pss_one (ps_set (i := 1) sc_parity.nd rfl (by first | exact Or.inl rfl | exact Or.inr rfl) (pe_op op_fdiv (pv 1) pe_int)))))
      (pss_one (ps_ret (pv 2)))))), ?_⟩
    exact spP_body (O' := []) (Nms := ["number", "left", "odd"]) (f := b_parity) (by
      unfold b_parity
      exact (ms_seq (O1 := []) (ms_set (me_var (i := 0) (by decide)) rfl (by decide))
      (ms_seq (O1 := []) (ms_set me_int rfl (by decide))
      (ms_seq (O1 := []) (ms_while (O' := []) (mt_test (me_opB os_b0 (me_var (i := 1) (by decide)) me_int.mb)) rfl (ms_seq (O1 := []) (ms_set (me_op og_xor (me_var (i := 2) (by decide)) (me_op og_and (me_var (i := 1) (by decide)) me_int)) rfl (by decide))
      (ms_set (me_op og_div (me_var (i := 1) (by decide)) me_int) rfl (by decide))))
      (ms_ret rfl (me_var (i := 2) (by decide)) rfl))))) h
noncomputable def b_step : Rho → Option Out :=
  (sSeq (sSet 3 (mOp2 dAdd (mOp2 dMulG (mRet (.int 2)) (mVar 1)) (mVar 2)))
  (sSeq (sSet 4 (mOf (mComp 1 [3] none (mSeq (mOp2 dIx (mVar 0) (mRet (.int 1)))) (gSet 0)
      (mRet true) (mCall f_parity (mCons (mOp2 dAnd (mVar 1) (mVar 0)) mNil)))))
  (sRet (mTup (mCons (mOp2 dMod (mVar 3) (mCall f_rooms (mCons (mVar 0) mNil))) (mCons (mOp1 dTuple (mVar 4)) mNil))))))
noncomputable def f_step : List D → Option D := runP false 3 5 b_step
theorem n_step : runsN 3 f_step := runP_n
theorem ok_step (T : Txt K mg a) : FnOk P w K mg base CX0 3 a.f_step a.fd_step ["scheme", "room", "bit"] (spP K false 3 f_step) := by
  have G_parity := ok_parity (P := P) (w := w) (base := base) T
  have B_parity := T.B_parity
  have G_rooms := ok_rooms (P := P) (w := w) (base := base) T
  have B_rooms := T.B_rooms
  refine T.F_step.ok sc_step (fun vs H Q E h => ?_) (fun cdv A outer s H vs Q E hr h => ?_)
  · exact h.1
  · refine ⟨_, (pss_cons (ps_set (i := 3) sc_step.nd rfl (by first | exact Or.inl rfl | exact Or.inr rfl) (pe_op (op_addG (K := K) rfl) (pe_op (op_mulG (K := K) rfl) pe_int (pv 1)) (pv 2)))
      (pss_cons (ps_compX (k := 4) (sc := defScope s_step) (N0 := ["scheme", "room", "bit", "window", "signs"]) passN0 rfl rfl rfl (show compOk _ _ ["tap", "window"] 1 [3] _ = true by decide +kernel) sc_step.nd rfl (Or.inl rfl) (pi_seqK (K := K) rfl (pe_ix (ix_seqK (K := K) rfl) (pv 0) pe_int (fun _ _ => rfl))) (fun _ _ _ _ _ => (pg_name (i := 0) (show List.Nodup (["tap", "window"] : List Str) from (by decide +kernel)) rfl (Or.inl rfl))) (own_name (by decide)) (fun _ _ _ _ _ => pif_nil) (fun _ _ _ _ _ => (pe_call G_parity (hr.mono (by decide)) (by rfl) T.mg_parity T.kp_parity B_parity .nil pass0 (pa_cons (pe_op op_and (pv 1) (pv 0)) pa_nil))))
      (pss_one (ps_ret (pe_tup (pa_cons (pe_op op_mod (pv 3) (pe_call G_rooms (hr.mono (by decide)) (by rfl) T.mg_rooms T.kp_rooms B_rooms .nil pass0 (pa_cons (pv 0) pa_nil))) (pa_cons (pe_callTy (call_tupleK (K := K) rfl) (by rfl) T.z_tuple (by rfl) (pa_cons (pv 4) pa_nil)) pa_nil))))))), ?_⟩
    exact spP_body (O' := []) (Nms := ["scheme", "room", "bit", "window", "signs"]) (f := b_step) (by
      unfold b_step
      exact (ms_seq (O1 := []) (ms_set (me_op og_add (me_op og_mulG me_int (me_var (i := 1) (by decide))) (me_var (i := 2) (by decide))) rfl (by decide))
      (ms_seq (O1 := []) (ms_setC (mn_comp (bw := none) (mi_seq (me_op op_ix (me_var (i := 0) (by decide)) me_int)) (mg_name (i := 0) (by decide)) mt_yes (me_callP n_parity (ma_cons (me_op og_and (me_var (i := 1) (by decide)) (me_var (i := 0) (by decide))) ma_nil))) rfl (by decide))
      (ms_ret rfl (me_tup (ma_cons (me_op og_mod (me_var (i := 3) (by decide)) (me_callP n_rooms (ma_cons (me_var (i := 0) (by decide)) ma_nil))) (ma_cons (me_callG cg_tuple (me_var (i := 4) (by decide))) ma_nil))) rfl)))) h
noncomputable def b_sent_at : Rho → Option Out :=
  (sSeq (sSet 3 (mOp2 dIx (mVar 0) (mRet (.int 2))))
  (sSeq (sSet 4 (mOp2 dIx (mVar 3) (mOp2 dMod (mVar 1) (mOp1 dLen (mVar 3)))))
  (sRet (mOp1 dTuple (mOf (mComp 2 [] none (mZip (mCons (mVar 2) (mCons (mVar 4) mNil))) (gTupD 2 (gsCons (gSet 0) (gsCons (gSet 1) gsNil)))
      (mTest (mOp2 dEq (mVar 1) (mRet (.int 1)))) (mVar 0)))))))
noncomputable def f_sent_at : List D → Option D := runP false 3 5 b_sent_at
theorem n_sent_at : runsN 3 f_sent_at := runP_n
theorem ok_sent_at (T : Txt K mg a) : FnOk P w K mg base CX0 1 a.f_sent_at a.fd_sent_at ["scheme", "number", "signs"] (spP K false 3 f_sent_at) := by
  refine T.F_sent_at.ok sc_sent_at (fun vs H Q E h => ?_) (fun cdv A outer s H vs Q E hr h => ?_)
  · exact h.1
  · refine ⟨_, (pss_cons (ps_set (i := 3) sc_sent_at.nd rfl (by first | exact Or.inl rfl | exact Or.inr rfl) (pe_ix (ix_seqK (K := K) rfl) (pv 0) pe_int (fun _ _ => rfl)))
      (pss_cons (ps_set (i := 4) sc_sent_at.nd rfl (by first | exact Or.inl rfl | exact Or.inr rfl) (pe_ix (ix_seqK (K := K) rfl) (pv 3) (pe_op op_mod (pv 1) (pe_callB (call_lenK (K := K) rfl) (by rfl) T.z_len (by rfl) (pa_cons (pv 3) pa_nil))) (fun _ _ => rfl)))
      (pss_one (ps_ret (pe_callTy (call_tupleK (K := K) rfl) (by rfl) T.z_tuple (by rfl) (pa_cons (pe_compX (sc := defScope s_sent_at) (N0 := ["scheme", "number", "signs", "rows", "row"]) passN0 rfl rfl rfl (show compOk _ _ ["sign", "chosen"] 2 [] _ = true by decide +kernel) (pi_zipG (K := K) rfl (by rfl) T.z_zip (pa_cons (pv 2) (pa_cons (pv 4) pa_nil))) (fun _ _ _ _ _ => (pg_tupK (K := K) rfl rfl (pgs_cons (pg_name (i := 0) (show List.Nodup (["sign", "chosen"] : List Str) from (by decide +kernel)) rfl (Or.inl rfl)) (pgs_cons (pg_name (i := 1) (show List.Nodup (["sign", "chosen"] : List Str) from (by decide +kernel)) rfl (Or.inl rfl)) pgs_nil)))) (own_tup2 (by decide) (by decide)) (fun _ _ _ _ _ => (pif_one (pt_cmpR (op_eqD (K := K) rfl hr.units) (pv 1) pe_int (nomark _)))) (fun _ _ _ _ _ => (pv 0))) pa_nil)))))), ?_⟩
    exact spP_body (O' := []) (Nms := ["scheme", "number", "signs", "rows", "row"]) (f := b_sent_at) (by
      unfold b_sent_at
      exact (ms_seq (O1 := []) (ms_set (me_op op_ix (me_var (i := 0) (by decide)) me_int) rfl (by decide))
      (ms_seq (O1 := []) (ms_set (me_op op_ix (me_var (i := 3) (by decide)) (me_op og_mod (me_var (i := 1) (by decide)) (me_call1 cs_len mb_var))) rfl (by decide))
      (ms_ret rfl (me_callG cg_tuple (me_new (mn_comp (bw := none) (mi_zip (ma_cons (me_var (i := 2) (by decide)) (ma_cons (me_var (i := 4) (by decide)) ma_nil))) (mg_tup (mgs_cons (mg_name (i := 0) (by decide)) (mgs_cons (mg_name (i := 1) (by decide)) mgs_nil))) (mt_test (me_opB os_eq (me_var (i := 1) (by decide)) me_int.mb)) (me_var (i := 0) (by decide))))) rfl)))) h
noncomputable def b_is_ring : Rho → Option Out :=
  (sRet (mOp2 dEq (mOp2 dIx (mVar 0) (mRet (.int 3))) (mRet (.str "ring"))))
noncomputable def f_is_ring : List D → Option D := runP false 1 1 b_is_ring
theorem n_is_ring : runsN 1 f_is_ring := runP_n
theorem ok_is_ring (T : Txt K mg a) : FnOk P w K mg base CX0 1 a.f_is_ring a.fd_is_ring ["scheme"] (spP K false 1 f_is_ring) := by
  refine T.F_is_ring.ok sc_is_ring (fun vs H Q E h => ?_) (fun cdv A outer s H vs Q E hr h => ?_)
  · exact h.1
  · refine ⟨_, (pss_one (ps_ret (pe_cmpR (op_eqD (K := K) rfl hr.units) (pe_ix (ix_seqK (K := K) rfl) (pv 0) pe_int (fun _ _ => rfl)) pe_str (nomark _)))), ?_⟩
    exact spP_body (O' := []) (Nms := ["scheme"]) (f := b_is_ring) (by
      unfold b_is_ring
      exact (ms_ret rfl (me_opB os_eq (me_op op_ix (me_var (i := 0) (by decide)) me_int) me_str.mb) rfl)) h
noncomputable def b_check_size : Rho → Option Out :=
  (sIf (mAnd (mTest (mCall f_is_ring (mCons (mVar 0) mNil))) (mTest (mOp2 dLt (mVar 1) (mOp2 dIx (mVar 0) (mRet (.int 0))))))
    (fun _ => none)
    sNil)
noncomputable def f_check_size : List D → Option D := runP false 2 2 b_check_size
theorem n_check_size : runsN 2 f_check_size := runP_n
noncomputable def x_check_size : Xr :=
  (xIf (mAnd (mTest (mCall f_is_ring (mCons (mVar 0) mNil))) (mTest (mOp2 dLt (mVar 1) (mOp2 dIx (mVar 0) (mRet (.int 0)))))) xNo
    (xRaise "NoWord" (mCons (mRet (.str "in a ring a word has at least as many bits as the reach")) mNil))
    xNo)
noncomputable def fx_check_size : List D → Option Str := runX 2 2 x_check_size
theorem nx_check_size : runsX 2 fx_check_size := runX_n
theorem ok_check_size (T : Txt K mg a) : FnOk P w K mg base (CX1 P w) 2 a.f_check_size a.fd_check_size ["scheme", "size"] (spPX K false 2 f_check_size fx_check_size) := by
  have G_is_ring := ok_is_ring (P := P) (w := w) (base := base) T
  have B_is_ring := T.B_is_ring
  refine T.F_check_size.okX sc_check_size (fun vs H Q E h => spPX_len h) (fun cdv A outer s H vs Q E hr h => ?_)
  refine ⟨_, (pss_one (ps_if (PW.pt (pw_and (pt_val (pe_call G_is_ring (hr.mono (by decide)) (by rfl) T.mg_is_ring T.kp_is_ring B_is_ring .nil pass0 (pa_cons (pv 0) pa_nil))) (pw_and1 (pt_cmpR op_lt (pv 1) (pe_ix (ix_seqK (K := K) rfl) (pv 0) pe_int (fun _ _ => rfl)) (nomark _))))) (pss_one (ps_raise newX rfl (by rfl) T.mg_NoWord T.ex_NoWord PySem.F.excBase_ValueError (pa_cons pe_str pa_nil))) pss_nil)), ?_⟩
  exact spPX_body (O' := []) (Nms := ["scheme", "size"]) (f := b_check_size) (fx := x_check_size) (by
      unfold b_check_size
      exact (ms_if (mt_and (mt_val (me_callP n_is_ring (ma_cons (me_var (i := 0) (by decide)) ma_nil))) (mt_test (me_opB os_b0 (me_var (i := 1) (by decide)) (me_op op_ix (me_var (i := 0) (by decide)) me_int).mb))) ms_raise (ms_nil rfl))) (by
      unfold x_check_size
      exact (msx_if (mt_and (mt_val (me_callP n_is_ring (ma_cons (me_var (i := 0) (by decide)) ma_nil))) (mt_test (me_opB os_b0 (me_var (i := 1) (by decide)) (me_op op_ix (me_var (i := 0) (by decide)) me_int).mb))) mtx_no (msxa_raise T.ns_NoWord (ma_cons me_str ma_nil)).g msx_no)) h
noncomputable def b_bits_behind : Rho → Option Out :=
  (sRet (mIf (mTest (mOp2 dEq (mOp2 dIx (mVar 0) (mRet (.int 3))) (mRet (.str "ended")))) (mOp2 dIx (mVar 0) (mRet (.int 0))) (mRet (.int 0))))
noncomputable def f_bits_behind : List D → Option D := runP false 1 1 b_bits_behind
theorem n_bits_behind : runsN 1 f_bits_behind := runP_n
theorem ok_bits_behind (T : Txt K mg a) : FnOk P w K mg base CX0 1 a.f_bits_behind a.fd_bits_behind ["scheme"] (spP K false 1 f_bits_behind) := by
  refine T.F_bits_behind.ok sc_bits_behind (fun vs H Q E h => ?_) (fun cdv A outer s H vs Q E hr h => ?_)
  · exact h.1
  · refine ⟨_, (pss_one (ps_ret (pe_ifExp (pt_cmpR (op_eqD (K := K) rfl hr.units) (pe_ix (ix_seqK (K := K) rfl) (pv 0) pe_int (fun _ _ => rfl)) pe_str (nomark _)) (pe_ix (ix_seqK (K := K) rfl) (pv 0) pe_int (fun _ _ => rfl)) pe_int))), ?_⟩
    exact spP_body (O' := []) (Nms := ["scheme"]) (f := b_bits_behind) (by
      unfold b_bits_behind
      exact (ms_ret rfl (me_if (mt_test (me_opB os_eq (me_op op_ix (me_var (i := 0) (by decide)) me_int) me_str.mb)) (me_op op_ix (me_var (i := 0) (by decide)) me_int) me_int) rfl)) h
noncomputable def b_steps_of : Rho → Option Out :=
  (sSeq (sDrop (mCall f_check_size (mCons (mVar 0) (mCons (mVar 1) mNil))))
  (sRet (mOp2 dAdd (mVar 1) (mCall f_bits_behind (mCons (mVar 0) mNil)))))
noncomputable def f_steps_of : List D → Option D := runP false 2 2 b_steps_of
theorem n_steps_of : runsN 2 f_steps_of := runP_n
noncomputable def x_steps_of : Xr :=
  (xSeq (sDrop (mCall f_check_size (mCons (mVar 0) (mCons (mVar 1) mNil)))) (xCall fx_check_size (mCons (mVar 0) (mCons (mVar 1) mNil)) xNo)
  xNo)
noncomputable def fx_steps_of : List D → Option Str := runX 2 2 x_steps_of
theorem nx_steps_of : runsX 2 fx_steps_of := runX_n
theorem ok_steps_of (T : Txt K mg a) : FnOk P w K mg base (CX1 P w) 3 a.f_steps_of a.fd_steps_of ["scheme", "size"] (spPX K false 2 f_steps_of fx_steps_of) := by
  have G_check_size := ok_check_size (P := P) (w := w) (base := base) T
  have B_check_size := T.B_check_size
  have G_bits_behind := ok_bits_behind (P := P) (w := w) (base := base) T
  have B_bits_behind := T.B_bits_behind
  refine T.F_steps_of.okX sc_steps_of (fun vs H Q E h => spPX_len h) (fun cdv A outer s H vs Q E hr h => ?_)
  refine ⟨_, (pss_cons (ps_expr (pe_call G_check_size (hr.mono (by decide)) (by rfl) T.mg_check_size T.kp_check_size B_check_size .nil passX (pa_cons (pv 0) (pa_cons (pv 1) pa_nil))))
      (pss_one (ps_ret (pe_op (op_addG (K := K) rfl) (pv 1) (pe_call G_bits_behind (hr.mono (by decide)) (by rfl) T.mg_bits_behind T.kp_bits_behind B_bits_behind .nil pass0 (pa_cons (pv 0) pa_nil)))))), ?_⟩
  exact spPX_body (O' := []) (Nms := ["scheme", "size"]) (f := b_steps_of) (fx := x_steps_of) (by
      unfold b_steps_of
      exact (ms_seq (O1 := []) (ms_expr (me_callX n_check_size (ma_cons (me_var (i := 0) (by decide)) (ma_cons (me_var (i := 1) (by decide)) ma_nil))) rfl)
      (ms_ret rfl (me_op og_add (me_var (i := 1) (by decide)) (me_callP n_bits_behind (ma_cons (me_var (i := 0) (by decide)) ma_nil))) rfl))) (by
      unfold x_steps_of
      exact (msx_seq (O1 := []) (ms_expr (me_callX n_check_size (ma_cons (me_var (i := 0) (by decide)) (ma_cons (me_var (i := 1) (by decide)) ma_nil))) rfl) (msxa_expr (mx_call nx_check_size (ma_cons (me_var (i := 0) (by decide)) (ma_cons (me_var (i := 1) (by decide)) ma_nil)) max_no)).g
      msx_no)) h
noncomputable def b_places_of : Rho → Option Out :=
  (sSeq (sSet 2 (mOp2 dIx (mCall f_step (mCons (mVar 0) (mCons (mRet (.int 0)) (mCons (mRet (.int 0)) mNil)))) (mRet (.int 1))))
  (sSeq (sOwn 3 (mLst mNil))
  (sSeq (sFor (mRng1 (mCons (mCall f_steps_of (mCons (mVar 0) (mCons (mVar 1) mNil))) mNil)) (gSet 4)
    (sExt 3 (mRep (mLst (mCons (mVar 4) mNil)) (mOp1 dLen (mCall f_sent_at (mCons (mVar 0) (mCons (mVar 4) (mCons (mVar 2) mNil))))))))
  (sRetO 3))))
noncomputable def f_places_of : List D → Option D := runP true 2 5 b_places_of
theorem n_places_of : runsN 2 f_places_of := runP_n
noncomputable def x_places_of : Xr :=
  (xSeq (sSet 2 (mOp2 dIx (mCall f_step (mCons (mVar 0) (mCons (mRet (.int 0)) (mCons (mRet (.int 0)) mNil)))) (mRet (.int 1)))) xNo
  (xSeq (sOwn 3 (mLst mNil)) xNo
  (xSeq (sFor (mRng1 (mCons (mCall f_steps_of (mCons (mVar 0) (mCons (mVar 1) mNil))) mNil)) (gSet 4)
    (sExt 3 (mRep (mLst (mCons (mVar 4) mNil)) (mOp1 dLen (mCall f_sent_at (mCons (mVar 0) (mCons (mVar 4) (mCons (mVar 2) mNil)))))))) (xThen (mCall f_steps_of (mCons (mVar 0) (mCons (mVar 1) mNil))) (xCall fx_steps_of (mCons (mVar 0) (mCons (mVar 1) mNil)) xNo) xNo)
  xNo)))
noncomputable def fx_places_of : List D → Option Str := runX 2 5 x_places_of
theorem nx_places_of : runsX 2 fx_places_of := runX_n
theorem ok_places_of (T : Txt K mg a) : FnOk P w K mg base (CX1 P w) 4 a.f_places_of a.fd_places_of ["scheme", "size"] (spPX K true 2 f_places_of fx_places_of) := by
  have G_step := ok_step (P := P) (w := w) (base := base) T
  have B_step := T.B_step
  have G_steps_of := ok_steps_of (P := P) (w := w) (base := base) T
  have B_steps_of := T.B_steps_of
  have G_sent_at := ok_sent_at (P := P) (w := w) (base := base) T
  have B_sent_at := T.B_sent_at
  refine T.F_places_of.okX sc_places_of (fun vs H Q E h => spPX_len h) (fun cdv A outer s H vs Q E hr h => ?_)
  refine ⟨_, (pss_cons (ps_set (i := 2) sc_places_of.nd rfl (by first | exact Or.inl rfl | exact Or.inr rfl) (pe_ix (ix_seqK (K := K) rfl) (pe_call G_step (hr.mono (by decide)) (by rfl) T.mg_step T.kp_step B_step .nil pass0 (pa_cons (pv 0) (pa_cons pe_int (pa_cons pe_int pa_nil)))) pe_int (fun _ _ => rfl)))
      (pss_cons (ps_set (i := 3) sc_places_of.nd rfl (by first | exact Or.inl rfl | exact Or.inr rfl) (pe_lst pa_nil))
      (pss_cons (PS.or (PS.nox (ps_for PassesOwn.never rfl (pi_range1 (by rfl) T.z_range (pa_cons (pe_call G_steps_of (hr.mono (by decide)) (by rfl) T.mg_steps_of T.kp_steps_of B_steps_of .nil pass1 (pa_cons (pv 0) (pa_cons (pv 1) pa_nil))) pa_nil)) (pg_name (i := 4) sc_places_of.nd rfl (by first | exact Or.inl rfl | exact Or.inr rfl)) (pss_one (ps_expr (pe_bm PySem.F.plainAttrs_list PySem.F.slot_list_extend PySem.F.type_list_extend mt_extend (pv 3) (pa_cons (pe_op op_rep (pe_lst (pa_cons (pv 4) pa_nil)) (pe_callB (call_lenK (K := K) rfl) (by rfl) T.z_len (by rfl) (pa_cons (pe_call G_sent_at (hr.mono (by decide)) (by rfl) T.mg_sent_at T.kp_sent_at B_sent_at .nil pass0 (pa_cons (pv 0) (pa_cons (pv 4) (pa_cons (pv 2) pa_nil)))) pa_nil))) pa_nil)))))) (ps_forR (pi_range1 (by rfl) T.z_range (pa_cons (pe_call G_steps_of (hr.mono (by decide)) (by rfl) T.mg_steps_of T.kp_steps_of B_steps_of .nil passX (pa_cons (pv 0) (pa_cons (pv 1) pa_nil))) pa_nil))))
      (pss_one (ps_ret (pv 3)))))), ?_⟩
  exact spPX_body (O' := []) (Nms := ["scheme", "size", "signs", "places", "number"]) (f := b_places_of) (fx := x_places_of) (by
      unfold b_places_of
      exact (ms_seq (O1 := []) (ms_set (me_op op_ix (me_callP n_step (ma_cons (me_var (i := 0) (by decide)) (ma_cons me_int (ma_cons me_int ma_nil)))) me_int) rfl (by decide))
      (ms_seq (O1 := [3]) (ms_own (mn_lst ma_nil) rfl)
      (ms_seq (O1 := [3]) (ms_orl (ms_for (O' := [3]) (mi_range1 (ma_cons (me_callX n_steps_of (ma_cons (me_var (i := 0) (by decide)) (ma_cons (me_var (i := 1) (by decide)) ma_nil))) ma_nil)) rfl (mg_name (i := 4) (by decide))
      (ms_ext (by decide) (mn_rep (mn_lst (ma_cons (me_var (i := 4) (by decide)) ma_nil)) (me_call1 cs_len (me_callP n_sent_at (ma_cons (me_var (i := 0) (by decide)) (ma_cons (me_var (i := 4) (by decide)) (ma_cons (me_var (i := 2) (by decide)) ma_nil)))).mb)) rfl)))
      (ms_retO rfl (by first | decide | simp) rfl (by first | decide | simp)))))) (by
      unfold x_places_of
      exact (msx_seq (O1 := []) (ms_set (me_op op_ix (me_callP n_step (ma_cons (me_var (i := 0) (by decide)) (ma_cons me_int (ma_cons me_int ma_nil)))) me_int) rfl (by decide)) msx_no
      (msx_seq (O1 := [3]) (ms_own (mn_lst ma_nil) rfl) msx_no
      (msx_seq (O1 := [3]) (ms_orl (ms_for (O' := [3]) (mi_range1 (ma_cons (me_callX n_steps_of (ma_cons (me_var (i := 0) (by decide)) (ma_cons (me_var (i := 1) (by decide)) ma_nil))) ma_nil)) rfl (mg_name (i := 4) (by decide))
      (ms_ext (by decide) (mn_rep (mn_lst (ma_cons (me_var (i := 4) (by decide)) ma_nil)) (me_call1 cs_len (me_callP n_sent_at (ma_cons (me_var (i := 0) (by decide)) (ma_cons (me_var (i := 4) (by decide)) (ma_cons (me_var (i := 2) (by decide)) ma_nil)))).mb)) rfl))) (msx_forR (mix_rng1 (max_cons (me_callX n_steps_of (ma_cons (me_var (i := 0) (by decide)) (ma_cons (me_var (i := 1) (by decide)) ma_nil))) (mx_call nx_steps_of (ma_cons (me_var (i := 0) (by decide)) (ma_cons (me_var (i := 1) (by decide)) ma_nil)) max_no) max_no)))
      msx_no)))) h
noncomputable def b_is_parted : Rho → Option Out :=
  (sRet (mAndV (mOp2 dNotN (mVar 2) (mRet .non)) (mOp2 dGt (mOp2 dSub (mVar 1) (mVar 0)) (mMM (fun i j => if j > i then j else i) (mCons (mVar 2) (mCons (mRet (.int 0)) mNil))))))
noncomputable def f_is_parted : List D → Option D := runP false 3 3 b_is_parted
theorem n_is_parted : runsN 3 f_is_parted := runP_n
theorem ok_is_parted (T : Txt K mg a) : FnOk P w K mg base CX0 1 a.f_is_parted a.fd_is_parted ["earlier", "later", "pause"] (spP K false 3 f_is_parted) := by
  refine T.F_is_parted.ok sc_is_parted (fun vs H Q E h => ?_) (fun cdv A outer s H vs Q E hr h => ?_)
  · exact h.1
  · refine ⟨_, (pss_one (ps_ret (pe_and (pe_cmpR op_notN (pv 2) pe_non (nomark _)) (pe_one (pe_cmpR op_gt (pe_op op_sub (pv 1) (pv 0)) (pe_callB (call_max2 rfl) (by rfl) T.z_max (by rfl) (pa_cons (pv 2) (pa_cons pe_int pa_nil))) (nomark _)))))), ?_⟩
    exact spP_body (O' := []) (Nms := ["earlier", "later", "pause"]) (f := b_is_parted) (by
      unfold b_is_parted
      exact (ms_ret rfl (me_and (me_opB os_notN (me_var (i := 2) (by decide)) me_non.mb) (me_opB os_b0 (me_op og_sub (me_var (i := 1) (by decide)) (me_var (i := 0) (by decide))) (me_mm (ma_cons (me_var (i := 2) (by decide)) (ma_cons me_int ma_nil))).mb)) rfl)) h
noncomputable def b_blocks : Fd :=
  (fdFor 5 6 (mSeq (mVar 2))
    (fdIf 5 (mAnd (mTest (mOp2 dGt (mOp1 dLen (mVar 5)) (mRet (.int 0)))) (mNot (mTest (mCall f_is_parted (mCons (mOp2 dIx (mVar 4) (mOp2 dIx (mOp2 dIx (mVar 5) (mOp1 dNeg (mRet (.int 1)))) (mOp1 dNeg (mRet (.int 1))))) (mCons (mOp2 dIx (mVar 4) (mVar 6)) (mCons (mVar 3) mNil)))))))
    (fdPush 5 (mCons (mVar 6) mNil))
    (fdGrow 5 (mCons (mVar 6) mNil))))
noncomputable def g_blocks : Rho → Option Out :=
  (sSet 4 (mOf (mCallL f_places_of (mCons (mVar 0) (mCons (mVar 1) mNil)))))
noncomputable def fD_blocks : List D → Option (List (List D)) := runD1 4 7 5 g_blocks b_blocks
noncomputable def f_blocks : List D → Option D := fun ds => dDeep (fD_blocks ds)
theorem n_blocks : runsN 4 f_blocks := runD1_n
noncomputable def x_blocks : Xr :=
  (xCall fx_places_of (mCons (mVar 0) (mCons (mVar 1) mNil)) xNo)
noncomputable def fx_blocks : List D → Option Str := runX 4 7 x_blocks
theorem nx_blocks : runsX 4 fx_blocks := runX_n
theorem okD_blocks (T : Txt K mg a) : FnOk P w K mg base (CX1 P w) 5 a.f_blocks a.fd_blocks ["scheme", "size", "places", "pause"] (spDX K 4 fD_blocks fx_blocks) := by
  have G_places_of := ok_places_of (P := P) (w := w) (base := base) T
  have B_places_of := T.B_places_of
  have G_is_parted := ok_is_parted (P := P) (w := w) (base := base) T
  have B_is_parted := T.B_is_parted
  refine T.F_blocks.okX sc_blocks (fun vs H Q E h => spDX_len h) (fun cdv A outer s H vs Q E hr h => ?_)
  refine ⟨_, (pss_cons (ps_set (i := 4) sc_blocks.nd rfl (by first | exact Or.inl rfl | exact Or.inr rfl) (pe_call G_places_of (hr.mono (by decide)) (by rfl) T.mg_places_of T.kp_places_of B_places_of .nil passX (pa_cons (pv 0) (pa_cons (pv 1) pa_nil))))
      (pss_cons (ps_set (i := 5) sc_blocks.nd rfl (by first | exact Or.inl rfl | exact Or.inr rfl) (pe_lst pa_nil))
      (pss_cons (PS.nox (ps_for PassesOwn.never rfl (pi_seqK (K := K) rfl (pv 2)) (pg_name (i := 6) sc_blocks.nd rfl (by first | exact Or.inl rfl | exact Or.inr rfl)) (pss_one (ps_if (PW.pt (pw_and (pt_cmpR op_gt (pe_callB (call_lenK (K := K) rfl) (by rfl) T.z_len (by rfl) (pa_cons (pv 5) pa_nil)) pe_int (nomark _)) (pw_and1 (pt_not (pt_val (pe_call G_is_parted (hr.mono (by decide)) (by rfl) T.mg_is_parted T.kp_is_parted B_is_parted .nil pass0 (pa_cons (pe_ix (ix_seqK (K := K) rfl) (pv 4) (pe_ix (ix_seqK (K := K) rfl) (pe_ix (ix_seqK (K := K) rfl) (pv 5) (pe_un un_neg pe_int) (fun _ _ => rfl)) (pe_un un_neg pe_int) (fun _ _ => rfl)) (fun _ _ => rfl)) (pa_cons (pe_ix (ix_seqK (K := K) rfl) (pv 4) (pv 6) (fun _ _ => rfl)) (pa_cons (pv 3) pa_nil))))))))) (pss_one (ps_expr (pe_bm PySem.F.plainAttrs_list PySem.F.slot_list_append PySem.F.type_list_append mt_append (pe_ix (ix_seqK (K := K) rfl) (pv 5) (pe_un un_neg pe_int) (fun _ _ => rfl)) (pa_cons (pv 6) pa_nil)))) (pss_one (ps_expr (pe_bm PySem.F.plainAttrs_list PySem.F.slot_list_append PySem.F.type_list_append mt_append (pv 5) (pa_cons (pe_lst (pa_cons (pv 6) pa_nil)) pa_nil))))))))
      (pss_one (ps_ret (pv 5)))))), ?_⟩
  exact spDX_body (Nms := ["scheme", "size", "places", "pause", "steps", "found", "place"]) (i := 5) (g := g_blocks) (gx := x_blocks) (f := b_blocks) (by decide) (by
      unfold g_blocks
      exact (ms_set (me_new (mn_callX n_places_of (ma_cons (me_var (i := 0) (by decide)) (ma_cons (me_var (i := 1) (by decide)) ma_nil)))) rfl (by decide))) (by
      unfold x_blocks
      exact (msxa_asg (mx_call nx_places_of (ma_cons (me_var (i := 0) (by decide)) (ma_cons (me_var (i := 1) (by decide)) ma_nil)) max_no)).g) (by
      unfold b_blocks
      exact (msd_for (mi_seq (me_var (i := 2) (by decide))) (by decide) (by decide) (msd_if (mt_and (mt_test (me_opB os_b0 (me_call1 cs_len mb_var) me_int.mb)) (mt_not (mt_val (me_callP n_is_parted (ma_cons (me_op op_ix (me_var (i := 4) (by decide)) (me_op op_ix (me_op op_ix (me_var (i := 5) (by decide)) (me_neg me_int)) (me_neg me_int))) (ma_cons (me_op op_ix (me_var (i := 4) (by decide)) (me_var (i := 6) (by decide))) (ma_cons (me_var (i := 3) (by decide)) ma_nil))))))) (msd_push (fun _ _ _ q => ⟨_, rfl, q⟩) (ma_cons (me_var (i := 6) (by decide)) ma_nil)) (msd_grow (ma_cons (me_var (i := 6) (by decide)) ma_nil))))) h
theorem ok_blocks (T : Txt K mg a) : FnOk P w K mg base (CX1 P w) 5 a.f_blocks a.fd_blocks ["scheme", "size", "places", "pause"] (spPX K false 4 f_blocks fx_blocks) := (okD_blocks T).imp fun _ _ _ _ h => spPX_D h
noncomputable def b__law_next : Rho → Option Out :=
  (sSeq (sSetI 0 (mOp2 dMod (mOp2 dAdd (mOp2 dMulG (mIxO 0 (mRet (.int 0))) (mRet (.int 1181783497276652981))) (mRet (.int 12345678910987))) (mOp2 dSub (mOp2 dPow (mRet (.int 2)) (mRet (.int 61))) (mRet (.int 1)))) (mRet (.int 0)))
  (sRet (mOp2 dMod (mOp2 dDiv (mIxO 0 (mRet (.int 0))) (mRet (.int 65537))) (mVar 1))))
noncomputable def f__law_next : List D → List D → Option (D × List D) := runS false 2 2 b__law_next
theorem n__law_next : runsS 2 f__law_next := runS_n
theorem ok__law_next (T : Txt K mg a) : FnOk P w K mg base CX0 1 a.f__law_next a.fd__law_next ["_law_state", "_law_many"] (spS K false 2 f__law_next) := by
  refine T.F__law_next.ok sc__law_next (fun vs H Q E h => ?_) (fun cdv A outer s H vs Q E hr h => ?_)
  · exact h.1
  · refine ⟨_, (pss_cons (ps_asg (pe_op op_mod (pe_op (op_addG (K := K) rfl) (pe_op (op_mulG (K := K) rfl) (pe_ix (ix_seqK (K := K) rfl) (pv 0) pe_int (fun _ _ => rfl)) pe_int) pe_int) (pe_op op_sub (pe_op op_pow pe_int pe_int) pe_int)) (pg_sub (pv 0) pe_int set_list))
      (pss_one (ps_ret (pe_op op_mod (pe_op op_fdiv (pe_ix (ix_seqK (K := K) rfl) (pv 0) pe_int (fun _ _ => rfl)) pe_int) (pv 1))))), ?_⟩
    exact spS_body (O' := []) (Nms := ["_law_state", "_law_many"]) (f := b__law_next) (by
      unfold b__law_next
      exact (ms_seq (O1 := [0]) (ms_setI (by decide) (me_op og_mod (me_op og_add (me_op og_mulG (me_ixO (i := 0) (by decide) me_int) me_int) me_int) (me_op og_sub (me_op og_pow me_int me_int) me_int)) me_int rfl)
      (ms_ret rfl (me_op og_mod (me_op og_div (me_ixO (i := 0) (by decide) me_int) me_int) (me_var (i := 1) (by decide))) rfl))) h
noncomputable def b__law_scheme : Rho → Option Out :=
  (sSeq (sSet 3 (mCallS f__law_next 0 (mCons (mVar 1) mNil)))
  (sSeq (sSet 4 (mOf (mComp 1 [0, 3] (some (0, 1)) (mRng1 (mCons (mOp2 dAdd (mRet (.int 1)) (mCallS f__law_next 0 (mCons (mRet (.int 3)) mNil))) mNil)) (gSet 0)
      (mRet true) (mCallS f__law_next 1 (mCons (mOp2 dShl (mRet (.int 2)) (mVar 2)) mNil)))))
  (sSeq (sIf (mTest (mOp2 dEq (mCallS f__law_next 0 (mCons (mRet (.int 2)) mNil)) (mRet (.int 0))))
    (sSet 4 (mOf (mComp 1 [3] none (mSeq (mVar 4)) (gSet 0)
      (mRet true) (mOp2 dOr (mOp2 dOr (mVar 0) (mRet (.int 1))) (mOp2 dShl (mRet (.int 1)) (mVar 1))))))
    sNil)
  (sSeq (sOwn 5 (mLst mNil))
  (sSeq (sFor (mRng1 (mCons (mOp2 dIx (mOf (mLst (mCons (mRet (.int 1)) (mCons (mRet (.int 1)) (mCons (mRet (.int 2)) (mCons (mRet (.int 3)) (mCons (mRet (.int 4)) (mCons (mRet (.int 6)) mNil)))))))) (mCallS f__law_next 0 (mCons (mRet (.int 6)) mNil))) mNil)) (gSet 6)
    (sMut dAppend 5 (mCons (mOp1 dTuple (mOf (mComp 1 [0] (some (0, 1)) (mSeq (mVar 4)) (gSet 0)
      (mRet true) (mOp1 dInt (mOp2 dGt (mCallS f__law_next 1 (mCons (mRet (.int 5)) mNil)) (mRet (.int 0))))))) mNil)))
  (sRet (mTup (mCons (mVar 3) (mCons (mOp1 dTuple (mVar 4)) (mCons (mOp1 dTuple (mVar 5)) (mCons (mVar 2) mNil)))))))))))
noncomputable def f__law_scheme : List D → List D → Option (D × List D) := runS false 3 7 b__law_scheme
theorem n__law_scheme : runsS 3 f__law_scheme := runS_n
theorem ok__law_scheme (T : Txt K mg a) : FnOk P w K mg base CX0 2 a.f__law_scheme a.fd__law_scheme ["_law_state", "_law_most", "_law_ending"] (spS K false 3 f__law_scheme) := by
  have G__law_next := ok__law_next (P := P) (w := w) (base := base) T
  have B__law_next := T.B__law_next
  refine T.F__law_scheme.ok sc__law_scheme (fun vs H Q E h => ?_) (fun cdv A outer s H vs Q E hr h => ?_)
  · exact h.1
  · refine ⟨_, (pss_cons (ps_set (i := 3) sc__law_scheme.nd rfl (by first | exact Or.inl rfl | exact Or.inr rfl) (pe_call G__law_next (hr.mono (by decide)) (by rfl) T.mg__law_next T.kp__law_next B__law_next .nil pass0 (pa_cons (pv 0) (pa_cons (pv 1) pa_nil))))
      (pss_cons (ps_compX (k := 4) (sc := defScope s__law_scheme) (N0 := ["_law_state", "_law_most", "_law_ending", "_law_reach", "_law_taps", "_law_rows", "_law_k"]) passN0 rfl rfl rfl (show compOk _ _ ["_law_k", "_law_state", "_law_reach"] 1 [0, 3] _ = true by decide +kernel) sc__law_scheme.nd rfl (Or.inl rfl) (pi_range1 (by rfl) T.z_range (pa_cons (pe_op (op_addG (K := K) rfl) pe_int (pe_call G__law_next (hr.mono (by decide)) (by rfl) T.mg__law_next T.kp__law_next B__law_next .nil pass0 (pa_cons (pv 0) (pa_cons pe_int pa_nil)))) pa_nil)) (fun _ _ _ _ _ => (pg_name (i := 0) (show List.Nodup (["_law_k", "_law_state", "_law_reach"] : List Str) from (by decide +kernel)) rfl (Or.inl rfl))) (own_name (by decide)) (fun _ _ _ _ _ => pif_nil) (fun _ _ _ _ _ => (pe_call G__law_next (hr.mono (by decide)) (by rfl) T.mg__law_next T.kp__law_next B__law_next .nil pass0 (pa_cons (pv 1) (pa_cons (pe_op op_shl pe_int (pv 2)) pa_nil)))))
      (pss_cons (ps_if (pt_cmpR (op_eqD (K := K) rfl hr.units) (pe_call G__law_next (hr.mono (by decide)) (by rfl) T.mg__law_next T.kp__law_next B__law_next .nil pass0 (pa_cons (pv 0) (pa_cons pe_int pa_nil))) pe_int (nomark _)) (pss_one (ps_compX (k := 4) (sc := defScope s__law_scheme) (N0 := ["_law_state", "_law_most", "_law_ending", "_law_reach", "_law_taps", "_law_rows", "_law_k"]) passN0 rfl rfl rfl (show compOk _ _ ["_law_tap", "_law_reach"] 1 [3] _ = true by decide +kernel) sc__law_scheme.nd rfl (Or.inl rfl) (pi_seqK (K := K) rfl (pv 4)) (fun _ _ _ _ _ => (pg_name (i := 0) (show List.Nodup (["_law_tap", "_law_reach"] : List Str) from (by decide +kernel)) rfl (Or.inl rfl))) (own_name (by decide)) (fun _ _ _ _ _ => pif_nil) (fun _ _ _ _ _ => (pe_op op_or (pe_op op_or (pv 0) pe_int) (pe_op op_shl pe_int (pv 1)))))) pss_nil)
      (pss_cons (ps_set (i := 5) sc__law_scheme.nd rfl (by first | exact Or.inl rfl | exact Or.inr rfl) (pe_lst pa_nil))
      (pss_cons (ps_for PassesOwn.never rfl (pi_range1 (by rfl) T.z_range (pa_cons (pe_ix (ix_seqK (K := K) rfl) (pe_lst (pa_cons pe_int (pa_cons pe_int (pa_cons pe_int (pa_cons pe_int (pa_cons pe_int (pa_cons pe_int pa_nil))))))) (pe_call G__law_next (hr.mono (by decide)) (by rfl) T.mg__law_next T.kp__law_next B__law_next .nil pass0 (pa_cons (pv 0) (pa_cons pe_int pa_nil))) (fun _ _ => rfl)) pa_nil)) (pg_name (i := 6) sc__law_scheme.nd rfl (by first | exact Or.inl rfl | exact Or.inr rfl)) (pss_one (ps_expr (pe_bm PySem.F.plainAttrs_list PySem.F.slot_list_append PySem.F.type_list_append mt_append (pv 5) (pa_cons (pe_callTy (call_tupleK (K := K) rfl) (by rfl) T.z_tuple (by rfl) (pa_cons (pe_compX (sc := defScope s__law_scheme) (N0 := ["_law_state", "_law_most", "_law_ending", "_law_reach", "_law_taps", "_law_rows", "_law_k"]) passN0 rfl rfl rfl (show compOk _ _ ["_law_tap", "_law_state"] 1 [0] _ = true by decide +kernel) (pi_seqK (K := K) rfl (pv 4)) (fun _ _ _ _ _ => (pg_name (i := 0) (show List.Nodup (["_law_tap", "_law_state"] : List Str) from (by decide +kernel)) rfl (Or.inl rfl))) (own_name (by decide)) (fun _ _ _ _ _ => pif_nil) (fun _ _ _ _ _ => (pe_callTy call_int1 (by rfl) T.z_int (by rfl) (pa_cons (pe_cmpR op_gt (pe_call G__law_next (hr.mono (by decide)) (by rfl) T.mg__law_next T.kp__law_next B__law_next .nil pass0 (pa_cons (pv 1) (pa_cons pe_int pa_nil))) pe_int (nomark _)) pa_nil)))) pa_nil)) pa_nil)))))
      (pss_one (ps_ret (pe_tup (pa_cons (pv 3) (pa_cons (pe_callTy (call_tupleK (K := K) rfl) (by rfl) T.z_tuple (by rfl) (pa_cons (pv 4) pa_nil)) (pa_cons (pe_callTy (call_tupleK (K := K) rfl) (by rfl) T.z_tuple (by rfl) (pa_cons (pv 5) pa_nil)) (pa_cons (pv 2) pa_nil)))))))))))), ?_⟩
    exact spS_body (O' := []) (Nms := ["_law_state", "_law_most", "_law_ending", "_law_reach", "_law_taps", "_law_rows", "_law_k"]) (f := b__law_scheme) (by
      unfold b__law_scheme
      exact (ms_seq (O1 := [0]) (ms_set (me_callS (i := 0) n__law_next (by decide) (ma_cons (me_var (i := 1) (by decide)) ma_nil)) rfl (by decide))
      (ms_seq (O1 := [0]) (ms_setC (mn_comp (bw := (some (0, 1))) (mi_range1 (ma_cons (me_op og_add me_int (me_callS (i := 0) n__law_next (by decide) (ma_cons me_int ma_nil))) ma_nil)) (mg_name (i := 0) (by decide)) mt_yes (me_callS (i := 1) n__law_next (by decide) (ma_cons (me_op og_shl me_int (me_var (i := 2) (by decide))) ma_nil))) rfl (by decide))
      (ms_seq (O1 := [0]) (ms_if (mt_test (me_opB os_eq (me_callS (i := 0) n__law_next (by decide) (ma_cons me_int ma_nil)) me_int.mb)) (ms_setC (mn_comp (bw := none) (mi_seq (me_var (i := 4) (by decide))) (mg_name (i := 0) (by decide)) mt_yes (me_op og_or (me_op og_or (me_var (i := 0) (by decide)) me_int) (me_op og_shl me_int (me_var (i := 1) (by decide))))) rfl (by decide)) (ms_nil rfl))
      (ms_seq (O1 := [0, 5]) (ms_own (mn_lst ma_nil) rfl)
      (ms_seq (O1 := [0]) (ms_weak (ms_for (O' := [0, 5]) (mi_range1 (ma_cons (me_op op_ix (me_new (mn_lst (ma_cons me_int (ma_cons me_int (ma_cons me_int (ma_cons me_int (ma_cons me_int (ma_cons me_int ma_nil)))))))) (me_callS (i := 0) n__law_next (by decide) (ma_cons me_int ma_nil))) ma_nil)) rfl (mg_name (i := 6) (by decide))
      (ms_mut mu_append (by decide) (ma_cons (me_callG cg_tuple (me_new (mn_comp (bw := (some (0, 1))) (mi_seq (me_var (i := 4) (by decide))) (mg_name (i := 0) (by decide)) mt_yes (me_call1 cs_int (me_opB os_b0 (me_callS (i := 1) n__law_next (by decide) (ma_cons me_int ma_nil)) me_int.mb).mb)))) ma_nil) rfl)) rfl)
      (ms_ret rfl (me_tup (ma_cons (me_var (i := 3) (by decide)) (ma_cons (me_callG cg_tuple (me_var (i := 4) (by decide))) (ma_cons (me_callG cg_tuple (me_var (i := 5) (by decide))) (ma_cons (me_var (i := 2) (by decide)) ma_nil))))) rfl))))))) h
noncomputable def b__law_steps : Rho → Option Out :=
  (sSeq (sSet 2 (mVar 1))
  (sSeq (sIf (mTest (mOp2 dEq (mOp2 dIx (mVar 0) (mRet (.int 3))) (mRet (.str "ended"))))
    (sSet 2 (mOp2 dAdd (mVar 1) (mOp2 dIx (mVar 0) (mRet (.int 0)))))
    sNil)
  (sSeq (sOwn 3 (mLst mNil))
  (sSeq (sFor (mRng1 (mCons (mVar 2) mNil)) (gSet 4)
    (sExt 3 (mRep (mLst (mCons (mVar 4) mNil)) (mOp1 dSumT (mOp2 dIx (mOp2 dIx (mVar 0) (mRet (.int 2))) (mOp2 dMod (mVar 4) (mOp1 dLen (mOp2 dIx (mVar 0) (mRet (.int 2))))))))))
  (sRetO 3)))))
noncomputable def f__law_steps : List D → Option D := runP true 2 5 b__law_steps
theorem n__law_steps : runsN 2 f__law_steps := runP_n
theorem ok__law_steps (T : Txt K mg a) : FnOk P w K mg base CX0 1 a.f__law_steps a.fd__law_steps ["_law_scheme_here", "_law_size"] (spP K true 2 f__law_steps) := by
  refine T.F__law_steps.ok sc__law_steps (fun vs H Q E h => ?_) (fun cdv A outer s H vs Q E hr h => ?_)
  · exact h.1
  · refine ⟨_, (pss_cons (ps_set (i := 2) sc__law_steps.nd rfl (by first | exact Or.inl rfl | exact Or.inr rfl) (pv 1))
      (pss_cons (ps_if (pt_cmpR (op_eqD (K := K) rfl hr.units) (pe_ix (ix_seqK (K := K) rfl) (pv 0) pe_int (fun _ _ => rfl)) pe_str (nomark _)) (pss_one (ps_set (i := 2) sc__law_steps.nd rfl (by first | exact Or.inl rfl | exact Or.inr rfl) (pe_op (op_addG (K := K) rfl) (pv 1) (pe_ix (ix_seqK (K := K) rfl) (pv 0) pe_int (fun _ _ => rfl))))) pss_nil)
      (pss_cons (ps_set (i := 3) sc__law_steps.nd rfl (by first | exact Or.inl rfl | exact Or.inr rfl) (pe_lst pa_nil))
      (pss_cons (ps_for PassesOwn.never rfl (pi_range1 (by rfl) T.z_range (pa_cons (pv 2) pa_nil)) (pg_name (i := 4) sc__law_steps.nd rfl (by first | exact Or.inl rfl | exact Or.inr rfl)) (pss_one (ps_aug (i := 3) sc__law_steps.nd rfl (by first | exact Or.inl rfl | exact Or.inr rfl) (pe_op op_rep (pe_lst (pa_cons (pv 4) pa_nil)) (pe_callB (call_sumT (K := K) rfl rfl) (by rfl) T.z_sum (by rfl) (pa_cons (pe_ix (ix_seqK (K := K) rfl) (pe_ix (ix_seqK (K := K) rfl) (pv 0) pe_int (fun _ _ => rfl)) (pe_op op_mod (pv 4) (pe_callB (call_lenK (K := K) rfl) (by rfl) T.z_len (by rfl) (pa_cons (pe_ix (ix_seqK (K := K) rfl) (pv 0) pe_int (fun _ _ => rfl)) pa_nil))) (fun _ _ => rfl)) pa_nil))) ip_list)))
      (pss_one (ps_ret (pv 3))))))), ?_⟩
    exact spP_body (O' := []) (Nms := ["_law_scheme_here", "_law_size", "_law_many", "_law_some", "_law_k"]) (f := b__law_steps) (by
      unfold b__law_steps
      exact (ms_seq (O1 := []) (ms_set (me_var (i := 1) (by decide)) rfl (by decide))
      (ms_seq (O1 := []) (ms_if (mt_test (me_opB os_eq (me_op op_ix (me_var (i := 0) (by decide)) me_int) me_str.mb)) (ms_set (me_op og_add (me_var (i := 1) (by decide)) (me_op op_ix (me_var (i := 0) (by decide)) me_int)) rfl (by decide)) (ms_nil rfl))
      (ms_seq (O1 := [3]) (ms_own (mn_lst ma_nil) rfl)
      (ms_seq (O1 := [3]) (ms_for (O' := [3]) (mi_range1 (ma_cons (me_var (i := 2) (by decide)) ma_nil)) rfl (mg_name (i := 4) (by decide))
      (ms_augL (i := 3) (by decide) (mn_rep (mn_lst (ma_cons (me_var (i := 4) (by decide)) ma_nil)) (me_call1 cs_sumT (me_op op_ix (me_op op_ix (me_var (i := 0) (by decide)) me_int) (me_op og_mod (me_var (i := 4) (by decide)) (me_call1 cs_len (me_op op_ix (me_var (i := 0) (by decide)) me_int).mb))).mb)) rfl))
      (ms_retO rfl (by first | decide | simp) rfl (by first | decide | simp))))))) h
noncomputable def b__law_parted : Fd :=
  (fdFor 3 4 (mSeq (mVar 1))
    (fdIf 3 (mAnd (mTest (mOp2 dNe (mVar 3) (mOf (mLst mNil)))) (mTest (mOp2 dEq (mOp2 dIx (mVar 0) (mVar 4)) (mOp2 dIx (mVar 0) (mOp2 dIx (mOp2 dIx (mVar 3) (mOp1 dNeg (mRet (.int 1)))) (mOp1 dNeg (mRet (.int 1))))))))
    (fdPush 3 (mCons (mVar 4) mNil))
    (fdIf 3 (mAnd (mTest (mOp2 dNe (mVar 3) (mOf (mLst mNil)))) (mOr (mTest (mOp2 dIsN (mVar 2) (mRet .non))) (mTest (mOp2 dLe (mOp2 dSub (mOp2 dIx (mVar 0) (mVar 4)) (mOp2 dIx (mVar 0) (mOp2 dIx (mOp2 dIx (mVar 3) (mOp1 dNeg (mRet (.int 1)))) (mOp1 dNeg (mRet (.int 1)))))) (mVar 2)))))
    (fdPush 3 (mCons (mVar 4) mNil))
    (fdGrow 3 (mCons (mVar 4) mNil)))))
noncomputable def fD__law_parted : List D → Option (List (List D)) := runD 3 5 3 b__law_parted
noncomputable def f__law_parted : List D → Option D := fun ds => dDeep (fD__law_parted ds)
theorem n__law_parted : runsN 3 f__law_parted := runD_n
theorem okD__law_parted (T : Txt K mg a) : FnOk P w K mg base CX0 1 a.f__law_parted a.fd__law_parted ["_law_numbers", "_law_places", "_law_pause"] (spD K 3 fD__law_parted) := by
  refine T.F__law_parted.ok sc__law_parted (fun vs H Q E h => h.1) (fun cdv A outer s H vs Q E hr h => ?_)
  refine ⟨_, (pss_cons (ps_set (i := 3) sc__law_parted.nd rfl (by first | exact Or.inl rfl | exact Or.inr rfl) (pe_lst pa_nil))
      (pss_cons (ps_for PassesOwn.never rfl (pi_seqK (K := K) rfl (pv 1)) (pg_name (i := 4) sc__law_parted.nd rfl (by first | exact Or.inl rfl | exact Or.inr rfl)) (pss_one (ps_if (PW.pt (pw_and (pt_cmpR (op_neD (K := K) rfl hr.units) (pv 3) (pe_lst pa_nil) (nomark _)) (pw_and1 (pt_cmpR (op_eqD (K := K) rfl hr.units) (pe_ix (ix_seqK (K := K) rfl) (pv 0) (pv 4) (fun _ _ => rfl)) (pe_ix (ix_seqK (K := K) rfl) (pv 0) (pe_ix (ix_seqK (K := K) rfl) (pe_ix (ix_seqK (K := K) rfl) (pv 3) (pe_un un_neg pe_int) (fun _ _ => rfl)) (pe_un un_neg pe_int) (fun _ _ => rfl)) (fun _ _ => rfl)) (nomark _))))) (pss_one (ps_expr (pe_bm PySem.F.plainAttrs_list PySem.F.slot_list_append PySem.F.type_list_append mt_append (pe_ix (ix_seqK (K := K) rfl) (pv 3) (pe_un un_neg pe_int) (fun _ _ => rfl)) (pa_cons (pv 4) pa_nil)))) (pss_one (ps_if (PW.pt (pw_and (pt_cmpR (op_neD (K := K) rfl hr.units) (pv 3) (pe_lst pa_nil) (nomark _)) (pw_and1 (PW.pt (pw_or (pt_cmpR op_isN (pv 2) pe_non (nomark _)) (pw_or1 (pt_cmpR op_le (pe_op op_sub (pe_ix (ix_seqK (K := K) rfl) (pv 0) (pv 4) (fun _ _ => rfl)) (pe_ix (ix_seqK (K := K) rfl) (pv 0) (pe_ix (ix_seqK (K := K) rfl) (pe_ix (ix_seqK (K := K) rfl) (pv 3) (pe_un un_neg pe_int) (fun _ _ => rfl)) (pe_un un_neg pe_int) (fun _ _ => rfl)) (fun _ _ => rfl))) (pv 2) (nomark _)))))))) (pss_one (ps_expr (pe_bm PySem.F.plainAttrs_list PySem.F.slot_list_append PySem.F.type_list_append mt_append (pe_ix (ix_seqK (K := K) rfl) (pv 3) (pe_un un_neg pe_int) (fun _ _ => rfl)) (pa_cons (pv 4) pa_nil)))) (pss_one (ps_expr (pe_bm PySem.F.plainAttrs_list PySem.F.slot_list_append PySem.F.type_list_append mt_append (pv 3) (pa_cons (pe_lst (pa_cons (pv 4) pa_nil)) pa_nil)))))))))
      (pss_one (ps_ret (pv 3))))), ?_⟩
  exact spD_body (Nms := ["_law_numbers", "_law_places", "_law_pause", "_law_some", "_law_place"]) (i := 3) (f := b__law_parted) (by decide) (by
      unfold b__law_parted
      exact (msd_for (mi_seq (me_var (i := 1) (by decide))) (by decide) (by decide) (msd_if (mt_and (mt_test (me_opB os_ne (me_var (i := 3) (by decide)) (me_new (mn_lst ma_nil)).mb)) (mt_test (me_opB os_eq (me_op op_ix (me_var (i := 0) (by decide)) (me_var (i := 4) (by decide))) (me_op op_ix (me_var (i := 0) (by decide)) (me_op op_ix (me_op op_ix (me_var (i := 3) (by decide)) (me_neg me_int)) (me_neg me_int))).mb))) (msd_push (fun _ _ _ q => ⟨_, rfl, q⟩) (ma_cons (me_var (i := 4) (by decide)) ma_nil)) (msd_if (mt_and (mt_test (me_opB os_ne (me_var (i := 3) (by decide)) (me_new (mn_lst ma_nil)).mb)) (mt_or (mt_test (me_opB os_isN (me_var (i := 2) (by decide)) me_non.mb)) (mt_test (me_opB os_b0 (me_op og_sub (me_op op_ix (me_var (i := 0) (by decide)) (me_var (i := 4) (by decide))) (me_op op_ix (me_var (i := 0) (by decide)) (me_op op_ix (me_op op_ix (me_var (i := 3) (by decide)) (me_neg me_int)) (me_neg me_int)))) mb_var)))) (msd_push (fun _ _ _ q => ⟨_, rfl, q⟩) (ma_cons (me_var (i := 4) (by decide)) ma_nil)) (msd_grow (ma_cons (me_var (i := 4) (by decide)) ma_nil)))))) h
theorem ok__law_parted (T : Txt K mg a) : FnOk P w K mg base CX0 1 a.f__law_parted a.fd__law_parted ["_law_numbers", "_law_places", "_law_pause"] (spP K false 3 f__law_parted) := (okD__law_parted T).imp fun _ _ _ _ h => spP_D h
noncomputable def b__law_refused : Rho → Option Out :=
  (sSeq (sSet 3 (mRet .non))
  (sSeq (sTryAs 4 (fun x => tk_WayError.contains x) (sDrop (mCall f_blocks (mCons (mVar 0) (mCons (mVar 1) (mCons (mOf (mLst mNil)) (mCons (mVar 2) mNil)))))) (xCall fx_blocks (mCons (mVar 0) (mCons (mVar 1) (mCons (mOf (mLst mNil)) (mCons (mVar 2) mNil)))) xNo)
    (sSet 3 (mVar 4)))
  (sRet (mOp1 (dIsX (fun x => eb_NoWord.lookup x)) (mVar 3)))))
noncomputable def f__law_refused : List D → Option D := runP false 3 5 b__law_refused
theorem n__law_refused : runsN 3 f__law_refused := runP_n
theorem ok__law_refused (T : Txt K mg a) : FnOk P w K mg base CX0 6 a.f__law_refused a.fd__law_refused ["_law_scheme_here", "_law_size", "_law_pause"] (spP K false 3 f__law_refused) := by
  have G_blocks := ok_blocks (P := P) (w := w) (base := base) T
  have B_blocks := T.B_blocks
  refine T.F__law_refused.ok sc__law_refused (fun vs H Q E h => ?_) (fun cdv A outer s H vs Q E hr h => ?_)
  · exact h.1
  · refine ⟨_, (pss_cons (ps_set (i := 3) sc__law_refused.nd rfl (by first | exact Or.inl rfl | exact Or.inr rfl) pe_non)
      (pss_cons (ps_try_as (i := 4) rfl rfl rfl sc__law_refused.nd rfl rfl (by rfl) T.mg_WayError (fun xe pins σ E hp => (at_one (at_expr (at_call G_blocks (hr.mono (by decide)) (by rfl) T.mg_blocks T.kp_blocks B_blocks .nil hp (pa_cons (pv 0) (pa_cons (pv 1) (pa_cons (pe_lst pa_nil) (pa_cons (pv 2) pa_nil)))))))) (fun ea => (pss_one (ps_set (i := 3) sc__law_refused.nd rfl (by first | exact Or.inl rfl | exact Or.inr rfl) (pv 4)))))
      (pss_one (ps_ret (pe_callB (call_isX (K := K) rfl) (by rfl) T.z_isinstance (by rfl) (pa_cons (pv 3) (pa_cons (pe_glob (v := .ref a.c_NoWord) (by rfl) T.mg_NoWord rfl) pa_nil))))))), ?_⟩
    exact spP_body (O' := []) (Nms := ["_law_scheme_here", "_law_size", "_law_pause", "_law_caught", "e"]) (f := b__law_refused) (by
      unfold b__law_refused
      exact (ms_seq (O1 := []) (ms_set me_non rfl (by decide))
      (ms_seq (O1 := []) (ms_try_as (km_WayError T) (fun E => (ms_expr (me_callX n_blocks (ma_cons (me_var (i := 0) (by decide)) (ma_cons (me_var (i := 1) (by decide)) (ma_cons (me_new (mn_lst ma_nil)) (ma_cons (me_var (i := 2) (by decide)) ma_nil))))) rfl)) (fun E => (msxa_expr (mx_call nx_blocks (ma_cons (me_var (i := 0) (by decide)) (ma_cons (me_var (i := 1) (by decide)) (ma_cons (me_new (mn_lst ma_nil)) (ma_cons (me_var (i := 2) (by decide)) ma_nil)))) max_no))) (ms_set (me_var (i := 4) (by decide)) rfl (by decide)) (by decide) (by decide) (by first | decide | simp) (by first | decide | simp))
      (ms_ret rfl (me_isX (y := .ref a.c_NoWord) rfl (ke_NoWord T) (me_var (i := 3) (by decide))) rfl)))) h
noncomputable def b_law : Rho → Option Out :=
  (sSeq (sFor (mSeq (mSl (mVar 0) (mRet none) (mPart (mRet (.int 16))))) (gSet 1)
    (sSeq (sOwn 2 (mLst (mCons (mOp2 dAdd (mOp2 dMulG (mOp2 dMod (mVar 1) (mOp2 dPow (mRet (.int 10)) (mRet (.int 30)))) (mRet (.int 7368787))) (mRet (.int 1000003))) mNil)))
  (sSeq (sSet 3 (mCallS f__law_scheme 2 (mCons (mRet (.int 4)) (mCons (mOp2 dIx (mOf (mLst (mCons (mRet (.str "open")) (mCons (mRet (.str "ended")) (mCons (mRet (.str "ring")) mNil))))) (mCallS f__law_next 2 (mCons (mRet (.int 3)) mNil))) mNil))))
  (sSeq (sSet 4 (mOp2 dAdd (mOp2 dIx (mVar 3) (mRet (.int 0))) (mCallS f__law_next 2 (mCons (mOp2 dSub (mRet (.int 31)) (mOp2 dIx (mVar 3) (mRet (.int 0)))) mNil))))
  (sSeq (sSet 5 (mOf (mCallL f__law_steps (mCons (mVar 3) (mCons (mVar 4) mNil)))))
  (sSeq (sSet 6 (mOp2 dIx (mOf (mLst (mCons (mRet (.int 1)) (mCons (mRet (.int 2)) (mCons (mRet (.int 5)) (mCons (mRet (.int 12)) mNil)))))) (mCallS f__law_next 2 (mCons (mRet (.int 4)) mNil))))
  (sSeq (sSet 7 (mOf (mComp 1 [2, 6] (some (2, 1)) (mRng1 (mCons (mOp1 dLen (mVar 5)) mNil)) (gSet 0)
      (mTest (mOp2 dEq (mCallS f__law_next 1 (mCons (mVar 2) mNil)) (mRet (.int 0)))) (mVar 0))))
  (sSeq (sSet 8 (mOp2 dIx (mOf (mLst (mCons (mRet .non) (mCons (mRet (.int 0)) (mCons (mRet (.int 1)) (mCons (mCallS f__law_next 2 (mCons (mRet (.int 13)) mNil)) mNil)))))) (mCallS f__law_next 2 (mCons (mRet (.int 4)) mNil))))
  (sSeq (sSet 9 (mOf (mOp1L dSeq (mVar 7))))
  (sSeq (sChunk 10 (mCons (mVar 3) (mCons (mVar 4) (mCons (mVar 9) (mCons (mVar 8) mNil)))) fD_blocks
    (fdSeq (fdSet 10 11 (mCall f__law_parted (mCons (mVar 5) (mCons (mVar 7) (mCons (mVar 8) mNil)))))
    (fdSeq (fdIf 10 (mOr (mNot (mTest (mOp1 (dIsi (isTab "list")) (mVar 10)))) (mOr (mTest (mOp2 dNe (mVar 10) (mVar 11))) (mTest (mOp2 dNe (mVar 9) (mVar 7)))))
    fdNo
    fdNil)
    (fdSeq (fdEach 12 (.int 1))
    (fdSeq (fdIf 10 (mTest (mOp2 dNe (mVar 10) (mOf (mComp 1 [] none (mSeq (mVar 11)) (gSet 0)
      (mRet true) (mOp2 dAdd (mVar 0) (mOf (mLst (mCons (mRet (.int 1)) mNil))))))))
    fdNo
    fdNil)
    (fdGrow 10 (mCons (mRet (.int 0)) mNil)))))))
  (sSeq (sIf (mOr (mTest (mOp2 dNe (mCall f_blocks (mCons (mVar 3) (mCons (mVar 4) (mCons (mVar 9) (mCons (mVar 8) mNil))))) (mVar 11))) (mTest (mOp2 dNe (mVar 9) (mVar 7))))
    (sRet (mRet (.bl false)))
    sNil)
  (sIf (mAnd (mTest (mOp2 dEq (mOp2 dIx (mVar 3) (mRet (.int 3))) (mRet (.str "ring")))) (mTest (mOp2 dGt (mOp2 dIx (mVar 3) (mRet (.int 0))) (mRet (.int 0)))))
    (sIf (mNot (mTest (mCall f__law_refused (mCons (mVar 3) (mCons (mCallS f__law_next 2 (mCons (mOp2 dIx (mVar 3) (mRet (.int 0))) mNil)) (mCons (mVar 8) mNil))))))
    (sRet (mRet (.bl false)))
    sNil)
    sNil))))))))))))
  (sRet (mRet (.bl true))))
noncomputable def f_law : List D → Option D := runP false 1 13 b_law
theorem ok_law (T : Txt K mg a) : FnOk P w K mg base CX0 7 a.f_law a.fd_law ["_law_script"] (spP K false 1 f_law) := by
  have G__law_next := ok__law_next (P := P) (w := w) (base := base) T
  have B__law_next := T.B__law_next
  have G__law_scheme := ok__law_scheme (P := P) (w := w) (base := base) T
  have B__law_scheme := T.B__law_scheme
  have G__law_steps := ok__law_steps (P := P) (w := w) (base := base) T
  have B__law_steps := T.B__law_steps
  have G_blocks := ok_blocks (P := P) (w := w) (base := base) T
  have B_blocks := T.B_blocks
  have G__law_parted := ok__law_parted (P := P) (w := w) (base := base) T
  have B__law_parted := T.B__law_parted
  have G__law_refused := ok__law_refused (P := P) (w := w) (base := base) T
  have B__law_refused := T.B__law_refused
  have GD_blocks := okD_blocks (P := P) (w := w) (base := base) T
  refine T.F_law.ok sc_law (fun vs H Q E h => ?_) (fun cdv A outer s H vs Q E hr h => ?_)
  · exact h.1
  · refine ⟨_, (pss_cons (ps_for PassesOwn.never rfl (pi_seqK (K := K) rfl (pe_slice (sl_seqK (K := K) rfl) (pv 0) po_none (po_some pe_int))) (pg_name (i := 1) sc_law.nd rfl (by first | exact Or.inl rfl | exact Or.inr rfl)) (pss_cons (ps_set (i := 2) sc_law.nd rfl (by first | exact Or.inl rfl | exact Or.inr rfl) (pe_lst (pa_cons (pe_op (op_addG (K := K) rfl) (pe_op (op_mulG (K := K) rfl) (pe_op op_mod (pv 1) (pe_op op_pow pe_int pe_int)) pe_int) pe_int) pa_nil)))
      (pss_cons (ps_set (i := 3) sc_law.nd rfl (by first | exact Or.inl rfl | exact Or.inr rfl) (pe_call G__law_scheme (hr.mono (by decide)) (by rfl) T.mg__law_scheme T.kp__law_scheme B__law_scheme .nil pass0 (pa_cons (pv 2) (pa_cons pe_int (pa_cons (pe_ix (ix_seqK (K := K) rfl) (pe_lst (pa_cons pe_str (pa_cons pe_str (pa_cons pe_str pa_nil)))) (pe_call G__law_next (hr.mono (by decide)) (by rfl) T.mg__law_next T.kp__law_next B__law_next .nil pass0 (pa_cons (pv 2) (pa_cons pe_int pa_nil))) (fun _ _ => rfl)) pa_nil)))))
      (pss_cons (ps_set (i := 4) sc_law.nd rfl (by first | exact Or.inl rfl | exact Or.inr rfl) (pe_op (op_addG (K := K) rfl) (pe_ix (ix_seqK (K := K) rfl) (pv 3) pe_int (fun _ _ => rfl)) (pe_call G__law_next (hr.mono (by decide)) (by rfl) T.mg__law_next T.kp__law_next B__law_next .nil pass0 (pa_cons (pv 2) (pa_cons (pe_op op_sub pe_int (pe_ix (ix_seqK (K := K) rfl) (pv 3) pe_int (fun _ _ => rfl))) pa_nil)))))
      (pss_cons (ps_set (i := 5) sc_law.nd rfl (by first | exact Or.inl rfl | exact Or.inr rfl) (pe_call G__law_steps (hr.mono (by decide)) (by rfl) T.mg__law_steps T.kp__law_steps B__law_steps .nil pass0 (pa_cons (pv 3) (pa_cons (pv 4) pa_nil))))
      (pss_cons (ps_set (i := 6) sc_law.nd rfl (by first | exact Or.inl rfl | exact Or.inr rfl) (pe_ix (ix_seqK (K := K) rfl) (pe_lst (pa_cons pe_int (pa_cons pe_int (pa_cons pe_int (pa_cons pe_int pa_nil))))) (pe_call G__law_next (hr.mono (by decide)) (by rfl) T.mg__law_next T.kp__law_next B__law_next .nil pass0 (pa_cons (pv 2) (pa_cons pe_int pa_nil))) (fun _ _ => rfl)))
      (pss_cons (ps_compX (k := 7) (sc := defScope s_law) (N0 := ["_law_script", "_law_cell", "_law_state", "_law_scheme_here", "_law_size", "_law_numbers", "_law_seldom", "_law_places", "_law_pause", "_law_handed", "_law_found", "_law_due", "_law_block"]) passN0 rfl rfl rfl (show compOk _ _ ["_law_k", "_law_state", "_law_seldom"] 1 [2, 6] _ = true by decide +kernel) sc_law.nd rfl (Or.inl rfl) (pi_range1 (by rfl) T.z_range (pa_cons (pe_callB (call_lenK (K := K) rfl) (by rfl) T.z_len (by rfl) (pa_cons (pv 5) pa_nil)) pa_nil)) (fun _ _ _ _ _ => (pg_name (i := 0) (show List.Nodup (["_law_k", "_law_state", "_law_seldom"] : List Str) from (by decide +kernel)) rfl (Or.inl rfl))) (own_name (by decide)) (fun _ _ _ _ _ => (pif_one (pt_cmpR (op_eqD (K := K) rfl hr.units) (pe_call G__law_next (hr.mono (by decide)) (by rfl) T.mg__law_next T.kp__law_next B__law_next .nil pass0 (pa_cons (pv 1) (pa_cons (pv 2) pa_nil))) pe_int (nomark _)))) (fun _ _ _ _ _ => (pv 0)))
      (pss_cons (ps_set (i := 8) sc_law.nd rfl (by first | exact Or.inl rfl | exact Or.inr rfl) (pe_ix (ix_seqK (K := K) rfl) (pe_lst (pa_cons pe_non (pa_cons pe_int (pa_cons pe_int (pa_cons (pe_call G__law_next (hr.mono (by decide)) (by rfl) T.mg__law_next T.kp__law_next B__law_next .nil pass0 (pa_cons (pv 2) (pa_cons pe_int pa_nil))) pa_nil))))) (pe_call G__law_next (hr.mono (by decide)) (by rfl) T.mg__law_next T.kp__law_next B__law_next .nil pass0 (pa_cons (pv 2) (pa_cons pe_int pa_nil))) (fun _ _ => rfl)))
      (pss_cons (ps_set (i := 9) sc_law.nd rfl (by first | exact Or.inl rfl | exact Or.inr rfl) (pe_callTy (call_listK (K := K) rfl) (by rfl) T.z_list (by rfl) (pa_cons (pv 7) pa_nil)))
      (pss_cons (ps_set (i := 10) sc_law.nd rfl (by first | exact Or.inl rfl | exact Or.inr rfl) (pe_call GD_blocks (hr.mono (by decide)) (by rfl) T.mg_blocks T.kp_blocks B_blocks .nil pass1 (pa_cons (pv 3) (pa_cons (pv 4) (pa_cons (pv 9) (pa_cons (pv 8) pa_nil))))))
      (pss_cons (ps_set (i := 11) sc_law.nd rfl (by first | exact Or.inl rfl | exact Or.inr rfl) (pe_call G__law_parted (hr.mono (by decide)) (by rfl) T.mg__law_parted T.kp__law_parted B__law_parted .nil pass0 (pa_cons (pv 5) (pa_cons (pv 7) (pa_cons (pv 8) pa_nil)))))
      (pss_cons (ps_if (PW.pt (pw_or (pt_not (pt_val (pe_callB (call_isO (K := K) rfl) (by rfl) T.z_isinstance (by rfl) (pa_cons (pv 10) (pa_cons (pe_bltn (v := .ty "list") (by rfl) T.z_list (by rfl) rfl) pa_nil))))) (pw_or (pt_cmpR (op_neD (K := K) rfl hr.units) (pv 10) (pv 11) (nomark _)) (pw_or1 (pt_cmpR (op_neD (K := K) rfl hr.units) (pv 9) (pv 7) (nomark _)))))) (pss_one (ps_ret pe_bl)) pss_nil)
      (pss_cons (ps_for PassesOwn.never rfl (pi_seqK (K := K) rfl (pv 10)) (pg_name (i := 12) sc_law.nd rfl (by first | exact Or.inl rfl | exact Or.inr rfl)) (pss_one (ps_expr (pe_bm PySem.F.plainAttrs_list PySem.F.slot_list_append PySem.F.type_list_append mt_append (pv 12) (pa_cons pe_int pa_nil)))))
      (pss_cons (ps_if (pt_cmpR (op_neD (K := K) rfl hr.units) (pv 10) (pe_compX (sc := defScope s_law) (N0 := ["_law_script", "_law_cell", "_law_state", "_law_scheme_here", "_law_size", "_law_numbers", "_law_seldom", "_law_places", "_law_pause", "_law_handed", "_law_found", "_law_due", "_law_block"]) passN0 rfl rfl rfl (show compOk _ _ ["_law_block"] 1 [] _ = true by decide +kernel) (pi_seqK (K := K) rfl (pv 11)) (fun _ _ _ _ _ => (pg_name (i := 0) (show List.Nodup (["_law_block"] : List Str) from (by decide +kernel)) rfl (Or.inl rfl))) (own_name (by decide)) (fun _ _ _ _ _ => pif_nil) (fun _ _ _ _ _ => (pe_op (op_addG (K := K) rfl) (pv 0) (pe_lst (pa_cons pe_int pa_nil))))) (nomark _)) (pss_one (ps_ret pe_bl)) pss_nil)
      (pss_cons (ps_expr (pe_bm PySem.F.plainAttrs_list PySem.F.slot_list_append PySem.F.type_list_append mt_append (pv 10) (pa_cons (pe_lst (pa_cons pe_int pa_nil)) pa_nil)))
      (pss_cons (ps_if (PW.pt (pw_or (pt_cmpR (op_neD (K := K) rfl hr.units) (pe_call G_blocks (hr.mono (by decide)) (by rfl) T.mg_blocks T.kp_blocks B_blocks .nil pass1 (pa_cons (pv 3) (pa_cons (pv 4) (pa_cons (pv 9) (pa_cons (pv 8) pa_nil))))) (pv 11) (nomark _)) (pw_or1 (pt_cmpR (op_neD (K := K) rfl hr.units) (pv 9) (pv 7) (nomark _))))) (pss_one (ps_ret pe_bl)) pss_nil)
      (pss_one (ps_if (PW.pt (pw_and (pt_cmpR (op_eqD (K := K) rfl hr.units) (pe_ix (ix_seqK (K := K) rfl) (pv 3) pe_int (fun _ _ => rfl)) pe_str (nomark _)) (pw_and1 (pt_cmpR op_gt (pe_ix (ix_seqK (K := K) rfl) (pv 3) pe_int (fun _ _ => rfl)) pe_int (nomark _))))) (pss_one (ps_if (pt_not (pt_val (pe_call G__law_refused (hr.mono (by decide)) (by rfl) T.mg__law_refused T.kp__law_refused B__law_refused .nil pass0 (pa_cons (pv 3) (pa_cons (pe_call G__law_next (hr.mono (by decide)) (by rfl) T.mg__law_next T.kp__law_next B__law_next .nil pass0 (pa_cons (pv 2) (pa_cons (pe_ix (ix_seqK (K := K) rfl) (pv 3) pe_int (fun _ _ => rfl)) pa_nil))) (pa_cons (pv 8) pa_nil)))))) (pss_one (ps_ret pe_bl)) pss_nil)) pss_nil))))))))))))))))))
      (pss_one (ps_ret pe_bl))), ?_⟩
    exact spP_body (O' := []) (Nms := ["_law_script", "_law_cell", "_law_state", "_law_scheme_here", "_law_size", "_law_numbers", "_law_seldom", "_law_places", "_law_pause", "_law_handed", "_law_found", "_law_due", "_law_block"]) (f := b_law) (by
      unfold b_law
      exact (ms_seq (O1 := []) (ms_for (O' := []) (mi_seq (me_slice (me_var (i := 0) (by decide)) mo_none (mo_some me_int))) rfl (mg_name (i := 1) (by decide))
      (ms_seq (O1 := [2]) (ms_own (mn_lst (ma_cons (me_op og_add (me_op og_mulG (me_op og_mod (me_var (i := 1) (by decide)) (me_op og_pow me_int me_int)) me_int) me_int) ma_nil)) rfl)
      (ms_seq (O1 := [2]) (ms_set (me_callS (i := 2) n__law_scheme (by decide) (ma_cons me_int (ma_cons (me_op op_ix (me_new (mn_lst (ma_cons me_str (ma_cons me_str (ma_cons me_str ma_nil))))) (me_callS (i := 2) n__law_next (by decide) (ma_cons me_int ma_nil))) ma_nil))) rfl (by decide))
      (ms_seq (O1 := [2]) (ms_set (me_op og_add (me_op op_ix (me_var (i := 3) (by decide)) me_int) (me_callS (i := 2) n__law_next (by decide) (ma_cons (me_op og_sub me_int (me_op op_ix (me_var (i := 3) (by decide)) me_int)) ma_nil))) rfl (by decide))
      (ms_seq (O1 := [2]) (ms_set (me_new (mn_callP n__law_steps (ma_cons (me_var (i := 3) (by decide)) (ma_cons (me_var (i := 4) (by decide)) ma_nil)))) rfl (by decide))
      (ms_seq (O1 := [2]) (ms_set (me_op op_ix (me_new (mn_lst (ma_cons me_int (ma_cons me_int (ma_cons me_int (ma_cons me_int ma_nil)))))) (me_callS (i := 2) n__law_next (by decide) (ma_cons me_int ma_nil))) rfl (by decide))
      (ms_seq (O1 := [2]) (ms_setC (mn_comp (bw := (some (2, 1))) (mi_range1 (ma_cons (me_call1 cs_len mb_var) ma_nil)) (mg_name (i := 0) (by decide)) (mt_test (me_opB os_eq (me_callS (i := 1) n__law_next (by decide) (ma_cons (me_var (i := 2) (by decide)) ma_nil)) me_int.mb)) (me_var (i := 0) (by decide))) rfl (by decide))
      (ms_seq (O1 := [2]) (ms_set (me_op op_ix (me_new (mn_lst (ma_cons me_non (ma_cons me_int (ma_cons me_int (ma_cons (me_callS (i := 2) n__law_next (by decide) (ma_cons me_int ma_nil)) ma_nil)))))) (me_callS (i := 2) n__law_next (by decide) (ma_cons me_int ma_nil))) rfl (by decide))
      (ms_seq (O1 := [2]) (ms_set (me_new (mn_call1 cn_list (me_var (i := 7) (by decide)))) rfl (by decide))
      (ms_as6 (ms_seq (O1 := [2]) (ms_chunk n_blocks (ma_cons (me_var (i := 3) (by decide)) (ma_cons (me_var (i := 4) (by decide)) (ma_cons (me_var (i := 9) (by decide)) (ma_cons (me_var (i := 8) (by decide)) ma_nil)))) (by decide) (msd_seq (msd_set (me_callP n__law_parted (ma_cons (me_var (i := 5) (by decide)) (ma_cons (me_var (i := 7) (by decide)) (ma_cons (me_var (i := 8) (by decide)) ma_nil)))) (by decide) (by decide))
      (msd_seq (msd_if (mt_or (mt_not (mt_val (me_isi (isi_list T) mb_var))) (mt_or (mt_test (me_opB os_ne (me_var (i := 10) (by decide)) mb_var)) (mt_test (me_opB os_ne (me_var (i := 9) (by decide)) mb_var)))) msd_no msd_nil)
      (msd_seq (msd_each (.int 1) (by decide) (by decide))
      (msd_seq (msd_if (mt_test (me_opB os_ne (me_var (i := 10) (by decide)) (me_new (mn_comp (bw := none) (mi_seq (me_var (i := 11) (by decide))) (mg_name (i := 0) (by decide)) mt_yes (me_op og_add (me_var (i := 0) (by decide)) (me_new (mn_lst (ma_cons me_int ma_nil)))))).mb)) msd_no msd_nil)
      (msd_grow (ma_cons me_int ma_nil)))))))
      (ms_seq (O1 := [2]) (ms_if (mt_or (mt_test (me_opB os_ne (me_callX n_blocks (ma_cons (me_var (i := 3) (by decide)) (ma_cons (me_var (i := 4) (by decide)) (ma_cons (me_var (i := 9) (by decide)) (ma_cons (me_var (i := 8) (by decide)) ma_nil))))) mb_var)) (mt_test (me_opB os_ne (me_var (i := 9) (by decide)) mb_var))) (ms_ret rfl me_bl rfl) (ms_nil rfl))
      (ms_if (mt_and (mt_test (me_opB os_eq (me_op op_ix (me_var (i := 3) (by decide)) me_int) me_str.mb)) (mt_test (me_opB os_b0 (me_op op_ix (me_var (i := 3) (by decide)) me_int) me_int.mb))) (ms_if (mt_not (mt_val (me_callP n__law_refused (ma_cons (me_var (i := 3) (by decide)) (ma_cons (me_callS (i := 2) n__law_next (by decide) (ma_cons (me_op op_ix (me_var (i := 3) (by decide)) me_int) ma_nil)) (ma_cons (me_var (i := 8) (by decide)) ma_nil)))))) (ms_ret rfl me_bl rfl) (ms_nil rfl)) (ms_nil rfl))))))))))))))
      (ms_ret rfl me_bl rfl))) h
end
end K41
set_option Elab.async false
set_option linter.all false
set_option maxRecDepth 100000
set_option maxHeartbeats 4000000
namespace K41
open PySem L2
local macro_rules | `(tactic| walk_at "ev") => `(tactic| simp [runS, runP, ev_bind, ev_ret, ev_lift, ev_var, ev_op2, ev_op1, ev_op1L, ev_op2L, ev_opO, ev_ixO, ev_test, ev_not, ev_and, ev_or, ev_andV, ev_orV, ev_notV, ev_if, ev_nil, ev_cons, ev_tup, ev_lst, ev_of, ev_call, ev_callL, ev_callS, ev_comp, ev_seq, ev_rng1, ev_rng2, ev_zip, ev_part, ev_sl, ev_slL, ev_chain, ev_sseq, ev_sset, ev_sown, ev_sasg, ev_sif, ev_sret, ev_sretL, ev_sretO, ev_snil, ev_sretN, ev_sbk, ev_sct, ev_sdrop, ev_smut, ev_sext, ev_sseti, ev_sfor, ev_gset, ev_saug, forRun, ixO, blO, lsO, lstOf, rng1, rng2, zip2, inO, slO, flatD, setI, gsNil, gsCons, gTupD, dI2, dI0, dB0, dAdd, dMulG, dIx, dLen, dInt, dSum, dAll, dAny, dTuple, dSeq, dSl_tto, dSl_tfrom, dSl_lto, dSl_lfrom, dNeg, dNotB, dIsB, isBl, dIsN, dNotN, dIsi, tyN, isTab, dAppend, dInsert0, okMul, okMul2, okMod, okDiv, okPow, okShr, at0, at1, at2, at3, at4, at5, ixN, dEq, dNe, eqD_int, eqD_bl, eqD_none, eqD_int_none, eqD_none_int, dJoin, strsD, join_one', le_line, lt_line, sTryAs, sTry, xIf, xCall, xThen, xNo, xSeq, xRaise, outLess, mCallB, runS1, mCallS1, scD, dIsX, mMM, ev_enum, enumO, ev_sextT, tupO, ev_rep, dCatL, runX, ev_divmod, dvm, mLend, dUp, dCnt, dCntT, dSumT, *])
noncomputable def placesR (taps : List Int) (rows : List (List Int)) (N : Nat) : List Int := (List.range N).flatMap fun k => List.replicate (selK taps rows k).length (k : Int)
noncomputable def DOk (n : Nat) (d : D) : Prop := ∃ p, d.toP = some p ∧ p.canLay0 = true ∧ p.depth ≤ n
noncomputable def DOks (n : Nat) (ds : List D) : Prop := ∃ ps, D.toPs ds = some ps ∧ PyData.canLayAll0 ps = true ∧ PyData.depthAll ps ≤ n
theorem DOk.int (n : Nat) (i : Int) : DOk n (.int i) := ⟨.int i, by simp only [D.toP], by simp only [PyData.canLay0], by simp only [PyData.depth]; exact Nat.zero_le _⟩
theorem DOks.nil (n : Nat) : DOks n [] := ⟨[], by simp only [D.toPs], by simp only [PyData.canLayAll0], by simp only [PyData.depthAll]; exact Nat.zero_le _⟩
theorem DOks.cons {n : Nat} {d : D} {ds : List D} (h : DOk n d) (r : DOks n ds) : DOks n (d :: ds) := by
  obtain ⟨p, h1, h2, h3⟩ := h
  obtain ⟨ps, g1, g2, g3⟩ := r
  refine ⟨p :: ps, by simp only [D.toPs, h1, g1], by simp only [PyData.canLayAll0, h2, g2]; rfl, ?_⟩
  simp only [PyData.depthAll]
  exact Nat.max_le.mpr ⟨h3, g3⟩
theorem DOks.all {n : Nat} : ∀ {ds : List D}, (∀ d ∈ ds, DOk n d) → DOks n ds
  | [], _ => DOks.nil n
  | d :: ds, h => DOks.cons (h d List.mem_cons_self) (DOks.all fun x hx => h x (List.mem_cons_of_mem _ hx))
theorem DOks.lst {n : Nat} {ds : List D} (h : DOks n ds) : DOk (n + 1) (.lst ds) := by
  obtain ⟨ps, g1, g2, g3⟩ := h
  exact ⟨.list ps, by simp only [D.toP, g1]; rfl, by simp only [PyData.canLay0]; exact g2, by simp only [PyData.depth]; omega⟩
theorem eqD_self {n : Nat} {d : D} (h : DOk n d) (hn : n ≤ 64) : eqD d d = some true := by
  obtain ⟨p, h1, h2, h3⟩ := h
  have hs : SeqAt.shaped p = true := by
    unfold SeqAt.shaped
    rw [h2, decide_eq_true (by omega : p.depth ≤ 64)]
    rfl
  unfold eqD
  rw [h1]
  show (if SeqAt.shaped p = true ∧ SeqAt.shaped p = true then some (PyData.eqv p p) else none) = some true
  rw [if_pos ⟨hs, hs⟩, SeqAt.eqv_refl p h2]
theorem DOk.ints (xs : List Int) : DOk 1 (.lst (xs.map D.int)) := DOks.lst (.all fun d hd => by
  obtain ⟨i, _, rfl⟩ := List.mem_map.mp hd
  exact .int _ i)
section
variable {r : Int} {taps : List Int} {rows : List (List Int)} {e : Str}
theorem p_rooms (ok : SchOk r taps rows e) : f_rooms [schD r taps rows e] = some (.int (2 ^ r.toNat)) := by
  have r0 := ok.r0
  have r4 := ok.r4
  have r6 : r ≤ 1000000 := by omega
  have hr : f_rooms_at [.int r] = some (.int (2 ^ r.toNat)) := by
    unfold f_rooms_at b_rooms_at
    clear ok
    walk_at "ev"
  unfold f_rooms b_rooms schD
  clear ok
  walk_at "ev"
theorem p_while (n : D) : ∀ (f fuel : Nat) (l o : Int), 0 ≤ l → l.toNat < 2 ^ f → (o = 0 ∨ o = 1) → f < fuel → ∃ l' : Int, whileRun (mTest (mOp2 dGt (mVar 1) (mRet (.int 0))))
    (sSeq (sSet 2 (mOp2 dXor (mVar 2) (mOp2 dAnd (mVar 1) (mRet (.int 1)))))
  (sSet 1 (mOp2 dDiv (mVar 1) (mRet (.int 2))))) fuel [some n, some (.int l), some (.int o)] = some (.nx [some n, some (.int l'), some (.int ((o + (parF f l.toNat : Nat)) % 2))])
  | _, 0, _, _, _, _, _, h => absurd h (Nat.not_lt_zero _)
  | f, fuel + 1, l, o, l0, lf, ho, hf => by
    have ht : (mTest (mOp2 dGt (mVar 1) (mRet (.int 0)))) [some n, some (.int l), some (.int o)] = some (decide (0 < l), [some n, some (.int l), some (.int o)]) := by
      walk_at "ev"
    by_cases hl : 0 < l
    · cases f with
      | zero => exact absurd lf (by omega)
      | succ f =>
        have hb : (sSeq (sSet 2 (mOp2 dXor (mVar 2) (mOp2 dAnd (mVar 1) (mRet (.int 1))))) (sSet 1 (mOp2 dDiv (mVar 1) (mRet (.int 2))))) [some n, some (.int l), some (.int o)] = some (.nx [some n, some (.int (l / 2)), some (.int (Builtin.bitXor o (Builtin.bitAnd l 1)))]) := by
          clear ht
          walk_at "ev"
        have ex : Builtin.bitXor o (Builtin.bitAnd l 1) = (o + l % 2) % 2 := by rw [and_one l0]; exact xor_bits ho (by omega)
        have e2 : (l / 2).toNat = l.toNat / 2 := by omega
        have lt2 : (l / 2).toNat < 2 ^ f := by rw [e2]; rw [Nat.pow_succ] at lf; omega
        obtain ⟨l', ih⟩ := p_while n f fuel (l / 2) (Builtin.bitXor o (Builtin.bitAnd l 1)) (by omega) lt2 (by rw [ex]; omega) (by omega)
        refine ⟨l', ?_⟩
        rw [decide_eq_true hl] at ht
        unfold whileRun
        rw [ht]
        dsimp only
        rw [hb]
        dsimp only
        rw [ih, ex, e2]
        have u : parF (f + 1) l.toNat = (l.toNat % 2 + parF f (l.toNat / 2)) % 2 := rfl
        rw [u]
        have ev : ((o + l % 2) % 2 + (parF f (l.toNat / 2) : Nat)) % 2 = (o + (((l.toNat % 2 + parF f (l.toNat / 2)) % 2 : Nat) : Int)) % 2 := by omega
        rw [ev]
    · rw [decide_eq_false hl] at ht
      refine ⟨l, ?_⟩
      unfold whileRun
      rw [ht]
      dsimp only
      have e0 : l = 0 := by omega
      subst e0
      rw [show ((0 : Int)).toNat = 0 from rfl, parF_zero]
      have ev : (o + ((0 : Nat) : Int)) % 2 = o := by omega
      rw [ev]
theorem p_parity (n : Int) (h0 : 0 ≤ n) (h : n < 32) : f_parity [.int n] = some (.int (parF 5 n.toNat : Nat)) := by
  obtain ⟨l', hw⟩ := p_while (.int n) 5 1000 n 0 h0 (by omega) (.inl rfl) (by decide)
  have e1 : ((0 : Int) + (parF 5 n.toNat : Nat)) % 2 = (parF 5 n.toNat : Nat) := by
    have := parF_lt 5 n.toNat
    omega
  rw [e1] at hw
  generalize parF 5 n.toNat = p at hw ⊢
  unfold f_parity b_parity
  generalize (1000 : Nat) = fuel at hw ⊢
  clear h0 h e1
  walk_at "ev"
theorem p_step (ok : SchOk r taps rows e) (room bit : Int) (a0 : 0 ≤ room) (a1 : room < 2 ^ r.toNat) (hb : bit = 0 ∨ bit = 1) :
    f_step [schD r taps rows e, .int room, .int bit] = some (.tup [.int ((2 * room + bit) % 2 ^ r.toNat), .tup ((taps.map (sgn (2 * room + bit))).map D.int)]) := by
  have p16 := pow_le4 ok.r0 ok.r4
  have hr := p_rooms ok
  have hp := p_parity
  have m0 : (0 : Int) < 2 ^ r.toNat := by omega
  have cm := cm_map (n := 1) (js := [3]) (fg := gSet 0) (fe := mCall f_parity (mCons (mOp2 dAnd (mVar 1) (mVar 0)) mNil)) (ρ := [some (schD r taps rows e), some (.int room), some (.int bit), some (.int (2 * room + bit)), none])
      (fun d => match d with | .int t => .int (sgn (2 * room + bit) t) | d => d) (taps.map D.int) (fun x hx => by
        obtain ⟨t, ht, rfl⟩ := List.mem_map.mp hx
        refine ⟨[some (.int t), some (.int (2 * room + bit))], rfl, ?_⟩
        have tb := ok.tb t ht
        have w0 : 0 ≤ 2 * room + bit := by omega
        have ea := and_nat w0 tb.1
        have lt : (2 * room + bit).toNat &&& t.toNat < 32 := Nat.lt_of_le_of_lt Nat.and_le_left (by omega)
        have hq := p_parity (((2 * room + bit).toNat &&& t.toNat : Nat) : Int) (by omega) (by omega)
        rw [Int.toNat_natCast, ← ea] at hq
        show _ = some (D.int (sgn (2 * room + bit) t))
        unfold sgn
        generalize 2 * room + bit = W at hq ⊢
        generalize parF 5 (W.toNat &&& t.toNat) = z at hq ⊢
        clear hx ht tb w0 ea lt hr hp hb a0 a1 m0 p16
        walk_at "ev")
  have e2 : (taps.map D.int).map (fun d => match d with | .int t => D.int (sgn (2 * room + bit) t) | d => d) = (taps.map (sgn (2 * room + bit))).map D.int := by
    rw [List.map_map, List.map_map]
    rfl
  rw [e2] at cm
  have ll : (taps.map D.int).length ≤ sizeLine := by rw [List.length_map]; exact line_of (by have := ok.t4; omega)
  unfold f_step b_step
  unfold schD at cm hr ⊢
  generalize (taps.map (sgn (2 * room + bit))).map D.int = S at cm ⊢
  generalize taps.map D.int = TS at cm hr ll ⊢
  generalize (2 : Int) ^ r.toNat = m at hr m0 a1 p16 ⊢
  have two : 2 ≤ sizeLine := by decide
  clear ok hp hb a0 a1 p16 e2
  walk_at "ev"
theorem p_ring (ok : SchOk r taps rows e) : f_is_ring [schD r taps rows e] = some (.bl (isRing e)) := by
  have h1 := s_or
  have h2 := s_er
  have h3 := s_rr
  unfold f_is_ring b_is_ring schD isRing
  rcases ok.en with rfl | rfl | rfl
  · rw [decide_eq_false (by decide)]
    clear ok
    walk_at "ev"
  · rw [decide_eq_false (by decide)]
    clear ok
    walk_at "ev"
  · rw [decide_eq_true rfl]
    clear ok
    walk_at "ev"
theorem p_check (ok : SchOk r taps rows e) (n : Int) (h : e = "ring" → r ≤ n) : f_check_size [schD r taps rows e, .int n] = some .non := by
  have hr := p_ring ok
  unfold f_check_size b_check_size
  cases hi : isRing e with
  | false =>
    rw [hi] at hr
    clear ok hi
    generalize schD r taps rows e = S at hr ⊢
    walk_at "ev"
  | true =>
    rw [hi] at hr
    have hn : ¬ n < r := by have := h (of_decide_eq_true hi); omega
    unfold schD at hr ⊢
    clear ok hi h
    walk_at "ev"
theorem x_check (ok : SchOk r taps rows "ring") (n : Int) (h : n < r) : fx_check_size [schD r taps rows "ring", .int n] = some ("NoWord" : Str) := by
  have hr := p_ring ok
  have hi : isRing "ring" = true := decide_eq_true rfl
  rw [hi] at hr
  unfold fx_check_size x_check_size
  unfold schD at hr ⊢
  clear ok hi
  walk_at "ev"
theorem p_behind (ok : SchOk r taps rows e) : f_bits_behind [schD r taps rows e] = some (.int (zerosR r e : Nat)) := by
  have h1 := s_oe
  have h2 := s_ee
  have h3 := s_re
  have r0 := ok.r0
  have er : ((r.toNat : Nat) : Int) = r := by omega
  unfold f_bits_behind b_bits_behind schD zerosR
  rcases ok.en with rfl | rfl | rfl
  · rw [if_neg (by decide)]
    clear ok
    walk_at "ev"
  · rw [if_pos rfl, er]
    clear ok er
    walk_at "ev"
  · rw [if_neg (by decide)]
    clear ok
    walk_at "ev"
theorem zeros_le (ok : SchOk r taps rows e) : zerosR r e ≤ 4 := by
  have := ok.r4
  unfold zerosR
  split <;> omega
theorem row_at (ok : SchOk r taps rows e) (k : Nat) : atI (rows.map rowD) ((k : Int) % ((rows.map rowD).length : Nat)) = some (.tup ((rowAt rows k).map D.int)) := by
  have m1 := ok.m1
  have hk : k % rows.length < rows.length := Nat.mod_lt _ (by omega)
  have e1 : ((k : Int) % ((rows.map rowD).length : Nat)) = ((k % rows.length : Nat) : Int) := by rw [List.length_map]; exact (Int.natCast_emod k rows.length).symm
  rw [e1, at_nat (by omega) (by rw [List.length_map]; omega), Int.toNat_natCast, List.getElem?_map]
  unfold rowAt
  rw [List.getElem?_eq_getElem hk]
  rfl
theorem p_sentat (ok : SchOk r taps rows e) (k : Nat) (signs : List Int) (hl : signs.length ≤ 1000) :
    f_sent_at [schD r taps rows e, .int k, .tup (signs.map D.int)] = some (.tup ((pickR (rowAt rows k) signs).map D.int)) := by
  have hr := row_at ok k
  have hlen : 0 < (rows.map rowD).length := by have := ok.m1; rw [List.length_map]; omega
  have hz : zipD (signs.map D.int) ((rowAt rows k).map D.int) = (signs.zip (rowAt rows k)).map fun q => D.tup [.int q.1, .int q.2] := zipD_ints _ _
  have cm : ∀ ρ : Rho, compRun 2 [] none (gTupD 2 (gsCons (gSet 0) (gsCons (gSet 1) gsNil))) (mTest (mOp2 dEq (mVar 1) (mRet (.int 1)))) (mVar 0) ((signs.zip (rowAt rows k)).map fun q => D.tup [.int q.1, .int q.2]) ρ = some ((pickR (rowAt rows k) signs).map D.int, ρ) := fun ρ => by
    have := cm_filter (n := 2) (js := []) (fg := gTupD 2 (gsCons (gSet 0) (gsCons (gSet 1) gsNil))) (ft := mTest (mOp2 dEq (mVar 1) (mRet (.int 1)))) (fe := mVar 0) (ρ := ρ)
      (fun d => match d with | .tup [_, .int b] => b == 1 | _ => false) (fun d => match d with | .tup [x, _] => x | d => d) ((signs.zip (rowAt rows k)).map fun q => D.tup [.int q.1, .int q.2]) (fun x hx => by
        obtain ⟨q, _, rfl⟩ := List.mem_map.mp hx
        refine ⟨[some (.int q.1), some (.int q.2)], rfl, ?_, fun _ => rfl⟩
        clear hr hz hx
        walk_at "ev")
    rw [this, List.filter_map, List.map_map]
    unfold pickR
    rw [List.map_map]
    rfl
  have ll : ((signs.zip (rowAt rows k)).map fun q => D.tup [.int q.1, .int q.2]).length ≤ sizeLine := by
    rw [List.length_map, List.length_zip]
    exact line_of (by have := Nat.min_le_left signs.length (rowAt rows k).length; omega)
  unfold f_sent_at b_sent_at schD
  generalize (signs.zip (rowAt rows k)).map (fun q => D.tup [.int q.1, .int q.2]) = Z at hz cm ll
  generalize (pickR (rowAt rows k) signs).map D.int = Y at cm ⊢
  generalize (rowAt rows k).map D.int = R at hr hz
  generalize rows.map rowD = RS at hr hlen ⊢
  generalize signs.map D.int = S at hz ⊢
  clear ok hl
  walk_at "ev"
theorem p_steps (ok : SchOk r taps rows e) (n : Nat) (h : e = "ring" → r.toNat ≤ n) : f_steps_of [schD r taps rows e, .int n] = some (.int ((n + zerosR r e : Nat) : Int)) := by
  have r0 := ok.r0
  have hc := p_check ok n (fun q => by have := h q; omega)
  have hz := p_behind ok
  have e1 : ((n + zerosR r e : Nat) : Int) = (n : Int) + (zerosR r e : Nat) := by omega
  rw [e1]
  unfold f_steps_of b_steps_of
  generalize schD r taps rows e = S at hc hz ⊢
  generalize (zerosR r e : Nat) = z at hz ⊢
  clear ok h e1 r0
  walk_at "ev"
theorem x_steps (ok : SchOk r taps rows "ring") (n : Nat) (h : n < r.toNat) : fx_steps_of [schD r taps rows "ring", .int n] = some ("NoWord" : Str) := by
  have hc := x_check ok n (by omega)
  unfold fx_steps_of x_steps_of
  generalize schD r taps rows "ring" = S at hc ⊢
  clear ok h
  walk_at "ev"
theorem pl_end (S : D) (n' N nz : Int) (S2 F : List D) (v4 : Option D) (z0 : 0 ≤ sizeLine) (hst : f_step [S, .int 0, .int 0] = some (.tup [.int nz, .tup S2])) (hs : f_steps_of [S, .int n'] = some (.int N)) (bg : big N = true)
    (l1 : forRun (gSet 4) (sExt 3 (mRep (mLst (mCons (mVar 4) mNil)) (mOp1 dLen (mCall f_sent_at (mCons (mVar 0) (mCons (mVar 4) (mCons (mVar 2) mNil))))))) (rangeD 0 N.toNat) [some S, some (.int n'), some (.tup S2), some (.lst []), none] = some (.nx [some S, some (.int n'), some (.tup S2), some (.lst F), v4])) : f_places_of [S, .int n'] = some (.lst F) := by
  unfold f_places_of b_places_of
  walk_at "ev"
theorem p_places (ok : SchOk r taps rows e) (n : Nat) (hn : n ≤ 60) (h : e = "ring" → r.toNat ≤ n) : f_places_of [schD r taps rows e, .int n] = some (.lst ((placesR taps rows (n + zerosR r e)).map D.int)) := by
  have z4 := zeros_le ok
  have hs := p_steps ok n h
  have p16 := pow_le4 ok.r0 ok.r4
  have hst := p_step ok 0 0 (by omega) (by omega) (.inl rfl)
  have ht := p_sentat ok
  have sl : ∀ k, (pickR (rowAt rows k) (taps.map (sgn (2 * 0 + 0)))).length = (selK taps rows k).length := fun k => by rw [pickR_map, List.length_map]; rfl
  have s4 : ∀ k, (selK taps rows k).length ≤ 4 := fun k => by
    unfold selK
    refine Nat.le_trans (List.length_filter_le _ _) ?_
    rw [List.length_zip]
    have := ok.t4
    have := Nat.min_le_left taps.length (rowAt rows k).length
    omega
  have st := fun k : Nat => ht k (taps.map (sgn (2 * 0 + 0))) (by rw [List.length_map]; have := ok.t4; omega)
  generalize hS2 : (taps.map (sgn (2 * 0 + 0))).map D.int = S2 at hst st
  obtain ⟨ρ', l1, v4, hρ⟩ := for_inv (fg := gSet 4) (fb := sExt 3 (mRep (mLst (mCons (mVar 4) mNil)) (mOp1 dLen (mCall f_sent_at (mCons (mVar 0) (mCons (mVar 4) (mCons (mVar 2) mNil)))))))
    (fun k ρ => ∃ v4, ρ = [some (schD r taps rows e), some (.int (n : Int)), some (.tup S2), some (.lst ((placesR taps rows k).map D.int)), v4]) (rangeD 0 (n + zerosR r e)) 0
    [some (schD r taps rows e), some (.int (n : Int)), some (.tup S2), some (.lst []), none] ⟨none, rfl⟩ (fun i x ρ hx ⟨v4, hρ⟩ => by
      subst hρ
      obtain ⟨hi, rfl⟩ := rangeD_get hx
      rw [Nat.zero_add, Int.zero_add]
      have eP : placesR taps rows (i + 1) = placesR taps rows i ++ List.replicate (selK taps rows i).length (i : Int) := flat_snoc _ _
      rw [eP, List.map_append, List.map_replicate]
      have hsa := st i
      have hln : (((pickR (rowAt rows i) (taps.map (sgn (2 * 0 + 0)))).map D.int).length : Int) = ((selK taps rows i).length : Nat) := by rw [List.length_map, sl]
      have hrp : repO [D.int (i : Int)] (.int ((selK taps rows i).length : Nat)) = some (List.replicate (selK taps rows i).length (.int (i : Int))) := by
        rw [rep_one _ (by omega) (by have := s4 i; omega), Int.toNat_natCast]
      have ln : ((placesR taps rows i).map D.int).length + (List.replicate (selK taps rows i).length (D.int (i : Int))).length ≤ sizeLine := by
        have q1 : (placesR taps rows i).length ≤ i * 4 := flat_len _ 4 (fun k => by rw [List.length_replicate]; exact s4 k) i
        have q2 := s4 i
        rw [List.length_map, List.length_replicate]
        exact line_of (by omega)
      generalize (pickR (rowAt rows i) (taps.map (sgn (2 * 0 + 0)))).map D.int = PK at hsa hln
      rw [← hln] at hrp
      generalize List.replicate (selK taps rows i).length (D.int (i : Int)) = RP at hrp ln ⊢
      generalize (placesR taps rows i).map D.int = F at ln ⊢
      refine ⟨_, [some (schD r taps rows e), some (.int (n : Int)), some (.tup S2), some (.lst (F ++ RP)), some (.int (i : Int))], rfl, .inl ?_, some (.int (i : Int)), rfl⟩
      have one : 1 ≤ sizeLine := by decide
      generalize schD r taps rows e = S at hsa ⊢
      clear hln eP hst st sl s4 hs ok ht hi hx p16 hS2 h
      have hrep : (mRep (mLst (mCons (mVar 4) mNil)) (mOp1 dLen (mCall f_sent_at (mCons (mVar 0) (mCons (mVar 4) (mCons (mVar 2) mNil)))))) [some S, some (.int (n : Int)), some (.tup S2), some (.lst F), some (.int (i : Int))] = some (RP, [some S, some (.int (n : Int)), some (.tup S2), some (.lst F), some (.int (i : Int))]) := by
        refine rep_at (xs := [.int (i : Int)]) (y := .int (PK.length : Nat)) (ρ1 := [some S, some (.int (n : Int)), some (.tup S2), some (.lst F), some (.int (i : Int))]) ?_ ?_ hrp
        · clear hrp hsa ln
          generalize (n : Int) = n'
          generalize (i : Int) = i'
          walk_at "ev"
        · clear hrp ln
          generalize (n : Int) = n'
          generalize (i : Int) = i' at hsa ⊢
          walk_at "ev"
      generalize (mRep (mLst (mCons (mVar 4) mNil)) (mOp1 dLen (mCall f_sent_at (mCons (mVar 0) (mCons (mVar 4) (mCons (mVar 2) mNil)))))) = FR at hrep ⊢
      clear hrp hsa
      generalize (n : Int) = n' at hrep ⊢
      generalize (i : Int) = i' at hrep ⊢
      walk_at "ev")
  subst hρ
  rw [rangeD_len, Nat.zero_add] at l1
  have bg : big ((n + zerosR r e : Nat) : Int) = true := by unfold big; simp; omega
  have z0 : 0 ≤ sizeLine := by decide
  have tn : ((n + zerosR r e : Nat) : Int).toNat = n + zerosR r e := Int.toNat_natCast _
  rw [← tn] at l1
  exact pl_end _ _ _ _ _ _ _ z0 hst hs bg l1
theorem x_places (ok : SchOk r taps rows "ring") (n : Nat) (h : n < r.toNat) : fx_places_of [schD r taps rows "ring", .int n] = some ("NoWord" : Str) := by
  have hc := x_steps ok n h
  have p16 := pow_le4 ok.r0 ok.r4
  have hst := p_step ok 0 0 (by omega) (by omega) (.inl rfl)
  have z0 : 0 ≤ sizeLine := by decide
  unfold fx_places_of x_places_of
  generalize (taps.map (sgn (2 * 0 + 0))).map D.int = S2 at hst
  generalize (2 * 0 + 0) % 2 ^ r.toNat = nz at hst
  generalize schD r taps rows "ring" = S at hc hst ⊢
  clear ok h p16
  walk_at "ev"
theorem zip_cnt : ∀ (ts row : List Int), row.length ≤ ts.length → ((ts.zip row).filter fun q => q.2 == 1).length = row.count 1
  | _, [], _ => by simp
  | [], _ :: _, h => absurd h (by simp)
  | t :: ts, b :: row, h => by
    have ih := zip_cnt ts row (by simpa using h)
    rw [List.zip_cons_cons, List.filter_cons, List.count_cons]
    by_cases z : b = 1
    · subst z
      simp [ih]
    · have z' : (b == 1) = false := beq_eq_false_iff_ne.mpr z
      simp [z', ih]
theorem sel_cnt (ok : SchOk r taps rows e) (k : Nat) : (selK taps rows k).length = (rowAt rows k).count 1 := by
  unfold selK
  refine zip_cnt _ _ ?_
  unfold rowAt
  cases q : rows[k % rows.length]? with
  | none => exact Nat.zero_le _
  | some row => exact Nat.le_of_eq (ok.rw row (List.mem_of_getElem? q)).1
end
theorem seq_nx {f g : Rho → Option Out} {ρ ρ1 : Rho} (h : f ρ = some (.nx ρ1)) : sSeq f g ρ = g ρ1 := by
  rw [ev_sseq, h]
  rfl
theorem v_next (s m : Int) (h : 0 < m) : f__law_next [.int s] [.int m] = some (.int (dr s m), [.int (nx s)]) := by
  unfold f__law_next b__law_next
  walk_at "ev"
  simp [nx, dr]
theorem or_nat {x y : Int} (h : 0 ≤ x) (g : 0 ≤ y) : Builtin.bitOr x y = ((x.toNat ||| y.toNat : Nat) : Int) := by
  have e1 : Builtin.bitNot x = -x - 1 := rfl
  have e2 : Builtin.bitNot y = -y - 1 := rfl
  unfold Builtin.bitOr Builtin.bitAnd
  rw [e1, e2, decide_eq_false (by omega), decide_eq_false (by omega)]
  show Builtin.bitNot (Builtin.bitNot (((-(-x - 1) - 1).toNat ||| (-(-y - 1) - 1).toNat : Nat) : Int)) = _
  have e3 : -(-x - 1) - 1 = x := by omega
  have e4 : -(-y - 1) - 1 = y := by omega
  rw [e3, e4]
  show -(-(((x.toNat ||| y.toNat : Nat) : Int)) - 1) - 1 = _
  omega
theorem or_lt {x y : Int} {n : Nat} (h : 0 ≤ x ∧ x < 2 ^ n) (g : 0 ≤ y ∧ y < 2 ^ n) : 0 ≤ Builtin.bitOr x y ∧ Builtin.bitOr x y < 2 ^ n := by
  rw [or_nat h.1 g.1]
  have e : ((2 ^ n : Nat) : Int) = 2 ^ n := by simp
  have q := Nat.or_lt_two_pow (x := x.toNat) (y := y.toNat) (n := n) (by omega) (by omega)
  omega
theorem s0 (s : Int) (E : D) : (sSet 3 (mCallS f__law_next 0 (mCons (mVar 1) mNil))) [some (.lst [.int s]), some (.int 4), some E, none, none, none, none] = some (.nx [some (.lst [.int (nx s)]), some (.int 4), some E, some (.int (dr s 4)), none, none, none]) := by
  have h := v_next s 4 (by decide)
  walk_at "ev"
theorem s1 (s r : Int) (E : D) (r0 : 0 ≤ r) (r4 : r ≤ 4) : ∃ (ts : List Int) (s' : Int), (sSet 4 (mOf (mComp 1 [0, 3] (some (0, 1)) (mRng1 (mCons (mOp2 dAdd (mRet (.int 1)) (mCallS f__law_next 0 (mCons (mRet (.int 3)) mNil))) mNil)) (gSet 0)
      (mRet true) (mCallS f__law_next 1 (mCons (mOp2 dShl (mRet (.int 2)) (mVar 2)) mNil))))) [some (.lst [.int s]), some (.int 4), some E, some (.int r), none, none, none] = some (.nx [some (.lst [.int s']), some (.int 4), some E, some (.int r), some (.lst (ts.map D.int)), none, none])
    ∧ 1 ≤ ts.length ∧ ts.length ≤ 3 ∧ ∀ t ∈ ts, 0 ≤ t ∧ t < 2 ^ (r.toNat + 1) := by
  have hn := v_next
  have h3 := v_next s 3 (by decide)
  have d0 := dr_lo s (m := 3) (by decide)
  have d3 := dr_hi s (m := 3) (by decide)
  have pos2 : (0 : Int) < 2 * 2 ^ r.toNat := Int.mul_pos (by decide) (Int.pow_pos (by decide))
  have e2 : (2 : Int) * 2 ^ r.toNat = 2 ^ (r.toNat + 1) := by rw [Int.pow_succ, Int.mul_comm]
  have r6 : r ≤ 1000000 := by omega
  obtain ⟨ys, s2, c1, c2, c3⟩ := cm_state (n := 1) (p := 0) (q := 1) (js := [0, 3]) (fg := gSet 0) (fe := mCallS f__law_next 1 (mCons (mOp2 dShl (mRet (.int 2)) (mVar 2)) mNil))
    (fun s : Int => [some (.lst [.int s]), some (.int 4), some E, some (.int r), none, none, none]) (fun y => ∃ t : Int, y = .int t ∧ 0 ≤ t ∧ t < 2 ^ (r.toNat + 1)) (rangeD 0 (1 + dr s 3).toNat) (fun x hx s => by
      refine ⟨[some x, some (.lst [.int s]), some (.int r)], [some x, some (.lst [.int (nx s)]), some (.int r)], .int (dr s (2 * 2 ^ r.toNat)), nx s, rfl, ?_, rfl, _, rfl, dr_lo s pos2, by rw [← e2]; exact dr_hi s pos2⟩
      clear hx h3 d0 d3 e2
      walk_at "ev") (nx s)
  obtain ⟨ts, rfl, tb⟩ := ints_of c3
  rw [List.length_map, rangeD_len] at c2
  refine ⟨ts, s2, ?_, by omega, by omega, tb⟩
  have bg : big (1 + dr s 3) = true := by unfold big; simp; omega
  have ll : (rangeD 0 (1 + dr s 3).toNat).length ≤ sizeLine := by rw [rangeD_len]; exact line_of (by omega)
  generalize (mCallS f__law_next 1 (mCons (mOp2 dShl (mRet (.int 2)) (mVar 2)) mNil)) = FE at c1 ⊢
  clear c2 c3 tb hn d0 d3 pos2 e2 r0 r4 r6
  walk_at "ev"
theorem s2 (s r : Int) (E : D) (ts : List Int) (r0 : 0 ≤ r) (r4 : r ≤ 4) (h1 : 1 ≤ ts.length) (h3 : ts.length ≤ 3) (tb : ∀ t ∈ ts, 0 ≤ t ∧ t < 2 ^ (r.toNat + 1)) : ∃ us : List Int, (sIf (mTest (mOp2 dEq (mCallS f__law_next 0 (mCons (mRet (.int 2)) mNil)) (mRet (.int 0))))
    (sSet 4 (mOf (mComp 1 [3] none (mSeq (mVar 4)) (gSet 0)
      (mRet true) (mOp2 dOr (mOp2 dOr (mVar 0) (mRet (.int 1))) (mOp2 dShl (mRet (.int 1)) (mVar 1))))))
    sNil) [some (.lst [.int s]), some (.int 4), some E, some (.int r), some (.lst (ts.map D.int)), none, none] = some (.nx [some (.lst [.int (nx s)]), some (.int 4), some E, some (.int r), some (.lst (us.map D.int)), none, none])
    ∧ 1 ≤ us.length ∧ us.length ≤ 3 ∧ ∀ t ∈ us, 0 ≤ t ∧ t < 2 ^ (r.toNat + 1) := by
  have hd := v_next s 2 (by decide)
  by_cases z : dr s 2 = 0
  · rw [z] at hd
    have r6 : r ≤ 1000000 := by omega
    have cm := cm_map (n := 1) (js := [3]) (fg := gSet 0) (fe := mOp2 dOr (mOp2 dOr (mVar 0) (mRet (.int 1))) (mOp2 dShl (mRet (.int 1)) (mVar 1))) (ρ := [some (.lst [.int (nx s)]), some (.int 4), some E, some (.int r), some (.lst (ts.map D.int)), none, none])
      (fun d => match d with | .int t => .int (Builtin.bitOr (Builtin.bitOr t 1) (1 * 2 ^ r.toNat)) | d => d) (ts.map D.int) (fun x hx => by
        obtain ⟨t, _, rfl⟩ := List.mem_map.mp hx
        refine ⟨[some (.int t), some (.int r)], rfl, ?_⟩
        clear hx hd z tb
        walk_at "ev")
    have e2 : (ts.map D.int).map (fun d => match d with | .int t => D.int (Builtin.bitOr (Builtin.bitOr t 1) (1 * 2 ^ r.toNat)) | d => d) = (ts.map fun t => Builtin.bitOr (Builtin.bitOr t 1) (1 * 2 ^ r.toNat)).map D.int := by
      rw [List.map_map, List.map_map]
      rfl
    rw [e2] at cm
    refine ⟨ts.map fun t => Builtin.bitOr (Builtin.bitOr t 1) (1 * 2 ^ r.toNat), ?_, by rw [List.length_map]; exact h1, by rw [List.length_map]; exact h3, fun u hu => ?_⟩
    · have ll : (ts.map D.int).length ≤ sizeLine := by rw [List.length_map]; exact line_of (by omega)
      generalize (ts.map fun t => Builtin.bitOr (Builtin.bitOr t 1) (1 * 2 ^ r.toNat)).map D.int = U at cm ⊢
      generalize ts.map D.int = TS at cm ll ⊢
      generalize (mOp2 dOr (mOp2 dOr (mVar 0) (mRet (.int 1))) (mOp2 dShl (mRet (.int 1)) (mVar 1))) = FE at cm ⊢
      clear e2 h1 h3 tb r0 r4 r6 z
      walk_at "ev"
    · obtain ⟨t, ht, rfl⟩ := List.mem_map.mp hu
      have p : (1 : Int) ≤ 2 ^ r.toNat := (pow_le4 r0 r4).1
      have e3 : (2 : Int) ^ (r.toNat + 1) = 2 ^ r.toNat * 2 := Int.pow_succ ..
      exact or_lt (or_lt (tb t ht) ⟨by decide, by omega⟩) ⟨by omega, by omega⟩
  · refine ⟨ts, ?_, h1, h3, tb⟩
    generalize dr s 2 = d at hd z
    generalize ts.map D.int = TS
    clear h1 h3 tb r0 r4
    walk_at "ev"
theorem s4 (s r : Int) (E : D) (taps : List Int) (h1 : 1 ≤ taps.length) (h3 : taps.length ≤ 3) : ∃ (rows : List (List Int)) (s' : Int) (v : Option D), (sFor (mRng1 (mCons (mOp2 dIx (mOf (mLst (mCons (mRet (.int 1)) (mCons (mRet (.int 1)) (mCons (mRet (.int 2)) (mCons (mRet (.int 3)) (mCons (mRet (.int 4)) (mCons (mRet (.int 6)) mNil)))))))) (mCallS f__law_next 0 (mCons (mRet (.int 6)) mNil))) mNil)) (gSet 6)
    (sMut dAppend 5 (mCons (mOp1 dTuple (mOf (mComp 1 [0] (some (0, 1)) (mSeq (mVar 4)) (gSet 0)
      (mRet true) (mOp1 dInt (mOp2 dGt (mCallS f__law_next 1 (mCons (mRet (.int 5)) mNil)) (mRet (.int 0))))))) mNil))) [some (.lst [.int s]), some (.int 4), some E, some (.int r), some (.lst (taps.map D.int)), some (.lst []), none] = some (.nx [some (.lst [.int s']), some (.int 4), some E, some (.int r), some (.lst (taps.map D.int)), some (.lst (rows.map rowD)), v])
    ∧ 1 ≤ rows.length ∧ rows.length ≤ 6 ∧ ∀ row ∈ rows, row.length = taps.length ∧ ∀ b ∈ row, b = 0 ∨ b = 1 := by
  have hn := v_next
  have hd := v_next s 6 (by decide)
  have d0 := dr_lo s (m := 6) (by decide)
  have d6 := dr_hi s (m := 6) (by decide)
  obtain ⟨m, em, m1, m6⟩ : ∃ m : Int, atI [D.int 1, D.int 1, D.int 2, D.int 3, D.int 4, D.int 6] (dr s 6) = some (.int m) ∧ 1 ≤ m ∧ m ≤ 6 := by
    rcases (by omega : dr s 6 = 0 ∨ dr s 6 = 1 ∨ dr s 6 = 2 ∨ dr s 6 = 3 ∨ dr s 6 = 4 ∨ dr s 6 = 5) with q | q | q | q | q | q <;> (rw [q]; exact ⟨_, rfl, by decide, by decide⟩)
  have bg : big m = true := by unfold big; simp; omega
  have l2 : taps.length ≤ sizeLine := line_of (by omega)
  obtain ⟨ρ', f1, rows, s3, v, rfl, lr, hrow⟩ := for_inv (fg := gSet 6) (fb := (sMut dAppend 5 (mCons (mOp1 dTuple (mOf (mComp 1 [0] (some (0, 1)) (mSeq (mVar 4)) (gSet 0)
      (mRet true) (mOp1 dInt (mOp2 dGt (mCallS f__law_next 1 (mCons (mRet (.int 5)) mNil)) (mRet (.int 0))))))) mNil)))
    (fun i ρ => ∃ (rows : List (List Int)) (s : Int) (v : Option D), ρ = [some (.lst [.int s]), some (.int 4), some E, some (.int r), some (.lst (taps.map D.int)), some (.lst (rows.map rowD)), v] ∧ rows.length = i ∧ ∀ row ∈ rows, row.length = taps.length ∧ ∀ b ∈ row, b = 0 ∨ b = 1)
    (rangeD 0 m.toNat) 0 [some (.lst [.int (nx s)]), some (.int 4), some E, some (.int r), some (.lst (taps.map D.int)), some (.lst []), none] ⟨[], _, none, rfl, rfl, fun _ h => nomatch h⟩ (by
      rintro i x ρ hx ⟨rows, s, v, rfl, lr, hrow⟩
      obtain ⟨hi, rfl⟩ := rangeD_get hx
      obtain ⟨bs, s4, g1, g2, g3⟩ := cm_state (n := 1) (p := 0) (q := 1) (js := [0]) (fg := gSet 0) (fe := mOp1 dInt (mOp2 dGt (mCallS f__law_next 1 (mCons (mRet (.int 5)) mNil)) (mRet (.int 0))))
        (fun s' : Int => [some (.lst [.int s']), some (.int 4), some E, some (.int r), some (.lst (taps.map D.int)), some (.lst (rows.map rowD)), some (.int (0 + (i : Int)))]) (fun y => ∃ t : Int, y = .int t ∧ (t = 0 ∨ t = 1)) (taps.map D.int) (fun x hx s' => by
          refine ⟨[some x, some (.lst [.int s'])], [some x, some (.lst [.int (nx s')])], .int (if decide (dr s' 5 > 0) = true then 1 else 0), nx s', rfl, ?_, rfl, _, rfl, ?_⟩
          · have h5 := v_next s' 5 (by decide)
            clear hx hn hd em
            walk_at "ev"
          · split
            · exact .inr rfl
            · exact .inl rfl) s
      obtain ⟨row, rfl, hb⟩ := ints_of g3
      rw [List.length_map, List.length_map] at g2
      have l5 : rows.length < sizeLine := Nat.lt_of_lt_of_le (by omega : rows.length < 1000) (by decide)
      refine ⟨_, [some (.lst [.int s4]), some (.int 4), some E, some (.int r), some (.lst (taps.map D.int)), some (.lst ((rows ++ [row]).map rowD)), some (.int (0 + (i : Int)))], rfl, .inl ?_, rows ++ [row], s4, _, rfl, by rw [List.length_append, lr]; simp, fun z hz => ?_⟩
      · have l3 : (taps.map D.int).length ≤ sizeLine := by rw [List.length_map]; exact l2
        have l6 : (rows.map rowD).length < sizeLine := by rw [List.length_map]; exact l5
        have e6 : (rows ++ [row]).map rowD = rows.map rowD ++ [.tup (row.map D.int)] := by rw [List.map_append]; rfl
        rw [e6]
        generalize rows.map rowD = RS at g1 l6 ⊢
        generalize taps.map D.int = TS at g1 l3 ⊢
        generalize row.map D.int = RW at g1 ⊢
        generalize 0 + (i : Int) = k at g1 ⊢
        generalize (mOp1 dInt (mOp2 dGt (mCallS f__law_next 1 (mCons (mRet (.int 5)) mNil)) (mRet (.int 0)))) = FE at g1 ⊢
        clear lr hrow hb g2 g3 l5 e6 hn hd em bg hx
        walk_at "ev"
      · rcases List.mem_append.mp hz with hz | hz
        · exact hrow z hz
        · rw [List.mem_singleton.mp hz]
          exact ⟨g2, hb⟩)
  rw [rangeD_len] at lr
  refine ⟨rows, s3, v, ?_, by omega, by omega, hrow⟩
  have six : 6 ≤ sizeLine := by decide
  generalize rows.map rowD = RS at f1 ⊢
  generalize (sMut dAppend 5 (mCons (mOp1 dTuple (mOf (mComp 1 [0] (some (0, 1)) (mSeq (mVar 4)) (gSet 0)
      (mRet true) (mOp1 dInt (mOp2 dGt (mCallS f__law_next 1 (mCons (mRet (.int 5)) mNil)) (mRet (.int 0))))))) mNil)) = FB at f1 ⊢
  generalize taps.map D.int = TS at f1 ⊢
  clear lr hrow hn d0 d6 l2 h1 h3 m1 m6
  walk_at "ev"
theorem v_lawscheme (s : Int) (e : Str) (he : e = "open" ∨ e = "ended" ∨ e = "ring") : ∃ r taps rows s', f__law_scheme [.int s] [.int 4, .str e] = some (schD r taps rows e, [.int s']) ∧ SchOk r taps rows e ∧ r ≤ 3 := by
  have r0 := dr_lo s (m := 4) (by decide)
  have r3 := dr_hi s (m := 4) (by decide)
  obtain ⟨ts, s1', a1, b1, b3, tb⟩ := s1 (nx s) (dr s 4) (.str e) r0 (by omega)
  obtain ⟨us, a2, b1, b3, tb⟩ := s2 s1' (dr s 4) (.str e) ts r0 (by omega) b1 b3 tb
  obtain ⟨rows, s4', v, a4, m1, m6, hrow⟩ := s4 (nx s1') (dr s 4) (.str e) us b1 b3
  have e2 : (2 : Int) ^ ((dr s 4).toNat + 1) = 2 * 2 ^ (dr s 4).toNat := by rw [Int.pow_succ, Int.mul_comm]
  rw [e2] at tb
  refine ⟨dr s 4, us, rows, s4', ?_, ⟨r0, by omega, b1, by omega, tb, m1, m6, hrow, he⟩, by omega⟩
  have a0 := s0 s (.str e)
  have zero : 0 ≤ sizeLine := by decide
  have four : 4 ≤ sizeLine := by decide
  have a3 : (sOwn 5 (mLst mNil)) [some (.lst [.int (nx s1')]), some (.int 4), some (.str e), some (.int (dr s 4)), some (.lst (us.map D.int)), none, none] = some (.nx [some (.lst [.int (nx s1')]), some (.int 4), some (.str e), some (.int (dr s 4)), some (.lst (us.map D.int)), some (.lst []), none]) := by
    generalize us.map D.int = U
    walk_at "ev"
  have a5 : (sRet (mTup (mCons (mVar 3) (mCons (mOp1 dTuple (mVar 4)) (mCons (mOp1 dTuple (mVar 5)) (mCons (mVar 2) mNil)))))) [some (.lst [.int s4']), some (.int 4), some (.str e), some (.int (dr s 4)), some (.lst (us.map D.int)), some (.lst (rows.map rowD)), v] = some (.rt (schD (dr s 4) us rows e) [some (.lst [.int s4']), some (.int 4), some (.str e), some (.int (dr s 4)), some (.lst (us.map D.int)), some (.lst (rows.map rowD)), v]) := by
    unfold schD
    generalize us.map D.int = U
    generalize rows.map rowD = RS
    clear a0 a1 a2 a3 a4
    walk_at "ev"
  have body : b__law_scheme [some (.lst [.int s]), some (.int 4), some (.str e), none, none, none, none] = some (.rt (schD (dr s 4) us rows e) [some (.lst [.int s4']), some (.int 4), some (.str e), some (.int (dr s 4)), some (.lst (us.map D.int)), some (.lst (rows.map rowD)), v]) := by
    unfold b__law_scheme
    rw [seq_nx a0, seq_nx a1, seq_nx a2, seq_nx a3, seq_nx a4, a5]
  unfold f__law_scheme runS
  rw [if_pos (show [D.int 4, D.str e].length + 1 = 3 from rfl)]
  show (match b__law_scheme [some (.lst [.int s]), some (.int 4), some (.str e), none, none, none, none] with
    | some (.rt d ρ) => (match (ρ[0]? : Option (Option D)) with
      | some (some (D.lst ys)) => some (d, ys)
      | _ => none)
    | some (.nx ρ) => if false = true then none else (match (ρ[0]? : Option (Option D)) with
      | some (some (D.lst ys)) => some (.non, ys)
      | _ => none)
    | _ => none) = _
  rw [body]
  rfl
section
variable {r : Int} {taps : List Int} {rows : List (List Int)} {e : Str}
theorem sum_cnt : ∀ (row : List Int), (∀ b ∈ row, b = 0 ∨ b = 1) → row.sum = (row.count 1 : Nat)
  | [], _ => rfl
  | b :: row, h => by
    have ih := sum_cnt row fun x hx => h x (List.mem_cons_of_mem _ hx)
    rw [List.sum_cons, List.count_cons, ih]
    rcases h b List.mem_cons_self with rfl | rfl
    · simp
    · simp; omega
theorem row_sum (ok : SchOk r taps rows e) (k : Nat) : (rowAt rows k).sum = ((selK taps rows k).length : Nat) := by
  rw [sel_cnt ok]
  refine sum_cnt _ ?_
  unfold rowAt
  cases q : rows[k % rows.length]? with
  | none => exact fun _ h => nomatch h
  | some row => exact (ok.rw row (List.mem_of_getElem? q)).2
theorem sel_le (ok : SchOk r taps rows e) (k : Nat) : (selK taps rows k).length ≤ 4 := by
  unfold selK
  refine Nat.le_trans (List.length_filter_le _ _) ?_
  rw [List.length_zip]
  have := ok.t4
  have := Nat.min_le_left taps.length (rowAt rows k).length
  omega
theorem pl_len (ok : SchOk r taps rows e) (N : Nat) : (placesR taps rows N).length ≤ N * 4 := flat_len _ 4 (fun k => by rw [List.length_replicate]; exact sel_le ok k) N
theorem ls1 (S : D) (n : Int) : (sSet 2 (mVar 1)) [some S, some (.int n), none, none, none] = some (.nx [some S, some (.int n), some (.int n), none, none]) := by
  walk_at "ev"
theorem ls2n (r : Int) (TS RS : D) (e : Str) (n : Int) (h : eqD (.str e) (.str "ended") = some false) : (sIf (mTest (mOp2 dEq (mOp2 dIx (mVar 0) (mRet (.int 3))) (mRet (.str "ended"))))
    (sSet 2 (mOp2 dAdd (mVar 1) (mOp2 dIx (mVar 0) (mRet (.int 0)))))
    sNil) [some (.tup [.int r, TS, RS, .str e]), some (.int n), some (.int n), none, none] = some (.nx [some (.tup [.int r, TS, RS, .str e]), some (.int n), some (.int n), none, none]) := by
  walk_at "ev"
theorem ls2e (r : Int) (TS RS : D) (e : Str) (n : Int) (h : eqD (.str e) (.str "ended") = some true) : (sIf (mTest (mOp2 dEq (mOp2 dIx (mVar 0) (mRet (.int 3))) (mRet (.str "ended"))))
    (sSet 2 (mOp2 dAdd (mVar 1) (mOp2 dIx (mVar 0) (mRet (.int 0)))))
    sNil) [some (.tup [.int r, TS, RS, .str e]), some (.int n), some (.int n), none, none] = some (.nx [some (.tup [.int r, TS, RS, .str e]), some (.int n), some (.int (n + r)), none, none]) := by
  walk_at "ev"
theorem ls2 (r : Int) (TS RS : D) (e : Str) (n : Int) (r0 : 0 ≤ r) (he : e = "open" ∨ e = "ended" ∨ e = "ring") : (sIf (mTest (mOp2 dEq (mOp2 dIx (mVar 0) (mRet (.int 3))) (mRet (.str "ended"))))
    (sSet 2 (mOp2 dAdd (mVar 1) (mOp2 dIx (mVar 0) (mRet (.int 0)))))
    sNil) [some (.tup [.int r, TS, RS, .str e]), some (.int n), some (.int n), none, none] = some (.nx [some (.tup [.int r, TS, RS, .str e]), some (.int n), some (.int (n + (zerosR r e : Nat))), none, none]) := by
  rcases he with rfl | rfl | rfl
  · rw [ls2n _ _ _ _ _ s_oe, show zerosR r "open" = 0 from if_neg (by decide)]; simp
  · rw [ls2e _ _ _ _ _ s_ee, show zerosR r "ended" = r.toNat from if_pos rfl, Int.toNat_of_nonneg r0]
  · rw [ls2n _ _ _ _ _ s_re, show zerosR r "ring" = 0 from if_neg (by decide)]; simp
theorem ls_turn (r : Int) (TS : D) (RS RW F RP : List D) (e : Str) (n m k : Int) (ns : List Int) (c : Int) (one : 1 ≤ sizeLine) (hl : 0 < RS.length) (hr : atI RS (k % (RS.length : Nat)) = some (.tup RW)) (hi : intsD RW = some ns) (hc : ns.sum = c) (hrp : repO [D.int k] (.int c) = some RP) (ln : F.length + RP.length ≤ sizeLine) :
    (sExt 3 (mRep (mLst (mCons (mVar 4) mNil)) (mOp1 dSumT (mOp2 dIx (mOp2 dIx (mVar 0) (mRet (.int 2))) (mOp2 dMod (mVar 4) (mOp1 dLen (mOp2 dIx (mVar 0) (mRet (.int 2))))))))) [some (.tup [.int r, TS, .tup RS, .str e]), some (.int n), some (.int m), some (.lst F), some (.int k)] = some (.nx [some (.tup [.int r, TS, .tup RS, .str e]), some (.int n), some (.int m), some (.lst (F ++ RP)), some (.int k)]) := by
  subst hc
  have hrep : (mRep (mLst (mCons (mVar 4) mNil)) (mOp1 dSumT (mOp2 dIx (mOp2 dIx (mVar 0) (mRet (.int 2))) (mOp2 dMod (mVar 4) (mOp1 dLen (mOp2 dIx (mVar 0) (mRet (.int 2)))))))) [some (.tup [.int r, TS, .tup RS, .str e]), some (.int n), some (.int m), some (.lst F), some (.int k)] = some (RP, [some (.tup [.int r, TS, .tup RS, .str e]), some (.int n), some (.int m), some (.lst F), some (.int k)]) := by
    refine rep_at (xs := [.int k]) (y := .int ns.sum) (ρ1 := [some (.tup [.int r, TS, .tup RS, .str e]), some (.int n), some (.int m), some (.lst F), some (.int k)]) ?_ ?_ hrp
    · clear hrp hr hi ln
      walk_at "ev"
    · clear hrp ln
      walk_at "ev"
  generalize (mRep (mLst (mCons (mVar 4) mNil)) (mOp1 dSumT (mOp2 dIx (mOp2 dIx (mVar 0) (mRet (.int 2))) (mOp2 dMod (mVar 4) (mOp1 dLen (mOp2 dIx (mVar 0) (mRet (.int 2)))))))) = FR at hrep ⊢
  clear hrp hr hi
  walk_at "ev"
theorem ls_for (S : D) (n M : Int) (F : List D) (v : Option D) (bg : big M = true) (FB : Rho → Option Out) (h : forRun (gSet 4) FB (rangeD 0 M.toNat) [some S, some (.int n), some (.int M), some (.lst []), none] = some (.nx [some S, some (.int n), some (.int M), some (.lst F), v])) :
    (sFor (mRng1 (mCons (mVar 2) mNil)) (gSet 4) FB) [some S, some (.int n), some (.int M), some (.lst []), none] = some (.nx [some S, some (.int n), some (.int M), some (.lst F), v]) := by
  walk_at "ev"
theorem v_steps (ok : SchOk r taps rows e) (n : Nat) (hn : n ≤ 60) : f__law_steps [schD r taps rows e, .int n] = some (.lst ((placesR taps rows (n + zerosR r e)).map D.int)) := by
  have z4 := zeros_le ok
  have hlen : 0 < (rows.map rowD).length := by have := ok.m1; rw [List.length_map]; omega
  obtain ⟨ρ', l1, v4, hρ⟩ := for_inv (fg := gSet 4) (fb := (sExt 3 (mRep (mLst (mCons (mVar 4) mNil)) (mOp1 dSumT (mOp2 dIx (mOp2 dIx (mVar 0) (mRet (.int 2))) (mOp2 dMod (mVar 4) (mOp1 dLen (mOp2 dIx (mVar 0) (mRet (.int 2))))))))))
    (fun k ρ => ∃ v4, ρ = [some (schD r taps rows e), some (.int (n : Int)), some (.int ((n : Int) + (zerosR r e : Nat))), some (.lst ((placesR taps rows k).map D.int)), v4]) (rangeD 0 (n + zerosR r e)) 0
    [some (schD r taps rows e), some (.int (n : Int)), some (.int ((n : Int) + (zerosR r e : Nat))), some (.lst []), none] ⟨none, rfl⟩ (fun i x ρ hx ⟨v4, hρ⟩ => by
      subst hρ
      obtain ⟨hi, rfl⟩ := rangeD_get hx
      rw [Nat.zero_add, Int.zero_add]
      have eP : placesR taps rows (i + 1) = placesR taps rows i ++ List.replicate (selK taps rows i).length (i : Int) := flat_snoc _ _
      rw [eP, List.map_append, List.map_replicate]
      refine ⟨_, _, rfl, .inl (ls_turn r _ _ _ _ _ e _ _ _ (rowAt rows i) _ (by decide) hlen (row_at ok i) (intsD_map _) (row_sum ok i) ?_ ?_), some (.int (i : Int)), rfl⟩
      · rw [rep_one _ (by omega) (by have := sel_le ok i; omega), Int.toNat_natCast]
      · have q1 := pl_len ok i
        have q2 := sel_le ok i
        rw [List.length_map, List.length_replicate]
        exact line_of (by omega))
  subst hρ
  rw [rangeD_len, Nat.zero_add] at l1
  have bg : big ((n : Int) + (zerosR r e : Nat)) = true := by unfold big; simp; omega
  have tn : ((n : Int) + (zerosR r e : Nat)).toNat = n + zerosR r e := by omega
  rw [← tn] at l1
  have a3 := ls_for _ _ _ _ v4 bg _ l1
  have a1 : (sIf (mTest (mOp2 dEq (mOp2 dIx (mVar 0) (mRet (.int 3))) (mRet (.str "ended"))))
    (sSet 2 (mOp2 dAdd (mVar 1) (mOp2 dIx (mVar 0) (mRet (.int 0)))))
    sNil) [some (schD r taps rows e), some (.int (n : Int)), some (.int (n : Int)), none, none] = some (.nx [some (schD r taps rows e), some (.int (n : Int)), some (.int ((n : Int) + (zerosR r e : Nat))), none, none]) := ls2 r _ _ e (n : Int) ok.r0 ok.en
  have a2 : (sOwn 3 (mLst mNil)) [some (schD r taps rows e), some (.int (n : Int)), some (.int ((n : Int) + (zerosR r e : Nat))), none, none] = some (.nx [some (schD r taps rows e), some (.int (n : Int)), some (.int ((n : Int) + (zerosR r e : Nat))), some (.lst []), none]) := by
    have zero : 0 ≤ sizeLine := by decide
    generalize schD r taps rows e = S
    generalize (n : Int) = n'
    generalize n' + (zerosR r e : Nat) = m
    clear l1 a3 a1 bg tn
    walk_at "ev"
  unfold f__law_steps b__law_steps runP
  rw [if_pos (show [schD r taps rows e, D.int (n : Int)].length = 2 from rfl)]
  show (match sSeq _ _ [some (schD r taps rows e), some (.int (n : Int)), none, none, none] with
    | some (.rt d _) => some d
    | some (.nx _) => if true = true then none else some .non
    | _ => none) = _
  rw [seq_nx (ls1 _ _), seq_nx a1, seq_nx a2, seq_nx a3]
  rfl
end
structure Acc where
  pre : List (List Int)
  blk : List Int
  y : Int
noncomputable def accI : Option Acc → List (List Int)
  | none => []
  | some a => a.pre ++ [a.blk ++ [a.y]]
noncomputable def accD (a : Option Acc) : List (List D) := (accI a).map fun b : List Int => b.map D.int
noncomputable def nextA (near : Int → Int → Bool) : Option Acc → Int → Acc
  | none, x => ⟨[], [], x⟩
  | some a, x => if near a.y x = true then ⟨a.pre, a.blk ++ [a.y], x⟩ else ⟨a.pre ++ [a.blk ++ [a.y]], [], x⟩
noncomputable def foldA (near : Int → Int → Bool) : Option Acc → List Int → Option Acc
  | a, [] => a
  | a, x :: xs => foldA near (some (nextA near a x)) xs
noncomputable def Good (PS : List Int) (n : Nat) : Option Acc → Prop
  | none => True
  | some a => a.y ∈ PS ∧ a.pre.length ≤ n ∧ a.blk.length ≤ n ∧ ∀ b ∈ a.pre, b.length ≤ n
theorem good_next {PS : List Int} {n : Nat} {near : Int → Int → Bool} {a : Option Acc} {x : Int} (h : Good PS n a) (hx : x ∈ PS) : Good PS (n + 1) (some (nextA near a x)) := by
  cases a with
  | none => exact ⟨hx, Nat.zero_le _, Nat.zero_le _, fun _ h => nomatch h⟩
  | some a =>
    obtain ⟨h1, h2, h3, h4⟩ := h
    unfold nextA
    dsimp only
    split
    · exact ⟨hx, Nat.le_succ_of_le h2, by rw [List.length_append]; exact Nat.add_le_add_right h3 1, fun b hb => Nat.le_succ_of_le (h4 b hb)⟩
    · refine ⟨hx, by rw [List.length_append]; exact Nat.add_le_add_right h2 1, Nat.zero_le _, fun b hb => ?_⟩
      rcases List.mem_append.mp hb with hb | hb
      · exact Nat.le_succ_of_le (h4 b hb)
      · rw [List.mem_singleton.mp hb, List.length_append]
        exact Nat.add_le_add_right h3 1
theorem good_fold {PS : List Int} {near : Int → Int → Bool} : ∀ (xs : List Int) (n : Nat) (a : Option Acc), Good PS n a → (∀ x ∈ xs, x ∈ PS) → Good PS (n + xs.length) (foldA near a xs)
  | [], n, a, h, _ => h
  | x :: xs, n, a, h, hx => by
    have := good_fold (near := near) xs (n + 1) (some (nextA near a x)) (good_next h (hx x List.mem_cons_self)) fun z hz => hx z (List.mem_cons_of_mem _ hz)
    rw [List.length_cons]
    have e : n + (xs.length + 1) = n + 1 + xs.length := by omega
    rw [e]
    exact this
theorem run_fold {j : Nat} {f : Fd} {near : Int → Int → Bool} {PS : List Int} {m : Nat} (ρ : Option D → Rho) (hset : ∀ v d, (ρ v).set j (some d) = ρ (some d)) (hf : ∀ x ∈ PS, ∀ n a, n < m → Good PS n a → f (ρ (some (.int x))) (accD a) = some (ρ (some (.int x)), accD (some (nextA near a x)))) :
    ∀ (xs : List Int) (n : Nat) (a : Option Acc) (v : Option D), Good PS n a → n + xs.length ≤ m → (∀ x ∈ xs, x ∈ PS) → ∃ v', fdRun j f (xs.map D.int) (ρ v) (accD a) = some (ρ v', accD (foldA near a xs))
  | [], n, a, v, _, _, _ => ⟨v, rfl⟩
  | x :: xs, n, a, v, h, hm, hx => by
    have x1 := hx x List.mem_cons_self
    rw [List.length_cons] at hm
    obtain ⟨v', ih⟩ := run_fold ρ hset hf xs (n + 1) (some (nextA near a x)) (some (.int x)) (good_next h x1) (by omega) fun z hz => hx z (List.mem_cons_of_mem _ hz)
    refine ⟨v', ?_⟩
    show (match f ((ρ v).set j (some (.int x))) (accD a) with
      | some p => fdRun j f (xs.map D.int) p.1 p.2
      | none => none) = _
    rw [hset, hf x x1 n a (by omega) h]
    exact ih
theorem accD_some (a : Acc) : accD (some a) = a.pre.map (fun b : List Int => b.map D.int) ++ [a.blk.map D.int ++ [D.int a.y]] := by
  unfold accD accI
  rw [List.map_append]
  simp
theorem push_acc (a : Acc) (x : Int) (hb : a.blk.length + 1 < sizeLine) : dPush (accD (some a)) (.int x) = some (accD (some ⟨a.pre, a.blk ++ [a.y], x⟩)) := by
  rw [accD_some, accD_some]
  unfold dPush
  have e1 : (a.pre.map (fun b : List Int => b.map D.int) ++ [a.blk.map D.int ++ [D.int a.y]]).length - 1 = (a.pre.map (fun b : List Int => b.map D.int)).length := by rw [List.length_append]; simp
  rw [e1, List.getElem?_append_right (Nat.le_refl _), Nat.sub_self]
  show (if (a.blk.map D.int ++ [D.int a.y]).length < sizeLine then _ else none) = _
  rw [if_pos (by rw [List.length_append, List.length_map]; exact hb), List.set_append_right _ _ (Nat.le_refl _), Nat.sub_self, List.set_cons_zero, List.map_append]
  rfl
theorem deep_at (a : Acc) : atI ((accD (some a)).map D.lst) (-1) = some (.lst (a.blk.map D.int ++ [.int a.y])) := by
  rw [accD_some, List.map_append]
  exact at_last _ _
theorem blk_at (a : Acc) : atI (a.blk.map D.int ++ [D.int a.y]) (-1) = some (.int a.y) := at_last _ _
theorem fd_t {i : Nat} {ft : Rho → Option (Bool × Rho)} {f h : Fd} {ρ ρ1 : Rho} {dss : List (List D)} (e : ft (ρ.set i (some (.lst (dss.map D.lst)))) = some (true, ρ1)) : fdIf i ft f h ρ dss = f ρ dss := by
  unfold fdIf
  rw [e]
  rfl
theorem fd_f {i : Nat} {ft : Rho → Option (Bool × Rho)} {f h : Fd} {ρ ρ1 : Rho} {dss : List (List D)} (e : ft (ρ.set i (some (.lst (dss.map D.lst)))) = some (false, ρ1)) : fdIf i ft f h ρ dss = h ρ dss := by
  unfold fdIf
  rw [e]
  rfl
theorem fd_push {i : Nat} {fs : Rho → Option (List D × Rho)} {ρ ρ1 : Rho} {d : D} {dss x : List (List D)} (e : fs ρ = some ([d], ρ1)) (fr : isFree ρ1 i = true) (h : dPush dss d = some x) : fdPush i fs ρ dss = some (ρ1, x) := by
  unfold fdPush
  rw [e]
  show (if isFree ρ1 i = true then (dPush dss d).map fun x => (ρ1, x) else none) = _
  rw [if_pos fr, h]
  rfl
theorem fd_grow {i : Nat} {fs : Rho → Option (List D × Rho)} {ρ ρ1 : Rho} {ds : List D} {dss : List (List D)} (e : fs ρ = some (ds, ρ1)) (fr : isFree ρ1 i = true) (h1 : ds.length ≤ sizeLine) (h2 : dss.length < sizeLine) : fdGrow i fs ρ dss = some (ρ1, dss ++ [ds]) := by
  unfold fdGrow
  rw [e]
  show (if isFree ρ1 i = true ∧ ds.length ≤ sizeLine ∧ dss.length < sizeLine then some (ρ1, dss ++ [ds]) else none) = _
  rw [if_pos ⟨fr, h1, h2⟩]
noncomputable def pD : Option Int → D
  | none => .non
  | some k => .int k
noncomputable def nearV (p : Option Int) (a b : Int) : Bool := match p with
  | none => true
  | some k => decide (b - a ≤ k)
noncomputable def PauseOk (p : Option Int) : Prop := ∀ k, p = some k → 0 ≤ k
theorem p_parted (p : Option Int) (a b : Int) (hp : PauseOk p) : f_is_parted [.int a, .int b, pD p] = some (.bl (!nearV p a b)) := by
  unfold f_is_parted b_is_parted
  cases p with
  | none =>
    unfold pD nearV
    walk_at "ev"
  | some k =>
    have k0 := hp k rfl
    have k1 : ¬ (0 > k) := by omega
    have e : (!decide (b - a ≤ k)) = decide (k < b - a) := by
      by_cases q : b - a ≤ k
      · rw [decide_eq_true q, decide_eq_false (by omega)]; rfl
      · rw [decide_eq_false q, decide_eq_true (by omega)]; rfl
    unfold pD nearV
    dsimp only
    rw [e]
    clear hp e
    walk_at "ev"
theorem bt_none (S N P X : D) (H ST : List D) : (mAnd (mTest (mOp2 dGt (mOp1 dLen (mVar 5)) (mRet (.int 0)))) (mNot (mTest (mCall f_is_parted (mCons (mOp2 dIx (mVar 4) (mOp2 dIx (mOp2 dIx (mVar 5) (mOp1 dNeg (mRet (.int 1)))) (mOp1 dNeg (mRet (.int 1))))) (mCons (mOp2 dIx (mVar 4) (mVar 6)) (mCons (mVar 3) mNil))))))) [some S, some N, some (.lst H), some P, some (.lst ST), some (.lst []), some X] = some (false, [some S, some N, some (.lst H), some P, some (.lst ST), some (.lst []), some X]) := by
  walk_at "ev"
theorem bt_some (S N P : D) (H ST DL BL : List D) (x y a b : Int) (v : Bool) (h0 : 0 < DL.length) (h1 : atI DL (-1) = some (.lst BL)) (h2 : atI BL (-1) = some (.int y)) (h3 : atI ST y = some (.int a)) (h4 : atI ST x = some (.int b)) (h5 : f_is_parted [.int a, .int b, P] = some (.bl (!v))) :
    (mAnd (mTest (mOp2 dGt (mOp1 dLen (mVar 5)) (mRet (.int 0)))) (mNot (mTest (mCall f_is_parted (mCons (mOp2 dIx (mVar 4) (mOp2 dIx (mOp2 dIx (mVar 5) (mOp1 dNeg (mRet (.int 1)))) (mOp1 dNeg (mRet (.int 1))))) (mCons (mOp2 dIx (mVar 4) (mVar 6)) (mCons (mVar 3) mNil))))))) [some S, some N, some (.lst H), some P, some (.lst ST), some (.lst DL), some (.int x)] = some (v, [some S, some N, some (.lst H), some P, some (.lst ST), some (.lst DL), some (.int x)]) := by
  walk_at "ev"
theorem acc_pos (a : Acc) : 0 < ((accD (some a)).map D.lst).length := by
  rw [accD_some]
  simp
noncomputable def numA (NS : List Int) (y : Int) : Int := NS.getD y.toNat 0
theorem num_at {NS : List Int} {y : Int} (h0 : 0 ≤ y) (h : y < NS.length) : atI (NS.map D.int) y = some (.int (numA NS y)) := by
  rw [at_nat h0 (by rw [List.length_map]; exact h), List.getElem?_map, List.getElem?_eq_getElem (by omega)]
  unfold numA
  rw [List.getD_eq_getElem?_getD, List.getElem?_eq_getElem (by omega)]
  rfl
noncomputable def nearA (NS : List Int) (p : Option Int) (y x : Int) : Bool := nearV p (numA NS y) (numA NS x)
theorem next_t {near : Int → Int → Bool} {a : Acc} {x : Int} (h : near a.y x = true) : nextA near (some a) x = ⟨a.pre, a.blk ++ [a.y], x⟩ := if_pos h
theorem next_f {near : Int → Int → Bool} {a : Acc} {x : Int} (h : near a.y x = false) : nextA near (some a) x = ⟨a.pre ++ [a.blk ++ [a.y]], [], x⟩ := if_neg (by rw [h]; exact Bool.false_ne_true)
theorem grow_acc (a : Acc) (x : Int) : accD (some ⟨a.pre ++ [a.blk ++ [a.y]], [], x⟩) = accD (some a) ++ [[.int x]] := by
  unfold accD accI
  dsimp only
  rw [List.map_append, List.nil_append]
  rfl
noncomputable def PlOk (NS PS : List Int) : Prop := ∀ x ∈ PS, 0 ≤ x ∧ x < NS.length
theorem acc_len {PS : List Int} {n : Nat} {a : Acc} (g : Good PS n (some a)) : (accD (some a)).length ≤ n + 1 := by
  rw [accD_some, List.length_append, List.length_map]
  exact Nat.add_le_add_right g.2.1 1
theorem b_turn (S N : D) (H : List D) (NS PS : List Int) (p : Option Int) (hp : PauseOk p) (pl : PlOk NS PS) (x : Int) (hx : x ∈ PS) (n : Nat) (a : Option Acc) (hn : n < 1000) (g : Good PS n a) :
    (fdIf 5 (mAnd (mTest (mOp2 dGt (mOp1 dLen (mVar 5)) (mRet (.int 0)))) (mNot (mTest (mCall f_is_parted (mCons (mOp2 dIx (mVar 4) (mOp2 dIx (mOp2 dIx (mVar 5) (mOp1 dNeg (mRet (.int 1)))) (mOp1 dNeg (mRet (.int 1))))) (mCons (mOp2 dIx (mVar 4) (mVar 6)) (mCons (mVar 3) mNil)))))))
    (fdPush 5 (mCons (mVar 6) mNil))
    (fdGrow 5 (mCons (mVar 6) mNil))) [some S, some N, some (.lst H), some (pD p), some (.lst (NS.map D.int)), none, some (.int x)] (accD a) = some ([some S, some N, some (.lst H), some (pD p), some (.lst (NS.map D.int)), none, some (.int x)], accD (some (nextA (nearA NS p) a x))) := by
  have ea : (mCons (mVar 6) mNil) [some S, some N, some (.lst H), some (pD p), some (.lst (NS.map D.int)), none, some (.int x)] = some ([.int x], [some S, some N, some (.lst H), some (pD p), some (.lst (NS.map D.int)), none, some (.int x)]) := by
    generalize NS.map D.int = ST
    generalize pD p = P
    walk_at "ev"
  cases a with
  | none =>
    refine (fd_f (bt_none S N (pD p) (.int x) H _)).trans ?_
    exact fd_grow ea rfl (show 1 ≤ sizeLine by decide) (by show 0 < sizeLine; decide)
  | some a =>
    have py := pl a.y g.1
    have px := pl x hx
    have ht := bt_some S N (pD p) H (NS.map D.int) _ _ x a.y _ _ (nearA NS p a.y x) (acc_pos a) (deep_at a) (blk_at a) (num_at py.1 py.2) (num_at px.1 px.2) (p_parted p _ _ hp)
    cases q : nearA NS p a.y x with
    | true =>
      rw [q] at ht
      rw [next_t q]
      refine (fd_t ht).trans (fd_push ea rfl (push_acc a x ?_))
      exact Nat.lt_of_lt_of_le (by have := g.2.2.1; omega : _ < 2000) (line_of (by decide))
    | false =>
      rw [q] at ht
      rw [next_f q, grow_acc]
      refine (fd_f ht).trans (fd_grow ea rfl (show 1 ≤ sizeLine by decide) ?_)
      exact Nat.lt_of_lt_of_le (by have := acc_len g; omega : _ < 2000) (line_of (by decide))
theorem DOk.deep (bs : List (List Int)) : DOk 2 (.lst ((bs.map fun b : List Int => b.map D.int).map D.lst)) := DOks.lst (.all fun d hd => by
  obtain ⟨c, hc, rfl⟩ := List.mem_map.mp hd
  obtain ⟨b, _, rfl⟩ := List.mem_map.mp hc
  exact .ints b)
theorem eqD_deep (bs : List (List Int)) : eqD (.lst ((bs.map fun b : List Int => b.map D.int).map D.lst)) (.lst ((bs.map fun b : List Int => b.map D.int).map D.lst)) = some true := eqD_self (DOk.deep bs) (by decide)
theorem eqD_nil {n : Nat} {d : D} {ds : List D} (h : DOk n (.lst (d :: ds))) (hn : n ≤ 64) : eqD (.lst (d :: ds)) (.lst []) = some false := by
  obtain ⟨p, h1, h2, h3⟩ := h
  have hs : SeqAt.shaped p = true := by
    unfold SeqAt.shaped
    rw [h2, decide_eq_true (by omega : p.depth ≤ 64)]
    rfl
  have hs0 : SeqAt.shaped (.list []) = true := by simp [SeqAt.shaped, PyData.canLay0, PyData.canLayAll0, PyData.depth, PyData.depthAll]
  simp only [D.toP] at h1
  cases q : D.toPs (d :: ds) with
  | none => rw [q] at h1; cases h1
  | some ps =>
    rw [q] at h1
    cases h1
    have ne : ∃ y ys, ps = y :: ys := by
      simp only [D.toPs] at q
      split at q
      · cases q; exact ⟨_, _, rfl⟩
      · cases q
    obtain ⟨y, ys, rfl⟩ := ne
    have t1 : (D.lst (d :: ds)).toP = some (.list (y :: ys)) := by simp only [D.toP]; rw [q]; rfl
    have t2 : (D.lst []).toP = some (.list []) := by simp only [D.toP, D.toPs]; rfl
    unfold eqD
    rw [t1, t2]
    show (if SeqAt.shaped (.list (y :: ys)) = true ∧ SeqAt.shaped (.list []) = true then some (PyData.eqv (.list (y :: ys)) (.list [])) else none) = some false
    rw [if_pos ⟨hs, hs0⟩]
    simp [PyData.eqv, PyData.eqvAll]
theorem pt1_none (NS PS : List D) (P X : D) (h : eqD (.lst []) (.lst []) = some true) : (mAnd (mTest (mOp2 dNe (mVar 3) (mOf (mLst mNil)))) (mTest (mOp2 dEq (mOp2 dIx (mVar 0) (mVar 4)) (mOp2 dIx (mVar 0) (mOp2 dIx (mOp2 dIx (mVar 3) (mOp1 dNeg (mRet (.int 1)))) (mOp1 dNeg (mRet (.int 1)))))))) [some (.lst NS), some (.lst PS), some P, some (.lst []), some X] = some (false, [some (.lst NS), some (.lst PS), some P, some (.lst []), some X]) := by
  have z : 0 ≤ sizeLine := by decide
  walk_at "ev"
theorem pt2_none (NS PS : List D) (P X : D) (h : eqD (.lst []) (.lst []) = some true) : (mAnd (mTest (mOp2 dNe (mVar 3) (mOf (mLst mNil)))) (mOr (mTest (mOp2 dIsN (mVar 2) (mRet .non))) (mTest (mOp2 dLe (mOp2 dSub (mOp2 dIx (mVar 0) (mVar 4)) (mOp2 dIx (mVar 0) (mOp2 dIx (mOp2 dIx (mVar 3) (mOp1 dNeg (mRet (.int 1)))) (mOp1 dNeg (mRet (.int 1)))))) (mVar 2))))) [some (.lst NS), some (.lst PS), some P, some (.lst []), some X] = some (false, [some (.lst NS), some (.lst PS), some P, some (.lst []), some X]) := by
  have z : 0 ≤ sizeLine := by decide
  walk_at "ev"
theorem pt1_some (NS PS DL BL : List D) (P : D) (x y a b : Int) (h : eqD (.lst DL) (.lst []) = some false) (h1 : atI DL (-1) = some (.lst BL)) (h2 : atI BL (-1) = some (.int y)) (h3 : atI NS y = some (.int a)) (h4 : atI NS x = some (.int b)) :
    (mAnd (mTest (mOp2 dNe (mVar 3) (mOf (mLst mNil)))) (mTest (mOp2 dEq (mOp2 dIx (mVar 0) (mVar 4)) (mOp2 dIx (mVar 0) (mOp2 dIx (mOp2 dIx (mVar 3) (mOp1 dNeg (mRet (.int 1)))) (mOp1 dNeg (mRet (.int 1)))))))) [some (.lst NS), some (.lst PS), some P, some (.lst DL), some (.int x)] = some (b == a, [some (.lst NS), some (.lst PS), some P, some (.lst DL), some (.int x)]) := by
  have z : 0 ≤ sizeLine := by decide
  walk_at "ev"
theorem pt2_non (NS PS DL : List D) (X : D) (h : eqD (.lst DL) (.lst []) = some false) : (mAnd (mTest (mOp2 dNe (mVar 3) (mOf (mLst mNil)))) (mOr (mTest (mOp2 dIsN (mVar 2) (mRet .non))) (mTest (mOp2 dLe (mOp2 dSub (mOp2 dIx (mVar 0) (mVar 4)) (mOp2 dIx (mVar 0) (mOp2 dIx (mOp2 dIx (mVar 3) (mOp1 dNeg (mRet (.int 1)))) (mOp1 dNeg (mRet (.int 1)))))) (mVar 2))))) [some (.lst NS), some (.lst PS), some .non, some (.lst DL), some X] = some (true, [some (.lst NS), some (.lst PS), some .non, some (.lst DL), some X]) := by
  have z : 0 ≤ sizeLine := by decide
  walk_at "ev"
theorem pt2_int (NS PS DL BL : List D) (x y a b k : Int) (h : eqD (.lst DL) (.lst []) = some false) (h1 : atI DL (-1) = some (.lst BL)) (h2 : atI BL (-1) = some (.int y)) (h3 : atI NS y = some (.int a)) (h4 : atI NS x = some (.int b)) :
    (mAnd (mTest (mOp2 dNe (mVar 3) (mOf (mLst mNil)))) (mOr (mTest (mOp2 dIsN (mVar 2) (mRet .non))) (mTest (mOp2 dLe (mOp2 dSub (mOp2 dIx (mVar 0) (mVar 4)) (mOp2 dIx (mVar 0) (mOp2 dIx (mOp2 dIx (mVar 3) (mOp1 dNeg (mRet (.int 1)))) (mOp1 dNeg (mRet (.int 1)))))) (mVar 2))))) [some (.lst NS), some (.lst PS), some (.int k), some (.lst DL), some (.int x)] = some (decide (b - a ≤ k), [some (.lst NS), some (.lst PS), some (.int k), some (.lst DL), some (.int x)]) := by
  have z : 0 ≤ sizeLine := by decide
  walk_at "ev"
theorem l_turn (NS PS : List Int) (p : Option Int) (hp : PauseOk p) (pl : PlOk NS PS) (x : Int) (hx : x ∈ PS) (n : Nat) (a : Option Acc) (hn : n < 1000) (g : Good PS n a) :
    (fdIf 3 (mAnd (mTest (mOp2 dNe (mVar 3) (mOf (mLst mNil)))) (mTest (mOp2 dEq (mOp2 dIx (mVar 0) (mVar 4)) (mOp2 dIx (mVar 0) (mOp2 dIx (mOp2 dIx (mVar 3) (mOp1 dNeg (mRet (.int 1)))) (mOp1 dNeg (mRet (.int 1))))))))
    (fdPush 3 (mCons (mVar 4) mNil))
    (fdIf 3 (mAnd (mTest (mOp2 dNe (mVar 3) (mOf (mLst mNil)))) (mOr (mTest (mOp2 dIsN (mVar 2) (mRet .non))) (mTest (mOp2 dLe (mOp2 dSub (mOp2 dIx (mVar 0) (mVar 4)) (mOp2 dIx (mVar 0) (mOp2 dIx (mOp2 dIx (mVar 3) (mOp1 dNeg (mRet (.int 1)))) (mOp1 dNeg (mRet (.int 1)))))) (mVar 2)))))
    (fdPush 3 (mCons (mVar 4) mNil))
    (fdGrow 3 (mCons (mVar 4) mNil)))) [some (.lst (NS.map D.int)), some (.lst (PS.map D.int)), some (pD p), none, some (.int x)] (accD a) = some ([some (.lst (NS.map D.int)), some (.lst (PS.map D.int)), some (pD p), none, some (.int x)], accD (some (nextA (nearA NS p) a x))) := by
  have ea : (mCons (mVar 4) mNil) [some (.lst (NS.map D.int)), some (.lst (PS.map D.int)), some (pD p), none, some (.int x)] = some ([.int x], [some (.lst (NS.map D.int)), some (.lst (PS.map D.int)), some (pD p), none, some (.int x)]) := by
    generalize NS.map D.int = ST
    generalize PS.map D.int = PT
    generalize pD p = P
    walk_at "ev"
  have e0 : eqD (.lst []) (.lst []) = some true := eqD_self (n := 1) (DOks.lst (.nil 0)) (by decide)
  cases a with
  | none =>
    refine (fd_f (pt1_none _ _ (pD p) (.int x) e0)).trans ((fd_f (pt2_none _ _ (pD p) (.int x) e0)).trans ?_)
    exact fd_grow ea rfl (show 1 ≤ sizeLine by decide) (by show 0 < sizeLine; decide)
  | some a =>
    have py := pl a.y g.1
    have px := pl x hx
    have en : eqD (.lst ((accD (some a)).map D.lst)) (.lst []) = some false := by
      have dk := DOk.deep (accI (some a))
      have ex : (accD (some a)).map D.lst = ((accI (some a)).map fun b : List Int => b.map D.int).map D.lst := rfl
      rw [← ex] at dk
      have ps := acc_pos a
      generalize (accD (some a)).map D.lst = DL at dk ps ⊢
      cases DL with
      | nil => exact absurd ps (by simp)
      | cons d ds => exact eqD_nil dk (by decide)
    have t1 := pt1_some (NS.map D.int) (PS.map D.int) _ _ (pD p) x a.y _ _ en (deep_at a) (blk_at a) (num_at py.1 py.2) (num_at px.1 px.2)
    have tp : fdPush 3 (mCons (mVar 4) mNil) [some (.lst (NS.map D.int)), some (.lst (PS.map D.int)), some (pD p), none, some (.int x)] (accD (some a)) = some ([some (.lst (NS.map D.int)), some (.lst (PS.map D.int)), some (pD p), none, some (.int x)], accD (some ⟨a.pre, a.blk ++ [a.y], x⟩)) :=
      fd_push ea rfl (push_acc a x (Nat.lt_of_lt_of_le (by have := g.2.2.1; omega : _ < 2000) (line_of (by decide))))
    have tg : fdGrow 3 (mCons (mVar 4) mNil) [some (.lst (NS.map D.int)), some (.lst (PS.map D.int)), some (pD p), none, some (.int x)] (accD (some a)) = some ([some (.lst (NS.map D.int)), some (.lst (PS.map D.int)), some (pD p), none, some (.int x)], accD (some a) ++ [[.int x]]) :=
      fd_grow ea rfl (show 1 ≤ sizeLine by decide) (Nat.lt_of_lt_of_le (by have := acc_len g; omega : _ < 2000) (line_of (by decide)))
    by_cases q : numA NS x = numA NS a.y
    · have q1 : (numA NS x == numA NS a.y) = true := beq_iff_eq.mpr q
      rw [q1] at t1
      have nr : nearA NS p a.y x = true := by
        unfold nearA nearV
        cases p with
        | none => rfl
        | some k => exact decide_eq_true (by have := hp k rfl; omega)
      rw [next_t nr]
      exact (fd_t t1).trans tp
    · have q1 : (numA NS x == numA NS a.y) = false := beq_eq_false_iff_ne.mpr q
      rw [q1] at t1
      refine (fd_f t1).trans ?_
      cases p with
      | none =>
        rw [next_t (near := nearA NS none) rfl]
        exact (fd_t (pt2_non _ _ _ (.int x) en)).trans tp
      | some k =>
        have t2 := pt2_int (NS.map D.int) (PS.map D.int) _ _ x a.y _ _ k en (deep_at a) (blk_at a) (num_at py.1 py.2) (num_at px.1 px.2)
        by_cases w : numA NS x - numA NS a.y ≤ k
        · rw [decide_eq_true w] at t2
          rw [next_t (near := nearA NS (some k)) (decide_eq_true w)]
          exact (fd_t t2).trans tp
        · rw [decide_eq_false w] at t2
          rw [next_f (near := nearA NS (some k)) (decide_eq_false w), grow_acc]
          exact (fd_f t2).trans tg
theorem fd_seq {f h : Fd} {ρ ρ1 : Rho} {d d1 : List (List D)} (e : f ρ d = some (ρ1, d1)) : fdSeq f h ρ d = h ρ1 d1 := by
  unfold fdSeq
  rw [e]
theorem fd_for {i j : Nat} {fi : Rho → Option (List D × Rho)} {f : Fd} {ρ ρ1 : Rho} {ds : List D} {dss : List (List D)} (e : fi ρ = some (ds, ρ1)) (fr : isFree ρ1 i = true) : fdFor i j fi f ρ dss = fdRun j f ds ρ1 dss := by
  unfold fdFor
  rw [e]
  exact if_pos fr
theorem g_at (S N P : D) (H ST : List D) (h : f_places_of [S, N] = some (.lst ST)) : g_blocks [some S, some N, some (.lst H), some P, none, none, none] = some (.nx [some S, some N, some (.lst H), some P, some (.lst ST), none, none]) := by
  unfold g_blocks
  walk_at "ev"
theorem sq_at (a0 a1 a3 a4 a5 a6 : Option D) (H : List D) : mSeq (mVar 2) [a0, a1, some (.lst H), a3, a4, a5, a6] = some (H, [a0, a1, some (.lst H), a3, a4, a5, a6]) := by
  walk_at "ev"
theorem sq_at1 (a0 a2 a3 a4 : Option D) (H : List D) : mSeq (mVar 1) [a0, some (.lst H), a2, a3, a4] = some (H, [a0, some (.lst H), a2, a3, a4]) := by
  walk_at "ev"
theorem v_blocks (S N : D) (NS PS : List Int) (p : Option Int) (hp : PauseOk p) (pl : PlOk NS PS) (hl : PS.length ≤ 1000) (h : f_places_of [S, N] = some (.lst (NS.map D.int))) : fD_blocks [S, N, .lst (PS.map D.int), pD p] = some (accD (foldA (nearA NS p) none PS)) := by
  obtain ⟨v', hr⟩ := run_fold (j := 6) (f := (fdIf 5 (mAnd (mTest (mOp2 dGt (mOp1 dLen (mVar 5)) (mRet (.int 0)))) (mNot (mTest (mCall f_is_parted (mCons (mOp2 dIx (mVar 4) (mOp2 dIx (mOp2 dIx (mVar 5) (mOp1 dNeg (mRet (.int 1)))) (mOp1 dNeg (mRet (.int 1))))) (mCons (mOp2 dIx (mVar 4) (mVar 6)) (mCons (mVar 3) mNil)))))))
    (fdPush 5 (mCons (mVar 6) mNil))
    (fdGrow 5 (mCons (mVar 6) mNil)))) (near := nearA NS p) (PS := PS) (m := 1000) (fun v => [some S, some N, some (.lst (PS.map D.int)), some (pD p), some (.lst (NS.map D.int)), none, v]) (fun _ _ => rfl) (fun x hx n a hn g => b_turn S N _ NS PS p hp pl x hx n a hn g) PS 0 none none trivial (by omega) fun _ h => h
  have hb : b_blocks [some S, some N, some (.lst (PS.map D.int)), some (pD p), some (.lst (NS.map D.int)), none, none] [] = some ([some S, some N, some (.lst (PS.map D.int)), some (pD p), some (.lst (NS.map D.int)), none, v'], accD (foldA (nearA NS p) none PS)) := by
    unfold b_blocks
    exact (fd_for (sq_at _ _ _ _ _ _ _) rfl).trans hr
  unfold fD_blocks runD1
  rw [if_pos (show [S, N, .lst (PS.map D.int), pD p].length = 4 from rfl)]
  show (match g_blocks [some S, some N, some (.lst (PS.map D.int)), some (pD p), none, none, none] with
    | some (.nx ρ) => if 5 < ρ.length then (match b_blocks (ρ.set 5 none) [] with
      | some p => some p.2
      | none => none) else none
    | _ => none) = _
  rw [g_at S N (pD p) _ _ h]
  show (match b_blocks [some S, some N, some (.lst (PS.map D.int)), some (pD p), some (.lst (NS.map D.int)), none, none] [] with
      | some p => some p.2
      | none => none) = _
  rw [hb]
theorem v_parted (NS PS : List Int) (p : Option Int) (hp : PauseOk p) (pl : PlOk NS PS) (hl : PS.length ≤ 1000) : fD__law_parted [.lst (NS.map D.int), .lst (PS.map D.int), pD p] = some (accD (foldA (nearA NS p) none PS)) := by
  obtain ⟨v', hr⟩ := run_fold (j := 4) (f := (fdIf 3 (mAnd (mTest (mOp2 dNe (mVar 3) (mOf (mLst mNil)))) (mTest (mOp2 dEq (mOp2 dIx (mVar 0) (mVar 4)) (mOp2 dIx (mVar 0) (mOp2 dIx (mOp2 dIx (mVar 3) (mOp1 dNeg (mRet (.int 1)))) (mOp1 dNeg (mRet (.int 1))))))))
    (fdPush 3 (mCons (mVar 4) mNil))
    (fdIf 3 (mAnd (mTest (mOp2 dNe (mVar 3) (mOf (mLst mNil)))) (mOr (mTest (mOp2 dIsN (mVar 2) (mRet .non))) (mTest (mOp2 dLe (mOp2 dSub (mOp2 dIx (mVar 0) (mVar 4)) (mOp2 dIx (mVar 0) (mOp2 dIx (mOp2 dIx (mVar 3) (mOp1 dNeg (mRet (.int 1)))) (mOp1 dNeg (mRet (.int 1)))))) (mVar 2)))))
    (fdPush 3 (mCons (mVar 4) mNil))
    (fdGrow 3 (mCons (mVar 4) mNil))))) (near := nearA NS p) (PS := PS) (m := 1000) (fun v => [some (.lst (NS.map D.int)), some (.lst (PS.map D.int)), some (pD p), none, v]) (fun _ _ => rfl) (fun x hx n a hn g => l_turn NS PS p hp pl x hx n a hn g) PS 0 none none trivial (by omega) fun _ h => h
  have hb : b__law_parted [some (.lst (NS.map D.int)), some (.lst (PS.map D.int)), some (pD p), none, none] [] = some ([some (.lst (NS.map D.int)), some (.lst (PS.map D.int)), some (pD p), none, v'], accD (foldA (nearA NS p) none PS)) := by
    unfold b__law_parted
    exact (fd_for (sq_at1 _ _ _ _ _) rfl).trans hr
  unfold fD__law_parted runD
  rw [if_pos (show [.lst (NS.map D.int), .lst (PS.map D.int), pD p].length = 3 from rfl)]
  show (match b__law_parted [some (.lst (NS.map D.int)), some (.lst (PS.map D.int)), some (pD p), none, none] [] with
      | some p => some p.2
      | none => none) = _
  rw [hb]
theorem x_blk (S N P : D) (h : fx_places_of [S, N] = some ("NoWord" : Str)) : fx_blocks [S, N, .lst [], P] = some ("NoWord" : Str) := by
  unfold fx_blocks x_blocks
  walk_at "ev"
theorem v_ref (S N P : D) (h1 : fx_blocks [S, N, .lst [], P] = some ("NoWord" : Str)) : f__law_refused [S, N, P] = some (.bl true) := by
  have c1 : ("NoWord" : Str) ∈ tk_WayError := by decide +kernel
  have c3 : List.lookup ("NoWord" : Str) eb_NoWord = some true := by decide +kernel
  have z0 : 0 ≤ sizeLine := by decide
  unfold f__law_refused b__law_refused
  generalize tk_WayError = T1 at c1 ⊢
  generalize eb_NoWord = T3 at c3 ⊢
  generalize ("NoWord" : Str) = x at h1 c1 c3
  walk_at "ev"
theorem cm_pick {n p q : Nat} {js : List Nat} {fg : D → Rho → Option Rho} {ft : Rho → Option (Bool × Rho)} {fe : Rho → Option (D × Rho)} {S : Type} (ρ : S → Rho) : ∀ (xs : List D), (∀ x ∈ xs, ∀ s, ∃ ρ1 ρ2 b s', fg x (capsR n js (ρ s)) = some ρ1 ∧ ft ρ1 = some (b, ρ2) ∧ fe ρ2 = some (x, ρ2) ∧ backR (some (p, q)) (ρ s) ρ2 = ρ s') → ∀ s, ∃ ys s', compRun n js (some (p, q)) fg ft fe xs (ρ s) = some (ys, ρ s') ∧ ys.Sublist xs
  | [], _, s => ⟨[], s, rfl, .slnil⟩
  | x :: xs, h, s => by
    obtain ⟨ρ1, ρ2, b, s1, h1, h2, h3, h4⟩ := h x List.mem_cons_self s
    obtain ⟨ys, s2, g1, g2⟩ := cm_pick ρ xs (fun y hy => h y (List.mem_cons_of_mem _ hy)) s1
    cases b with
    | false =>
      refine ⟨ys, s2, ?_, .cons _ g2⟩
      simp only [compRun, h1, h2, h4]
      rw [g1]
    | true =>
      refine ⟨x :: ys, s2, ?_, .cons₂ _ g2⟩
      simp only [compRun, h1, h2, h3, h4]
      rw [g1]
theorem b0 (N : D) (c : Int) (v2 v3 v4 v5 v6 v7 v8 v9 v10 v11 v12 : Option D) : ∃ s : Int, (sOwn 2 (mLst (mCons (mOp2 dAdd (mOp2 dMulG (mOp2 dMod (mVar 1) (mOp2 dPow (mRet (.int 10)) (mRet (.int 30)))) (mRet (.int 7368787))) (mRet (.int 1000003))) mNil))) [some N, some (.int c), v2, v3, v4, v5, v6, v7, v8, v9, v10, v11, v12] = some (.nx [some N, some (.int c), some (.lst [.int s]), v3, v4, v5, v6, v7, v8, v9, v10, v11, v12]) := by
  have one : 1 ≤ sizeLine := by decide
  refine ⟨c % 10 ^ Int.toNat 30 * 7368787 + 1000003, ?_⟩
  walk_at "ev"
theorem b1 (N : D) (c s s' d : Int) (e : Str) (SC : D) (v3 v4 v5 v6 v7 v8 v9 v10 v11 v12 : Option D) (h1 : f__law_next [.int s] [.int 3] = some (.int d, [.int (nx s)])) (h2 : atI [D.str "open", D.str "ended", D.str "ring"] d = some (.str e)) (h3 : f__law_scheme [.int (nx s)] [.int 4, .str e] = some (SC, [.int s'])) :
    (sSet 3 (mCallS f__law_scheme 2 (mCons (mRet (.int 4)) (mCons (mOp2 dIx (mOf (mLst (mCons (mRet (.str "open")) (mCons (mRet (.str "ended")) (mCons (mRet (.str "ring")) mNil))))) (mCallS f__law_next 2 (mCons (mRet (.int 3)) mNil))) mNil)))) [some N, some (.int c), some (.lst [.int s]), v3, v4, v5, v6, v7, v8, v9, v10, v11, v12] = some (.nx [some N, some (.int c), some (.lst [.int s']), some SC, v4, v5, v6, v7, v8, v9, v10, v11, v12]) := by
  have three : 3 ≤ sizeLine := by decide
  walk_at "ev"
theorem b2 (N : D) (c s s' d r : Int) (TS RS e : D) (v4 v5 v6 v7 v8 v9 v10 v11 v12 : Option D) (h1 : f__law_next [.int s] [.int (31 - r)] = some (.int d, [.int s'])) :
    (sSet 4 (mOp2 dAdd (mOp2 dIx (mVar 3) (mRet (.int 0))) (mCallS f__law_next 2 (mCons (mOp2 dSub (mRet (.int 31)) (mOp2 dIx (mVar 3) (mRet (.int 0)))) mNil)))) [some N, some (.int c), some (.lst [.int s]), some (.tup [.int r, TS, RS, e]), v4, v5, v6, v7, v8, v9, v10, v11, v12] = some (.nx [some N, some (.int c), some (.lst [.int s']), some (.tup [.int r, TS, RS, e]), some (.int (r + d)), v5, v6, v7, v8, v9, v10, v11, v12]) := by
  walk_at "ev"
theorem b3 (N c : D) (st SC n : D) (NS : List D) (v5 v6 v7 v8 v9 v10 v11 v12 : Option D) (h : f__law_steps [SC, n] = some (.lst NS)) :
    (sSet 5 (mOf (mCallL f__law_steps (mCons (mVar 3) (mCons (mVar 4) mNil))))) [some N, some c, some st, some SC, some n, v5, v6, v7, v8, v9, v10, v11, v12] = some (.nx [some N, some c, some st, some SC, some n, some (.lst NS), v6, v7, v8, v9, v10, v11, v12]) := by
  walk_at "ev"
theorem b4 (N c SC n NS : D) (s s' d q : Int) (v6 v7 v8 v9 v10 v11 v12 : Option D) (h1 : f__law_next [.int s] [.int 4] = some (.int d, [.int s'])) (h2 : atI [D.int 1, D.int 2, D.int 5, D.int 12] d = some (.int q)) :
    (sSet 6 (mOp2 dIx (mOf (mLst (mCons (mRet (.int 1)) (mCons (mRet (.int 2)) (mCons (mRet (.int 5)) (mCons (mRet (.int 12)) mNil)))))) (mCallS f__law_next 2 (mCons (mRet (.int 4)) mNil)))) [some N, some c, some (.lst [.int s]), some SC, some n, some NS, v6, v7, v8, v9, v10, v11, v12] = some (.nx [some N, some c, some (.lst [.int s']), some SC, some n, some NS, some (.int q), v7, v8, v9, v10, v11, v12]) := by
  have four : 4 ≤ sizeLine := by decide
  walk_at "ev"
theorem b5e (N c SC n : D) (NS YS : List D) (s s' q m : Int) (v7 v8 v9 v10 v11 v12 : Option D) (hm : (NS.length : Int) = m) (bg : big m = true) (ll : (rangeD 0 m.toNat).length ≤ sizeLine) (FT : Rho → Option (Bool × Rho)) (FE : Rho → Option (D × Rho))
    (h : compRun 1 [2, 6] (some (2, 1)) (gSet 0) FT FE (rangeD 0 m.toNat) [some N, some c, some (.lst [.int s]), some SC, some n, some (.lst NS), some (.int q), v7, v8, v9, v10, v11, v12] = some (YS, [some N, some c, some (.lst [.int s']), some SC, some n, some (.lst NS), some (.int q), v7, v8, v9, v10, v11, v12])) :
    (sSet 7 (mOf (mComp 1 [2, 6] (some (2, 1)) (mRng1 (mCons (mOp1 dLen (mVar 5)) mNil)) (gSet 0) FT FE))) [some N, some c, some (.lst [.int s]), some SC, some n, some (.lst NS), some (.int q), v7, v8, v9, v10, v11, v12] = some (.nx [some N, some c, some (.lst [.int s']), some SC, some n, some (.lst NS), some (.int q), some (.lst YS), v8, v9, v10, v11, v12]) := by
  walk_at "ev"
theorem b5 (N c SC n : D) (NS : List Int) (s q : Int) (v7 v8 v9 v10 v11 v12 : Option D) (hq : 0 < q) (hl : NS.length ≤ 1000) : ∃ (PS : List Int) (s' : Int),
    (sSet 7 (mOf (mComp 1 [2, 6] (some (2, 1)) (mRng1 (mCons (mOp1 dLen (mVar 5)) mNil)) (gSet 0)
      (mTest (mOp2 dEq (mCallS f__law_next 1 (mCons (mVar 2) mNil)) (mRet (.int 0)))) (mVar 0)))) [some N, some c, some (.lst [.int s]), some SC, some n, some (.lst (NS.map D.int)), some (.int q), v7, v8, v9, v10, v11, v12] = some (.nx [some N, some c, some (.lst [.int s']), some SC, some n, some (.lst (NS.map D.int)), some (.int q), some (.lst (PS.map D.int)), v8, v9, v10, v11, v12]) ∧ PlOk NS PS ∧ PS.length ≤ 1000 := by
  obtain ⟨ys, s', h1, h2⟩ := cm_pick (n := 1) (p := 2) (q := 1) (js := [2, 6]) (fg := gSet 0) (ft := (mTest (mOp2 dEq (mCallS f__law_next 1 (mCons (mVar 2) mNil)) (mRet (.int 0))))) (fe := mVar 0)
    (fun s : Int => [some N, some c, some (.lst [.int s]), some SC, some n, some (.lst (NS.map D.int)), some (.int q), v7, v8, v9, v10, v11, v12]) (rangeD 0 NS.length) (fun x hx s => by
      refine ⟨[some x, some (.lst [.int s]), some (.int q)], [some x, some (.lst [.int (nx s)]), some (.int q)], dr s q == 0, nx s, rfl, ?_, ?_, rfl⟩
      · have hn := v_next s q hq
        clear hx
        walk_at "ev"
      · clear hx
        walk_at "ev") s
  unfold rangeD at h2
  obtain ⟨ks, k1, rfl⟩ := List.sublist_map_iff.mp h2
  have tn : ((NS.length : Nat) : Int).toNat = NS.length := Int.toNat_natCast _
  have em : ks.map (fun k : Nat => D.int (0 + (k : Int))) = (ks.map fun k : Nat => (0 + (k : Int))).map D.int := by rw [List.map_map]; rfl
  rw [em, ← tn] at h1
  refine ⟨ks.map fun k : Nat => (0 + (k : Int)), s', ?_, fun x hx => ?_, ?_⟩
  · exact b5e N c SC n _ _ s s' q ((NS.length : Nat) : Int) v7 v8 v9 v10 v11 v12 (by rw [List.length_map]) (by unfold big; simp; omega) (by rw [rangeD_len]; exact line_of (by omega)) _ _ h1
  · obtain ⟨k, hk, rfl⟩ := List.mem_map.mp hx
    have := List.mem_range.mp (k1.subset hk)
    omega
  · rw [List.length_map]
    have := k1.length_le
    rw [List.length_range] at this
    omega
theorem b6 (N c SC n NS q PS : D) (s s1 s2 d d2 : Int) (P : D) (v8 v9 v10 v11 v12 : Option D) (h1 : f__law_next [.int s] [.int 13] = some (.int d, [.int s1])) (h2 : f__law_next [.int s1] [.int 4] = some (.int d2, [.int s2])) (h3 : atI [D.non, D.int 0, D.int 1, D.int d] d2 = some P) :
    (sSet 8 (mOp2 dIx (mOf (mLst (mCons (mRet .non) (mCons (mRet (.int 0)) (mCons (mRet (.int 1)) (mCons (mCallS f__law_next 2 (mCons (mRet (.int 13)) mNil)) mNil)))))) (mCallS f__law_next 2 (mCons (mRet (.int 4)) mNil)))) [some N, some c, some (.lst [.int s]), some SC, some n, some NS, some q, some PS, v8, v9, v10, v11, v12] = some (.nx [some N, some c, some (.lst [.int s2]), some SC, some n, some NS, some q, some PS, some P, v9, v10, v11, v12]) := by
  have four : 4 ≤ sizeLine := by decide
  walk_at "ev"
theorem b7 (N c st SC n NS q P : D) (PS : List D) (v9 v10 v11 v12 : Option D) : (sSet 9 (mOf (mOp1L dSeq (mVar 7)))) [some N, some c, some st, some SC, some n, some NS, some q, some (.lst PS), some P, v9, v10, v11, v12] = some (.nx [some N, some c, some st, some SC, some n, some NS, some q, some (.lst PS), some P, some (.lst PS), v10, v11, v12]) := by
  walk_at "ev"
theorem c0 (N c st SC n NS q P : D) (PS H : D) (v11 v12 : Option D) (Y : D) (h : f__law_parted [NS, PS, P] = some Y) (dss : List (List D)) :
    (fdSet 10 11 (mCall f__law_parted (mCons (mVar 5) (mCons (mVar 7) (mCons (mVar 8) mNil))))) [some N, some c, some st, some SC, some n, some NS, some q, some PS, some P, some H, none, v11, v12] dss = some ([some N, some c, some st, some SC, some n, some NS, some q, some PS, some P, some H, none, some Y, v12], dss) := by
  have e : (mCall f__law_parted (mCons (mVar 5) (mCons (mVar 7) (mCons (mVar 8) mNil)))) [some N, some c, some st, some SC, some n, some NS, some q, some PS, some P, some H, none, v11, v12] = some (Y, [some N, some c, some st, some SC, some n, some NS, some q, some PS, some P, some H, none, v11, v12]) := by
    walk_at "ev"
  unfold fdSet
  rw [e]
  rfl
theorem c1t (N c st SC n NS q P : D) (PS Y : List D) (v12 : Option D) (h1 : eqD (.lst Y) (.lst Y) = some true) (h2 : eqD (.lst PS) (.lst PS) = some true) :
    (mOr (mNot (mTest (mOp1 (dIsi (isTab "list")) (mVar 10)))) (mOr (mTest (mOp2 dNe (mVar 10) (mVar 11))) (mTest (mOp2 dNe (mVar 9) (mVar 7))))) [some N, some c, some st, some SC, some n, some NS, some q, some (.lst PS), some P, some (.lst PS), some (.lst Y), some (.lst Y), v12] = some (false, [some N, some c, some st, some SC, some n, some NS, some q, some (.lst PS), some P, some (.lst PS), some (.lst Y), some (.lst Y), v12]) := by
  walk_at "ev"
theorem c3t (N c st SC n NS q P PS H : D) (Y X : List D) (v12 : Option D) (ly : Y.length ≤ sizeLine) (h1 : eqD (.lst X) (.lst X) = some true) (FE : Rho → Option (D × Rho))
    (cm : compRun 1 [] none (gSet 0) (mRet true) FE Y [some N, some c, some st, some SC, some n, some NS, some q, some PS, some P, some H, some (.lst X), some (.lst Y), v12] = some (X, [some N, some c, some st, some SC, some n, some NS, some q, some PS, some P, some H, some (.lst X), some (.lst Y), v12])) :
    (mTest (mOp2 dNe (mVar 10) (mOf (mComp 1 [] none (mSeq (mVar 11)) (gSet 0) (mRet true) FE)))) [some N, some c, some st, some SC, some n, some NS, some q, some PS, some P, some H, some (.lst X), some (.lst Y), v12] = some (false, [some N, some c, some st, some SC, some n, some NS, some q, some PS, some P, some H, some (.lst X), some (.lst Y), v12]) := by
  walk_at "ev"
theorem c3c (ρ : Rho) (bs : List (List Int)) (hb : ∀ b ∈ bs, b.length ≤ 2000) : compRun 1 [] none (gSet 0) (mRet true) (mOp2 dAdd (mVar 0) (mOf (mLst (mCons (mRet (.int 1)) mNil)))) ((bs.map fun b : List Int => b.map D.int).map D.lst) ρ = some (((bs.map fun b : List Int => b ++ [1]).map fun b : List Int => b.map D.int).map D.lst, ρ) := by
  have cm := cm_map (n := 1) (js := []) (fg := gSet 0) (fe := mOp2 dAdd (mVar 0) (mOf (mLst (mCons (mRet (.int 1)) mNil)))) (ρ := ρ) (fun d => match d with | .lst b => .lst (b ++ [.int 1]) | d => d) ((bs.map fun b : List Int => b.map D.int).map D.lst) (fun x hx => by
    obtain ⟨c, hc, rfl⟩ := List.mem_map.mp hx
    obtain ⟨b, hb', rfl⟩ := List.mem_map.mp hc
    refine ⟨[some (.lst (b.map D.int))], rfl, ?_⟩
    have l1 : (b.map D.int).length + 1 ≤ sizeLine := by rw [List.length_map]; exact line_of (by have := hb b hb'; omega)
    have one : 1 ≤ sizeLine := by decide
    generalize b.map D.int = BL at l1 ⊢
    clear hx hc hb'
    walk_at "ev")
  rw [cm]
  congr 2
  rw [List.map_map, List.map_map, List.map_map, List.map_map]
  refine List.map_congr_left fun b _ => ?_
  show D.lst (b.map D.int ++ [.int 1]) = D.lst ((b ++ [1]).map D.int)
  rw [List.map_append]
  rfl
theorem chunk (N c st SC n q : D) (NS PS : List Int) (p : Option Int) (v10 v11 : Option D) (bs : List (List Int)) (h1 : fD_blocks [SC, n, .lst (PS.map D.int), pD p] = some (bs.map fun b : List Int => b.map D.int)) (h2 : f__law_parted [.lst (NS.map D.int), .lst (PS.map D.int), pD p] = some (.lst ((bs.map fun b : List Int => b.map D.int).map D.lst))) (hb : ∀ b ∈ bs, b.length ≤ 2000) (hl : bs.length ≤ 2000) :
    (sChunk 10 (mCons (mVar 3) (mCons (mVar 4) (mCons (mVar 9) (mCons (mVar 8) mNil)))) fD_blocks
    (fdSeq (fdSet 10 11 (mCall f__law_parted (mCons (mVar 5) (mCons (mVar 7) (mCons (mVar 8) mNil)))))
    (fdSeq (fdIf 10 (mOr (mNot (mTest (mOp1 (dIsi (isTab "list")) (mVar 10)))) (mOr (mTest (mOp2 dNe (mVar 10) (mVar 11))) (mTest (mOp2 dNe (mVar 9) (mVar 7)))))
    fdNo
    fdNil)
    (fdSeq (fdEach 12 (.int 1))
    (fdSeq (fdIf 10 (mTest (mOp2 dNe (mVar 10) (mOf (mComp 1 [] none (mSeq (mVar 11)) (gSet 0)
      (mRet true) (mOp2 dAdd (mVar 0) (mOf (mLst (mCons (mRet (.int 1)) mNil))))))))
    fdNo
    fdNil)
    (fdGrow 10 (mCons (mRet (.int 0)) mNil))))))) [some N, some c, some st, some SC, some n, some (.lst (NS.map D.int)), some q, some (.lst (PS.map D.int)), some (pD p), some (.lst (PS.map D.int)), v10, v11, none] = some (.nx [some N, some c, some st, some SC, some n, some (.lst (NS.map D.int)), some q, some (.lst (PS.map D.int)), some (pD p), some (.lst (PS.map D.int)), none, some (.lst ((bs.map fun b : List Int => b.map D.int).map D.lst)), none]) := by
  have ef : (mCons (mVar 3) (mCons (mVar 4) (mCons (mVar 9) (mCons (mVar 8) mNil)))) [some N, some c, some st, some SC, some n, some (.lst (NS.map D.int)), some q, some (.lst (PS.map D.int)), some (pD p), some (.lst (PS.map D.int)), v10, v11, none] = some ([SC, n, .lst (PS.map D.int), pD p], [some N, some c, some st, some SC, some n, some (.lst (NS.map D.int)), some q, some (.lst (PS.map D.int)), some (pD p), some (.lst (PS.map D.int)), v10, v11, none]) := by
    generalize NS.map D.int = A
    generalize PS.map D.int = PB
    generalize pD p = P
    clear h1 h2
    walk_at "ev"
  have line : 2001 ≤ sizeLine := line_of (by decide)
  have all1 : ((bs.map fun b : List Int => b.map D.int).all fun ds => decide (ds.length < sizeLine)) = true := by
    rw [List.all_eq_true]
    intro d hd
    obtain ⟨b, hb', rfl⟩ := List.mem_map.mp hd
    have := hb b hb'
    exact decide_eq_true (by rw [List.length_map]; omega)
  have em : ((bs.map fun b : List Int => b.map D.int).map fun x : List D => x ++ [D.int 1]) = (bs.map fun b : List Int => b ++ [1]).map fun b : List Int => b.map D.int := by
    rw [List.map_map, List.map_map]
    refine List.map_congr_left fun b _ => ?_
    show b.map D.int ++ [.int 1] = (b ++ [1]).map D.int
    rw [List.map_append]
    rfl
  have eg : (fdSeq (fdSet 10 11 (mCall f__law_parted (mCons (mVar 5) (mCons (mVar 7) (mCons (mVar 8) mNil)))))
    (fdSeq (fdIf 10 (mOr (mNot (mTest (mOp1 (dIsi (isTab "list")) (mVar 10)))) (mOr (mTest (mOp2 dNe (mVar 10) (mVar 11))) (mTest (mOp2 dNe (mVar 9) (mVar 7)))))
    fdNo
    fdNil)
    (fdSeq (fdEach 12 (.int 1))
    (fdSeq (fdIf 10 (mTest (mOp2 dNe (mVar 10) (mOf (mComp 1 [] none (mSeq (mVar 11)) (gSet 0)
      (mRet true) (mOp2 dAdd (mVar 0) (mOf (mLst (mCons (mRet (.int 1)) mNil))))))))
    fdNo
    fdNil)
    (fdGrow 10 (mCons (mRet (.int 0)) mNil)))))) [some N, some c, some st, some SC, some n, some (.lst (NS.map D.int)), some q, some (.lst (PS.map D.int)), some (pD p), some (.lst (PS.map D.int)), none, v11, none] (bs.map fun b : List Int => b.map D.int)
      = some ([some N, some c, some st, some SC, some n, some (.lst (NS.map D.int)), some q, some (.lst (PS.map D.int)), some (pD p), some (.lst (PS.map D.int)), none, some (.lst ((bs.map fun b : List Int => b.map D.int).map D.lst)), none], ((bs.map fun b : List Int => b ++ [1]).map fun b : List Int => b.map D.int) ++ [[.int 0]]) := by
    refine (fd_seq (c0 _ _ _ _ _ _ _ _ _ _ _ _ _ h2 _)).trans ?_
    refine (fd_seq (fd_f (c1t _ _ _ _ _ _ _ _ _ _ _ (eqD_deep bs) (eqD_self (DOk.ints PS) (by decide))))).trans ?_
    have e2 : (fdEach 12 (.int 1)) [some N, some c, some st, some SC, some n, some (.lst (NS.map D.int)), some q, some (.lst (PS.map D.int)), some (pD p), some (.lst (PS.map D.int)), none, some (.lst ((bs.map fun b : List Int => b.map D.int).map D.lst)), none] (bs.map fun b : List Int => b.map D.int) = some ([some N, some c, some st, some SC, some n, some (.lst (NS.map D.int)), some q, some (.lst (PS.map D.int)), some (pD p), some (.lst (PS.map D.int)), none, some (.lst ((bs.map fun b : List Int => b.map D.int).map D.lst)), none], (bs.map fun b : List Int => b ++ [1]).map fun b : List Int => b.map D.int) := by
      unfold fdEach
      rw [if_pos ⟨rfl, all1⟩, em]
    refine (fd_seq e2).trans ?_
    refine (fd_seq (fd_f (c3t _ _ _ _ _ _ _ _ _ _ _ _ _ (by rw [List.length_map, List.length_map]; omega) (eqD_deep _) _ (c3c _ bs hb)))).trans ?_
    refine fd_grow ?_ rfl (show 1 ≤ sizeLine by decide) (by rw [List.length_map, List.length_map]; omega)
    rfl
  unfold sChunk
  rw [ef]
  show (if 10 < 13 then _ else none) = _
  rw [if_pos (by decide), h1]
  show (match (fdSeq (fdSet 10 11 (mCall f__law_parted (mCons (mVar 5) (mCons (mVar 7) (mCons (mVar 8) mNil)))))
    (fdSeq (fdIf 10 (mOr (mNot (mTest (mOp1 (dIsi (isTab "list")) (mVar 10)))) (mOr (mTest (mOp2 dNe (mVar 10) (mVar 11))) (mTest (mOp2 dNe (mVar 9) (mVar 7)))))
    fdNo
    fdNil)
    (fdSeq (fdEach 12 (.int 1))
    (fdSeq (fdIf 10 (mTest (mOp2 dNe (mVar 10) (mOf (mComp 1 [] none (mSeq (mVar 11)) (gSet 0)
      (mRet true) (mOp2 dAdd (mVar 0) (mOf (mLst (mCons (mRet (.int 1)) mNil))))))))
    fdNo
    fdNil)
    (fdGrow 10 (mCons (mRet (.int 0)) mNil)))))) [some N, some c, some st, some SC, some n, some (.lst (NS.map D.int)), some q, some (.lst (PS.map D.int)), some (pD p), some (.lst (PS.map D.int)), none, v11, none] (bs.map fun b : List Int => b.map D.int) with
      | some p => some (Out.nx p.1)
      | none => none) = _
  rw [eg]
theorem b9 (N c st SC n NS q P : D) (PS : List D) (Y : List D) (v12 : Option D) (h1 : f_blocks [SC, n, .lst PS, P] = some (.lst Y)) (h2 : eqD (.lst Y) (.lst Y) = some true) (h3 : eqD (.lst PS) (.lst PS) = some true) :
    (sIf (mOr (mTest (mOp2 dNe (mCall f_blocks (mCons (mVar 3) (mCons (mVar 4) (mCons (mVar 9) (mCons (mVar 8) mNil))))) (mVar 11))) (mTest (mOp2 dNe (mVar 9) (mVar 7))))
    (sRet (mRet (.bl false)))
    sNil) [some N, some c, some st, some SC, some n, some NS, some q, some (.lst PS), some P, some (.lst PS), none, some (.lst Y), v12] = some (.nx [some N, some c, some st, some SC, some n, some NS, some q, some (.lst PS), some P, some (.lst PS), none, some (.lst Y), v12]) := by
  walk_at "ev"
theorem b10n (N c st TS RS n NS q P PS H Y : D) (r : Int) (e : Str) (v12 : Option D) (h : eqD (.str e) (.str "ring") = some false) :
    (sIf (mAnd (mTest (mOp2 dEq (mOp2 dIx (mVar 3) (mRet (.int 3))) (mRet (.str "ring")))) (mTest (mOp2 dGt (mOp2 dIx (mVar 3) (mRet (.int 0))) (mRet (.int 0)))))
    (sIf (mNot (mTest (mCall f__law_refused (mCons (mVar 3) (mCons (mCallS f__law_next 2 (mCons (mOp2 dIx (mVar 3) (mRet (.int 0))) mNil)) (mCons (mVar 8) mNil))))))
    (sRet (mRet (.bl false)))
    sNil)
    sNil) [some N, some c, some st, some (.tup [.int r, TS, RS, .str e]), some n, some NS, some q, some PS, some P, some H, none, some Y, v12] = some (.nx [some N, some c, some st, some (.tup [.int r, TS, RS, .str e]), some n, some NS, some q, some PS, some P, some H, none, some Y, v12]) := by
  walk_at "ev"
theorem b10z (N c st TS RS n NS q P PS H Y : D) (r : Int) (e : Str) (v12 : Option D) (h : eqD (.str e) (.str "ring") = some true) (h0 : ¬ 0 < r) :
    (sIf (mAnd (mTest (mOp2 dEq (mOp2 dIx (mVar 3) (mRet (.int 3))) (mRet (.str "ring")))) (mTest (mOp2 dGt (mOp2 dIx (mVar 3) (mRet (.int 0))) (mRet (.int 0)))))
    (sIf (mNot (mTest (mCall f__law_refused (mCons (mVar 3) (mCons (mCallS f__law_next 2 (mCons (mOp2 dIx (mVar 3) (mRet (.int 0))) mNil)) (mCons (mVar 8) mNil))))))
    (sRet (mRet (.bl false)))
    sNil)
    sNil) [some N, some c, some st, some (.tup [.int r, TS, RS, .str e]), some n, some NS, some q, some PS, some P, some H, none, some Y, v12] = some (.nx [some N, some c, some st, some (.tup [.int r, TS, RS, .str e]), some n, some NS, some q, some PS, some P, some H, none, some Y, v12]) := by
  walk_at "ev"
theorem b10r (N c TS RS n NS q P PS H Y : D) (r s s' d : Int) (e : Str) (v12 : Option D) (h : eqD (.str e) (.str "ring") = some true) (h0 : 0 < r) (h1 : f__law_next [.int s] [.int r] = some (.int d, [.int s'])) (h2 : f__law_refused [.tup [.int r, TS, RS, .str e], .int d, P] = some (.bl true)) :
    (sIf (mAnd (mTest (mOp2 dEq (mOp2 dIx (mVar 3) (mRet (.int 3))) (mRet (.str "ring")))) (mTest (mOp2 dGt (mOp2 dIx (mVar 3) (mRet (.int 0))) (mRet (.int 0)))))
    (sIf (mNot (mTest (mCall f__law_refused (mCons (mVar 3) (mCons (mCallS f__law_next 2 (mCons (mOp2 dIx (mVar 3) (mRet (.int 0))) mNil)) (mCons (mVar 8) mNil))))))
    (sRet (mRet (.bl false)))
    sNil)
    sNil) [some N, some c, some (.lst [.int s]), some (.tup [.int r, TS, RS, .str e]), some n, some NS, some q, some PS, some P, some H, none, some Y, v12] = some (.nx [some N, some c, some (.lst [.int s']), some (.tup [.int r, TS, RS, .str e]), some n, some NS, some q, some PS, some P, some H, none, some Y, v12]) := by
  walk_at "ev"
theorem good_bs {PS : List Int} {n : Nat} {a : Option Acc} (g : Good PS n a) : (∀ b ∈ accI a, b.length ≤ n + 1) ∧ (accI a).length ≤ n + 1 := by
  cases a with
  | none => exact ⟨fun _ h => (nomatch h), Nat.zero_le _⟩
  | some a =>
    obtain ⟨_, h2, h3, h4⟩ := g
    refine ⟨fun b hb => ?_, ?_⟩
    · rcases List.mem_append.mp hb with hb | hb
      · exact Nat.le_succ_of_le (h4 b hb)
      · rw [List.mem_singleton.mp hb, List.length_append]
        exact Nat.add_le_add_right h3 1
    · show (a.pre ++ [a.blk ++ [a.y]]).length ≤ _
      rw [List.length_append]
      exact Nat.add_le_add_right h2 1
theorem turn (N : D) (c : Int) (v2 v3 v4 v5 v6 v7 v8 v9 v10 v11 : Option D) : ∃ w2 w3 w4 w5 w6 w7 w8 w9 w10 w11, (sSeq (sOwn 2 (mLst (mCons (mOp2 dAdd (mOp2 dMulG (mOp2 dMod (mVar 1) (mOp2 dPow (mRet (.int 10)) (mRet (.int 30)))) (mRet (.int 7368787))) (mRet (.int 1000003))) mNil)))
  (sSeq (sSet 3 (mCallS f__law_scheme 2 (mCons (mRet (.int 4)) (mCons (mOp2 dIx (mOf (mLst (mCons (mRet (.str "open")) (mCons (mRet (.str "ended")) (mCons (mRet (.str "ring")) mNil))))) (mCallS f__law_next 2 (mCons (mRet (.int 3)) mNil))) mNil))))
  (sSeq (sSet 4 (mOp2 dAdd (mOp2 dIx (mVar 3) (mRet (.int 0))) (mCallS f__law_next 2 (mCons (mOp2 dSub (mRet (.int 31)) (mOp2 dIx (mVar 3) (mRet (.int 0)))) mNil))))
  (sSeq (sSet 5 (mOf (mCallL f__law_steps (mCons (mVar 3) (mCons (mVar 4) mNil)))))
  (sSeq (sSet 6 (mOp2 dIx (mOf (mLst (mCons (mRet (.int 1)) (mCons (mRet (.int 2)) (mCons (mRet (.int 5)) (mCons (mRet (.int 12)) mNil)))))) (mCallS f__law_next 2 (mCons (mRet (.int 4)) mNil))))
  (sSeq (sSet 7 (mOf (mComp 1 [2, 6] (some (2, 1)) (mRng1 (mCons (mOp1 dLen (mVar 5)) mNil)) (gSet 0)
      (mTest (mOp2 dEq (mCallS f__law_next 1 (mCons (mVar 2) mNil)) (mRet (.int 0)))) (mVar 0))))
  (sSeq (sSet 8 (mOp2 dIx (mOf (mLst (mCons (mRet .non) (mCons (mRet (.int 0)) (mCons (mRet (.int 1)) (mCons (mCallS f__law_next 2 (mCons (mRet (.int 13)) mNil)) mNil)))))) (mCallS f__law_next 2 (mCons (mRet (.int 4)) mNil))))
  (sSeq (sSet 9 (mOf (mOp1L dSeq (mVar 7))))
  (sSeq (sChunk 10 (mCons (mVar 3) (mCons (mVar 4) (mCons (mVar 9) (mCons (mVar 8) mNil)))) fD_blocks
    (fdSeq (fdSet 10 11 (mCall f__law_parted (mCons (mVar 5) (mCons (mVar 7) (mCons (mVar 8) mNil)))))
    (fdSeq (fdIf 10 (mOr (mNot (mTest (mOp1 (dIsi (isTab "list")) (mVar 10)))) (mOr (mTest (mOp2 dNe (mVar 10) (mVar 11))) (mTest (mOp2 dNe (mVar 9) (mVar 7)))))
    fdNo
    fdNil)
    (fdSeq (fdEach 12 (.int 1))
    (fdSeq (fdIf 10 (mTest (mOp2 dNe (mVar 10) (mOf (mComp 1 [] none (mSeq (mVar 11)) (gSet 0)
      (mRet true) (mOp2 dAdd (mVar 0) (mOf (mLst (mCons (mRet (.int 1)) mNil))))))))
    fdNo
    fdNil)
    (fdGrow 10 (mCons (mRet (.int 0)) mNil)))))))
  (sSeq (sIf (mOr (mTest (mOp2 dNe (mCall f_blocks (mCons (mVar 3) (mCons (mVar 4) (mCons (mVar 9) (mCons (mVar 8) mNil))))) (mVar 11))) (mTest (mOp2 dNe (mVar 9) (mVar 7))))
    (sRet (mRet (.bl false)))
    sNil)
  (sIf (mAnd (mTest (mOp2 dEq (mOp2 dIx (mVar 3) (mRet (.int 3))) (mRet (.str "ring")))) (mTest (mOp2 dGt (mOp2 dIx (mVar 3) (mRet (.int 0))) (mRet (.int 0)))))
    (sIf (mNot (mTest (mCall f__law_refused (mCons (mVar 3) (mCons (mCallS f__law_next 2 (mCons (mOp2 dIx (mVar 3) (mRet (.int 0))) mNil)) (mCons (mVar 8) mNil))))))
    (sRet (mRet (.bl false)))
    sNil)
    sNil))))))))))) [some N, some (.int c), v2, v3, v4, v5, v6, v7, v8, v9, v10, v11, none] = some (.nx [some N, some (.int c), w2, w3, w4, w5, w6, w7, w8, w9, w10, w11, none]) := by
  obtain ⟨s, a0⟩ := b0 N c v2 v3 v4 v5 v6 v7 v8 v9 v10 v11 none
  have d0 := dr_lo s (m := 3) (by decide)
  have d3 := dr_hi s (m := 3) (by decide)
  obtain ⟨e, he, hen⟩ : ∃ e : Str, atI [D.str "open", D.str "ended", D.str "ring"] (dr s 3) = some (.str e) ∧ (e = "open" ∨ e = "ended" ∨ e = "ring") := by
    rcases (by omega : dr s 3 = 0 ∨ dr s 3 = 1 ∨ dr s 3 = 2) with q | q | q
    · rw [q]; exact ⟨_, rfl, .inl rfl⟩
    · rw [q]; exact ⟨_, rfl, .inr (.inl rfl)⟩
    · rw [q]; exact ⟨_, rfl, .inr (.inr rfl)⟩
  obtain ⟨r, taps, rows, s1, hs, ok, r3⟩ := v_lawscheme (nx s) e hen
  have a1 := b1 N c s s1 _ e _ v3 v4 v5 v6 v7 v8 v9 v10 v11 none (v_next s 3 (by decide)) he hs
  have r0 := ok.r0
  have a2 := b2 N c s1 (nx s1) (dr s1 (31 - r)) r (.tup (taps.map D.int)) (.tup (rows.map rowD)) (.str e) v4 v5 v6 v7 v8 v9 v10 v11 none (v_next s1 (31 - r) (by omega))
  have n0 := dr_lo s1 (m := 31 - r) (by omega)
  have n1 := dr_hi s1 (m := 31 - r) (by omega)
  obtain ⟨n, en⟩ : ∃ n : Nat, (n : Int) = r + dr s1 (31 - r) := ⟨(r + dr s1 (31 - r)).toNat, by omega⟩
  rw [← en] at a2
  have hn : n ≤ 60 := by omega
  have hr : e = "ring" → r.toNat ≤ n := fun _ => by omega
  have a3 := b3 N (.int c) (.lst [.int (nx s1)]) (schD r taps rows e) (.int (n : Int)) _ v5 v6 v7 v8 v9 v10 v11 none (v_steps ok n hn)
  have z4 := zeros_le ok
  have hlen : (placesR taps rows (n + zerosR r e)).length ≤ 1000 := by have := pl_len ok (n + zerosR r e); omega
  have hpl := p_places ok n hn hr
  generalize placesR taps rows (n + zerosR r e) = NS at a3 hlen hpl
  have q0 := dr_lo (nx s1) (m := 4) (by decide)
  have q4 := dr_hi (nx s1) (m := 4) (by decide)
  obtain ⟨q, hq, qp⟩ : ∃ q : Int, atI [D.int 1, D.int 2, D.int 5, D.int 12] (dr (nx s1) 4) = some (.int q) ∧ 0 < q := by
    rcases (by omega : dr (nx s1) 4 = 0 ∨ dr (nx s1) 4 = 1 ∨ dr (nx s1) 4 = 2 ∨ dr (nx s1) 4 = 3) with z | z | z | z <;> (rw [z]; exact ⟨_, rfl, by decide⟩)
  have a4 := b4 N (.int c) (schD r taps rows e) (.int (n : Int)) (.lst (NS.map D.int)) (nx s1) _ _ q v6 v7 v8 v9 v10 v11 none (v_next (nx s1) 4 (by decide)) hq
  obtain ⟨PS, s2, a5, pl, pn⟩ := b5 N (.int c) (schD r taps rows e) (.int (n : Int)) NS (nx (nx s1)) q v7 v8 v9 v10 v11 none qp hlen
  have k0 := dr_lo s2 (m := 13) (by decide)
  have u0 := dr_lo (nx s2) (m := 4) (by decide)
  have u4 := dr_hi (nx s2) (m := 4) (by decide)
  obtain ⟨p, hp, pok⟩ : ∃ p : Option Int, atI [D.non, D.int 0, D.int 1, D.int (dr s2 13)] (dr (nx s2) 4) = some (pD p) ∧ PauseOk p := by
    rcases (by omega : dr (nx s2) 4 = 0 ∨ dr (nx s2) 4 = 1 ∨ dr (nx s2) 4 = 2 ∨ dr (nx s2) 4 = 3) with z | z | z | z
    · rw [z]; exact ⟨none, rfl, fun _ h => nomatch h⟩
    · rw [z]; exact ⟨some 0, rfl, fun k h => by cases h; decide⟩
    · rw [z]; exact ⟨some 1, rfl, fun k h => by cases h; decide⟩
    · rw [z]; exact ⟨some (dr s2 13), rfl, fun k h => by cases h; exact k0⟩
  have a6 := b6 N (.int c) (schD r taps rows e) (.int (n : Int)) (.lst (NS.map D.int)) (.int q) (.lst (PS.map D.int)) s2 _ _ _ _ (pD p) v8 v9 v10 v11 none (v_next s2 13 (by decide)) (v_next (nx s2) 4 (by decide)) hp
  have a7 := b7 N (.int c) (.lst [.int (nx (nx s2))]) (schD r taps rows e) (.int (n : Int)) (.lst (NS.map D.int)) (.int q) (pD p) (PS.map D.int) v9 v10 v11 none
  have hb := v_blocks (schD r taps rows e) (.int (n : Int)) NS PS p pok pl pn hpl
  have hd := v_parted NS PS p pok pl pn
  have g := good_bs (good_fold (PS := PS) (near := nearA NS p) PS 0 none trivial fun _ h => h)
  generalize hA : foldA (nearA NS p) none PS = A at hb hd g
  have hd' : f__law_parted [.lst (NS.map D.int), .lst (PS.map D.int), pD p] = some (.lst ((accD A).map D.lst)) := by
    show dDeep (fD__law_parted _) = _
    rw [hd]
    rfl
  have hb' : f_blocks [schD r taps rows e, .int (n : Int), .lst (PS.map D.int), pD p] = some (.lst ((accD A).map D.lst)) := by
    show dDeep (fD_blocks _) = _
    rw [hb]
    rfl
  have a8 := chunk N (.int c) (.lst [.int (nx (nx s2))]) (schD r taps rows e) (.int (n : Int)) (.int q) NS PS p v10 v11 (accI A) hb hd' (fun b h => by have := g.1 b h; omega) (by have := g.2; omega)
  have a9 := b9 N (.int c) (.lst [.int (nx (nx s2))]) (schD r taps rows e) (.int (n : Int)) (.lst (NS.map D.int)) (.int q) (pD p) (PS.map D.int) ((accD A).map D.lst) none hb' (eqD_deep _) (eqD_self (DOk.ints PS) (by decide))
  have a10 : ∃ st, (sIf (mAnd (mTest (mOp2 dEq (mOp2 dIx (mVar 3) (mRet (.int 3))) (mRet (.str "ring")))) (mTest (mOp2 dGt (mOp2 dIx (mVar 3) (mRet (.int 0))) (mRet (.int 0)))))
    (sIf (mNot (mTest (mCall f__law_refused (mCons (mVar 3) (mCons (mCallS f__law_next 2 (mCons (mOp2 dIx (mVar 3) (mRet (.int 0))) mNil)) (mCons (mVar 8) mNil))))))
    (sRet (mRet (.bl false)))
    sNil)
    sNil) [some N, some (.int c), some (.lst [.int (nx (nx s2))]), some (schD r taps rows e), some (.int (n : Int)), some (.lst (NS.map D.int)), some (.int q), some (.lst (PS.map D.int)), some (pD p), some (.lst (PS.map D.int)), none, some (.lst ((accD A).map D.lst)), none]
      = some (.nx [some N, some (.int c), some st, some (schD r taps rows e), some (.int (n : Int)), some (.lst (NS.map D.int)), some (.int q), some (.lst (PS.map D.int)), some (pD p), some (.lst (PS.map D.int)), none, some (.lst ((accD A).map D.lst)), none]) := by
    rcases hen with rfl | rfl | rfl
    · exact ⟨_, b10n _ _ _ _ _ _ _ _ _ _ _ _ _ _ _ s_or⟩
    · exact ⟨_, b10n _ _ _ _ _ _ _ _ _ _ _ _ _ _ _ s_er⟩
    · by_cases rp : 0 < r
      · have m0 := dr_lo (nx (nx s2)) rp
        have m1 := dr_hi (nx (nx s2)) rp
        obtain ⟨m, em⟩ : ∃ m : Nat, (m : Int) = dr (nx (nx s2)) r := ⟨(dr (nx (nx s2)) r).toNat, by omega⟩
        have hx := x_places ok m (by omega)
        have hnx := v_next (nx (nx s2)) r rp
        rw [← em] at hnx
        exact ⟨_, b10r _ _ _ _ _ _ _ _ _ _ _ _ _ _ _ _ _ s_rr rp hnx (v_ref _ _ _ (x_blk _ _ _ hx))⟩
      · exact ⟨_, b10z _ _ _ _ _ _ _ _ _ _ _ _ _ _ _ s_rr rp⟩
  obtain ⟨st, a10⟩ := a10
  refine ⟨some st, some (schD r taps rows e), some (.int (n : Int)), some (.lst (NS.map D.int)), some (.int q), some (.lst (PS.map D.int)), some (pD p), some (.lst (PS.map D.int)), none, some (.lst ((accD A).map D.lst)), ?_⟩
  exact (seq_nx a0).trans <| (seq_nx a1).trans <| (seq_nx a2).trans <| (seq_nx a3).trans <| (seq_nx a4).trans <| (seq_nx a5).trans <| (seq_nx a6).trans <| (seq_nx a7).trans <| (seq_nx a8).trans <| (seq_nx a9).trans a10
theorem cells (xs : List D) (FB : Rho → Option Out) (ρ' : Rho) (h : forRun (gSet 1) FB (xs.take 16) [some (.lst xs), none, none, none, none, none, none, none, none, none, none, none, none] = some (.nx ρ')) :
    (sFor (mSeq (mSl (mVar 0) (mRet none) (mPart (mRet (.int 16))))) (gSet 1) FB) [some (.lst xs), none, none, none, none, none, none, none, none, none, none, none, none] = some (.nx ρ') := by
  walk_at "ev"
theorem run_of {b : Rho → Option Out} {n k : Nat} {ds : List D} {d : D} (hl : ds.length = n) (h : ∃ ρ, b (ds.map some ++ List.replicate (k - n) none) = some (.rt d ρ)) : runP false n k b ds = some d := by
  obtain ⟨ρ, h⟩ := h
  unfold runP
  rw [if_pos hl, h]
theorem law_true (ns : List Int) (h : ns.length ≤ 63) : f_law [.lst (ns.map D.int)] = some (.bl true) := by
  obtain ⟨ρ', h1, v1, v2, v3, v4, v5, v6, v7, v8, v9, v10, v11, rfl⟩ := for_all (fg := gSet 1) (fb := (sSeq (sOwn 2 (mLst (mCons (mOp2 dAdd (mOp2 dMulG (mOp2 dMod (mVar 1) (mOp2 dPow (mRet (.int 10)) (mRet (.int 30)))) (mRet (.int 7368787))) (mRet (.int 1000003))) mNil)))
  (sSeq (sSet 3 (mCallS f__law_scheme 2 (mCons (mRet (.int 4)) (mCons (mOp2 dIx (mOf (mLst (mCons (mRet (.str "open")) (mCons (mRet (.str "ended")) (mCons (mRet (.str "ring")) mNil))))) (mCallS f__law_next 2 (mCons (mRet (.int 3)) mNil))) mNil))))
  (sSeq (sSet 4 (mOp2 dAdd (mOp2 dIx (mVar 3) (mRet (.int 0))) (mCallS f__law_next 2 (mCons (mOp2 dSub (mRet (.int 31)) (mOp2 dIx (mVar 3) (mRet (.int 0)))) mNil))))
  (sSeq (sSet 5 (mOf (mCallL f__law_steps (mCons (mVar 3) (mCons (mVar 4) mNil)))))
  (sSeq (sSet 6 (mOp2 dIx (mOf (mLst (mCons (mRet (.int 1)) (mCons (mRet (.int 2)) (mCons (mRet (.int 5)) (mCons (mRet (.int 12)) mNil)))))) (mCallS f__law_next 2 (mCons (mRet (.int 4)) mNil))))
  (sSeq (sSet 7 (mOf (mComp 1 [2, 6] (some (2, 1)) (mRng1 (mCons (mOp1 dLen (mVar 5)) mNil)) (gSet 0)
      (mTest (mOp2 dEq (mCallS f__law_next 1 (mCons (mVar 2) mNil)) (mRet (.int 0)))) (mVar 0))))
  (sSeq (sSet 8 (mOp2 dIx (mOf (mLst (mCons (mRet .non) (mCons (mRet (.int 0)) (mCons (mRet (.int 1)) (mCons (mCallS f__law_next 2 (mCons (mRet (.int 13)) mNil)) mNil)))))) (mCallS f__law_next 2 (mCons (mRet (.int 4)) mNil))))
  (sSeq (sSet 9 (mOf (mOp1L dSeq (mVar 7))))
  (sSeq (sChunk 10 (mCons (mVar 3) (mCons (mVar 4) (mCons (mVar 9) (mCons (mVar 8) mNil)))) fD_blocks
    (fdSeq (fdSet 10 11 (mCall f__law_parted (mCons (mVar 5) (mCons (mVar 7) (mCons (mVar 8) mNil)))))
    (fdSeq (fdIf 10 (mOr (mNot (mTest (mOp1 (dIsi (isTab "list")) (mVar 10)))) (mOr (mTest (mOp2 dNe (mVar 10) (mVar 11))) (mTest (mOp2 dNe (mVar 9) (mVar 7)))))
    fdNo
    fdNil)
    (fdSeq (fdEach 12 (.int 1))
    (fdSeq (fdIf 10 (mTest (mOp2 dNe (mVar 10) (mOf (mComp 1 [] none (mSeq (mVar 11)) (gSet 0)
      (mRet true) (mOp2 dAdd (mVar 0) (mOf (mLst (mCons (mRet (.int 1)) mNil))))))))
    fdNo
    fdNil)
    (fdGrow 10 (mCons (mRet (.int 0)) mNil)))))))
  (sSeq (sIf (mOr (mTest (mOp2 dNe (mCall f_blocks (mCons (mVar 3) (mCons (mVar 4) (mCons (mVar 9) (mCons (mVar 8) mNil))))) (mVar 11))) (mTest (mOp2 dNe (mVar 9) (mVar 7))))
    (sRet (mRet (.bl false)))
    sNil)
  (sIf (mAnd (mTest (mOp2 dEq (mOp2 dIx (mVar 3) (mRet (.int 3))) (mRet (.str "ring")))) (mTest (mOp2 dGt (mOp2 dIx (mVar 3) (mRet (.int 0))) (mRet (.int 0)))))
    (sIf (mNot (mTest (mCall f__law_refused (mCons (mVar 3) (mCons (mCallS f__law_next 2 (mCons (mOp2 dIx (mVar 3) (mRet (.int 0))) mNil)) (mCons (mVar 8) mNil))))))
    (sRet (mRet (.bl false)))
    sNil)
    sNil))))))))))))
    (fun ρ => ∃ v1 v2 v3 v4 v5 v6 v7 v8 v9 v10 v11, ρ = [some (.lst (ns.map D.int)), v1, v2, v3, v4, v5, v6, v7, v8, v9, v10, v11, none]) ((ns.map D.int).take 16) [some (.lst (ns.map D.int)), none, none, none, none, none, none, none, none, none, none, none, none] ⟨_, _, _, _, _, _, _, _, _, _, _, rfl⟩ (by
      rintro x ρ hx ⟨v1, v2, v3, v4, v5, v6, v7, v8, v9, v10, v11, rfl⟩
      obtain ⟨c, _, rfl⟩ := List.mem_map.mp (List.mem_of_mem_take hx)
      obtain ⟨w2, w3, w4, w5, w6, w7, w8, w9, w10, w11, ht⟩ := turn (.lst (ns.map D.int)) c v2 v3 v4 v5 v6 v7 v8 v9 v10 v11
      exact ⟨_, _, rfl, .inl ht, _, _, _, _, _, _, _, _, _, _, _, rfl⟩)
  exact run_of rfl ⟨_, (seq_nx (cells (ns.map D.int) _ _ h1)).trans rfl⟩
end K41
set_option Elab.async false
set_option linter.all false
set_option maxRecDepth 100000
set_option maxHeartbeats 4000000
namespace K41
open PySem L2
theorem law_ok {P : Program} {w : World} {K mg a base} (T : Txt K mg a) : FnOk P w K mg base CX0 7 a.f_law a.fd_law ["_law_script"] (spLaw K 63) := law_of (ok_law T) law_true
theorem txt_mk {K : PySem.W.Frag} {h : Heap} {mg : Str → Option Value} {fa : Addr} (X : K.In h) (G : h.Ns mainGlobals mg) (hfa : mg "law" = some (.ref fa))
    {c_WayError : Addr} {c_NoWord : Addr} {f_rooms_at : Addr} {od_rooms_at an_rooms_at : Option Addr} {sl_rooms_at : Array (Option Value)} {oc_rooms_at kV_rooms_at dc_rooms_at pm_rooms_at cd_rooms_at ct_rooms_at : Value} {f_rooms : Addr} {od_rooms an_rooms : Option Addr} {sl_rooms : Array (Option Value)} {oc_rooms kV_rooms dc_rooms pm_rooms cd_rooms ct_rooms : Value} {f_parity : Addr} {od_parity an_parity : Option Addr} {sl_parity : Array (Option Value)} {oc_parity kV_parity dc_parity pm_parity cd_parity ct_parity : Value} {f_step : Addr} {od_step an_step : Option Addr} {sl_step : Array (Option Value)} {oc_step kV_step dc_step pm_step cd_step ct_step : Value} {f_sent_at : Addr} {od_sent_at an_sent_at : Option Addr} {sl_sent_at : Array (Option Value)} {oc_sent_at kV_sent_at dc_sent_at pm_sent_at cd_sent_at ct_sent_at : Value} {f_is_ring : Addr} {od_is_ring an_is_ring : Option Addr} {sl_is_ring : Array (Option Value)} {oc_is_ring kV_is_ring dc_is_ring pm_is_ring cd_is_ring ct_is_ring : Value} {f_check_size : Addr} {od_check_size an_check_size : Option Addr} {sl_check_size : Array (Option Value)} {oc_check_size kV_check_size dc_check_size pm_check_size cd_check_size ct_check_size : Value} {f_bits_behind : Addr} {od_bits_behind an_bits_behind : Option Addr} {sl_bits_behind : Array (Option Value)} {oc_bits_behind kV_bits_behind dc_bits_behind pm_bits_behind cd_bits_behind ct_bits_behind : Value} {f_steps_of : Addr} {od_steps_of an_steps_of : Option Addr} {sl_steps_of : Array (Option Value)} {oc_steps_of kV_steps_of dc_steps_of pm_steps_of cd_steps_of ct_steps_of : Value} {f_places_of : Addr} {od_places_of an_places_of : Option Addr} {sl_places_of : Array (Option Value)} {oc_places_of kV_places_of dc_places_of pm_places_of cd_places_of ct_places_of : Value} {f_is_parted : Addr} {od_is_parted an_is_parted : Option Addr} {sl_is_parted : Array (Option Value)} {oc_is_parted kV_is_parted dc_is_parted pm_is_parted cd_is_parted ct_is_parted : Value} {f_blocks : Addr} {od_blocks an_blocks : Option Addr} {sl_blocks : Array (Option Value)} {oc_blocks kV_blocks dc_blocks pm_blocks cd_blocks ct_blocks : Value} {f__law_next : Addr} {od__law_next an__law_next : Option Addr} {sl__law_next : Array (Option Value)} {oc__law_next kV__law_next dc__law_next pm__law_next cd__law_next ct__law_next : Value} {f__law_scheme : Addr} {od__law_scheme an__law_scheme : Option Addr} {sl__law_scheme : Array (Option Value)} {oc__law_scheme kV__law_scheme dc__law_scheme pm__law_scheme cd__law_scheme ct__law_scheme : Value} {f__law_steps : Addr} {od__law_steps an__law_steps : Option Addr} {sl__law_steps : Array (Option Value)} {oc__law_steps kV__law_steps dc__law_steps pm__law_steps cd__law_steps ct__law_steps : Value} {f__law_parted : Addr} {od__law_parted an__law_parted : Option Addr} {sl__law_parted : Array (Option Value)} {oc__law_parted kV__law_parted dc__law_parted pm__law_parted cd__law_parted ct__law_parted : Value} {f__law_refused : Addr} {od__law_refused an__law_refused : Option Addr} {sl__law_refused : Array (Option Value)} {oc__law_refused kV__law_refused dc__law_refused pm__law_refused cd__law_refused ct__law_refused : Value} {f_law : Addr} {od_law an_law : Option Addr} {sl_law : Array (Option Value)} {oc_law kV_law dc_law pm_law cd_law ct_law : Value}
    (n_WayError : PySem.W.nsIn K mainGlobals "WayError" = some (some (.ref c_WayError)))
    (ec1_WayError : PySem.W.isClsIn K c_WayError = true)
    (ec2_WayError : PySem.W.typeIn K (.ref c_WayError) = some (.type "type"))
    (ec3_WayError : PySem.W.subIn K (.ref c_WayError) (.ref c_WayError) = some true)
    (ec4_WayError : PySem.W.findIn K (.ref c_WayError) "__getattribute__" = some (some (.builtin "BaseException.__getattribute__")))
    (ed4_WayError : PySem.W.findIn K (.ref c_WayError) "__getattr__" = some none)
    (ee4_WayError : PySem.W.subIn K (.ref c_WayError) (.type "BaseException") = some true)
    (ec5_WayError : PySem.W.findIn K (.ref c_WayError) "__class__" = some (some (.builtin "object.__class__")))
    (ec6_WayError : PySem.W.specialIn K (.builtin "object.__class__") "__get__" = some (some (.builtin "getset_descriptor.__get__")))
    (ec7_WayError : PySem.W.takesIn K (.builtin "object.__class__") = some true)
    (ec8_WayError : PySem.W.mroIn K c_WayError (.type "object") = some true)
    (n_NoWord : PySem.W.nsIn K mainGlobals "NoWord" = some (some (.ref c_NoWord)))
    (ec1_NoWord : PySem.W.isClsIn K c_NoWord = true)
    (ec2_NoWord : PySem.W.typeIn K (.ref c_NoWord) = some (.type "type"))
    (ec3_NoWord : PySem.W.subIn K (.ref c_NoWord) (.ref c_NoWord) = some true)
    (ec4_NoWord : PySem.W.findIn K (.ref c_NoWord) "__getattribute__" = some (some (.builtin "BaseException.__getattribute__")))
    (ed4_NoWord : PySem.W.findIn K (.ref c_NoWord) "__getattr__" = some none)
    (ee4_NoWord : PySem.W.subIn K (.ref c_NoWord) (.type "BaseException") = some true)
    (ec5_NoWord : PySem.W.findIn K (.ref c_NoWord) "__class__" = some (some (.builtin "object.__class__")))
    (ec6_NoWord : PySem.W.specialIn K (.builtin "object.__class__") "__get__" = some (some (.builtin "getset_descriptor.__get__")))
    (ec7_NoWord : PySem.W.takesIn K (.builtin "object.__class__") = some true)
    (ec8_NoWord : PySem.W.mroIn K c_NoWord (.type "object") = some true)
    (ex_NoWord : PySem.W.excIn K c_NoWord [.type "ValueError", .type "Exception", .type "BaseException", .type "object"] "ValueError.__new__" = true)
    (eb_WayError : PySem.W.subIn K (.ref c_WayError) (.type "BaseException") = some true)
    (es_NoWord_WayError : PySem.W.subIn K (.ref c_NoWord) (.ref c_WayError) = some true)
    (a_rooms_at : PySem.W.nsIn K mainGlobals "rooms_at" = some (some (.ref f_rooms_at)))
    (l_rooms_at : K.lookup f_rooms_at = some ⟨oc_rooms_at, od_rooms_at, .func (PySem.W.fnOf "rooms_at" "rooms_at" (defArgs s_rooms_at) (defBody s_rooms_at) (defScope s_rooms_at) .none kV_rooms_at dc_rooms_at pm_rooms_at an_rooms_at cd_rooms_at ct_rooms_at), sl_rooms_at⟩)
    (c_rooms_at : PySem.W.codeIn K cd_rooms_at "rooms_at" = true)
    (k_rooms_at : PySem.W.keepIn K (.ref f_rooms_at) = true)
    (a_rooms : PySem.W.nsIn K mainGlobals "rooms" = some (some (.ref f_rooms)))
    (l_rooms : K.lookup f_rooms = some ⟨oc_rooms, od_rooms, .func (PySem.W.fnOf "rooms" "rooms" (defArgs s_rooms) (defBody s_rooms) (defScope s_rooms) .none kV_rooms dc_rooms pm_rooms an_rooms cd_rooms ct_rooms), sl_rooms⟩)
    (c_rooms : PySem.W.codeIn K cd_rooms "rooms" = true)
    (k_rooms : PySem.W.keepIn K (.ref f_rooms) = true)
    (a_parity : PySem.W.nsIn K mainGlobals "parity" = some (some (.ref f_parity)))
    (l_parity : K.lookup f_parity = some ⟨oc_parity, od_parity, .func (PySem.W.fnOf "parity" "parity" (defArgs s_parity) (defBody s_parity) (defScope s_parity) .none kV_parity dc_parity pm_parity an_parity cd_parity ct_parity), sl_parity⟩)
    (c_parity : PySem.W.codeIn K cd_parity "parity" = true)
    (k_parity : PySem.W.keepIn K (.ref f_parity) = true)
    (a_step : PySem.W.nsIn K mainGlobals "step" = some (some (.ref f_step)))
    (l_step : K.lookup f_step = some ⟨oc_step, od_step, .func (PySem.W.fnOf "step" "step" (defArgs s_step) (defBody s_step) (defScope s_step) .none kV_step dc_step pm_step an_step cd_step ct_step), sl_step⟩)
    (c_step : PySem.W.codeIn K cd_step "step" = true)
    (k_step : PySem.W.keepIn K (.ref f_step) = true)
    (a_sent_at : PySem.W.nsIn K mainGlobals "sent_at" = some (some (.ref f_sent_at)))
    (l_sent_at : K.lookup f_sent_at = some ⟨oc_sent_at, od_sent_at, .func (PySem.W.fnOf "sent_at" "sent_at" (defArgs s_sent_at) (defBody s_sent_at) (defScope s_sent_at) .none kV_sent_at dc_sent_at pm_sent_at an_sent_at cd_sent_at ct_sent_at), sl_sent_at⟩)
    (c_sent_at : PySem.W.codeIn K cd_sent_at "sent_at" = true)
    (k_sent_at : PySem.W.keepIn K (.ref f_sent_at) = true)
    (a_is_ring : PySem.W.nsIn K mainGlobals "is_ring" = some (some (.ref f_is_ring)))
    (l_is_ring : K.lookup f_is_ring = some ⟨oc_is_ring, od_is_ring, .func (PySem.W.fnOf "is_ring" "is_ring" (defArgs s_is_ring) (defBody s_is_ring) (defScope s_is_ring) .none kV_is_ring dc_is_ring pm_is_ring an_is_ring cd_is_ring ct_is_ring), sl_is_ring⟩)
    (c_is_ring : PySem.W.codeIn K cd_is_ring "is_ring" = true)
    (k_is_ring : PySem.W.keepIn K (.ref f_is_ring) = true)
    (a_check_size : PySem.W.nsIn K mainGlobals "check_size" = some (some (.ref f_check_size)))
    (l_check_size : K.lookup f_check_size = some ⟨oc_check_size, od_check_size, .func (PySem.W.fnOf "check_size" "check_size" (defArgs s_check_size) (defBody s_check_size) (defScope s_check_size) .none kV_check_size dc_check_size pm_check_size an_check_size cd_check_size ct_check_size), sl_check_size⟩)
    (c_check_size : PySem.W.codeIn K cd_check_size "check_size" = true)
    (k_check_size : PySem.W.keepIn K (.ref f_check_size) = true)
    (a_bits_behind : PySem.W.nsIn K mainGlobals "bits_behind" = some (some (.ref f_bits_behind)))
    (l_bits_behind : K.lookup f_bits_behind = some ⟨oc_bits_behind, od_bits_behind, .func (PySem.W.fnOf "bits_behind" "bits_behind" (defArgs s_bits_behind) (defBody s_bits_behind) (defScope s_bits_behind) .none kV_bits_behind dc_bits_behind pm_bits_behind an_bits_behind cd_bits_behind ct_bits_behind), sl_bits_behind⟩)
    (c_bits_behind : PySem.W.codeIn K cd_bits_behind "bits_behind" = true)
    (k_bits_behind : PySem.W.keepIn K (.ref f_bits_behind) = true)
    (a_steps_of : PySem.W.nsIn K mainGlobals "steps_of" = some (some (.ref f_steps_of)))
    (l_steps_of : K.lookup f_steps_of = some ⟨oc_steps_of, od_steps_of, .func (PySem.W.fnOf "steps_of" "steps_of" (defArgs s_steps_of) (defBody s_steps_of) (defScope s_steps_of) .none kV_steps_of dc_steps_of pm_steps_of an_steps_of cd_steps_of ct_steps_of), sl_steps_of⟩)
    (c_steps_of : PySem.W.codeIn K cd_steps_of "steps_of" = true)
    (k_steps_of : PySem.W.keepIn K (.ref f_steps_of) = true)
    (a_places_of : PySem.W.nsIn K mainGlobals "places_of" = some (some (.ref f_places_of)))
    (l_places_of : K.lookup f_places_of = some ⟨oc_places_of, od_places_of, .func (PySem.W.fnOf "places_of" "places_of" (defArgs s_places_of) (defBody s_places_of) (defScope s_places_of) .none kV_places_of dc_places_of pm_places_of an_places_of cd_places_of ct_places_of), sl_places_of⟩)
    (c_places_of : PySem.W.codeIn K cd_places_of "places_of" = true)
    (k_places_of : PySem.W.keepIn K (.ref f_places_of) = true)
    (a_is_parted : PySem.W.nsIn K mainGlobals "is_parted" = some (some (.ref f_is_parted)))
    (l_is_parted : K.lookup f_is_parted = some ⟨oc_is_parted, od_is_parted, .func (PySem.W.fnOf "is_parted" "is_parted" (defArgs s_is_parted) (defBody s_is_parted) (defScope s_is_parted) .none kV_is_parted dc_is_parted pm_is_parted an_is_parted cd_is_parted ct_is_parted), sl_is_parted⟩)
    (c_is_parted : PySem.W.codeIn K cd_is_parted "is_parted" = true)
    (k_is_parted : PySem.W.keepIn K (.ref f_is_parted) = true)
    (a_blocks : PySem.W.nsIn K mainGlobals "blocks" = some (some (.ref f_blocks)))
    (l_blocks : K.lookup f_blocks = some ⟨oc_blocks, od_blocks, .func (PySem.W.fnOf "blocks" "blocks" (defArgs s_blocks) (defBody s_blocks) (defScope s_blocks) .none kV_blocks dc_blocks pm_blocks an_blocks cd_blocks ct_blocks), sl_blocks⟩)
    (c_blocks : PySem.W.codeIn K cd_blocks "blocks" = true)
    (k_blocks : PySem.W.keepIn K (.ref f_blocks) = true)
    (a__law_next : PySem.W.nsIn K mainGlobals "_law_next" = some (some (.ref f__law_next)))
    (l__law_next : K.lookup f__law_next = some ⟨oc__law_next, od__law_next, .func (PySem.W.fnOf "_law_next" "_law_next" (defArgs s__law_next) (defBody s__law_next) (defScope s__law_next) .none kV__law_next dc__law_next pm__law_next an__law_next cd__law_next ct__law_next), sl__law_next⟩)
    (c__law_next : PySem.W.codeIn K cd__law_next "_law_next" = true)
    (k__law_next : PySem.W.keepIn K (.ref f__law_next) = true)
    (a__law_scheme : PySem.W.nsIn K mainGlobals "_law_scheme" = some (some (.ref f__law_scheme)))
    (l__law_scheme : K.lookup f__law_scheme = some ⟨oc__law_scheme, od__law_scheme, .func (PySem.W.fnOf "_law_scheme" "_law_scheme" (defArgs s__law_scheme) (defBody s__law_scheme) (defScope s__law_scheme) .none kV__law_scheme dc__law_scheme pm__law_scheme an__law_scheme cd__law_scheme ct__law_scheme), sl__law_scheme⟩)
    (c__law_scheme : PySem.W.codeIn K cd__law_scheme "_law_scheme" = true)
    (k__law_scheme : PySem.W.keepIn K (.ref f__law_scheme) = true)
    (a__law_steps : PySem.W.nsIn K mainGlobals "_law_steps" = some (some (.ref f__law_steps)))
    (l__law_steps : K.lookup f__law_steps = some ⟨oc__law_steps, od__law_steps, .func (PySem.W.fnOf "_law_steps" "_law_steps" (defArgs s__law_steps) (defBody s__law_steps) (defScope s__law_steps) .none kV__law_steps dc__law_steps pm__law_steps an__law_steps cd__law_steps ct__law_steps), sl__law_steps⟩)
    (c__law_steps : PySem.W.codeIn K cd__law_steps "_law_steps" = true)
    (k__law_steps : PySem.W.keepIn K (.ref f__law_steps) = true)
    (a__law_parted : PySem.W.nsIn K mainGlobals "_law_parted" = some (some (.ref f__law_parted)))
    (l__law_parted : K.lookup f__law_parted = some ⟨oc__law_parted, od__law_parted, .func (PySem.W.fnOf "_law_parted" "_law_parted" (defArgs s__law_parted) (defBody s__law_parted) (defScope s__law_parted) .none kV__law_parted dc__law_parted pm__law_parted an__law_parted cd__law_parted ct__law_parted), sl__law_parted⟩)
    (c__law_parted : PySem.W.codeIn K cd__law_parted "_law_parted" = true)
    (k__law_parted : PySem.W.keepIn K (.ref f__law_parted) = true)
    (a__law_refused : PySem.W.nsIn K mainGlobals "_law_refused" = some (some (.ref f__law_refused)))
    (l__law_refused : K.lookup f__law_refused = some ⟨oc__law_refused, od__law_refused, .func (PySem.W.fnOf "_law_refused" "_law_refused" (defArgs s__law_refused) (defBody s__law_refused) (defScope s__law_refused) .none kV__law_refused dc__law_refused pm__law_refused an__law_refused cd__law_refused ct__law_refused), sl__law_refused⟩)
    (c__law_refused : PySem.W.codeIn K cd__law_refused "_law_refused" = true)
    (k__law_refused : PySem.W.keepIn K (.ref f__law_refused) = true)
    (a_law : PySem.W.nsIn K mainGlobals "law" = some (some (.ref f_law)))
    (l_law : K.lookup f_law = some ⟨oc_law, od_law, .func (PySem.W.fnOf "law" "law" (defArgs s_law) (defBody s_law) (defScope s_law) .none kV_law dc_law pm_law an_law cd_law ct_law), sl_law⟩)
    (c_law : PySem.W.codeIn K cd_law "law" = true)
    (k_law : PySem.W.keepIn K (.ref f_law) = true)
    (z_int : PySem.W.nsIn K mainGlobals "int" = some none)
    (z_isinstance : PySem.W.nsIn K mainGlobals "isinstance" = some none)
    (z_len : PySem.W.nsIn K mainGlobals "len" = some none)
    (z_list : PySem.W.nsIn K mainGlobals "list" = some none)
    (z_max : PySem.W.nsIn K mainGlobals "max" = some none)
    (z_range : PySem.W.nsIn K mainGlobals "range" = some none)
    (z_sum : PySem.W.nsIn K mainGlobals "sum" = some none)
    (z_tuple : PySem.W.nsIn K mainGlobals "tuple" = some none)
    (z_zip : PySem.W.nsIn K mainGlobals "zip" = some none)
    (sub_kit_ty_NoneType_ty_list : PySem.W.subIn K (.type "NoneType") (.type "list") = some false)
    (sub_kit_ty_bool_ty_list : PySem.W.subIn K (.type "bool") (.type "list") = some false)
    (sub_kit_ty_int_ty_list : PySem.W.subIn K (.type "int") (.type "list") = some false)
    (sub_kit_ty_str_ty_list : PySem.W.subIn K (.type "str") (.type "list") = some false)
    (sub_kit_ty_tuple_ty_list : PySem.W.subIn K (.type "tuple") (.type "list") = some false)
    (sub_kit_ty_dict_ty_list : PySem.W.subIn K (.type "dict") (.type "list") = some false)
    (sub_kit_WayError_NoWord : PySem.W.subIn K (.ref c_WayError) (.ref c_NoWord) = some false)
    (ic1_NoWord : PySem.W.isClsIn K c_NoWord = true)
    (ic2_NoWord : PySem.W.typeIn K (.ref c_NoWord) = some (.type "type"))
    (ne_kit_WayError_NoWord : c_WayError ≠ c_NoWord)
    (sub_kit_ty_NoneType_NoWord : PySem.W.subIn K (.type "NoneType") (.ref c_NoWord) = some false)
    : ∃ a : Ad, Txt K mg a ∧ a.f_law = fa ∧ ∀ (s : Shared) (v : Value), BindsTo s a.fd_law ⟨[v], []⟩ [("_law_script", v)] := by
  have e0 : f_law = fa := Value.ref.inj (Option.some.inj ((PySem.W.mg_of X G a_law).symm.trans hfa))
  subst e0
  refine ⟨⟨c_WayError, c_NoWord, f_rooms_at, (PySem.W.fnOf "rooms_at" "rooms_at" (defArgs s_rooms_at) (defBody s_rooms_at) (defScope s_rooms_at) .none kV_rooms_at dc_rooms_at pm_rooms_at an_rooms_at cd_rooms_at ct_rooms_at), f_rooms, (PySem.W.fnOf "rooms" "rooms" (defArgs s_rooms) (defBody s_rooms) (defScope s_rooms) .none kV_rooms dc_rooms pm_rooms an_rooms cd_rooms ct_rooms), f_parity, (PySem.W.fnOf "parity" "parity" (defArgs s_parity) (defBody s_parity) (defScope s_parity) .none kV_parity dc_parity pm_parity an_parity cd_parity ct_parity), f_step, (PySem.W.fnOf "step" "step" (defArgs s_step) (defBody s_step) (defScope s_step) .none kV_step dc_step pm_step an_step cd_step ct_step), f_sent_at, (PySem.W.fnOf "sent_at" "sent_at" (defArgs s_sent_at) (defBody s_sent_at) (defScope s_sent_at) .none kV_sent_at dc_sent_at pm_sent_at an_sent_at cd_sent_at ct_sent_at), f_is_ring, (PySem.W.fnOf "is_ring" "is_ring" (defArgs s_is_ring) (defBody s_is_ring) (defScope s_is_ring) .none kV_is_ring dc_is_ring pm_is_ring an_is_ring cd_is_ring ct_is_ring), f_check_size, (PySem.W.fnOf "check_size" "check_size" (defArgs s_check_size) (defBody s_check_size) (defScope s_check_size) .none kV_check_size dc_check_size pm_check_size an_check_size cd_check_size ct_check_size), f_bits_behind, (PySem.W.fnOf "bits_behind" "bits_behind" (defArgs s_bits_behind) (defBody s_bits_behind) (defScope s_bits_behind) .none kV_bits_behind dc_bits_behind pm_bits_behind an_bits_behind cd_bits_behind ct_bits_behind), f_steps_of, (PySem.W.fnOf "steps_of" "steps_of" (defArgs s_steps_of) (defBody s_steps_of) (defScope s_steps_of) .none kV_steps_of dc_steps_of pm_steps_of an_steps_of cd_steps_of ct_steps_of), f_places_of, (PySem.W.fnOf "places_of" "places_of" (defArgs s_places_of) (defBody s_places_of) (defScope s_places_of) .none kV_places_of dc_places_of pm_places_of an_places_of cd_places_of ct_places_of), f_is_parted, (PySem.W.fnOf "is_parted" "is_parted" (defArgs s_is_parted) (defBody s_is_parted) (defScope s_is_parted) .none kV_is_parted dc_is_parted pm_is_parted an_is_parted cd_is_parted ct_is_parted), f_blocks, (PySem.W.fnOf "blocks" "blocks" (defArgs s_blocks) (defBody s_blocks) (defScope s_blocks) .none kV_blocks dc_blocks pm_blocks an_blocks cd_blocks ct_blocks), f__law_next, (PySem.W.fnOf "_law_next" "_law_next" (defArgs s__law_next) (defBody s__law_next) (defScope s__law_next) .none kV__law_next dc__law_next pm__law_next an__law_next cd__law_next ct__law_next), f__law_scheme, (PySem.W.fnOf "_law_scheme" "_law_scheme" (defArgs s__law_scheme) (defBody s__law_scheme) (defScope s__law_scheme) .none kV__law_scheme dc__law_scheme pm__law_scheme an__law_scheme cd__law_scheme ct__law_scheme), f__law_steps, (PySem.W.fnOf "_law_steps" "_law_steps" (defArgs s__law_steps) (defBody s__law_steps) (defScope s__law_steps) .none kV__law_steps dc__law_steps pm__law_steps an__law_steps cd__law_steps ct__law_steps), f__law_parted, (PySem.W.fnOf "_law_parted" "_law_parted" (defArgs s__law_parted) (defBody s__law_parted) (defScope s__law_parted) .none kV__law_parted dc__law_parted pm__law_parted an__law_parted cd__law_parted ct__law_parted), f__law_refused, (PySem.W.fnOf "_law_refused" "_law_refused" (defArgs s__law_refused) (defBody s__law_refused) (defScope s__law_refused) .none kV__law_refused dc__law_refused pm__law_refused an__law_refused cd__law_refused ct__law_refused), f_law, (PySem.W.fnOf "law" "law" (defArgs s_law) (defBody s_law) (defScope s_law) .none kV_law dc_law pm_law an_law cd_law ct_law)⟩, ?_, rfl, fun s v => .of_eq rfl⟩
  exact {
    mg_WayError := PySem.W.mg_of X G n_WayError
    ns_WayError := n_WayError
    ek_WayError := ⟨ec1_WayError, ec2_WayError, ec3_WayError, ec4_WayError, ed4_WayError, ee4_WayError, ec5_WayError, ec6_WayError, ec7_WayError, ec8_WayError⟩
    mg_NoWord := PySem.W.mg_of X G n_NoWord
    ns_NoWord := n_NoWord
    ek_NoWord := ⟨ec1_NoWord, ec2_NoWord, ec3_NoWord, ec4_NoWord, ed4_NoWord, ee4_NoWord, ec5_NoWord, ec6_NoWord, ec7_NoWord, ec8_NoWord⟩
    ex_NoWord := ex_NoWord
    em_WayError_WayError := exm_mk eb_WayError ec1_WayError ec2_WayError ec3_WayError
    em_NoWord_WayError := exm_mk eb_WayError ec1_WayError ec2_WayError es_NoWord_WayError
    F_rooms_at := fun_mk (st := s_rooms_at) l_rooms_at c_rooms_at k_rooms_at
    B_rooms_at := (fun_mk (st := s_rooms_at) l_rooms_at c_rooms_at k_rooms_at).binds (ps := ["reach"]) fun _ _ _ _ _ _ => len1 fun _ => rfl
    mg_rooms_at := PySem.W.mg_of X G a_rooms_at
    kp_rooms_at := k_rooms_at
    F_rooms := fun_mk (st := s_rooms) l_rooms c_rooms k_rooms
    B_rooms := (fun_mk (st := s_rooms) l_rooms c_rooms k_rooms).binds (ps := ["scheme"]) fun _ _ _ _ _ _ => len1 fun _ => rfl
    mg_rooms := PySem.W.mg_of X G a_rooms
    kp_rooms := k_rooms
    F_parity := fun_mk (st := s_parity) l_parity c_parity k_parity
    B_parity := (fun_mk (st := s_parity) l_parity c_parity k_parity).binds (ps := ["number"]) fun _ _ _ _ _ _ => len1 fun _ => rfl
    mg_parity := PySem.W.mg_of X G a_parity
    kp_parity := k_parity
    F_step := fun_mk (st := s_step) l_step c_step k_step
    B_step := (fun_mk (st := s_step) l_step c_step k_step).binds (ps := ["scheme", "room", "bit"]) fun _ _ _ _ _ _ => len3 fun _ _ _ => rfl
    mg_step := PySem.W.mg_of X G a_step
    kp_step := k_step
    F_sent_at := fun_mk (st := s_sent_at) l_sent_at c_sent_at k_sent_at
    B_sent_at := (fun_mk (st := s_sent_at) l_sent_at c_sent_at k_sent_at).binds (ps := ["scheme", "number", "signs"]) fun _ _ _ _ _ _ => len3 fun _ _ _ => rfl
    mg_sent_at := PySem.W.mg_of X G a_sent_at
    kp_sent_at := k_sent_at
    F_is_ring := fun_mk (st := s_is_ring) l_is_ring c_is_ring k_is_ring
    B_is_ring := (fun_mk (st := s_is_ring) l_is_ring c_is_ring k_is_ring).binds (ps := ["scheme"]) fun _ _ _ _ _ _ => len1 fun _ => rfl
    mg_is_ring := PySem.W.mg_of X G a_is_ring
    kp_is_ring := k_is_ring
    F_check_size := fun_mk (st := s_check_size) l_check_size c_check_size k_check_size
    B_check_size := (fun_mk (st := s_check_size) l_check_size c_check_size k_check_size).binds (ps := ["scheme", "size"]) fun _ _ _ _ _ _ => len2 fun _ _ => rfl
    mg_check_size := PySem.W.mg_of X G a_check_size
    kp_check_size := k_check_size
    F_bits_behind := fun_mk (st := s_bits_behind) l_bits_behind c_bits_behind k_bits_behind
    B_bits_behind := (fun_mk (st := s_bits_behind) l_bits_behind c_bits_behind k_bits_behind).binds (ps := ["scheme"]) fun _ _ _ _ _ _ => len1 fun _ => rfl
    mg_bits_behind := PySem.W.mg_of X G a_bits_behind
    kp_bits_behind := k_bits_behind
    F_steps_of := fun_mk (st := s_steps_of) l_steps_of c_steps_of k_steps_of
    B_steps_of := (fun_mk (st := s_steps_of) l_steps_of c_steps_of k_steps_of).binds (ps := ["scheme", "size"]) fun _ _ _ _ _ _ => len2 fun _ _ => rfl
    mg_steps_of := PySem.W.mg_of X G a_steps_of
    kp_steps_of := k_steps_of
    F_places_of := fun_mk (st := s_places_of) l_places_of c_places_of k_places_of
    B_places_of := (fun_mk (st := s_places_of) l_places_of c_places_of k_places_of).binds (ps := ["scheme", "size"]) fun _ _ _ _ _ _ => len2 fun _ _ => rfl
    mg_places_of := PySem.W.mg_of X G a_places_of
    kp_places_of := k_places_of
    F_is_parted := fun_mk (st := s_is_parted) l_is_parted c_is_parted k_is_parted
    B_is_parted := (fun_mk (st := s_is_parted) l_is_parted c_is_parted k_is_parted).binds (ps := ["earlier", "later", "pause"]) fun _ _ _ _ _ _ => len3 fun _ _ _ => rfl
    mg_is_parted := PySem.W.mg_of X G a_is_parted
    kp_is_parted := k_is_parted
    F_blocks := fun_mk (st := s_blocks) l_blocks c_blocks k_blocks
    B_blocks := (fun_mk (st := s_blocks) l_blocks c_blocks k_blocks).binds (ps := ["scheme", "size", "places", "pause"]) fun _ _ _ _ _ _ us hl => match us, hl with | [_, _, _, _], _ => rfl
    mg_blocks := PySem.W.mg_of X G a_blocks
    kp_blocks := k_blocks
    F__law_next := fun_mk (st := s__law_next) l__law_next c__law_next k__law_next
    B__law_next := (fun_mk (st := s__law_next) l__law_next c__law_next k__law_next).binds (ps := ["_law_state", "_law_many"]) fun _ _ _ _ _ _ => len2 fun _ _ => rfl
    mg__law_next := PySem.W.mg_of X G a__law_next
    kp__law_next := k__law_next
    F__law_scheme := fun_mk (st := s__law_scheme) l__law_scheme c__law_scheme k__law_scheme
    B__law_scheme := (fun_mk (st := s__law_scheme) l__law_scheme c__law_scheme k__law_scheme).binds (ps := ["_law_state", "_law_most", "_law_ending"]) fun _ _ _ _ _ _ => len3 fun _ _ _ => rfl
    mg__law_scheme := PySem.W.mg_of X G a__law_scheme
    kp__law_scheme := k__law_scheme
    F__law_steps := fun_mk (st := s__law_steps) l__law_steps c__law_steps k__law_steps
    B__law_steps := (fun_mk (st := s__law_steps) l__law_steps c__law_steps k__law_steps).binds (ps := ["_law_scheme_here", "_law_size"]) fun _ _ _ _ _ _ => len2 fun _ _ => rfl
    mg__law_steps := PySem.W.mg_of X G a__law_steps
    kp__law_steps := k__law_steps
    F__law_parted := fun_mk (st := s__law_parted) l__law_parted c__law_parted k__law_parted
    B__law_parted := (fun_mk (st := s__law_parted) l__law_parted c__law_parted k__law_parted).binds (ps := ["_law_numbers", "_law_places", "_law_pause"]) fun _ _ _ _ _ _ => len3 fun _ _ _ => rfl
    mg__law_parted := PySem.W.mg_of X G a__law_parted
    kp__law_parted := k__law_parted
    F__law_refused := fun_mk (st := s__law_refused) l__law_refused c__law_refused k__law_refused
    B__law_refused := (fun_mk (st := s__law_refused) l__law_refused c__law_refused k__law_refused).binds (ps := ["_law_scheme_here", "_law_size", "_law_pause"]) fun _ _ _ _ _ _ => len3 fun _ _ _ => rfl
    mg__law_refused := PySem.W.mg_of X G a__law_refused
    kp__law_refused := k__law_refused
    F_law := fun_mk (st := s_law) l_law c_law k_law
    B_law := (fun_mk (st := s_law) l_law c_law k_law).binds (ps := ["_law_script"]) fun _ _ _ _ _ _ => len1 fun _ => rfl
    mg_law := PySem.W.mg_of X G a_law
    kp_law := k_law
    z_int := PySem.W.mg_none_of X G z_int
    z_isinstance := PySem.W.mg_none_of X G z_isinstance
    z_len := PySem.W.mg_none_of X G z_len
    z_list := PySem.W.mg_none_of X G z_list
    z_max := PySem.W.mg_none_of X G z_max
    z_range := PySem.W.mg_none_of X G z_range
    z_sum := PySem.W.mg_none_of X G z_sum
    z_tuple := PySem.W.mg_none_of X G z_tuple
    z_zip := PySem.W.mg_none_of X G z_zip
    kit_ty_NoneType_ty_list := kit_ty (by decide +kernel) sub_kit_ty_NoneType_ty_list (by decide +kernel)
    kit_ty_bool_ty_list := kit_ty (by decide +kernel) sub_kit_ty_bool_ty_list (by decide +kernel)
    kit_ty_int_ty_list := kit_ty (by decide +kernel) sub_kit_ty_int_ty_list (by decide +kernel)
    kit_ty_str_ty_list := kit_ty (by decide +kernel) sub_kit_ty_str_ty_list (by decide +kernel)
    kit_ty_list_ty_list := kit_self
    kit_ty_tuple_ty_list := kit_ty (by decide +kernel) sub_kit_ty_tuple_ty_list (by decide +kernel)
    kit_ty_dict_ty_list := kit_ty (by decide +kernel) sub_kit_ty_dict_ty_list (by decide +kernel)
    kit_WayError_NoWord := kit_ref ic1_NoWord ic2_NoWord sub_kit_WayError_NoWord (fun z => ne_kit_WayError_NoWord (Value.ref.inj z))
    kit_NoWord_NoWord := kit_self
    kit_ty_NoneType_NoWord := kit_ref ic1_NoWord ic2_NoWord sub_kit_ty_NoneType_NoWord (fun z => nomatch z)
  }
theorem walk {l : PySem.W.OpenLaw} {q : Program} {loose : List Str} {XP : (Str → Option Value) → Heap → Prop} {YP : World → Heap → Prop} {d : DefRec} {K : Params → PySem.W.Frag} (hn : l.most = some 63) (hdf : d.params.defaults = []) (hd : d.name = "law")
    (hY : ∀ (w : World) (h : Heap), YP w h → (K w.params).In h)
    (F : ∀ (w : World) (mg : Str → Option Value) (fa : Addr) (h : Heap), (K w.params).In h → h.Ns mainGlobals mg → mg "law" = some (.ref fa) → ∃ a : Ad, Txt (K w.params) mg a ∧ a.f_law = fa ∧ ∀ (s : Shared) (v : Value), BindsTo s a.fd_law ⟨[v], []⟩ [("_law_script", v)]) :
    PySem.W.WalkO q loose XP YP l.row.toRowW d [] (fun f vs => PySem.call f vs) :=
  L2.walk_of (n := 63) (k := 7) (x := "_law_script") (CX := fun _ => CX0) (sp := fun w => spLaw (K w.params) 63) hn (by decide) hdf ⟨rfl, by decide, by decide⟩ hY
    (fun w mg fa h KX G hm => by
      rw [hd] at hm
      obtain ⟨a, T, e, b⟩ := F w mg fa h KX G hm
      subst e
      exact ⟨a.fd_law, b, fun base _ _ => law_ok T⟩)
    (fun _ _ a ns hl _ hS => ⟨a, ns, rfl, hS, hl, fun _ => rfl⟩) fun _ _ _ _ _ z => z
end K41
open PySem PySem.W PyProof.Rows
set_option maxRecDepth 100000 in
set_option maxHeartbeats 0 in
theorem PySem.Challenge.cw_trellisway_k41_blocks_parted_holds : PySem.Challenge.rw_trellisway_k41_blocks_parted.Holds := by
  w_on; o_law; k_head; (case hw => w_witness2)
  k_fill
  refine K41.walk (l := PySem.Challenge.rw_trellisway_k41_blocks_parted) rfl rfl rfl (fun w h Y => PySem.W.kIn_of Y) ?F
  case F =>
    intro w mg fa h KX G hmg
    refine' K41.txt_mk KX G hmg ?n_WayError ?ec1_WayError ?ec2_WayError ?ec3_WayError ?ec4_WayError ?ed4_WayError ?ee4_WayError ?ec5_WayError ?ec6_WayError ?ec7_WayError ?ec8_WayError ?n_NoWord ?ec1_NoWord ?ec2_NoWord ?ec3_NoWord ?ec4_NoWord ?ed4_NoWord ?ee4_NoWord ?ec5_NoWord ?ec6_NoWord ?ec7_NoWord ?ec8_NoWord ?ex_NoWord ?eb_WayError ?es_NoWord_WayError ?a_rooms_at ?l_rooms_at ?c_rooms_at ?k_rooms_at ?a_rooms ?l_rooms ?c_rooms ?k_rooms ?a_parity ?l_parity ?c_parity ?k_parity ?a_step ?l_step ?c_step ?k_step ?a_sent_at ?l_sent_at ?c_sent_at ?k_sent_at ?a_is_ring ?l_is_ring ?c_is_ring ?k_is_ring ?a_check_size ?l_check_size ?c_check_size ?k_check_size ?a_bits_behind ?l_bits_behind ?c_bits_behind ?k_bits_behind ?a_steps_of ?l_steps_of ?c_steps_of ?k_steps_of ?a_places_of ?l_places_of ?c_places_of ?k_places_of ?a_is_parted ?l_is_parted ?c_is_parted ?k_is_parted ?a_blocks ?l_blocks ?c_blocks ?k_blocks ?a__law_next ?l__law_next ?c__law_next ?k__law_next ?a__law_scheme ?l__law_scheme ?c__law_scheme ?k__law_scheme ?a__law_steps ?l__law_steps ?c__law_steps ?k__law_steps ?a__law_parted ?l__law_parted ?c__law_parted ?k__law_parted ?a__law_refused ?l__law_refused ?c__law_refused ?k__law_refused ?a_law ?l_law ?c_law ?k_law ?z_int ?z_isinstance ?z_len ?z_list ?z_max ?z_range ?z_sum ?z_tuple ?z_zip ?sub_kit_ty_NoneType_ty_list ?sub_kit_ty_bool_ty_list ?sub_kit_ty_int_ty_list ?sub_kit_ty_str_ty_list ?sub_kit_ty_tuple_ty_list ?sub_kit_ty_dict_ty_list ?sub_kit_WayError_NoWord ?ic1_NoWord ?ic2_NoWord ?ne_kit_WayError_NoWord ?sub_kit_ty_NoneType_NoWord
    (case n_WayError => k_is); (case ec1_WayError => k_is); (case ec2_WayError => k_is); (case ec3_WayError => k_is)
    (case ec4_WayError => k_is); (case ed4_WayError => k_is); (case ee4_WayError => k_is); (case ec5_WayError => k_is)
    (case ec6_WayError => k_is); (case ec7_WayError => k_is); (case ec8_WayError => k_is); (case n_NoWord => k_is)
    (case ec1_NoWord => k_is); (case ec2_NoWord => k_is); (case ec3_NoWord => k_is); (case ec4_NoWord => k_is)
    (case ed4_NoWord => k_is); (case ee4_NoWord => k_is); (case ec5_NoWord => k_is); (case ec6_NoWord => k_is)
    (case ec7_NoWord => k_is); (case ec8_NoWord => k_is); (case ex_NoWord => k_exc); (case eb_WayError => k_is)
    (case es_NoWord_WayError => k_is); (case a_rooms_at => k_is); (case l_rooms_at => k_is); (case c_rooms_at => k_is)
    (case k_rooms_at => k_is); (case a_rooms => k_is); (case l_rooms => k_is); (case c_rooms => k_is)
    (case k_rooms => k_is); (case a_parity => k_is); (case l_parity => k_is); (case c_parity => k_is)
    (case k_parity => k_is); (case a_step => k_is); (case l_step => k_is); (case c_step => k_is)
    (case k_step => k_is); (case a_sent_at => k_is); (case l_sent_at => k_is); (case c_sent_at => k_is)
    (case k_sent_at => k_is); (case a_is_ring => k_is); (case l_is_ring => k_is); (case c_is_ring => k_is)
    (case k_is_ring => k_is); (case a_check_size => k_is); (case l_check_size => k_is); (case c_check_size => k_is)
    (case k_check_size => k_is); (case a_bits_behind => k_is); (case l_bits_behind => k_is); (case c_bits_behind => k_is)
    (case k_bits_behind => k_is); (case a_steps_of => k_is); (case l_steps_of => k_is); (case c_steps_of => k_is)
    (case k_steps_of => k_is); (case a_places_of => k_is); (case l_places_of => k_is); (case c_places_of => k_is)
    (case k_places_of => k_is); (case a_is_parted => k_is); (case l_is_parted => k_is); (case c_is_parted => k_is)
    (case k_is_parted => k_is); (case a_blocks => k_is); (case l_blocks => k_is); (case c_blocks => k_is)
    (case k_blocks => k_is); (case a__law_next => k_is); (case l__law_next => k_is); (case c__law_next => k_is)
    (case k__law_next => k_is); (case a__law_scheme => k_is); (case l__law_scheme => k_is); (case c__law_scheme => k_is)
    (case k__law_scheme => k_is); (case a__law_steps => k_is); (case l__law_steps => k_is); (case c__law_steps => k_is)
    (case k__law_steps => k_is); (case a__law_parted => k_is); (case l__law_parted => k_is); (case c__law_parted => k_is)
    (case k__law_parted => k_is); (case a__law_refused => k_is); (case l__law_refused => k_is); (case c__law_refused => k_is)
    (case k__law_refused => k_is); (case a_law => k_is); (case l_law => k_is); (case c_law => k_is)
    (case k_law => k_is); (case z_int => k_is); (case z_isinstance => k_is); (case z_len => k_is)
    (case z_list => k_is); (case z_max => k_is); (case z_range => k_is); (case z_sum => k_is)
    (case z_tuple => k_is); (case z_zip => k_is); (case sub_kit_ty_NoneType_ty_list => k_is); (case sub_kit_ty_bool_ty_list => k_is)
    (case sub_kit_ty_int_ty_list => k_is); (case sub_kit_ty_str_ty_list => k_is); (case sub_kit_ty_tuple_ty_list => k_is); (case sub_kit_ty_dict_ty_list => k_is)
    (case sub_kit_WayError_NoWord => k_is); (case ic1_NoWord => k_is); (case ic2_NoWord => k_is); (case ne_kit_WayError_NoWord => decide)
    (case sub_kit_ty_NoneType_NoWord => k_is)
