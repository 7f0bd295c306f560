import PyProof.Rows.All
import Wide.All
import OpenK.AllK
import Wide.FinOn
import Lean
import KE.KIntText
import PyProof.EqAt
import PyProof.EqKinds
import PyProof.TupleCall
import PySem.Challenge.RW_trellisway_k54_refused_texts
set_option Elab.async false
set_option linter.all false
set_option maxRecDepth 100000
namespace L2
open PySem PySem.Spec PyProof.Rows
noncomputable abbrev Key := Sum Int Str
noncomputable def keyIs : Key → Value → Bool
  | .inl k, v => Value.isInt k v
  | .inr x, v => Value.isStrOf x v
noncomputable def keyH (w : World) : Key → Int
  | .inl k => hashInt k
  | .inr x => hashStr w x
theorem keyIs_shape : ∀ {k : Key} {v : Value}, keyIs k v = true → (∃ i t, k = Sum.inl i ∧ v = Value.int i t) ∨ (∃ x t, k = Sum.inr x ∧ v = Value.str x t)
  | .inl i, v, h => by
    obtain ⟨t, e⟩ := Value.isInt_shape (k := i) (v := v) h
    exact .inl ⟨i, t, rfl, e⟩
  | .inr x, v, h => by
    obtain ⟨t, e⟩ := Value.isStrOf_shape (x := x) (v := v) h
    exact .inr ⟨x, t, rfl, e⟩
theorem key_ll (a b : Int) : decide ((Sum.inl a : Key) = Sum.inl b) = (a == b) := by
  by_cases e : a = b
  · subst e; simp
  · have h : ¬ (Sum.inl a : Key) = Sum.inl b := fun q => e (Sum.inl.inj q)
    rw [decide_eq_false h]
    exact (beq_eq_false_iff_ne.mpr e).symm
theorem key_rr (a b : Str) : decide ((Sum.inr a : Key) = Sum.inr b) = decide (a = b) := by
  by_cases e : a = b
  · subst e; simp
  · have h : ¬ (Sum.inr a : Key) = Sum.inr b := fun q => e (Sum.inr.inj q)
    rw [decide_eq_false h, decide_eq_false e]
theorem key_lr (a : Int) (b : Str) : decide ((Sum.inl a : Key) = Sum.inr b) = false := decide_eq_false (fun q => nomatch q)
theorem key_rl (a : Str) (b : Int) : decide ((Sum.inr a : Key) = Sum.inl b) = false := decide_eq_false (fun q => nomatch q)
noncomputable def mixKind (prog : Program) (w : World) : PySem.KeyKind prog w Key where
  is := keyIs
  hash := keyH w
  inj := fun v a b ha hb => by
    rcases keyIs_shape ha with ⟨i, t, rfl, rfl⟩ | ⟨x, t, rfl, rfl⟩
    · rcases keyIs_shape hb with ⟨j, u, rfl, e⟩ | ⟨y, u, rfl, e⟩
      · injection e with e1 _; rw [e1]
      · exact nomatch e
    · rcases keyIs_shape hb with ⟨j, u, rfl, e⟩ | ⟨y, u, rfl, e⟩
      · exact nomatch e
      · injection e with e1 _; rw [e1]
  byValue := fun k v h => by
    rcases keyIs_shape h with ⟨i, t, rfl, rfl⟩ | ⟨x, t, rfl, rfl⟩ <;> rfl
  pyHash := fun hv h => by
    rcases keyIs_shape hv with ⟨i, t, rfl, rfl⟩ | ⟨x, t, rfl, rfl⟩
    · exact wpAny_pyHash_int h
    · exact wpAny_pyHash_str h
  eqBool := fun hu hv h => by
    rcases keyIs_shape hu with ⟨i, t, rfl, rfl⟩ | ⟨x, t, rfl, rfl⟩
    · rcases keyIs_shape hv with ⟨j, u, rfl, rfl⟩ | ⟨y, u, rfl, rfl⟩
      · rw [key_ll] at h; exact wpAny_eqBool_int h
      · rw [key_lr] at h; exact SeqAt.EqAt.int_str i t y u _ _ _ _ h
    · rcases keyIs_shape hv with ⟨j, u, rfl, rfl⟩ | ⟨y, u, rfl, rfl⟩
      · rw [key_rl] at h; exact SeqAt.EqAt.str_int x t j u _ _ _ _ h
      · rw [key_rr] at h; exact wpAny_eqBool_str h
  «strs» := fun k x t v h => by
    rcases keyIs_shape h with ⟨i, u, rfl, e⟩ | ⟨y, u, rfl, e⟩
    · exact nomatch e
    · injection e with e1 _
      subst e1
      cases v <;> rfl
inductive V where
  | non | bl (b : Bool) | int (i : Int) | str (x : Str) | byt (b : Array UInt8) | flt (b : UInt64) | ref (a : Addr) | ty (n : String)
  deriving DecidableEq
noncomputable def RelV : V → Value → Prop
  | .non, u => u = Value.none
  | .bl b, u => u = Value.bool b
  | .int i, u => ∃ t, u = Value.int i t
  | .str x, u => ∃ t, u = Value.str x t
  | .byt b, u => ∃ t, u = Value.bytes b t
  | .flt b, u => ∃ t, u = Value.float b t
  | .ref a, u => u = Value.ref a
  | .ty n, u => u = Value.type n
noncomputable abbrev Vals : List V → List Value → Prop := Paired RelV
theorem Vals.length {xs : List V} {us : List Value} (r : Vals xs us) : xs.length = us.length := Paired.length r
theorem Vals.get : ∀ {xs : List V} {us : List Value} {i : Nat} {x : V}, Vals xs us → xs[i]? = some x → ∃ u, us[i]? = some u ∧ RelV x u
  | _, _, _, _, .nil, e => by simp at e
  | _, _, 0, _, .cons r _, e => by simp at e; subst e; exact ⟨_, rfl, r⟩
  | _, _, i + 1, x, .cons _ t, e => by
    obtain ⟨u, h1, h2⟩ := Vals.get (i := i) (x := x) t (by simpa using e)
    exact ⟨u, by simpa using h1, h2⟩
theorem Vals.set {x : V} {u : Value} (r : RelV x u) : ∀ {xs : List V} {us : List Value} (i : Nat), Vals xs us → Vals (xs.set i x) (us.set i u)
  | _, _, _, .nil => .nil
  | _, _, 0, .cons _ t => .cons r t
  | _, _, i + 1, .cons q t => .cons q (Vals.set r i t)
theorem Vals.append : ∀ {xs ys : List V} {us ws : List Value}, Vals xs us → Vals ys ws → Vals (xs ++ ys) (us ++ ws)
  | _, _, _, _, .nil, s => s
  | _, _, _, _, .cons r t, s => .cons r (Vals.append t s)
theorem Vals.take : ∀ {xs : List V} {us : List Value} (n : Nat), Vals xs us → Vals (xs.take n) (us.take n)
  | _, _, 0, _ => .nil
  | _, _, _ + 1, .nil => .nil
  | _, _, n + 1, .cons r t => .cons r (Vals.take n t)
theorem Vals.drop : ∀ {xs : List V} {us : List Value} (n : Nat), Vals xs us → Vals (xs.drop n) (us.drop n)
  | _, _, 0, r => r
  | _, _, _ + 1, .nil => .nil
  | _, _, n + 1, .cons _ t => Vals.drop n t
noncomputable def RelO : Option V → Option Value → Prop
  | some v, some u => RelV v u
  | none, none => True
  | _, _ => False
noncomputable def KV {κ : Type} : List (κ × V) → List (κ × Value) → Prop := Paired fun (p : κ × V) (q : κ × Value) => p.1 = q.1 ∧ RelV p.2 q.2
noncomputable def kV : Key → V
  | .inl i => .int i
  | .inr x => .str x
inductive HO where
  | lst (xs : List V)
  | tup (xs : List V)
  | dK (kvs : List (Key × V)) | dT (kvs : List (List Key × V))
  | set (S : Int → Bool) (n : Nat)
  | ins (C dx : Addr) (fs : List (Str × V))
  | own (x : Addr)
  | xd (fs : List (Str × V))
  | met (f x : Addr)
  | rng (lo hi : Int)
  | frz (o : Obj) (u : HO)
  | tbl (ps : Array Value)
  | ext (φ : Heap → Prop)
noncomputable abbrev Hp := Addr → Option HO
noncomputable def upd (H : Hp) (a : Addr) (o : HO) : Hp := fun b => if b = a then some o else H b
theorem upd_same {H : Hp} {a : Addr} {o : HO} : upd H a o a = some o := by unfold upd; rw [if_pos rfl]
theorem upd_ne {H : Hp} {a b : Addr} {o : HO} (h : b ≠ a) : upd H a o b = H b := by unfold upd; rw [if_neg h]
theorem ne_of_none {H : Hp} {a b : Addr} {o : HO} (h : H a = some o) (h' : H b = none) : a ≠ b := by
  intro e; subst e; rw [h] at h'; cases h'
noncomputable def TupN (h : Heap) (a : Addr) (items : Array Value) : Prop := ∃ o, h.get? a = some o ∧ (o.cls = .type "tuple" ∧ ∃ n, o.data = .seq items n) ∧ o.dict = none
theorem TupN.tup {h : Heap} {a : Addr} {items : Array Value} (x : TupN h a items) : IsTup h a items := let ⟨o, e, c, _⟩ := x; ⟨o, e, c⟩
theorem TupN.lt {h : Heap} {a : Addr} {items : Array Value} (x : TupN h a items) : a < h.objs.size := let ⟨_, e, _⟩ := x; Heap.lt_size e
theorem TupN.new (h : Heap) (items : Array Value) : TupN (h.push { cls := .type "tuple", data := .seq items }) h.objs.size items := ⟨_, Heap.get?_push_size _ rfl, ⟨rfl, _, rfl⟩, rfl⟩
section
variable (P : Program) (w : World)
noncomputable def ObjOk (H : Hp) (h : Heap) (a : Addr) : HO → Prop
  | .lst xs => xs.length ≤ sizeLine ∧ ∃ (its : List Value) (n : Nat), Vals xs its ∧ h.get? a = some { cls := .type "list", data := .seq its.toArray n }
  | .tup xs => xs.length ≤ sizeLine ∧ ∃ its : List Value, Vals xs its ∧ TupN h a its.toArray
  | .dK kvs => kvs.length ≤ sizeLine ∧ (a == sysModules) = false ∧ ∃ vs, KV kvs vs ∧ h.DictOf (mixKind P w) a vs
  | .dT kvs => kvs.length ≤ sizeLine ∧ (a == sysModules) = false ∧ ∃ xs : List (List Key × Addr × Value),
      Paired (fun (p : List Key × V) (q : List Key × Addr × Value) => p.1 = q.1 ∧ H q.2.1 = some (.tup (p.1.map kV)) ∧ RelV p.2 q.2.2) kvs xs ∧
      ∃ o es ep, h.get? a = some o ∧ o.ExactDict ∧ o.data = .dict es ep ∧ es.toList = xs.map (entryOfKey (tupleKind (mixKind P w))) ∧ (xs.map (·.1)).Nodup ∧ ep = kvs.length
  | .set S n => h.SetOf (intKind P w) a S n
  | .ins C dx fs => H dx = some (.own a) ∧ fs.length ≤ 1000 ∧ dx ≠ a ∧ h.get? a = some (PySem.W.instObj C dx) ∧
      ∃ mA, h.Ns1 dx mA ∧ (∀ f, RelO (fs.lookup f) (mA f)) ∧ PySem.Within mA (fs.map (·.1))
  | .own _ => ∃ o, h.get? a = some o
  | .xd fs => ∃ mA, h.Ns1 a mA ∧ ∀ f, RelO (fs.lookup f) (mA f)
  | .rng lo hi => ∃ t u v, h.get? a = some { cls := .type "range", data := .fields #[.int lo t, .int hi u, .int 1 v] }
  | .frz o u => h.get? a = some o ∧ ObjOk H h a u
  | .tbl ps => h.get? a = some { cls := .none, data := .fields ps }
  | .met f x => h.get? a = some (PySem.W.methodObj (.ref f) (.ref x))
  | .ext φ => φ h ∧ (∃ o, h.get? a = some o) ∧ ∀ h1 h2 : Heap, φ h1 → (∀ o, h1.get? a = some o → h2.get? a = some o) → φ h2
noncomputable def HOk (H : Hp) (h : Heap) : Prop := ∀ a o, H a = some o → ObjOk P w H h a o
end
section
variable {P : Program} {w : World} {H H' : Hp} {h h' : Heap} {a : Addr} {o : HO}
theorem ObjOk.lt (x : ObjOk P w H h a o) : a < h.objs.size := by
  cases o with
  | lst xs => obtain ⟨_, _, _, _, e⟩ := x; exact Heap.lt_size e
  | tup xs => obtain ⟨_, _, _, p⟩ := x; exact p.lt
  | dK kvs => obtain ⟨_, _, _, _, o, _, _, e, _⟩ := x; exact Heap.lt_size e
  | dT kvs => obtain ⟨_, _, _, _, o, _, _, e, _⟩ := x; exact Heap.lt_size e
  | set S n => obtain ⟨o, _, _, _, e, _⟩ := x; exact Heap.lt_size e
  | ins C dx fs => obtain ⟨_, _, _, e, _⟩ := x; exact Heap.lt_size e
  | own y => obtain ⟨_, e⟩ := x; exact Heap.lt_size e
  | xd fs => obtain ⟨_, ⟨_, _, _, e, _⟩, _⟩ := x; exact Heap.lt_size e
  | rng lo hi => obtain ⟨_, _, _, e⟩ := x; exact Heap.lt_size e
  | frz ob u => obtain ⟨e, _⟩ := x; exact Heap.lt_size e
  | tbl ps => exact Heap.lt_size (show h.get? a = some _ from x)
  | met f y => exact Heap.lt_size (show h.get? a = some _ from x)
  | ext φ => obtain ⟨_, ⟨_, e⟩, _⟩ := x; exact Heap.lt_size e
theorem Paired.mapP {α β : Type} {F G : α → β → Prop} : ∀ {l₁ : List α} {l₂ : List β}, Paired F l₁ l₂ → (∀ a b, F a b → G a b) → Paired G l₁ l₂
  | _, _, .nil, _ => .nil
  | _, _, .cons r t, f => .cons (f _ _ r) (Paired.mapP t f)
theorem ObjOk.stay (x : ObjOk P w H h a o) (k : ∀ b u, (b = a ∨ H b = some (.own a)) → h.get? b = some u → h'.get? b = some u)
    (ho : ∀ b, H b = some (.own a) → H' b = some (.own a)) (ht : ∀ b xs, H b = some (.tup xs) → H' b = some (.tup xs)) : ObjOk P w H' h' a o := by
  induction o with
  | lst xs => obtain ⟨z, its, n, r, e⟩ := x; exact ⟨z, its, n, r, k _ _ (.inl rfl) e⟩
  | tup xs => obtain ⟨z, its, r, ob, e, c⟩ := x; exact ⟨z, its, r, ob, k _ _ (.inl rfl) e, c⟩
  | dK kvs => obtain ⟨z, y, vs, r, ob, es, ep, e, c⟩ := x; exact ⟨z, y, vs, r, ob, es, ep, k _ _ (.inl rfl) e, c⟩
  | dT kvs =>
    obtain ⟨z, y, xs, r, ob, es, ep, e, c⟩ := x
    exact ⟨z, y, xs, Paired.mapP r fun p q z => ⟨z.1, ht _ _ z.2.1, z.2.2⟩, ob, es, ep, k _ _ (.inl rfl) e, c⟩
  | set S n => obtain ⟨ob, es, ep, t, e, c⟩ := x; exact ⟨ob, es, ep, t, k _ _ (.inl rfl) e, c⟩
  | ins C dx fs =>
    obtain ⟨d, z, ne, e, mA, ⟨od, es, ep, e2, c⟩, r⟩ := x
    exact ⟨ho _ d, z, ne, k _ _ (.inl rfl) e, mA, ⟨od, es, ep, k _ _ (.inr d) e2, c⟩, r⟩
  | own y => obtain ⟨ob, e⟩ := x; exact ⟨ob, k _ _ (.inl rfl) e⟩
  | xd fs => obtain ⟨mA, ⟨od, es, ep, e, c⟩, r⟩ := x; exact ⟨mA, ⟨od, es, ep, k _ _ (.inl rfl) e, c⟩, r⟩
  | rng lo hi => obtain ⟨t, u, v, e⟩ := x; exact ⟨t, u, v, k _ _ (.inl rfl) e⟩
  | frz ob u ih => obtain ⟨e, q⟩ := x; exact ⟨k _ _ (.inl rfl) e, ih q⟩
  | tbl ps =>
    have e : h.get? a = some { cls := .none, data := .fields ps } := x
    show h'.get? a = some { cls := .none, data := .fields ps }
    exact k a _ (.inl rfl) e
  | met f y =>
    have e : h.get? a = some (PySem.W.methodObj (.ref f) (.ref y)) := x
    show h'.get? a = some (PySem.W.methodObj (.ref f) (.ref y))
    exact k a _ (.inl rfl) e
  | ext φ => obtain ⟨p, ⟨o, e⟩, st⟩ := x; exact ⟨st _ _ p fun o q => k _ _ (.inl rfl) q, ⟨o, k _ _ (.inl rfl) e⟩, st⟩
theorem HOk.lt (x : HOk P w H h) (e : H a = some o) : a < h.objs.size := (x a o e).lt
theorem HOk.fresh (x : HOk P w H h) (e : h.objs.size ≤ a) : H a = none := by
  cases q : H a with
  | none => rfl
  | some u => exact absurd (Nat.lt_of_lt_of_le (x.lt q) e) (Nat.lt_irrefl _)
theorem HOk.kept (x : HOk P w H h) (k : ∀ b u, h.get? b = some u → h'.get? b = some u) : HOk P w H h' := fun a o e =>
  (x a o e).stay (fun b u _ q => k b u q) (fun _ q => q) fun _ _ q => q
theorem HOk.laid (x : HOk P w H h) (k : ∀ b u, h.get? b = some u → h'.get? b = some u) (hp : h.objs.size ≤ a) (new : ObjOk P w (upd H a o) h' a o) : HOk P w (upd H a o) h' := fun b u e => by
  have hn := x.fresh hp
  by_cases hb : b = a
  · subst hb; rw [upd_same] at e; cases e; exact new
  · rw [upd_ne hb] at e
    exact (x b u e).stay (fun c v _ q => k c v q) (fun c q => by rw [upd_ne (ne_of_none q hn)]; exact q) fun c xs q => by rw [upd_ne (ne_of_none q hn)]; exact q
end
noncomputable def Rd (H : Hp) (a : Addr) (u : HO) : Prop := H a = some u ∨ ∃ o, H a = some (.frz o u)
theorem Rd.ok {P : Program} {w : World} {H : Hp} {h : Heap} {a : Addr} {u : HO} (r : Rd H a u) (x : HOk P w H h) : ObjOk P w H h a u := by
  rcases r with r | ⟨o, r⟩
  · exact x a u r
  · obtain ⟨_, q⟩ := x a _ r
    exact q
noncomputable def Mut : Option HO → Prop
  | some (.lst _) => True
  | some (.dK _) => True
  | some (.dT _) => True
  | some (.set _ _) => True
  | some (.ins _ _ _) => True
  | some (.ext _) => True
  | _ => False
section
variable {P : Program} {w : World} {H : Hp} {h h' : Heap} {x e : Addr} {o' : HO}
theorem HOk.write (ok : HOk P w H h) (mu : Mut (H x)) (he : e = x ∨ H e = some (.own x)) (k : ∀ b u, b ≠ e → h.get? b = some u → h'.get? b = some u) (heo : ∃ u, h'.get? e = some u)
    (new : ObjOk P w (upd H x o') h' x o') : HOk P w (upd H x o') h' := fun b u q => by
  have nown : ∀ c y, H c = some (.own y) → c ≠ x := fun c y r z => by subst z; rw [r] at mu; exact mu
  have ntup : ∀ c xs, H c = some (.tup xs) → c ≠ x := fun c xs r z => by subst z; rw [r] at mu; exact mu
  by_cases hb : b = x
  · subst hb; rw [upd_same] at q; cases q; exact new
  · rw [upd_ne hb] at q
    by_cases hbe : b = e
    · have q' : H b = some (.own x) := by
        rcases he with z | z
        · exact absurd (hbe.trans z) hb
        · rw [hbe]; exact z
      rw [q] at q'; cases q'
      obtain ⟨v, hv⟩ := heo
      exact ⟨v, by rw [hbe]; exact hv⟩
    · refine (ok b u q).stay (fun c v hc r => k c v ?_ r) (fun c r => by rw [upd_ne (nown c b r)]; exact r) fun c xs r => by rw [upd_ne (ntup c xs r)]; exact r
      rcases hc with rfl | hc
      · exact hbe
      · rintro rfl
        rcases he with z | z
        · exact nown c b hc z
        · rw [hc] at z; cases z; exact hb rfl
end
structure Un (fs ex : List Addr) (H H' : Hp) (h h' : Heap) : Prop where
  keep : ∀ b o, h.get? b = some o → H b = none → b ∉ fs → b ∉ ex → h'.get? b = some o
  slot : ∀ b o, h.get? b = some o → H b = none → b ∈ fs → b ∉ ex → ∃ sl, h'.get? b = some { o with slots := sl }
  free : ∀ b o, h.get? b = some o → H b = none → b ∉ ex → H' b = none
  there : ∀ b o, h.get? b = some o → b ∉ ex → ∃ o', h'.get? b = some o'
  tups : ∀ b xs, H b = some (.tup xs) → H' b = some (.tup xs)
  frzs : ∀ b o u, H b = some (.frz o u) → H' b = some (.frz o u)
  tbls : ∀ b ps, H b = some (.tbl ps) → ∃ more, H' b = some (.tbl (ps ++ more))
section
variable {fs fs' ex ex' : List Addr} {H H1 H2 : Hp} {h h1 h2 h' : Heap} {a x e : Addr} {o : HO}
theorem Un.any (u : Un fs ex H H1 h h1) {b : Addr} {ob : Obj} (q : h.get? b = some ob) (n : H b = none) (hx : b ∉ ex) : ∃ sl, h1.get? b = some { ob with slots := sl } := by
  by_cases hb : b ∈ fs
  · exact u.slot b ob q n hb hx
  · exact ⟨ob.slots, u.keep b ob q n hb hx⟩
theorem Un.kept (k : ∀ b u, h.get? b = some u → h'.get? b = some u) : Un fs ex H H h h' :=
  ⟨fun b ob q _ _ _ => k b ob q, fun b ob q _ _ _ => ⟨ob.slots, k b ob q⟩, fun _ _ _ n _ => n, fun b ob q _ => ⟨ob, k b ob q⟩, fun _ _ q => q, fun _ _ _ q => q, fun _ ps q => ⟨#[], by rw [q]; simp⟩⟩
theorem Un.refl : Un fs ex H H h h := Un.kept fun _ _ q => q
theorem Un.laid (k : ∀ b u, h.get? b = some u → h'.get? b = some u) (hp : h.objs.size ≤ a) (hn : H a = none) : Un fs ex H (upd H a o) h h' where
  keep := fun b u q _ _ _ => k b u q
  slot := fun b u q _ _ _ => ⟨u.slots, k b u q⟩
  free := fun b u q n _ => by rw [upd_ne (Nat.ne_of_lt (Nat.lt_of_lt_of_le (Heap.lt_size q) hp))]; exact n
  there := fun b u q _ => ⟨u, k b u q⟩
  tups := fun b xs q => by rw [upd_ne (ne_of_none q hn)]; exact q
  frzs := fun b u xs q => by rw [upd_ne (ne_of_none q hn)]; exact q
  tbls := fun b ps q => ⟨#[], by rw [upd_ne (ne_of_none q hn), q]; simp⟩
theorem Un.write (mu : Mut (H x)) (he : e = x ∨ H e = some (.own x)) (k : ∀ b u, b ≠ e → h.get? b = some u → h'.get? b = some u) (heo : ∃ u, h'.get? e = some u) : Un fs ex H (upd H x o) h h' := by
  have hx : ∀ b, H b = none → b ≠ x := fun b n z => by subst z; rw [n] at mu; exact mu
  have hb : ∀ b, H b = none → b ≠ e := fun b n z => by
    subst z
    rcases he with r | r
    · exact hx b n r
    · rw [n] at r; cases r
  have hm : ∀ b u, H b = some u → ¬ Mut (some u) → b ≠ x := fun b u q nm z => by subst z; rw [q] at mu; exact nm mu
  refine ⟨fun b u q n _ _ => k b u (hb b n) q, fun b u q n _ _ => ⟨u.slots, k b u (hb b n) q⟩, fun b u q n _ => by rw [upd_ne (hx b n)]; exact n, fun b u q _ => ?_,
    fun b xs q => by rw [upd_ne (hm b _ q fun z => z)]; exact q, fun b u xs q => by rw [upd_ne (hm b _ q fun z => z)]; exact q, fun b ps q => ⟨#[], by rw [upd_ne (hm b _ q fun z => z), q]; simp⟩⟩
  by_cases hbe : b = e
  · subst hbe; exact heo
  · exact ⟨u, k b u hbe q⟩
theorem Un.mono (u : Un fs ex H H1 h h1) (hs : ∀ b ∈ fs, b ∈ fs') (hx : ∀ b ∈ ex, b ∈ ex') : Un fs' ex' H H1 h h1 :=
  ⟨fun b ob q n hb he => u.keep b ob q n (fun z => hb (hs b z)) fun z => he (hx b z), fun _ _ q n _ he => u.any q n fun z => he (hx _ z), fun b ob q n he => u.free b ob q n fun z => he (hx b z), fun b ob q he => u.there b ob q fun z => he (hx b z), u.tups, u.frzs, u.tbls⟩
end
noncomputable def trk (h : Heap) (H : Hp) : List Addr := (List.range h.objs.size).filter fun a => (H a).isSome
noncomputable def hidT (h : Heap) (H : Hp) : Heap := PySem.W.hideAll h (trk h H)
theorem hidT_size (h : Heap) (H : Hp) : (hidT h H).objs.size = h.objs.size := PySem.W.hideAll_size _ _
theorem hidT_get {h : Heap} {H : Hp} {b : Addr} {o : Obj} (e : h.get? b = some o) (n : H b = none) : (hidT h H).get? b = some o :=
  PySem.W.hideAll_get _ e fun hm => by
    have q : (H b).isSome = true := (List.mem_filter.mp hm).2
    rw [n] at q; simp at q
theorem of_hidT {h : Heap} {H : Hp} {b : Addr} {o : Obj} (e : (hidT h H).get? b = some o) : h.get? b = some o ∧ H b = none := by
  have e' : h.get? b = some o := PySem.W.of_hideAll (trk h H) e
  refine ⟨e', ?_⟩
  cases q : H b with
  | none => rfl
  | some x =>
    have hm : b ∈ trk h H := List.mem_filter.mpr ⟨List.mem_range.mpr (Heap.lt_size e'), by simp [q]⟩
    have z : (hidT h H).get? b = none := PySem.W.hideAll_none (trk h H) hm
    rw [z] at e; cases e
structure Mod (K : PySem.W.Frag) (mg : Str → Option Value) (base : Heap) : Prop where
  kin : K.In base
  glob : base.Ns mainGlobals mg
  blt : ∃ mb, base.Ns builtinsNs mb ∧ ∀ x : Str, x ≠ "__name__" → mb x = bootBuiltins x
  nolimit : base.NoLimit
structure Cx where
  prog : Program
  w : World
  K : PySem.W.Frag
  mg : Str → Option Value
  base : Heap
  A : Around
  N : List Str
  s₀ : Shared
  H₀ : Hp
  env : Env
  outer : List Env
  stack : List Env
  ex : List Addr
  fn : Str → Bool
  calm : Bool
  pn : List (Addr × Obj)
  xe : Value → Shared → Prop
noncomputable def frs (l : List Env) : List Addr := l.filterMap (·.frame)
noncomputable abbrev Cx.fs (X : Cx) : List Addr := frs X.outer
noncomputable def Vis (sc : Scope) (x : Str) : Prop := sc.names.lookup x = some .local ∨ sc.names.lookup x = some .cell ∨ sc.names.lookup x = some .free
noncomputable def Loc (sc : Scope) (x : Str) : Prop := sc.names.lookup x = some .local ∨ sc.names.lookup x = some .cell
noncomputable def Look (env : Env) (h : Heap) (m : Str → Option Value) (x : Str) (u : Value) : Prop :=
  (env.kindOf x = some .local ∧ m x = some u) ∨ ((env.kindOf x = some .cell ∨ env.kindOf x = some .free) ∧ ∃ c, env.cells.lookup x = some c ∧ h.IsCell c (some u))
structure Cx.Ok (X : Cx) : Prop where
  mod : Mod X.K X.mg X.base
  kind : X.env.scope.kind = .function
  glob : X.env.globals = mainGlobals
  blt : X.env.builtins = builtinsNs
  above : X.s₀.heap.objs.size ≤ X.env.locals
  inj : ∀ x y c, X.env.cells.lookup x = some c → X.env.cells.lookup y = some c → x = y
  has : ∀ x, (X.env.kindOf x = some .cell ∨ X.env.kindOf x = some .free) → ∃ c, X.env.cells.lookup x = some c
  cab : ∀ x c, X.fn x = true → X.env.cells.lookup x = some c → X.s₀.heap.objs.size ≤ c
  hd : X.calm = true → X.A.handled = none
  frames : X.A.frames = some X.stack
  stk : X.stack = X.outer ∨ (X.stack = X.env :: X.outer ∧ X.env.frame = some X.env.locals)
  exf : ∀ b ∈ X.ex, b ≠ X.env.locals ∧ ∀ x c, X.env.cells.lookup x = some c → c ≠ b
  bs : ∀ b o, X.base.get? b = some o → X.s₀.heap.get? b = some o ∧ X.H₀ b = none
  bsz : X.base.objs.size ≤ X.s₀.heap.objs.size
  noex : ∀ b o, X.base.get? b = some o → b ∉ X.ex
  exfs : ∀ b ∈ X.ex, b ∉ X.fs
  funs : X.s₀.heap.FunFrames X.base X.outer
  frf : ∀ b ∈ X.fs, X.H₀ b = none
structure Inv (X : Cx) (pins : List (Addr × Obj)) (σ : List (Option V)) (H : Hp) (s : Shared) : Prop where
  ok : X.Ok
  os : s.os = X.s₀.os
  bare : AllBare s.gens
  base : Un X.fs X.ex X.H₀ H X.s₀.heap s.heap
  loc : ∃ m, s.heap.Ns X.env.locals m ∧ ∀ (i : Nat) (x : Str) (v : V), X.N[i]? = some x → σ[i]? = some (some v) → Vis X.env.scope x → ∃ u, RelV v u ∧ Look X.env s.heap m x u
  cell : ∀ x c, X.env.cells.lookup x = some c → ∃ v, s.heap.IsCell c v
  free : H X.env.locals = none
  freeC : ∀ x c, X.env.cells.lookup x = some c → H c = none
  pin : ∀ p ∈ X.pn ++ pins, s.heap.get? p.1 = some p.2 ∧ H p.1 = none ∧ p.1 ≠ X.env.locals ∧ p.1 ∉ X.fs ∧ ∀ v, p.2.data ≠ .cell v
  hok : HOk X.prog X.w H s.heap
  len : σ.length = X.N.length
section
variable {X : Cx} {pins : List (Addr × Obj)} {σ : List (Option V)} {H H' : Hp} {s : Shared} {h' : Heap}
theorem Cx.Ok.nofr (ok : X.Ok) {b : Addr} {o : Obj} (e : X.base.get? b = some o) : b ∉ X.fs := fun hb => by
  have := (ok.funs.mem hb).1
  rw [e] at this; cases this
theorem Inv.bs (I : Inv X pins σ H s) : ∀ b o, X.base.get? b = some o → s.heap.get? b = some o ∧ H b = none := fun b o e =>
  ⟨I.base.keep b o (I.ok.bs b o e).1 (I.ok.bs b o e).2 (I.ok.nofr e) (I.ok.noex b o e), I.base.free b o (I.ok.bs b o e).1 (I.ok.bs b o e).2 (I.ok.noex b o e)⟩
theorem Inv.bk (I : Inv X pins σ H s) : ∀ b o, X.base.get? b = some o → s.heap.get? b = some o := fun b o e => (I.bs b o e).1
theorem Inv.mod (I : Inv X pins σ H s) : Mod X.K X.mg X.base := I.ok.mod
theorem Inv.kIn (I : Inv X pins σ H s) : X.K.In s.heap := I.ok.mod.kin.keeps I.bk
theorem Inv.fr (I : Inv X pins σ H s) : ∃ m, Fr X.base X.env.locals s.heap m :=
  let ⟨m, hn, _⟩ := I.loc
  ⟨m, hn, I.bk, Nat.le_trans I.ok.bsz I.ok.above⟩
theorem Inv.lt (I : Inv X pins σ H s) : X.env.locals < s.heap.objs.size := let ⟨_, hn, _⟩ := I.loc; hn.lt
theorem Inv.sz (I : Inv X pins σ H s) : X.s₀.heap.objs.size ≤ s.heap.objs.size := Nat.le_trans I.ok.above (Nat.le_of_lt I.lt)
theorem Inv.nofs (I : Inv X pins σ H s) {a : Addr} (h : s.heap.objs.size ≤ a) : a ∉ X.fs := fun hb => by
  obtain ⟨_, o, ho, _⟩ := I.ok.funs.mem hb
  exact absurd (Nat.lt_of_lt_of_le (Heap.lt_size ho) (Nat.le_trans I.sz h)) (Nat.lt_irrefl _)
theorem Inv.cne (I : Inv X pins σ H s) : ∀ x c, X.env.cells.lookup x = some c → c ≠ X.env.locals := fun x c e z => by
  obtain ⟨v, o, ho, hd⟩ := I.cell x c e
  obtain ⟨m, ⟨o', es, ep, ho', hd', _⟩, _⟩ := I.loc
  rw [z, ho'] at ho; cases ho; rw [hd'] at hd; cases hd
theorem Inv.funs (I : Inv X pins σ H s) : s.heap.FunFrames X.base X.outer := by
  have all : ∀ (l : List Env), (∀ b ∈ frs l, b ∈ X.fs) → X.s₀.heap.FunFrames X.base l → s.heap.FunFrames X.base l := by
    intro l
    induction l with
    | nil => intro _ _; trivial
    | cons env r ih =>
      intro hs hl
      obtain ⟨hk, ⟨L, o, hf, hn, ho, hd⟩, hr⟩ := hl
      have hL : L ∈ X.fs := hs L (by unfold frs; rw [List.filterMap_cons, hf]; exact List.mem_cons_self)
      obtain ⟨sl, e⟩ := I.base.slot L o ho (I.ok.frf L hL) hL fun z => I.ok.exfs L z hL
      exact ⟨hk, ⟨L, _, hf, hn, e, hd⟩, ih (fun b hb => hs b (by unfold frs; rw [List.filterMap_cons, hf]; exact List.mem_cons_of_mem _ hb)) hr⟩
  exact all X.outer (fun _ hb => hb) I.ok.funs
theorem Inv.stack (I : Inv X pins σ H s) : s.heap.FunFrames X.base X.stack := by
  rcases I.ok.stk with e | ⟨e, hf⟩
  · rw [e]; exact I.funs
  · rw [e]
    obtain ⟨m, hn, _⟩ := I.loc
    refine .cons (by rw [I.ok.kind]; decide) hf hn ?_ I.funs
    exact Heap.get?_none_of_le (Nat.le_trans I.ok.bsz I.ok.above)
theorem Inv.stkSub (I : Inv X pins σ H s) : ∀ b ∈ frs X.stack, b ∈ X.env.locals :: X.fs := fun b hb => by
  rcases I.ok.stk with e | ⟨e, hf⟩
  · rw [e] at hb; exact List.mem_cons_of_mem _ hb
  · rw [e] at hb
    unfold frs at hb
    rw [List.filterMap_cons, hf] at hb
    exact hb
theorem Inv.stkFree (I : Inv X pins σ H s) : ∀ b ∈ frs X.stack, H b = none := fun b hb => by
  rcases List.mem_cons.mp (I.stkSub b hb) with e | hb
  · rw [e]; exact I.free
  · obtain ⟨_, o, ho, _⟩ := I.ok.funs.mem hb
    exact I.base.free b o ho (I.ok.frf b hb) fun z => I.ok.exfs b z hb
theorem Inv.step {g' : Array GenState} {t' : Nat} {d' : Drawn} {ch : List Addr} (I : Inv X pins σ H s)
    (hch : ∀ b ∈ ch, (b ∈ X.ex ∨ X.s₀.heap.objs.size ≤ b) ∧ b ≠ X.env.locals ∧ (∀ x c, X.env.cells.lookup x = some c → c ≠ b) ∧ ∀ p ∈ X.pn ++ pins, p.1 ≠ b)
    (keep : ∀ b o, b ≠ X.env.locals → b ∉ X.fs → b ∉ ch → s.heap.get? b = some o → H b = none → h'.get? b = some o)
    (slot : ∀ b o, b ≠ X.env.locals → b ∈ X.fs → b ∉ ch → s.heap.get? b = some o → H b = none → ∃ sl, h'.get? b = some { o with slots := sl }) (free : ∀ b o, b ∉ ch → s.heap.get? b = some o → H b = none → H' b = none)
    (there : ∀ b o, b ∉ ch → s.heap.get? b = some o → ∃ o', h'.get? b = some o')
    (tups : ∀ b xs, H b = some (.tup xs) → H' b = some (.tup xs)) (frzs : ∀ b o u, H b = some (.frz o u) → H' b = some (.frz o u)) (tbls : ∀ b ps, H b = some (.tbl ps) → ∃ more, H' b = some (.tbl (ps ++ more)))
    (ns : ∀ m, s.heap.Ns X.env.locals m → h'.Ns X.env.locals m) (hok : HOk X.prog X.w H' h') (hg : AllBare g') :
    Inv X pins σ H' { s with heap := h', gens := g', drawn := d', toks := t' } := by
  have neL : ∀ b o, X.s₀.heap.get? b = some o → b ≠ X.env.locals := fun b o e => Nat.ne_of_lt (Nat.lt_of_lt_of_le (Heap.lt_size e) I.ok.above)
  have neC : ∀ b o, X.s₀.heap.get? b = some o → b ∉ X.ex → b ∉ ch := fun b o e hx hb => by
    rcases (hch b hb).1 with z | z
    · exact hx z
    · exact absurd (Nat.lt_of_lt_of_le (Heap.lt_size e) z) (Nat.lt_irrefl _)
  have cellK : ∀ x c, X.env.cells.lookup x = some c → ∀ v, s.heap.IsCell c v → h'.IsCell c v := fun x c e v ⟨o, ho, hd⟩ => by
    have nch : c ∉ ch := fun z => (hch c z).2.2.1 x c e rfl
    by_cases hc : c ∈ X.fs
    · obtain ⟨sl, q⟩ := slot c o (I.cne x c e) hc nch ho (I.freeC x c e)
      exact ⟨_, q, hd⟩
    · exact ⟨o, keep c o (I.cne x c e) hc nch ho (I.freeC x c e), hd⟩
  refine ⟨I.ok, I.os, hg, ⟨fun b o e n hb hx => ?_, fun b o e n hb hx => ?_, fun b o e n hx => ?_, fun b o e hx => ?_, fun b xs e => tups b xs (I.base.tups b xs e), fun b o xs e => frzs b o xs (I.base.frzs b o xs e), fun b ps e => ?_⟩, ?_, fun x c e => ?_, ?_, fun x c e => ?_, fun p hp => ?_, hok, I.len⟩
  · exact keep b o (neL b o e) hb (neC b o e hx) (I.base.keep b o e n hb hx) (I.base.free b o e n hx)
  · obtain ⟨sl, e1⟩ := I.base.slot b o e n hb hx
    obtain ⟨sl', e2⟩ := slot b _ (neL b o e) hb (neC b o e hx) e1 (I.base.free b o e n hx)
    exact ⟨sl', e2⟩
  · obtain ⟨o', e1⟩ := I.base.there b o e hx
    exact free b o' (neC b o e hx) e1 (I.base.free b o e n hx)
  · obtain ⟨o', e1⟩ := I.base.there b o e hx
    exact there b o' (neC b o e hx) e1
  · obtain ⟨m1, e1⟩ := I.base.tbls b ps e
    obtain ⟨m2, e2⟩ := tbls b _ e1
    exact ⟨m1 ++ m2, by rw [e2, Array.append_assoc]⟩
  · obtain ⟨m, hn, hl⟩ := I.loc
    refine ⟨m, ns m hn, fun i x v e1 e2 e3 => ?_⟩
    obtain ⟨u, r, l⟩ := hl i x v e1 e2 e3
    refine ⟨u, r, ?_⟩
    rcases l with l | ⟨k, c, e, z⟩
    · exact .inl l
    · exact .inr ⟨k, c, e, cellK x c e _ z⟩
  · obtain ⟨v, z⟩ := I.cell x c e
    exact ⟨v, cellK x c e v z⟩
  · obtain ⟨m, ⟨o, _, _, ho, _⟩, _⟩ := I.loc
    exact free _ o (fun z => (hch _ z).2.1 rfl) ho I.free
  · obtain ⟨v, o, ho, hd⟩ := I.cell x c e
    exact free c o (fun z => (hch c z).2.2.1 x c e rfl) ho (I.freeC x c e)
  · obtain ⟨e, n, ne, nf, d⟩ := I.pin p hp
    have nch : p.1 ∉ ch := fun z => (hch p.1 z).2.2.2 p hp rfl
    exact ⟨keep p.1 p.2 ne nf nch e n, free p.1 p.2 nch e n, ne, nf, d⟩
theorem Inv.un {t' : Nat} (I : Inv X pins σ H s) (u : Un X.fs [] H H' s.heap h') (hok : HOk X.prog X.w H' h') : Inv X pins σ H' { s with heap := h', toks := t' } := by
  obtain ⟨m, ⟨o, es, ep, ho, r⟩, _⟩ := id I.loc
  obtain ⟨sl, hL⟩ := u.any ho I.free (by simp)
  exact I.step (g' := s.gens) (d' := s.drawn) (ch := []) (fun _ z => nomatch z) (fun b o _ hb _ e n => u.keep b o e n hb (by simp)) (fun b o _ hb _ e n => u.slot b o e n hb (by simp)) (fun b o _ e n => u.free b o e n (by simp)) (fun b o _ e => u.there b o e (by simp)) u.tups u.frzs u.tbls (fun m' hm => by
    obtain ⟨o', es', ep', ho', r'⟩ := hm
    rw [ho] at ho'; cases ho'
    exact ⟨_, es', ep', hL, r'⟩) hok I.bare
theorem Inv.call {g' : Array GenState} {t' : Nat} {d' : Drawn} {ch : List Addr} (I : Inv X pins σ H s) (u : Un (frs X.stack) ch H H' s.heap h') (hok : HOk X.prog X.w H' h') (hg : AllBare g')
    (hch : ∀ b ∈ ch, (b ∈ X.ex ∨ X.s₀.heap.objs.size ≤ b) ∧ b ≠ X.env.locals ∧ (∀ x c, X.env.cells.lookup x = some c → c ≠ b) ∧ ∀ p ∈ X.pn ++ pins, p.1 ≠ b) :
    Inv X pins σ H' { s with heap := h', gens := g', drawn := d', toks := t' } := by
  obtain ⟨m, ⟨o, es, ep, ho, r⟩, _⟩ := id I.loc
  obtain ⟨sl, hL⟩ := u.any ho I.free fun z => (hch _ z).2.1 rfl
  exact I.step (ch := ch) hch (fun b o hL hb hc e n => u.keep b o e n (fun z => (List.mem_cons.mp (I.stkSub b z)).elim hL hb) hc) (fun b o _ _ hc e n => u.any e n hc) (fun b o hc e n => u.free b o e n hc) (fun b o hc e => u.there b o e hc) u.tups u.frzs u.tbls (fun m' hm => by
    obtain ⟨o', es', ep', ho', r'⟩ := hm
    rw [ho] at ho'; cases ho'
    exact ⟨_, es', ep', hL, r'⟩) hok hg
theorem Inv.turned {t' : Nat} {it : Addr} (I : Inv X pins σ H s) (k : ∀ b o, b ≠ it → s.heap.get? b = some o → h'.get? b = some o) (hn : H it = none) (hL : it ≠ X.env.locals)
    (h1 : it ∈ X.ex ∨ X.s₀.heap.objs.size ≤ it) (h2 : ∀ x c, X.env.cells.lookup x = some c → c ≠ it) (h3 : ∀ p ∈ X.pn ++ pins, p.1 ≠ it) : Inv X pins σ H { s with heap := h', toks := t' } := by
  have nit : ∀ b u, H b = some u → b ≠ it := fun b u e z => by rw [z, hn] at e; cases e
  refine I.step (g' := s.gens) (d' := s.drawn) (ch := [it]) (fun b hb => ?_) (fun b o _ _ hc e _ => k b o (fun z => hc (by simp [z])) e) (fun b o _ _ hc e _ => ⟨o.slots, k b o (fun z => hc (by simp [z])) e⟩) (fun _ _ _ _ n => n)
    (fun b o hc e => ⟨o, k b o (fun z => hc (by simp [z])) e⟩) (fun _ _ e => e) (fun _ _ _ e => e) (fun b ps e => ⟨#[], by rw [e]; simp⟩) (fun m hm => ?_) (fun b u e => ?_) I.bare
  · have e : b = it := by simpa using hb
    subst e
    exact ⟨h1, hL, h2, h3⟩
  · obtain ⟨o, es, ep, ho, r⟩ := hm
    exact ⟨o, es, ep, k _ o (Ne.symm hL) ho, r⟩
  · refine (I.hok b u e).stay (fun c v hc q => k c v ?_ q) (fun _ q => q) fun _ _ q => q
    rcases hc with z | z
    · rw [z]; exact nit b u e
    · exact nit c _ z
theorem Inv.tok (I : Inv X pins σ H s) (t : Nat) : Inv X pins σ H { s with toks := t } := I.un (h' := s.heap) (t' := t) Un.refl I.hok
theorem Inv.kept {t' : Nat} (I : Inv X pins σ H s) (k : ∀ b u, s.heap.get? b = some u → h'.get? b = some u) : Inv X pins σ H { s with heap := h', toks := t' } := I.un (Un.kept k) (I.hok.kept k)
theorem Inv.laid {a : Addr} {o : HO} {t' : Nat} (I : Inv X pins σ H s) (k : ∀ b u, s.heap.get? b = some u → h'.get? b = some u) (hp : s.heap.objs.size ≤ a) (new : ObjOk X.prog X.w (upd H a o) h' a o) :
    Inv X pins σ (upd H a o) { s with heap := h', toks := t' } := I.un (Un.laid k hp (I.hok.fresh hp)) (I.hok.laid k hp new)
theorem Inv.write {x e : Addr} {o : HO} {t' : Nat} (I : Inv X pins σ H s) (mu : Mut (H x)) (he : e = x ∨ H e = some (.own x)) (k : ∀ b u, b ≠ e → s.heap.get? b = some u → h'.get? b = some u) (heo : ∃ u, h'.get? e = some u)
    (new : ObjOk X.prog X.w (upd H x o) h' x o) : Inv X pins σ (upd H x o) { s with heap := h', toks := t' } := I.un (Un.write mu he k heo) (I.hok.write mu he k heo new)
theorem Inv.weak {σ' : List (Option V)} (I : Inv X pins σ H s) (hl : σ'.length = σ.length) (w : ∀ (i : Nat) v, σ'[i]? = some (some v) → σ[i]? = some (some v)) : Inv X pins σ' H s :=
  ⟨I.ok, I.os, I.bare, I.base, let ⟨m, hn, hl'⟩ := I.loc; ⟨m, hn, fun i x v e1 e2 e3 => hl' i x v e1 (w i v e2) e3⟩, I.cell, I.free, I.freeC, I.pin, I.hok, hl.trans I.len⟩
theorem Inv.pins_of {pins' : List (Addr × Obj)} (I : Inv X pins σ H s) (h : ∀ p ∈ pins', s.heap.get? p.1 = some p.2 ∧ H p.1 = none ∧ p.1 ≠ X.env.locals ∧ p.1 ∉ X.fs ∧ ∀ v, p.2.data ≠ .cell v) : Inv X pins' σ H s :=
  ⟨I.ok, I.os, I.bare, I.base, I.loc, I.cell, I.free, I.freeC, fun p hp => (List.mem_append.mp hp).elim (fun z => I.pin p (List.mem_append_left _ z)) (h p), I.hok, I.len⟩
theorem nodup_ix {N : List Str} (hN : N.Nodup) {i j : Nat} {x : Str} (a : N[i]? = some x) (b : N[j]? = some x) : i = j := by
  obtain ⟨h1, e1⟩ := List.getElem?_eq_some_iff.mp a
  obtain ⟨h2, e2⟩ := List.getElem?_eq_some_iff.mp b
  exact (List.getElem_inj hN).mp (e1.trans e2.symm)
theorem store_ok2 {M : Model} {A : Around} {E : Value → Shared → Prop} {i : Nat} {x : Str} {v : V} {u : Value} {Q : Unit → Shared → Prop} (I : Inv X pins σ H s) (hN : X.N.Nodup) (hi : X.N[i]? = some x) (hx : Loc X.env.scope x) (r : RelV v u)
    (h : ∀ s', Inv X pins (σ.set i (some v)) H s' → (∃ a, Heap.SameBut a s.heap s'.heap ∧ (a = X.env.locals ∨ X.env.cells.lookup x = some a)) → Q () s') (hf : X.fn x = true ∨ X.env.scope.names.lookup x = some .local := by first | exact .inl rfl | exact .inr rfl | assumption) : wpAny M A (storeName X.env x u) Q E s := by
  obtain ⟨m, hn, hl⟩ := id I.loc
  have hcls : (X.env.scope.kind == .class || (X.env.scope.kind == .module && X.env.locals != X.env.globals)) = false := by rw [I.ok.kind]; rfl
  have hiσ : i < σ.length := by rw [I.len]; exact (List.getElem?_eq_some_iff.mp hi).1
  have cne := I.cne
  have tracked : ∀ {a : Addr} {h' : Heap}, (∃ o, s.heap.get? a = some o ∧ H a = none) → Heap.SameBut a s.heap h' → HOk X.prog X.w H h' := fun {a h'} ha hs b ob e => by
    obtain ⟨_, _, hfree⟩ := ha
    refine (I.hok b ob e).stay (fun c w' hc q => (hs.2 c ?_).trans q) (fun _ q => q) fun _ _ q => q
    rintro rfl
    rcases hc with rfl | hc
    · rw [hfree] at e; cases e
    · rw [hfree] at hc; cases hc
  rcases hx with hk | hk
  · refine wpAny_storeName_local hk hn (fun h' hn' hs => ?_) hcls
    obtain ⟨oL, _, _, hoL, _⟩ := id hn
    refine h _ ⟨I.ok, I.os, I.bare, ⟨fun b o e n hb hx => ?_, fun b o e n hb hx => ?_, I.base.free, fun b o e hx => ?_, I.base.tups, I.base.frzs, I.base.tbls⟩, ⟨_, hn', fun j y v' e1 e2 e3 => ?_⟩, fun y c e => ?_, I.free, I.freeC, fun p hp => ?_, tracked ⟨oL, hoL, I.free⟩ hs, by simpa using I.len⟩ ⟨_, hs, .inl rfl⟩
    · exact (hs.2 b (Nat.ne_of_lt (Nat.lt_of_lt_of_le (Heap.lt_size e) I.ok.above))).trans (I.base.keep b o e n hb hx)
    · obtain ⟨sl, e1⟩ := I.base.slot b o e n hb hx
      exact ⟨sl, (hs.2 b (Nat.ne_of_lt (Nat.lt_of_lt_of_le (Heap.lt_size e) I.ok.above))).trans e1⟩
    · obtain ⟨o', e1⟩ := I.base.there b o e hx
      exact ⟨o', (hs.2 b (Nat.ne_of_lt (Nat.lt_of_lt_of_le (Heap.lt_size e) I.ok.above))).trans e1⟩
    · by_cases hj : j = i
      · subst hj
        rw [hi] at e1; cases e1
        rw [List.getElem?_set_self hiσ] at e2
        cases e2
        exact ⟨u, r, .inl ⟨hk, by simp⟩⟩
      · rw [List.getElem?_set_ne (Ne.symm hj)] at e2
        obtain ⟨u', r', q⟩ := hl j y v' e1 e2 e3
        refine ⟨u', r', ?_⟩
        rcases q with ⟨k, e⟩ | ⟨k, c, e, z⟩
        · refine .inl ⟨k, ?_⟩
          have : y ≠ x := fun e => hj (nodup_ix hN e1 (e ▸ hi))
          simp [this, e]
        · exact .inr ⟨k, c, e, z.sameBut hs (cne y c e)⟩
    · obtain ⟨w', z⟩ := I.cell y c e
      exact ⟨w', z.sameBut hs (cne y c e)⟩
    · obtain ⟨e, n, ne, nf, d⟩ := I.pin p hp
      exact ⟨(hs.2 p.1 ne).trans e, n, ne, nf, d⟩
  · have hfn : X.fn x = true := by
      rcases hf with z | z
      · exact z
      · rw [z] at hk; cases hk
    obtain ⟨c, hc⟩ := I.ok.has x (.inl hk)
    obtain ⟨w', z⟩ := I.cell x c hc
    refine wpAny_storeName_cell I.ok.kind hk hc z (fun h' hc' hs => ?_)
    obtain ⟨oc, hoc, hocd⟩ := id z
    refine h { s with heap := h' } ⟨I.ok, I.os, I.bare, ⟨fun b o e n hb hx => ?_, fun b o e n hb hx => ?_, I.base.free, fun b o e hx => ?_, I.base.tups, I.base.frzs, I.base.tbls⟩, ⟨m, hn.sameBut hs (Ne.symm (cne x c hc)), fun j y v' e1 e2 e3 => ?_⟩, fun y c' e => ?_, I.free, I.freeC, fun p hp => ?_, tracked ⟨oc, hoc, I.freeC x c hc⟩ hs, by simpa using I.len⟩ ⟨c, hs, .inr hc⟩
    · exact (hs.2 b (Nat.ne_of_lt (Nat.lt_of_lt_of_le (Heap.lt_size e) (I.ok.cab x c hfn hc)))).trans (I.base.keep b o e n hb hx)
    · obtain ⟨sl, e1⟩ := I.base.slot b o e n hb hx
      exact ⟨sl, (hs.2 b (Nat.ne_of_lt (Nat.lt_of_lt_of_le (Heap.lt_size e) (I.ok.cab x c hfn hc)))).trans e1⟩
    · obtain ⟨o', e1⟩ := I.base.there b o e hx
      exact ⟨o', (hs.2 b (Nat.ne_of_lt (Nat.lt_of_lt_of_le (Heap.lt_size e) (I.ok.cab x c hfn hc)))).trans e1⟩
    · by_cases hj : j = i
      · subst hj
        rw [hi] at e1; cases e1
        rw [List.getElem?_set_self hiσ] at e2
        cases e2
        exact ⟨u, r, .inr ⟨.inl hk, c, hc, hc'⟩⟩
      · rw [List.getElem?_set_ne (Ne.symm hj)] at e2
        obtain ⟨u', r', q⟩ := hl j y v' e1 e2 e3
        refine ⟨u', r', ?_⟩
        rcases q with q | ⟨k, c', e, z'⟩
        · exact .inl q
        · refine .inr ⟨k, c', e, z'.sameBut hs ?_⟩
          rintro rfl
          exact hj (nodup_ix hN e1 (I.ok.inj _ _ _ e hc ▸ hi))
    · by_cases hcc : c' = c
      · subst hcc; exact ⟨_, hc'⟩
      · obtain ⟨w2, z2⟩ := I.cell y c' e
        exact ⟨w2, z2.sameBut hs hcc⟩
    · obtain ⟨e, n, ne, nf, d⟩ := I.pin p hp
      refine ⟨(hs.2 p.1 ?_).trans e, n, ne, nf, d⟩
      intro q
      rw [q, hoc] at e
      have q' : oc = p.2 := Option.some.inj e
      exact d w' (by rw [← q']; exact hocd)
theorem store_ok {M : Model} {A : Around} {E : Value → Shared → Prop} {i : Nat} {x : Str} {v : V} {u : Value} {Q : Unit → Shared → Prop} (I : Inv X pins σ H s) (hN : X.N.Nodup) (hi : X.N[i]? = some x) (hx : Loc X.env.scope x) (r : RelV v u)
    (h : ∀ s', Inv X pins (σ.set i (some v)) H s' → Q () s') (hf : X.fn x = true ∨ X.env.scope.names.lookup x = some .local := by first | exact .inl rfl | exact .inr rfl | assumption) : wpAny M A (storeName X.env x u) Q E s :=
  store_ok2 I hN hi hx r (fun s' I' _ => h s' I') hf
theorem Inv.call' {s' : Shared} {ch : List Addr} (I : Inv X pins σ H s) (ho : s'.os = s.os) (u : Un (frs X.stack) ch H H' s.heap s'.heap) (hok : HOk X.prog X.w H' s'.heap) (hg : AllBare s'.gens)
    (hch : ∀ b ∈ ch, (b ∈ X.ex ∨ X.s₀.heap.objs.size ≤ b) ∧ b ≠ X.env.locals ∧ (∀ x c, X.env.cells.lookup x = some c → c ≠ b) ∧ ∀ p ∈ X.pn ++ pins, p.1 ≠ b) : Inv X pins σ H' s' := by
  obtain ⟨h', g', d', t', o'⟩ := s'
  have e : o' = s.os := ho
  subst e
  exact I.call (g' := g') (t' := t') (d' := d') u hok hg hch
end
noncomputable abbrev XK := Value → Option Addr → Hp → Prop
noncomputable abbrev St := List (Option V)
noncomputable abbrev VK := V → Hp → Prop
noncomputable abbrev TE := St → Hp → VK → Prop
noncomputable abbrev TT := St → Hp → (Bool → Hp → Prop) → Prop
noncomputable abbrev TA := St → Hp → (List V → Hp → Prop) → Prop
structure Ends where
  nx : St → Hp → Prop
  rt : VK
  bk : St → Hp → Prop := fun _ _ => False
  ct : St → Hp → Prop := fun _ _ => False
noncomputable abbrev TS := Ends → St → Hp → Prop
noncomputable def EP (X : Cx) (pins : List (Addr × Obj)) (σ : St) (Q : VK) (u : Value) (s' : Shared) : Prop := ∃ v H', Inv X pins σ H' s' ∧ RelV v u ∧ Q v H'
noncomputable def TP (X : Cx) (pins : List (Addr × Obj)) (σ : St) (Q : Bool → Hp → Prop) (b : Bool) (s' : Shared) : Prop := ∃ H', Inv X pins σ H' s' ∧ Q b H'
noncomputable def AP (X : Cx) (pins : List (Addr × Obj)) (σ : St) (Q : List V → Hp → Prop) (us : List Value) (s' : Shared) : Prop := ∃ vs H', Inv X pins σ H' s' ∧ Vals vs us ∧ Q vs H'
noncomputable def SP (X : Cx) (pins : List (Addr × Obj)) (D : Ends) (f : Flow) (s' : Shared) : Prop :=
  match f with
  | .next => ∃ σ' H', Inv X pins σ' H' s' ∧ D.nx σ' H'
  | .brk => ∃ σ' H', Inv X pins σ' H' s' ∧ D.bk σ' H'
  | .cont => ∃ σ' H', Inv X pins σ' H' s' ∧ D.ct σ' H'
  | .ret u => ∃ v σ' H', Inv X pins σ' H' s' ∧ RelV v u ∧ D.rt v H'
noncomputable def PE (X : Cx) (e : Expr) (t : TE) : Prop :=
  ∀ (pins : List (Addr × Obj)) (s : Shared) (σ : St) (H : Hp) (Q : VK), Inv X pins σ H s → t σ H Q → wpAny (model X.prog X.w) X.A (eval e X.env) (EP X pins σ Q) X.xe s
noncomputable def PT (X : Cx) (e : Expr) (t : TT) : Prop :=
  ∀ (pins : List (Addr × Obj)) (s : Shared) (σ : St) (H : Hp) (Q : Bool → Hp → Prop), Inv X pins σ H s → t σ H Q → wpAny (model X.prog X.w) X.A (isTrue e X.env (eval e X.env)) (TP X pins σ Q) X.xe s
noncomputable def PW (X : Cx) (e : Expr) (t : TT) : Prop :=
  ∀ (whole : Sem Value) (pins : List (Addr × Obj)) (s : Shared) (σ : St) (H : Hp) (Q : Bool → Hp → Prop), Inv X pins σ H s → t σ H Q → wpAny (model X.prog X.w) X.A (isTrue e X.env whole) (TP X pins σ Q) X.xe s
theorem PW.pt {X : Cx} {e : Expr} {t : TT} (h : PW X e t) : PT X e t := h _
noncomputable def PA (X : Cx) (es : List Expr) (t : TA) : Prop :=
  ∀ (pos : Pos) (pins : List (Addr × Obj)) (s : Shared) (σ : St) (H : Hp) (Q : List V → Hp → Prop), Inv X pins σ H s → t σ H Q → wpAny (model X.prog X.w) X.A (spliced (backTo pos (starEach es X.env))) (AP X pins σ Q) X.xe s
noncomputable def PS (X : Cx) (st : Stmt) (t : TS) : Prop :=
  ∀ (pins : List (Addr × Obj)) (s : Shared) (σ : St) (H : Hp) (D : Ends), Inv X pins σ H s → t D σ H → wpAny (model X.prog X.w) X.A (exec st X.env) (SP X pins D) X.xe s
noncomputable def PSs (X : Cx) (st : List Stmt) (t : TS) : Prop :=
  ∀ (pins : List (Addr × Obj)) (s : Shared) (σ : St) (H : Hp) (D : Ends), Inv X pins σ H s → t D σ H → wpAny (model X.prog X.w) X.A (execs st X.env) (SP X pins D) X.xe s
theorem thn {α : Type} {t : Sem α} {Q Q' : α → Shared → Prop} {M : Model} {A : Around} {E : Value → Shared → Prop} {s : Shared} (h : wpAny M A t Q E s) (hQ : ∀ a s, Q a s → Q' a s) : wpAny M A t Q' E s := wpAny_mono h hQ fun _ _ x => x
section
variable {X : Cx}
noncomputable def tVar (i : Nat) : TE := fun σ H Q => ∃ v, σ[i]? = some (some v) ∧ Q v H
noncomputable def tC (v : V) : TE := fun _ H Q => Q v H
theorem pe_var {i : Nat} {x : Str} {pos : Pos} (hN : X.N[i]? = some x) (hv : Vis X.env.scope x) (hd : (x == ("__debug__" : Str)) = false := by decide) (hcd : (x == ("__classdict__" : Str)) = false := by decide) : PE X (.Name x pos) (tVar i) := by
  intro pins s σ H Q I h
  obtain ⟨v, e, h⟩ := h
  obtain ⟨m, hn, hl⟩ := I.loc
  obtain ⟨u, r, l⟩ := hl i x v hN e hv
  have fin : EP X pins σ Q u s := ⟨v, H, I, r, h⟩
  rcases l with ⟨hk, hm⟩ | ⟨hk, c, hc, hcell⟩
  · exact wpAny_Name (wpAny_loadName_local I.ok.kind hk hn hm fin) hd
  · rcases hk with hk | hk
    · exact wpAny_Name (wpAny_loadName_cell I.ok.kind hk hc hcell fin) hd
    · exact wpAny_Name (wpAny_loadName_free I.ok.kind hk hc hcell fin hcd) hd
theorem pe_int {i j pos} : PE X (.Constant (.int i) j pos) (tC (.int i)) := fun _ _ _ H _ I h => wpAny_Constant_int ⟨.int i, H, I.tok _, ⟨_, rfl⟩, h⟩
theorem pe_bl {b j pos} : PE X (.Constant (.bool b) j pos) (tC (.bl b)) := fun _ _ _ H _ I h => Constant_bool ⟨.bl b, H, I, rfl, h⟩
theorem pe_non {j pos} : PE X (.Constant .none j pos) (tC .non) := fun _ _ _ H _ I h => Constant_none ⟨.non, H, I, rfl, h⟩
theorem pe_str {x j pos} : PE X (.Constant (.str x) j pos) (tC (.str x)) := fun _ _ _ H _ I h => Calls.Constant_str ⟨.str x, H, I.tok _, ⟨_, rfl⟩, h⟩
noncomputable def Gl (X : Cx) (x : Str) : Prop := X.env.kindOf x = some .globalImplicit
theorem ld_glob {E : Value → Shared → Prop} {pins : List (Addr × Obj)} {s : Shared} {σ : St} {H : Hp} {x : Str} {u : Value} {pos : Pos} {Q : Value → Shared → Prop} (I : Inv X pins σ H s) (hg : Gl X x) (hm : X.mg x = some u) (h : Q u s)
    (hd : (x == ("__debug__" : Str)) = false := by decide) : wpAny (model X.prog X.w) X.A (eval (.Name x pos) X.env) Q E s :=
  Calls.Name_function_global I.ok.kind hg (Calls.loadGlobal_global (by rw [I.ok.glob]; exact I.mod.glob.keeps I.bk) hm h) hd
theorem ld_blt {E : Value → Shared → Prop} {pins : List (Addr × Obj)} {s : Shared} {σ : St} {H : Hp} {x : Str} {u : Value} {pos : Pos} {Q : Value → Shared → Prop} (I : Inv X pins σ H s) (hg : Gl X x) (hm : X.mg x = none) (hv : bootBuiltins x = some u) (h : Q u s)
    (hn : x ≠ "__name__" := by decide) (hd : (x == ("__debug__" : Str)) = false := by decide) : wpAny (model X.prog X.w) X.A (eval (.Name x pos) X.env) Q E s := by
  obtain ⟨mb, h1, h2⟩ := I.mod.blt
  exact Calls.Name_function_global I.ok.kind hg (Calls.loadGlobal_builtin (by rw [I.ok.glob]; exact I.mod.glob.keeps I.bk) hm (by rw [I.ok.blt]; exact h1.keeps I.bk) ((h2 x hn).trans hv) h) hd
theorem pe_glob {x : Str} {v : V} {u : Value} {pos : Pos} (hg : Gl X x) (hm : X.mg x = some u) (r : RelV v u) (hd : (x == ("__debug__" : Str)) = false := by decide) : PE X (.Name x pos) (tC v) :=
  fun _ _ _ H _ I h => ld_glob I hg hm ⟨v, H, I, r, h⟩ hd
theorem pe_bltn {x : Str} {v : V} {u : Value} {pos : Pos} (hg : Gl X x) (hm : X.mg x = none) (hv : bootBuiltins x = some u) (r : RelV v u) (hn : x ≠ "__name__" := by decide) (hd : (x == ("__debug__" : Str)) = false := by decide) : PE X (.Name x pos) (tC v) :=
  fun _ _ _ H _ I h => ld_blt I hg hm hv ⟨v, H, I, r, h⟩ hn hd
variable {a b : Expr} {ta tb : TE} {pos : Pos}
noncomputable def tB (t : TE) : TT := fun σ H Q => t σ H fun x H1 => ∃ c, x = .bl c ∧ Q c H1
theorem pt_val {e : Expr} {t : TE} (h : PE X e t) (he : ∀ whole, isTrue e X.env whole = (do let v ← whole; standAt e.pos; holding [v] (truthy v)) := by intro _; rfl) : PT X e (tB t) := by
  intro pins s σ H Q I hw
  refine isTrue_plain (thn (h pins s σ H _ I hw) fun v s1 ⟨x, H1, I1, r1, q1⟩ => ?_) (he _)
  obtain ⟨d, rfl, q⟩ := q1
  cases r1
  exact wpAny_truthy_bool ⟨H1, I1, q⟩
variable {tA tB' : TT} {rest : List Expr}
noncomputable def tAnd (t u : TT) : TT := fun σ H Q => t σ H fun c H1 => if c = true then u σ H1 Q else Q false H1
noncomputable def tOr (t u : TT) : TT := fun σ H Q => t σ H fun c H1 => if c = true then Q true H1 else u σ H1 Q
noncomputable def tNot (t : TT) : TT := fun σ H Q => t σ H fun c H1 => Q (!c) H1
theorem pw_and1 (ha : PT X a tA) : PW X (.BoolOp .And [a] pos) tA := by
  intro wh pins s σ H Q I h
  refine isTrue_and (thn (ha pins s σ H Q I h) fun c s1 e => ?_)
  cases c with
  | true => exact isTrue_and_nil e
  | false => exact e
theorem pw_or1 (ha : PT X a tA) : PW X (.BoolOp .Or [a] pos) tA := by
  intro wh pins s σ H Q I h
  refine isTrue_or (thn (ha pins s σ H Q I h) fun c s1 e => ?_)
  cases c with
  | false => exact isTrue_or_nil e
  | true => exact e
theorem pw_and (ha : PT X a tA) (hb : PW X (.BoolOp .And (b :: rest) pos) tB') : PW X (.BoolOp .And (a :: b :: rest) pos) (tAnd tA tB') := by
  intro wh pins s σ H Q I h
  refine isTrue_and (thn (ha pins s σ H _ I h) fun c s1 ⟨H1, I1, q1⟩ => ?_)
  cases c with
  | true => exact hb wh pins s1 σ H1 Q I1 q1
  | false => exact ⟨H1, I1, q1⟩
theorem pw_or (ha : PT X a tA) (hb : PW X (.BoolOp .Or (b :: rest) pos) tB') : PW X (.BoolOp .Or (a :: b :: rest) pos) (tOr tA tB') := by
  intro wh pins s σ H Q I h
  refine isTrue_or (thn (ha pins s σ H _ I h) fun c s1 ⟨H1, I1, q1⟩ => ?_)
  cases c with
  | true => exact ⟨H1, I1, q1⟩
  | false => exact hb wh pins s1 σ H1 Q I1 q1
theorem pt_not (ha : PT X a tA) : PT X (.UnaryOp .Not a pos) (tNot tA) := by
  intro pins s σ H Q I h
  exact isTrue_not (ha pins s σ H (fun c H1 => Q (!c) H1) I h)
noncomputable def tAndV (ta tb : TE) : TE := fun σ H Q => ta σ H fun x H1 => ∃ c, x = .bl c ∧ if c = true then tb σ H1 Q else Q (.bl false) H1
noncomputable def tOrV (ta tb : TE) : TE := fun σ H Q => ta σ H fun x H1 => ∃ c, x = .bl c ∧ if c = true then Q (.bl true) H1 else tb σ H1 Q
theorem pe_one {op} {t : TE} (h : PE X a t) : PE X (.BoolOp op [a] pos) t := fun pins s σ H Q I hw => BoolOp_one (h pins s σ H Q I hw)
theorem pe_and (ha : PE X a ta) (hb : PE X (.BoolOp .And (b :: rest) pos) tb) : PE X (.BoolOp .And (a :: b :: rest) pos) (tAndV ta tb) := by
  intro pins s σ H Q I h
  refine BoolOp_and (thn (ha pins s σ H _ I h) fun v s1 ⟨x, H1, I1, r1, q1⟩ => ?_)
  obtain ⟨c, rfl, q1⟩ := q1
  cases r1
  refine wpAny_truthy_bool ?_
  cases c with
  | true => exact hb pins s1 σ H1 Q I1 q1
  | false => exact ⟨.bl false, H1, I1, rfl, q1⟩
theorem pe_or (ha : PE X a ta) (hb : PE X (.BoolOp .Or (b :: rest) pos) tb) : PE X (.BoolOp .Or (a :: b :: rest) pos) (tOrV ta tb) := by
  intro pins s σ H Q I h
  refine BoolOp_or (thn (ha pins s σ H _ I h) fun v s1 ⟨x, H1, I1, r1, q1⟩ => ?_)
  obtain ⟨c, rfl, q1⟩ := q1
  cases r1
  refine wpAny_truthy_bool ?_
  cases c with
  | false => exact hb pins s1 σ H1 Q I1 q1
  | true => exact ⟨.bl true, H1, I1, rfl, q1⟩
noncomputable def tIf (t : TT) (ta tb : TE) : TE := fun σ H Q => t σ H fun c H1 => if c = true then ta σ H1 Q else tb σ H1 Q
theorem pe_ifExp {c : Expr} (hc : PT X c tA) (ha : PE X a ta) (hb : PE X b tb) : PE X (.IfExp c a b pos) (tIf tA ta tb) := by
  intro pins s σ H Q I h
  refine wpAny_IfExp (thn (hc pins s σ H _ I h) fun d s1 ⟨H1, I1, q1⟩ => ?_)
  cases d with
  | true => exact ha pins s1 σ H1 Q I1 q1
  | false => exact hb pins s1 σ H1 Q I1 q1
end
noncomputable def SqL (K : PySem.W.Frag) (H : Hp) (a : Addr) (xs : List V) : Prop :=
  Rd H a (.lst xs) ∨
    ∃ (o : Obj) (its : Array Value) (n : Nat), K.lookup a = some o ∧ o.cls = .type "list" ∧ o.dict = none ∧ o.data = .seq its n ∧ its.size ≤ sizeLine ∧ Vals xs its.toList
noncomputable def SqT (K : PySem.W.Frag) (H : Hp) (a : Addr) (xs : List V) : Prop :=
  Rd H a (.tup xs) ∨
    ∃ (o : Obj) (its : Array Value) (n : Nat), K.lookup a = some o ∧ o.cls = .type "tuple" ∧ o.dict = none ∧ o.data = .seq its n ∧ its.size ≤ sizeLine ∧ Vals xs its.toList
noncomputable def absV : Value → Option V
  | .none => some .non
  | .bool b => some (.bl b)
  | .int i _ => some (.int i)
  | .str x _ => some (.str x)
  | .bytes b _ => some (.byt b)
  | .float b _ => some (.flt b)
  | .ref a => some (.ref a)
  | .type n => some (.ty n)
  | _ => none
theorem RelV.abs {x : V} {u : Value} (r : RelV x u) : absV u = some x := by
  cases x with
  | non => cases r; rfl
  | bl _ => cases r; rfl
  | int _ => obtain ⟨t, rfl⟩ := r; rfl
  | str _ => obtain ⟨t, rfl⟩ := r; rfl
  | byt _ => obtain ⟨t, rfl⟩ := r; rfl
  | flt _ => obtain ⟨t, rfl⟩ := r; rfl
  | ref _ => cases r; rfl
  | ty _ => cases r; rfl
theorem RelV.inj {x y : V} {u : Value} (r : RelV x u) (q : RelV y u) : x = y := Option.some.inj (r.abs.symm.trans q.abs)
theorem Vals.inj : ∀ {xs ys : List V} {us : List Value}, Vals xs us → Vals ys us → xs = ys
  | _, _, _, .nil, .nil => rfl
  | _, _, _, .cons r t, .cons r' t' => by rw [r.inj r', Vals.inj t t']
section
variable {X : Cx} {pins : List (Addr × Obj)} {σ : St} {H : Hp} {s : Shared} {a : Addr} {xs ys : List V}
theorem SqL.of {K : PySem.W.Frag} (h : H a = some (.lst xs)) : SqL K H a xs := .inl (.inl h)
theorem SqT.of {K : PySem.W.Frag} (h : H a = some (.tup xs)) : SqT K H a xs := .inl (.inl h)
theorem Inv.list (I : Inv X pins σ H s) (h : SqL X.K H a xs) : ∃ its : List Value, Vals xs its ∧ PlainL s.heap a its.toArray ∧ xs.length ≤ sizeLine := by
  rcases h with h | ⟨o, its, n, hk, hc, hd, hs, hz, r⟩
  · obtain ⟨z, its, n, r, e⟩ := h.ok I.hok
    exact ⟨its, r, ⟨_, n, e, rfl, rfl, rfl⟩, z⟩
  · refine ⟨its.toList, r, ⟨o, n, I.kIn a o hk, hc, hd, by simpa using hs⟩, ?_⟩
    have e := r.length
    simp only [Array.length_toList] at e
    omega
theorem Inv.tupN (I : Inv X pins σ H s) (h : SqT X.K H a xs) : ∃ its : List Value, Vals xs its ∧ TupN s.heap a its.toArray ∧ xs.length ≤ sizeLine := by
  rcases h with h | ⟨o, its, n, hk, hc, hd, hs, hz, r⟩
  · obtain ⟨z, its, r, p⟩ := h.ok I.hok
    exact ⟨its, r, p, z⟩
  · refine ⟨its.toList, r, ⟨o, I.kIn a o hk, ⟨hc, n, by simpa using hs⟩, hd⟩, ?_⟩
    have e := r.length
    simp only [Array.length_toList] at e
    omega
theorem Inv.tuple (I : Inv X pins σ H s) (h : SqT X.K H a xs) : ∃ its : List Value, Vals xs its ∧ IsTup s.heap a its.toArray ∧ xs.length ≤ sizeLine := let ⟨its, r, p, z⟩ := I.tupN h; ⟨its, r, p.tup, z⟩
theorem Inv.list_inj (I : Inv X pins σ H s) (h : SqL X.K H a xs) (h' : SqL X.K H a ys) : xs = ys := by
  obtain ⟨its, r, ⟨o, n, e, _, _, d⟩, _⟩ := I.list h
  obtain ⟨its', r', ⟨o', n', e', _, _, d'⟩, _⟩ := I.list h'
  rw [e] at e'; cases e'
  rw [d] at d'
  injection d' with d1 _
  have : its = its' := by simpa using congrArg Array.toList d1
  subst this
  exact r.inj r'
theorem Inv.tuple_inj (I : Inv X pins σ H s) (h : SqT X.K H a xs) (h' : SqT X.K H a ys) : xs = ys := by
  obtain ⟨its, r, ⟨o, e, _, n, d⟩, _⟩ := I.tuple h
  obtain ⟨its', r', ⟨o', e', _, n', d'⟩, _⟩ := I.tuple h'
  rw [e] at e'; cases e'
  rw [d] at d'
  injection d' with d1 _
  have : its = its' := by simpa using congrArg Array.toList d1
  subst this
  exact r.inj r'
end
noncomputable abbrev Cx.wish (X : Cx) (E : Value → Shared → Prop) : Cx := { X with xe := E }
noncomputable abbrev Cx.nox (X : Cx) : Cx := X.wish fun _ _ => False
theorem Cx.Ok.wish {X : Cx} (ok : X.Ok) (E : Value → Shared → Prop) : (X.wish E).Ok :=
  ⟨ok.mod, ok.kind, ok.glob, ok.blt, ok.above, ok.inj, ok.has, ok.cab, ok.hd, ok.frames, ok.stk, ok.exf, ok.bs, ok.bsz, ok.noex, ok.exfs, ok.funs, ok.frf⟩
theorem Cx.Ok.unwish {X : Cx} {E : Value → Shared → Prop} (ok : (X.wish E).Ok) : X.Ok :=
  ⟨ok.mod, ok.kind, ok.glob, ok.blt, ok.above, ok.inj, ok.has, ok.cab, ok.hd, ok.frames, ok.stk, ok.exf, ok.bs, ok.bsz, ok.noex, ok.exfs, ok.funs, ok.frf⟩
section
variable {X : Cx} {pins : List (Addr × Obj)} {σ : St} {H : Hp} {s : Shared} {E : Value → Shared → Prop}
theorem Inv.wish (I : Inv X pins σ H s) (E : Value → Shared → Prop) : Inv (X.wish E) pins σ H s := ⟨I.ok.wish E, I.os, I.bare, I.base, I.loc, I.cell, I.free, I.freeC, I.pin, I.hok, I.len⟩
theorem Inv.unwish (I : Inv (X.wish E) pins σ H s) : Inv X pins σ H s := ⟨I.ok.unwish, I.os, I.bare, I.base, I.loc, I.cell, I.free, I.freeC, I.pin, I.hok, I.len⟩
theorem SP.unwish {D : Ends} {f : Flow} {s' : Shared} (h : SP (X.wish E) pins D f s') : SP X pins D f s' := by
  cases f with
  | next => obtain ⟨σ', H', I, q⟩ := h; exact ⟨σ', H', I.unwish, q⟩
  | brk => obtain ⟨σ', H', I, q⟩ := h; exact ⟨σ', H', I.unwish, q⟩
  | cont => obtain ⟨σ', H', I, q⟩ := h; exact ⟨σ', H', I.unwish, q⟩
  | ret u => obtain ⟨v, σ', H', I, r, q⟩ := h; exact ⟨v, σ', H', I.unwish, r, q⟩
theorem PSs.nox {st : List Stmt} {t : TS} (h : PSs X.nox st t) : PSs X st t := fun pins s σ H D I hw =>
  wpAny_mono (h pins s σ H D (I.wish _) hw) (fun _ _ q => q.unwish) fun _ _ z => False.elim z
end
section
variable {X : Cx} {st : Stmt} {rest : List Stmt} {t u : TS} {e : Expr} {te : TE} {pos : Pos}
noncomputable def tNext : TS := fun D σ H => D.nx σ H
noncomputable def tSeq (t u : TS) : TS := fun D σ H => t { D with nx := u D } σ H
theorem pss_nil : PSs X [] tNext := fun _ _ σ H _ I h => wpAny_execs_nil ⟨σ, H, I, h⟩
theorem pss_cons (h1 : PS X st t) (h2 : PSs X rest u) : PSs X (st :: rest) (tSeq t u) := by
  intro pins s σ H D I h
  refine wpAny_execs_cons (thn (h1 pins s σ H { D with nx := u D } I h) fun f s1 q => ?_)
  cases f with
  | next =>
    obtain ⟨σ', H', I', q⟩ := q
    exact h2 pins s1 σ' H' D I' q
  | ret v => exact q
  | brk => exact q
  | cont => exact q
theorem pss_one (h1 : PS X st t) : PSs X [st] t := by
  intro pins s σ H D I h
  refine wpAny_execs_cons (thn (h1 pins s σ H D I h) fun f s1 q => ?_)
  cases f with
  | next => exact wpAny_execs_nil q
  | ret v => exact q
  | brk => exact q
  | cont => exact q
theorem Inv.quiet {pins : List (Addr × Obj)} {σ : St} {H : Hp} {s : Shared} (I : Inv X pins σ H s) : interactive X.env = false := by simp [interactive, I.ok.kind]
noncomputable def tDrop (te : TE) : TS := fun D σ H => te σ H fun _ H1 => D.nx σ H1
theorem ps_expr (he : PE X e te) (hs : swapsWith e none pos.line X.env = pure false := by rfl) : PS X (.Expr e pos) (tDrop te) := by
  intro pins s σ H D I h
  exact wpAny_Expr_any (thn (he pins s σ H _ I h) fun v s1 ⟨x, H1, I1, r1, q1⟩ => ⟨σ, H1, I1, q1⟩) I.quiet hs
noncomputable def tRet (te : TE) : TS := fun D σ H => te σ H D.rt
theorem ps_ret (he : PE X e te) : PS X (.Return (some e) pos) (tRet te) := by
  intro pins s σ H D I h
  exact wpAny_Return_some (thn (he pins s σ H _ I h) fun v s1 ⟨x, H1, I1, r1, q1⟩ => ⟨x, σ, H1, I1, r1, q1⟩)
noncomputable def tIfS (c : TT) (t u : TS) : TS := fun D σ H => c σ H fun b H1 => if b = true then t D σ H1 else u D σ H1
theorem ps_if {c : Expr} {a b : List Stmt} {tc : TT} (hc : PT X c tc) (ha : PSs X a t) (hb : PSs X b u) : PS X (.If c a b pos) (tIfS tc t u) := by
  intro pins s σ H D I h
  refine wpAny_If (thn (hc pins s σ H _ I h) fun d s1 ⟨H1, I1, q1⟩ => ?_)
  cases d with
  | true => exact ha pins s1 σ H1 D I1 q1
  | false => exact hb pins s1 σ H1 D I1 q1
noncomputable def tNever : TS := fun _ _ _ => False
theorem pss_never {sts : List Stmt} : PSs X sts tNever := fun _ _ _ _ _ _ h => h.elim
end
noncomputable abbrev TG := V → St → Hp → (St → Hp → Prop) → Prop
noncomputable abbrev TGs := List V → St → Hp → (St → Hp → Prop) → Prop
noncomputable def PG (X : Cx) (target : Expr) (t : TG) : Prop :=
  ∀ (pins : List (Addr × Obj)) (s : Shared) (σ : St) (H : Hp) (v : V) (u : Value) (Q : St → Hp → Prop), Inv X pins σ H s → RelV v u → t v σ H Q →
    wpAny (model X.prog X.w) X.A (assign target X.env u) (fun _ s' => ∃ σ' H', Inv X pins σ' H' s' ∧ Q σ' H') X.xe s
noncomputable def PGs (X : Cx) (ts : List Expr) (t : TGs) : Prop :=
  ∀ (pins : List (Addr × Obj)) (s : Shared) (σ : St) (H : Hp) (vs : List V) (us : List Value) (Q : St → Hp → Prop), Inv X pins σ H s → Vals vs us → t vs σ H Q →
    wpAny (model X.prog X.w) X.A (assignInOrder ((assignEach ts X.env).map (·.2)) us) (fun _ s' => ∃ σ' H', Inv X pins σ' H' s' ∧ Q σ' H') X.xe s
noncomputable abbrev TSet := V → V → V → Hp → (Hp → Prop) → Prop
noncomputable def PSet (X : Cx) (t : TSet) : Prop :=
  ∀ (pins : List (Addr × Obj)) (s : Shared) (σ : St) (H : Hp) (o i v : V) (ov iv u : Value) (Q : Hp → Prop), Inv X pins σ H s → RelV o ov → RelV i iv → RelV v u → t o i v H Q →
    wpAny (model X.prog X.w) X.A (setItem ov iv u) (fun _ s' => ∃ H', Inv X pins σ H' s' ∧ Q H') X.xe s
noncomputable abbrev TIp := V → V → Hp → VK → Prop
noncomputable def PIp (X : Cx) (op : Operator) (t : TIp) : Prop :=
  ∀ (pins : List (Addr × Obj)) (s : Shared) (σ : St) (H : Hp) (x y : V) (v u : Value) (Q : VK), Inv X pins σ H s → RelV x v → RelV y u → t x y H Q →
    wpAny (model X.prog X.w) X.A (inplaceOp op v u) (EP X pins σ Q) X.xe s
section
variable {X : Cx} {pos : Pos}
noncomputable def gName (i : Nat) : TG := fun v σ H Q => Q (σ.set i (some v)) H
theorem pg_name {i : Nat} {x : Str} (hN : X.N.Nodup) (hi : X.N[i]? = some x) (hx : Loc X.env.scope x) (hf : X.fn x = true ∨ X.env.scope.names.lookup x = some .local := by first | exact .inl rfl | exact .inr rfl | assumption) : PG X (.Name x pos) (gName i) := by
  intro pins s σ H v u Q I r h
  exact wpAny_assign_Name (store_ok I hN hi hx r (fun s' I' => ⟨_, H, I', h⟩) hf)
noncomputable def gNil : TGs := fun vs σ H Q => vs = [] ∧ Q σ H
noncomputable def gCons (t : TG) (u : TGs) : TGs := fun vs σ H Q => ∃ v r, vs = v :: r ∧ t v σ H fun σ' H' => u r σ' H' Q
theorem pgs_nil : PGs X [] gNil := by
  intro pins s σ H vs us Q I r h
  obtain ⟨e, h⟩ := h
  subst e
  cases r
  exact assignInOrder_nil ⟨σ, H, I, h⟩
theorem pgs_cons {e : Expr} {es : List Expr} {t : TG} {u : TGs} (h1 : PG X e t) (h2 : PGs X es u)
    (hs : (assignEach (e :: es) X.env).map (·.2) = assign e X.env :: (assignEach es X.env).map (·.2) := by rfl) : PGs X (e :: es) (gCons t u) := by
  intro pins s σ H vs us Q I r h
  obtain ⟨v, vr, e1, h⟩ := h
  subst e1
  cases r with
  | cons r rr =>
    rw [hs]
    refine assignInOrder_cons (thn (h1 pins s σ H _ _ _ I r h) fun _ s1 ⟨σ1, H1, I1, q1⟩ => ?_)
    exact h2 pins s1 σ1 H1 _ _ Q I1 rr q1
noncomputable def gTup (K : PySem.W.Frag) (n : Nat) (t : TGs) : TG := fun v σ H Q => ∃ a xs, v = .ref a ∧ SqT K H a xs ∧ xs.length = n ∧ t xs σ H Q
theorem pg_tup {es : List Expr} {k : Nat} {t : TGs} {n : Nat} (hc : X.calm = true) (h : PGs X es t)
    (hn : (assignEach es X.env).length = n := by rfl) (hst : (assignEach es X.env).findIdx? (·.1) = none := by rfl) : PG X (.Tuple es k pos) (gTup X.K n t) := by
  intro pins s σ H v u Q I r hw
  obtain ⟨a, xs, e1, hq, hl, hw⟩ := hw
  subst e1
  cases r
  obtain ⟨its, rv, ht, hz⟩ := I.tuple hq
  refine assign_Tuple_tuple (I.ok.hd hc) ht (by simp [hn, ← hl, rv.length]) hst fun h' hx => ?_
  have I1 : Inv X pins σ H { s with heap := h' } := I.kept (t' := s.toks) fun b o e => hx b o (Nat.ne_of_lt (Heap.lt_size e)) e
  exact h pins _ σ H xs _ Q I1 (by simpa using rv) hw
noncomputable def gSub (to ti : TE) (t : TSet) : TG := fun v σ H Q => to σ H fun o H1 => ti σ H1 fun i H2 => t o i v H2 fun H3 => Q σ H3
theorem pg_sub {o i : Expr} {to ti : TE} {t : TSet} (ho : PE X o to) (hi : PE X i ti) (hs : PSet X t)
    (ha : ∀ v, assign (.Subscript o i pos) X.env v = (do
      let ov ← holding [v] (eval o X.env)
      let iv ← holding [v, ov] (eval i X.env)
      standAt pos
      holding [v, ov, iv] (setItem ov iv v)
      release [v, ov, iv] []) := by intro _; rfl) : PG X (.Subscript o i pos) (gSub to ti t) := by
  intro pins s σ H v u Q I r h
  rw [ha]
  refine wpAny_bind (wpAny_holding (thn (ho pins s σ H _ I h) fun ov s1 ⟨x, H1, I1, r1, q1⟩ => ?_))
  refine wpAny_bind (wpAny_holding (thn (hi pins s1 σ H1 _ I1 q1) fun iv s2 ⟨y, H2, I2, r2, q2⟩ => ?_))
  refine wpAny_bind (wpAny_standAt (wpAny_bind (wpAny_holding (thn (hs pins s2 σ H2 x y v ov iv u _ I2 r1 r2 r q2) fun _ s3 ⟨H3, I3, q3⟩ => ?_))))
  exact wpAny_release ⟨σ, H3, I3, q3⟩
noncomputable def tAsg (te : TE) (g : TG) : TS := fun D σ H => te σ H fun x H1 => g x σ H1 D.nx
theorem ps_asg {tg e : Expr} {te : TE} {g : TG} (he : PE X e te) (hg : PG X tg g) (hs : swapsWithSole [tg] e pos.line X.env = pure false := by rfl) (hw : swappedStores [tg] e X.env = pure none := by rfl)
    (h1 : (assignEach [tg] X.env).map (·.2) = [assign tg X.env] := by rfl) : PS X (.Assign [tg] e pos) (tAsg te g) := by
  intro pins s σ H D I h
  refine wpAny_Assign_stores (thn (he pins s σ H _ I h) fun v s1 ⟨x, H1, I1, r1, q1⟩ => ?_) hs hw
  rw [h1]
  exact thn (hg pins s1 σ H1 x v _ I1 r1 q1) fun _ s2 q => q
theorem ps_set {i : Nat} {x : Str} {e : Expr} {te : TE} {pos' : Pos} (hN : X.N.Nodup) (hi : X.N[i]? = some x) (hx : Loc X.env.scope x) (he : PE X e te) (hs : swapsWith e (some (.Name x pos')) pos.line X.env = pure false := by rfl) (hf : X.fn x = true ∨ X.env.scope.names.lookup x = some .local := by first | exact .inl rfl | exact .inr rfl | assumption) :
    PS X (.Assign [.Name x pos'] e pos) (tAsg te (gName i)) := by
  intro pins s σ H D I h
  refine wpAny_Assign_Name (thn (he pins s σ H _ I h) fun v s1 ⟨y, H1, I1, r1, q1⟩ => ?_) hs
  exact store_ok I1 hN hi hx r1 (fun s2 I2 => ⟨_, H1, I2, q1⟩) hf
noncomputable def tAug (i : Nat) (te : TE) (ti : TIp) : TS := fun D σ H => ∃ x, σ[i]? = some (some x) ∧ te σ H fun y H1 => ti x y H1 fun z H2 => D.nx (σ.set i (some z)) H2
theorem ps_aug {i : Nat} {x : Str} {e : Expr} {te : TE} {op : Operator} {ti : TIp} {pos' : Pos} (hN : X.N.Nodup) (hi : X.N[i]? = some x) (hx : Loc X.env.scope x) (he : PE X e te) (ho : PIp X op ti) (hf : X.fn x = true ∨ X.env.scope.names.lookup x = some .local := by first | exact .inl rfl | exact .inr rfl | assumption) :
    PS X (.AugAssign (.Name x pos') op e pos) (tAug i te ti) := by
  intro pins s σ H D I h
  obtain ⟨v, e1, h⟩ := h
  obtain ⟨m, hn, hl⟩ := I.loc
  have vis : Vis X.env.scope x := by rcases hx with k | k; exact .inl k; exact .inr (.inl k)
  obtain ⟨u, r, l⟩ := hl i x v hi e1 vis
  refine wpAny_AugAssign_Name ?_
  have go : wpAny (model X.prog X.w) X.A (eval e X.env) (fun w s₂ => wpAny (model X.prog X.w) X.A (inplaceOp op u w) (fun r s₃ => wpAny (model X.prog X.w) X.A (storeName X.env x r) (fun _ => SP X pins D .next) X.xe s₃) X.xe s₂) X.xe s := by
    refine thn (he pins s σ H _ I h) fun w s1 ⟨y, H1, I1, r1, q1⟩ => ?_
    refine thn (ho pins s1 σ H1 v y u w _ I1 r r1 q1) fun z s2 ⟨zv, H2, I2, r2, q2⟩ => ?_
    exact store_ok I2 hN hi hx r2 (fun s3 I3 => ⟨_, H2, I3, q2⟩) hf
  rcases l with ⟨hk, hm⟩ | ⟨hk, c, hc, hcell⟩
  · exact wpAny_loadName_local I.ok.kind hk hn hm go
  · rcases hk with hk | hk
    · exact wpAny_loadName_cell I.ok.kind hk hc hcell go
    · rcases hx with k | k
      · have : X.env.scope.names.lookup x = some .free := hk
        rw [k] at this; cases this
      · have : X.env.scope.names.lookup x = some .free := hk
        rw [k] at this; cases this
end
section
variable {X : Cx} {pos : Pos}
end
structure It where
  go : Nat → Hp → Prop
  yld : Nat → Hp → V → Hp → Prop
  stop : Nat → Hp → Prop
noncomputable def FpOk (X : Cx) (pins : List (Addr × Obj)) (H : Hp) (b : Addr) : Prop :=
  H b = none ∧ b ≠ X.env.locals ∧ b ∉ X.fs ∧ (b ∈ X.ex ∨ X.s₀.heap.objs.size ≤ b) ∧ (∀ x c, X.env.cells.lookup x = some c → c ≠ b) ∧ ∀ p ∈ X.pn ++ pins, p.1 ≠ b
theorem Inv.fpOk {X : Cx} {pins : List (Addr × Obj)} {σ : St} {H H' : Hp} {s : Shared} {b : Addr} (I : Inv X pins σ H s) (hb : s.heap.objs.size ≤ b) (hn : H' b = none) : FpOk X pins H' b := by
  refine ⟨hn, Nat.ne_of_gt (Nat.lt_of_lt_of_le I.lt hb), I.nofs hb, .inr (Nat.le_trans I.sz hb), fun x c e z => ?_, fun p hp z => ?_⟩
  · obtain ⟨v, q⟩ := I.cell x c e
    exact absurd (Nat.lt_of_lt_of_le q.lt (by rw [z]; exact hb)) (Nat.lt_irrefl _)
  · exact absurd (Nat.lt_of_lt_of_le (Heap.lt_size (I.pin p hp).1) (by rw [z]; exact hb)) (Nat.lt_irrefl _)
structure Turn (P : Program) (w : World) (K : PySem.W.Frag) (tg : Expr) (J : It) (fp : List Addr) (it : Addr) (tn : Nat → Heap → Prop) : Prop where
  mem : it ∈ fp
  obj : ∀ i h, tn i h → ∀ b ∈ fp, ∃ o, h.get? b = some o ∧ ∀ v, o.data ≠ .cell v
  keep : ∀ i h h', tn i h → (∀ b ∈ fp, ∀ o, h.get? b = some o → h'.get? b = some o) → tn i h'
  item : ∀ (X : Cx), X.prog = P → X.w = w → X.K = K → X.calm = true → ∀ (i : Nat) (pins : List (Addr × Obj)) (s : Shared) (σ : St) (H : Hp) (E : Value → Shared → Prop), Inv X pins σ H s → (∀ b ∈ fp, FpOk X pins H b) → tn i s.heap → J.go i H →
    wpAny (model P w) X.A (pyNext (.ref it)) (fun r s1 => ∃ u, r = some u ∧
      wpAny (model P w) X.A (letOwnedTupleGo tg (.ref it) u) (fun _ s2 => ∃ x H', Inv X pins σ H' s2 ∧ RelV x u ∧ J.yld i H x H' ∧ tn (i + 1) s2.heap ∧ ∀ b ∈ fp, H' b = none) E s1) E s
  done : ∀ (X : Cx), X.prog = P → X.w = w → X.K = K → X.calm = true → ∀ (i : Nat) (pins : List (Addr × Obj)) (s : Shared) (σ : St) (H : Hp) (E : Value → Shared → Prop), Inv X pins σ H s → (∀ b ∈ fp, FpOk X pins H b) → tn i s.heap → J.stop i H →
    wpAny (model P w) X.A (pyNext (.ref it)) (fun r s1 => r = none ∧ Inv X pins σ H s1) E s
  self : ∀ (A : Around) (i : Nat) (s : Shared) (Q : Value → Shared → Prop) (E : Value → Shared → Prop), tn i s.heap → Q (.ref it) s → wpAny (model P w) A (pyIter (.ref it)) Q E s
noncomputable abbrev TI := St → Hp → (It → Hp → Prop) → Prop
noncomputable def PIE (X : Cx) (pins : List (Addr × Obj)) (σ : St) (tg : Expr) (R : It → Hp → Prop) (itv : Value) (s2 : Shared) : Prop :=
  ∃ (it : Addr) (fp : List Addr) (tn : Nat → Heap → Prop) (J : It) (H' : Hp), itv = .ref it ∧ Inv X pins σ H' s2 ∧ Turn X.prog X.w X.K tg J fp it tn ∧ tn 0 s2.heap ∧ (∀ b ∈ fp, FpOk X pins H' b) ∧ R J H'
noncomputable def PI (X : Cx) (tg iter : Expr) (wi : TI) : Prop :=
  ∀ (pins : List (Addr × Obj)) (s : Shared) (σ : St) (H : Hp) (R : It → Hp → Prop), Inv X pins σ H s → wi σ H R →
    wpAny (model X.prog X.w) X.A (eval iter X.env) (fun v s1 => wpAny (model X.prog X.w) X.A (pyIter v) (PIE X pins σ tg R) X.xe s1) X.xe s
theorem go_of {M : Model} {A : Around} {E : Value → Shared → Prop} {s : Shared} {tg : Expr} {it : Addr} {u : Value} {o : Obj} {n : String} {vs : Array Value} {Q : Unit → Shared → Prop} (ho : s.heap.get? it = some o) (hc : o.cls = .type n) (hd : o.data = .fields vs)
    (hn : ["enumerate", "zip", "dict_itemiterator", "dict_reverseitemiterator", "odict_iterator", "itertools.zip_longest", "itertools.pairwise"].contains n = false) (hQ : Q () s) : wpAny M A (letOwnedTupleGo tg (.ref it) u) Q E s := by
  unfold letOwnedTupleGo
  cases tg <;> first
    | exact wpAny_pure hQ
    | (cases u <;> first
        | exact wpAny_pure hQ
        | (refine wpAny_bind (wpAny_load ho ?_)
           rw [hc, hd]
           show wpAny M A (if (["enumerate", "zip", "dict_itemiterator", "dict_reverseitemiterator", "odict_iterator", "itertools.zip_longest", "itertools.pairwise"].contains n && vs[0]? == some (rawInt _)) = true then _ else _) Q E s
           rw [if_neg (by intro h; rw [hn, Bool.false_and] at h; cases h)]
           exact wpAny_pure hQ))
noncomputable def Itl (K : PySem.W.Frag) (a : Addr) : It :=
  ⟨fun i H => ∃ xs x, SqL K H a xs ∧ xs[i]? = some x, fun i H x H' => H' = H ∧ ∀ xs, SqL K H a xs → xs[i]? = some x, fun i H => ∃ xs, SqL K H a xs ∧ xs.length ≤ i⟩
noncomputable def Itt (K : PySem.W.Frag) (a : Addr) : It :=
  ⟨fun i H => ∃ xs x, SqT K H a xs ∧ xs[i]? = some x, fun i H x H' => H' = H ∧ ∀ xs, SqT K H a xs → xs[i]? = some x, fun i H => ∃ xs, SqT K H a xs ∧ xs.length ≤ i⟩
noncomputable def Itr (lo : Int) (n : Nat) : It := ⟨fun i _ => i < n, fun i H x H' => H' = H ∧ x = .int (lo + i), fun i _ => n ≤ i⟩
theorem turn_list {P : Program} {w : World} {K : PySem.W.Frag} {tg : Expr} (a it : Addr) : Turn P w K tg (Itl K a) [it] it (fun i h => h.IsListIter it a i) where
  mem := by simp
  obj := fun i h st b hb => by
    have e : b = it := by simpa using hb
    subst e
    obtain ⟨o, e, c, d⟩ := st
    exact ⟨o, e, fun v z => by rw [d] at z; cases z⟩
  keep := fun i h h' st k => st.at fun o e => k it (by simp) o e
  item := by
    intro X hP hw hK hc i pins s σ H E I hf st hg
    subst hP hw hK
    obtain ⟨xs, x, hq, hx⟩ := hg
    obtain ⟨its, rv, p, hz⟩ := I.list hq
    obtain ⟨u, hu, ru⟩ := rv.get hx
    obtain ⟨f0, f1, f2, f3, f4, f5⟩ := hf it (by simp)
    refine wpAny_pyNext_list_item st p.isList (x := u) (by simpa using hu) fun h' st' sb => ?_
    have I1 : Inv X pins σ H { s with heap := h' } := I.turned (t' := s.toks) (fun b o hb e => (sb.2 b hb).trans e) f0 f1 f3 f4 f5
    obtain ⟨o, e, c, d⟩ := id st'
    exact ⟨u, rfl, go_of (s := { s with heap := h' }) e c d (by decide) ⟨x, H, I1, ru, ⟨rfl, fun ys hy => by rw [I.list_inj hy hq]; exact hx⟩, st', fun b hb => (hf b hb).1⟩⟩
  done := by
    intro X hP hw hK hc i pins s σ H E I hf st hg
    subst hP hw hK
    obtain ⟨xs, hq, hx⟩ := hg
    obtain ⟨its, rv, p, hz⟩ := I.list hq
    obtain ⟨f0, f1, f2, f3, f4, f5⟩ := hf it (by simp)
    have hl := rv.length
    exact wpAny_pyNext_list_end (I.ok.hd hc) st p.isList (by simp; omega) fun h' eb => ⟨rfl, I.turned (t' := s.toks) (fun b o hb e => eb b o hb e) f0 f1 f3 f4 f5⟩
  self := fun _ _ _ _ _ st h => wpAny_pyIter_listiter st h
theorem turn_tuple {P : Program} {w : World} {K : PySem.W.Frag} {tg : Expr} (a it : Addr) : Turn P w K tg (Itt K a) [it] it (fun i h => h.IsTupleIter it a i) where
  mem := by simp
  obj := fun i h st b hb => by
    have e : b = it := by simpa using hb
    subst e
    obtain ⟨o, e, c, d⟩ := st
    exact ⟨o, e, fun v z => by rw [d] at z; cases z⟩
  keep := fun i h h' st k => st.at fun o e => k it (by simp) o e
  item := by
    intro X hP hw hK hc i pins s σ H E I hf st hg
    subst hP hw hK
    obtain ⟨xs, x, hq, hx⟩ := hg
    obtain ⟨its, rv, p, hz⟩ := I.tuple hq
    obtain ⟨u, hu, ru⟩ := rv.get hx
    obtain ⟨f0, f1, f2, f3, f4, f5⟩ := hf it (by simp)
    refine wpAny_pyNext_tuple_item st (show s.heap.IsTuple a its.toArray from p) (x := u) (by simpa using hu) fun h' st' sb => ?_
    have I1 : Inv X pins σ H { s with heap := h' } := I.turned (t' := s.toks) (fun b o hb e => (sb.2 b hb).trans e) f0 f1 f3 f4 f5
    obtain ⟨o, e, c, d⟩ := id st'
    exact ⟨u, rfl, go_of (s := { s with heap := h' }) e c d (by decide) ⟨x, H, I1, ru, ⟨rfl, fun ys hy => by rw [I.tuple_inj hy hq]; exact hx⟩, st', fun b hb => (hf b hb).1⟩⟩
  done := by
    intro X hP hw hK hc i pins s σ H E I hf st hg
    subst hP hw hK
    obtain ⟨xs, hq, hx⟩ := hg
    obtain ⟨its, rv, p, hz⟩ := I.tuple hq
    obtain ⟨f0, f1, f2, f3, f4, f5⟩ := hf it (by simp)
    have hl := rv.length
    exact wpAny_pyNext_tuple_end (I.ok.hd hc) st (show s.heap.IsTuple a its.toArray from p) (by simp; omega) fun h' eb => ⟨rfl, I.turned (t' := s.toks) (fun b o hb e => eb b o hb e) f0 f1 f3 f4 f5⟩
  self := fun _ _ _ _ _ st h => wpAny_pyIter_tupleiter st h
theorem turn_range {P : Program} {w : World} {K : PySem.W.Frag} {tg : Expr} (it : Addr) (lo : Int) (n : Nat) : Turn P w K tg (Itr lo n) [it] it (fun i h => IsRangeIter h it (lo + (i : Nat) * 1) ((n : Int) - (i : Nat)) 1) where
  mem := by simp
  obj := fun i h st b hb => by
    have e : b = it := by simpa using hb
    subst e
    exact ⟨_, st, fun v z => by
      have z' : Data.fields _ = Data.cell v := z
      cases z'⟩
  keep := fun i h h' st k => k it (by simp) _ st
  item := by
    intro X hP hw hK hc i pins s σ H E I hf st hg
    subst hP hw hK
    obtain ⟨f0, f1, f2, f3, f4, f5⟩ := hf it (by simp)
    have W := Walks.range (prog := X.prog) (w := X.w) (I.ok.hd hc) it lo 1 n
    refine W.item i s _ _ hg st fun v h' tk hv st' kk => ?_
    obtain ⟨t, rfl⟩ := hv
    have I1 : Inv X pins σ H { s with heap := h', toks := tk } := I.turned (fun b o hb e => kk b o (by simpa using hb) e) f0 f1 f3 f4 f5
    refine ⟨_, rfl, go_of (s := { s with heap := h', toks := tk }) (n := "range_iterator") st' rfl rfl (by decide) ⟨.int (lo + i), H, I1, ⟨t, ?_⟩, ⟨rfl, rfl⟩, st', fun b hb => (hf b hb).1⟩⟩
    rw [Int.mul_one]
  done := by
    intro X hP hw hK hc i pins s σ H E I hf st hg
    subst hP hw hK
    obtain ⟨f0, f1, f2, f3, f4, f5⟩ := hf it (by simp)
    exact wpAny_pyNext_range_end (I.ok.hd hc) st (by have : n ≤ i := hg; omega) fun h' eb => ⟨rfl, I.turned (t' := s.toks) (fun b o hb e => eb b o hb e) f0 f1 f3 f4 f5⟩
  self := fun _ _ _ _ _ st h => wpAny_pyIter_rangeiter st h
section
variable {X : Cx} {tg : Expr}
noncomputable def iList (K : PySem.W.Frag) (tl : TE) : TI := fun σ H R => tl σ H fun x H1 => ∃ a, x = .ref a ∧ (∃ xs, SqL K H1 a xs) ∧ R (Itl K a) H1
noncomputable def iTup (K : PySem.W.Frag) (tl : TE) : TI := fun σ H R => tl σ H fun x H1 => ∃ a, x = .ref a ∧ (∃ xs, SqT K H1 a xs) ∧ R (Itt K a) H1
theorem pi_list {l : Expr} {tl : TE} (hl : PE X l tl) : PI X tg l (iList X.K tl) := by
  intro pins s σ H R I h
  refine thn (hl pins s σ H _ I h) fun v s1 ⟨x, H1, I1, r1, q1⟩ => ?_
  obtain ⟨a, e, ⟨xs, hq⟩, q⟩ := q1
  subst e
  cases r1
  obtain ⟨its, rv, p, hz⟩ := I1.list hq
  refine wpAny_pyIter_list p.isList ?_
  refine ⟨s1.heap.objs.size, [s1.heap.objs.size], _, _, H1, rfl, I1.kept (t' := s1.toks) fun b o e => Heap.get?_push_of_some _ e, turn_list a _, ⟨_, Heap.get?_push_size _ rfl, rfl, rfl⟩, fun b hb => ?_, q⟩
  have e : b = s1.heap.objs.size := by simpa using hb
  subst e
  exact I1.fpOk (Nat.le_refl _) (I1.hok.fresh (Nat.le_refl _))
theorem pi_tup {l : Expr} {tl : TE} (hl : PE X l tl) : PI X tg l (iTup X.K tl) := by
  intro pins s σ H R I h
  refine thn (hl pins s σ H _ I h) fun v s1 ⟨x, H1, I1, r1, q1⟩ => ?_
  obtain ⟨a, e, ⟨xs, hq⟩, q⟩ := q1
  subst e
  cases r1
  obtain ⟨its, rv, p, hz⟩ := I1.tuple hq
  refine wpAny_pyIter_tuple (show s1.heap.IsTuple a its.toArray from p) ?_
  refine ⟨s1.heap.objs.size, [s1.heap.objs.size], _, _, H1, rfl, I1.kept (t' := s1.toks) fun b o e => Heap.get?_push_of_some _ e, turn_tuple a _, ⟨_, Heap.get?_push_size _ rfl, rfl, rfl⟩, fun b hb => ?_, q⟩
  have e : b = s1.heap.objs.size := by simpa using hb
  subst e
  exact I1.fpOk (Nat.le_refl _) (I1.hok.fresh (Nat.le_refl _))
theorem range_it {pins : List (Addr × Obj)} {σ : St} {H : Hp} {s : Shared} {R : It → Hp → Prop} {E : Value → Shared → Prop} {lo hi : Int} {t u v : Tok} {tk : Nat} (I : Inv X pins σ H s) (h1 : -(2 ^ 62) ≤ lo) (h2 : lo < 2 ^ 62) (h3 : -(2 ^ 62) ≤ hi) (h4 : hi < 2 ^ 62)
    (q : R (Itr lo (hi - lo).toNat) H) : wpAny (model X.prog X.w) X.A (pyIter (.ref s.heap.objs.size)) (PIE X pins σ tg R) E { s with heap := s.heap.push { cls := .type "range", data := .fields #[.int lo t, .int hi u, .int 1 v] }, toks := tk } := by
  refine wpAny_pyIter_range (IsRange.new ..) (small_one h1 h2 h3 h4) ?_
  have I1 : Inv X pins σ H { s with heap := s.heap.push { cls := .type "range", data := .fields #[.int lo t, .int hi u, .int 1 v] }, toks := tk } := I.kept fun b o e => Heap.get?_push_of_some _ e
  refine ⟨(s.heap.push { cls := .type "range", data := .fields #[.int lo t, .int hi u, .int 1 v] }).objs.size, [(s.heap.push { cls := .type "range", data := .fields #[.int lo t, .int hi u, .int 1 v] }).objs.size], _, _, H, rfl,
    I1.kept (t' := tk) fun b o e => Heap.get?_push_of_some _ e, turn_range _ lo (hi - lo).toNat, ?_, fun b hb => ?_, q⟩
  · have e1 : lo + ((0 : Nat) : Int) * 1 = lo := by simp
    have e2 : (((hi - lo).toNat : Nat) : Int) - ((0 : Nat) : Int) = Builtin.Range.rangeSize lo hi 1 := by rw [rangeSize_one]; split <;> omega
    show IsRangeIter _ _ (lo + ((0 : Nat) : Int) * 1) ((((hi - lo).toNat : Nat) : Int) - ((0 : Nat) : Int)) 1
    rw [e1, e2]
    exact Heap.get?_push_size _ rfl
  · have e : b = (s.heap.push { cls := .type "range", data := .fields #[.int lo t, .int hi u, .int 1 v] }).objs.size := by simpa using hb
    subst e
    exact I1.fpOk (Nat.le_refl _) (I1.hok.fresh (Nat.le_refl _))
noncomputable def iRng1 (ta : TA) : TI := fun σ H R => ta σ H fun vs H1 => ∃ j : Int, vs = [.int j] ∧ -(2 ^ 62) ≤ j ∧ j < 2 ^ 62 ∧ R (Itr 0 j.toNat) H1
theorem pi_range1 {a : Expr} {ta : TA} {p pos : Pos} (hg : Gl X "range") (hm : X.mg "range" = none) (ha : PA X [a] ta) (hs : starEach [a] X.env = [(false, eval a X.env)] := by rfl) : PI X tg (.Call (.Name "range" p) [a] [] pos) (iRng1 ta) := by
  intro pins s σ H R I h
  refine Call_ (ld_blt I hg hm boot_range (PyProof.Rows.callWith_type1 (thn (ha pos pins s σ H _ I h) fun us s1 ⟨vs, H1, I1, r1, q1⟩ => ?_) hs rfl))
  obtain ⟨j, e, q1, q2, q⟩ := q1
  subst e
  cases r1 with
  | cons r rr =>
    cases rr
    obtain ⟨t, rfl⟩ := r
    exact call_range_1 (range_it I1 (by omega) (by omega) q1 q2 (by simpa using q))
noncomputable def tFor (wi : TI) (g : TG) (tb : TS) : TS := fun D σ H => wi σ H fun J H1 => ∃ W : Nat → Nat → St → Hp → Prop, (∃ m, W 0 m σ H1) ∧ ∀ i m σ H, W i m σ H →
  (J.stop i H ∧ D.nx σ H) ∨ (J.go i H ∧ ∃ N : St → Hp → Prop, (∀ σ' H', N σ' H' → ∃ m', m' < m ∧ W (i + 1) m' σ' H') ∧ ∀ x H', J.yld i H x H' → g x σ H' fun σ2 H2 => tb { D with nx := N, ct := N, bk := D.nx } σ2 H2)
noncomputable def pinsAt (fp : List Addr) (h : Heap) : List (Addr × Obj) := fp.filterMap fun b => (h.get? b).map fun o => (b, o)
theorem mem_pinsAt {fp : List Addr} {h : Heap} {b : Addr} {o : Obj} (hb : b ∈ fp) (e : h.get? b = some o) : (b, o) ∈ pinsAt fp h := List.mem_filterMap.mpr ⟨b, hb, by rw [e]; rfl⟩
theorem of_pinsAt {fp : List Addr} {h : Heap} {p : Addr × Obj} (hp : p ∈ pinsAt fp h) : p.1 ∈ fp ∧ h.get? p.1 = some p.2 := by
  obtain ⟨b, hb, e⟩ := List.mem_filterMap.mp hp
  cases q : h.get? b with
  | none => rw [q] at e; cases e
  | some o =>
    rw [q] at e
    have e' : (b, o) = p := Option.some.inj e
    subst e'
    exact ⟨hb, q⟩
theorem Inv.pinned {pins : List (Addr × Obj)} {σ : St} {H : Hp} {s : Shared} {fp : List Addr} (I : Inv X pins σ H s) (hf : ∀ b ∈ fp, FpOk X pins H b) (ho : ∀ b ∈ fp, ∃ o, s.heap.get? b = some o ∧ ∀ v, o.data ≠ .cell v) : Inv X (pins ++ pinsAt fp s.heap) σ H s :=
  I.pins_of fun p hp => (List.mem_append.mp hp).elim (fun z => I.pin p (List.mem_append_right _ z)) fun z => by
    obtain ⟨hb, e⟩ := of_pinsAt z
    obtain ⟨f0, f1, f2, _⟩ := hf p.1 hb
    obtain ⟨o, e', d⟩ := ho p.1 hb
    rw [e] at e'; cases e'
    exact ⟨e, f0, f1, f2, d⟩
theorem Inv.unpinned {pins pl : List (Addr × Obj)} {σ : St} {H : Hp} {s : Shared} (I : Inv X (pins ++ pl) σ H s) : Inv X pins σ H s := I.pins_of fun p hp => I.pin p (List.mem_append_right _ (List.mem_append_left _ hp))
theorem ps_for {iter : Expr} {body : List Stmt} {wi : TI} {g : TG} {tb : TS} {pos : Pos} (hp : PassesOwn (model X.prog X.w) X.A X.env X.xe) (hc : X.calm = true) (hi : PI X tg iter wi) (hg : PG X tg g) (hb : PSs X body tb)
    (hs : ∀ x, foldedSetIterable iter X.env x = pure x := by intro _; rfl) : PS X (.For tg iter body [] pos) (tFor wi g tb) := by
  intro pins s σ H D I h
  refine wpAny_For (thn (hi pins s σ H _ I h) fun v s1 h1 => thn h1 fun itv s2 h2 => ?_) hs
  obtain ⟨it, fp, tn, J, H2, e, I2, T, st2, f2, W, ⟨m0, w0⟩, turn⟩ := h2
  subst e
  -- what stays true of the iterator's objects through the loop
  have stat : ∀ {H' : Hp}, (∀ b ∈ fp, H' b = none) → ∀ b ∈ fp, FpOk X pins H' b := fun hn b hb => ⟨hn b hb, (f2 b hb).2⟩
  refine codeAny_forLoop_any (fun n s' => ∃ i σ' H', Inv X pins σ' H' s' ∧ tn i s'.heap ∧ (∀ b ∈ fp, H' b = none) ∧ W i n σ' H') ?_ m0 ⟨0, σ, H2, I2, st2, fun b hb => (f2 b hb).1, w0⟩
  rintro n s3 ⟨i, σ3, H3, I3, st3, fr3, w3⟩
  rcases turn i n σ3 H3 w3 with ⟨stop, qn⟩ | ⟨go, N, hN, step⟩
  · refine wpAny_passesOwn hp (thn (T.done X rfl rfl rfl hc i pins s3 σ3 H3 X.xe I3 (stat fr3) st3 stop) fun r s4 ⟨hr, I4⟩ => ?_)
    subst hr
    exact wpAny_execs_nil ⟨σ3, H3, I4, qn⟩
  · refine wpAny_passesOwn hp (thn (T.item X rfl rfl rfl hc i pins s3 σ3 H3 X.xe I3 (stat fr3) st3 go) fun r s4 ⟨u, hr, h4⟩ => ?_)
    subst hr
    refine wpAny_passesOwn hp (thn h4 fun _ s5 ⟨x, H5, I5, r5, y5, st5, fr5⟩ => ?_)
    have I5' := I5.pinned (stat fr5) (T.obj _ _ st5)
    refine wpAny_passesOwn hp (thn (hg _ s5 σ3 H5 x u _ I5' r5 (step x H5 y5)) fun _ s6 ⟨σ6, H6, I6, q6⟩ => ?_)
    refine wpAny_passesOwn hp (thn (hb _ s6 σ6 H6 _ I6 q6) fun f s7 q7 => ?_)
    have again : ∀ {σ7 : St} {H7 : Hp}, Inv X (pins ++ pinsAt fp s5.heap) σ7 H7 s7 → N σ7 H7 → ∃ m, m < n ∧ ∃ i σ' H', Inv X pins σ' H' s7 ∧ tn i s7.heap ∧ (∀ b ∈ fp, H' b = none) ∧ W i m σ' H' := fun {σ7 H7} I7 n7 => by
      obtain ⟨m', hm, w7⟩ := hN σ7 H7 n7
      refine ⟨m', hm, i + 1, σ7, H7, I7.unpinned, T.keep _ _ _ st5 fun b hb o e => (I7.pin (b, o) (List.mem_append_right _ (List.mem_append_right _ (mem_pinsAt hb e)))).1, fun b hb => ?_, w7⟩
      obtain ⟨o, e, d⟩ := T.obj _ _ st5 b hb
      exact (I7.pin (b, o) (List.mem_append_right _ (List.mem_append_right _ (mem_pinsAt hb e)))).2.1
    cases f with
    | next => obtain ⟨σ7, H7, I7, n7⟩ := q7; exact again I7 n7
    | cont => obtain ⟨σ7, H7, I7, n7⟩ := q7; exact again I7 n7
    | brk => obtain ⟨σ7, H7, I7, q7⟩ := q7; exact ⟨σ7, H7, I7.unpinned, q7⟩
    | ret v => obtain ⟨x7, σ7, H7, I7, r7, q7⟩ := q7; exact ⟨x7, σ7, H7, I7.unpinned, r7, q7⟩
end
noncomputable abbrev R2 := V → V → Hp → VK → Prop
noncomputable def OpR (X : Cx) (f : Value → Value → Sem Value) (r : R2) : Prop :=
  ∀ (pins : List (Addr × Obj)) (s : Shared) (σ : St) (H : Hp) (x y : V) (v u : Value) (Q : VK), Inv X pins σ H s → RelV x v → RelV y u → r x y H Q →
    wpAny (model X.prog X.w) X.A (f v u) (EP X pins σ Q) X.xe s
noncomputable def UnR (X : Cx) (f : Value → Sem Value) (r : V → Hp → VK → Prop) : Prop :=
  ∀ (pins : List (Addr × Obj)) (s : Shared) (σ : St) (H : Hp) (x : V) (v : Value) (Q : VK), Inv X pins σ H s → RelV x v → r x H Q →
    wpAny (model X.prog X.w) X.A (f v) (EP X pins σ Q) X.xe s
noncomputable def CallR (X : Cx) (f : Value) (r : List V → Hp → VK → Prop) : Prop :=
  ∀ (pins : List (Addr × Obj)) (s : Shared) (σ : St) (H : Hp) (xs : List V) (us : List Value) (Q : VK), Inv X pins σ H s → Vals xs us → r xs H Q →
    wpAny (model X.prog X.w) X.A (call f us) (EP X pins σ Q) X.xe s
noncomputable def tOp (r : R2) (ta tb : TE) : TE := fun σ H Q => ta σ H fun x H1 => tb σ H1 fun y H2 => r x y H2 Q
noncomputable def tUn (r : V → Hp → VK → Prop) (ta : TE) : TE := fun σ H Q => ta σ H fun x H1 => r x H1 Q
noncomputable def rI (C : Int → Int → Prop) (g : Int → Int → V) : R2 := fun x y H Q => ∃ i j, x = .int i ∧ y = .int j ∧ C i j ∧ Q (g i j) H
noncomputable def rI0 (g : Int → Int → V) : R2 := fun x y H Q => ∃ i j, x = .int i ∧ y = .int j ∧ Q (g i j) H
noncomputable def rU (g : Int → V) : V → Hp → VK → Prop := fun x H Q => ∃ i, x = .int i ∧ Q (g i) H
section
variable {X : Cx} {a b c : Expr} {ta tb tc : TE} {pos : Pos}
theorem binT (ha : PE X a ta) (hb : PE X b tb) {pins : List (Addr × Obj)} {s : Shared} {σ : St} {H : Hp} {R : V → V → Hp → Prop} (I : Inv X pins σ H s)
    (h : ta σ H fun x H1 => tb σ H1 fun y H2 => R x y H2) {Q : Value → Shared → Prop} {f : Value → Value → Sem Value}
    (hf : ∀ v u s2 x y H2, Inv X pins σ H2 s2 → RelV x v → RelV y u → R x y H2 → wpAny (model X.prog X.w) X.A (f v u) Q X.xe s2) :
    wpAny (model X.prog X.w) X.A (eval a X.env) (fun v s₁ => wpAny (model X.prog X.w) X.A (eval b X.env) (fun u s₂ => wpAny (model X.prog X.w) X.A (f v u) Q X.xe s₂) X.xe s₁) X.xe s := by
  refine thn (ha pins s σ H _ I h) fun v s1 ⟨x, H1, I1, r1, q1⟩ => ?_
  refine thn (hb pins s1 σ H1 _ I1 q1) fun u s2 ⟨y, H2, I2, r2, q2⟩ => ?_
  exact hf v u s2 x y H2 I2 r1 r2 q2
theorem pe_op {op : Operator} {r : R2} (ho : OpR X (binaryOp op) r) (ha : PE X a ta) (hb : PE X b tb) : PE X (.BinOp a op b pos) (tOp r ta tb) := by
  intro pins s σ H Q I h
  exact wpAny_BinOp (binT ha hb I h fun v u s2 x y H2 I2 rx ry q => ho pins s2 σ H2 x y v u Q I2 rx ry q)
theorem pe_un {op : UnaryOp} {r : V → Hp → VK → Prop} (ho : UnR X (unaryOp op) r) (ha : PE X a ta) : PE X (.UnaryOp op a pos) (tUn r ta) := by
  intro pins s σ H Q I h
  exact UnaryOp_ (thn (ha pins s σ H _ I h) fun v s1 ⟨x, H1, I1, r1, q1⟩ => ho pins s1 σ H1 x v Q I1 r1 q1)
theorem opI {f : Value → Value → Sem Value} {C : Int → Int → Prop} {g : Int → Int → Int}
    (rule : ∀ (i j : Int) (t u : Tok) (s : Shared) (Q : Value → Shared → Prop) (E : Value → Shared → Prop), C i j → Q (.int (g i j) s.toks) { s with toks := s.toks + 1 } → wpAny (model X.prog X.w) X.A (f (.int i t) (.int j u)) Q E s) :
    OpR X f (rI C fun i j => .int (g i j)) := by
  intro pins s σ H x y v u Q I rx ry h
  obtain ⟨i, j, rfl, rfl, hc, q⟩ := h
  obtain ⟨t, rfl⟩ := rx
  obtain ⟨t', rfl⟩ := ry
  exact rule i j t t' s _ _ hc ⟨.int (g i j), H, I.tok _, ⟨_, rfl⟩, q⟩
theorem opI0 {f : Value → Value → Sem Value} {g : Int → Int → Int}
    (rule : ∀ (i j : Int) (t u : Tok) (s : Shared) (Q : Value → Shared → Prop) (E : Value → Shared → Prop), Q (.int (g i j) s.toks) { s with toks := s.toks + 1 } → wpAny (model X.prog X.w) X.A (f (.int i t) (.int j u)) Q E s) :
    OpR X f (rI0 fun i j => .int (g i j)) := by
  intro pins s σ H x y v u Q I rx ry h
  obtain ⟨i, j, rfl, rfl, q⟩ := h
  obtain ⟨t, rfl⟩ := rx
  obtain ⟨t', rfl⟩ := ry
  exact rule i j t t' s _ _ ⟨.int (g i j), H, I.tok _, ⟨_, rfl⟩, q⟩
theorem opB0 {f : Value → Value → Sem Value} {g : Int → Int → Bool}
    (rule : ∀ (i j : Int) (t u : Tok) (s : Shared) (Q : Value → Shared → Prop) (E : Value → Shared → Prop), Q (.bool (g i j)) s → wpAny (model X.prog X.w) X.A (f (.int i t) (.int j u)) Q E s) :
    OpR X f (rI0 fun i j => .bl (g i j)) := by
  intro pins s σ H x y v u Q I rx ry h
  obtain ⟨i, j, rfl, rfl, q⟩ := h
  obtain ⟨t, rfl⟩ := rx
  obtain ⟨t', rfl⟩ := ry
  exact rule i j t t' s _ _ ⟨.bl (g i j), H, I, rfl, q⟩
noncomputable def CDiv (i j : Int) : Prop := 0 < j ∧ j < 1073741824
noncomputable def CPow (i j : Int) : Prop := 0 ≤ j ∧ j ≤ 1000000 ∧ i.natAbs < 2 ^ 64
noncomputable def CMul (i j : Int) : Prop := (-(2 ^ 64) < i ∧ i < 2 ^ 64) ∨ (-(2 ^ 64) < j ∧ j < 2 ^ 64)
theorem CMul.ok {i j : Int} (h : CMul i j) : IntMulOk i j := by
  rcases h with ⟨h1, h2⟩ | ⟨h1, h2⟩
  · exact .of_left (intBits_le_64 h1 h2)
  · exact .of_right (intBits_le_64 h1 h2)
theorem op_add : OpR X (binaryOp .Add) (rI0 fun i j => .int (i + j)) := opI0 fun _ _ _ _ _ _ _ q => add_int q
theorem op_sub : OpR X (binaryOp .Sub) (rI0 fun i j => .int (i - j)) := opI0 fun _ _ _ _ _ _ _ q => sub_int q
theorem op_fdiv : OpR X (binaryOp .FloorDiv) (rI CDiv fun i j => .int (i / j)) := opI fun i j _ _ _ _ _ hc q => by
  have h1 : (0 : Int) < j := hc.1
  have h2 : j < 1073741824 := hc.2
  exact floordiv_int (by omega) (by rw [Int.fdiv_eq_ediv_of_nonneg i (by omega)]; exact q) (.inl (PyProof.noPylong_small (by omega)))
theorem op_mod : OpR X (binaryOp .Mod) (rI (fun _ j => 0 < j) fun i j => .int (i % j)) := opI fun i j _ _ _ _ _ hc q => by
  have h1 : (0 : Int) < j := hc
  exact mod_int' (by omega) (by rw [Int.fmod_eq_emod_of_nonneg i (by omega)]; exact q)
theorem op_pow : OpR X (binaryOp .Pow) (rI CPow fun i j => .int (i ^ j.toNat)) := opI fun _ _ _ _ _ _ _ hc q => pow_int_small hc.1 hc.2.1 hc.2.2 q
theorem op_shl : OpR X (binaryOp .LShift) (rI CPow fun i j => .int (i * 2 ^ j.toNat)) := opI fun _ _ _ _ _ _ _ hc q => lshift_int_small hc.1 hc.2.1 hc.2.2 q
theorem unI {f : Value → Sem Value} {g : Int → Int}
    (rule : ∀ (i : Int) (t : Tok) (s : Shared) (Q : Value → Shared → Prop) (E : Value → Shared → Prop), Q (.int (g i) s.toks) { s with toks := s.toks + 1 } → wpAny (model X.prog X.w) X.A (f (.int i t)) Q E s) :
    UnR X f (rU fun i => .int (g i)) := by
  intro pins s σ H x v Q I rx h
  obtain ⟨i, rfl, q⟩ := h
  obtain ⟨t, rfl⟩ := rx
  exact rule i t s _ _ ⟨.int (g i), H, I.tok _, ⟨_, rfl⟩, q⟩
theorem un_neg : UnR X (unaryOp .USub) (rU fun i => .int (-i)) := unI fun _ _ _ _ _ q => neg_int q
end
section
variable {X : Cx} {a b c : Expr} {ta tb tc : TE} {pos : Pos}
theorem fin_bl {pins : List (Addr × Obj)} {σ : St} {H : Hp} {s : Shared} {Q : VK} {k k' : Bool} (I : Inv X pins σ H s) (q : Q (.bl k) H) (e : k = k') : EP X pins σ Q (.bool k') s := by
  subst e
  exact ⟨.bl k, H, I, rfl, q⟩
theorem op_gt : OpR X (compareOp .Gt) (rI0 fun i j => .bl (decide (j < i))) := opB0 fun _ _ _ _ _ _ _ q => gt_int q
theorem op_ge : OpR X (compareOp .GtE) (rI0 fun i j => .bl (decide (j ≤ i))) := opB0 fun _ _ _ _ _ _ _ q => ge_int q
theorem op_in_str : OpR X (compareOp .In) (fun x y H Q => ∃ i j, x = .str i ∧ y = .str j ∧ Q (.bl (!(Builtin.Str.occurrences j i 0 j.length 1).isEmpty)) H) := by
  intro pins s σ H x y v u Q I rx ry h
  obtain ⟨i, j, rfl, rfl, q⟩ := h
  obtain ⟨t, rfl⟩ := rx
  obtain ⟨t', rfl⟩ := ry
  exact in_str (fin_bl I q rfl)
theorem OpR.or {f : Value → Value → Sem Value} {r r' : R2} (h : OpR X f r) (h' : OpR X f r') : OpR X f (fun x y H Q => r x y H Q ∨ r' x y H Q) := by
  intro pins s σ H x y v u Q I rx ry q
  rcases q with q | q
  · exact h pins s σ H x y v u Q I rx ry q
  · exact h' pins s σ H x y v u Q I rx ry q
theorem nomark (b : Expr) {op : CmpOp} (h : op ≠ .In := by decide) (h2 : op ≠ .NotIn := by decide) : behindInMarks op b = false := by
  have e1 : (op == CmpOp.In) = false := by cases op <;> first | rfl | exact absurd rfl h
  have e2 : (op == CmpOp.NotIn) = false := by cases op <;> first | rfl | exact absurd rfl h2
  cases b <;> simp [behindInMarks, e1, e2]
theorem pe_cmpR {op : CmpOp} {r : R2} (ho : OpR X (compareOp op) r) (ha : PE X a ta) (hb : PE X b tb) (hm : behindInMarks op b = false) : PE X (.Compare a [op] [b] pos) (tOp r ta tb) := by
  intro pins s σ H Q I h
  exact wpAny_Compare1 (binT ha hb I h fun v u s2 x y H2 I2 rx ry q => ho pins s2 σ H2 x y v u Q I2 rx ry q) hm
noncomputable def tTest (t : TE) : TT := fun σ H Q => t σ H fun x H' => ∃ k, x = .bl k ∧ Q k H'
theorem pt_cmpR {op : CmpOp} {r : R2} (ho : OpR X (compareOp op) r) (ha : PE X a ta) (hb : PE X b tb) (hm : behindInMarks op b = false) : PT X (.Compare a [op] [b] pos) (tTest (tOp r ta tb)) := by
  intro pins s σ H Q I h
  refine wpAny_isTrue_Compare1 (thn (ha pins s σ H _ I h) fun v s1 ⟨x, H1, I1, r1, q1⟩ => thn (hb pins s1 σ H1 _ I1 q1) fun u s2 ⟨y, H2, I2, r2, q2⟩ =>
    thn (ho pins s2 σ H2 x y v u _ I2 r1 r2 q2) fun c s3 ⟨z, H3, I3, r3, k, e, q3⟩ => ?_) hm
  subst e
  cases r3
  exact wpAny_truthy_bool ⟨H3, I3, q3⟩
theorem line63 : (sizeLine : Nat) < 2 ^ 63 := by rw [sizeLine_eq]; decide
theorem op_add_str : OpR X (binaryOp .Add) (fun x y H Q => ∃ i j, x = .str i ∧ y = .str j ∧ i.length + j.length ≤ sizeLine ∧ Q (.str (i ++ j)) H) := by
  intro pins s σ H x y v u Q I rx ry h
  obtain ⟨i, j, rfl, rfl, hz, q⟩ := h
  obtain ⟨t, rfl⟩ := rx
  obtain ⟨t', rfl⟩ := ry
  exact add_str (fun t' tk => ⟨.str (i ++ j), H, I.tok _, ⟨_, rfl⟩, q⟩) hz
theorem vals1 {x : V} {us : List Value} (r : Vals [x] us) : ∃ u, us = [u] ∧ RelV x u := by
  cases r with
  | cons r1 r2 => cases r2; exact ⟨_, rfl, r1⟩
theorem vals2 {x y : V} {us : List Value} (r : Vals [x, y] us) : ∃ u w', us = [u, w'] ∧ RelV x u ∧ RelV y w' := by
  cases r with
  | cons r1 r2 =>
    cases r2 with
    | cons r3 r4 => cases r4; exact ⟨_, _, rfl, r1, r3⟩
theorem call_int1 : CallR X (.type "int") (fun xs H Q => (∃ i, xs = [.int i] ∧ Q (.int i) H) ∨ ∃ k, xs = [.bl k] ∧ Q (.int (if k then 1 else 0)) H) := by
  intro pins s σ H xs us Q I r h
  rcases h with ⟨i, rfl, q⟩ | ⟨k, rfl, q⟩
  · obtain ⟨u, rfl, t, rfl⟩ := vals1 r
    exact call_int_int ⟨.int i, H, I, ⟨_, rfl⟩, q⟩
  · obtain ⟨u, rfl, r1⟩ := vals1 r
    cases r1
    exact call_int_bool ⟨.int (if k then 1 else 0), H, I.tok _, ⟨_, rfl⟩, q⟩
end
structure ObjM (h : Heap) (x dx C : Addr) (mA : Str → Option Value) : Prop where
  obj : h.get? x = some (PySem.W.instObj C dx)
  ns : h.Ns1 dx mA
  ne : dx ≠ x
theorem lookIn_ns {h : Heap} {dx : Addr} {mA : Str → Option Value} (n : h.Ns1 dx mA) : ∃ od, h.get? dx = some od ∧ ∀ name, PySem.W.lookIn name od = some (mA name) := by
  obtain ⟨o, es, ep, ho, hd, hk, _, hm⟩ := n
  refine ⟨o, ho, fun name => ?_⟩
  have e := hm name
  unfold nsFind findBy at e
  rw [← Array.find?_toList] at e
  unfold PySem.W.lookIn
  rw [hd]
  dsimp only
  split
  · rename_i y q
    rw [q] at e
    exact congrArg some e
  · rename_i q
    rw [q] at e
    have a : es.toList.any (·.refKey) = false := by
      rw [List.any_eq_false]
      intro y hy
      obtain ⟨z, t, hkey⟩ := hk y (Array.mem_toList_iff.mp hy)
      simp [DictEntry.refKey, hkey]
    have a' : ¬ es.toList.any (·.refKey) = true := by rw [a]; exact Bool.false_ne_true
    rw [if_neg a']
    exact congrArg some e
theorem ObjM.look {h : Heap} {x dx C : Addr} {mA : Str → Option Value} (I : ObjM h x dx C mA) : ∃ od, PySem.W.InstAt h x (PySem.W.instObj C dx) C (some od) ∧ ∀ name, PySem.W.lookIn name od = some (mA name) :=
  let ⟨od, ho, hl⟩ := lookIn_ns I.ns
  ⟨od, ⟨I.obj, rfl, rfl, ho⟩, hl⟩
section
variable {prog : Program} {w : World} {A : Around} {E : Value → Shared → Prop} {s : Shared} {K : PySem.W.Frag} {x dx C f : Addr} {mA : Str → Option Value} {name : Str} {v : Value}
end
section
variable {P : Program} {w : World} {H H' : Hp} {h h' : Heap} {a C dx : Addr} {fs fs' : List (Str × V)}
theorem ins_get (hok : HOk P w H h) (e : H a = some (.ins C dx fs)) : ∃ mA, ObjM h a dx C mA ∧ (∀ f, RelO (fs.lookup f) (mA f)) ∧ PySem.Within mA (fs.map (·.1)) ∧ fs.length ≤ 1000 ∧ H dx = some (.own a) := by
  obtain ⟨d, z, ne, ob, mA, n, r, q⟩ := (show ObjOk P w H h a (.ins C dx fs) from hok a _ e)
  exact ⟨mA, ⟨ob, n, ne⟩, r, q, z, d⟩
end
structure Cls (K : PySem.W.Frag) (C : Addr) : Prop where
  pg : PySem.W.plainGet K C Str.empty = true
  hd : PySem.W.hasDictIn K C = true
  po : PySem.W.plainOver K C = true
  sa : PySem.W.findIn K (.ref C) "__setattr__" = some (some (.builtin "object.__setattr__"))
theorem Cls.get {K : PySem.W.Frag} {C : Addr} (c : Cls K C) (f : Str) : PySem.W.plainGet K C f = true := c.pg
structure Con (K : PySem.W.Frag) (C : Addr) (f : Str) (v : V) (u : Value) : Prop where
  at_ : PySem.W.findIn K (.ref C) f = some (some u)
  rel : RelV v u
  get : PySem.W.specialIn K u "__get__" = some none
  cp : PySem.W.copiedNames.contains f = false
structure Meth (K : PySem.W.Frag) (C : Addr) (m : Str) (f : Addr) : Prop where
  at_ : PySem.W.findIn K (.ref C) m = some (some (.ref f))
  fn : PySem.W.isFn K (.ref f) = true
  kp : PySem.W.keepIn K (.ref f) = true
section
variable {X : Cx} {pins : List (Addr × Obj)} {σ : St} {H : Hp} {s : Shared} {a C dx : Addr} {fs : List (Str × V)} {f : Str} {v : V} {A : Around} {E : Value → Shared → Prop}
end
section
variable {X : Cx} {o e value : Expr} {f : Str} {pos pos' tpos : Pos} {ta tv : TE}
end
section
variable {X : Cx} {pins : List (Addr × Obj)} {σ : St} {H : Hp} {s : Shared} {A : Around} {E : Value → Shared → Prop} {Q : Value → Shared → Prop} {c : Value} {b : Bool}
inductive TyOf (K : PySem.W.Frag) (H : Hp) : V → Value → Prop where
  | non : TyOf K H .non (.type "NoneType")
  | bl (x : Bool) : TyOf K H (.bl x) (.type "bool")
  | int (i : Int) : TyOf K H (.int i) (.type "int")
  | str (x : Str) : TyOf K H (.str x) (.type "str")
  | flt (x : UInt64) : TyOf K H (.flt x) (.type "float")
  | lst {a : Addr} {xs : List V} (e : H a = some (.lst xs)) : TyOf K H (.ref a) (.type "list")
  | frz {a : Addr} {o : Obj} {xs : List V} (e : H a = some (.frz o (.lst xs))) : TyOf K H (.ref a) (.type "list")
  | tup {a : Addr} {xs : List V} (e : H a = some (.tup xs)) : TyOf K H (.ref a) (.type "tuple")
  | dK {a : Addr} {kvs : List (Key × V)} (e : H a = some (.dK kvs)) : TyOf K H (.ref a) (.type "dict")
  | dT {a : Addr} {kvs : List (List Key × V)} (e : H a = some (.dT kvs)) : TyOf K H (.ref a) (.type "dict")
  | ins {a C dx : Addr} {fs : List (Str × V)} (e : H a = some (.ins C dx fs)) (cl : Cls K C) (ha : PySem.W.findIn K (.ref C) "__class__" = some (some (.builtin "object.__class__")))
      (hn : PySem.W.specialIn K (.builtin "object.__class__") "__get__" = some (some (.builtin "getset_descriptor.__get__"))) (htk : PySem.W.takesIn K (.builtin "object.__class__") = some true)
      (hm : PySem.W.mroIn K C (.type "object") = some true) : TyOf K H (.ref a) (.ref C)
theorem isinst_ok {x : V} {u t : Value} (I : Inv X pins σ H s) (rx : RelV x u) (ty : TyOf X.K H x t) (e : PySem.W.kitOne X.K t c = some b) (h : ∀ tk, Q (.bool b) { s with toks := tk }) :
    wpAny (model X.prog X.w) A (call (.builtin "isinstance") [u, c]) Q E s := by
  cases ty with
  | non => cases (show u = Value.none from rx); exact PySem.W.kia_one PySem.W.kitx_none I.kIn True.intro e (fun z => nomatch z) h
  | bl y => cases (show u = Value.bool y from rx); exact PySem.W.kia_one PySem.W.kitx_bool I.kIn True.intro e (fun z => nomatch z) h
  | int i => obtain ⟨t, q⟩ := (show ∃ t, u = Value.int i t from rx); cases q; exact PySem.W.kia_one PySem.W.kitx_int I.kIn True.intro e (fun z => nomatch z) h
  | str y => obtain ⟨t, q⟩ := (show ∃ t, u = Value.str y t from rx); cases q; exact PySem.W.kia_one PySem.W.kitx_str I.kIn True.intro e (fun z => nomatch z) h
  | flt y => obtain ⟨t, q⟩ := (show ∃ t, u = Value.float y t from rx); cases q; exact PySem.W.kia_one PySem.W.kitx_float I.kIn True.intro e (fun z => nomatch z) h
  | @lst a xs ea =>
    cases (show u = Value.ref a from rx)
    obtain ⟨_, _, n, _, h1⟩ := (show ObjOk X.prog X.w H s.heap a (.lst xs) from I.hok a _ ea)
    exact PySem.W.kia_one PySem.W.kitx_list I.kIn ⟨_, h1, rfl⟩ e (fun z => nomatch z) h
  | @frz a ob xs ea =>
    cases (show u = Value.ref a from rx)
    obtain ⟨_, _, _, n, _, h1⟩ := (show ObjOk X.prog X.w H s.heap a (.frz ob (.lst xs)) from I.hok a _ ea)
    exact PySem.W.kia_one PySem.W.kitx_list I.kIn ⟨_, h1, rfl⟩ e (fun z => nomatch z) h
  | @tup a xs ea =>
    cases (show u = Value.ref a from rx)
    obtain ⟨_, _, _, p⟩ := (show ObjOk X.prog X.w H s.heap a (.tup xs) from I.hok a _ ea)
    obtain ⟨o, h1, ⟨h2, _⟩, _⟩ := p
    exact PySem.W.kia_one PySem.W.kitx_tuple I.kIn ⟨o, h1, h2⟩ e (fun z => nomatch z) h
  | @dK a kvs ea =>
    cases (show u = Value.ref a from rx)
    obtain ⟨_, _, vs, _, p⟩ := (show ObjOk X.prog X.w H s.heap a (.dK kvs) from I.hok a _ ea)
    obtain ⟨o, es, ep, h1, h2, _⟩ := p
    exact PySem.W.kia_one PySem.W.kitx_dict I.kIn ⟨o, h1, h2.1⟩ e (fun z => nomatch z) h
  | @dT a kvs ea =>
    cases (show u = Value.ref a from rx)
    obtain ⟨_, _, xs, _, o, es, ep, h1, h2, _⟩ := (show ObjOk X.prog X.w H s.heap a (.dT kvs) from I.hok a _ ea)
    exact PySem.W.kia_one PySem.W.kitx_dict I.kIn ⟨o, h1, h2.1⟩ e (fun z => nomatch z) h
  | @ins a C dx fs ea cl ha hn htk hm =>
    cases (show u = Value.ref a from rx)
    obtain ⟨mA, O, _⟩ := ins_get I.hok ea
    obtain ⟨od, J, _⟩ := O.look
    exact PySem.W.kia_one (PySem.W.kitx_own (cl.get _) cl.hd ha hn htk hm) I.kIn J e (fun z => nomatch z) h
end
structure Room (k : Nat) (A : Around) : Prop where
  hd : A.handled = none
  dp : A.depth + 3 * k + 5 < recursionLimit
  un : A.units + 16 * k + 200 < cLine
theorem Room.mono {j k : Nat} {A : Around} (r : Room k A) (h : j ≤ k) : Room j A := ⟨r.hd, by have := r.dp; omega, by have := r.un; omega⟩
theorem Room.m {j k : Nat} {A : Around} (r : Room k A) (h : j ≤ k := by decide) : Room j A := r.mono h
theorem Room.deeper {k : Nat} {A : Around} (r : Room (k + 1) A) (env : Env) : Room k (A.deeper env) :=
  ⟨r.hd, by have := r.dp; show A.depth + 1 + 3 * k + 5 < _; omega, by have := r.un; show A.units + 3 + 16 * k + 200 < _; omega⟩
theorem Room.in1 {k : Nat} {A : Around} (r : Room (k + 1) A) : Room k A.in1 :=
  ⟨r.hd, by have := r.dp; show A.depth + 3 * k + 5 < _; omega, by have := r.un; show A.units + 1 + 16 * k + 200 < _; omega⟩
theorem Room.depth {k : Nat} {A : Around} (r : Room k A) : A.depth < recursionLimit := by have := r.dp; omega
theorem Room.units {k : Nat} {A : Around} (r : Room k A) : A.units + 64 < cLine := by have := r.un; omega
noncomputable def tNil : TA := fun _ H Q => Q [] H
noncomputable def tCons (ta : TE) (tr : TA) : TA := fun σ H Q => ta σ H fun x H1 => tr σ H1 fun xs H2 => Q (x :: xs) H2
section
variable {X : Cx} {e : Expr} {es : List Expr} {te : TE} {t : TA} {pos : Pos}
theorem pa_nil : PA X [] tNil := fun _ _ _ _ H Q I h => Calls.spliced_nil ⟨[], H, I, .nil, h⟩
theorem pa_cons (ha : PE X e te) (hr : PA X es t) (hs : starEach (e :: es) X.env = (false, eval e X.env) :: starEach es X.env := by rfl) : PA X (e :: es) (tCons te t) := by
  intro pos pins s σ H Q I h
  rw [hs]
  show wpAny _ _ (spliced ((false, eval e X.env) :: backTo pos (starEach es X.env))) _ _ s
  refine Calls.spliced_cons (thn (ha pins s σ H _ I h) fun u s1 ⟨x, H1, I1, r1, q1⟩ => ?_)
  exact thn (hr pos pins s1 σ H1 _ I1 q1) fun us s2 ⟨xs, H2, I2, r2, q2⟩ => ⟨x :: xs, H2, I2, .cons r1 r2, q2⟩
noncomputable def tTup (t : TA) : TE := fun σ H Q => t σ H fun xs H1 => xs.length ≤ sizeLine ∧ ∀ p, H1 p = none → Q (.ref p) (upd H1 p (.tup xs))
noncomputable def tLst (t : TA) : TE := fun σ H Q => t σ H fun xs H1 => xs.length ≤ sizeLine ∧ ∀ p, H1 p = none → Q (.ref p) (upd H1 p (.lst xs))
theorem pe_tup {x1} (h : PA X es t) : PE X (.Tuple es x1 pos) (tTup t) := by
  intro pins s σ H Q I hq
  refine wpAny_Tuple_spliced (thn (h pos pins s σ H _ I hq) fun us s1 ⟨xs, H1, I1, r, z, q⟩ => ⟨by rw [← r.length]; exact z, ?_⟩)
  have hf : H1 s1.heap.objs.size = none := I1.hok.fresh (Nat.le_refl _)
  refine ⟨.ref s1.heap.objs.size, upd H1 s1.heap.objs.size (.tup xs), I1.laid (t' := s1.toks) (fun b u e => Heap.get?_push_of_some _ e) (Nat.le_refl _) ?_, rfl, q _ hf⟩
  exact ⟨z, us, r, ⟨_, Heap.get?_push_size _ rfl, ⟨rfl, _, rfl⟩, rfl⟩⟩
theorem pe_lst (h : PA X es t) : PE X (.List es pos) (tLst t) := by
  intro pins s σ H Q I hq
  refine wpAny_List_spliced (thn (h pos pins s σ H _ I hq) fun us s1 ⟨xs, H1, I1, r, z, q⟩ => ⟨by rw [← r.length]; exact z, ?_⟩)
  have hf : H1 s1.heap.objs.size = none := I1.hok.fresh (Nat.le_refl _)
  refine ⟨.ref s1.heap.objs.size, upd H1 s1.heap.objs.size (.lst xs), I1.laid (t' := s1.toks) (fun b u e => Heap.get?_push_of_some _ e) (Nat.le_refl _) ?_, rfl, q _ hf⟩
  exact ⟨z, us, 0, r, Heap.get?_push_size _ rfl⟩
end
noncomputable abbrev Sp := List V → Hp → VK → XK → Prop
noncomputable abbrev CXT := List Env → Hp → Shared → XK → Value → Shared → Prop
structure Env0 (P : Program) (w : World) (K : PySem.W.Frag) (mg : Str → Option Value) (base : Heap) (A : Around) (outer : List Env) (s : Shared) (H : Hp) : Prop where
  frames : A.frames = some outer
  mod : Mod K mg base
  bs : ∀ b o, base.get? b = some o → s.heap.get? b = some o ∧ H b = none
  bsz : base.objs.size ≤ s.heap.objs.size
  funs : s.heap.FunFrames base outer
  frf : ∀ b ∈ frs outer, H b = none
  hok : HOk P w H s.heap
  bare : AllBare s.gens
noncomputable def CE (outer : List Env) (P : Program) (w : World) (H : Hp) (s : Shared) (Q : VK) (u : Value) (s' : Shared) : Prop :=
  ∃ v H', s'.os = s.os ∧ AllBare s'.gens ∧ Un (frs outer) [] H H' s.heap s'.heap ∧ HOk P w H' s'.heap ∧ RelV v u ∧ Q v H'
noncomputable def CR (CX : CXT) (outer : List Env) (P : Program) (w : World) (H : Hp) (s : Shared) (Q : VK) (E : XK) (r : Result) (s' : Shared) : Prop :=
  match r with
  | .ok (.ret u) => CE outer P w H s Q u s'
  | .ok _ => False
  | .error e => CX outer H s E e s'
structure FnOk (P : Program) (w : World) (K : PySem.W.Frag) (mg : Str → Option Value) (base : Heap) (CX : CXT) (k : Nat) (f : Addr) (fd : FuncData) (ps : List Str) (sp : Sp) : Prop where
  len : ∀ vs H Q E, sp vs H Q E → vs.length = ps.length
  run : ∀ (A : Around) (outer : List Env) (s : Shared) (H : Hp) (args : Args) (us : List Value) (vs : List V) (Q : VK) (E : XK), Room k A → Env0 P w K mg base A outer s H → BindsTo s fd args (ps.zip us) → Vals vs us → sp vs H Q E →
    codeAny (model P w) A (.call (.ref f) args) (CR CX outer P w H s Q E) s
theorem FnOk.mono {P : Program} {w : World} {K : PySem.W.Frag} {mg : Str → Option Value} {base : Heap} {CX : CXT} {j k : Nat} {f : Addr} {fd : FuncData} {ps : List Str} {sp : Sp} (F : FnOk P w K mg base CX j f fd ps sp) (h : j ≤ k) :
    FnOk P w K mg base CX k f fd ps sp := ⟨F.len, fun A outer s H args us vs Q E hr => F.run A outer s H args us vs Q E (hr.mono h)⟩
theorem FnOk.imp {P : Program} {w : World} {K : PySem.W.Frag} {mg : Str → Option Value} {base : Heap} {CX : CXT} {k : Nat} {f : Addr} {fd : FuncData} {ps : List Str} {sp sp' : Sp} (F : FnOk P w K mg base CX k f fd ps sp)
    (h : ∀ vs H Q E, sp' vs H Q E → sp vs H Q E) : FnOk P w K mg base CX k f fd ps sp' :=
  ⟨fun vs H Q E q => F.len vs H Q E (h _ _ _ _ q), fun A outer s H args us vs Q E hr he hb hv hs => F.run A outer s H args us vs Q E hr he hb hv (h _ _ _ _ hs)⟩
theorem Env0.in1 {P : Program} {w : World} {K : PySem.W.Frag} {mg : Str → Option Value} {base : Heap} {A : Around} {outer : List Env} {s : Shared} {H : Hp} (e : Env0 P w K mg base A outer s H) :
    Env0 P w K mg base A.in1 outer s H := ⟨e.frames, e.mod, e.bs, e.bsz, e.funs, e.frf, e.hok, e.bare⟩
section
variable {X : Cx} {pins : List (Addr × Obj)} {σ : St} {H : Hp} {s s' : Shared}
theorem Inv.env0 (I : Inv X pins σ H s) : Env0 X.prog X.w X.K X.mg X.base X.A X.stack s H :=
  ⟨I.ok.frames, I.ok.mod, I.bs, Nat.le_trans I.ok.bsz I.sz, I.stack, I.stkFree, I.hok, I.bare⟩
theorem Inv.after {Q : VK} {u : Value} (I : Inv X pins σ H s) (h : CE X.stack X.prog X.w H s Q u s') : EP X pins σ Q u s' := by
  obtain ⟨v, H', os, bare, un, hok, r, q⟩ := h
  obtain ⟨hh, g, d, t, os'⟩ := s'
  obtain rfl : os' = s.os := os
  exact ⟨v, H', I.call (h' := hh) (g' := g) (d' := d) (t' := t) (ch := []) un hok bare (fun b z => absurd z (by simp)), r, q⟩
end
noncomputable def tCall (sp : Sp) (dvs : List V) (E : XK) (t : TA) : TE := fun σ H Q => t σ H fun vs H1 => sp (vs ++ dvs) H1 Q E
noncomputable def Binds (K : PySem.W.Frag) (fd : FuncData) (ps : List Str) (ds : List Value) : Prop :=
  ∀ (s : Shared) (us : List Value), K.In s.heap → (us ++ ds).length = ps.length → BindsTo s fd ⟨us, []⟩ (ps.zip (us ++ ds))
theorem Binds.all {K : PySem.W.Frag} {fd : FuncData} {ps : List Str} (h : ∀ us : List Value, us.length = ps.length → bindArgs fd ⟨us, []⟩ = pure (ps.zip us)) : Binds K fd ps [] := fun s us _ hl => by
  rw [List.append_nil] at hl ⊢
  exact .of_eq (h us hl)
noncomputable def Passes (CX : CXT) (X : Cx) (E : XK) : Prop := ∀ (pins : List (Addr × Obj)) (σ : St) (H : Hp) (s : Shared) (e : Value) (s' : Shared), Inv X pins σ H s → CX X.stack H s E e s' → X.xe e s'
section
variable {X : Cx} {CX : CXT} {k : Nat} {f C : Addr} {fd : FuncData} {ps : List Str} {sp : Sp} {dvs : List V} {ds : List Value} {E : XK} {x m : Str} {p pos apos : Pos} {e o : Expr} {es : List Expr} {ta : TE} {t : TA}
theorem run_fn {pins : List (Addr × Obj)} {σ : St} {H : Hp} {s : Shared} {Q : VK} {us : List Value} {vs : List V} (F : FnOk X.prog X.w X.K X.mg X.base CX k f fd ps sp) (hr : Room k X.A) (hb : Binds X.K fd ps ds) (hd : Vals dvs ds) (hx : Passes CX X E)
    (I : Inv X pins σ H s) (r : Vals vs us) (h : sp (vs ++ dvs) H Q E) : wpAny (model X.prog X.w) X.A (call (.ref f) us) (EP X pins σ Q) X.xe s := by
  have r2 : Vals (vs ++ dvs) (us ++ ds) := r.append hd
  have hl : (us ++ ds).length = ps.length := by rw [← r2.length]; exact F.len _ _ _ _ h
  refine wpAny_call (codeAny_mono (F.run X.A X.stack s H ⟨us, []⟩ (us ++ ds) (vs ++ dvs) Q E hr I.env0 (hb s us I.kIn hl) r2 h) fun r s' hq => ?_)
  cases r with
  | error e => exact hx pins σ H s e s' I hq
  | ok fl =>
    cases fl with
    | ret u => exact I.after hq
    | next => exact False.elim hq
    | brk => exact False.elim hq
    | cont => exact False.elim hq
theorem pe_call (F : FnOk X.prog X.w X.K X.mg X.base CX k f fd ps sp) (hr : Room k X.A) (hg : Gl X x) (hm : X.mg x = some (.ref f)) (hk : PySem.W.keepIn X.K (.ref f) = true) (hb : Binds X.K fd ps ds) (hd : Vals dvs ds) (hx : Passes CX X E)
    (ha : PA X (e :: es) t) (hdb : (x == ("__debug__" : Str)) = false := by decide) (he : starEach (e :: es) X.env = (false, eval e X.env) :: starEach es X.env := by rfl) (hpl : (backTo pos (starEach es X.env)).any (·.1) = false := by rfl) :
    PE X (.Call (.Name x p) (e :: es) [] pos) (tCall sp dvs E t) := by
  intro pins s σ H Q I h
  refine wpAny_Call_Name_kw (ld_glob I hg hm ?_ hdb)
  refine PySem.W.callWith_K (h₀ := X.base) I.ok.mod.kin hk (thn (ha pos pins s σ H _ I h) fun us s1 ⟨vs, H1, I1, r, q⟩ => ⟨I1.kIn, ?_⟩) he hpl
  exact run_fn F hr hb hd hx I1 r q
structure Mk (K : PySem.W.Frag) (C f : Addr) : Prop where
  makes : PySem.W.makesIn K C = true
  init : PySem.W.findIn K (.ref C) "__init__" = some (some (.ref f))
  fn : PySem.W.isFn K (.ref f) = true
  kp : PySem.W.keepIn K (.ref C) = true
end
section
variable {X : Cx} {CX : CXT} {k : Nat} {f C : Addr} {fd : FuncData} {ps ks : List Str} {sp : Sp} {E : XK} {x m : Str} {p pos apos kpos : Pos} {e o : Expr} {es : List Expr} {kws : List Keyword} {te ta : TE} {t tk : TA} {nm : Option Str}
structure KBinds (K : PySem.W.Frag) (fd : FuncData) (ps ks : List Str) (g : List Value → List Value → List Value) (gV : List V → List V → List V) : Prop where
  to : ∀ (s : Shared) (us ws : List Value), K.In s.heap → (g us ws).length = ps.length → BindsTo s fd ⟨us, ks.zip ws⟩ (ps.zip (g us ws))
  rel : ∀ {vs : List V} {us : List Value} {zs : List V} {ws : List Value}, Vals vs us → Vals zs ws → Vals (gV vs zs) (g us ws)
variable {g : List Value → List Value → List Value} {gV : List V → List V → List V}
end
structure FnScope (N P : List Str) (sc : Scope) : Prop where
  kind : sc.kind = .function
  co : sc.isCoroutine = false
  gen : sc.isGenerator = false
  nd : N.Nodup
  pre : N.take P.length = P
  par : ∀ x ∈ P, sc.names.lookup x = some .local ∨ sc.names.lookup x = some .cell
  nofree : ∀ y ∈ sc.names, y.2 ≠ .free
theorem bindL_out {kindOf : Str → Option NameKind} {x : Str} : ∀ {binds : List (Str × Value)} {m : Str → Option Value}, (∀ v, (x, v) ∉ binds) → bindL kindOf binds m x = m x
  | [], _, _ => rfl
  | (n, v) :: r, m, h => by
    unfold bindL
    rw [bindL_out fun w hw => h w (List.mem_cons_of_mem _ hw)]
    split
    · have : x ≠ n := by rintro rfl; exact h v List.mem_cons_self
      simp [this]
    · rfl
theorem bindC_out {kindOf : Str → Option NameKind} {x : Str} : ∀ {binds : List (Str × Value)} {m : Str → Option Value}, (∀ v, (x, v) ∉ binds) → bindC kindOf binds m x = m x
  | [], _, _ => rfl
  | (n, v) :: r, m, h => by
    unfold bindC
    rw [bindC_out fun w hw => h w (List.mem_cons_of_mem _ hw)]
    split
    · rfl
    · have : x ≠ n := by rintro rfl; exact h v List.mem_cons_self
      simp [this]
theorem bindL_get {kindOf : Str → Option NameKind} {x : Str} {v : Value} : ∀ {P : List Str} {vs : List Value} {i : Nat} {m : Str → Option Value}, P.Nodup → P[i]? = some x → vs[i]? = some v → kindOf x = some .local →
    bindL kindOf (P.zip vs) m x = some v
  | [], _, _, _, _, h, _, _ => by simp at h
  | _ :: _, [], _, _, _, _, h, _ => by simp at h
  | p :: P, w :: vs, 0, m, nd, h1, h2, hk => by
    simp at h1 h2; subst h1; subst h2
    show bindL kindOf ((p, w) :: P.zip vs) m p = _
    unfold bindL
    rw [bindL_out fun v hv => (List.nodup_cons.mp nd).1 (List.of_mem_zip hv).1, if_pos hk]
    simp
  | p :: P, w :: vs, i + 1, m, nd, h1, h2, hk => by
    show bindL kindOf ((p, w) :: P.zip vs) m x = _
    unfold bindL
    exact bindL_get (i := i) (List.nodup_cons.mp nd).2 (by simpa using h1) (by simpa using h2) hk
theorem bindC_get {kindOf : Str → Option NameKind} {x : Str} {v : Value} : ∀ {P : List Str} {vs : List Value} {i : Nat} {m : Str → Option Value}, P.Nodup → P[i]? = some x → vs[i]? = some v → kindOf x ≠ some .local →
    bindC kindOf (P.zip vs) m x = some v
  | [], _, _, _, _, h, _, _ => by simp at h
  | _ :: _, [], _, _, _, _, h, _ => by simp at h
  | p :: P, w :: vs, 0, m, nd, h1, h2, hk => by
    simp at h1 h2; subst h1; subst h2
    show bindC kindOf ((p, w) :: P.zip vs) m p = _
    unfold bindC
    rw [bindC_out fun v hv => (List.nodup_cons.mp nd).1 (List.of_mem_zip hv).1, if_neg hk]
    simp
  | p :: P, w :: vs, i + 1, m, nd, h1, h2, hk => by
    show bindC kindOf ((p, w) :: P.zip vs) m x = _
    unfold bindC
    exact bindC_get (i := i) (List.nodup_cons.mp nd).2 (by simpa using h1) (by simpa using h2) hk
noncomputable def start (N : List Str) (vs : List V) : St := vs.map some ++ List.replicate (N.length - vs.length) none
noncomputable def cxOf (CX : CXT) (P : Program) (w : World) (K : PySem.W.Frag) (mg : Str → Option Value) (base : Heap) (N : List Str) (qual : Str) (scope : Scope) (f : Addr) (cd : Value) (A : Around) (outer : List Env) (s : Shared) (H : Hp) (E : XK) : Cx where
  prog := P
  w := w
  K := K
  mg := mg
  base := base
  A := A.deeper (envOfC qual scope s.heap.objs.size f cd)
  N := N
  s₀ := s
  H₀ := H
  env := envOfC qual scope s.heap.objs.size f cd
  outer := outer
  stack := envOfC qual scope s.heap.objs.size f cd :: outer
  ex := []
  calm := true
  fn := fun _ => true
  pn := []
  xe := fun e s' => wpAny (model P w) (A.deeper (envOfC qual scope s.heap.objs.size f cd)) (leaving (envOfC qual scope s.heap.objs.size f cd) e) (fun _ s'' => CX outer H s E e s'') (fun e' s'' => CX outer H s E e' s'') s'
theorem cell_has {sc : Scope} {n : Nat} {x : Str} (h : sc.names.lookup x = some .cell) : ∃ c, (cellsFrom n sc.names []).lookup x = some c := by
  have q := PySem.W.cellsFrom_some sc.names n [] (.inl h)
  exact Option.isSome_iff_exists.mp q
theorem inv_start {CX : CXT} {P : Program} {w : World} {K : PySem.W.Frag} {mg : Str → Option Value} {base : Heap} {N ps : List Str} {qual : Str} {scope : Scope} {f : Addr} {cd : Value} {A : Around} {outer : List Env} {s s1 : Shared} {H : Hp} {E : XK} {us : List Value} {vs : List V}
    (S : FnScope N ps scope) (hd : A.handled = none) (e0 : Env0 P w K mg base A outer s H) (hl : vs.length = ps.length) (r : Vals vs us)
    (x : InCallC s s.heap.objs.size (bindL (envOfC qual scope s.heap.objs.size f cd).kindOf (ps.zip us) fun _ => none) (cellsFrom (s.heap.objs.size + 1) scope.names []) (bindC (envOfC qual scope s.heap.objs.size f cd).kindOf (ps.zip us) fun _ => none) s1) :
    Inv (cxOf CX P w K mg base N qual scope f cd A outer s H E) [] (start N vs) H s1 := by
  have hpl : ps.length ≤ N.length := by have := congrArg List.length S.pre; rw [List.length_take] at this; omega
  obtain ⟨h1, tk, rfl, hk⟩ := x.done
  have noA : ∀ b : Addr, b ∉ (cxOf CX P w K mg base N qual scope f cd A outer s H E).ex := fun b z => absurd (show b ∈ ([] : List Addr) from z) (by simp)
  refine ⟨⟨e0.mod, S.kind, rfl, rfl, Nat.le_refl _, fun y z c h1 h2 => ?_, fun y hy => ?_, fun y c _ h => ?_, fun _ => hd, Around.frames_deeper e0.frames, .inr ⟨rfl, rfl⟩, fun b z => absurd z (noA b), e0.bs, e0.bsz, fun b _ _ => noA b, fun b z => absurd z (noA b), e0.funs, e0.frf⟩,
    rfl, e0.bare, Un.kept hk, ⟨_, x.toInCall.ns, fun i y v h1 h2 h3 => ?_⟩, fun y c h => ⟨_, x.cell y c h⟩, e0.hok.fresh (Nat.le_refl _), fun y c h => ?_, fun p hp => absurd (show p ∈ ([] : List (Addr × Obj)) from hp) (by simp), e0.hok.kept hk, ?_⟩
  · exact name_of_addr x.apart (PySem.mem_of_lookup h1) (PySem.mem_of_lookup h2)
  · have hy : scope.names.lookup y = some .cell ∨ scope.names.lookup y = some .free := hy
    rcases hy with hy | hy
    · exact cell_has hy
    · exact absurd rfl (S.nofree _ (PySem.mem_of_lookup hy))
  · exact Nat.le_of_lt (x.above y c (PySem.mem_of_lookup h))
  · have hi : i < vs.length := by
      unfold start at h2
      by_cases hi : i < vs.length
      · exact hi
      · rw [List.getElem?_append_right (by simpa using hi)] at h2
        rw [List.getElem?_replicate] at h2
        split at h2 <;> cases h2
    have ha : vs[i]? = some v := by
      unfold start at h2
      rw [List.getElem?_append_left (by simpa using hi), List.getElem?_map] at h2
      cases e : vs[i]? with
      | none => rw [e] at h2; cases h2
      | some a => rw [e] at h2; cases h2; rfl
    obtain ⟨u, hu, rv⟩ := r.get ha
    have hp : ps[i]? = some y := by
      rw [← S.pre, List.getElem?_take_of_lt (by omega)]; exact h1
    have ndP : ps.Nodup := by rw [← S.pre]; exact S.nd.sublist (List.take_sublist _ _)
    refine ⟨u, rv, ?_⟩
    rcases S.par y (List.mem_of_getElem? hp) with k | k
    · exact .inl ⟨k, bindL_get ndP hp hu k⟩
    · obtain ⟨c, e⟩ := cell_has (n := s.heap.objs.size + 1) k
      refine .inr ⟨.inl k, c, e, ?_⟩
      have q := x.cell y c e
      rw [bindC_get ndP hp hu (by show scope.names.lookup y ≠ _; rw [k]; decide)] at q
      exact q
  · exact e0.hok.fresh (Nat.le_of_lt (x.above y c (PySem.mem_of_lookup h)))
  · unfold start
    show _ = N.length
    rw [List.length_append, List.length_map, List.length_replicate]
    omega
theorem fn_of {CX : CXT} {P : Program} {w : World} {K : PySem.W.Frag} {mg : Str → Option Value} {base : Heap} {k : Nat} {f : Addr} {name qual : Str} {params : Arguments} {body : List Stmt} {scope : Scope} {dV kV doc pm cdv ct oc : Value} {an od : Option Addr}
    {osl : Array (Option Value)} {N ps : List Str} {sp : Sp} (lk : K.lookup f = some ⟨oc, od, .func (PySem.W.fnOf name qual params body scope dV kV doc pm an cdv ct), osl⟩) (hcd : PySem.W.codeIn K cdv qual = true) (S : FnScope N ps scope)
    (len : ∀ vs H Q E, sp vs H Q E → vs.length = ps.length)
    (hbody : ∀ (A : Around) (outer : List Env) (s : Shared) (H : Hp) (vs : List V) (Q : VK) (E : XK), Room k (A.deeper (envOfC qual scope s.heap.objs.size f cdv)) → sp vs H Q E →
      ∃ t, PSs (cxOf CX P w K mg base N qual scope f cdv A outer s H E) body t ∧ t { nx := fun _ H' => Q .non H', rt := Q } (start N vs) H) :
    FnOk P w K mg base CX (k + 1) f (PySem.W.fnOf name qual params body scope dV kV doc pm an cdv ct) ps sp := by
  refine ⟨len, fun A outer s H args us vs Q E hr e0 hb r hsp => ?_⟩
  have hl := len _ _ _ _ hsp
  have KX : K.In s.heap := e0.mod.kin.keeps fun b o e => (e0.bs b o e).1
  have lim : s.heap.NoLimit := e0.mod.nolimit.keeps fun b o e => (e0.bs b o e).1
  have hkind : ∀ y ∈ ps.zip us, scope.names.lookup y.1 = some .local ∨ (scope.names.lookup y.1 = some .cell ∧ ((cellsFrom (s.heap.objs.size + 1) scope.names []).lookup y.1).isSome = true) := fun ⟨n, v⟩ hy => by
    rcases S.par n (List.of_mem_zip hy).1 with q | q
    · exact .inl q
    · exact .inr ⟨q, PySem.W.cellsFrom_some _ _ _ (.inl q)⟩
  refine codeAny_call_function hr.depth (KX _ _ lk) rfl S.co S.gen rfl (PySem.W.codeRec_of KX hcd) (hb _ _ _ _ ?_)
  refine wpAny_newFunctionEnv_cells S.kind hkind fun env he s1 x => ?_
  subst he
  refine ⟨lim.keeps x.toInCall.keep, codeAny_func ?_⟩
  obtain ⟨t, ht, hq⟩ := hbody A outer s H vs Q E (hr.deeper _) hsp
  have I : Inv (cxOf CX P w K mg base N qual scope f cdv A outer s H E) [] (start N vs) H s1 := inv_start S hr.hd e0 hl r x
  refine wpAny_mono (ht [] s1 (start N vs) H _ I hq) (fun fl s' hs => ?_) fun e s' hs => hs
  have fin : ∀ {σ' : St} {H' : Hp} {v : V} {u : Value}, Inv (cxOf CX P w K mg base N qual scope f cdv A outer s H E) [] σ' H' s' → RelV v u → Q v H' → CE outer P w H s Q u s' :=
    fun {σ' H' v u} J rv q => ⟨v, H', J.os, J.bare, J.base, J.hok, rv, q⟩
  cases fl with
  | ret u =>
    obtain ⟨v, σ', H', J, rv, q⟩ := hs
    exact fin J rv q
  | next =>
    obtain ⟨σ', H', J, q⟩ := hs
    exact fin (v := V.non) (u := Value.none) J rfl q
  | brk =>
    obtain ⟨_, _, _, q⟩ := hs
    exact False.elim q
  | cont =>
    obtain ⟨_, _, _, q⟩ := hs
    exact False.elim q
section
variable {X : Cx} {x : Str} {p pos : Pos} {e : Expr} {es : List Expr} {t : TA} {id T : String} {r : List V → Hp → VK → Prop}
noncomputable def tCB (r : List V → Hp → VK → Prop) (t : TA) : TE := fun σ H Q => t σ H fun vs H1 => r vs H1 Q
theorem pe_callB (hc : CallR X (.builtin id) r) (hg : Gl X x) (hm : X.mg x = none) (hv : bootBuiltins x = some (.builtin id)) (ha : PA X (e :: es) t) (hn : x ≠ "__name__" := by decide) (hdb : (x == ("__debug__" : Str)) = false := by decide)
    (he : starEach (e :: es) X.env = (false, eval e X.env) :: starEach es X.env := by rfl) (hpl : (backTo pos (starEach es X.env)).any (·.1) = false := by rfl) : PE X (.Call (.Name x p) (e :: es) [] pos) (tCB r t) := by
  intro pins s σ H Q I h
  refine wpAny_Call_Name_kw (ld_blt I hg hm hv ?_ hn hdb)
  exact PyProof.Rows.callWith_builtin1 (thn (ha pos pins s σ H _ I h) fun us s1 ⟨vs, H1, I1, r1, q1⟩ => hc pins s1 σ H1 vs us Q I1 r1 q1) he hpl
theorem pe_callTy (hc : CallR X (.type T) r) (hg : Gl X x) (hm : X.mg x = none) (hv : bootBuiltins x = some (.type T)) (ha : PA X (e :: es) t) (hn : x ≠ "__name__" := by decide) (hdb : (x == ("__debug__" : Str)) = false := by decide)
    (he : starEach (e :: es) X.env = (false, eval e X.env) :: starEach es X.env := by rfl) (hpl : (backTo pos (starEach es X.env)).any (·.1) = false := by rfl) : PE X (.Call (.Name x p) (e :: es) [] pos) (tCB r t) := by
  intro pins s σ H Q I h
  refine wpAny_Call_Name_kw (ld_blt I hg hm hv ?_ hn hdb)
  exact PyProof.Rows.callWith_type1 (thn (ha pos pins s σ H _ I h) fun us s1 ⟨vs, H1, I1, r1, q1⟩ => hc pins s1 σ H1 vs us Q I1 r1 q1) he hpl
end
end L2
namespace HT
open PySem PyProof.Rows
section
open PySem.SeqAt
open PySem.AutoSeq1 (wpAny_loadPart')
open PySem.MeetsSeq PySem.MeetsSeq2 PySem.MeetsSeq3
end
section
variable {prog : Program} {w : World} {A : Around} {E : Value → Shared → Prop} {s : Shared}
noncomputable def sIx (n d : Nat) : Option Int → Nat
  | none => d
  | some v => if v < 0 then (v + (n : Int)).toNat else min v.toNat n
theorem sIx_none (n d : Nat) : sIx n d none = d := rfl
end
end HT
namespace L2
open PySem PySem.Spec PyProof.Rows
noncomputable abbrev TO := St → Hp → (Option Int → Hp → Prop) → Prop
noncomputable def PO (X : Cx) (e : Option Expr) (t : TO) : Prop :=
  ∀ (pins : List (Addr × Obj)) (s : Shared) (σ : St) (H : Hp) (Q : Option Int → Hp → Prop), Inv X pins σ H s → t σ H Q →
    wpAny (model X.prog X.w) X.A (evalPart e X.env) (fun u s' => ∃ o H', Inv X pins σ H' s' ∧ IsPart u o ∧ Q o H') X.xe s
noncomputable def tNoPart : TO := fun _ H Q => Q none H
noncomputable def tPart (t : TE) : TO := fun σ H Q => t σ H fun x H1 => ∃ i, x = .int i ∧ Q (some i) H1
section
variable {X : Cx} {e : Expr} {te : TE} {lo hi : Option Expr} {tl th : TO} {pos p2 : Pos}
theorem po_none : PO X none tNoPart := by
  intro pins s σ H Q I h
  rw [evalPart_none]
  exact wpAny_pure ⟨none, H, I, .none, h⟩
theorem po_some (h : PE X e te) : PO X (some e) (tPart te) := by
  intro pins s σ H Q I hw
  rw [evalPart_some]
  refine thn (h pins s σ H _ I hw) fun u s1 ⟨x, H1, I1, r1, q1⟩ => ?_
  obtain ⟨i, rfl, q⟩ := q1
  obtain ⟨t, rfl⟩ := r1
  exact ⟨some i, H1, I1, .int i t, q⟩
noncomputable def SlR (X : Cx) (r : V → Option Int → Option Int → Hp → VK → Prop) : Prop :=
  ∀ (pins : List (Addr × Obj)) (s : Shared) (σ : St) (H : Hp) (x : V) (v vl vu : Value) (lo hi : Option Int) (sl : Addr) (Q : VK), Inv X pins σ H s → RelV x v → s.heap.IsSliceOf sl vl vu .none → IsPart vl lo → IsPart vu hi → r x lo hi H Q →
    ∃ T id, typeLookup (.type T) "__getitem__" = pure (some (.builtin id)) ∧ s.TypeIs v T ∧ wpAny (model X.prog X.w) X.A (getItem v (.ref sl)) (EP X pins σ Q) X.xe s
theorem SlR.or {r r' : V → Option Int → Option Int → Hp → VK → Prop} (h : SlR X r) (h' : SlR X r') : SlR X (fun x lo hi H Q => r x lo hi H Q ∨ r' x lo hi H Q) := by
  intro pins s σ H x v vl vu lo hi sl Q I rx hs pl pu q
  rcases q with q | q
  · exact h pins s σ H x v vl vu lo hi sl Q I rx hs pl pu q
  · exact h' pins s σ H x v vl vu lo hi sl Q I rx hs pl pu q
noncomputable def tSl (r : V → Option Int → Option Int → Hp → VK → Prop) (te : TE) (tl th : TO) : TE := fun σ H Q => te σ H fun x H1 => tl σ H1 fun l H2 => th σ H2 fun u H3 => r x l u H3 Q
theorem pe_slice {r : V → Option Int → Option Int → Hp → VK → Prop} (hr : SlR X r) (he : PE X e te) (hl : PO X lo tl) (hu : PO X hi th) : PE X (.Subscript e (.Slice lo hi none p2) pos) (tSl r te tl th) := by
  intro pins s σ H Q I h
  refine Subscript_ (thn (he pins s σ H _ I h) fun v s1 ⟨x, H1, I1, r1, q1⟩ => ?_)
  refine wpAny_Slice (thn (hl pins s1 σ H1 _ I1 q1) fun vl s2 ⟨l, H2, I2, pl, q2⟩ => thn (hu pins s2 σ H2 _ I2 q2) fun vu s3 ⟨u, H3, I3, pu, q3⟩ => ?_)
  rw [evalPart_none]
  refine wpAny_pure ?_
  have I4 : Inv X pins σ H3 { s3 with heap := s3.heap.push { cls := .type "slice", data := .fields #[vl, vu, .none] } } := I3.kept (t' := s3.toks) fun b ob q => Heap.get?_push_of_some _ q
  obtain ⟨T, id, hT, ht, hg⟩ := hr pins { s3 with heap := s3.heap.push { cls := .type "slice", data := .fields #[vl, vu, .none] } } σ H3 x v vl vu l u s3.heap.objs.size Q I4 r1 (Heap.IsSliceOf.new ..) pl pu q3
  show wpAny (model X.prog X.w) X.A (subscriptTail e (.Slice lo hi none p2) v (.ref s3.heap.objs.size)) (EP X pins σ Q) X.xe { s3 with heap := s3.heap.push { cls := .type "slice", data := .fields #[vl, vu, .none] } }
  exact tail_any (ops := [.ref s3.heap.objs.size, v]) ht hT hg (by with_unfolding_all rfl)
noncomputable def cutV (xs : List V) (lo hi : Option Int) : List V := (xs.drop (HT.sIx xs.length 0 lo)).take (HT.sIx xs.length xs.length hi - HT.sIx xs.length 0 lo)
theorem cutV_length (xs : List V) (lo hi : Option Int) : (cutV xs lo hi).length ≤ xs.length := by
  unfold cutV
  rw [List.length_take, List.length_drop]
  omega
end
noncomputable def ixN (n : Nat) (i : Int) : Option Nat := if 0 ≤ i then (if i < n then some i.toNat else none) else if -(n : Int) ≤ i then some (i + n).toNat else none
noncomputable def atI {α : Type} (xs : List α) (i : Int) : Option α := (ixN xs.length i).bind fun j => xs[j]?
theorem ixN_seq {n : Nat} {i : Int} {j : Nat} (h : ixN n i = some j) : seqIndex? i n = some j ∧ j < n ∧ -(n : Int) ≤ i ∧ i < n := by
  unfold ixN at h
  by_cases h0 : 0 ≤ i
  · rw [if_pos h0] at h
    by_cases h1 : i < n
    · rw [if_pos h1] at h
      have e : i.toNat = j := Option.some.inj h
      exact ⟨by rw [seqIndex_of h0 h1, e], by omega, by omega, h1⟩
    · rw [if_neg h1] at h; cases h
  · rw [if_neg h0] at h
    by_cases h1 : -(n : Int) ≤ i
    · rw [if_pos h1] at h
      have e : (i + n).toNat = j := Option.some.inj h
      exact ⟨by rw [seqIndex_neg (by omega) h1, e], by omega, h1, by omega⟩
    · rw [if_neg h1] at h; cases h
theorem atI_get {α : Type} {xs : List α} {i : Int} {v : α} (h : atI xs i = some v) : ∃ j, seqIndex? i xs.length = some j ∧ xs[j]? = some v ∧ j < xs.length ∧ -(xs.length : Int) ≤ i ∧ i < xs.length := by
  unfold atI at h
  cases e : ixN xs.length i with
  | none => rw [e] at h; cases h
  | some j =>
    rw [e] at h
    obtain ⟨h1, h2, h3, h4⟩ := ixN_seq e
    exact ⟨j, h1, h, h2, h3, h4⟩
theorem atI_nat {α : Type} {xs : List α} {j : Nat} {v : α} (h : xs[j]? = some v) : atI xs (j : Int) = some v := by
  have hj : j < xs.length := (List.getElem?_eq_some_iff.mp h).1
  have e : ixN xs.length (j : Int) = some j := by
    unfold ixN
    rw [if_pos (by omega), if_pos (by omega)]; simp
  unfold atI; rw [e]; exact h
noncomputable def PlainIx (b : Expr) : Prop := ∀ o i, subscripted b false o i = operate [o, i] (getItem o i)
noncomputable def IxR (X : Cx) (r : R2) : Prop :=
  ∀ (value slice : Expr) (pins : List (Addr × Obj)) (s : Shared) (σ : St) (H : Hp) (x y : V) (v u : Value) (Q : VK), Inv X pins σ H s → RelV x v → RelV y u → r x y H Q →
    subscripted slice false v u = operate [v, u] (getItem v u) → wpAny (model X.prog X.w) X.A (subscriptTail value slice v u) (EP X pins σ Q) X.xe s
noncomputable def MtR (X : Cx) (id : String) (r : V → List V → Hp → VK → Prop) : Prop :=
  ∀ (pins : List (Addr × Obj)) (s : Shared) (σ : St) (H : Hp) (x : V) (xs : List V) (v : Value) (us : List Value) (Q : VK), Inv X pins σ H s → RelV x v → Vals xs us → r x xs H Q →
    wpAny (model X.prog X.w) X.A (call (.builtin id) (v :: us)) (EP X pins σ Q) X.xe s
section
variable {X : Cx} {a b : Expr} {ta tb : TE} {pos : Pos}
theorem IxR.or {r r' : R2} (h : IxR X r) (h' : IxR X r') : IxR X (fun x y H Q => r x y H Q ∨ r' x y H Q) := by
  intro value slice pins s σ H x y v u Q I rx ry q hs
  rcases q with q | q
  · exact h value slice pins s σ H x y v u Q I rx ry q hs
  · exact h' value slice pins s σ H x y v u Q I rx ry q hs
theorem pe_ix {r : R2} (hr : IxR X r) (ha : PE X a ta) (hb : PE X b tb) (hs : PlainIx b := by exact fun _ _ => rfl) : PE X (.Subscript a b pos) (tOp r ta tb) := by
  intro pins s σ H Q I h
  exact Subscript_ (binT ha hb I h fun v u s2 x y H2 I2 rx ry q => hr a b pins s2 σ H2 x y v u Q I2 rx ry q (hs _ _))
noncomputable def rIxL (K : PySem.W.Frag) : R2 := fun x y H Q => ∃ p xs i v, x = .ref p ∧ y = .int i ∧ SqL K H p xs ∧ atI xs i = some v ∧ Q v H
noncomputable def rIxT (K : PySem.W.Frag) : R2 := fun x y H Q => ∃ p xs i v, x = .ref p ∧ y = .int i ∧ SqT K H p xs ∧ atI xs i = some v ∧ Q v H
noncomputable def rIxS : R2 := fun x y H Q => ∃ z i c, x = .str z ∧ y = .int i ∧ z.length ≤ sizeLine ∧ atI z.cps.toList i = some c ∧ Q (.str ⟨#[c]⟩) H
theorem ix_list : IxR X (rIxL X.K) := by
  intro value slice pins s σ H x y v u Q I rx ry h hs
  obtain ⟨p, xs, i, z, rfl, rfl, hq, he, q⟩ := h
  cases rx
  obtain ⟨t, rfl⟩ := ry
  obtain ⟨its, r, pl, hz⟩ := I.list hq
  obtain ⟨j, h1, h2, h3, h4, h5⟩ := atI_get he
  obtain ⟨w, ew, rw'⟩ := r.get h2
  have hl := r.length
  have hn := line63
  have fin : EP X pins σ Q w s := ⟨z, H, I, rw', q⟩
  by_cases h0 : 0 ≤ i
  · have hj : i.toNat = j := by
      rw [seqIndex_of h0 h5] at h1
      exact Option.some.inj h1
    exact item_listR pl.isList h0 (by omega) (by rw [hj]; simpa using ew) fin hs
  · have hj : (i + (its.toArray.size : Int)).toNat = j := by
      rw [seqIndex_neg (by omega) h4] at h1
      rw [List.size_toArray, ← hl]
      exact Option.some.inj h1
    exact subscriptTail_builtinR (x := w) pl.isList.typeIs slot_list_getitem.lookup
      (wpAny_getItem_list_neg (Q := fun r s' => r = w ∧ EP X pins σ Q r s') pl.isList (by omega) (by rw [List.size_toArray] <;> omega) (by omega) (by rw [hj]; simpa using ew) ⟨rfl, fin⟩) hs
theorem ix_tup : IxR X (rIxT X.K) := by
  intro value slice pins s σ H x y v u Q I rx ry h hs
  obtain ⟨p, xs, i, z, rfl, rfl, hq, he, q⟩ := h
  cases rx
  obtain ⟨t, rfl⟩ := ry
  obtain ⟨its, r, pl, hz⟩ := I.tuple hq
  obtain ⟨j, h1, h2, h3, h4, h5⟩ := atI_get he
  obtain ⟨w, ew, rw'⟩ := r.get h2
  have hl := r.length
  have hn := line63
  have fin : EP X pins σ Q w s := ⟨z, H, I, rw', q⟩
  exact subscriptTail_builtinR (x := w) pl.typeIs slot_tuple_getitem.lookup
    (getItem_tuple (j := j) (Q := fun r s' => r = w ∧ EP X pins σ Q r s') pl (by omega) (by omega) (by rw [List.size_toArray, ← hl]; exact h1) (by simpa using ew) ⟨rfl, fin⟩) hs
theorem ix_str : IxR X rIxS := by
  intro value slice pins s σ H x y v u Q I rx ry h hs
  obtain ⟨z, i, c, rfl, rfl, hz, he, q⟩ := h
  obtain ⟨t, rfl⟩ := rx
  obtain ⟨t', rfl⟩ := ry
  obtain ⟨j, h1, h2, h3, h4, h5⟩ := atI_get he
  have hl : z.cps.toList.length = z.length := by simp [Str.length]
  rw [hl] at h1 h4 h5
  have hn := line63
  exact tail_any (typeIs_str s z t) slot_str_getitem.lookup (getItem_str (c := c) (by
    have e1 : decide (i < -(2 ^ 63 : Int)) = false := decide_eq_false (by omega)
    have e2 : decide (i ≥ 2 ^ 63) = false := decide_eq_false (by omega)
    rw [e1, e2, Bool.or_false]) (by rw [h1]; simpa using h2) ⟨.str ⟨#[c]⟩, H, I.tok _, ⟨_, rfl⟩, q⟩) hs
noncomputable def rIx (K : PySem.W.Frag) : R2 := fun x y H Q => rIxL K x y H Q ∨ rIxT K x y H Q ∨ rIxS x y H Q
theorem ix_seq : IxR X (rIx X.K) := ix_list.or (ix_tup.or ix_str)
theorem mapSeq_set (its : List Value) (n j : Nat) (u : Value) : Obj.mapSeq (·.setIfInBounds j u) { cls := .type "list", data := .seq its.toArray n } = { cls := .type "list", data := .seq (its.set j u).toArray n } := by
  simp [Obj.mapSeq]
theorem Inv.lst {pins : List (Addr × Obj)} {σ : St} {H : Hp} {s : Shared} {p : Addr} {xs : List V} (I : Inv X pins σ H s) (h : H p = some (.lst xs)) :
    ∃ (its : List Value) (n : Nat), Vals xs its ∧ s.heap.get? p = some { cls := .type "list", data := .seq its.toArray n } ∧ xs.length ≤ sizeLine := by
  obtain ⟨z, its, n, r, e⟩ := I.hok p _ h
  exact ⟨its, n, r, e, z⟩
theorem Inv.lstUpd {pins : List (Addr × Obj)} {σ : St} {H : Hp} {s : Shared} {p : Addr} {xs ys : List V} {its its' : List Value} {n n' : Nat} {f : Obj → Obj} (I : Inv X pins σ H s) (h : H p = some (.lst xs))
    (ho : s.heap.get? p = some { cls := .type "list", data := .seq its.toArray n }) (hf : f { cls := .type "list", data := .seq its.toArray n } = { cls := .type "list", data := .seq its'.toArray n' }) (r : Vals ys its') (hz : ys.length ≤ sizeLine) (t : Nat) :
    Inv X pins σ (upd H p (.lst ys)) { s with heap := s.heap.update p f, toks := t } := by
  have e : (s.heap.update p f).get? p = some { cls := .type "list", data := .seq its'.toArray n' } := by
    rw [Heap.get?_update_self f ho (by rw [hf] <;> rfl), hf]
  refine I.write (x := p) (e := p) (by rw [h]; trivial) (.inl rfl) (fun b u hb q => (Heap.get?_update_other _ _ (Ne.symm hb)).trans q) ⟨_, e⟩ ?_
  exact ⟨hz, its', n', r, e⟩
noncomputable def rSetL : V → V → V → Hp → (Hp → Prop) → Prop := fun o i v H Q => ∃ p xs k j, o = .ref p ∧ i = .int k ∧ H p = some (.lst xs) ∧ ixN xs.length k = some j ∧ Q (upd H p (.lst (xs.set j v)))
theorem set_list : PSet X rSetL := by
  intro pins s σ H o i v ov iv u Q I ro ri rv h
  obtain ⟨p, xs, k, j, rfl, rfl, hp, hj, q⟩ := h
  cases ro
  obtain ⟨t, rfl⟩ := ri
  obtain ⟨its, n, r, ho, hz⟩ := I.lst hp
  obtain ⟨h1, h2, h3, h4⟩ := ixN_seq hj
  have hl := r.length
  have hn := line63
  have I' : Inv X pins σ (upd H p (.lst (xs.set j v))) { s with heap := s.heap.update p (Obj.mapSeq (·.setIfInBounds j u)) } :=
    I.lstUpd hp ho (mapSeq_set its n j u) (r.set rv j) (by rw [List.length_set]; exact hz) s.toks
  by_cases h0 : 0 ≤ k
  · have hk : k.toNat = j := by
      rw [seqIndex_of h0 h4] at h1
      exact Option.some.inj h1
    exact PySem.W.ki_setAt ho h0 (by omega) (by rw [List.size_toArray, ← hl]; exact h4) (by rw [hk]; exact ⟨_, I', q⟩)
  · have hk : (k + (its.toArray.size : Int)).toNat = j := by
      rw [seqIndex_neg (by omega) h3] at h1
      rw [List.size_toArray, ← hl]
      exact Option.some.inj h1
    exact PySem.W.ki_setBack ho (by omega) (by rw [List.size_toArray, ← hl]; exact h3) (by omega) (by rw [hk]; exact ⟨_, I', q⟩)
theorem slice_bounds (lo hi : Option Int) (n : Nat) : (sliceBounds lo hi none n).1 = ((HT.sIx n 0 lo : Nat) : Int) ∧ (sliceBounds lo hi none n).2.1 = ((HT.sIx n n hi : Nat) : Int) ∧ (sliceBounds lo hi none n).2.2 = 1 := by
  refine ⟨?_, ?_, rfl⟩
  · cases lo with
    | none => simp [sliceBounds, HT.sIx]
    | some i =>
      simp only [sliceBounds, HT.sIx, Option.getD_none, show (1 : Int) > 0 by decide, if_true]
      by_cases h : i < 0
      · simp only [h, if_true] <;> omega
      · simp only [h, if_false] <;> omega
  · cases hi with
    | none => simp [sliceBounds, HT.sIx]
    | some i =>
      simp only [sliceBounds, HT.sIx, Option.getD_none, show (1 : Int) > 0 by decide, if_true]
      by_cases h : i < 0
      · simp only [h, if_true] <;> omega
      · simp only [h, if_false] <;> omega
theorem slicePick_cut (its : List Value) (lo hi : Option Int) : slicePick its.toArray lo hi none = ((its.drop (HT.sIx its.length 0 lo)).take (HT.sIx its.length its.length hi - HT.sIx its.length 0 lo)).toArray := by
  obtain ⟨h1, h2, h3⟩ := slice_bounds lo hi its.toArray.size
  unfold slicePick
  rw [h1, h2, h3]
  simp only [sliceRange_one, pick_run, List.size_toArray] <;> rfl
noncomputable def rSlL (K : PySem.W.Frag) : V → Option Int → Option Int → Hp → VK → Prop := fun x lo hi H Q => ∃ a xs, x = .ref a ∧ SqL K H a xs ∧ ∀ p, H p = none → Q (.ref p) (upd H p (.lst (cutV xs lo hi)))
theorem sl_list : SlR X (rSlL X.K) := by
  intro pins s σ H x v vl vu lo hi sl Q I rx hs pl pu h
  obtain ⟨a, xs, rfl, hx, q⟩ := h
  cases rx
  obtain ⟨its, r, ht, hz⟩ := I.list hx
  have hlen := r.length
  refine ⟨"list", _, slot_list_getitem.lookup, ht.isList.typeIs, ?_⟩
  refine wpAny_getItem_list_slice ht.isList hs pl pu .none (by simp) ?_ (by rw [List.size_toArray] <;> omega)
  rw [slicePick_cut, ← hlen]
  refine ⟨.ref s.heap.objs.size, _, I.laid (t' := s.toks) (o := .lst (cutV xs lo hi)) (fun b ob q => Heap.get?_push_of_some _ q) (Nat.le_refl _) ?_, rfl, q _ (I.hok.fresh (Nat.le_refl _))⟩
  exact ⟨Nat.le_trans (cutV_length xs lo hi) hz, _, 0, (r.drop (HT.sIx xs.length 0 lo)).take (HT.sIx xs.length xs.length hi - HT.sIx xs.length 0 lo), Heap.get?_push_size _ rfl⟩
noncomputable def flatV : V → Bool
  | .non => true
  | .bl _ => true
  | .int _ => true
  | .str _ => true
  | _ => false
noncomputable def eqV : V → V → Bool
  | .non, .non => true
  | .bl a, .bl b => a == b
  | .bl a, .int b => (if a then 1 else 0) == b
  | .int a, .bl b => a == (if b then 1 else 0)
  | .int a, .int b => a == b
  | .str a, .str b => a == b
  | _, _ => false
theorem eqAt_V {A : Around} {s : Shared} {y x : V} {u v : Value} (ry : RelV y u) (rx : RelV x v) (fy : flatV y = true) (fx : flatV x = true) : SeqAt.EqAt A s u v (eqV y x) := by
  cases y with
  | non =>
    cases ry
    cases x with
    | non => cases rx; exact SeqAt.EqAt.same _
    | bl b => cases rx; exact SeqAt.EqAt.none_bool b
    | int b => obtain ⟨t, rfl⟩ := rx; exact SeqAt.EqAt.none_int b t
    | str b => obtain ⟨t, rfl⟩ := rx; exact SeqAt.EqAt.none_str b t
    | _ => exact absurd (show false = true from fx) Bool.false_ne_true
  | bl a =>
    cases ry
    cases x with
    | non => cases rx; exact SeqAt.EqAt.bool_none a
    | bl b => cases rx; exact SeqAt.EqAt.bool_bool a b
    | int b => obtain ⟨t, rfl⟩ := rx; exact SeqAt.EqAt.bool_int a b t
    | str b => obtain ⟨t, rfl⟩ := rx; exact SeqAt.EqAt.bool_str a b t
    | _ => exact absurd (show false = true from fx) Bool.false_ne_true
  | int a =>
    obtain ⟨t', rfl⟩ := ry
    cases x with
    | non => cases rx; exact SeqAt.EqAt.int_none a t'
    | bl b => cases rx; exact SeqAt.EqAt.int_bool a t' b
    | int b => obtain ⟨t, rfl⟩ := rx; exact SeqAt.EqAt.int_int a t' b t
    | str b => obtain ⟨t, rfl⟩ := rx; exact SeqAt.EqAt.int_str a t' b t
    | _ => exact absurd (show false = true from fx) Bool.false_ne_true
  | str a =>
    obtain ⟨t', rfl⟩ := ry
    cases x with
    | non => cases rx; exact SeqAt.EqAt.str_none a t'
    | bl b => cases rx; exact SeqAt.EqAt.str_bool a t' b
    | int b => obtain ⟨t, rfl⟩ := rx; exact SeqAt.EqAt.str_int a t' b t
    | str b => obtain ⟨t, rfl⟩ := rx; exact SeqAt.EqAt.str_str a t' b t
    | _ => exact absurd (show false = true from fx) Bool.false_ne_true
  | _ => exact absurd (show false = true from fy) Bool.false_ne_true
noncomputable def eqU (x : V) (u : Value) : Bool := match u with
  | .none => eqV .non x
  | .bool b => eqV (.bl b) x
  | .int i _ => eqV (.int i) x
  | .str z _ => eqV (.str z) x
  | _ => false
theorem eqU_of {x y : V} {u : Value} (r : RelV y u) (f : flatV y = true) : eqU x u = eqV y x := by
  cases y with
  | non => cases r; rfl
  | bl b => cases r; rfl
  | int i => obtain ⟨t, rfl⟩ := r; rfl
  | str z => obtain ⟨t, rfl⟩ := r; rfl
  | _ => exact absurd (show false = true from f) Bool.false_ne_true
theorem any_eqU {x : V} : ∀ {xs : List V} {us : List Value}, Vals xs us → xs.all flatV = true → us.any (eqU x) = xs.any fun y => eqV y x
  | _, _, .nil, _ => rfl
  | y :: xs, u :: us, .cons r t, f => by
    rw [List.all_cons, Bool.and_eq_true] at f
    rw [List.any_cons, List.any_cons, eqU_of r f.1, any_eqU t f.2]
theorem mem_eqAt {A : Around} {s : Shared} {x : V} {v : Value} (rx : RelV x v) (fx : flatV x = true) : ∀ {xs : List V} {us : List Value}, Vals xs us → xs.all flatV = true → ∀ u ∈ us, SeqAt.EqAt A s u v (eqU x u)
  | _, _, .nil, _ => fun u hu => by cases hu
  | y :: xs, u :: us, .cons r t, f => fun u' hu => by
    rw [List.all_cons, Bool.and_eq_true] at f
    rcases List.mem_cons.mp hu with rfl | hu
    · rw [eqU_of r f.1]; exact eqAt_V r rx f.1 fx
    · exact mem_eqAt rx fx t f.2 u' hu
noncomputable def inV (x : V) (xs : List V) : Bool := xs.any fun y => eqV y x
noncomputable def rIn (K : PySem.W.Frag) (neg : Bool) : R2 := fun x y H Q => ∃ p xs, y = .ref p ∧ (SqL K H p xs ∨ SqT K H p xs) ∧ flatV x = true ∧ xs.all flatV = true ∧ Q (.bl (if neg then !inV x xs else inV x xs)) H
theorem op_in_seq : OpR X (compareOp .In) (rIn X.K false) := by
  intro pins s σ H x y v u Q I rx ry h
  obtain ⟨p, xs, rfl, hq, fx, fs, q⟩ := h
  cases ry
  rcases hq with hq | hq
  · obtain ⟨its, r, pl, hz⟩ := I.list hq
    refine SeqAt.in_listAt (eqU x) pl.isList (fun w hw => mem_eqAt rx fx r fs w (by simpa using hw)) ⟨.bl _, H, I, rfl, ?_⟩
    rw [show its.toArray.any (eqU x) = its.any (eqU x) by simp, any_eqU r fs]
    exact q
  · obtain ⟨its, r, pl, hz⟩ := I.tuple hq
    refine SeqAt.in_tupleAt (eqU x) pl (fun w hw => mem_eqAt rx fx r fs w (by simpa using hw)) ⟨.bl _, H, I, rfl, ?_⟩
    rw [show its.toArray.any (eqU x) = its.any (eqU x) by simp, any_eqU r fs]
    exact q
theorem call_len_seq : CallR X (.builtin "len") (fun xs H Q => ∃ p ys, xs = [.ref p] ∧ (SqL X.K H p ys ∨ SqT X.K H p ys) ∧ Q (.int ys.length) H) := by
  intro pins s σ H xs us Q I r h
  obtain ⟨p, ys, rfl, hq, q⟩ := h
  obtain ⟨u, rfl, rx⟩ := vals1 r
  cases rx
  have hn := line63
  rcases hq with hq | hq
  · obtain ⟨its, r', pl, hz⟩ := I.list hq
    have hlen := r'.length
    exact Calls.call_len_list pl.isList (by simp only [List.size_toArray] <;> omega) ⟨.int ys.length, H, I.tok _, ⟨s.toks + 1, by rw [List.size_toArray, hlen]⟩, q⟩
  · obtain ⟨its, r', pl, hz⟩ := I.tuple hq
    have hlen := r'.length
    exact len_tuple pl (by simp only [List.size_toArray] <;> omega) ⟨.int ys.length, H, I.tok _, ⟨s.toks + 1, by rw [List.size_toArray, hlen]⟩, q⟩
theorem call_len_str : CallR X (.builtin "len") (fun xs H Q => ∃ z, xs = [.str z] ∧ z.length ≤ sizeLine ∧ Q (.int z.length) H) := by
  intro pins s σ H xs us Q I r h
  obtain ⟨z, rfl, hz, q⟩ := h
  obtain ⟨u, rfl, t, rfl⟩ := vals1 r
  have hn := line63
  exact len_str (by omega) ⟨.int z.length, H, I.tok _, ⟨_, rfl⟩, q⟩
theorem call_tuple_of : CallR X (.type "tuple") (fun xs H Q => ∃ p ys, xs = [.ref p] ∧ ((SqL X.K H p ys ∧ ∀ l, H l = none → Q (.ref l) (upd H l (.tup ys))) ∨ (SqT X.K H p ys ∧ Q (.ref p) H))) := by
  intro pins s σ H xs us Q I r h
  obtain ⟨p, ys, rfl, h⟩ := h
  obtain ⟨u, rfl, rx⟩ := vals1 r
  cases rx
  rcases h with ⟨hq, q⟩ | ⟨hq, q⟩
  · obtain ⟨its, r', pl, hz⟩ := I.list hq
    have hlen := r'.length
    refine call_tuple_list pl.isList (fun h' kp => ?_) (by simp only [List.size_toArray] <;> omega)
    have I1 : Inv X pins σ H { s with heap := h' } := I.kept (t' := s.toks) kp
    have I2 : Inv X pins σ (upd H h'.objs.size (.tup ys)) { s with heap := h'.push { cls := .type "tuple", data := .seq its.toArray } } :=
      I1.laid (t' := s.toks) (fun b o e => Heap.get?_push_of_some _ e) (Nat.le_refl _) (show ObjOk X.prog X.w _ _ _ (.tup ys) from ⟨hz, its, r', TupN.new _ _⟩)
    exact ⟨.ref h'.objs.size, _, I2, rfl, q _ (I1.hok.fresh (Nat.le_refl _))⟩
  · obtain ⟨its, r', pl, hz⟩ := I.tuple hq
    exact call_tuple_same pl ⟨.ref p, H, I, rfl, q⟩
noncomputable def tyV (K : PySem.W.Frag) (T : String) (x : V) (H : Hp) : Prop := match x with
  | .str _ => T = "str"
  | .int _ => T = "int"
  | .ref p => (T = "list" ∧ ∃ xs, SqL K H p xs) ∨ (T = "tuple" ∧ ∃ o, K.lookup p = some o ∧ o.cls = .type "tuple" ∧ o.dict = none) ∨
      (T = "dict" ∧ ((∃ kvs, H p = some (.dK kvs)) ∨ ∃ kvs, H p = some (.dT kvs))) ∨ (T = "set" ∧ ∃ S n, H p = some (.set S n))
  | _ => False
theorem tyV_is {pins : List (Addr × Obj)} {σ : St} {H : Hp} {s : Shared} {T : String} {x : V} {v : Value} (I : Inv X pins σ H s) (r : RelV x v) (ty : tyV X.K T x H) :
    s.TypeIs v T ∧ ∀ a, v = .ref a → ∃ ob, s.heap.get? a = some ob ∧ ob.dict = none := by
  cases x with
  | str z =>
    obtain ⟨t, rfl⟩ := r
    cases (show T = "str" from ty)
    exact ⟨typeIs_str s z t, fun _ e => nomatch e⟩
  | int i =>
    obtain ⟨t, rfl⟩ := r
    cases (show T = "int" from ty)
    exact ⟨typeIs_int s i t, fun _ e => nomatch e⟩
  | ref p =>
    cases r
    rcases ty with ⟨rfl, xs, hq⟩ | ⟨rfl, o, hk, hc, hd⟩ | ⟨rfl, hk⟩ | ⟨rfl, S, n, hk⟩
    · obtain ⟨its, _, pl, _⟩ := I.list hq
      refine ⟨pl.isList.typeIs, fun a e => ?_⟩
      cases e
      obtain ⟨o, n, e, c, hd, _⟩ := pl
      exact ⟨o, e, hd⟩
    · refine ⟨⟨o, I.kIn p o hk, hc⟩, fun a e => ?_⟩
      cases e
      exact ⟨o, I.kIn _ o hk, hd⟩
    · have z : ∃ o, s.heap.get? p = some o ∧ o.ExactDict := by
        rcases hk with ⟨kvs, hk⟩ | ⟨kvs, hk⟩
        · obtain ⟨_, _, _, _, o, _, _, e, ex, _⟩ := I.hok p _ hk
          exact ⟨o, e, ex⟩
        · obtain ⟨_, _, _, _, o, _, _, e, ex, _⟩ := I.hok p _ hk
          exact ⟨o, e, ex⟩
      obtain ⟨o, e, ex⟩ := z
      refine ⟨⟨o, e, ex.1⟩, fun a e2 => ?_⟩
      cases e2
      exact ⟨o, e, ex.2.1⟩
    · obtain ⟨o, _, _, _, e, ex, _⟩ := I.hok p _ hk
      refine ⟨⟨o, e, ex.1⟩, fun a e2 => ?_⟩
      cases e2
      exact ⟨o, e, ex.2.1⟩
  | _ => exact False.elim ty
noncomputable def tBM (K : PySem.W.Frag) (T : String) (r : V → List V → Hp → VK → Prop) (to : TE) (t : TA) : TE := fun σ H Q => to σ H fun x H1 => tyV K T x H1 ∧ t σ H1 fun xs H2 => r x xs H2 Q
variable {o e : Expr} {es : List Expr} {to : TE} {t : TA} {name : Str} {apos cpos : Pos} {T id : String} {r : V → List V → Hp → VK → Prop}
theorem pe_bm (pa : PlainAttrs T) (slot : Slot T name id) (hty : typeOf (.builtin id) = pure (.type "method_descriptor")) (hm : MtR X id r) (ho : PE X o to) (ha : PA X (e :: es) t)
    (hbase : attributeBase o name X.env (eval o X.env) = eval o X.env := by rfl)
    (hfew : ((backTo cpos (starEach (e :: es) X.env)).all (fun x => !x.1) && (backToKw cpos (keywordEach [] X.env)).all (fun x => x.1.isSome)
      && decide ((e :: es).length + ([] : List Keyword).length + (if ([] : List Keyword).isEmpty then 0 else 1) < 30)) = true := by rfl)
    (hline : (apos.endLine == cpos.line) = true := by rfl) (hs : starEach (e :: es) X.env = (false, eval e X.env) :: starEach es X.env := by rfl) (hplain : (backTo cpos (starEach es X.env)).any (·.1) = false := by rfl) :
    PE X (.Call (.Attribute o name apos) (e :: es) [] cpos) (tBM X.K T r to t) := by
  intro pins s σ H Q I h
  refine wpAny_Call_method_late hbase hfew hline rfl (thn (ho pins s σ H _ I h) fun v s1 ⟨x, H1, I1, r1, ty, q1⟩ => ?_)
  obtain ⟨h1, h2⟩ := tyV_is I1 r1 ty
  refine ⟨T, id, pa, slot, hty, h1, h2, ?_⟩
  have hA := ha cpos pins s1 σ H1 _ I1 q1
  rw [hs] at hA ⊢
  refine Calls.callWith_builtin (by show (false || (backTo cpos (starEach es X.env)).any (·.1)) = false; rw [hplain] <;> rfl) (Calls.evalArgs_plain ?_)
  exact thn hA fun us s2 ⟨vs, H2, I2, r2, q2⟩ => hm pins s2 σ H2 x vs v us Q I2 r1 r2 q2
end
noncomputable def MtM (X : Cx) (id : String) (r : V → List V → Hp → VK → Prop) : Prop :=
  ∀ (pins : List (Addr × Obj)) (s : Shared) (σ : St) (H : Hp) (x : V) (xs : List V) (v : Value) (us : List Value) (Q : VK), Inv X pins σ H s → RelV x v → Vals xs us → r x xs H Q →
    wpAny (model X.prog X.w) X.A (call (.builtin id) (v :: us)) (EP X pins σ Q) X.xe s
theorem Vals.one : ∀ {x : V} {us : List Value}, Vals [x] us → ∃ u, us = [u] ∧ RelV x u
  | _, _, .cons r .nil => ⟨_, rfl, r⟩
theorem Vals.zero : ∀ {us : List Value}, Vals [] us → us = []
  | _, .nil => rfl
section
variable {X : Cx} {pins : List (Addr × Obj)} {σ : St} {H : Hp} {s : Shared} {l b : Addr} {xs ys zs : List V}
theorem Inv.lset {its its' : List Value} {n : Nat} {f : Array Value → Array Value} {t' : Nat} (I : Inv X pins σ H s) (hH : H l = some (.lst xs))
    (e : s.heap.get? l = some { cls := .type "list", data := .seq its.toArray n }) (hf : f its.toArray = its'.toArray) (hv : Vals ys its') (hz : ys.length ≤ sizeLine) :
    Inv X pins σ (upd H l (.lst ys)) { s with heap := s.heap.update l (Obj.mapSeq f), toks := t' } := by
  have q := PySem.IsL.update e f
  rw [hf] at q
  refine I.write (x := l) (e := l) (by rw [hH]; exact trivial) (.inl rfl) (fun b' u hb hu => (Heap.get?_update_other s.heap (Obj.mapSeq f) (Ne.symm hb)).trans hu) ⟨_, q⟩ ?_
  exact ⟨hz, its', _, hv, q⟩
theorem Inv.lnew {its : List Value} {t' : Nat} (I : Inv X pins σ H s) (hv : Vals ys its) (hz : ys.length ≤ sizeLine) :
    Inv X pins σ (upd H s.heap.objs.size (.lst ys)) { s with heap := s.heap.push { cls := .type "list", data := .seq its.toArray }, toks := t' } :=
  I.laid (fun _ _ q => Heap.get?_push_of_some _ q) (Nat.le_refl _) ⟨hz, its, 0, hv, Heap.get?_push_size _ rfl⟩
theorem Inv.fresh (I : Inv X pins σ H s) : H s.heap.objs.size = none := I.hok.fresh (Nat.le_refl _)
theorem Inv.lstM (I : Inv X pins σ H s) (hH : H l = some (.lst xs)) : xs.length ≤ sizeLine ∧ ∃ (its : List Value) (n : Nat), Vals xs its ∧ xs.length = its.length ∧ s.heap.get? l = some { cls := .type "list", data := .seq its.toArray n } := by
  obtain ⟨z, its, n, r, e⟩ := I.hok l _ hH
  exact ⟨z, its, n, r, r.length, e⟩
theorem notLongL {n : Nat} (h : n ≤ sizeLine) : Builtin.List.listTooLong n = false := by
  unfold Builtin.List.listTooLong
  exact decide_eq_false (by omega)
end
section
variable {X : Cx}
noncomputable def rAppend : V → List V → Hp → VK → Prop := fun x vs H Q => ∃ l xs y, x = .ref l ∧ vs = [y] ∧ H l = some (.lst xs) ∧ xs.length < sizeLine ∧ Q .non (upd H l (.lst (xs ++ [y])))
theorem mt_append : MtM X "list.append" rAppend := by
  intro pins s σ H x vs v us Q I rx rv h
  obtain ⟨l, xs, y, rfl, rfl, hH, hz, q⟩ := h
  cases rx
  obtain ⟨u, rfl, ru⟩ := rv.one
  obtain ⟨z, its, n, r, hl, e⟩ := I.lstM hH
  refine call_meets F.slot_list_append ⟨_, e, rfl⟩ F.entry_list_append (F.args_list_append_2 _ _) (PySem.list_append l its.toArray n u (by rw [List.size_toArray]; omega)) ⟨e, ?_⟩
  refine ⟨.non, _, I.lset (its' := its ++ [u]) hH e (by simp) (r.append (.cons ru .nil)) ?_, rfl, q⟩
  rw [List.length_append, List.length_singleton]
  omega
end
section
variable {prog : Program} {w : World} {A : Around} {E : Value → Shared → Prop} {s : Shared}
end
section
variable {X : Cx}
end
end L2
namespace Att
open PySem PySem.W PySem.Calls PyProof.Rows
theorem ints_of_wellAll {P : Params} {h : Heap} : ∀ (ns : List Int) (vs : List Value), WellAll P h vs (ns.map WData.int) → IntsAre vs ns := by
  intro ns
  induction ns with
  | nil =>
    intro vs w
    rw [List.map_nil] at w
    cases w
    exact .nil
  | cons n ns ih =>
    intro vs w
    rw [List.map_cons] at w
    cases w with
    | cons a b =>
      cases a
      exact .cons _ _ (ih _ b)
theorem script_of {l : OpenLaw} {n : Nat} (hn : l.most = some n) {P : Params} {h : Heap} {args : List WData} {vals : List Value}
    (hpre : l.row.toRowW.claim.pre args = true) (hwl : WellAll P h vals args) :
    ∃ a vs ns, vals = [Value.ref a] ∧ args = [WData.list (ns.map WData.int)] ∧ h.get? a = some { cls := .type "list", data := .seq vs.toArray } ∧ IntsAre vs ns ∧ ns.length ≤ n := by
  have hsh : WShape.hasAll [] args [.list .int] = true := (pre_splitW hpre).1
  have hc : l.pre.holds [] { args := args } = true := (pre_splitW hpre).2
  obtain ⟨d, r, rfl, h1, h2⟩ := hasAllW_cons hsh
  obtain rfl := hasAllW_nil h2
  obtain ⟨xs, rfl, h3⟩ := hasW_list h1
  obtain ⟨ns, rfl⟩ := items_int h3
  have hlen : ns.length ≤ n := by
    unfold OpenLaw.pre at hc
    have h4 : (WTm.not (.lt (.lit (.int (n : Int))) (.len (.arg 0)))).holds [] { args := [.list (ns.map .int)] } = true := by
      have h4 := (holds_andW hc).1
      rw [hn] at h4
      exact h4
    have h5 := condW_of h4 (w_not (w_lt w_lit (w_len_list (w_arg rfl))))
    rw [List.length_map] at h5
    refine Nat.le_of_not_lt fun q => ?_
    have q' : (n : Int) < ((ns.length : Nat) : Int) := by omega
    first
      | (rw [decide_eq_true q'] at h5; exact absurd h5 (by decide))
      | (simp at h5; omega)
  cases hwl with
  | cons w1 w2 =>
    cases w2
    cases w1 with
    | list ho hall => exact ⟨_, _, ns, rfl, rfl, ho, ints_of_wellAll ns _ hall, hlen⟩
theorem post_true (l : OpenLaw) (args : List WData) : l.row.toRowW.claim.post args (.bool true) args = true :=
  postW_of (r := l.row.toRowW) (X := (true == true))
    (show WShape.has [] (.bool true) .bool = true by first | rfl | decide | simp [WShape.has, WShape.arms, WShape.armsAll])
    (show (WTm.eq .res (.lit (.bool true))).value [] { args := args, res := some (.bool true), after := args } = some (.bool (true == true)) from w_eq_bool (w_res rfl) w_lit) rfl
theorem attach_call {l : OpenLaw} {n : Nat} {q : Program} {loose : List Str} {XP : (Str → Option Value) → Heap → Prop} {YP : World → Heap → Prop} {d : DefRec}
    (hn : l.most = some n) (hdf : d.params.defaults = [])
    (call : ∀ (w : World) (s₀ s₁ : Shared) (mg mb : Str → Option Value) (fa : Addr) (o : Obj) (pm cd doc : Value) (a : Addr) (vs : List Value) (ns : List Int),
      Ground q loose [] XP w s₀ mg mb s₁.heap → YP w s₁.heap →
      s₁.heap.get? fa = some o → o.data = .func (docDef d.name d.params d.body d.scope pm cd doc) → s₁.heap.CodeRec cd d.name → mg d.name = some (.ref fa) →
      s₁.heap.get? a = some { cls := .type "list", data := .seq vs.toArray } → IntsAre vs ns → ns.length ≤ n → s₁.gens = #[] →
      codeAny (model l.prog w) callerA (.call (.ref fa) ⟨[.ref a], []⟩) (fun r s' => r = .ok (.ret (.bool true)) ∧ OldK s₁.heap s'.heap ∧ s'.os = s₁.os ∧ AllBare s'.gens) s₁) :
    WalkO q loose XP YP l.row.toRowW d [] (fun f vs => PySem.call f vs) := by
  intro w s₀ s₁ mg mb G Y fa o pm cd doc dV kV ho hd hcd hD hmg hg args vals as hpre hlay hrd hwl hlo
  obtain rfl : dV = .none := Dflts.none hD hdf
  obtain rfl : kV = .none := Dflts.noKw hD
  obtain ⟨a, vs, ns, rfl, rfl, hobj, hints, hlen⟩ := script_of hn hpre hwl
  refine enter_call (codeAny_mono (call w s₀ s₁ mg mb fa o pm cd doc a vs ns G Y ho (fd_plain hd) hcd hmg hobj hints hlen hg) fun r s' hq => ?_)
  obtain ⟨rfl, h2, h3, h4⟩ := hq
  exact ⟨.inl ⟨.bool true, .bool true, [], rfl, fun _ => rfl, .bool true, post_true l _, fun _ => ⟨List.Pairwise.nil, fun _ hm => (nomatch hm)⟩⟩, h2, h3, h4⟩
section
variable {prog : Program} {w : World} {A : Around} {E : Value → Shared → Prop} {s : Shared} {K : Frag}
end
end Att
namespace L2
open PySem PySem.Spec PyProof.Rows
theorem vals_ints : ∀ {vs : List Value} {ns : List Int}, IntsAre vs ns → Vals (ns.map V.int) vs
  | _, _, .nil => .nil
  | _, _, .cons n t h => .cons ⟨t, rfl⟩ (vals_ints h)
noncomputable def Only (H : Hp) : Prop := ∀ b, H b = none ∨ ∃ o xs, H b = some (.frz o (.lst xs))
theorem law_call {P : Program} {w : World} {K : PySem.W.Frag} {mg mb : Str → Option Value} {CX : CXT} {k : Nat} {fa a : Addr} {fd : FuncData} {x : Str} {sp : Sp} {s₁ : Shared} {vs : List Value} {ns : List Int}
    (KX : K.In s₁.heap) (hns : s₁.heap.Ns mainGlobals mg) (hb : s₁.heap.Ns builtinsNs mb) (hbb : ∀ x : Str, x ≠ "__name__" → mb x = bootBuiltins x) (hlim : s₁.heap.NoLimit) (hg : s₁.gens = #[])
    (ha : s₁.heap.get? a = some { cls := .type "list", data := .seq vs.toArray }) (hi : IntsAre vs ns) (hl : ns.length ≤ sizeLine) (hr : Room k callerA)
    (F : ∀ base : Heap, K.In base → base.Ns mainGlobals mg → FnOk P w K mg base CX k fa fd [x] sp) (hbind : ∀ (s : Shared) (u : Value), BindsTo s fd ⟨[u], []⟩ [(x, u)])
    (hsp : ∀ H : Hp, Only H → SqL K H a (ns.map V.int) → sp [.ref a] H (fun v _ => v = .bl true) fun _ _ _ => False)
    (hCX : ∀ H e s', CX [] H s₁ (fun _ _ _ => False) e s' → False) :
    codeAny (model P w) callerA (.call (.ref fa) ⟨[.ref a], []⟩) (fun r s' => r = .ok (.ret (.bool true)) ∧ OldK s₁.heap s'.heap ∧ s'.os = s₁.os ∧ AllBare s'.gens) s₁ := by
  have rv := vals_ints hi
  have lenV := hi.length
  -- from an abstract heap in which nothing but the script may be tracked
  have core : ∀ H : Hp, Only H → SqL K H a (ns.map V.int) → HOk P w H s₁.heap → (∀ b, H b ≠ none → b = a) → (H a ≠ none → K.lookup a = none) →
      codeAny (model P w) callerA (.call (.ref fa) ⟨[.ref a], []⟩) (fun r s' => r = .ok (.ret (.bool true)) ∧ OldK s₁.heap s'.heap ∧ s'.os = s₁.os ∧ AllBare s'.gens) s₁ := by
    intro H hO hS hok hA hK
    have base_of : ∀ {b : Addr} {o : Obj}, s₁.heap.get? b = some o → H b = none → (hidT s₁.heap H).get? b = some o := fun e n => hidT_get e n
    have noA : ∀ {b : Addr} {o : Obj} {es : Array DictEntry} {ep : Nat}, s₁.heap.get? b = some o → o.data = .dict es ep → H b = none := fun {b o es ep} e d => by
      cases q : H b with
      | none => rfl
      | some u =>
        have e' : b = a := hA b (by rw [q]; simp)
        subst e'
        rw [ha] at e; cases e
        have d' : Data.seq vs.toArray _ = Data.dict es ep := d
        cases d'
    have nsK : ∀ {b : Addr} {m : Str → Option Value}, s₁.heap.Ns b m → (hidT s₁.heap H).Ns b m := fun {b m} ⟨o, es, ep, e, d, r⟩ => ⟨o, es, ep, base_of e (noA e d), d, r⟩
    have hKb : K.In (hidT s₁.heap H) := fun b o e => base_of (KX b o e) (by
      cases q : H b with
      | none => rfl
      | some u =>
        have e' : b = a := hA b (by rw [q]; simp)
        subst e'
        rw [hK (by rw [q]; simp)] at e; cases e)
    have hM : Mod K mg (hidT s₁.heap H) := ⟨hKb, nsK hns, ⟨mb, nsK hb, hbb⟩, let ⟨mc, h1, h2⟩ := hlim; ⟨mc, nsK h1, h2⟩⟩
    have e0 : Env0 P w K mg (hidT s₁.heap H) callerA [] s₁ H := ⟨rfl, hM, fun b o e => of_hidT e, Nat.le_of_eq (hidT_size _ _), trivial, fun b hb => absurd (show b ∈ ([] : List Addr) from hb) (by simp), hok, .of_eq hg⟩
    refine codeAny_mono ((F _ hKb (nsK hns)).run callerA [] s₁ H ⟨[.ref a], []⟩ [.ref a] [.ref a] _ _ hr e0 (hbind s₁ (.ref a)) (.cons rfl .nil) (hsp H hO hS)) fun r s' h => ?_
    cases r with
    | error e => exact (hCX H e s' h).elim
    | ok fl =>
      cases fl with
      | next => exact False.elim h
      | brk => exact False.elim h
      | cont => exact False.elim h
      | ret u =>
        obtain ⟨v, H', os, bare, un, hok', r', q⟩ := h
        have q' : v = .bl true := q
        subst q'
        obtain rfl : u = Value.bool true := r'
        refine ⟨rfl, OldK.of_keep fun b o e => ?_, os, bare⟩
        cases q : H b with
        | none => exact un.keep b o e q (by intro z; exact absurd (show b ∈ ([] : List Addr) from z) (by simp)) (by simp)
        | some u =>
          rcases hO b with z | ⟨ob, xs, z⟩
          · rw [q] at z; cases z
          · have z2 := un.frzs b ob _ z
            obtain ⟨e1, _⟩ := hok b _ z
            obtain ⟨e2, _⟩ := hok' b _ z2
            rw [e] at e1; cases e1
            exact e2
  cases hk : K.lookup a with
  | some o =>
    -- the script is one of the module's own objects
    have e := KX a o hk
    rw [ha] at e
    cases e
    refine core (fun _ => none) (fun _ => .inl rfl) (.inr ⟨_, vs.toArray, _, hk, rfl, rfl, rfl, by rw [List.size_toArray, lenV]; exact hl, by simpa using rv⟩) (fun b u z => by have z' : (none : Option HO) = some u := z; cases z') (fun b z => absurd rfl z) fun z => absurd rfl z
  | none =>
    refine core (fun b => if b = a then some (.frz { cls := .type "list", data := .seq vs.toArray } (.lst (ns.map V.int))) else none) (fun b => ?_) (.inl (.inr ⟨{ cls := .type "list", data := .seq vs.toArray }, if_pos rfl⟩)) (fun b u z => ?_) (fun b z => ?_) fun _ => hk
    · by_cases hb : b = a
      · exact .inr ⟨_, _, if_pos hb⟩
      · exact .inl (if_neg hb)
    · by_cases hb : b = a
      · have z' := (if_pos hb).symm.trans z
        cases z'
        subst hb
        exact ⟨ha, by rw [List.length_map]; exact hl, vs, _, rv, ha⟩
      · have z' := (if_neg hb).symm.trans z
        cases z'
    · by_cases hb : b = a
      · exact hb
      · exact absurd (if_neg hb) z
theorem walk_of {l : PySem.W.OpenLaw} {n k : Nat} {q : Program} {loose : List Str} {XP : (Str → Option Value) → Heap → Prop} {YP : World → Heap → Prop} {d : DefRec} {K : Params → PySem.W.Frag} {CX : World → CXT} {sp : World → Sp} {x : Str}
    (hn : l.most = some n) (hn2 : n ≤ sizeLine) (hdf : d.params.defaults = []) (hr : Room k callerA)
    (hY : ∀ (w : World) (h : Heap), YP w h → (K w.params).In h)
    (F : ∀ (w : World) (mg : Str → Option Value) (fa : Addr) (h : Heap), (K w.params).In h → h.Ns mainGlobals mg → mg d.name = some (.ref fa) →
      ∃ fd : FuncData, (∀ (s : Shared) (u : Value), BindsTo s fd ⟨[u], []⟩ [(x, u)]) ∧
        ∀ base : Heap, (K w.params).In base → base.Ns mainGlobals mg → FnOk l.prog w (K w.params) mg base (CX w) k fa fd [x] (sp w))
    (hsp : ∀ (w : World) (H : Hp) (a : Addr) (ns : List Int), ns.length ≤ n → Only H → SqL (K w.params) H a (ns.map V.int) → sp w [.ref a] H (fun v _ => v = .bl true) fun _ _ _ => False)
    (hCX : ∀ (w : World) (H : Hp) (s : Shared) (e : Value) (s' : Shared), CX w [] H s (fun _ _ _ => False) e s' → False) :
    PySem.W.WalkO q loose XP YP l.row.toRowW d [] (fun f vs => PySem.call f vs) := by
  refine Att.attach_call hn hdf fun w s₀ s₁ mg mb fa o pm cd doc a vs ns G Y ho hd hcd hmg hobj hints hlen hg => ?_
  have KX := hY w _ Y
  obtain ⟨fd, hb, hF⟩ := F w mg fa _ KX G.T.g hmg
  exact law_call KX G.T.g G.T.b G.T.builtins G.T.nolimit hg hobj hints (Nat.le_trans hlen hn2) hr hF hb (fun H hO hS => hsp w H a ns hlen hO hS) fun H e s' => hCX w H s₁ e s'
noncomputable def defArgs (s : Stmt) : Arguments := match s with
  | .FunctionDef _ a _ _ _ _ _ _ _ _ => a
  | _ => { posonlyargs := [], args := [], vararg := none, kwonlyargs := [], kw_defaults := [], kwarg := none, defaults := [] }
noncomputable def defBody (s : Stmt) : List Stmt := match s with
  | .FunctionDef _ _ b _ _ _ _ _ _ _ => b
  | _ => []
noncomputable def defScope (s : Stmt) : Scope := match s with
  | .FunctionDef _ _ _ _ _ _ sc _ _ _ => sc
  | _ => { kind := .function, names := [], isGenerator := false, isCoroutine := false }
noncomputable abbrev CX0 : CXT := fun _ _ _ _ _ _ => False
noncomputable abbrev E0 : XK := fun _ _ _ => False
theorem pass0 {X : Cx} : Passes CX0 X E0 := fun _ _ _ _ _ _ _ h => h.elim
structure Fun (K : PySem.W.Frag) (x qual : Str) (st : Stmt) (f : Addr) (fd : FuncData) : Prop where
  ex : ∃ (oc : Value) (od : Option Addr) (kV doc pm : Value) (an : Option Addr) (cdv ct : Value) (osl : Array (Option Value)),
    fd = PySem.W.fnOf x qual (defArgs st) (defBody st) (defScope st) .none kV doc pm an cdv ct ∧ K.lookup f = some ⟨oc, od, .func fd, osl⟩ ∧ PySem.W.codeIn K cdv qual = true
  kp : PySem.W.keepIn K (.ref f) = true
section
variable {P : Program} {w : World} {K : PySem.W.Frag} {mg : Str → Option Value} {base : Heap}
theorem Fun.ok {x qual : Str} {st : Stmt} {f : Addr} {fd : FuncData} {N ps : List Str} {k : Nat} {sp : Sp} (F : Fun K x qual st f fd) (S : FnScope N ps (defScope st)) (len : ∀ vs H Q E, sp vs H Q E → vs.length = ps.length)
    (hbody : ∀ (cdv : Value) (A : Around) (outer : List Env) (s : Shared) (H : Hp) (vs : List V) (Q : VK) (E : XK), Room k (A.deeper (envOfC qual (defScope st) s.heap.objs.size f cdv)) → sp vs H Q E →
      ∃ t, PSs (cxOf CX0 P w K mg base N qual (defScope st) f cdv A outer s H E).nox (defBody st) t ∧ t { nx := fun _ H' => Q .non H', rt := Q } (start N vs) H) : FnOk P w K mg base CX0 (k + 1) f fd ps sp := by
  obtain ⟨oc, od, kV, doc, pm, an, cdv, ct, osl, rfl, lk, hcd⟩ := F.ex
  refine fn_of lk hcd S len fun A outer s H vs Q E hr hsp => ?_
  obtain ⟨t, h, q⟩ := hbody cdv A outer s H vs Q E hr hsp
  exact ⟨t, h.nox, q⟩
theorem Fun.binds {x qual : Str} {st : Stmt} {f : Addr} {fd : FuncData} {ps : List Str} (F : Fun K x qual st f fd)
    (h : ∀ (kV doc pm : Value) (an : Option Addr) (cdv ct : Value) (us : List Value), us.length = ps.length → bindArgs (PySem.W.fnOf x qual (defArgs st) (defBody st) (defScope st) .none kV doc pm an cdv ct) ⟨us, []⟩ = pure (ps.zip us)) : Binds K fd ps [] := by
  obtain ⟨oc, od, kV, doc, pm, an, cdv, ct, osl, rfl, lk, hcd⟩ := F.ex
  exact .all (h kV doc pm an cdv ct)
theorem fun_mk {x qual : Str} {st : Stmt} {f : Addr} {oc : Value} {od an : Option Addr} {osl : Array (Option Value)} {kV doc pm cdv ct : Value} (l : K.lookup f = some ⟨oc, od, .func (PySem.W.fnOf x qual (defArgs st) (defBody st) (defScope st) .none kV doc pm an cdv ct), osl⟩)
    (c : PySem.W.codeIn K cdv qual = true) (k : PySem.W.keepIn K (.ref f) = true) : Fun K x qual st f (PySem.W.fnOf x qual (defArgs st) (defBody st) (defScope st) .none kV doc pm an cdv ct) := ⟨⟨oc, od, kV, doc, pm, an, cdv, ct, osl, rfl, l, c⟩, k⟩
end
section
variable {X : Cx}
theorem pv (i : Nat) {x : Str} {pos : Pos} (hN : X.N[i]? = some x := by rfl) (hv : Vis X.env.scope x := by first | exact Or.inl rfl | exact Or.inr (Or.inl rfl) | exact Or.inr (Or.inr rfl)) (hd : (x == ("__debug__" : Str)) = false := by decide)
    (hcd : (x == ("__classdict__" : Str)) = false := by decide) : PE X (.Name x pos) (tVar i) := pe_var hN hv hd hcd
end
theorem iteF {A B : Prop} (h : B) : if false = true then A else B := by
  rw [if_neg Bool.false_ne_true]
  exact h
theorem iteT {A B : Prop} (h : A) : if true = true then A else B := by
  rw [if_pos rfl]
  exact h
noncomputable def Same (H H' : Hp) : Prop := ∀ b o, H b = some o → H' b = some o
theorem Same.refl (H : Hp) : Same H H := fun _ _ h => h
theorem Same.trans {H H1 H2 : Hp} (a : Same H H1) (b : Same H1 H2) : Same H H2 := fun c o h => b c o (a c o h)
theorem Same.free {H H' : Hp} (e : Same H H') {l : Addr} (h : H' l = Option.none) : H l = Option.none := by
  cases q : H l with
  | none => rfl
  | some o =>
    rw [e l o q] at h
    cases h
end L2
set_option maxHeartbeats 4000000
namespace L2
open PySem PySem.Spec PyProof.Rows
section
variable {X : Cx} {pins : List (Addr × Obj)} {σ : St} {H : Hp} {s : Shared}
theorem Inv.track {d : Addr} {o : HO} (I : Inv X pins σ H s) (hn : H d = none) (hy : X.s₀.heap.objs.size ≤ d) (hL : d ≠ X.env.locals) (hc : ∀ x c, X.env.cells.lookup x = some c → c ≠ d)
    (hp : ∀ p ∈ X.pn ++ pins, p.1 ≠ d) (new : ObjOk X.prog X.w (upd H d o) s.heap d o) : Inv X pins σ (upd H d o) s := by
  have old : ∀ b ob, X.s₀.heap.get? b = some ob → b ≠ d := fun b ob e => Nat.ne_of_lt (Nat.lt_of_lt_of_le (Heap.lt_size e) hy)
  have was : ∀ b u, H b = some u → b ≠ d := fun b u e => ne_of_none e hn
  refine ⟨I.ok, I.os, I.bare, ⟨I.base.keep, I.base.slot, fun b ob e n hx => ?_, I.base.there, fun b xs e => ?_, fun b ob u e => ?_, fun b ps e => ?_⟩, I.loc, I.cell, ?_, fun x c e => ?_, fun p z => ?_, fun b u e => ?_, I.len⟩
  · rw [upd_ne (old b ob e)]; exact I.base.free b ob e n hx
  · have q := I.base.tups b xs e
    rw [upd_ne (was b _ q)]; exact q
  · have q := I.base.frzs b ob u e
    rw [upd_ne (was b _ q)]; exact q
  · obtain ⟨m, q⟩ := I.base.tbls b ps e
    exact ⟨m, by rw [upd_ne (was b _ q)]; exact q⟩
  · rw [upd_ne (Ne.symm hL)]; exact I.free
  · rw [upd_ne (hc x c e)]; exact I.freeC x c e
  · obtain ⟨e, n, r⟩ := I.pin p z
    exact ⟨e, by rw [upd_ne (hp p z)]; exact n, r⟩
  · by_cases hb : b = d
    · subst hb
      rw [upd_same] at e
      cases e
      exact new
    · rw [upd_ne hb] at e
      refine (I.hok b u e).stay (fun c v _ q => q) (fun c q => ?_) fun c xs q => ?_
      · rw [upd_ne (was c _ q)]; exact q
      · rw [upd_ne (was c _ q)]; exact q
end
theorem closure_of {env : Env} : ∀ (names : List (Str × NameKind)) (acc : List (Str × Addr)), (∀ y ∈ names, y.2 = .free → ∃ c, env.cells.lookup y.1 = some c) →
    ∃ cl, (forIn names acc fun (p : Str × NameKind) (cs : List (Str × Addr)) => (if (p.2 == NameKind.free) = true then do let c ← cellOf env p.1; pure (ForInStep.yield ((p.1, c) :: cs)) else pure (ForInStep.yield cs) : Sem (ForInStep (List (Str × Addr))))) = pure cl ∧
      (∀ x c, cl.lookup x = some c → acc.lookup x = some c ∨ env.cells.lookup x = some c) ∧ (∀ x c, acc.lookup x = some c → ∃ c', cl.lookup x = some c') ∧ ∀ y ∈ names, y.2 = .free → ∃ c, cl.lookup y.1 = some c
  | [], acc, _ => ⟨acc, rfl, fun _ _ h => .inl h, fun _ c h => ⟨c, h⟩, fun _ h => nomatch h⟩
  | (n, k) :: r, acc, hh => by
    by_cases hk : k = .free
    · subst hk
      obtain ⟨c, hc⟩ := hh (n, .free) List.mem_cons_self rfl
      obtain ⟨cl, e, h1, h2, h3⟩ := closure_of (env := env) r ((n, c) :: acc) fun y hy => hh y (List.mem_cons_of_mem _ hy)
      have ec : cellOf env n = pure c := by
        unfold cellOf
        rw [hc]
      have here : ∃ c', cl.lookup n = some c' := h2 n c (by simp [List.lookup_cons])
      refine ⟨cl, ?_, fun x d q => ?_, fun x d q => ?_, fun y hy hf => ?_⟩
      · rw [List.forIn_cons]
        simp only [beq_self_eq_true, if_true, ec, pure_bind]
        exact e
      · rcases h1 x d q with z | z
        · rw [List.lookup_cons] at z
          by_cases hx : x = n
          · subst hx
            simp only [beq_self_eq_true] at z
            cases z
            exact .inr hc
          · rw [beq_eq_false_iff_ne.mpr hx] at z
            exact .inl z
        · exact .inr z
      · by_cases hx : x = n
        · subst hx; exact here
        · exact h2 x d (by rw [List.lookup_cons, beq_eq_false_iff_ne.mpr hx]; exact q)
      · rcases List.mem_cons.mp hy with rfl | hy
        · exact here
        · exact h3 y hy hf
    · obtain ⟨cl, e, h1, h2, h3⟩ := closure_of (env := env) r acc fun y hy => hh y (List.mem_cons_of_mem _ hy)
      refine ⟨cl, ?_, h1, h2, fun y hy hf => ?_⟩
      · rw [List.forIn_cons]
        have hb : (k == NameKind.free) = false := by simpa using hk
        simp only [hb, Bool.false_eq_true, if_false, pure_bind]
        exact e
      · rcases List.mem_cons.mp hy with rfl | hy
        · exact absurd hf hk
        · exact h3 y hy hf
theorem closure_some {env : Env} {scope : Scope} (hh : ∀ y ∈ scope.names, y.2 = .free → ∃ c, env.cells.lookup y.1 = some c) :
    ∃ cl, closureFor scope env = pure cl ∧ (∀ x c, cl.lookup x = some c → env.cells.lookup x = some c) ∧ ∀ y ∈ scope.names, y.2 = .free → ∃ c, cl.lookup y.1 = some c := by
  obtain ⟨cl, e, h1, _, h3⟩ := closure_of (env := env) scope.names [] hh
  refine ⟨cl, ?_, fun x c q => (h1 x c q).elim (fun z => by simp at z) id, h3⟩
  unfold closureFor
  simp only [bind_pure]
  exact e
noncomputable def cxB (X : Cx) (N : List Str) (scope : Scope) (s : Shared) (H : Hp) (C : Addr) (cl : List (Str × Addr)) (fp : List Addr) : Cx where
  prog := X.prog
  w := X.w
  K := X.K
  mg := X.mg
  base := X.base
  A := X.A
  N := N
  s₀ := s
  H₀ := H
  env := compEnvC scope cl C X.env
  outer := X.stack
  stack := X.stack
  ex := fp
  fn := fun _ => false
  calm := X.calm
  pn := []
  xe := fun _ _ => False
noncomputable def caps (n : Nat) (js : List Nat) (σ : St) : St := List.replicate n none ++ js.map fun j => (σ[j]?).join
noncomputable def Own (n : Nat) (g : TG) : Prop := ∀ v σ H Q, g v σ H Q → g v σ H fun σ2 H2 => Q σ2 H2 ∧ σ2.length = σ.length ∧ ∀ i, n ≤ i → σ2[i]? = σ[i]?
theorem own_name {n i : Nat} (h : i < n) : Own n (gName i) := fun v σ H Q q => ⟨q, by simp, fun j hj => by rw [List.getElem?_set_ne (by omega)]⟩
theorem own_tup2 {K : PySem.W.Frag} {n i j : Nat} (hi : i < n) (hj : j < n) : Own n (gTup K 2 (gCons (gName i) (gCons (gName j) gNil))) := fun v σ H Q q => by
  obtain ⟨a, xs, e, h, hl, x, r, e1, y, r2, e2, e3, q⟩ := q
  exact ⟨a, xs, e, h, hl, x, r, e1, y, r2, e2, e3, q, by simp, fun k hk => by rw [List.getElem?_set_ne (by omega), List.getElem?_set_ne (by omega)]⟩
noncomputable def PIf (X : Cx) (ifs : List Expr) (t : TT) : Prop :=
  ∀ (pins : List (Addr × Obj)) (s : Shared) (σ : St) (H : Hp) (Q : Bool → Hp → Prop), Inv X pins σ H s → t σ H Q →
    wpAny (model X.prog X.w) X.A (forIn ifs true fun c r => if r = true then do let ok ← isTrue c X.env (eval c X.env); pure (ForInStep.yield ok) else pure (ForInStep.yield r)) (TP X pins σ Q) X.xe s
noncomputable def tYes : TT := fun _ H Q => Q true H
theorem pif_nil {X : Cx} : PIf X [] tYes := fun _ _ _ H _ I h => wpAny_tests_nil ⟨H, I, h⟩
noncomputable def cGo (g : TG) (tt : TT) (te : TE) (σ0 : St) (Fin : List V → Hp → Prop) (J : It) (H1 : Hp) : Prop :=
  ∃ W : Nat → Nat → List V → Hp → Prop, (∃ m, W 0 m [] H1) ∧ ∀ i m ys H2, W i m ys H2 →
    (J.stop i H2 ∧ ys.length ≤ sizeLine ∧ Fin ys H2) ∨
    (J.go i H2 ∧ ys.length < sizeLine ∧ ∃ N : List V → Hp → Prop, (∀ ys' H', N ys' H' → ∃ m', m' < m ∧ W (i + 1) m' ys' H') ∧ ∀ x H3, J.yld i H2 x H3 → g x σ0 H3 fun σ4 H4 => tt σ4 H4 fun b H5 =>
      if b = true then te σ4 H5 fun y H6 => N (ys ++ [y]) H6 else N ys H5)
noncomputable def tComp (n : Nat) (js : List Nat) (wi : TI) (g : TG) (tt : TT) (te : TE) : TE := fun σ H Q =>
  wi σ H (cGo g tt te (caps n js σ) fun ys H2 => ∀ D, H2 D = none → Q (.ref D) (upd H2 D (.lst ys)))
noncomputable def sComp (k n : Nat) (js : List Nat) (wi : TI) (g : TG) (tt : TT) (te : TE) : TS := fun E σ H =>
  wi σ H (cGo g tt te (caps n js σ) fun ys H2 => ∀ D, H2 D = none → E.nx (σ.set k (some (.ref D))) (upd H2 D (.lst ys)))
noncomputable def compOk (sc : Scope) (N0 N : List Str) (n : Nat) (js : List Nat) (scope : Scope) : Bool :=
  decide (scope.kind = .function) && scope.names.all (fun y => decide (y.2 ≠ .cell)) && scope.names.all (fun y => decide (y.2 ≠ .free) || decide (sc.names.lookup y.1 = some .cell) || decide (sc.names.lookup y.1 = some .free)) &&
  scope.names.all (fun y => decide (y.2 ≠ .local) || decide (scope.names.lookup y.1 = some .local)) && decide (js.map (fun j => N0[j]?) = (N.drop n).map some) &&
  (N.drop n).all (fun x => decide (sc.names.lookup x = some .cell) || decide (sc.names.lookup x = some .free)) && (N.drop n).all (fun x => decide (scope.names.lookup x = some .free)) && decide (n + js.length = N.length)
theorem relabel_free {env : Env} : ∀ {names : List (Str × NameKind)} {x : Str}, (names.map fun (n, k) => if (k == NameKind.free && env.scope.kind == .function && env.kindOf n == some .cell) then (n, NameKind.cell) else (n, k)).lookup x = some .cell ∨
    (names.map fun (n, k) => if (k == NameKind.free && env.scope.kind == .function && env.kindOf n == some .cell) then (n, NameKind.cell) else (n, k)).lookup x = some .free → (∀ y ∈ names, y.2 ≠ .cell) → ∃ y ∈ names, y.1 = x ∧ y.2 = .free
  | [], _, h, _ => by rcases h with h | h <;> simp at h
  | (n, k) :: r, x, h, hc => by
    have ih := @relabel_free env r x
    by_cases hx : x = n
    · subst hx
      refine ⟨(x, k), List.mem_cons_self, rfl, ?_⟩
      have hk : k ≠ .cell := hc (x, k) List.mem_cons_self
      by_cases hf : k = .free
      · exact hf
      · exfalso
        have hb : (k == NameKind.free) = false := by simpa using hf
        simp only [List.map_cons, hb, Bool.false_and, Bool.false_eq_true, if_false, List.lookup_cons, beq_self_eq_true] at h
        rcases h with h | h
        · exact hk (Option.some.inj h)
        · exact hf (Option.some.inj h)
    · have hb : (x == n) = false := beq_eq_false_iff_ne.mpr hx
      have step : ∀ (q : Str × NameKind) (l : List (Str × NameKind)), q.1 = n → List.lookup x (q :: l) = List.lookup x l := fun q l e => by
        obtain ⟨a, b⟩ := q
        have e' : a = n := e
        subst e'
        rw [List.lookup_cons, hb]
      have nm : (if (k == NameKind.free && env.scope.kind == .function && env.kindOf n == some .cell) then (n, NameKind.cell) else (n, k)).1 = n := by split <;> rfl
      rw [List.map_cons, step _ _ nm] at h
      obtain ⟨y, hy, r1, r2⟩ := ih h fun y hy => hc y (List.mem_cons_of_mem _ hy)
      exact ⟨y, List.mem_cons_of_mem _ hy, r1, r2⟩
theorem mem_of_lookup {x : Str} {k : NameKind} : ∀ {l : List (Str × NameKind)}, l.lookup x = some k → (x, k) ∈ l
  | [], h => by simp at h
  | (a, b) :: r, h => by
    rw [List.lookup_cons] at h
    by_cases hx : x = a
    · subst hx
      simp only [beq_self_eq_true] at h
      cases h
      exact List.mem_cons_self
    · rw [beq_eq_false_iff_ne.mpr hx] at h
      exact List.mem_cons_of_mem _ (mem_of_lookup h)
theorem relabel_notlocal {env : Env} {x : Str} : ∀ (l : List (Str × NameKind)), l.lookup x = some .free → (l.map fun (n, k) => if (k == NameKind.free && env.scope.kind == .function && env.kindOf n == some .cell) then (n, NameKind.cell) else (n, k)).lookup x ≠ some .local
  | [], q => by simp at q
  | (a, b) :: r, q => fun z => by
    rw [List.lookup_cons] at q
    by_cases hx : x = a
    · subst hx
      simp only [beq_self_eq_true] at q
      cases q
      rw [List.map_cons] at z
      dsimp only at z
      split at z
      · simp [List.lookup_cons] at z
      · simp [List.lookup_cons] at z
    · rw [beq_eq_false_iff_ne.mpr hx] at q
      refine relabel_notlocal (env := env) r q ?_
      by_cases hc : (b == NameKind.free && env.scope.kind == .function && env.kindOf a == some .cell) = true
      · simp only [List.map_cons, if_pos hc, List.lookup_cons, beq_eq_false_iff_ne.mpr hx] at z
        exact z
      · simp only [List.map_cons, if_neg hc, List.lookup_cons, beq_eq_false_iff_ne.mpr hx] at z
        exact z
theorem caps_len (n : Nat) (js : List Nat) (σ : St) : (caps n js σ).length = n + js.length := by simp [caps]
theorem caps_own {n : Nat} {js : List Nat} {σ : St} {i : Nat} (h : i < n) : (caps n js σ)[i]? = some none := by
  unfold caps
  rw [List.getElem?_append_left (by simpa using h), List.getElem?_replicate, if_pos h]
theorem caps_cap {n : Nat} {js : List Nat} {σ : St} {i : Nat} {v : V} (h : n ≤ i) (e : (caps n js σ)[i]? = some (some v)) : ∃ j, js[i - n]? = some j ∧ σ[j]? = some (some v) := by
  unfold caps at e
  rw [List.getElem?_append_right (by simpa using h), List.length_replicate, List.getElem?_map] at e
  cases q : js[i - n]? with
  | none => rw [q] at e; cases e
  | some j =>
    rw [q] at e
    refine ⟨j, rfl, ?_⟩
    have e' : (σ[j]?).join = some v := Option.some.inj e
    cases z : σ[j]? with
    | none => rw [z] at e'; cases e'
    | some o => rw [z] at e'; exact congrArg some e'
section
variable {X : Cx} {tg elt iter : Expr} {ifs : List Expr} {scope : Scope} {pos : Pos} {N N0 : List Str} {n : Nat} {js : List Nat} {sc : Scope} {g : TG} {tt : TT} {te : TE}
end
section
variable {X : Cx} {tg elt iter : Expr} {ifs : List Expr} {scope : Scope} {pos : Pos} {N N0 : List Str} {n : Nat} {js : List Nat} {sc : Scope} {wi : TI} {g : TG} {tt : TT} {te : TE}
theorem comp_has {pins : List (Addr × Obj)} {σ : St} {H : Hp} {s : Shared} (I : Inv X pins σ H s) (hsc : X.env.scope = sc) (ok : compOk sc N0 N n js scope = true) : ∀ y ∈ scope.names, y.2 = .free → ∃ c, X.env.cells.lookup y.1 = some c := by
  simp only [compOk, Bool.and_eq_true, decide_eq_true_eq, List.all_eq_true, Bool.or_eq_true] at ok
  obtain ⟨⟨⟨⟨⟨⟨⟨kind, cell⟩, free⟩, nms⟩, cap⟩, lc⟩, lf⟩, len⟩ := ok
  subst hsc
  intro y hy hf
  rcases free y hy with (z | z) | z
  · exact absurd hf z
  · exact I.ok.has y.1 (.inl z)
  · exact I.ok.has y.1 (.inr z)
theorem comp_names (ok : compOk sc N0 N n js scope = true) : scope.kind = .function ∧ ∀ x ∈ scope.names, x.2 = .local → scope.names.lookup x.1 = some .local := by
  simp only [compOk, Bool.and_eq_true, decide_eq_true_eq, List.all_eq_true, Bool.or_eq_true] at ok
  obtain ⟨⟨⟨⟨⟨⟨⟨kind, cell⟩, free⟩, nms⟩, cap⟩, lc⟩, lf⟩, len⟩ := ok
  refine ⟨kind, fun x hx hl => ?_⟩
  rcases nms x hx with z | z
  · exact absurd hl z
  · exact z
theorem Inv.butC {pins : List (Addr × Obj)} {σ : St} {H : Hp} {s : Shared} {C : Addr} {oC : Obj} {h' : Heap} (I : Inv X (pins ++ [(C, oC)]) σ H s) (hs : Heap.SameBut C s.heap h') (h1 : X.s₀.heap.objs.size ≤ C) (h2 : C ≠ X.env.locals)
    (h3 : ∀ x c, X.env.cells.lookup x = some c → c ≠ C) (h4 : ∀ p ∈ X.pn ++ pins, p.1 ≠ C) (h5 : H C = none) : Inv X pins σ H { s with heap := h' } :=
  I.unpinned.turned (it := C) (t' := s.toks) (fun b o hb e => hs.extBut b o hb e) h5 h2 (.inr h1) h3 h4
end
theorem Same.new {H : Hp} {l : Addr} {o : HO} (h : H l = none) : Same H (upd H l o) := fun b u e => by rw [upd_ne (ne_of_none e h)]; exact e
theorem Same.tup {K : PySem.W.Frag} {H H' : Hp} {a : Addr} {xs : List V} (e : Same H H') (h : SqT K H a xs) : SqT K H' a xs := by
  rcases h with (h | ⟨o, h⟩) | h
  · exact .inl (.inl (e _ _ h))
  · exact .inl (.inr ⟨o, e _ _ h⟩)
  · exact .inr h
section
variable {X : Cx} {K : PySem.W.Frag}
theorem ix_seqK (h : X.K = K) : IxR X (rIx K) := h ▸ ix_seq
theorem call_lenK (h : X.K = K) : CallR X (.builtin "len") (fun xs H Q => ∃ p ys, xs = [.ref p] ∧ (SqL K H p ys ∨ SqT K H p ys) ∧ Q (.int ys.length) H) := by subst h; exact call_len_seq
theorem call_tupleK (h : X.K = K) : CallR X (.type "tuple") (fun xs H Q => ∃ p ys, xs = [.ref p] ∧ ((SqL K H p ys ∧ ∀ l, H l = none → Q (.ref l) (upd H l (.tup ys))) ∨ (SqT K H p ys ∧ Q (.ref p) H))) := by subst h; exact call_tuple_of
theorem op_inK (h : X.K = K) : OpR X (compareOp .In) (rIn K false) := h ▸ op_in_seq
theorem pi_listK {tg l : Expr} {tl : TE} (h : X.K = K) (hl : PE X l tl) : PI X tg l (iList K tl) := h ▸ pi_list hl
theorem pi_tupK {tg l : Expr} {tl : TE} (h : X.K = K) (hl : PE X l tl) : PI X tg l (iTup K tl) := h ▸ pi_tup hl
theorem pg_tupK {es : List Expr} {k : Nat} {t : TGs} {n : Nat} {pos : Pos} (hK : X.K = K) (hc : X.calm = true) (h : PGs X es t) (hn : (assignEach es X.env).length = n := by rfl) (hst : (assignEach es X.env).findIdx? (·.1) = none := by rfl) : PG X (.Tuple es k pos) (gTup K n t) := hK ▸ pg_tup hc h hn hst
end
noncomputable def clsV : V → Option Value
  | .ref a => some (.ref a)
  | .ty n => some (.type n)
  | _ => none
noncomputable def rIsi (K : PySem.W.Frag) : List V → Hp → VK → Prop := fun xs H Q => ∃ x y t c b, xs = [x, y] ∧ clsV y = some c ∧ TyOf K H x t ∧ PySem.W.kitOne K t c = some b ∧ Q (.bl b) H
section
variable {X : Cx}
theorem call_isi {K : PySem.W.Frag} (hK : X.K = K) : CallR X (.builtin "isinstance") (rIsi K) := by
  subst hK
  intro pins s σ H xs us Q I r h
  obtain ⟨x, y, t, c, b, rfl, hc, ty, e, q⟩ := h
  obtain ⟨u, w, rfl, ru, rw'⟩ := vals2 r
  have ew : w = c := by
    cases y with
    | ref a =>
      have z : w = Value.ref a := rw'
      rw [z]
      exact Option.some.inj hc
    | ty n =>
      have z : w = Value.type n := rw'
      rw [z]
      exact Option.some.inj hc
    | _ => cases hc
  subst ew
  exact isinst_ok I ru ty e fun tk => ⟨.bl b, H, I.tok tk, rfl, q⟩
theorem kit_self {K : PySem.W.Frag} {v : Value} : PySem.W.kitOne K v v = some true := by
  unfold PySem.W.kitOne
  rw [if_pos (beq_self_eq_true v)]
theorem kit_ref {K : PySem.W.Frag} {t : Value} {d : Addr} {b : Bool} (h1 : PySem.W.isClsIn K d = true) (h2 : PySem.W.typeIn K (.ref d) = some (.type "type")) (h3 : PySem.W.subIn K t (.ref d) = some b) (hn : t ≠ .ref d) : PySem.W.kitOne K t (.ref d) = some b := by
  unfold PySem.W.kitOne
  rw [if_neg (fun z => hn (eq_of_beq z))]
  unfold PySem.W.kitCls
  have e : ((PySem.W.clsIn K d).isSome && PySem.W.typeIn K (.ref d) == some (.type "type")) = true := by
    rw [h2, beq_self_eq_true, Bool.and_true]
    exact h1
  dsimp only
  rw [if_pos e]
  exact h3
theorem kit_ty {K : PySem.W.Frag} {T U : String} {b : Bool} (hm : PySem.W.kitMeta U = true) (h3 : PySem.W.subIn K (.type T) (.type U) = some b) (hn : Value.type T ≠ .type U) : PySem.W.kitOne K (.type T) (.type U) = some b := by
  unfold PySem.W.kitOne
  rw [if_neg (fun z => hn (eq_of_beq z))]
  unfold PySem.W.kitCls
  dsimp only
  rw [if_pos hm]
  exact h3
theorem vals_bools : ∀ {bs : List Bool} {us : List Value}, Vals (bs.map V.bl) us → us = bs.map Value.bool
  | [], us, r => by cases r; rfl
  | b :: bs, us, r => by
    cases r with
    | cons h t =>
      have e : _ = Value.bool b := h
      rw [e, vals_bools t]
      rfl
theorem range_all {α : Type} (l : List α) (f : α → Bool) (tr : Nat → Bool) (h : ∀ i x, l[i]? = some x → tr i = f x) : (List.range l.length).all tr = l.all f := by
  induction l generalizing tr with
  | nil => rfl
  | cons a l ih =>
    rw [List.length_cons, List.range_succ_eq_map, List.all_cons, List.all_map, List.all_cons, h 0 a rfl]
    congr 1
    exact ih (fun i => tr (i + 1)) fun i x e => h (i + 1) x (by simpa using e)
theorem call_all {K : PySem.W.Frag} (hK : X.K = K) (hc : X.calm = true) : CallR X (.builtin "all") (fun xs H Q => ∃ (p : Addr) (bs : List Bool), xs = [.ref p] ∧ SqL K H p (bs.map V.bl) ∧ Q (.bl (bs.all id)) H) := by
  subst hK
  intro pins s σ H xs us Q I r h
  obtain ⟨p, bs, rfl, hq, q⟩ := h
  obtain ⟨u, rfl, ru⟩ := vals1 r
  cases ru
  obtain ⟨its, rv, pl, hz⟩ := I.list hq
  have hh : X.A.in1.handled = none := I.ok.hd hc
  have eits := vals_bools rv
  have hl := pl.isList
  have hlt : p < s.heap.objs.size := by obtain ⟨_, e, _⟩ := hl; exact Heap.lt_size e
  refine call_all_walk (wpAny_pyIter_list hl ?_)
  refine ⟨_, _, _, _, _, _, fun i => bs.getD i false, rfl, Walks.list hh s.heap.objs.size p (Nat.ne_of_lt hlt) its.toArray, ⟨⟨_, Heap.get?_push_size _ rfl, rfl, rfl⟩, hl.push _⟩, fun i v s' Q' E' hP hQ => ?_, fun h' tk hk => ?_⟩
  · have e : (bs.map Value.bool)[i]? = some v := by rw [← eits]; simpa using hP
    rw [List.getElem?_map] at e
    cases z : bs[i]? with
    | none => rw [z] at e; cases e
    | some b =>
      rw [z] at e
      have e' : v = Value.bool b := (Option.some.inj e).symm
      subst e'
      refine wpAny_truthy_bool ?_
      have : bs.getD i false = b := by rw [List.getD_eq_getElem?_getD, z]; rfl
      dsimp only at hQ
      rw [this] at hQ
      exact hQ
  · have len : its.toArray.size = bs.length := by rw [eits]; simp
    refine ⟨.bl (bs.all id), H, I.kept (t' := tk) fun b o e => hk b o (fun z => ?_) (Heap.get?_push_of_some _ e), ?_, q⟩
    · have := Heap.lt_size e
      rw [List.mem_singleton.mp z] at this
      exact Nat.lt_irrefl _ this
    · show Value.bool _ = Value.bool _
      rw [len, range_all bs id]
      intro i x e
      rw [List.getD_eq_getElem?_getD, e]
      rfl
mutual
inductive DV (K : PySem.W.Frag) (H : Hp) : V → PyData → Prop
  | non : DV K H .non .none
  | bl (b : Bool) : DV K H (.bl b) (.bool b)
  | int (i : Int) : DV K H (.int i) (.int i)
  | str (x : Str) : DV K H (.str x) (.str x)
  | lst {a : Addr} {xs : List V} {ds : List PyData} : SqL K H a xs → DVs K H xs ds → DV K H (.ref a) (.list ds)
  | tup {a : Addr} {xs : List V} {ds : List PyData} : SqT K H a xs → DVs K H xs ds → DV K H (.ref a) (.tuple ds)
inductive DVs (K : PySem.W.Frag) (H : Hp) : List V → List PyData → Prop
  | nil : DVs K H [] []
  | cons {x : V} {xs : List V} {d : PyData} {ds : List PyData} : DV K H x d → DVs K H xs ds → DVs K H (x :: xs) (d :: ds)
end
mutual
theorem dv_reads {pins : List (Addr × Obj)} {σ : St} {H : Hp} {s : Shared} (I : Inv X pins σ H s) : ∀ {x : V} {d : PyData} {u : Value}, DV X.K H x d → RelV x u → ∃ as, Reads s.heap u d as
  | _, _, u, .non, r => by cases (show u = Value.none from r); exact ⟨_, .none⟩
  | _, _, u, .bl b, r => by cases (show u = Value.bool b from r); exact ⟨_, .bool b⟩
  | _, _, u, .int i, r => by obtain ⟨t, e⟩ := (show ∃ t, u = Value.int i t from r); cases e; exact ⟨_, .int i t⟩
  | _, _, u, .str x, r => by obtain ⟨t, e⟩ := (show ∃ t, u = Value.str x t from r); cases e; exact ⟨_, .str x t⟩
  | _, _, u, .lst (a := a) hq hs, r => by
    cases (show u = Value.ref a from r)
    obtain ⟨its, rv, pl, _⟩ := I.list hq
    obtain ⟨o, e, c, n, dd⟩ := pl.isList
    obtain ⟨as, q⟩ := dv_readsAll I hs rv
    exact ⟨_, reads_list_at e c dd (by simpa using q)⟩
  | _, _, u, .tup (a := a) hq hs, r => by
    cases (show u = Value.ref a from r)
    obtain ⟨its, rv, pl, _⟩ := I.tuple hq
    obtain ⟨o, e, c, n, dd⟩ := pl
    obtain ⟨as, q⟩ := dv_readsAll I hs rv
    exact ⟨_, reads_tuple_at e c dd (by simpa using q)⟩
theorem dv_readsAll {pins : List (Addr × Obj)} {σ : St} {H : Hp} {s : Shared} (I : Inv X pins σ H s) : ∀ {xs : List V} {ds : List PyData} {us : List Value}, DVs X.K H xs ds → Vals xs us → ∃ as, ReadsAll s.heap us ds as
  | _, _, _, .nil, .nil => ⟨_, .nil⟩
  | _, _, _, .cons h t, .cons r rs => by
    obtain ⟨as, q⟩ := dv_reads I h r
    obtain ⟨bs, p⟩ := dv_readsAll I t rs
    exact ⟨_, .cons q p⟩
end
noncomputable def rEqD (K : PySem.W.Frag) : R2 := fun x y H Q => ∃ d e, DV K H x d ∧ DV K H y e ∧ SeqAt.shaped d = true ∧ SeqAt.shaped e = true ∧ Q (.bl (PyData.eqv d e)) H
noncomputable def rNeD (K : PySem.W.Frag) : R2 := fun x y H Q => ∃ d e, DV K H x d ∧ DV K H y e ∧ SeqAt.shaped d = true ∧ SeqAt.shaped e = true ∧ Q (.bl (!PyData.eqv d e)) H
theorem op_eqD {K : PySem.W.Frag} (hK : X.K = K) (hu : X.A.units + 64 < cLine) : OpR X (compareOp .Eq) (rEqD K) := by
  subst hK
  intro pins s σ H x y v u Q I rx ry h
  obtain ⟨d, e, hd, he, sd, se, q⟩ := h
  obtain ⟨as, ra⟩ := dv_reads I hd rx
  obtain ⟨bs, rb⟩ := dv_reads I he ry
  exact eq_dataH ra rb sd se hu ⟨.bl _, H, I, rfl, q⟩
theorem op_neD {K : PySem.W.Frag} (hK : X.K = K) (hu : X.A.units + 64 < cLine) : OpR X (compareOp .NotEq) (rNeD K) := by
  subst hK
  intro pins s σ H x y v u Q I rx ry h
  obtain ⟨d, e, hd, he, sd, se, q⟩ := h
  obtain ⟨as, ra⟩ := dv_reads I hd rx
  obtain ⟨bs, rb⟩ := dv_reads I he ry
  exact ne_dataH ra rb sd se hu ⟨.bl _, H, I, rfl, q⟩
structure MkN (K : PySem.W.Frag) (C : Addr) : Prop where
  makes : PySem.W.makesIn K C = true
  init : PySem.W.findIn K (.ref C) "__init__" = some (some (.builtin "object.__init__"))
  kp : PySem.W.keepIn K (.ref C) = true
end
noncomputable def seqIs (b : Bool) (h : Heap) (l : Addr) (xs : Array Value) : Prop := match b with
  | true => h.IsList l xs
  | false => h.IsTuple l xs
noncomputable def iterIs (b : Bool) (h : Heap) (i l : Addr) (k : Nat) : Prop := match b with
  | true => h.IsListIter i l k
  | false => h.IsTupleIter i l k
noncomputable def iterObj (b : Bool) (l : Addr) : Obj := { cls := .type (if b then "list_iterator" else "tuple_iterator"), data := .fields #[.ref l, .int 0 0] }
theorem seqIs.at_ {b : Bool} {h h' : Heap} {l : Addr} {xs : Array Value} (q : seqIs b h l xs) (e : ∀ o, h.get? l = some o → h'.get? l = some o) : seqIs b h' l xs := by
  cases b
  · obtain ⟨o, z, r⟩ := (show h.IsTuple l xs from q)
    exact (show h'.IsTuple l xs from ⟨o, e o z, r⟩)
  · obtain ⟨o, z, r⟩ := (show h.IsList l xs from q)
    exact (show h'.IsList l xs from ⟨o, e o z, r⟩)
theorem iterIs.at_ {b : Bool} {h h' : Heap} {i l : Addr} {k : Nat} (q : iterIs b h i l k) (e : ∀ o, h.get? i = some o → h'.get? i = some o) : iterIs b h' i l k := by
  cases b
  · obtain ⟨o, z, r⟩ := (show h.IsTupleIter i l k from q)
    exact (show h'.IsTupleIter i l k from ⟨o, e o z, r⟩)
  · obtain ⟨o, z, r⟩ := (show h.IsListIter i l k from q)
    exact (show h'.IsListIter i l k from ⟨o, e o z, r⟩)
theorem iterIs.obj {b : Bool} {h : Heap} {i l : Addr} {k : Nat} (q : iterIs b h i l k) : ∃ o, h.get? i = some o ∧ ∀ v, o.data ≠ .cell v := by
  cases b
  · obtain ⟨o, z, _, d⟩ := (show h.IsTupleIter i l k from q)
    exact ⟨o, z, fun v e => by rw [d] at e; cases e⟩
  · obtain ⟨o, z, _, d⟩ := (show h.IsListIter i l k from q)
    exact ⟨o, z, fun v e => by rw [d] at e; cases e⟩
theorem iterIs.mk_ {b : Bool} {h : Heap} {i l : Addr} (q : h.get? i = some (iterObj b l)) : iterIs b h i l 0 := by
  cases b
  · exact (show h.IsTupleIter i l 0 from ⟨_, q, rfl, rfl⟩)
  · exact (show h.IsListIter i l 0 from ⟨_, q, rfl, rfl⟩)
section
variable {prog : Program} {w : World} {A : Around} {E : Value → Shared → Prop} {s : Shared}
theorem pyIter_seq {b : Bool} {l : Addr} {xs : Array Value} {Q : Value → Shared → Prop} (q : seqIs b s.heap l xs) (h : Q (.ref s.heap.objs.size) { s with heap := s.heap.push (iterObj b l) }) : wpAny (model prog w) A (pyIter (.ref l)) Q E s := by
  cases b
  · exact wpAny_pyIter_tuple (show s.heap.IsTuple l xs from q) h
  · exact wpAny_pyIter_list (show s.heap.IsList l xs from q) h
theorem nextOf_tuple {i l : Addr} {k : Nat} {xs : Array Value} {x : Value} {Q : Value → Shared → Prop} (st : s.heap.IsTupleIter i l k) (tp : s.heap.IsTuple l xs) (e : xs[k]? = some x)
    (h : ∀ h', h'.IsTupleIter i l (k + 1) → Heap.SameBut i s.heap h' → Q x { s with heap := h' }) : wpAny (model prog w) A (Builtin.SmallTypes.nextOf (.ref i)) Q E s := by
  obtain ⟨oi, gi, ci, di⟩ := id st
  obtain ⟨ot, gt, _, nt, dt⟩ := tp
  unfold Builtin.SmallTypes.nextOf
  refine wpAny_bind (wpAny_callSpecial?_slot (name := Str.ofString "__next__") st.typeIs F.slot_tuple_iterator_next (wpAny_call_entry F.slot_tuple_iterator_next st.typeIs F.entry_tuple_iterator_next ?_ (F.args_tuple_iterator_next_1 _)))
  show wpAny _ _ (field (.ref i) 0 >>= _) _ _ s
  refine wpAny_bind (wpAny_field gi di (x := .ref l) rfl ?_)
  show wpAny _ _ (if (Value.ref l == Value.none) = true then _ else _) _ _ s
  rw [if_neg (by exact Bool.false_ne_true : ¬ ((Value.ref l == Value.none) = true))]
  show wpAny _ _ (field (.ref i) 1 >>= _) _ _ s
  refine wpAny_bind (wpAny_field gi di (x := .int k 0) rfl ?_)
  show wpAny _ _ (seqItems? (.ref l) >>= _) _ _ s
  refine wpAny_bind (wpAny_seqItems gt dt ?_)
  simp only [Int.toNat_natCast, e]
  refine wpAny_bind (wpAny_setField gi di (by simp) (wpAny_pure ⟨x, rfl, wpAny_pure (h _ ?_ (Heap.SameBut.update ..))⟩))
  refine ⟨_, Heap.get?_update_self _ gi (Obj.isFreed_of_fields (Obj.data_mapFields di _)), (Obj.cls_mapFields ..).trans ci, ?_⟩
  rw [Obj.data_mapFields di]
  simp [rawInt]
theorem nextOf_tuple_end {i l : Addr} {k : Nat} {xs : Array Value} {Q : Value → Shared → Prop} (hh : A.handled = none) (st : s.heap.IsTupleIter i l k) (tp : s.heap.IsTuple l xs) (e : xs[k]? = none)
    (h : ∀ h' x, Heap.ExtBut i s.heap h' → (∃ o, h'.get? x = some o ∧ o.cls = .type "StopIteration") → E (.ref x) { s with heap := h' }) : wpAny (model prog w) A (Builtin.SmallTypes.nextOf (.ref i)) Q E s := by
  obtain ⟨oi, gi, ci, di⟩ := id st
  obtain ⟨ot, gt, _, nt, dt⟩ := tp
  unfold Builtin.SmallTypes.nextOf
  refine wpAny_bind (wpAny_callSpecial?_slot (name := Str.ofString "__next__") st.typeIs F.slot_tuple_iterator_next (wpAny_call_entry F.slot_tuple_iterator_next st.typeIs F.entry_tuple_iterator_next ?_ (F.args_tuple_iterator_next_1 _)))
  show wpAny _ _ (field (.ref i) 0 >>= _) _ _ s
  refine wpAny_bind (wpAny_field gi di (x := .ref l) rfl ?_)
  show wpAny _ _ (if (Value.ref l == Value.none) = true then _ else _) _ _ s
  rw [if_neg (by exact Bool.false_ne_true : ¬ ((Value.ref l == Value.none) = true))]
  show wpAny _ _ (field (.ref i) 1 >>= _) _ _ s
  refine wpAny_bind (wpAny_field gi di (x := .int k 0) rfl ?_)
  show wpAny _ _ (seqItems? (.ref l) >>= _) _ _ s
  refine wpAny_bind (wpAny_seqItems gt dt ?_)
  simp only [Int.toNat_natCast, e]
  refine wpAny_bind (wpAny_rule (wpAny_bind (wpAny_setField gi di (by simp) ?_)))
  show wpAny _ _ (newExc (.type "StopIteration") [] >>= _) _ _ _
  refine wpAny_bind ?_
  simp only [newExc, newTuple]
  refine wpAny_bind (wpAny_newObj_type ?_ (by size_fits))
  refine wpAny_bind (m := firstArgMember _ _) (wpAny_of_eq (a := Value.none) (by first | rfl | (simp only [firstArgMember] <;> rfl)) ?_)
  refine wpAny_newObj_type ?_ (by size_fits)
  simp only [raiseNew]
  refine wpAny_bind (wpAny_handled ?_)
  first | rw [(hh : A.in1.handled = none)] | rw [hh]
  refine wpAny_bind (wpAny_pure (wpAny_throw ?_))
  exact h _ _ (((Heap.SameBut.update ..).extBut.push _).push _) ⟨_, Heap.get?_push_size _ rfl, rfl⟩
theorem nextOf_seq {b : Bool} {i l : Addr} {k : Nat} {xs : Array Value} {x : Value} {Q : Value → Shared → Prop} (st : iterIs b s.heap i l k) (tp : seqIs b s.heap l xs) (e : xs[k]? = some x)
    (h : ∀ h', iterIs b h' i l (k + 1) → Heap.SameBut i s.heap h' → Q x { s with heap := h' }) : wpAny (model prog w) A (Builtin.SmallTypes.nextOf (.ref i)) Q E s := by
  cases b
  · exact nextOf_tuple st tp e h
  · exact wpAny_nextOf_list_item st tp e h
theorem nextOf_seq_end {b : Bool} {i l : Addr} {k : Nat} {xs : Array Value} {Q : Value → Shared → Prop} (hh : A.handled = none) (st : iterIs b s.heap i l k) (tp : seqIs b s.heap l xs) (e : xs[k]? = none)
    (h : ∀ h' x, Heap.ExtBut i s.heap h' → (∃ o, h'.get? x = some o ∧ o.cls = .type "StopIteration") → E (.ref x) { s with heap := h' }) : wpAny (model prog w) A (Builtin.SmallTypes.nextOf (.ref i)) Q E s := by
  cases b
  · exact nextOf_tuple_end hh st tp e h
  · exact wpAny_nextOf_list_end hh st tp e h
theorem zip_item {z TI TO i1 i2 l1 l2 : Addr} {b1 b2 : Bool} {k1 k2 : Nat} {xs ys : Array Value} {x y a b : Value} {Q : Option Value → Shared → Prop} (D : ZipApart z TI TO i1 i2 l1 l2)
    (hz : IsZip s.heap z TI TO .none) (hTI : IsPair s.heap TI (.ref i1) (.ref i2)) (hTO : IsPair s.heap TO a b) (h1 : iterIs b1 s.heap i1 l1 k1) (h2 : iterIs b2 s.heap i2 l2 k2) (q1 : seqIs b1 s.heap l1 xs) (q2 : seqIs b2 s.heap l2 ys) (hx : xs[k1]? = some x) (hy : ys[k2]? = some y)
    (hQ : ∀ h', IsZip h' z TI TO (rawInt s.heap.objs.size) → IsPair h' TO x y → iterIs b1 h' i1 l1 (k1 + 1) → iterIs b2 h' i2 l2 (k2 + 1) → IsPair h' s.heap.objs.size x y →
      (∀ c o, c ≠ z → c ≠ TO → c ≠ i1 → c ≠ i2 → s.heap.get? c = some o → h'.get? c = some o) → Q (some (.ref s.heap.objs.size)) { s with heap := h' }) : wpAny (model prog w) A (pyNext (.ref z)) Q E s := by
  have ty : s.TypeIs (.ref z) "zip" := ⟨_, hz, rfl⟩
  unfold pyNext
  refine wpAny_bind (wpAny_attempt (wpAny_callSpecial?_slot (name := Str.ofString "__next__") ty F.slot_zip_next (wpAny_call_entry F.slot_zip_next ty F.entry_zip_next ?_ (F.args_zip_next_1 _))))
  show wpAny _ _ (field (.ref z) 2 >>= _) _ _ _
  refine wpAny_bind (wpAny_field hz rfl (x := .bool false) rfl ?_)
  show wpAny _ _ (field (.ref z) 3 >>= _) _ _ _
  refine wpAny_bind (wpAny_field hz rfl (x := .ref TI) rfl (wpAny_bind (wpAny_seqItems hTI rfl ?_)))
  show wpAny _ _ (Builtin.SmallTypes.ownedTupleIsFree (.ref z) >>= _) _ _ _
  refine wpAny_bind ?_
  unfold Builtin.SmallTypes.ownedTupleIsFree
  refine wpAny_bind (wpAny_field hz rfl (x := .none) rfl (wpAny_pure ?_))
  simp only [if_true]
  refine wpAny_bind (wpAny_rule (wpAny_bind (wpAny_field hz rfl (x := .ref TO) rfl (wpAny_bind (wpAny_setField_rec hz (by simp) fun g1 z1 s1 => ?_)))))
  have Z1 : IsZip g1 z TI TO .ellipsis := z1
  refine wpAny_bind ?_
  simp only [List.zipIdx_cons, List.zipIdx_nil, List.forIn_cons, List.forIn_nil]
  refine wpAny_bind (wpAny_bind (wpAny_onRaise ?_))
  show wpAny _ _ (Builtin.SmallTypes.nextOf (.ref i1) >>= _) _ _ _
  refine wpAny_bind (nextOf_seq (h1.at_ fun o e => s1.extBut _ o D.i1z e) (q1.at_ fun o e => s1.extBut _ o D.l1z e) hx fun g2 n2 s2 => wpAny_pure ?_)
  have P2 : IsPair g2 TO a b := s2.extBut _ _ D.TOi1 (s1.extBut _ _ D.TOz hTO)
  refine wpAny_bind (wpAny_seqItems P2 rfl (wpAny_bind (wpAny_updateSeq_pair P2 fun g3 p3 s3 => wpAny_bind (wpAny_letGo (wpAny_pure ?_)))))
  have P3 : IsPair g3 TO x b := p3
  refine wpAny_bind (wpAny_bind (wpAny_onRaise ?_))
  show wpAny _ _ (Builtin.SmallTypes.nextOf (.ref i2) >>= _) _ _ _
  refine wpAny_bind (nextOf_seq (h2.at_ fun o e => s3.extBut _ o D.TOi2.symm (s2.extBut _ o D.i12.symm (s1.extBut _ o D.i2z e))) (q2.at_ fun o e => s3.extBut _ o D.l2TO (s2.extBut _ o D.l2i1 (s1.extBut _ o D.l2z e))) hy fun g4 n4 s4 => wpAny_pure ?_)
  have P4 : IsPair g4 TO x b := s4.extBut _ _ D.TOi2 P3
  refine wpAny_bind (wpAny_seqItems P4 rfl (wpAny_bind (wpAny_updateSeq_pair P4 fun g5 p5 s5 => wpAny_bind (wpAny_letGo (wpAny_pure (wpAny_pure ?_))))))
  have P5 : IsPair g5 TO x y := p5
  refine wpAny_bind (wpAny_seqItems P5 rfl (wpAny_bind (wpAny_newTuple ?_)))
  have sz : g5.objs.size = s.heap.objs.size := by rw [s5.1, s4.1, s3.1, s2.1, s1.1]
  have Z5 : IsZip g5 z TI TO .ellipsis := s5.extBut _ _ D.TOz.symm (s4.extBut _ _ D.i2z.symm (s3.extBut _ _ D.TOz.symm (s2.extBut _ _ D.i1z.symm Z1)))
  have K5 : ∀ c o, c ≠ z → c ≠ TO → c ≠ i1 → c ≠ i2 → s.heap.get? c = some o → g5.get? c = some o := fun c o c1 c2 c3 c4 e => s5.extBut _ _ c2 (s4.extBut _ _ c4 (s3.extBut _ _ c2 (s2.extBut _ _ c3 (s1.extBut _ _ c1 e))))
  have N1 : iterIs b1 g5 i1 l1 (k1 + 1) := n2.at_ fun o e => s5.extBut _ o D.TOi1.symm (s4.extBut _ o D.i12 (s3.extBut _ o D.TOi1.symm e))
  have N2 : iterIs b2 g5 i2 l2 (k2 + 1) := n4.at_ fun o e => s5.extBut _ o D.TOi2.symm e
  have zlt : z < g5.objs.size := Heap.lt_size Z5
  show wpAny _ _ (Builtin.SmallTypes.ownedTupleHandOut (.ref z) (.ref g5.objs.size) >>= _) _ _ _
  refine wpAny_bind ?_
  unfold Builtin.SmallTypes.ownedTupleHandOut
  have Z6 : IsZip (g5.push { cls := .type "tuple", data := .seq #[x, y] }) z TI TO .ellipsis := Heap.get?_push_of_some _ Z5
  refine wpAny_bind (wpAny_setField_rec Z6 (by simp) fun g7 z7 s7 => ?_)
  have Z7 : IsZip g7 z TI TO (rawInt g5.objs.size) := z7
  refine wpAny_setField_rec Z7 (by simp) fun g8 z8 s8 => ?_
  have Z8 : IsZip g8 z TI TO (rawInt g5.objs.size) := z8
  have up : ∀ c o, c ≠ z → g5.get? c = some o → g8.get? c = some o := fun c o c1 e => s8.extBut _ _ c1 (s7.extBut _ _ c1 (Heap.get?_push_of_some _ e))
  have T8 : IsPair g8 g5.objs.size x y := s8.extBut _ _ (Nat.ne_of_gt zlt) (s7.extBut _ _ (Nat.ne_of_gt zlt) (Heap.get?_push_size _ rfl))
  rw [sz] at Z8 T8
  refine wpAny_pure ⟨_, rfl, wpAny_pure ?_⟩
  show Q (some (.ref g5.objs.size)) _
  rw [sz]
  exact hQ g8 Z8 (up _ _ D.TOz P5) (N1.at_ fun o e => up _ o D.i1z e) (N2.at_ fun o e => up _ o D.i2z e) T8 fun c o c1 c2 c3 c4 e => up c o c1 (K5 c o c1 c2 c3 c4 e)
theorem zip_end {z TI TO i1 i2 l1 l2 : Addr} {b1 b2 : Bool} {k1 k2 : Nat} {xs ys : Array Value} {a b : Value} {Q : Option Value → Shared → Prop} (hh : A.handled = none) (D : ZipApart z TI TO i1 i2 l1 l2)
    (hz : IsZip s.heap z TI TO .none) (hTI : IsPair s.heap TI (.ref i1) (.ref i2)) (hTO : IsPair s.heap TO a b) (h1 : iterIs b1 s.heap i1 l1 k1) (h2 : iterIs b2 s.heap i2 l2 k2) (q1 : seqIs b1 s.heap l1 xs) (q2 : seqIs b2 s.heap l2 ys) (hend : xs[k1]? = none ∨ ys[k2]? = none)
    (hQ : ∀ h', (∀ c o, c ≠ z → c ≠ TO → c ≠ i1 → c ≠ i2 → s.heap.get? c = some o → h'.get? c = some o) → Q none { s with heap := h' }) : wpAny (model prog w) A (pyNext (.ref z)) Q E s := by
  have ty : s.TypeIs (.ref z) "zip" := ⟨_, hz, rfl⟩
  have fin : ∀ (h' : Heap) (e : Addr), (∀ c o, c ≠ z → c ≠ TO → c ≠ i1 → c ≠ i2 → s.heap.get? c = some o → h'.get? c = some o) → (∃ o, h'.get? e = some o ∧ o.cls = .type "StopIteration") →
      wpAny (model prog w) A (isInstance (.ref e) (.type "StopIteration") >>= fun r => if r = true then pure none else throw (.ref e)) Q E { s with heap := h' } := fun h' e hk ⟨o, ho, hc⟩ =>
    wpAny_bind (wpAny_isInstance (T := "StopIteration") (b := true) ⟨o, ho, hc⟩ isSubtype_stop (wpAny_pure (hQ _ hk)))
  unfold pyNext
  refine wpAny_bind (wpAny_attempt (wpAny_callSpecial?_slot (name := Str.ofString "__next__") ty F.slot_zip_next (wpAny_call_entry F.slot_zip_next ty F.entry_zip_next ?_ (F.args_zip_next_1 _))))
  show wpAny _ _ (field (.ref z) 2 >>= _) _ _ _
  refine wpAny_bind (wpAny_field hz rfl (x := .bool false) rfl ?_)
  show wpAny _ _ (field (.ref z) 3 >>= _) _ _ _
  refine wpAny_bind (wpAny_field hz rfl (x := .ref TI) rfl (wpAny_bind (wpAny_seqItems hTI rfl ?_)))
  show wpAny _ _ (Builtin.SmallTypes.ownedTupleIsFree (.ref z) >>= _) _ _ _
  refine wpAny_bind ?_
  unfold Builtin.SmallTypes.ownedTupleIsFree
  refine wpAny_bind (wpAny_field hz rfl (x := .none) rfl (wpAny_pure ?_))
  simp only [if_true]
  refine wpAny_bind (wpAny_rule (wpAny_bind (wpAny_field hz rfl (x := .ref TO) rfl (wpAny_bind (wpAny_setField_rec hz (by simp) fun g1 z1 s1 => ?_)))))
  have Z1 : IsZip g1 z TI TO .ellipsis := z1
  refine wpAny_bind ?_
  simp only [List.zipIdx_cons, List.zipIdx_nil, List.forIn_cons, List.forIn_nil]
  refine wpAny_bind (wpAny_bind (wpAny_onRaise ?_))
  show wpAny _ _ (Builtin.SmallTypes.nextOf (.ref i1) >>= _) _ _ _
  have I1 : iterIs b1 g1 i1 l1 k1 := h1.at_ fun o e => s1.extBut _ o D.i1z e
  have L1 : seqIs b1 g1 l1 xs := q1.at_ fun o e => s1.extBut _ o D.l1z e
  cases ex : xs[k1]? with
  | none =>
    refine wpAny_bind (nextOf_seq_end hh I1 L1 ex fun g2 e s2 he => ?_)
    obtain ⟨oe, he, ce⟩ := he
    have Z2 : IsZip g2 z TI TO .ellipsis := s2 _ _ D.i1z.symm Z1
    have nez : e ≠ z := fun q => by subst q; rw [Z2] at he; cases he; simp at ce
    exact wpAny_setField_rec Z2 (by simp) fun g3 _ s3 => fin g3 e (fun c o c1 _ c3 _ q => s3.extBut _ _ c1 (s2 _ _ c3 (s1.extBut _ _ c1 q))) ⟨oe, s3.extBut _ _ nez he, ce⟩
  | some x =>
    have ey : ys[k2]? = none := by
      rcases hend with q | q
      · rw [ex] at q; cases q
      · exact q
    refine wpAny_bind (nextOf_seq I1 L1 ex fun g2 n2 s2 => wpAny_pure ?_)
    have P2 : IsPair g2 TO a b := s2.extBut _ _ D.TOi1 (s1.extBut _ _ D.TOz hTO)
    refine wpAny_bind (wpAny_seqItems P2 rfl (wpAny_bind (wpAny_updateSeq_pair P2 fun g3 p3 s3 => wpAny_bind (wpAny_letGo (wpAny_pure ?_)))))
    refine wpAny_bind (wpAny_bind (wpAny_onRaise ?_))
    show wpAny _ _ (Builtin.SmallTypes.nextOf (.ref i2) >>= _) _ _ _
    refine wpAny_bind (nextOf_seq_end hh (h2.at_ fun o e => s3.extBut _ o D.TOi2.symm (s2.extBut _ o D.i12.symm (s1.extBut _ o D.i2z e))) (q2.at_ fun o e => s3.extBut _ o D.l2TO (s2.extBut _ o D.l2i1 (s1.extBut _ o D.l2z e))) ey fun g4 e s4 he => ?_)
    obtain ⟨oe, he, ce⟩ := he
    have Z4 : IsZip g4 z TI TO .ellipsis := s4 _ _ D.i2z.symm (s3.extBut _ _ D.TOz.symm (s2.extBut _ _ D.i1z.symm Z1))
    have nez : e ≠ z := fun q => by subst q; rw [Z4] at he; cases he; simp at ce
    exact wpAny_setField_rec Z4 (by simp) fun g5 _ s5 => fin g5 e (fun c o c1 c2 c3 c4 q => s5.extBut _ _ c1 (s4 _ _ c4 (s3.extBut _ _ c2 (s2.extBut _ _ c3 (s1.extBut _ _ c1 q))))) ⟨oe, s5.extBut _ _ nez he, ce⟩
noncomputable abbrev zo1 (b1 : Bool) (h : Heap) (l1 : Addr) : Heap := h.push (iterObj b1 l1)
noncomputable abbrev zo2 (b1 b2 : Bool) (h : Heap) (l1 l2 : Addr) : Heap := (zo1 b1 h l1).push (iterObj b2 l2)
noncomputable abbrev zo3 (b1 b2 : Bool) (h : Heap) (l1 l2 : Addr) : Heap := (zo2 b1 b2 h l1 l2).push { cls := .type "tuple", data := .seq #[.ref h.objs.size, .ref (zo1 b1 h l1).objs.size] }
noncomputable abbrev zo4 (b1 b2 : Bool) (h : Heap) (l1 l2 : Addr) : Heap := (zo3 b1 b2 h l1 l2).push { cls := .type "tuple", data := .seq #[.none, .none] }
noncomputable abbrev zo5 (b1 b2 : Bool) (h : Heap) (l1 l2 : Addr) : Heap := (zo4 b1 b2 h l1 l2).push { cls := .type "zip", data := .fields #[.none, .bool false, .bool false, .ref (zo2 b1 b2 h l1 l2).objs.size, .ref (zo3 b1 b2 h l1 l2).objs.size] }
theorem zip_new (b1 b2 : Bool) (l1 l2 : Addr) (xs ys : Array Value) : Meets (Builtin.«zip.__new__» ⟨[.type "zip", .ref l1, .ref l2], []⟩) (fun _ R s => seqIs b1 s.heap l1 xs ∧ seqIs b2 s.heap l2 ys ∧
      R (.ok (.ret (.ref (zo4 b1 b2 s.heap l1 l2).objs.size))) { s with heap := zo5 b1 b2 s.heap l1 l2 }) := by
  refine .of_wp fun prog w A R s q => ?_
  obtain ⟨hp, g, d, tk, os⟩ := s
  obtain ⟨q1, q2, q⟩ := q
  have sub := sub_zip
  have L1 : seqIs b1 (Shared.heap ⟨hp, g, d, tk, os⟩) l1 xs := q1
  have L2' : seqIs b2 (Shared.heap ⟨hp.push (iterObj b1 l1), g, d, tk, os⟩) l2 ys := q2.at_ fun o z => Heap.get?_push_of_some _ z
  wp_walk using pyIter_seq L1, pyIter_seq L2'
  exact ⟨_, rfl, q⟩
theorem call_zip {b1 b2 : Bool} {l1 l2 : Addr} {xs ys : Array Value} {Q : Value → Shared → Prop} (q1 : seqIs b1 s.heap l1 xs) (q2 : seqIs b2 s.heap l2 ys)
    (h : ∀ h', IsZip h' (s.heap.objs.size + 4) (s.heap.objs.size + 2) (s.heap.objs.size + 3) .none → IsPair h' (s.heap.objs.size + 2) (.ref s.heap.objs.size) (.ref (s.heap.objs.size + 1)) → IsPair h' (s.heap.objs.size + 3) .none .none →
      iterIs b1 h' s.heap.objs.size l1 0 → iterIs b2 h' (s.heap.objs.size + 1) l2 0 → (∀ c o, s.heap.get? c = some o → h'.get? c = some o) → Q (.ref (s.heap.objs.size + 4)) { s with heap := h' }) :
    wpAny (model prog w) A (call (.type "zip") [.ref l1, .ref l2]) Q E s := by
  refine callType_new F.called_zip (by decide) (F.typeCall_zip_2 _ _) (F.newCall_zip_2 _ _) (fun obj => F.args_object_init_3 obj _ _) F.entry_zip_new (zip_new b1 b2 l1 l2 xs ys) ⟨q1, q2, ?_⟩
  have y1 : (zo1 b1 s.heap l1).objs.size = s.heap.objs.size + 1 := Heap.size_push ..
  have y2 : (zo2 b1 b2 s.heap l1 l2).objs.size = s.heap.objs.size + 2 := by rw [Heap.size_push, y1]
  have y3 : (zo3 b1 b2 s.heap l1 l2).objs.size = s.heap.objs.size + 3 := by rw [Heap.size_push, y2]
  have y4 : (zo4 b1 b2 s.heap l1 l2).objs.size = s.heap.objs.size + 4 := by rw [Heap.size_push, y3]
  have k5 : (zo5 b1 b2 s.heap l1 l2).get? (zo4 b1 b2 s.heap l1 l2).objs.size = some _ := Heap.get?_push_size _ rfl
  have k4 : (zo5 b1 b2 s.heap l1 l2).get? (zo3 b1 b2 s.heap l1 l2).objs.size = some _ := Heap.get?_push_of_some _ (Heap.get?_push_size _ rfl)
  have k3 : (zo5 b1 b2 s.heap l1 l2).get? (zo2 b1 b2 s.heap l1 l2).objs.size = some _ := Heap.get?_push_of_some _ (Heap.get?_push_of_some _ (Heap.get?_push_size _ rfl))
  have k2 : (zo5 b1 b2 s.heap l1 l2).get? (zo1 b1 s.heap l1).objs.size = some (iterObj b2 l2) := Heap.get?_push_of_some _ (Heap.get?_push_of_some _ (Heap.get?_push_of_some _ (Heap.get?_push_size _ (by cases b2 <;> rfl))))
  have k1 : (zo5 b1 b2 s.heap l1 l2).get? s.heap.objs.size = some (iterObj b1 l1) := Heap.get?_push_of_some _ (Heap.get?_push_of_some _ (Heap.get?_push_of_some _ (Heap.get?_push_of_some _ (Heap.get?_push_size _ (by cases b1 <;> rfl)))))
  show _ ∧ _
  rw [y2, y3, y4] at k5
  rw [y1, y2] at k3
  rw [y3] at k4
  rw [y1] at k2
  rw [y4]
  exact ⟨⟨_, k5, rfl⟩, h _ k5 k3 k4 (iterIs.mk_ k1) (iterIs.mk_ k2) fun c o x => Heap.get?_push_of_some _ (Heap.get?_push_of_some _ (Heap.get?_push_of_some _ (Heap.get?_push_of_some _ (Heap.get?_push_of_some _ x))))⟩
end
noncomputable def SqB (K : PySem.W.Frag) (b : Bool) (H : Hp) (p : Addr) (xs : List V) : Prop := match b with
  | true => SqL K H p xs
  | false => SqT K H p xs
section
variable {X : Cx} {pins : List (Addr × Obj)} {σ : St} {H : Hp} {s : Shared} {b b1 b2 : Bool} {p p1 p2 : Addr} {xs ys : List V}
theorem Inv.seqB (I : Inv X pins σ H s) (h : SqB X.K b H p xs) : ∃ its : List Value, Vals xs its ∧ seqIs b s.heap p its.toArray ∧ xs.length ≤ sizeLine := by
  cases b
  · obtain ⟨its, r, q, hz⟩ := I.tuple (show SqT X.K H p xs from h)
    exact ⟨its, r, (show s.heap.IsTuple p its.toArray from q), hz⟩
  · obtain ⟨its, r, q, hz⟩ := I.list (show SqL X.K H p xs from h)
    exact ⟨its, r, (show s.heap.IsList p its.toArray from q.isList), hz⟩
theorem Inv.seqB_inj (I : Inv X pins σ H s) (h : SqB X.K b H p xs) (h' : SqB X.K b H p ys) : xs = ys := by
  cases b
  · exact I.tuple_inj h h'
  · exact I.list_inj h h'
end
noncomputable def Itz (K : PySem.W.Frag) (b1 b2 : Bool) (p1 p2 : Addr) : It :=
  ⟨fun i H => ∃ xs ys x y, SqB K b1 H p1 xs ∧ SqB K b2 H p2 ys ∧ xs[i]? = some x ∧ ys[i]? = some y,
   fun i H v H' => ∃ T x y, v = .ref T ∧ H T = none ∧ H' = upd H T (.tup [x, y]) ∧ (∀ xs, SqB K b1 H p1 xs → xs[i]? = some x) ∧ ∀ ys, SqB K b2 H p2 ys → ys[i]? = some y,
   fun i H => ∃ xs ys, SqB K b1 H p1 xs ∧ SqB K b2 H p2 ys ∧ (xs.length ≤ i ∨ ys.length ≤ i)⟩
noncomputable def zipAt (b1 b2 : Bool) (p1 p2 z TI TO i1 i2 : Addr) (i : Nat) (h : Heap) : Prop := IsZip h z TI TO .none ∧ IsPair h TI (.ref i1) (.ref i2) ∧ (∃ a b, IsPair h TO a b) ∧ iterIs b1 h i1 p1 i ∧ iterIs b2 h i2 p2 i
theorem turn_zip {P : Program} {w : World} {K : PySem.W.Frag} {elts : List Expr} {x1 : Nat} {pos : Pos} (b1 b2 : Bool) {p1 p2 z TI TO i1 i2 : Addr} (D : ZipApart z TI TO i1 i2 p1 p2) :
    Turn P w K (.Tuple elts x1 pos) (Itz K b1 b2 p1 p2) [z, TI, TO, i1, i2] z (zipAt b1 b2 p1 p2 z TI TO i1 i2) where
  mem := by simp
  obj := fun i h st c hc => by
    obtain ⟨hz, hI, ⟨a, b, hO⟩, j1, j2⟩ := st
    simp only [List.mem_cons, List.not_mem_nil, or_false] at hc
    rcases hc with rfl | rfl | rfl | rfl | rfl
    · exact ⟨_, hz, fun v e => by cases e⟩
    · exact ⟨_, hI, fun v e => by cases e⟩
    · exact ⟨_, hO, fun v e => by cases e⟩
    · exact j1.obj
    · exact j2.obj
  keep := fun i h h' st k => by
    obtain ⟨hz, hI, ⟨a, b, hO⟩, j1, j2⟩ := st
    exact ⟨k z (by simp) _ hz, k TI (by simp) _ hI, ⟨a, b, k TO (by simp) _ hO⟩, j1.at_ fun o e => k i1 (by simp) o e, j2.at_ fun o e => k i2 (by simp) o e⟩
  item := by
    intro X hP hw hK hc i pins s σ H E I hf st hg
    subst hP hw hK
    obtain ⟨xs, ys, x, y, q1, q2, ex, ey⟩ := hg
    obtain ⟨it1, r1, t1, _⟩ := I.seqB q1
    obtain ⟨it2, r2, t2, _⟩ := I.seqB q2
    obtain ⟨u, eu, ru⟩ := r1.get ex
    obtain ⟨v, ev, rv⟩ := r2.get ey
    obtain ⟨hz, hI, ⟨a, b, hO⟩, j1, j2⟩ := st
    refine zip_item D hz hI hO j1 j2 t1 t2 (x := u) (y := v) (by simpa using eu) (by simpa using ev) fun h' z' o' n1 n2 tp kk => ?_
    refine ⟨_, rfl, ?_⟩
    refine wpAny_letOwnedTupleGo_zip z' fun h'' z'' s'' => ?_
    have fresh : H s.heap.objs.size = none := I.hok.fresh (Nat.le_refl _)
    have zne : s.heap.objs.size ≠ z := fun e => by
      have := Heap.lt_size hz
      rw [← e] at this
      exact Nat.lt_irrefl _ this
    have keep : ∀ c o, c ∉ [z, TI, TO, i1, i2] → s.heap.get? c = some o → h''.get? c = some o := fun c o hc e => by
      simp only [List.mem_cons, List.not_mem_nil, or_false, not_or] at hc
      exact s''.extBut c o hc.1 (kk c o hc.1 hc.2.2.1 hc.2.2.2.1 hc.2.2.2.2 e)
    have tp' : h''.get? s.heap.objs.size = some { cls := .type "tuple", data := .seq #[u, v] } := s''.extBut _ _ zne tp
    have I' : Inv X pins σ (upd H s.heap.objs.size (.tup [x, y])) { s with heap := h'', toks := s.toks } := by
      refine I.step (g' := s.gens) (d' := s.drawn) (ch := [z, TI, TO, i1, i2]) (fun c hc => ?_) (fun c o _ _ hc e _ => keep c o hc e) (fun c o _ _ hc e _ => ⟨o.slots, keep c o hc e⟩) (fun c o _ e n => ?_) (fun c o hc e => ⟨o, keep c o hc e⟩)
        (fun c zs e => ?_) (fun c o w' e => ?_) (fun c ps e => ⟨#[], ?_⟩) (fun m hm => ?_) (fun c o e => ?_) I.bare
      · obtain ⟨_, f1, f2, f3, f4, f5⟩ := hf c hc
        exact ⟨f3, f1, f4, f5⟩
      · rw [upd_ne (Nat.ne_of_lt (Heap.lt_size e))]; exact n
      · rw [upd_ne (ne_of_none e fresh)]; exact e
      · rw [upd_ne (ne_of_none e fresh)]; exact e
      · rw [upd_ne (ne_of_none e fresh), e]; simp
      · obtain ⟨o, es, ep, ho, r⟩ := hm
        exact ⟨o, es, ep, keep _ o (fun q => (hf _ q).2.1 rfl) ho, r⟩
      · by_cases hb : c = s.heap.objs.size
        · subst hb
          rw [upd_same] at e
          cases e
          exact ⟨by show 2 ≤ sizeLine; decide, [u, v], .cons ru (.cons rv .nil), ⟨_, tp', ⟨rfl, _, rfl⟩, rfl⟩⟩
        · rw [upd_ne hb] at e
          refine (I.hok c o e).stay (fun d w' hd q => keep d w' (fun m => ?_) q) (fun d q => ?_) fun d zs q => ?_
          · have n := (hf d m).1
            rcases hd with rfl | hd
            · rw [n] at e; cases e
            · rw [n] at hd; cases hd
          · rw [upd_ne (ne_of_none q fresh)]; exact q
          · rw [upd_ne (ne_of_none q fresh)]; exact q
    refine ⟨.ref s.heap.objs.size, _, I', rfl, ⟨_, x, y, rfl, fresh, rfl, fun zs q => by rw [I.seqB_inj q q1]; exact ex, fun zs q => by rw [I.seqB_inj q q2]; exact ey⟩, ?_, fun c hc => ?_⟩
    · refine ⟨z'', s''.extBut _ _ D.TIz (kk _ _ D.TIz D.TITO D.TIi1 D.TIi2 hI), ⟨u, v, s''.extBut _ _ D.TOz o'⟩, n1.at_ fun o e => s''.extBut _ o D.i1z e, n2.at_ fun o e => s''.extBut _ o D.i2z e⟩
    · have lt : c < s.heap.objs.size := by
        simp only [List.mem_cons, List.not_mem_nil, or_false] at hc
        rcases hc with rfl | rfl | rfl | rfl | rfl
        · exact Heap.lt_size hz
        · exact Heap.lt_size hI
        · exact Heap.lt_size hO
        · obtain ⟨o, e, _⟩ := j1.obj; exact Heap.lt_size e
        · obtain ⟨o, e, _⟩ := j2.obj; exact Heap.lt_size e
      rw [upd_ne (Nat.ne_of_lt lt)]
      exact (hf c hc).1
  done := by
    intro X hP hw hK hc i pins s σ H E I hf st hg
    subst hP hw hK
    obtain ⟨xs, ys, q1, q2, hl⟩ := hg
    obtain ⟨it1, r1, t1, _⟩ := I.seqB q1
    obtain ⟨it2, r2, t2, _⟩ := I.seqB q2
    obtain ⟨hz, hI, ⟨a, b, hO⟩, j1, j2⟩ := st
    have l1 := r1.length
    have l2 := r2.length
    refine zip_end (I.ok.hd hc) D hz hI hO j1 j2 t1 t2 (by rcases hl with h | h; exact .inl (by simp; omega); exact .inr (by simp; omega)) fun h' kk => ⟨rfl, ?_⟩
    have keep : ∀ c o, c ∉ [z, TI, TO, i1, i2] → s.heap.get? c = some o → h'.get? c = some o := fun c o hc e => by
      simp only [List.mem_cons, List.not_mem_nil, or_false, not_or] at hc
      exact kk c o hc.1 hc.2.2.1 hc.2.2.2.1 hc.2.2.2.2 e
    show Inv X pins σ H { s with heap := h', toks := s.toks }
    refine I.step (g' := s.gens) (d' := s.drawn) (ch := [z, TI, TO, i1, i2]) (fun c hc => ?_) (fun c o _ _ hc e _ => keep c o hc e) (fun c o _ _ hc e _ => ⟨o.slots, keep c o hc e⟩) (fun c o _ e n => n) (fun c o hc e => ⟨o, keep c o hc e⟩)
      (fun c zs e => e) (fun c o w' e => e) (fun c ps e => ⟨#[], by rw [e]; simp⟩) (fun m hm => ?_) (fun c o e => ?_) I.bare
    · obtain ⟨_, f1, f2, f3, f4, f5⟩ := hf c hc
      exact ⟨f3, f1, f4, f5⟩
    · obtain ⟨o, es, ep, ho, r⟩ := hm
      exact ⟨o, es, ep, keep _ o (fun q => (hf _ q).2.1 rfl) ho, r⟩
    · refine (I.hok c o e).stay (fun d w' hd q => keep d w' (fun m => ?_) q) (fun d q => q) fun d zs q => q
      have n := (hf d m).1
      rcases hd with rfl | hd
      · rw [n] at e; cases e
      · rw [n] at hd; cases hd
  self := fun _ _ _ _ _ st h => wpAny_pyIter_zip st.1 h
section
variable {X : Cx} {a b : Expr} {ta : TA} {p pos : Pos} {elts : List Expr} {x1 : Nat} {tp : Pos}
noncomputable def iZip (K : PySem.W.Frag) (b1 b2 : Bool) (ta : TA) : TI := fun σ H R => ta σ H fun vs H1 => ∃ p1 p2, vs = [.ref p1, .ref p2] ∧ (∃ xs, SqB K b1 H1 p1 xs) ∧ (∃ ys, SqB K b2 H1 p2 ys) ∧ R (Itz K b1 b2 p1 p2) H1
theorem pi_zip {K : PySem.W.Frag} (b1 b2 : Bool) (hK : X.K = K) (hg : Gl X "zip") (hm : X.mg "zip" = none) (ha : PA X [a, b] ta) (he : starEach [a, b] X.env = (false, eval a X.env) :: starEach [b] X.env := by rfl) (hpl : (backTo pos (starEach [b] X.env)).any (·.1) = false := by rfl) :
    PI X (.Tuple elts x1 tp) (.Call (.Name "zip" p) [a, b] [] pos) (iZip K b1 b2 ta) := by
  subst hK
  intro pins s σ H R I h
  refine wpAny_Call_Name_kw (ld_blt I hg hm (u := .type "zip") (by rfl) ?_)
  refine PyProof.Rows.callWith_type1 (thn (ha pos pins s σ H _ I h) fun us s1 h1 => ?_) he hpl
  obtain ⟨vs, H1, I1, r1, p1, p2, rfl, ⟨xs, q1⟩, ⟨ys, q2⟩, k⟩ := h1
  obtain ⟨u, w', rfl, ru, rw'⟩ := vals2 r1
  cases (show u = Value.ref p1 from ru)
  cases (show w' = Value.ref p2 from rw')
  obtain ⟨it1, r1, t1, _⟩ := I1.seqB q1
  obtain ⟨it2, r2, t2, _⟩ := I1.seqB q2
  have lt : ∀ {c : Addr} {b : Bool} {zs : Array Value}, seqIs b s1.heap c zs → c < s1.heap.objs.size := fun {c b zs} q => by
    cases b
    · obtain ⟨o, e, _⟩ := (show s1.heap.IsTuple c zs from q); exact Heap.lt_size e
    · obtain ⟨o, e, _⟩ := (show s1.heap.IsList c zs from q); exact Heap.lt_size e
  refine call_zip t1 t2 fun h' hz hI hO j1 j2 kk => wpAny_pyIter_zip hz ?_
  have D := zipApart_new (lt t1) (lt t2)
  have I2 : Inv X pins σ H1 { s1 with heap := h', toks := s1.toks } := I1.kept kk
  refine ⟨_, _, _, _, H1, rfl, I2, turn_zip b1 b2 D, ⟨hz, hI, ⟨_, _, hO⟩, j1, j2⟩, fun c hc => ?_, k⟩
  have le : s1.heap.objs.size ≤ c := by
    simp only [List.mem_cons, List.not_mem_nil, or_false] at hc
    rcases hc with rfl | rfl | rfl | rfl | rfl <;> first | exact Nat.le_refl _ | exact Nat.le_add_right _ _
  exact I1.fpOk le (I1.hok.fresh le)
end
section
variable {X : Cx}
end
noncomputable def Exc (B : Heap) (e : Addr) (cls fl : Value) (h : Heap) : Prop :=
  ∃ oe vs T oT ts, h.get? e = some oe ∧ oe.cls = cls ∧ oe.dict = none ∧ oe.data = .fields vs ∧ vs[1]? = some (.ref T) ∧ B.get? T = none ∧ T ≠ e ∧ h.get? T = some oT ∧ oT.data = .fields ts ∧ ts[3]? = some fl
structure FlyD (B : Heap) (l : List Env) (e : Addr) (cls fl : Value) (h : Heap) : Prop where
  st : B.StaysIn h
  new : B.get? e = none
  fr : h.FunFrames B l
  ex : Exc B e cls fl h
section
variable {M : Model} {A : Around} {E : Value → Shared → Prop} {s : Shared} {B : Heap} {env : Env} {outer l : List Env} {L e : Addr} {cls fl : Value} {Q : Unit → Shared → Prop}
theorem fr_ne {h : Heap} (hl : h.FunFrames B l) {b : Addr} {o : Obj} {vs : Array Value} (ho : h.get? b = some o) (hd : o.data = .fields vs) : b ∉ l.filterMap (·.frame) := fun hb => by
  obtain ⟨_, o1, e1, d1⟩ := hl.mem hb
  rw [ho] at e1
  cases e1
  exact d1 vs hd
theorem step_rec {h : Heap} {b : Addr} {o : Obj} {vs : Array Value} {g : Array Value → Array Value} (st : B.StaysIn h) (hl : h.FunFrames B l) (hn : B.get? b = none) (ho : h.get? b = some o) (hd : o.data = .fields vs) :
    B.StaysIn (h.update b (Obj.mapFields g)) ∧ (h.update b (Obj.mapFields g)).FunFrames B l ∧ h.UpToSlots (h.update b (Obj.mapFields g)) ∧ (h.update b (Obj.mapFields g)).get? b = some (Obj.mapFields g o) ∧ ∀ c, c ≠ b → (h.update b (Obj.mapFields g)).get? c = h.get? c := by
  have oth : ∀ c, c ≠ b → (h.update b (Obj.mapFields g)).get? c = h.get? c := fun c hc => Heap.get?_update_other _ _ (Ne.symm hc)
  have nrec : ∀ c u, h.get? c = some u → (∀ ws, u.data ≠ .fields ws) → c ≠ b := fun c u q nf z => by
    rw [z, ho] at q
    cases q
    exact nf vs hd
  refine ⟨fun c u q => (oth c fun z => by rw [z, hn] at q; cases q).trans (st c u q), hl.of_keeps fun c u q nf => ⟨u, (oth c (nrec c u q nf)).trans q, rfl⟩, fun c u q nf => ⟨u.slots, (oth c (nrec c u q nf)).trans q⟩, ?_, oth⟩
  exact Heap.get?_update_self _ ho (Obj.isFreed_of_fields (Obj.data_mapFields hd g))
theorem fly_land (F : FlyD B l e cls fl s.heap) (k : ∀ h', FlyD B l e cls .none h' → s.heap.UpToSlots h' → Q () { s with heap := h' }) : wpAny M A (setFlight (.ref e) none) Q E s := by
  obtain ⟨oe, vs, T, oT, ts, he, hc, hdn, hd, h1, hnT, hTe, hT, hdT, h3⟩ := F.ex
  obtain ⟨k1, k2, k3, k4, k5⟩ := step_rec (g := (·.setIfInBounds 3 ((none : Option Addr).elim Value.none fun f => rawInt f))) F.st F.fr hnT hT hdT
  unfold setFlight
  refine wpAny_bind (wpAny_field he hd h1 ?_)
  rw [if_pos (by simp : (Value.ref T != Value.none) = true)]
  refine wpAny_setField hT hdT (Array.getElem?_eq_some_iff.mp h3).1 (k _ ⟨k1, F.new, k2, ?_⟩ k3)
  have sz := (Array.getElem?_eq_some_iff.mp h3).1
  exact ⟨oe, vs, T, _, _, (k5 e (Ne.symm hTe)).trans he, hc, hdn, hd, h1, hnT, hTe, k4, Obj.data_mapFields hdT _, by simp [sz]⟩
theorem fly_entry {oe : Obj} {vs : Array Value} {head : Value} {hn : Bool} (hfr : A.frames = some (env :: outer)) (hf : env.frame = some L) (st : B.StaysIn s.heap) (hl : s.heap.FunFrames B (env :: outer)) (new : B.get? e = none)
    (he : s.heap.get? e = some oe) (hd : oe.data = .fields vs) (hdn : oe.dict = none) (sz : 1 < vs.size)
    (k : ∀ h', FlyD B (env :: outer) e oe.cls (rawInt L) h' → s.heap.UpToSlots h' → Q () { s with heap := h' }) :
    wpAny M A (do let a ← frameOf env; let pl ← entryPlaceOf L hn; let b ← EntryCells.newEntry head a .none (rawInt L) .none pl; setField (.ref e) 1 b) Q E s := by
  have nef := fr_ne hl he hd
  refine wpAny_bind (wpAny_frameOf_fun hfr hl hf fun h1 so => wpAny_bind (wpAny_entryPlaceOf fun pl hpl => ?_))
  have st1 : B.StaysIn h1 := fun b o q => (so.2.1 b fun z => by rw [(hl.mem z).1] at q; cases q).trans (st b o q)
  have fr1 : h1.FunFrames B (env :: outer) := hl.of_keeps fun b o q nf => by
    obtain ⟨sl, z⟩ := so.2.2 b o q
    exact ⟨_, z, rfl⟩
  have e1 : h1.get? e = some oe := (so.2.1 e nef).trans he
  unfold EntryCells.newEntry newFields
  refine wpAny_bind (wpAny_newObj_type ?_ (hpl.sizeOk5 _ _ _ _ _))
  generalize hO : ({ cls := .type "traceback", dict := none, data := .fields ([head, .ref L, .none, rawInt L, .none] ++ (if pl.isEmpty then List.replicate 6 Value.none else pl)).toArray } : Obj) = oT
  have dT : oT.data = .fields ([head, .ref L, .none, rawInt L, .none] ++ (if pl.isEmpty then List.replicate 6 Value.none else pl)).toArray := by rw [← hO]
  have nfT : oT.isFreed = false := by rw [← hO]; rfl
  have kp : ∀ b o, h1.get? b = some o → (h1.push oT).get? b = some o := fun b o q => Heap.get?_push_of_some oT q
  have fr2 : (h1.push oT).FunFrames B (env :: outer) := fr1.of_keeps fun b o q nf => ⟨o, kp b o q, rfl⟩
  obtain ⟨k1, k2, k3, k4, k5⟩ := step_rec (g := (·.setIfInBounds 1 (Value.ref h1.objs.size))) (fun b o q => kp b o (st1 b o q)) fr2 new (kp _ _ e1) hd
  have neT : h1.objs.size ≠ e := Nat.ne_of_gt (Heap.lt_size e1)
  refine wpAny_setField (kp _ _ e1) hd sz (k _ ⟨k1, new, k2, _, _, h1.objs.size, oT, _, k4, Obj.cls_mapFields _ _, ?_, Obj.data_mapFields hd _, by simp [sz], st1.fresh, neT, (k5 _ neT).trans (Heap.get?_push_size h1 nfT), dT, ?_⟩ ?_)
  · obtain ⟨c, d, dt, sl⟩ := oe
    cases dt <;> exact hdn
  · simp
  · refine Heap.UpToSlots.trans (fun b o q nf => ?_) k3
    obtain ⟨sl, z⟩ := so.2.2 b o q
    exact ⟨sl, kp _ _ z⟩
theorem note_new {oe : Obj} {vs : Array Value} (hfr : A.frames = some (env :: outer)) (hf : env.frame = some L) (st : B.StaysIn s.heap) (hl : s.heap.FunFrames B (env :: outer)) (new : B.get? e = none)
    (he : s.heap.get? e = some oe) (hd : oe.data = .fields vs) (hdn : oe.dict = none) (h1 : vs[1]? = some .none)
    (k : ∀ h', FlyD B (env :: outer) e oe.cls (rawInt L) h' → s.heap.UpToSlots h' → Q () { s with heap := h' }) : wpAny M A (noteFrame (.ref e) env) Q E s := by
  unfold noteFrame
  simp only [hf]
  refine wpAny_bind (wpAny_field he hd h1 ?_)
  rw [if_neg (by decide)]
  exact fly_entry hfr hf st hl new he hd hdn (Array.getElem?_eq_some_iff.mp h1).1 k
theorem note_on (hfr : A.frames = some (env :: outer)) (hf : env.frame = some L) (F : FlyD B (env :: outer) e cls .none s.heap)
    (k : ∀ h', FlyD B (env :: outer) e cls (rawInt L) h' → s.heap.UpToSlots h' → Q () { s with heap := h' }) : wpAny M A (noteFrame (.ref e) env) Q E s := by
  obtain ⟨oe, vs, T, oT, ts, he, hc, hdn, hd, h1, hnT, hTe, hT, hdT, h3⟩ := F.ex
  subst hc
  obtain ⟨k1, k2, k3, k4, k5⟩ := step_rec (g := (·.setIfInBounds 3 Value.none)) F.st F.fr hnT hT hdT
  unfold noteFrame
  simp only [hf]
  refine wpAny_bind (wpAny_field he hd h1 ?_)
  rw [if_pos (by simp : (Value.ref T != Value.none) = true)]
  refine wpAny_bind (wpAny_field hT hdT h3 ?_)
  rw [if_neg (by simp [rawInt] : ¬ ((Value.none == rawInt L) = true))]
  refine wpAny_bind (wpAny_setField hT hdT (Array.getElem?_eq_some_iff.mp h3).1 ?_)
  exact fly_entry hfr hf k1 k2 F.new ((k5 e (Ne.symm hTe)).trans he) hd hdn (Array.getElem?_eq_some_iff.mp h1).1 fun h' F' up => k h' F' (k3.trans up)
theorem FlyD.less {fl : Value} {h : Heap} (F : FlyD B (env :: outer) e cls fl h) : FlyD B outer e cls fl h := ⟨F.st, F.new, F.fr.2.2, F.ex⟩
theorem lv_new {oe : Obj} {vs : Array Value} (hfr : A.frames = some (env :: outer)) (hf : env.frame = some L) (st : B.StaysIn s.heap) (hl : s.heap.FunFrames B (env :: outer)) (new : B.get? e = none)
    (he : s.heap.get? e = some oe) (hd : oe.data = .fields vs) (hdn : oe.dict = none) (h1 : vs[1]? = some .none)
    (k : ∀ h', FlyD B outer e oe.cls .none h' → s.heap.UpToSlots h' → Q () { s with heap := h' }) : wpAny M A (leaving env (.ref e)) Q E s := by
  unfold leaving
  exact wpAny_bind (note_new hfr hf st hl new he hd hdn h1 fun h' F up => fly_land (s := { s with heap := h' }) F fun h2 F2 up2 => k h2 F2.less (up.trans up2))
theorem lv_on (hfr : A.frames = some (env :: outer)) (hf : env.frame = some L) (F : FlyD B (env :: outer) e cls .none s.heap)
    (k : ∀ h', FlyD B outer e cls .none h' → s.heap.UpToSlots h' → Q () { s with heap := h' }) : wpAny M A (leaving env (.ref e)) Q E s := by
  unfold leaving
  exact wpAny_bind (note_on hfr hf F fun h' F up => fly_land (s := { s with heap := h' }) F fun h2 F2 up2 => k h2 F2.less (up.trans up2))
end
structure Flies (P : Program) (w : World) (l : List Env) (H : Hp) (s : Shared) (cls : Value) (e : Addr) (H' : Hp) (s' : Shared) : Prop where
  os : s'.os = s.os
  bare : AllBare s'.gens
  un : Un (frs l) [] H H' s.heap s'.heap
  hok : HOk P w H' s'.heap
  fly : ∃ B, FlyD B l e cls .none s'.heap ∧ ∀ b o, s'.heap.get? b = some o → b ∉ frs l → (H' b ≠ none ∨ ∃ o', s.heap.get? b = some o') → B.get? b = some o
noncomputable def CX1 (P : Program) (w : World) : CXT := fun outer H s E e s' => ∃ ea cls H', e = .ref ea ∧ Flies P w outer H s cls ea H' s' ∧ E cls none H'
theorem ObjOk.there {P : Program} {w : World} {H : Hp} {h : Heap} {a : Addr} {o : HO} (x : ObjOk P w H h a o) : ∃ u, h.get? a = some u := by
  cases o with
  | lst xs => obtain ⟨_, _, _, _, e⟩ := x; exact ⟨_, e⟩
  | tup xs => obtain ⟨_, _, _, ob, e, _⟩ := x; exact ⟨_, e⟩
  | dK kvs => obtain ⟨_, _, _, _, o, _, _, e, _⟩ := x; exact ⟨_, e⟩
  | dT kvs => obtain ⟨_, _, _, _, o, _, _, e, _⟩ := x; exact ⟨_, e⟩
  | set S n => obtain ⟨o, _, _, _, e, _⟩ := x; exact ⟨_, e⟩
  | ins C dx fs => obtain ⟨_, _, _, e, _⟩ := x; exact ⟨_, e⟩
  | own y => exact x
  | xd fs => obtain ⟨_, ⟨_, _, _, e, _⟩, _⟩ := x; exact ⟨_, e⟩
  | rng lo hi => obtain ⟨_, _, _, e⟩ := x; exact ⟨_, e⟩
  | frz ob u => obtain ⟨e, _⟩ := x; exact ⟨_, e⟩
  | tbl ps => exact ⟨_, (show h.get? a = some _ from x)⟩
  | met f y => exact ⟨_, (show h.get? a = some _ from x)⟩
  | ext φ => obtain ⟨_, ⟨_, e⟩, _⟩ := x; exact ⟨_, e⟩
section
variable {X : Cx} {pins : List (Addr × Obj)} {σ : St} {H H' : Hp} {s : Shared}
theorem flies_out {hm : Heap} {s2 : Shared} {B : Heap} {e : Addr} {cls : Value} (I : Inv X pins σ H s) (hstk : X.stack = X.env :: X.outer) (hfr : X.env.frame = some X.env.locals) (hex : X.ex = []) (os : s2.os = s.os) (bare : AllBare s2.gens) (U : Un (frs X.stack) [] H H' s.heap hm)
    (hok : HOk X.prog X.w H' hm) (cond : ∀ b o, hm.get? b = some o → b ∉ frs X.stack → (H' b ≠ none ∨ ∃ o', s.heap.get? b = some o') → B.get? b = some o)
    (fl : FlyD B X.outer e cls .none s2.heap) (up : hm.UpToSlots s2.heap) : Flies X.prog X.w X.outer X.H₀ X.s₀ cls e H' s2 := by
  have fsub : ∀ b, b ∉ X.fs → b ≠ X.env.locals → b ∉ frs X.stack := fun b h1 h2 z => (List.mem_cons.mp (I.stkSub b z)).elim h2 h1
  have fin : ∀ b ∈ X.fs, b ∈ frs X.stack := fun b hb => by
    rw [hstk]
    show b ∈ (X.env :: X.outer).filterMap (·.frame)
    rw [List.filterMap_cons, hfr]
    exact List.mem_cons_of_mem _ hb
  have neL : ∀ b o, X.s₀.heap.get? b = some o → b ≠ X.env.locals := fun b o e z => by
    have q := I.ok.above
    rw [← z] at q
    exact absurd (Nat.lt_of_lt_of_le (Heap.lt_size e) q) (Nat.lt_irrefl _)
  have fr_data : ∀ b ∈ frs X.stack, ∀ o, hm.get? b = some o → ∀ vs, o.data ≠ .fields vs := fun b hb o eo vs q => by
    obtain ⟨_, o1, e1, d1⟩ := I.stack.mem hb
    obtain ⟨sl, e2⟩ := U.slot b o1 e1 (I.stkFree b hb) hb (by simp)
    rw [eo] at e2
    cases e2
    exact d1 vs q
  have free_fr : ∀ b ∈ frs X.stack, H' b = none := fun b hb => by
    obtain ⟨_, o1, e1, d1⟩ := I.stack.mem hb
    exact U.free b o1 e1 (I.stkFree b hb) (by simp)
  have at_b : ∀ b o o0, s.heap.get? b = some o0 → hm.get? b = some o → b ∉ frs X.stack → s2.heap.get? b = some o := fun b o o0 e0 e1 nb => fl.st b o (cond b o e1 nb (.inr ⟨o0, e0⟩))
  have base := I.base
  rw [hex] at base
  have nx : ∀ b : Addr, b ∉ ([] : List Addr) := fun b => by simp
  have tracked : ∀ b u, H' b ≠ none → hm.get? b = some u → s2.heap.get? b = some u := fun b u hb e => fl.st b u (cond b u e (fun z => hb (free_fr b z)) (.inl hb))
  refine ⟨os.trans I.os, bare, ⟨fun b o e n hf _ => ?_, fun b o e n hf _ => ?_, fun b o e n _ => ?_, fun b o e _ => ?_, fun b xs e => U.tups b xs (base.tups b xs e), fun b o u e => U.frzs b o u (base.frzs b o u e), fun b ps e => ?_⟩, fun a o e => ?_, B, fl, fun b o e nf h => ?_⟩
  · have e1 := base.keep b o e n hf (nx b)
    have nb := fsub b hf (neL b o e)
    exact at_b b o o e1 (U.keep b o e1 (base.free b o e n (nx b)) nb (nx b)) nb
  · obtain ⟨sl1, e1⟩ := base.slot b o e n hf (nx b)
    obtain ⟨sl2, e2⟩ := U.slot b _ e1 (base.free b o e n (nx b)) (fin b hf) (nx b)
    obtain ⟨sl3, e3⟩ := up b _ e2 (fr_data b (fin b hf) _ e2)
    exact ⟨sl3, e3⟩
  · obtain ⟨o1, e1⟩ := base.there b o e (nx b)
    exact U.free b o1 e1 (base.free b o e n (nx b)) (nx b)
  · obtain ⟨o1, e1⟩ := base.there b o e (nx b)
    obtain ⟨o2, e2⟩ := U.there b o1 e1 (nx b)
    by_cases hb : b ∈ frs X.stack
    · obtain ⟨sl3, e3⟩ := up b _ e2 (fr_data b hb _ e2)
      exact ⟨_, e3⟩
    · exact ⟨_, at_b b o2 o1 e1 e2 hb⟩
  · obtain ⟨m1, e1⟩ := base.tbls b ps e
    obtain ⟨m2, e2⟩ := U.tbls b _ e1
    exact ⟨m1 ++ m2, by rw [e2, Array.append_assoc]⟩
  · refine (hok a o e).stay (fun b u hb q => tracked b u ?_ q) (fun _ q => q) fun _ _ q => q
    rcases hb with rfl | hb
    · rw [e]; exact fun z => nomatch z
    · rw [hb]; exact fun z => nomatch z
  · rcases h with h | ⟨o0, e0⟩
    · cases q : H' b with
      | none => exact absurd q h
      | some u =>
        obtain ⟨o1, e1⟩ := (hok b u q).there
        have e2 := tracked b o1 h e1
        rw [e] at e2
        cases e2
        exact cond b o e1 (fun z => h (free_fr b z)) (.inl h)
    · have nb := fsub b nf (neL b o0 e0)
      obtain ⟨o1, e1⟩ := base.there b o0 e0 (nx b)
      obtain ⟨o2, e2⟩ := U.there b o1 e1 (nx b)
      have e3 := at_b b o2 o1 e1 e2 nb
      rw [e] at e3
      cases e3
      exact cond b o e2 nb (.inr ⟨o1, e1⟩)
end
section
variable {P : Program} {w : World} {K : PySem.W.Frag} {mg : Str → Option Value} {base : Heap} {N : List Str} {qual : Str} {scope : Scope} {f : Addr} {cd : Value} {A : Around} {outer : List Env} {s₀ : Shared} {H₀ : Hp} {E : XK}
noncomputable abbrev cxX (P : Program) (w : World) (K : PySem.W.Frag) (mg : Str → Option Value) (base : Heap) (N : List Str) (qual : Str) (scope : Scope) (f : Addr) (cd : Value) (A : Around) (outer : List Env) (s₀ : Shared) (H₀ : Hp) (E : XK) : Cx := cxOf (CX1 P w) P w K mg base N qual scope f cd A outer s₀ H₀ E
theorem passX : Passes (CX1 P w) (cxX P w K mg base N qual scope f cd A outer s₀ H₀ E) E := by
  intro pins σ H s e s' I h
  obtain ⟨ea, cls, H', rfl, F, hE⟩ := h
  obtain ⟨B, fl, cond⟩ := F.fly
  show wpAny (model P w) _ (leaving _ (.ref ea)) _ _ s'
  refine lv_on (L := s₀.heap.objs.size) I.ok.frames rfl fl fun h' fl' up => ?_
  exact ⟨ea, cls, H', rfl, flies_out (s2 := { s' with heap := h' }) I rfl rfl rfl F.os F.bare F.un F.hok cond fl' up, hE⟩
noncomputable def NewX (X : Cx) (E : XK) : Prop := ∀ (pins : List (Addr × Obj)) (σ : St) (H : Hp) (s : Shared) (h' : Heap) (e : Addr) (cls : Value) (vs : List Value), Inv X pins σ H s → Heap.MadeExcOf s.heap h' e cls vs → E cls none H → X.xe (.ref e) { s with heap := h' }
theorem newX : NewX (cxX P w K mg base N qual scope f cd A outer s₀ H₀ E) E := by
  intro pins σ H s h' e cls vs I hx hE
  show wpAny (model P w) _ (leaving _ (.ref e)) _ _ _
  have hin : ∀ env ∈ (cxX P w K mg base N qual scope f cd A outer s₀ H₀ E).stack, ∀ a, env.frame = some a → a ∈ frs (cxX P w K mg base N qual scope f cd A outer s₀ H₀ E).stack := fun env he a hb => List.mem_filterMap.mpr ⟨env, he, hb⟩
  obtain ⟨t, he, _, _⟩ := hx.there
  refine lv_new (L := s₀.heap.objs.size) (B := PySem.W.hideAll s.heap (frs (cxX P w K mg base N qual scope f cd A outer s₀ H₀ E).stack)) I.ok.frames rfl (fun b o q => hx.keeps b o (PySem.W.of_hideAll _ q)) ((PySem.W.funFrames_hide I.stack hin).of_keeps fun b o q _ => ⟨o, hx.keeps b o q, rfl⟩) ?_ he rfl rfl rfl fun h2 fl up => ?_
  · cases q : (PySem.W.hideAll s.heap (frs (cxX P w K mg base N qual scope f cd A outer s₀ H₀ E).stack)).get? e with
    | none => rfl
    | some o =>
      have z := PySem.W.of_hideAll _ q
      rw [hx.new] at z
      cases z
  refine ⟨e, cls, H, rfl, flies_out (s2 := { s with heap := h2 }) (hm := s.heap) I rfl rfl rfl rfl I.bare Un.refl I.hok (fun b o e1 nb _ => PySem.W.hideAll_get _ e1 nb) fl ((Heap.UpToSlots.of_keeps hx.keeps).trans up), hE⟩
end
noncomputable def ExcHere (h : Heap) (C : Addr) (bmB : List Value) (newId : String) : Prop :=
  ∃ bm N nm q bs hdct sn sub ab col dd k0 k1 k2 k3 k5 mN, h.get? C = some (excClassObj nm q C N bs bm hdct sn sub ab col dd k0 k1 k2 k3 k5 newId) ∧ h.Ns N mN ∧ mN "__init__" = none ∧ OwnTail h bmB bm
theorem exc_here {K : PySem.W.Frag} {h : Heap} {C : Addr} {bmB : List Value} {newId : String} (kin : K.In h) (q : PySem.W.excIn K C bmB newId = true) : ExcHere h C bmB newId := by
  rw [PySem.W.excIn] at q
  split at q
  case h_2 => cases q
  case h_1 dd cd sl eC =>
    split at q
    case h_2 => cases q
    case h_1 C1 bm k0 k1 k2 k3 n k5 hm hs =>
      obtain ⟨sl⟩ := sl
      obtain ⟨nm, bs, mro, ns, qn, hd, sn, sub, ab, col, del⟩ := cd
      simp only [Bool.and_eq_true, beq_iff_eq, Bool.not_eq_true'] at q hm hs
      obtain ⟨⟨⟨⟨⟨q1, q2⟩, q3⟩, q4⟩, q5⟩, q6⟩ := q
      subst hm hs q1 q2 q3
      exact ⟨bm, ns, nm, qn, bs, hd, sn, sub, ab, col, dd, k0, k1, k2, k3, k5, h.nsMap ns, kin _ _ eC, Heap.Ns.of_isNs (PySem.W.isNs_of_in kin q5), PySem.W.nsMap_none_of_in kin q5 q6, PySem.W.tail_of_in kin q4⟩
section
variable {X : Cx} {x : Str} {C : Addr} {bmB : List Value} {B newId initId : String} {np cpos pos : Pos} {e : Expr} {es : List Expr} {t : TA} {E : XK}
noncomputable def tRaise (C : Addr) (E : XK) (t : TA) : TS := fun _ σ H => t σ H fun vs H1 => vs.length ≤ sizeLine ∧ E (.ref C) none H1
theorem ps_raise (new : NewX X E) (hc : X.calm = true) (hg : Gl X x) (hm : X.mg x = some (.ref C)) (q : PySem.W.excIn X.K C bmB newId = true) (FB : ExcBaseFacts B newId initId bmB) (ha : PA X (e :: es) t)
    (he : starEach (e :: es) X.env = (false, eval e X.env) :: starEach es X.env := by rfl) (hpl : (backTo cpos (starEach es X.env)).any (·.1) = false := by rfl) (hd : (x == ("__debug__" : Str)) = false := by decide) :
    PS X (.Raise (some (.Call (.Name x np) (e :: es) [] cpos)) none pos) (tRaise C E t) := by
  intro pins s σ H D I h
  obtain ⟨bm, N, nm, qn, bs, hdct, sn, sub, ab, col, dd, k0, k1, k2, k3, k5, mN, hC, hN, hni, T⟩ := exc_here I.ok.mod.kin q
  refine wpAny_Raise_call_subT (C := C) (nm := nm) (q := qn) (N := N) (bs := bs) (bm := bm) (hdct := hdct) (sn := sn) (sub := sub) (ab := ab) (col := col) (dd := dd) (k0 := k0) (k1 := k1) (k2 := k2) (k3 := k3) (k5 := k5)
    FB (mN := mN) (T.hasType FB.hasBase) (I.ok.hd hc) (by rw [he]; show (false || (backTo cpos (starEach es X.env)).any (·.1)) = false; rw [hpl]; rfl) hni (ld_glob I hg hm ⟨rfl, ?_⟩ hd)
  have ha' := ha cpos pins s σ H _ I h
  rw [he] at ha' ⊢
  refine Calls.evalArgs_plain (thn ha' fun us s1 ⟨vs, H1, I1, r, hl, hE⟩ => ?_)
  exact ⟨rfl, by rw [← r.length]; exact hl, I1.bk _ _ hC, hN.keeps I1.bk, T.keeps I1.bk, fun h' ea hx => new pins σ H1 s1 h' ea (.ref C) us I1 hx hE⟩
end
noncomputable abbrev Cx.suite (X : Cx) (e : Addr) : Cx := { X with A := X.A.mark (some (.ref e)), calm := false, xe := fun _ _ => False }
noncomputable def excO (e : Addr) (cls : Value) : HO := .ext fun h => ∃ oe vs, h.get? e = some oe ∧ oe.cls = cls ∧ oe.dict = none ∧ oe.data = .fields vs
section
variable {X : Cx} {pins : List (Addr × Obj)} {σ : St} {H H' : Hp} {s s1 : Shared} {e : Addr} {cls fl : Value}
theorem Cx.Ok.suite (ok : X.Ok) (e : Addr) : (X.suite e).Ok :=
  ⟨ok.mod, ok.kind, ok.glob, ok.blt, ok.above, ok.inj, ok.has, ok.cab, (fun z => nomatch z), ok.frames, ok.stk, ok.exf, ok.bs, ok.bsz, ok.noex, ok.exfs, ok.funs, ok.frf⟩
theorem Inv.suite (I : Inv X pins σ H s) (e : Addr) : Inv (X.suite e) pins σ H s := ⟨I.ok.suite e, I.os, I.bare, I.base, I.loc, I.cell, I.free, I.freeC, I.pin, I.hok, I.len⟩
theorem Inv.unsuite (ok : X.Ok) (I : Inv (X.suite e) pins σ H s) : Inv X pins σ H s := ⟨ok, I.os, I.bare, I.base, I.loc, I.cell, I.free, I.freeC, I.pin, I.hok, I.len⟩
theorem Flies.fresh {l : List Env} {P : Program} {w : World} (F : Flies P w l H s cls e H' s1) : s.heap.get? e = none ∧ H' e = none := by
  obtain ⟨B, fl, cond⟩ := F.fly
  obtain ⟨oe, vs, T, oT, ts, he, hc, hdn, hd, _⟩ := fl.ex
  have nf := fr_ne fl.fr he hd
  have no : ¬ (H' e ≠ none ∨ ∃ o', s.heap.get? e = some o') := fun z => by
    have q := cond e oe he nf z
    rw [fl.new] at q
    cases q
  constructor
  · cases q : s.heap.get? e with
    | none => rfl
    | some o => exact absurd (.inr ⟨o, q⟩) no
  · cases q : H' e with
    | none => rfl
    | some o => exact absurd (.inl (by rw [q]; exact fun z => nomatch z)) no
theorem flies_in {h2 B : Heap} (I : Inv X pins σ H s) (F : Flies X.prog X.w X.stack H s cls e H' s1) (fl : FlyD B X.stack e cls fl h2) (cond : ∀ b o, s1.heap.get? b = some o → b ∉ frs X.stack → (H' b ≠ none ∨ ∃ o', s.heap.get? b = some o') → B.get? b = some o)
    (up : s1.heap.UpToSlots h2) : Inv X pins σ H' { s1 with heap := h2 } := by
  have free_fr : ∀ b ∈ frs X.stack, H' b = none := fun b hb => by
    obtain ⟨_, o1, e1, d1⟩ := I.stack.mem hb
    exact F.un.free b o1 e1 (I.stkFree b hb) (by simp)
  have fr_data : ∀ b ∈ frs X.stack, ∀ o, s1.heap.get? b = some o → ∀ vs, o.data ≠ .fields vs := fun b hb o eo vs q => by
    obtain ⟨_, o1, e1, d1⟩ := I.stack.mem hb
    obtain ⟨sl, e2⟩ := F.un.slot b o1 e1 (I.stkFree b hb) hb (by simp)
    rw [eo] at e2
    cases e2
    exact d1 vs q
  refine I.call' (s' := { s1 with heap := h2 }) (ch := []) F.os ⟨fun b o e n hf _ => ?_, fun b o e n hf _ => ?_, F.un.free, fun b o e _ => ?_, F.un.tups, F.un.frzs, F.un.tbls⟩ (fun a o q => ?_) F.bare (fun b hb => absurd hb (by simp))
  · exact fl.st b o (cond b o (F.un.keep b o e n hf (by simp)) hf (.inr ⟨o, e⟩))
  · obtain ⟨sl, e1⟩ := F.un.slot b o e n hf (by simp)
    obtain ⟨sl2, e2⟩ := up b _ e1 (fr_data b hf _ e1)
    exact ⟨sl2, e2⟩
  · obtain ⟨o1, e1⟩ := F.un.there b o e (by simp)
    by_cases hb : b ∈ frs X.stack
    · obtain ⟨sl2, e2⟩ := up b _ e1 (fr_data b hb _ e1)
      exact ⟨_, e2⟩
    · exact ⟨o1, fl.st b o1 (cond b o1 e1 hb (.inr ⟨o, e⟩))⟩
  · refine (F.hok a o q).stay (fun b u hb z => ?_) (fun _ q => q) fun _ _ q => q
    have nb : H' b ≠ none := by
      rcases hb with rfl | hb
      · rw [q]; exact fun z => nomatch z
      · rw [hb]; exact fun z => nomatch z
    exact fl.st b u (cond b u z (fun y => nb (free_fr b y)) (.inl nb))
theorem Inv.trackX (I : Inv X pins σ H s) (hex : X.ex = []) (n : H e = none) (n0 : X.s₀.heap.get? e = none) (np : ∀ p ∈ X.pn ++ pins, p.1 ≠ e) {oe : Obj} {vs : Array Value} (he : s.heap.get? e = some oe) (hc : oe.cls = cls) (hdn : oe.dict = none) (hd : oe.data = .fields vs) :
    Inv X pins σ (upd H e (excO e cls)) s := by
  have neq : ∀ b o, H b = some o → b ≠ e := fun b o q z => by rw [z, n] at q; cases q
  have nL : X.env.locals ≠ e := fun z => by
    obtain ⟨m, ⟨o, es, ep, ho, hdd, _⟩, _⟩ := I.loc
    rw [z, he] at ho
    cases ho
    rw [hd] at hdd
    cases hdd
  have nC : ∀ x c, X.env.cells.lookup x = some c → c ≠ e := fun x c q z => by
    obtain ⟨v, o, ho, hdd⟩ := I.cell x c q
    rw [z, he] at ho
    cases ho
    rw [hd] at hdd
    cases hdd
  refine ⟨I.ok, I.os, I.bare, ⟨I.base.keep, I.base.slot, fun b o q m hx => ?_, I.base.there, fun b xs q => ?_, fun b o u q => ?_, fun b ps q => ?_⟩, I.loc, I.cell, by rw [upd_ne nL]; exact I.free, fun x c q => by rw [upd_ne (nC x c q)]; exact I.freeC x c q, fun p hp => ?_, fun b u q => ?_, I.len⟩
  · have nb : b ≠ e := fun z => by rw [z, n0] at q; cases q
    rw [upd_ne nb]
    exact I.base.free b o q m hx
  · have z := I.base.tups b xs q
    rw [upd_ne (neq _ _ z)]
    exact z
  · have z := I.base.frzs b o u q
    rw [upd_ne (neq _ _ z)]
    exact z
  · obtain ⟨m, z⟩ := I.base.tbls b ps q
    exact ⟨m, by rw [upd_ne (neq _ _ z)]; exact z⟩
  · obtain ⟨a1, a2, a3⟩ := I.pin p hp
    exact ⟨a1, by rw [upd_ne (np p hp)]; exact a2, a3⟩
  · by_cases hb : b = e
    · subst hb
      rw [upd_same] at q
      cases q
      refine ⟨⟨oe, vs, he, hc, hdn, hd⟩, ⟨oe, he⟩, fun h1 h2 ⟨o1, w1, a1, a2, a3, a4⟩ k => ⟨o1, w1, k _ a1, a2, a3, a4⟩⟩
    · rw [upd_ne hb] at q
      refine (I.hok b u q).stay (fun _ _ _ z => z) (fun c z => ?_) fun c xs z => ?_
      · rw [upd_ne (neq _ _ z)]; exact z
      · rw [upd_ne (neq _ _ z)]; exact z
theorem name_gone {M : Model} {A : Around} {E : Value → Shared → Prop} {i : Nat} {n : Str} {pos : Pos} {Q : Unit → Shared → Prop} (I : Inv X pins σ H s) (hN : X.N.Nodup) (hi : X.N[i]? = some n) (hk : X.env.kindOf n = some .local)
    (k : ∀ s', Inv X pins (σ.set i none) H s' → Q () s') : wpAny M A (do bindName X.env n .none; unbindBehindTheSuite X.env n pos) Q E s := by
  obtain ⟨m, hn, hl⟩ := id I.loc
  have hcls : (X.env.scope.kind == .class || (X.env.scope.kind == .module && X.env.locals != X.env.globals)) = false := by rw [I.ok.kind]; rfl
  refine wpAny_nameGoes_keeps hk hn hcls fun h2 v hn2 sb => ?_
  obtain ⟨oL, _, _, hoL, dL, _⟩ := id hn
  have oth : ∀ b, b ≠ X.env.locals → h2.get? b = s.heap.get? b := sb.2
  have old : ∀ b o, X.s₀.heap.get? b = some o → b ≠ X.env.locals := fun b o q z => by
    have w := I.ok.above
    rw [← z] at w
    exact absurd (Nat.lt_of_lt_of_le (Heap.lt_size q) w) (Nat.lt_irrefl _)
  have nC : ∀ x c, X.env.cells.lookup x = some c → c ≠ X.env.locals := fun x c q z => by
    obtain ⟨v, o, ho, hdd⟩ := I.cell x c q
    rw [z, hoL] at ho
    cases ho
    rw [dL] at hdd
    cases hdd
  have nT : ∀ b o, H b = some o → b ≠ X.env.locals := fun b o q z => by rw [z, I.free] at q; cases q
  refine k _ ⟨I.ok, I.os, I.bare, ⟨fun b o q m hb hx => (oth b (old b o q)).trans (I.base.keep b o q m hb hx), fun b o q m hb hx => ?_, I.base.free, fun b o q hx => ?_, I.base.tups, I.base.frzs, I.base.tbls⟩, ⟨_, hn2, fun j y v' e1 e2 e3 => ?_⟩, fun x c q => ?_, I.free, I.freeC, fun p hp => ?_, fun b u q => ?_, by rw [List.length_set]; exact I.len⟩
  · obtain ⟨sl, z⟩ := I.base.slot b o q m hb hx
    exact ⟨sl, (oth b (old b o q)).trans z⟩
  · obtain ⟨o', z⟩ := I.base.there b o q hx
    exact ⟨o', (oth b (old b o q)).trans z⟩
  · by_cases hj : j = i
    · subst hj
      have hl := I.len
      have hlt : j < σ.length := by rw [hl]; exact (List.getElem?_eq_some_iff.mp e1).1
      rw [List.getElem?_set_self hlt] at e2
      cases e2
    · rw [List.getElem?_set_ne (Ne.symm hj)] at e2
      obtain ⟨u, r, z⟩ := hl j y v' e1 e2 e3
      refine ⟨u, r, ?_⟩
      have ny : y ≠ n := fun z => hj (nodup_ix hN e1 (z ▸ hi))
      rcases z with ⟨z1, z2⟩ | ⟨z1, c, z2, z3⟩
      · exact .inl ⟨z1, (if_neg ny).trans z2⟩
      · obtain ⟨o, ho, hdd⟩ := z3
        exact .inr ⟨z1, c, z2, o, (oth c (nC y c z2)).trans ho, hdd⟩
  · obtain ⟨v, o, ho, hdd⟩ := I.cell x c q
    exact ⟨v, o, (oth c (nC x c q)).trans ho, hdd⟩
  · obtain ⟨a1, a2, a3, a4⟩ := I.pin p hp
    exact ⟨(oth p.1 a3).trans a1, a2, a3, a4⟩
  · refine (I.hok b u q).stay (fun c w hc z => (oth c ?_).trans z) (fun _ z => z) fun _ _ z => z
    rcases hc with rfl | hc
    · exact nT c u q
    · exact nT c _ hc
end
noncomputable def Ends.less (D : Ends) (i : Nat) : Ends := { nx := fun σ H => D.nx (σ.set i none) H, rt := D.rt, bk := fun σ H => D.bk (σ.set i none) H, ct := fun σ H => D.ct (σ.set i none) H }
section
variable {X : Cx} {pins : List (Addr × Obj)} {σ : St} {H H' : Hp} {s s1 : Shared} {e : Addr} {cls c : Value} {i : Nat} {x n : Str} {np pos hpos : Pos} {b₀ : Stmt} {suite : List Stmt} {ts : TS} {D : Ends}
theorem looks_exc {M : Model} {h : Heap} {oe : Obj} (he : h.get? e = some oe) (hc : oe.cls = cls) : PySem.W.Looks M h (typeOf (.ref e)) cls := hc ▸ (PySem.W.Looks.ld he).andThen .now
theorem handle_as (I : Inv X pins σ H s) (hstk : X.stack = X.env :: X.outer) (hfr : X.env.frame = some X.env.locals) (hex : X.ex = []) (hN : X.N.Nodup) (hi : X.N[i]? = some n) (hlo : X.env.scope.names.lookup n = some .local) (hg : Gl X x) (hm : X.mg x = some c)
    (hd : (x == ("__debug__" : Str)) = false) (F : Flies X.prog X.w X.stack H s cls e H' s1) (hx : PySem.W.exmOne X.K cls c = some true) (hs : PSs (X.suite e) (b₀ :: suite) ts) (h : ts (D.less i) (σ.set i (some (.ref e))) (upd H' e (excO e cls))) :
    wpAny (model X.prog X.w) X.A (noteFrame (.ref e) X.env) (fun _ s2 => wpAny (model X.prog X.w) X.A (setFlight (.ref e) none) (fun _ s3 =>
      wpAny (model X.prog X.w) X.A (handleBy (.ref e) X.env [.ExceptHandler (some (.Name x np)) (some n) (b₀ :: suite) hpos]) (SP X pins D) X.xe s3) X.xe s2) X.xe s1 := by
  obtain ⟨B, fl, cond⟩ := F.fly
  obtain ⟨n0, nH⟩ := F.fresh
  have hfs : X.A.frames = some (X.env :: X.outer) := by rw [← hstk]; exact I.ok.frames
  rw [hstk] at fl
  refine note_on hfs hfr fl fun h4 fl4 up4 => ?_
  refine fly_land (s := { s1 with heap := h4 }) fl4 fun h5 fl5 up5 => ?_
  have fl5' := fl5
  rw [← hstk] at fl5'
  have I5 := (flies_in I F fl5' cond (up4.trans up5)).suite e
  refine wpAny_handleBy_cons (codeAny_handlers_test (ld_glob I5 hg hm ?_ hd)) (fun q => nomatch q)
  obtain ⟨oe, vs, T, oT, ts', he, hc, _⟩ := fl5.ex
  refine (PySem.W.exm_one I5.kIn (looks_exc he hc) hx).here ?_
  show codeAny _ _ _ _ _
  refine codeAny_handlers_suite_as ?_
  refine fly_land (s := { s1 with heap := h5 }) fl5 fun h6 fl6 up6 => ?_
  have fl6' := fl6
  rw [← hstk] at fl6'
  have I6 := flies_in I F fl6' cond ((up4.trans up5).trans up6)
  obtain ⟨oe6, vs6, _, _, _, he6, hc6, hdn6, hd6, _⟩ := fl6.ex
  have np0 : X.s₀.heap.get? e = none := by
    cases q : X.s₀.heap.get? e with
    | none => rfl
    | some o =>
      obtain ⟨o', z⟩ := I.base.there e o q (by rw [hex]; simp)
      rw [n0] at z
      cases z
  have I7 := I6.trackX hex nH np0 (fun p hp z => by
    have w := (I.pin p hp).1
    rw [z, n0] at w
    cases w) he6 hc6 hdn6 hd6
  refine store_ok I7 hN hi (.inl hlo) (show RelV (.ref e) (.ref e) from rfl) (fun s8 I8 => ?_) (.inr hlo)
  refine wpAny_mono (hs pins s8 _ _ _ (I8.suite e) h) (fun f s9 q => ?_) fun _ _ z => z.elim
  show wpAny _ _ _ _ _ _
  cases f with
  | next =>
    obtain ⟨σ9, H9, I9, d9⟩ := q
    exact name_gone (I9.unsuite I.ok) hN hi hlo fun s10 I10 => ⟨_, _, I10, d9⟩
  | brk =>
    obtain ⟨σ9, H9, I9, d9⟩ := q
    exact name_gone (I9.unsuite I.ok) hN hi hlo fun s10 I10 => ⟨_, _, I10, d9⟩
  | cont =>
    obtain ⟨σ9, H9, I9, d9⟩ := q
    exact name_gone (I9.unsuite I.ok) hN hi hlo fun s10 I10 => ⟨_, _, I10, d9⟩
  | ret u =>
    obtain ⟨v, σ9, H9, I9, r9, d9⟩ := q
    exact name_gone (I9.unsuite I.ok) hN hi hlo fun s10 I10 => ⟨v, _, _, I10, r9, d9⟩
end
noncomputable def PEat (X : Cx) (pins : List (Addr × Obj)) (σ : St) (e : Expr) (t : TE) : Prop := ∀ (s : Shared) (H : Hp) (Q : VK), Inv X pins σ H s → t σ H Q → wpAny (model X.prog X.w) X.A (eval e X.env) (EP X pins σ Q) X.xe s
noncomputable def PSat (X : Cx) (pins : List (Addr × Obj)) (σ : St) (st : Stmt) (t : TS) : Prop := ∀ (s : Shared) (H : Hp) (D : Ends), Inv X pins σ H s → t D σ H → wpAny (model X.prog X.w) X.A (exec st X.env) (SP X pins D) X.xe s
noncomputable def PSsAt (X : Cx) (pins : List (Addr × Obj)) (σ : St) (st : List Stmt) (t : TS) : Prop := ∀ (s : Shared) (H : Hp) (D : Ends), Inv X pins σ H s → t D σ H → wpAny (model X.prog X.w) X.A (execs st X.env) (SP X pins D) X.xe s
noncomputable def PassesAt (CX : CXT) (X : Cx) (pins : List (Addr × Obj)) (σ : St) (E : XK) : Prop := ∀ (H : Hp) (s : Shared) (e : Value) (s' : Shared), Inv X pins σ H s → CX X.stack H s E e s' → X.xe e s'
section
variable {X : Cx} {pins : List (Addr × Obj)} {σ : St} {CX : CXT} {k : Nat} {f : Addr} {fd : FuncData} {ps : List Str} {sp : Sp} {dvs : List V} {ds : List Value} {E : XK} {x : Str} {p pos cpos : Pos} {e c : Expr} {es : List Expr} {t : TA} {te : TE} {tc : TT} {st : Stmt} {a b : List Stmt} {ta tb u : TS}
theorem at_expr (he : PEat X pins σ e te) (hs : swapsWith e none pos.line X.env = pure false := by rfl) : PSat X pins σ (.Expr e pos) (tDrop te) := by
  intro s H D I h
  exact wpAny_Expr_any (thn (he s H _ I h) fun v s1 ⟨x, H1, I1, r1, q1⟩ => ⟨σ, H1, I1, q1⟩) I.quiet hs
theorem at_one (h1 : PSat X pins σ st ta) : PSsAt X pins σ [st] ta := by
  intro s H D I h
  refine wpAny_execs_cons (thn (h1 s H D I h) fun f s1 q => ?_)
  cases f with
  | next => exact wpAny_execs_nil q
  | ret v => exact q
  | brk => exact q
  | cont => exact q
end
section
variable {X : Cx} {c : Value} {i : Nat} {x n : Str} {np pos hpos : Pos} {body : List Stmt} {b₀ : Stmt} {suite : List Stmt} {ts : TS} {tb : XK → TS}
noncomputable def tTryAs (K : PySem.W.Frag) (c : Value) (i : Nat) (tb : XK → TS) (ts : TS) : TS := fun D σ H =>
  tb (fun cls _ H' => PySem.W.exmOne K cls c = some true ∧ ∀ e, H' e = none → ts (D.less i) (σ.set i (some (.ref e))) (upd H' e (excO e cls))) D σ H
theorem ps_try_as (hstk : X.stack = X.env :: X.outer) (hfr : X.env.frame = some X.env.locals) (hex : X.ex = []) (hN : X.N.Nodup) (hi : X.N[i]? = some n) (hlo : X.env.scope.names.lookup n = some .local) (hg : Gl X x) (hm : X.mg x = some c)
    (hb : ∀ xe pins σ E, PassesAt (CX1 X.prog X.w) (X.wish xe) pins σ E → PSsAt (X.wish xe) pins σ body (tb E)) (hs : ∀ e, PSs (X.suite e) (b₀ :: suite) ts) (hd : (x == ("__debug__" : Str)) = false := by decide) :
    PS X (.Try body [.ExceptHandler (some (.Name x np)) (some n) (b₀ :: suite) hpos] [] [] pos) (tTryAs X.K c i tb ts) := by
  intro pins s σ H D I h
  refine wpAny_Try_except ?_
  refine wpAny_mono (hb (fun e s1 => wpAny (model X.prog X.w) X.A (noteFrame e X.env) (fun _ s2 => wpAny (model X.prog X.w) X.A (setFlight e none) (fun _ s3 =>
      wpAny (model X.prog X.w) X.A (handleBy e X.env [.ExceptHandler (some (.Name x np)) (some n) (b₀ :: suite) hpos]) (SP X pins D) X.xe s3) X.xe s2) X.xe s1) pins σ _ (fun H1 s1 e s' I1 q => ?_) s H D (I.wish _) h) (fun f s1 q => ?_) fun _ _ z => z
  · obtain ⟨ea, cls, H', rfl, F, hx, hE⟩ := q
    exact handle_as I1.unwish hstk hfr hex hN hi hlo hg hm hd F hx (hs ea) (hE ea F.fresh.2)
  · have q := q.unwish
    cases f with
    | next => exact wpAny_execs_nil q
    | ret v => exact q
    | brk => exact q
    | cont => exact q
end
section
variable {P : Program} {w : World} {K : PySem.W.Frag} {mg : Str → Option Value} {base : Heap}
theorem Fun.okX {x qual : Str} {st : Stmt} {f : Addr} {fd : FuncData} {N ps : List Str} {k : Nat} {sp : Sp} (F : Fun K x qual st f fd) (S : FnScope N ps (defScope st)) (len : ∀ vs H Q E, sp vs H Q E → vs.length = ps.length)
    (hbody : ∀ (cdv : Value) (A : Around) (outer : List Env) (s : Shared) (H : Hp) (vs : List V) (Q : VK) (E : XK), Room k (A.deeper (envOfC qual (defScope st) s.heap.objs.size f cdv)) → sp vs H Q E →
      ∃ t, PSs (cxX P w K mg base N qual (defScope st) f cdv A outer s H E) (defBody st) t ∧ t { nx := fun _ H' => Q .non H', rt := Q } (start N vs) H) : FnOk P w K mg base (CX1 P w) (k + 1) f fd ps sp := by
  obtain ⟨oc, od, kV, doc, pm, an, cdv, ct, osl, rfl, lk, hcd⟩ := F.ex
  exact fn_of lk hcd S len fun A outer s H vs Q E hr hsp => hbody cdv A outer s H vs Q E hr hsp
end
section
variable {prog : Program} {w : World} {A : Around} {E : Value → Shared → Prop} {s : Shared} {K : PySem.W.Frag} {e C : Addr} {oe : Obj}
theorem exc_check {M : Model} {hp : Heap} {g : Array GenState} {d : Drawn} {t : Nat} {os : OsState} {nm : Value} {Q : Unit → Shared → Prop} (L4 : PySem.W.Looks M hp (isInstance (.ref e) (.type "BaseException")) true) (hq : Q () ⟨hp, g, d, t, os⟩) :
    wpAny M A (checkBuiltinCall "BaseException.__getattribute__" ⟨[.ref e, nm], []⟩) Q E ⟨hp, g, d, t, os⟩ := by
  have hk : builtinKind "BaseException.__getattribute__" = some .slot := by decide +kernel
  have hsp : splitId "BaseException.__getattribute__" = some ("BaseException", "__getattribute__") := by decide +kernel
  have ha := F.args_bexc_ga (.ref e) nm
  simp only [checkBuiltinCall, hk, hsp]
  refine wpAny_bind (L4.at ?_)
  simp only [Bool.not_true, Bool.false_eq_true, if_false]
  cases sg : Manifest.signature? "BaseException.__getattribute__" with
  | none => exact wpAny_pure hq
  | some z =>
    simp only [argsOk, sg] at ha
    show wpAny M A (Bind.checkArgs "BaseException.__getattribute__" z ⟨[.ref e, nm], []⟩) Q E _
    rw [ha]
    exact wpAny_pure hq
theorem exc_class {Q : Option Value → Shared → Prop} (kin : K.In s.heap) (I : PySem.W.InstAt s.heap e oe C none) (ga : PySem.W.findIn K (.ref C) "__getattribute__" = some (some (.builtin "BaseException.__getattribute__"))) (gt : PySem.W.findIn K (.ref C) "__getattr__" = some none)
    (bs : PySem.W.subIn K (.ref C) (.type "BaseException") = some true) (fo : PySem.W.findObj K C none "__class__" = some (.bind (.builtin "getset_descriptor.__get__") (.builtin "object.__class__"))) (hm : PySem.W.mroIn K C (.type "object") = some true)
    (h : Q (some (.ref C)) { s with toks := s.toks + 1 }) : wpAny (model prog w) A (getAttr? (.ref e) "__class__") Q E s := by
  obtain ⟨hp, g, d, t, os⟩ := s
  have L0 := I.type (M := model prog w)
  have L1 := PySem.W.looks_findIn (M := model prog w) kin ga
  have L2 := PySem.W.looks_findIn (M := model prog w) kin gt
  have L3 := PySem.W.looks_find (M := model prog w) kin I fo
  have L4 : PySem.W.Looks (model prog w) hp (isInstance (.ref e) (.type "BaseException")) true := L0.andThen (PySem.W.looks_subIn (M := model prog w) kin bs)
  have hk : builtinKind "BaseException.__getattribute__" = some .slot := by decide +kernel
  have hsp : splitId "BaseException.__getattribute__" = some ("BaseException", "__getattribute__") := by decide +kernel
  unfold getAttr? getAttrBy? getAttrBy
  refine wpAny_bind (wpAny_mkText (wpAny_bind (wpAny_attempt (wpAny_holding (wpAny_bind (L0.at (wpAny_bind (L1.at ?_))))))))
  show wpAny _ _ (getAttrByItsOwn _ _ _ _ _ _) _ _ _
  unfold getAttrByItsOwn hookBefore
  refine wpAny_bind (L2.at ?_)
  refine wpAny_bind (wpAny_attempt (wpAny_holding ?_))
  show wpAny _ _ (boundAndCalled _ _ _) _ _ _
  unfold boundAndCalled
  rw [F.attr_ValueError.ga.bind]
  refine wpAny_bind (wpAny_pure ?_)
  refine wpAny_call (codeAny_call_builtin F.attr_ValueError.ga.plain F.entry_bexc_ga ?_)
  refine exc_check L4 ?_
  unfold Builtin.«object.__getattribute__»
  repeat (any_goals (first | assumption | with_reducible refine L0.at ?_ | with_reducible refine L3.at ?_ | wp_step))
  refine PySem.W.class_get (s := ⟨hp, g, d, t + 1, os⟩) (ox := oe) (od := none) kin I hm ?_
  show wpAny _ _ (ret (Value.ref C)) _ _ _
  refine wpAny_pure ?_
  show wpAny _ _ (handedOut (Value.ref C)) _ _ _
  exact PySem.W.handed_on rfl (wpAny_pure h)
end
structure ExcK (K : PySem.W.Frag) (C : Addr) : Prop where
  cls : PySem.W.isClsIn K C = true
  ty : PySem.W.typeIn K (.ref C) = some (.type "type")
  sf : PySem.W.subIn K (.ref C) (.ref C) = some true
  ga : PySem.W.findIn K (.ref C) "__getattribute__" = some (some (.builtin "BaseException.__getattribute__"))
  gt : PySem.W.findIn K (.ref C) "__getattr__" = some none
  bs : PySem.W.subIn K (.ref C) (.type "BaseException") = some true
  ha : PySem.W.findIn K (.ref C) "__class__" = some (some (.builtin "object.__class__"))
  hn : PySem.W.specialIn K (.builtin "object.__class__") "__get__" = some (some (.builtin "getset_descriptor.__get__"))
  tk : PySem.W.takesIn K (.builtin "object.__class__") = some true
  hm : PySem.W.mroIn K C (.type "object") = some true
theorem find_exc {K : PySem.W.Frag} {C : Addr} (k : ExcK K C) : PySem.W.findObj K C none "__class__" = some (.bind (.builtin "getset_descriptor.__get__") (.builtin "object.__class__")) := by
  obtain ⟨cd, e⟩ := Option.isSome_iff_exists.mp (show (PySem.W.clsIn K C).isSome = true from k.cls)
  simp [PySem.W.findObj, e, k.ha, k.hn, k.tk]
theorem kitx_exc {K : PySem.W.Frag} {e C : Addr} (k : ExcK K C) : PySem.W.KitX K (.ref e) (.ref C) (fun h => ∃ oe, PySem.W.InstAt h e oe C none) where
  ty := fun _ _ _ ⟨_, I⟩ => I.type
  it := fun M h kin _ => by
    have q : PySem.W.kitCls K (.ref C) (.ref C) = some true := by
      unfold PySem.W.kitCls
      have z : ((PySem.W.clsIn K C).isSome && PySem.W.typeIn K (.ref C) == some (.type "type")) = true := by
        rw [k.ty, beq_self_eq_true, Bool.and_true]
        exact k.cls
      dsimp only
      rw [if_pos z]
      exact k.sf
    exact (PySem.W.kit_cls kin q).2.1
  ne := fun h tp dd its n sl kin htp => by
    refine Bool.eq_false_iff.mpr fun q => ?_
    have q : C = tp := Value.ref.inj (beq_iff_eq.mp q)
    subst q
    have z := k.cls
    unfold PySem.W.isClsIn PySem.W.clsIn at z
    split at z
    · rename_i lo
      have w := kin _ _ lo
      rw [htp] at w
      cases w
    · cases z
  ca := fun {prog w A E Q s} kin ⟨oe, I⟩ h => exc_class kin I k.ga k.gt k.bs (find_exc k) k.hm h
section
variable {X : Cx} {pins : List (Addr × Obj)} {σ : St} {H : Hp} {s : Shared} {A : Around} {E : Value → Shared → Prop} {Q : Value → Shared → Prop} {c : Value} {b : Bool} {a C : Addr}
theorem exc_inst (I : Inv X pins σ H s) (q : H a = some (excO a (.ref C))) : ∃ oe, PySem.W.InstAt s.heap a oe C none := by
  obtain ⟨⟨oe, vs, he, hc, hdn, hd⟩, _⟩ := (show ObjOk X.prog X.w H s.heap a (excO a (.ref C)) from I.hok a _ q)
  refine ⟨oe, he, hc, ?_, ?_⟩
  · unfold PySem.W.notCls
    rw [hd]
  · rw [hdn]
    exact True.intro
theorem isinst_exc (I : Inv X pins σ H s) (q : H a = some (excO a (.ref C))) (k : ExcK X.K C) (e : PySem.W.kitOne X.K (.ref C) c = some b) (h : ∀ tk, Q (.bool b) { s with toks := tk }) :
    wpAny (model X.prog X.w) A (call (.builtin "isinstance") [.ref a, c]) Q E s :=
  PySem.W.kia_one (kitx_exc k) I.kIn (exc_inst I q) e (fun z => nomatch z) h
theorem isinst_excT {tp : Addr} {dd : Option Addr} {its : List Value} {n : Nat} {sl : Array (Option Value)} (I : Inv X pins σ H s) (q : H a = some (excO a (.ref C))) (k : ExcK X.K C) (htp : s.heap.get? tp = some ⟨.type "tuple", dd, .seq its.toArray n, sl⟩)
    (e : PySem.W.kitAny X.K (.ref C) its = some b) (h : ∀ tk, Q (.bool b) { s with toks := tk }) : wpAny (model X.prog X.w) A (call (.builtin "isinstance") [.ref a, .ref tp]) Q E s :=
  PySem.W.kia_tup (kitx_exc k) I.kIn (exc_inst I q) htp e (fun z => nomatch z) h
end
inductive D where
  | non
  | bl (b : Bool)
  | int (i : Int)
  | str (x : Str)
  | lst (xs : List D)
  | tup (xs : List D)
  | obj (x : Str) (fs : List (Str × D))
  | dct (kvs : List (Key × D))
  | dit (kvs : List (List Key × D))
  | exc (x : Str)
  | fn (x : Str)
mutual
inductive Rp (K : PySem.W.Frag) (R : Hp) : V → D → Prop
  | non : Rp K R .non .non
  | bl (b : Bool) : Rp K R (.bl b) (.bl b)
  | int (i : Int) : Rp K R (.int i) (.int i)
  | str (x : Str) : Rp K R (.str x) (.str x)
  | lst {a : Addr} {xs : List V} {ds : List D} : SqL K R a xs → Rps K R xs ds → Rp K R (.ref a) (.lst ds)
  | tup {a : Addr} {xs : List V} {ds : List D} : R a = some (.tup xs) → Rps K R xs ds → Rp K R (.ref a) (.tup ds)
  | obj {a C dx : Addr} {x : Str} {fs : List (Str × V)} {gs : List (Str × D)} : PySem.W.nsIn K mainGlobals x = some (some (.ref C)) → R a = some (.ins C dx fs) → Rfs K R fs gs → Rp K R (.ref a) (.obj x gs)
  | dct {a : Addr} {kvs : List (Key × V)} {gs : List (Key × D)} : R a = some (.dK kvs) → Rkk K R kvs gs → Rp K R (.ref a) (.dct gs)
  | dit {a : Addr} {kvs : List (List Key × V)} {gs : List (List Key × D)} : R a = some (.dT kvs) → Rkt K R kvs gs → Rp K R (.ref a) (.dit gs)
  | exc {a C : Addr} {x : Str} : PySem.W.nsIn K mainGlobals x = some (some (.ref C)) → ExcK K C → R a = some (excO a (.ref C)) → Rp K R (.ref a) (.exc x)
  | fn {l : Addr} {x : Str} : PySem.W.nsIn K mainGlobals x = some (some (.ref l)) → Rp K R (.ref l) (.fn x)
inductive Rps (K : PySem.W.Frag) (R : Hp) : List V → List D → Prop
  | nil : Rps K R [] []
  | cons {x : V} {xs : List V} {d : D} {ds : List D} : Rp K R x d → Rps K R xs ds → Rps K R (x :: xs) (d :: ds)
inductive Rfs (K : PySem.W.Frag) (R : Hp) : List (Str × V) → List (Str × D) → Prop
  | nil : Rfs K R [] []
  | cons {f : Str} {x : V} {xs : List (Str × V)} {d : D} {ds : List (Str × D)} : Rp K R x d → Rfs K R xs ds → Rfs K R ((f, x) :: xs) ((f, d) :: ds)
inductive Rkk (K : PySem.W.Frag) (R : Hp) : List (Key × V) → List (Key × D) → Prop
  | nil : Rkk K R [] []
  | cons {f : Key} {x : V} {xs : List (Key × V)} {d : D} {ds : List (Key × D)} : Rp K R x d → Rkk K R xs ds → Rkk K R ((f, x) :: xs) ((f, d) :: ds)
inductive Rkt (K : PySem.W.Frag) (R : Hp) : List (List Key × V) → List (List Key × D) → Prop
  | nil : Rkt K R [] []
  | cons {f : List Key} {x : V} {xs : List (List Key × V)} {d : D} {ds : List (List Key × D)} : Rp K R x d → Rkt K R xs ds → Rkt K R ((f, x) :: xs) ((f, d) :: ds)
end
section
variable {K : PySem.W.Frag} {R : Hp}
theorem Rp.isI {x : V} {i : Int} (h : Rp K R x (.int i)) : x = .int i := by cases h; rfl
theorem Rp.isS {x : V} {i : Str} (h : Rp K R x (.str i)) : x = .str i := by cases h; rfl
theorem Rp.isB {x : V} {i : Bool} (h : Rp K R x (.bl i)) : x = .bl i := by cases h; rfl
theorem Rp.isN {x : V} (h : Rp K R x .non) : x = .non := by cases h; rfl
noncomputable def atomV : D → Option V
  | .int i => some (.int i)
  | .str i => some (.str i)
  | .bl i => some (.bl i)
  | .non => some .non
  | _ => none
theorem Rp.isA {x v : V} : {d : D} → Rp K R x d → atomV d = some v → x = v
  | .int _, h, e => h.isI.trans (Option.some.inj e)
  | .str _, h, e => h.isS.trans (Option.some.inj e)
  | .bl _, h, e => h.isB.trans (Option.some.inj e)
  | .non, h, e => h.isN.trans (Option.some.inj e)
theorem Rp.isL {x : V} {ds : List D} (h : Rp K R x (.lst ds)) : ∃ a xs, x = .ref a ∧ SqL K R a xs ∧ Rps K R xs ds := by
  cases h with
  | @lst a xs ds h r => exact ⟨a, xs, rfl, h, r⟩
theorem Rp.isT {x : V} {ds : List D} (h : Rp K R x (.tup ds)) : ∃ a xs, x = .ref a ∧ R a = some (.tup xs) ∧ Rps K R xs ds := by
  cases h with
  | @tup a xs ds h r => exact ⟨a, xs, rfl, h, r⟩
theorem Rps.isC {xs : List V} {d : D} {ds : List D} (h : Rps K R xs (d :: ds)) : ∃ x ys, xs = x :: ys ∧ Rp K R x d ∧ Rps K R ys ds := by
  cases h with
  | @cons x ys d ds h r => exact ⟨x, ys, rfl, h, r⟩
end
noncomputable abbrev Rho := List (Option D)
theorem Same.sqL {K : PySem.W.Frag} {H H' : Hp} {a : Addr} {xs : List V} (e : Same H H') (h : SqL K H a xs) : SqL K H' a xs := by
  rcases h with (h | ⟨o, h⟩) | h
  · exact .inl (.inl (e _ _ h))
  · exact .inl (.inr ⟨o, e _ _ h⟩)
  · exact .inr h
section
variable {K : PySem.W.Frag} {R R' : Hp}
theorem Rp.mono (s : Same R R') {v : V} {d : D} (h : Rp K R v d) : Rp K R' v d :=
  Rp.rec (motive_1 := fun v d _ => Rp K R' v d) (motive_2 := fun xs ds _ => Rps K R' xs ds) (motive_3 := fun xs ds _ => Rfs K R' xs ds) (motive_4 := fun xs ds _ => Rkk K R' xs ds) (motive_5 := fun xs ds _ => Rkt K R' xs ds)
    .non .bl .int .str (fun h _ r => .lst (s.sqL h) r) (fun h _ r => .tup (s _ _ h) r) (fun n h _ r => .obj n (s _ _ h) r) (fun h _ r => .dct (s _ _ h) r) (fun h _ r => .dit (s _ _ h) r) (fun n k h => .exc n k (s _ _ h)) (fun n => .fn n)
    .nil (fun _ _ h r => .cons h r) .nil (fun _ _ h r => .cons h r) .nil (fun _ _ h r => .cons h r) .nil (fun _ _ h r => .cons h r) h
theorem Rps.mono (s : Same R R') {xs : List V} {ds : List D} (h : Rps K R xs ds) : Rps K R' xs ds :=
  Rps.rec (motive_1 := fun v d _ => Rp K R' v d) (motive_2 := fun xs ds _ => Rps K R' xs ds) (motive_3 := fun xs ds _ => Rfs K R' xs ds) (motive_4 := fun xs ds _ => Rkk K R' xs ds) (motive_5 := fun xs ds _ => Rkt K R' xs ds)
    .non .bl .int .str (fun h _ r => .lst (s.sqL h) r) (fun h _ r => .tup (s _ _ h) r) (fun n h _ r => .obj n (s _ _ h) r) (fun h _ r => .dct (s _ _ h) r) (fun h _ r => .dit (s _ _ h) r) (fun n k h => .exc n k (s _ _ h)) (fun n => .fn n)
    .nil (fun _ _ h r => .cons h r) .nil (fun _ _ h r => .cons h r) .nil (fun _ _ h r => .cons h r) .nil (fun _ _ h r => .cons h r) h
theorem Rfs.mono (s : Same R R') {xs : List (Str × V)} {ds : List (Str × D)} (h : Rfs K R xs ds) : Rfs K R' xs ds :=
  Rfs.rec (motive_1 := fun v d _ => Rp K R' v d) (motive_2 := fun xs ds _ => Rps K R' xs ds) (motive_3 := fun xs ds _ => Rfs K R' xs ds) (motive_4 := fun xs ds _ => Rkk K R' xs ds) (motive_5 := fun xs ds _ => Rkt K R' xs ds)
    .non .bl .int .str (fun h _ r => .lst (s.sqL h) r) (fun h _ r => .tup (s _ _ h) r) (fun n h _ r => .obj n (s _ _ h) r) (fun h _ r => .dct (s _ _ h) r) (fun h _ r => .dit (s _ _ h) r) (fun n k h => .exc n k (s _ _ h)) (fun n => .fn n)
    .nil (fun _ _ h r => .cons h r) .nil (fun _ _ h r => .cons h r) .nil (fun _ _ h r => .cons h r) .nil (fun _ _ h r => .cons h r) h
theorem Rkk.mono (s : Same R R') {xs : List (Key × V)} {ds : List (Key × D)} (h : Rkk K R xs ds) : Rkk K R' xs ds :=
  Rkk.rec (motive_1 := fun v d _ => Rp K R' v d) (motive_2 := fun xs ds _ => Rps K R' xs ds) (motive_3 := fun xs ds _ => Rfs K R' xs ds) (motive_4 := fun xs ds _ => Rkk K R' xs ds) (motive_5 := fun xs ds _ => Rkt K R' xs ds)
    .non .bl .int .str (fun h _ r => .lst (s.sqL h) r) (fun h _ r => .tup (s _ _ h) r) (fun n h _ r => .obj n (s _ _ h) r) (fun h _ r => .dct (s _ _ h) r) (fun h _ r => .dit (s _ _ h) r) (fun n k h => .exc n k (s _ _ h)) (fun n => .fn n)
    .nil (fun _ _ h r => .cons h r) .nil (fun _ _ h r => .cons h r) .nil (fun _ _ h r => .cons h r) .nil (fun _ _ h r => .cons h r) h
theorem Rkt.mono (s : Same R R') {xs : List (List Key × V)} {ds : List (List Key × D)} (h : Rkt K R xs ds) : Rkt K R' xs ds :=
  Rkt.rec (motive_1 := fun v d _ => Rp K R' v d) (motive_2 := fun xs ds _ => Rps K R' xs ds) (motive_3 := fun xs ds _ => Rfs K R' xs ds) (motive_4 := fun xs ds _ => Rkk K R' xs ds) (motive_5 := fun xs ds _ => Rkt K R' xs ds)
    .non .bl .int .str (fun h _ r => .lst (s.sqL h) r) (fun h _ r => .tup (s _ _ h) r) (fun n h _ r => .obj n (s _ _ h) r) (fun h _ r => .dct (s _ _ h) r) (fun h _ r => .dit (s _ _ h) r) (fun n k h => .exc n k (s _ _ h)) (fun n => .fn n)
    .nil (fun _ _ h r => .cons h r) .nil (fun _ _ h r => .cons h r) .nil (fun _ _ h r => .cons h r) .nil (fun _ _ h r => .cons h r) h
theorem Rps.length : ∀ {xs : List V} {ds : List D}, Rps K R xs ds → xs.length = ds.length
  | _, _, .nil => rfl
  | _, _, .cons _ r => by rw [List.length_cons, List.length_cons, Rps.length r]
theorem Rps.get : ∀ {xs : List V} {ds : List D} {i : Nat} {d : D}, Rps K R xs ds → ds[i]? = some d → ∃ v, xs[i]? = some v ∧ Rp K R v d
  | _, _, _, _, .nil, e => by simp at e
  | _, _, 0, _, .cons h _, e => by simp at e; subst e; exact ⟨_, rfl, h⟩
  | _, _, i + 1, d, .cons _ r, e => by
    obtain ⟨v, h1, h2⟩ := Rps.get (i := i) (d := d) r (by simpa using e)
    exact ⟨v, by simpa using h1, h2⟩
theorem Rps.append : ∀ {xs ys : List V} {ds es : List D}, Rps K R xs ds → Rps K R ys es → Rps K R (xs ++ ys) (ds ++ es)
  | _, _, _, _, .nil, s => s
  | _, _, _, _, .cons r t, s => .cons r (Rps.append t s)
theorem Rps.take : ∀ {xs : List V} {ds : List D} (n : Nat), Rps K R xs ds → Rps K R (xs.take n) (ds.take n)
  | _, _, 0, _ => .nil
  | _, _, _ + 1, .nil => .nil
  | _, _, n + 1, .cons r t => .cons r (Rps.take n t)
theorem Rps.drop : ∀ {xs : List V} {ds : List D} (n : Nat), Rps K R xs ds → Rps K R (xs.drop n) (ds.drop n)
  | _, _, 0, r => r
  | _, _, _ + 1, .nil => .nil
  | _, _, n + 1, .cons _ t => Rps.drop n t
theorem Rps.set {x : V} {d : D} (r : Rp K R x d) : ∀ {xs : List V} {ds : List D} (i : Nat), Rps K R xs ds → Rps K R (xs.set i x) (ds.set i d)
  | _, _, _, .nil => .nil
  | _, _, 0, .cons _ t => .cons r t
  | _, _, i + 1, .cons q t => .cons q (Rps.set r i t)
theorem Rps.one {x : V} {d : D} (r : Rp K R x d) : Rps K R [x] [d] := .cons r .nil
theorem Rps.ints : ∀ ns : List Int, Rps K R (ns.map V.int) (ns.map D.int)
  | [] => .nil
  | n :: ns => .cons (.int n) (Rps.ints ns)
theorem Rps.snoc {xs : List V} {ds : List D} {x : V} {d : D} (h : Rps K R xs ds) (r : Rp K R x d) : Rps K R (xs ++ [x]) (ds ++ [d]) := h.append (.one r)
end
inductive Sc : V → D → Prop
  | non : Sc .non .non
  | bl (b : Bool) : Sc (.bl b) (.bl b)
  | int (i : Int) : Sc (.int i) (.int i)
  | str (x : Str) : Sc (.str x) (.str x)
theorem Sc.rp {K : PySem.W.Frag} {R : Hp} {v : V} {d : D} (h : Sc v d) : Rp K R v d := by
  cases h with
  | non => exact .non
  | bl b => exact .bl b
  | int i => exact .int i
  | str x => exact .str x
noncomputable def Frh (H : Hp) (a : Addr) : Prop := H a = none ∨ ∃ xs, H a = some (.tup xs)
noncomputable def Liv (H H' : Hp) (a : Addr) : Prop := H' a ≠ none ∧ ∀ xs, H' a = some (.tup xs) → H a = some (.tup xs)
theorem Liv.refl {H : Hp} {a : Addr} (h : H a ≠ none) : Liv H H a := ⟨h, fun _ e => e⟩
theorem Liv.trans {H H1 H2 : Hp} {a : Addr} (x : Liv H H1 a) (y : Liv H1 H2 a) : Liv H H2 a := ⟨y.1, fun xs e => x.2 xs (y.2 xs e)⟩
theorem Frh.back {H H1 : Hp} {a : Addr} (h : H a ≠ none → Liv H H1 a) (z : Frh H1 a) : Frh H a := by
  cases q : H a with
  | none => exact .inl q
  | some o =>
    have v := h (by rw [q]; exact fun z => nomatch z)
    rcases z with z | ⟨xs, z⟩
    · exact absurd z v.1
    · exact .inr ⟨xs, v.2 xs z⟩
structure Ext (H R H' R' : Hp) : Prop where
  h : Same H H'
  r : Same R R'
  s : ∀ a o, R' a = some o → H' a = some o
  n : ∀ a, R' a ≠ none → R a ≠ none ∨ Frh H a
theorem Ext.refl {H R : Hp} (s : ∀ a o, R a = some o → H a = some o) : Ext H R H R := ⟨Same.refl _, Same.refl _, s, fun _ h => .inl h⟩
theorem Same.some {H H' : Hp} (s : Same H H') {a : Addr} (h : H a ≠ none) : H' a ≠ none := by
  cases q : H a with
  | none => exact absurd q h
  | some o => rw [s a o q]; exact fun z => nomatch z
theorem Same.liv {H H' : Hp} (s : Same H H') {a : Addr} (h : H a ≠ none) : Liv H H' a := ⟨s.some h, fun xs e => by
  cases q : H a with
  | none => exact absurd q h
  | some o => rw [s a o q] at e; exact e⟩
theorem Ext.new {H R : Hp} {a : Addr} {o : HO} (s : ∀ a o, R a = some o → H a = some o) (h : H a = none) : Ext H R (upd H a o) (upd R a o) := by
  have hr : R a = none := by
    cases q : R a with
    | none => rfl
    | some u => rw [s a u q] at h; cases h
  refine ⟨Same.new h, Same.new hr, fun b u e => ?_, fun b e => ?_⟩
  · by_cases hb : b = a
    · subst hb; rw [upd_same] at e ⊢; exact e
    · rw [upd_ne hb] at e ⊢; exact s b u e
  · by_cases hb : b = a
    · subst hb; exact .inr (.inl h)
    · rw [upd_ne hb] at e; exact .inl e
theorem Ext.hid {H R : Hp} {a : Addr} {o : HO} (s : ∀ a o, R a = some o → H a = some o) (h : H a = none) : Ext H R (upd H a o) R :=
  ⟨Same.new h, Same.refl _, fun b u e => Same.new h _ _ (s b u e), fun _ e => .inl e⟩
structure Anc where
  H0 : Hp
  R0 : Hp
  L : Addr → Prop
  P : List Nat
inductive Ob (K : PySem.W.Frag) (R : Hp) : HO → D → Prop
  | lst {vs : List V} {ds : List D} : Rps K R vs ds → Ob K R (.lst vs) (.lst ds)
  | dct {kvs : List (Key × V)} {gs : List (Key × D)} : Rkk K R kvs gs → Ob K R (.dK kvs) (.dct gs)
  | dit {kvs : List (List Key × V)} {gs : List (List Key × D)} : Rkt K R kvs gs → Ob K R (.dT kvs) (.dit gs)
theorem Ob.isL {K : PySem.W.Frag} {R : Hp} {o : HO} {ds : List D} (h : Ob K R o (.lst ds)) : ∃ vs, o = .lst vs ∧ Rps K R vs ds := by
  cases h with
  | lst r => exact ⟨_, rfl, r⟩
theorem Ob.mono {K : PySem.W.Frag} {R R' : Hp} {o : HO} {d : D} (s : Same R R') (h : Ob K R o d) : Ob K R' o d := by
  cases h with
  | lst r => exact .lst (r.mono s)
  | dct r => exact .dct (r.mono s)
  | dit r => exact .dit (r.mono s)
theorem Ob.noF {K : PySem.W.Frag} {H R : Hp} {o : HO} {d : D} {l : Addr} (h : Ob K R o d) (e : H l = some o) (z : Frh H l) : False := by
  rcases z with z | ⟨xs, z⟩
  · rw [e] at z; cases z
  · rw [e] at z; cases z; cases h
theorem Ob.rp {K : PySem.W.Frag} {R : Hp} {o : HO} {d : D} {l : Addr} (h : Ob K R o d) (e : R l = some o) : Rp K R (.ref l) d := by
  cases h with
  | lst r => exact .lst (SqL.of e) r
  | dct r => exact .dct e r
  | dit r => exact .dit e r
structure StR (K : PySem.W.Frag) (Z : Anc) (O : List Nat) (σ : St) (H R : Hp) (ρ : Rho) : Prop where
  sub : ∀ a o, R a = some o → H a = some o
  len : σ.length = ρ.length
  env : ∀ i d, i ∉ O → ρ[i]? = some (some d) → ∃ v, σ[i]? = some (some v) ∧ Rp K R v d
  own : ∀ i, i ∈ O → ∃ l vs ds, ρ[i]? = some (some ds) ∧ σ[i]? = some (some (.ref l)) ∧ H l = some vs ∧ R l = none ∧ Ob K R vs ds
  dis : ∀ i j, i ∈ O → j ∈ O → i ≠ j → ∀ l, σ[i]? = some (some (.ref l)) → σ[j]? ≠ some (some (.ref l))
  ah : ∀ a o, Z.H0 a = some o → ¬ Z.L a → H a = some o
  ar : Same Z.R0 R
  an : ∀ a, R a ≠ none → Z.R0 a ≠ none ∨ Frh Z.H0 a
  ad : ∀ a, Z.H0 a ≠ none → Liv Z.H0 H a
  ao : ∀ i, i ∈ O → i ∉ Z.P → ∀ l, σ[i]? = some (some (.ref l)) → Z.H0 l = none
  ap : ∀ i, i ∈ O → i ∈ Z.P → ∀ l, σ[i]? = some (some (.ref l)) → Z.L l
structure Stp (O : List Nat) (σ : St) (H R H' R' : Hp) : Prop where
  r : Same R R'
  h : ∀ a o, H a = some o → (∀ i, i ∈ O → σ[i]? ≠ some (some (.ref a))) → H' a = some o
  n : ∀ a, R' a ≠ none → R a ≠ none ∨ Frh H a
  d : ∀ a, H a ≠ none → Liv H H' a
theorem Stp.refl (O : List Nat) (σ : St) (H R : Hp) : Stp O σ H R H R := ⟨Same.refl _, fun _ _ e _ => e, fun _ h => .inl h, fun _ h => .refl h⟩
theorem Stp.trans {O : List Nat} {σ : St} {H R H1 R1 H2 R2 : Hp} (x : Stp O σ H R H1 R1) (y : Stp O σ H1 R1 H2 R2) : Stp O σ H R H2 R2 := by
  refine ⟨x.r.trans y.r, fun a o e n => y.h a o (x.h a o e n) n, fun a h => ?_, fun a h => (x.d a h).trans (y.d a (x.d a h).1)⟩
  rcases y.n a h with z | z
  · exact x.n a z
  · exact .inr (z.back (x.d a))
theorem Ext.stp {O : List Nat} {σ : St} {H R H' R' : Hp} (x : Ext H R H' R') : Stp O σ H R H' R' := ⟨x.r, fun a o e _ => x.h a o e, x.n, fun _ h => x.h.liv h⟩
section
variable {K : PySem.W.Frag} {Z : Anc} {O O' : List Nat} {σ σ' : St} {H R H' R' : Hp} {ρ ρ' : Rho}
theorem StR.ext (S : StR K Z O σ H R ρ) (x : Ext H R H' R') : StR K Z O σ H' R' ρ := by
  refine ⟨x.s, S.len, fun i d hi e => ?_, fun i hi => ?_, S.dis, fun a o e n => x.h a o (S.ah a o e n), S.ar.trans x.r, fun a h => ?_, fun a h => (S.ad a h).trans (x.h.liv (S.ad a h).1), S.ao, S.ap⟩
  · obtain ⟨v, h1, h2⟩ := S.env i d hi e
    exact ⟨v, h1, h2.mono x.r⟩
  · obtain ⟨l, vs, ds, h1, h2, h3, h4, h5⟩ := S.own i hi
    refine ⟨l, vs, ds, h1, h2, x.h _ _ h3, ?_, h5.mono x.r⟩
    cases q : R' l with
    | none => rfl
    | some o =>
      rcases x.n l (by rw [q]; exact fun z => nomatch z) with z | z
      · exact absurd h4 z
      · exact (h5.noF h3 z).elim
  · rcases x.n a h with z | z
    · exact S.an a z
    · exact .inr (z.back (S.ad a))
noncomputable def frzR (O O' : List Nat) (σ : St) (H R : Hp) : Hp := fun a => open Classical in if ∃ i, i ∈ O ∧ i ∉ O' ∧ σ[i]? = some (some (.ref a)) then H a else R a
theorem StR.freeze (S : StR K Z O σ H R ρ) (hs : ∀ i, i ∈ O' → i ∈ O) (hp : ∀ i, i ∈ Z.P → i ∈ O → i ∈ O') : StR K Z O' σ H (frzR O O' σ H R) ρ ∧ Same R (frzR O O' σ H R) := by
  have same : Same R (frzR O O' σ H R) := fun a o e => by
    unfold frzR
    split
    · exact S.sub a o e
    · exact e
  refine ⟨⟨fun a o e => ?_, S.len, fun i d hi e => ?_, fun i hi => ?_, fun i j hi hj => S.dis i j (hs i hi) (hs j hj), S.ah, S.ar.trans same, fun a h => ?_, S.ad, fun i hi => S.ao i (hs i hi), fun i hi => S.ap i (hs i hi)⟩, same⟩
  · unfold frzR at e
    split at e
    · exact e
    · exact S.sub a o e
  · by_cases hO : i ∈ O
    · obtain ⟨l, vs, ds, h1, h2, h3, h4, h5⟩ := S.own i hO
      rw [e] at h1
      have ed : d = ds := Option.some.inj (Option.some.inj h1)
      subst ed
      refine ⟨.ref l, h2, (h5.mono same).rp ?_⟩
      unfold frzR
      rw [if_pos ⟨i, hO, hi, h2⟩]
      exact h3
    · obtain ⟨v, h1, h2⟩ := S.env i d hO e
      exact ⟨v, h1, h2.mono same⟩
  · obtain ⟨l, vs, ds, h1, h2, h3, h4, h5⟩ := S.own i (hs i hi)
    refine ⟨l, vs, ds, h1, h2, h3, ?_, h5.mono same⟩
    unfold frzR
    rw [if_neg ?_]
    · exact h4
    · rintro ⟨j, hj, hj', e⟩
      exact S.dis j i hj (hs i hi) (fun z => hj' (z ▸ hi)) l e h2
  · unfold frzR at h
    split at h
    · rename_i z
      obtain ⟨j, hj, hj', e⟩ := z
      exact .inr (.inl (S.ao j hj (fun z => hj' (hp j z hj)) a e))
    · exact S.an a h
theorem StR.set (S : StR K Z O σ H R ρ) {i : Nat} {v : V} {d : D} (hi : i ∉ O) (r : Rp K R v d) : StR K Z O (σ.set i (some v)) H R (ρ.set i (some d)) := by
  have ne : ∀ j, j ∈ O → i ≠ j := fun j hj z => hi (z ▸ hj)
  refine ⟨S.sub, by rw [List.length_set, List.length_set]; exact S.len, fun j e hj q => ?_, fun j hj => ?_, fun j k hj hk n l e => ?_, S.ah, S.ar, S.an, S.ad, fun j hj hp l e => ?_, fun j hj hp l e => ?_⟩
  · by_cases hij : i = j
    · subst hij
      have hl : i < ρ.length := by
        have := (List.getElem?_eq_some_iff.mp q).1
        rwa [List.length_set] at this
      rw [List.getElem?_set_self hl] at q
      have e' : d = e := Option.some.inj (Option.some.inj q)
      subst e'
      exact ⟨v, by rw [List.getElem?_set_self (by rw [S.len]; exact hl)], r⟩
    · rw [List.getElem?_set_ne hij] at q
      obtain ⟨w, h1, h2⟩ := S.env j e hj q
      exact ⟨w, by rw [List.getElem?_set_ne hij]; exact h1, h2⟩
  · obtain ⟨l, vs, ds, h1, h2, h3, h4, h5⟩ := S.own j hj
    exact ⟨l, vs, ds, by rw [List.getElem?_set_ne (ne j hj)]; exact h1, by rw [List.getElem?_set_ne (ne j hj)]; exact h2, h3, h4, h5⟩
  · rw [List.getElem?_set_ne (ne j hj)] at e
    rw [List.getElem?_set_ne (ne k hk)]
    exact S.dis j k hj hk n l e
  · rw [List.getElem?_set_ne (ne j hj)] at e
    exact S.ao j hj hp l e
  · rw [List.getElem?_set_ne (ne j hj)] at e
    exact S.ap j hj hp l e
theorem StR.write (S : StR K Z O σ H R ρ) {i : Nat} {l : Addr} {vs : HO} {ds : D} (hi : i ∈ O) (hl : σ[i]? = some (some (.ref l))) (r : Ob K R vs ds) : StR K Z O σ (upd H l vs) R (ρ.set i (some ds)) := by
  obtain ⟨l0, vs0, ds0, h1, h2, h3, h4, h5⟩ := S.own i hi
  rw [hl] at h2
  cases h2
  have other : ∀ j, j ∈ O → i ≠ j → ∀ k, σ[j]? = some (some (.ref k)) → k ≠ l := fun j hj n k e z => by
    subst z
    exact S.dis i j hi hj n k hl e
  refine ⟨fun a o e => ?_, by rw [List.length_set]; exact S.len, fun j d hj q => ?_, fun j hj => ?_, S.dis, fun a o e n => ?_, S.ar, S.an, fun a h => ?_, S.ao, S.ap⟩
  · have ne : a ≠ l := fun z => by subst z; rw [h4] at e; cases e
    rw [upd_ne ne]; exact S.sub a o e
  · have n : i ≠ j := fun z => hj (z ▸ hi)
    rw [List.getElem?_set_ne n] at q
    exact S.env j d hj q
  · by_cases n : i = j
    · subst n
      have hlen : i < ρ.length := (List.getElem?_eq_some_iff.mp h1).1
      exact ⟨l, vs, ds, by rw [List.getElem?_set_self hlen], hl, upd_same, h4, r⟩
    · obtain ⟨k, vs', ds', g1, g2, g3, g4, g5⟩ := S.own j hj
      exact ⟨k, vs', ds', by rw [List.getElem?_set_ne n]; exact g1, g2, by rw [upd_ne (other j hj n k g2)]; exact g3, g4, g5⟩
  · have ne : a ≠ l := fun z => by
      subst z
      by_cases hp : i ∈ Z.P
      · exact n (S.ap i hi hp a hl)
      · rw [S.ao i hi hp a hl] at e; cases e
    rw [upd_ne ne]; exact S.ah a o e n
  · by_cases ha : a = l
    · subst ha; exact ⟨by rw [upd_same]; exact (fun z => (nomatch z)), fun xs e => by rw [upd_same] at e; cases e; cases r⟩
    · exact ⟨by rw [upd_ne ha]; exact (S.ad a h).1, fun xs e => by rw [upd_ne ha] at e; exact (S.ad a h).2 xs e⟩
theorem StR.take (S : StR K Z O σ H R ρ) {i : Nat} {l : Addr} {vs : HO} {ds : D} (hi : i ∉ O) (hin : i ∈ O') (hO : ∀ j, j ∈ O' → j = i ∨ j ∈ O) (hp : i ∉ Z.P) (hlen : i < ρ.length) (h0 : Z.H0 l = none) (hH : H l = some vs) (hR : R l = none) (hn : ∀ j, j ∈ O → σ[j]? ≠ some (some (.ref l))) (hs : ∀ j, j ∈ O → j ∈ O') (r : Ob K R vs ds) :
    StR K Z O' (σ.set i (some (.ref l))) H R (ρ.set i (some ds)) := by
  have ne : ∀ j, j ∈ O → i ≠ j := fun j hj z => hi (z ▸ hj)
  have hl : i < σ.length := by rw [S.len]; exact hlen
  refine ⟨S.sub, by rw [List.length_set, List.length_set]; exact S.len, fun j e hj q => ?_, fun j hj => ?_, fun j k hj hk n m e => ?_, S.ah, S.ar, S.an, S.ad, fun j hj hp l e => ?_, fun j hj hp' l e => ?_⟩
  · by_cases hij : i = j
    · subst hij
      rw [List.getElem?_set_self hlen] at q
      have e' : ds = e := Option.some.inj (Option.some.inj q)
      subst e'
      exact absurd hin hj
    · rw [List.getElem?_set_ne hij] at q
      obtain ⟨w, h1, h2⟩ := S.env j e (fun z => hj (hs j z)) q
      exact ⟨w, by rw [List.getElem?_set_ne hij]; exact h1, h2⟩
  · rcases hO j hj with rfl | hj'
    · exact ⟨l, vs, ds, by rw [List.getElem?_set_self hlen], by rw [List.getElem?_set_self hl], hH, hR, r⟩
    · obtain ⟨k, vs', ds', g1, g2, g3, g4, g5⟩ := S.own j hj'
      exact ⟨k, vs', ds', by rw [List.getElem?_set_ne (ne j hj')]; exact g1, by rw [List.getElem?_set_ne (ne j hj')]; exact g2, g3, g4, g5⟩
  · rcases hO j hj with rfl | hj'
    · rw [List.getElem?_set_self hl] at e
      cases e
      rcases hO k hk with rfl | hk'
      · exact absurd rfl n
      · rw [List.getElem?_set_ne (ne k hk')]
        exact hn k hk'
    · rw [List.getElem?_set_ne (ne j hj')] at e
      rcases hO k hk with rfl | hk'
      · rw [List.getElem?_set_self hl]
        intro z
        cases z
        exact hn j hj' e
      · rw [List.getElem?_set_ne (ne k hk')]
        exact S.dis j k hj' hk' n m e
  · rcases hO j hj with rfl | hj'
    · rw [List.getElem?_set_self hl] at e
      cases e
      exact h0
    · rw [List.getElem?_set_ne (ne j hj')] at e
      exact S.ao j hj' hp l e
  · rcases hO j hj with rfl | hj'
    · exact absurd hp' hp
    · rw [List.getElem?_set_ne (ne j hj')] at e
      exact S.ap j hj' hp' l e
end
noncomputable def mBind {α β : Type} (a : Rho → Option (α × Rho)) (k : α → Rho → Option (β × Rho)) : Rho → Option (β × Rho) := fun ρ => match a ρ with
  | none => none
  | some (x, ρ1) => k x ρ1
noncomputable def mRet {α : Type} (x : α) : Rho → Option (α × Rho) := fun ρ => some (x, ρ)
noncomputable def mLift {α : Type} (o : Option α) : Rho → Option (α × Rho) := fun ρ => match o with
  | none => none
  | some x => some (x, ρ)
theorem mBind_some {α β : Type} {a : Rho → Option (α × Rho)} {k : α → Rho → Option (β × Rho)} {ρ : Rho} {r : β × Rho} (h : mBind a k ρ = some r) : ∃ x ρ1, a ρ = some (x, ρ1) ∧ k x ρ1 = some r := by
  unfold mBind at h
  cases e : a ρ with
  | none => rw [e] at h; cases h
  | some p => rw [e] at h; exact ⟨p.1, p.2, rfl, h⟩
theorem mLift_some {α : Type} {o : Option α} {ρ : Rho} {x : α} {ρ' : Rho} (h : mLift o ρ = some (x, ρ')) : o = some x ∧ ρ' = ρ := by
  unfold mLift at h
  cases o with
  | none => cases h
  | some y => cases h; exact ⟨rfl, rfl⟩
noncomputable def mVar (i : Nat) : Rho → Option (D × Rho) := fun ρ => match ρ[i]? with
  | some (some d) => some (d, ρ)
  | _ => none
theorem mVar_some {i : Nat} {ρ ρ' : Rho} {d : D} (h : mVar i ρ = some (d, ρ')) : ρ[i]? = some (some d) ∧ ρ' = ρ := by
  unfold mVar at h
  cases e : ρ[i]? with
  | none => rw [e] at h; cases h
  | some o =>
    rw [e] at h
    cases o with
    | none => cases h
    | some y => cases h; exact ⟨rfl, rfl⟩
section
variable (K : PySem.W.Frag) (O : List Nat)
noncomputable def ME (t : TE) (f : Rho → Option (D × Rho)) : Prop := ∀ (Z : Anc) (σ : St) (H R : Hp) (ρ : Rho) (d : D) (ρ' : Rho) (Q : VK), StR K Z O σ H R ρ → f ρ = some (d, ρ') → (∀ v H' R', StR K Z O σ H' R' ρ' → Stp O σ H R H' R' → Rp K R' v d → Q v H') → t σ H Q
noncomputable def MB (t : TE) (f : Rho → Option (D × Rho)) : Prop := ∀ (Z : Anc) (σ : St) (H R : Hp) (ρ : Rho) (d : D) (ρ' : Rho) (Q : VK), StR K Z O σ H R ρ → f ρ = some (d, ρ') → (∀ v H' R', StR K Z O σ H' R' ρ' → Stp O σ H R H' R' → Rp K H' v d → Q v H') → t σ H Q
noncomputable def MT (t : TT) (f : Rho → Option (Bool × Rho)) : Prop := ∀ (Z : Anc) (σ : St) (H R : Hp) (ρ : Rho) (b : Bool) (ρ' : Rho) (Q : Bool → Hp → Prop), StR K Z O σ H R ρ → f ρ = some (b, ρ') → (∀ H' R', StR K Z O σ H' R' ρ' → Stp O σ H R H' R' → Q b H') → t σ H Q
noncomputable def MA (t : TA) (f : Rho → Option (List D × Rho)) : Prop := ∀ (Z : Anc) (σ : St) (H R : Hp) (ρ : Rho) (ds : List D) (ρ' : Rho) (Q : List V → Hp → Prop), StR K Z O σ H R ρ → f ρ = some (ds, ρ') → (∀ vs H' R', StR K Z O σ H' R' ρ' → Stp O σ H R H' R' → Rps K R' vs ds → Q vs H') → t σ H Q
noncomputable def MN (t : TE) (f : Rho → Option (List D × Rho)) : Prop := ∀ (Z : Anc) (σ : St) (H R : Hp) (ρ : Rho) (ds : List D) (ρ' : Rho) (Q : VK), StR K Z O σ H R ρ → f ρ = some (ds, ρ') → (∀ l vs H' R', StR K Z O σ H' R' ρ' → Stp O σ H R H' R' → H l = none → H' l = some (.lst vs) → R' l = none → Rps K R' vs ds → Q (.ref l) H') → t σ H Q
end
section
variable {K : PySem.W.Frag} {Z : Anc} {O : List Nat} {t ta tb tc : TE} {tA tB' : TT} {tr : TA}
theorem StR.same {σ : St} {H R : Hp} {ρ : Rho} (S : StR K Z O σ H R ρ) : Same R H := S.sub
theorem ME.mb {f : Rho → Option (D × Rho)} (h : ME K O t f) : MB K O t f := fun Z σ H R ρ d ρ' Q S e k => h Z σ H R ρ d ρ' Q S e fun v H' R' S' st r => k v H' R' S' st (r.mono S'.same)
theorem StR.notnew {σ : St} {H R : Hp} {ρ : Rho} (S : StR K Z O σ H R ρ) {l : Addr} (h : H l = none) : ∀ j, j ∈ O → σ[j]? ≠ some (some (.ref l)) := fun j hj e => by
  obtain ⟨k, vs, ds, _, h2, h3, _⟩ := S.own j hj
  rw [e] at h2
  (first | obtain rfl := h2.isA rfl | cases h2)
  rw [h] at h3
  (first | obtain rfl := h3.isA rfl | cases h3)
theorem StR.know {σ : St} {H R : Hp} {ρ : Rho} {l : Addr} {vs : HO} (S : StR K Z O σ H R ρ) (h0 : Z.H0 l = none) (hH : H l = some vs) (hR : R l = none) (hn : ∀ j, j ∈ O → σ[j]? ≠ some (some (.ref l))) : StR K Z O σ H (upd R l vs) ρ := by
  have same : Same R (upd R l vs) := Same.new hR
  refine ⟨fun a o e => ?_, S.len, fun i d hi e => ?_, fun i hi => ?_, S.dis, S.ah, S.ar.trans same, fun a h => ?_, S.ad, S.ao, S.ap⟩
  · by_cases ha : a = l
    · subst ha; rw [upd_same] at e; rw [hH, e]
    · rw [upd_ne ha] at e; exact S.sub a o e
  · obtain ⟨v, h1, h2⟩ := S.env i d hi e
    exact ⟨v, h1, h2.mono same⟩
  · obtain ⟨k, ws, ds, h1, h2, h3, h4, h5⟩ := S.own i hi
    refine ⟨k, ws, ds, h1, h2, h3, ?_, h5.mono same⟩
    rw [upd_ne (fun z => hn i hi (by rw [← z]; exact h2))]
    exact h4
  · by_cases ha : a = l
    · subst ha; exact .inr (.inl h0)
    · rw [upd_ne ha] at h; exact S.an a h
theorem StR.new0 {σ : St} {H R : Hp} {ρ : Rho} {l : Addr} (S : StR K Z O σ H R ρ) (h : H l = none) : Z.H0 l = none := by
  cases q : Z.H0 l with
  | none => rfl
  | some o => exact absurd h (S.ad l (by rw [q]; exact fun z => nomatch z)).1
theorem Stp.know {σ : St} {H R H' R' : Hp} {l : Addr} {o : HO} (x : Stp O σ H R H' R') (h : H l = none) (hr : R' l = none) : Stp O σ H R H' (upd R' l o) := by
  refine ⟨x.r.trans (Same.new hr), x.h, fun b e => ?_, x.d⟩
  by_cases hb : b = l
  · subst hb; exact .inr (.inl h)
  · rw [upd_ne hb] at e; exact x.n b e
theorem MN.me {f : Rho → Option (List D × Rho)} (h : MN K O t f) : ME K O t (mBind f fun ds => mRet (.lst ds)) := fun Z σ H R ρ d ρ' Q S e k => by
  obtain ⟨ds, ρ1, e1, e2⟩ := mBind_some e
  cases e2
  refine h Z σ H R ρ ds _ Q S e1 fun l vs H' R' S' st h0 hH hR r => ?_
  refine k _ H' (upd R' l (.lst vs)) (S'.know (S.new0 h0) hH hR ?_) (st.know h0 hR) (.lst (SqL.of upd_same) (r.mono (Same.new hR)))
  exact S.notnew h0
theorem me_var {i : Nat} (hi : i ∉ O := by decide) : ME K O (tVar i) (mVar i) := fun Z σ H R ρ d ρ' Q S e k => by
  obtain ⟨e1, rfl⟩ := mVar_some e
  obtain ⟨v, h1, h2⟩ := S.env i d hi e1
  exact ⟨v, h1, k v H R S (Stp.refl _ _ _ _) h2⟩
theorem mb_var {i : Nat} : MB K O (tVar i) (mVar i) := fun Z σ H R ρ d ρ' Q S e k => by
  obtain ⟨e1, rfl⟩ := mVar_some e
  by_cases hi : i ∈ O
  · obtain ⟨l, vs, ds, h1, h2, h3, h4, h5⟩ := S.own i hi
    rw [e1] at h1
    (first | obtain rfl := h1.isA rfl | cases h1)
    exact ⟨.ref l, h2, k _ H R S (Stp.refl _ _ _ _) ((h5.mono S.same).rp h3)⟩
  · obtain ⟨v, h1, h2⟩ := S.env i d hi e1
    exact ⟨v, h1, k v H R S (Stp.refl _ _ _ _) (h2.mono S.same)⟩
theorem me_c {v : V} {d : D} (h : Sc v d) : ME K O (tC v) (mRet d) := fun Z σ H R ρ e ρ' Q S q k => by
  (first | obtain rfl := q.isA rfl | cases q)
  exact k v H R S (Stp.refl _ _ _ _) h.rp
theorem me_int {i : Int} : ME K O (tC (.int i)) (mRet (.int i)) := me_c (.int i)
theorem me_str {x : Str} : ME K O (tC (.str x)) (mRet (.str x)) := me_c (.str x)
theorem me_bl {b : Bool} : ME K O (tC (.bl b)) (mRet (.bl b)) := me_c (.bl b)
theorem me_non : ME K O (tC .non) (mRet .non) := me_c .non
noncomputable def mOp2 (g : D → D → Option D) (fa fb : Rho → Option (D × Rho)) : Rho → Option (D × Rho) := mBind fa fun x => mBind fb fun y => mLift (g x y)
noncomputable def OpS (K : PySem.W.Frag) (r : R2) (g : D → D → Option D) : Prop := ∀ (H : Hp) (x y : V) (d e u : D) (Q : VK), Rp K H x d → Rp K H y e → g d e = some u → (∀ v, Sc v u → Q v H) → r x y H Q
noncomputable def OpG (K : PySem.W.Frag) (r : R2) (g : D → D → Option D) : Prop := ∀ (H R : Hp) (x y : V) (d e u : D) (Q : VK), (∀ a o, R a = some o → H a = some o) → Rp K R x d → Rp K R y e → g d e = some u → (∀ v H' R', Ext H R H' R' → Rp K R' v u → Q v H') → r x y H Q
theorem OpS.g {r : R2} {g : D → D → Option D} (h : OpS K r g) : OpG K r g := fun H R x y d e u Q s rx ry q k =>
  h H x y d e u Q (rx.mono s) (ry.mono s) q fun v z => k v H R (Ext.refl s) z.rp
theorem me_op {r : R2} {g : D → D → Option D} {fa fb : Rho → Option (D × Rho)} (h : OpG K r g) (ha : ME K O ta fa) (hb : ME K O tb fb) : ME K O (tOp r ta tb) (mOp2 g fa fb) := fun Z σ H R ρ d ρ' Q S e k => by
  obtain ⟨x, ρ1, e1, e⟩ := mBind_some e
  obtain ⟨y, ρ2, e2, e⟩ := mBind_some e
  obtain ⟨e3, rfl⟩ := mLift_some e
  refine ha Z σ H R ρ x ρ1 _ S e1 fun v H1 R1 S1 st1 r1 => hb Z σ H1 R1 ρ1 y _ _ S1 e2 fun w H2 R2 S2 st2 r2 => ?_
  exact h H2 R2 v w x y d Q S2.sub (r1.mono st2.r) r2 e3 fun z H3 R3 x3 r3 => k z H3 R3 (S2.ext x3) ((st1.trans st2).trans x3.stp) r3
theorem me_opB {r : R2} {g : D → D → Option D} {fa fb : Rho → Option (D × Rho)} (h : OpS K r g) (ha : ME K O ta fa) (hb : MB K O tb fb) : ME K O (tOp r ta tb) (mOp2 g fa fb) := fun Z σ H R ρ d ρ' Q S e k => by
  obtain ⟨x, ρ1, e1, e⟩ := mBind_some e
  obtain ⟨y, ρ2, e2, e⟩ := mBind_some e
  obtain ⟨e3, rfl⟩ := mLift_some e
  refine ha Z σ H R ρ x ρ1 _ S e1 fun v H1 R1 S1 st1 r1 => hb Z σ H1 R1 ρ1 y _ _ S1 e2 fun w H2 R2 S2 st2 r2 => ?_
  exact h H2 v w x y d Q ((r1.mono st2.r).mono S2.same) r2 e3 fun z q => k z H2 R2 S2 (st1.trans st2) q.rp
noncomputable def mIxO (i : Nat) (fb : Rho → Option (D × Rho)) : Rho → Option (D × Rho) := mBind fb fun y => mBind (mVar i) fun x => mLift (match x, y with
  | .lst xs, .int j => atI xs j
  | _, _ => none)
theorem atI_rps {R : Hp} {xs : List V} {ds : List D} {i : Int} {d : D} (r : Rps K R xs ds) (h : atI ds i = some d) : ∃ v, atI xs i = some v ∧ Rp K R v d := by
  unfold atI at h ⊢
  rw [r.length]
  cases e : ixN ds.length i with
  | none => rw [e] at h; cases h
  | some j =>
    rw [e] at h
    exact r.get h
theorem me_ixO {i : Nat} {fb : Rho → Option (D × Rho)} (hi : i ∈ O) (hb : ME K O tb fb) : ME K O (tOp (rIx K) (tVar i) tb) (mIxO i fb) := fun Z σ H R ρ d ρ' Q S e k => by
  obtain ⟨y, ρ1, e1, e⟩ := mBind_some e
  obtain ⟨x, ρ2, e2, e⟩ := mBind_some e
  obtain ⟨e3, rfl⟩ := mLift_some e
  obtain ⟨e4, rfl⟩ := mVar_some e2
  obtain ⟨l, vs, ds, h1, h2, h3, _⟩ := S.own i hi
  refine ⟨.ref l, h2, hb Z σ H R ρ y _ _ S e1 fun w H1 R1 S1 st1 r1 => ?_⟩
  obtain ⟨l', vs', ds', g1, g2, g3, g4, g5⟩ := S1.own i hi
  rw [h2] at g2
  cases g2
  rw [e4] at g1
  cases g1
  split at e3
  · obtain rfl := r1.isA rfl
    obtain ⟨us, rfl, q5⟩ := g5.isL
    obtain ⟨v, q1, q2⟩ := atI_rps q5 e3
    exact .inl ⟨l, _, _, v, rfl, rfl, SqL.of g3, q1, k v H1 R1 S1 st1 q2⟩
  · cases e3
noncomputable def dIx : D → D → Option D
  | .lst xs, .int i => atI xs i
  | .tup xs, .int i => atI xs i
  | .str z, .int i => if z.length ≤ sizeLine then (atI z.cps.toList i).map fun c => .str ⟨#[c]⟩ else none
  | _, _ => none
theorem op_ix : OpG K (rIx K) dIx := fun H R x y d e u Q s rx ry q k => by
  unfold dIx at q
  split at q
  · rename_i xs i
    (first | obtain rfl := ry.isA rfl | cases ry)
    obtain ⟨_, _, rfl, h, r⟩ := rx.isL
    obtain ⟨v, q1, q2⟩ := atI_rps r q
    exact .inl ⟨_, _, i, v, rfl, rfl, Same.sqL s h, q1, k v H R (Ext.refl s) q2⟩
  · rename_i xs i
    (first | obtain rfl := ry.isA rfl | cases ry)
    obtain ⟨_, _, rfl, h, r⟩ := rx.isT
    obtain ⟨v, q1, q2⟩ := atI_rps r q
    exact .inr (.inl ⟨_, _, i, v, rfl, rfl, SqT.of (s _ _ h), q1, k v H R (Ext.refl s) q2⟩)
  · rename_i z i
    (first | obtain rfl := ry.isA rfl | cases ry)
    (first | obtain rfl := rx.isA rfl | cases rx)
    split at q
    · rename_i hz
      cases e' : atI z.cps.toList i with
      | none => rw [e'] at q; cases q
      | some c =>
        rw [e'] at q
        (first | obtain rfl := q.isA rfl | cases q)
        exact .inr (.inr ⟨z, i, c, rfl, rfl, hz, e', k _ H R (Ext.refl s) (.str _)⟩)
    · (first | obtain rfl := q.isA rfl | cases q)
  · (first | obtain rfl := q.isA rfl | cases q)
noncomputable def dI2 (C : Int → Int → Bool) (g : Int → Int → Int) : D → D → Option D
  | .int i, .int j => if C i j = true then some (.int (g i j)) else none
  | _, _ => none
theorem op_i {C : Int → Int → Bool} {P : Int → Int → Prop} {g : Int → Int → Int} (hc : ∀ i j, C i j = true → P i j) : OpG K (rI P fun i j => .int (g i j)) (dI2 C g) := fun H R x y d e u Q s rx ry q k => by
  unfold dI2 at q
  split at q
  · rename_i i j
    split at q
    · rename_i h
      (first | obtain rfl := q.isA rfl | cases q)
      (first | obtain rfl := rx.isA rfl | cases rx)
      (first | obtain rfl := ry.isA rfl | cases ry)
      exact ⟨i, j, rfl, rfl, hc i j h, k _ H R (Ext.refl s) (.int _)⟩
    · (first | obtain rfl := q.isA rfl | cases q)
  · (first | obtain rfl := q.isA rfl | cases q)
noncomputable def dI0 (g : Int → Int → Int) : D → D → Option D
  | .int i, .int j => some (.int (g i j))
  | _, _ => none
theorem op_i0 {g : Int → Int → Int} : OpG K (rI0 fun i j => .int (g i j)) (dI0 g) := fun H R x y d e u Q s rx ry q k => by
  unfold dI0 at q
  split at q
  · rename_i i j
    (first | obtain rfl := q.isA rfl | cases q)
    (first | obtain rfl := rx.isA rfl | cases rx)
    (first | obtain rfl := ry.isA rfl | cases ry)
    exact ⟨i, j, rfl, rfl, k _ H R (Ext.refl s) (.int _)⟩
  · (first | obtain rfl := q.isA rfl | cases q)
noncomputable def dB0 (g : Int → Int → Bool) : D → D → Option D
  | .int i, .int j => some (.bl (g i j))
  | _, _ => none
end
section
variable {K : PySem.W.Frag} {Z : Anc} {O : List Nat} {t ta tb tc : TE} {tA tB' : TT} {tr : TA} {fa fb fc : Rho → Option (D × Rho)} {ga gb : Rho → Option (Bool × Rho)} {fs : Rho → Option (List D × Rho)}
noncomputable def mTest (f : Rho → Option (D × Rho)) : Rho → Option (Bool × Rho) := mBind f fun d => mLift (match d with
  | .bl b => some b
  | _ => none)
theorem mt_test (h : ME K O t fa) : MT K O (tTest t) (mTest fa) := fun Z σ H R ρ b ρ' Q S e k => by
  obtain ⟨d, ρ1, e1, e⟩ := mBind_some e
  obtain ⟨e2, rfl⟩ := mLift_some e
  refine h Z σ H R ρ d _ _ S e1 fun v H' R' S' st r => ?_
  (first | split at e2)
  · obtain rfl := r.isA rfl
    cases e2
    exact ⟨_, rfl, k H' R' S' st⟩
  · cases e2
theorem mt_val (h : ME K O t fa) : MT K O (tB t) (mTest fa) := fun Z σ H R ρ b ρ' Q S e k => by
  obtain ⟨d, ρ1, e1, e⟩ := mBind_some e
  obtain ⟨e2, rfl⟩ := mLift_some e
  refine h Z σ H R ρ d _ _ S e1 fun v H' R' S' st r => ?_
  (first | split at e2)
  · obtain rfl := r.isA rfl
    cases e2
    exact ⟨_, rfl, k H' R' S' st⟩
  · cases e2
noncomputable def mNot (f : Rho → Option (Bool × Rho)) : Rho → Option (Bool × Rho) := mBind f fun b => mRet (!b)
theorem mt_not (h : MT K O tA ga) : MT K O (tNot tA) (mNot ga) := fun Z σ H R ρ b ρ' Q S e k => by
  obtain ⟨c, ρ1, e1, e⟩ := mBind_some e
  cases e
  exact h Z σ H R ρ c _ _ S e1 fun H' R' S' st => k H' R' S' st
noncomputable def mAnd (f g : Rho → Option (Bool × Rho)) : Rho → Option (Bool × Rho) := mBind f fun b => if b = true then g else mRet false
noncomputable def mOr (f g : Rho → Option (Bool × Rho)) : Rho → Option (Bool × Rho) := mBind f fun b => if b = true then mRet true else g
theorem mt_and (h : MT K O tA ga) (h2 : MT K O tB' gb) : MT K O (tAnd tA tB') (mAnd ga gb) := fun Z σ H R ρ b ρ' Q S e k => by
  obtain ⟨c, ρ1, e1, e⟩ := mBind_some e
  refine h Z σ H R ρ c _ _ S e1 fun H' R' S' st => ?_
  cases c with
  | true => exact iteT (h2 Z σ H' R' ρ1 b ρ' Q S' e fun H2 R2 S2 st2 => k H2 R2 S2 (st.trans st2))
  | false => cases e; exact iteF (k H' R' S' st)
theorem mt_or (h : MT K O tA ga) (h2 : MT K O tB' gb) : MT K O (tOr tA tB') (mOr ga gb) := fun Z σ H R ρ b ρ' Q S e k => by
  obtain ⟨c, ρ1, e1, e⟩ := mBind_some e
  refine h Z σ H R ρ c _ _ S e1 fun H' R' S' st => ?_
  cases c with
  | true => cases e; exact iteT (k H' R' S' st)
  | false => exact iteF (h2 Z σ H' R' ρ1 b ρ' Q S' e fun H2 R2 S2 st2 => k H2 R2 S2 (st.trans st2))
noncomputable def mAndV (f g : Rho → Option (D × Rho)) : Rho → Option (D × Rho) := mBind (mTest f) fun b => if b = true then g else mRet (.bl false)
noncomputable def mOrV (f g : Rho → Option (D × Rho)) : Rho → Option (D × Rho) := mBind (mTest f) fun b => if b = true then mRet (.bl true) else g
theorem me_and (h : ME K O ta fa) (h2 : ME K O tb fb) : ME K O (tAndV ta tb) (mAndV fa fb) := fun Z σ H R ρ d ρ' Q S e k => by
  obtain ⟨c, ρ1, e1, e⟩ := mBind_some e
  obtain ⟨x, ρ2, e1, e2⟩ := mBind_some e1
  obtain ⟨e2, rfl⟩ := mLift_some e2
  refine h Z σ H R ρ x _ _ S e1 fun v H' R' S' st r => ?_
  (first | split at e2)
  · obtain rfl := r.isA rfl
    cases e2
    refine ⟨_, rfl, ?_⟩
    cases c with
    | true => exact iteT (h2 Z σ H' R' _ d ρ' Q S' e fun v H2 R2 S2 st2 r2 => k v H2 R2 S2 (st.trans st2) r2)
    | false => cases e; exact iteF (k _ H' R' S' st (.bl false))
  · cases e2
theorem me_or (h : ME K O ta fa) (h2 : ME K O tb fb) : ME K O (tOrV ta tb) (mOrV fa fb) := fun Z σ H R ρ d ρ' Q S e k => by
  obtain ⟨c, ρ1, e1, e⟩ := mBind_some e
  obtain ⟨x, ρ2, e1, e2⟩ := mBind_some e1
  obtain ⟨e2, rfl⟩ := mLift_some e2
  refine h Z σ H R ρ x _ _ S e1 fun v H' R' S' st r => ?_
  (first | split at e2)
  · obtain rfl := r.isA rfl
    cases e2
    refine ⟨_, rfl, ?_⟩
    cases c with
    | true => cases e; exact iteT (k _ H' R' S' st (.bl true))
    | false => exact iteF (h2 Z σ H' R' _ d ρ' Q S' e fun v H2 R2 S2 st2 r2 => k v H2 R2 S2 (st.trans st2) r2)
  · cases e2
noncomputable def mIf (f : Rho → Option (Bool × Rho)) (g h : Rho → Option (D × Rho)) : Rho → Option (D × Rho) := mBind f fun b => if b = true then g else h
theorem me_if (h : MT K O tA ga) (h1 : ME K O ta fa) (h2 : ME K O tb fb) : ME K O (tIf tA ta tb) (mIf ga fa fb) := fun Z σ H R ρ d ρ' Q S e k => by
  obtain ⟨c, ρ1, e1, e⟩ := mBind_some e
  refine h Z σ H R ρ c _ _ S e1 fun H' R' S' st => ?_
  cases c with
  | true => exact iteT (h1 Z σ H' R' ρ1 d ρ' Q S' e fun v H2 R2 S2 st2 r2 => k v H2 R2 S2 (st.trans st2) r2)
  | false => exact iteF (h2 Z σ H' R' ρ1 d ρ' Q S' e fun v H2 R2 S2 st2 r2 => k v H2 R2 S2 (st.trans st2) r2)
noncomputable def mNil : Rho → Option (List D × Rho) := mRet []
noncomputable def mCons (f : Rho → Option (D × Rho)) (g : Rho → Option (List D × Rho)) : Rho → Option (List D × Rho) := mBind f fun x => mBind g fun xs => mRet (x :: xs)
theorem ma_nil : MA K O tNil mNil := fun Z σ H R ρ ds ρ' Q S e k => by
  cases e
  exact k [] H R S (Stp.refl _ _ _ _) .nil
theorem ma_cons (h : ME K O t fa) (h2 : MA K O tr fs) : MA K O (tCons t tr) (mCons fa fs) := fun Z σ H R ρ ds ρ' Q S e k => by
  obtain ⟨x, ρ1, e1, e⟩ := mBind_some e
  obtain ⟨xs, ρ2, e2, e⟩ := mBind_some e
  cases e
  refine h Z σ H R ρ x _ _ S e1 fun v H1 R1 S1 st1 r1 => h2 Z σ H1 R1 ρ1 xs _ _ S1 e2 fun vs H2 R2 S2 st2 r2 => ?_
  exact k (v :: vs) H2 R2 S2 (st1.trans st2) (.cons (r1.mono st2.r) r2)
noncomputable def mTup (f : Rho → Option (List D × Rho)) : Rho → Option (D × Rho) := mBind f fun xs => mLift (if xs.length ≤ sizeLine then some (.tup xs) else none)
theorem me_tup (h : MA K O tr fs) : ME K O (tTup tr) (mTup fs) := fun Z σ H R ρ d ρ' Q S e k => by
  obtain ⟨xs, ρ1, e1, e⟩ := mBind_some e
  obtain ⟨e2, rfl⟩ := mLift_some e
  refine h Z σ H R ρ xs _ _ S e1 fun vs H1 R1 S1 st1 r1 => ?_
  split at e2
  · rename_i hz
    cases e2
    refine ⟨by rw [r1.length]; exact hz, fun p np => ?_⟩
    have x := Ext.new (o := .tup vs) S1.sub np
    exact k _ _ _ (S1.ext x) (st1.trans x.stp) (.tup upd_same (r1.mono x.r))
  · cases e2
noncomputable def mLst (f : Rho → Option (List D × Rho)) : Rho → Option (List D × Rho) := mBind f fun xs => mLift (if xs.length ≤ sizeLine then some xs else none)
theorem StR.out {σ : St} {H R : Hp} {ρ : Rho} {l : Addr} (S : StR K Z O σ H R ρ) (h : H l = none) : R l = none := by
  cases q : R l with
  | none => rfl
  | some o => rw [S.sub l o q] at h; cases h
theorem Stp.new {σ : St} {H R H' R' : Hp} {l : Addr} (x : Stp O σ H R H' R') (h : H' l = none) : H l = none := by
  cases q : H l with
  | none => rfl
  | some o => exact absurd h (x.d l (by rw [q]; exact fun z => nomatch z)).1
theorem mn_lst (h : MA K O tr fs) : MN K O (tLst tr) (mLst fs) := fun Z σ H R ρ ds ρ' Q S e k => by
  obtain ⟨xs, ρ1, e1, e⟩ := mBind_some e
  obtain ⟨e2, rfl⟩ := mLift_some e
  refine h Z σ H R ρ xs _ _ S e1 fun vs H1 R1 S1 st1 r1 => ?_
  split at e2
  · rename_i hz
    cases e2
    refine ⟨by rw [r1.length]; exact hz, fun p np => ?_⟩
    have x := Ext.hid (o := .lst vs) S1.sub np
    exact k p vs _ _ (S1.ext x) (st1.trans x.stp) (st1.new np) upd_same (S1.out np) r1
  · cases e2
noncomputable def CallS (K : PySem.W.Frag) (r : List V → Hp → VK → Prop) (g : D → Option D) : Prop := ∀ (H : Hp) (x : V) (d u : D) (Q : VK), Rp K H x d → g d = some u → (∀ v, Sc v u → Q v H) → r [x] H Q
noncomputable def mOp1 (g : D → Option D) (f : Rho → Option (D × Rho)) : Rho → Option (D × Rho) := mBind f fun x => mLift (g x)
theorem me_call1 {r : List V → Hp → VK → Prop} {g : D → Option D} (h : CallS K r g) (ha : MB K O t fa) : ME K O (tCB r (tCons t tNil)) (mOp1 g fa) := fun Z σ H R ρ d ρ' Q S e k => by
  obtain ⟨x, ρ1, e1, e⟩ := mBind_some e
  obtain ⟨e2, rfl⟩ := mLift_some e
  refine ha Z σ H R ρ x _ _ S e1 fun v H1 R1 S1 st1 r1 => ?_
  exact h H1 v x d Q r1 e2 fun w z => k w H1 R1 S1 st1 z.rp
noncomputable def dLen : D → Option D
  | .lst xs => some (.int xs.length)
  | .tup xs => some (.int xs.length)
  | _ => none
theorem cs_len : CallS K (fun xs H Q => ∃ p ys, xs = [.ref p] ∧ (SqL K H p ys ∨ SqT K H p ys) ∧ Q (.int ys.length) H) dLen := fun H x d u Q r e k => by
  (first | split at e | (unfold dLen at e; split at e))
  · obtain ⟨_, _, rfl, h, q⟩ := r.isL
    cases e
    refine ⟨_, _, rfl, .inl h, ?_⟩
    rw [q.length]
    exact k _ (.int _)
  · obtain ⟨_, _, rfl, h, q⟩ := r.isT
    cases e
    refine ⟨_, _, rfl, .inr (SqT.of h), ?_⟩
    rw [q.length]
    exact k _ (.int _)
  · cases e
noncomputable def dInt : D → Option D
  | .int i => some (.int i)
  | .bl b => some (.int (if b then 1 else 0))
  | _ => none
theorem cs_int : CallS K (fun xs H Q => (∃ i, xs = [.int i] ∧ Q (.int i) H) ∨ ∃ k, xs = [.bl k] ∧ Q (.int (if k then 1 else 0)) H) dInt := fun H x d u Q r e k => by
  (first | split at e | (unfold dInt at e; split at e))
  · rename_i i
    obtain rfl := r.isA rfl
    cases e
    exact .inl ⟨i, rfl, k _ (.int _)⟩
  · rename_i b
    obtain rfl := r.isA rfl
    cases e
    exact .inr ⟨b, rfl, k _ (.int _)⟩
  · cases e
noncomputable def intsD : List D → Option (List Int)
  | [] => some []
  | .int i :: r => (intsD r).map (i :: ·)
  | _ => none
noncomputable def boolsD : List D → Option (List Bool)
  | [] => some []
  | .bl i :: r => (boolsD r).map (i :: ·)
  | _ => none
theorem boolsD_rps {R : Hp} : ∀ {xs : List V} {ds : List D} {ns : List Bool}, Rps K R xs ds → boolsD ds = some ns → xs = ns.map V.bl
  | _, _, ns, .nil, e => by cases e; rfl
  | _, _, ns, .cons (d := d) h r, e => by
    cases h with
    | bl i =>
      unfold boolsD at e
      cases q : boolsD _ with
      | none => rw [q] at e; cases e
      | some ms => rw [q] at e; cases e; rw [boolsD_rps r q]; rfl
    | _ => cases e
noncomputable def dSum : D → Option D
  | .lst xs => (intsD xs).map fun ns => .int ns.sum
  | _ => none
noncomputable def dAll : D → Option D
  | .lst xs => (boolsD xs).map fun bs => .bl (bs.all id)
  | _ => none
theorem cs_all : CallS K (fun xs H Q => ∃ (p : Addr) (bs : List Bool), xs = [.ref p] ∧ SqL K H p (bs.map V.bl) ∧ Q (.bl (bs.all id)) H) dAll := fun H x d u Q r e k => by
  cases r with
  | lst h q =>
    rename_i ds
    have e' : (boolsD ds).map (fun bs => D.bl (bs.all id)) = some u := e
    cases z : boolsD ds with
    | none => rw [z] at e'; cases e'
    | some ns =>
      rw [z] at e'
      cases e'
      have ex := boolsD_rps q z
      subst ex
      exact ⟨_, ns, rfl, h, k _ (.bl _)⟩
  | _ => cases e
end
noncomputable def ItOk (K : PySem.W.Frag) (J : It) (R : Hp) (ds : List D) : Prop := ∀ (H' R' : Hp), Same R R' → (∀ a o, R' a = some o → H' a = some o) → ∀ i : Nat, (i = ds.length → J.stop i H') ∧ ∀ d, ds[i]? = some d → J.go i H' ∧ ∀ x H'', J.yld i H' x H'' → ∃ R'', Ext H' R' H'' R'' ∧ Rp K R'' x d
theorem ItOk.mono {K : PySem.W.Frag} {J : It} {R R1 : Hp} {ds : List D} (h : ItOk K J R ds) (s : Same R R1) : ItOk K J R1 ds := fun H' R' s' b => h H' R' (s.trans s') b
noncomputable def MI (K : PySem.W.Frag) (O : List Nat) (wi : TI) (f : Rho → Option (List D × Rho)) : Prop := ∀ (Z : Anc) (σ : St) (H R : Hp) (ρ : Rho) (ds : List D) (ρ' : Rho) (Q : It → Hp → Prop), StR K Z O σ H R ρ → f ρ = some (ds, ρ') → (∀ J H' R', StR K Z O σ H' R' ρ' → Stp O σ H R H' R' → ItOk K J R' ds → Q J H') → wi σ H Q
noncomputable def iSeq (K : PySem.W.Frag) (tl : TE) : TI := fun σ H R => iList K tl σ H R ∨ iTup K tl σ H R
theorem pi_seqK {X : Cx} {K : PySem.W.Frag} {tg l : Expr} {tl : TE} (h : X.K = K) (hl : PE X l tl) : PI X tg l (iSeq K tl) := fun pins s σ H R I q => by
  rcases q with q | q
  · exact pi_listK h hl pins s σ H R I q
  · exact pi_tupK h hl pins s σ H R I q
noncomputable def mSeq (f : Rho → Option (D × Rho)) : Rho → Option (List D × Rho) := mBind f fun d => mLift (match d with
  | .lst xs => some xs
  | .tup xs => some xs
  | _ => none)
section
variable {K : PySem.W.Frag} {O : List Nat} {t : TE} {tr : TA} {fa : Rho → Option (D × Rho)} {fs : Rho → Option (List D × Rho)}
theorem it_list {R : Hp} {a : Addr} {xs : List V} {ds : List D} (h : SqL K R a xs) (r : Rps K R xs ds) : ItOk K (Itl K a) R ds := fun H' R' s b i => by
  have q : SqL K H' a xs := Same.sqL b (Same.sqL s h)
  refine ⟨fun e => ⟨xs, q, by rw [r.length]; omega⟩, fun d e => ?_⟩
  obtain ⟨v, h1, h2⟩ := r.get e
  refine ⟨⟨xs, v, q, h1⟩, fun x H'' y => ?_⟩
  obtain ⟨rfl, y⟩ := y
  have ex := y xs q
  rw [h1] at ex
  cases ex
  exact ⟨R', Ext.refl b, h2.mono s⟩
theorem it_tup {R : Hp} {a : Addr} {xs : List V} {ds : List D} (h : SqT K R a xs) (r : Rps K R xs ds) : ItOk K (Itt K a) R ds := fun H' R' s b i => by
  have q : SqT K H' a xs := Same.tup b (Same.tup s h)
  refine ⟨fun e => ⟨xs, q, by rw [r.length]; omega⟩, fun d e => ?_⟩
  obtain ⟨v, h1, h2⟩ := r.get e
  refine ⟨⟨xs, v, q, h1⟩, fun x H'' y => ?_⟩
  obtain ⟨rfl, y⟩ := y
  have ex := y xs q
  rw [h1] at ex
  cases ex
  exact ⟨R', Ext.refl b, h2.mono s⟩
theorem mi_seq (h : ME K O t fa) : MI K O (iSeq K t) (mSeq fa) := fun Z σ H R ρ ds ρ' Q S e k => by
  obtain ⟨d, ρ1, e1, e⟩ := mBind_some e
  obtain ⟨e2, rfl⟩ := mLift_some e
  cases d with
  | lst xs =>
    cases e2
    refine .inl (h Z σ H R ρ _ _ _ S e1 fun v H1 R1 S1 st1 r1 => ?_)
    obtain ⟨_, _, rfl, q, r⟩ := r1.isL
    exact ⟨_, rfl, ⟨_, Same.sqL S1.same q⟩, k _ H1 R1 S1 st1 (it_list q r)⟩
  | tup xs =>
    cases e2
    refine .inr (h Z σ H R ρ _ _ _ S e1 fun v H1 R1 S1 st1 r1 => ?_)
    obtain ⟨_, _, rfl, q, r⟩ := r1.isT
    exact ⟨_, rfl, ⟨_, SqT.of (S1.same _ _ q)⟩, k _ H1 R1 S1 st1 (it_tup (SqT.of q) r)⟩
  | _ => cases e2
noncomputable def rangeD (lo : Int) (n : Nat) : List D := (List.range n).map fun (k : Nat) => D.int (lo + (k : Int))
theorem it_range {R : Hp} (lo : Int) (n : Nat) : ItOk K (Itr lo n) R (rangeD lo n) := fun H' R' s b i => by
  have len : (rangeD lo n).length = n := by simp [rangeD]
  refine ⟨fun e => by show n ≤ i; omega, fun d e => ?_⟩
  have hi : i < n := by
    have := (List.getElem?_eq_some_iff.mp e).1
    omega
  have ed : d = D.int (lo + (i : Int)) := by
    unfold rangeD at e
    rw [List.getElem?_map, List.getElem?_range hi] at e
    exact (Option.some.inj e).symm
  subst ed
  refine ⟨hi, fun x H'' y => ?_⟩
  obtain ⟨rfl, rfl⟩ := y
  exact ⟨R', Ext.refl b, .int _⟩
noncomputable def big (j : Int) : Bool := decide (-(2 ^ 62) ≤ j) && decide (j < 2 ^ 62)
noncomputable def mRng1 (f : Rho → Option (List D × Rho)) : Rho → Option (List D × Rho) := mBind f fun ds => mLift (match ds with
  | [.int j] => if big j = true then some (rangeD 0 j.toNat) else none
  | _ => none)
theorem mi_range1 (h : MA K O tr fs) : MI K O (iRng1 tr) (mRng1 fs) := fun Z σ H R ρ ds ρ' Q S e k => by
  obtain ⟨xs, ρ1, e1, e⟩ := mBind_some e
  obtain ⟨e2, rfl⟩ := mLift_some e
  split at e2
  · rename_i j
    split at e2
    · rename_i hb
      cases e2
      refine h Z σ H R ρ _ _ _ S e1 fun vs H1 R1 S1 st1 r1 => ?_
      obtain ⟨_, _, rfl, q, r⟩ := r1.isC
      (first | obtain rfl := r.isA rfl | cases r)
      (first | obtain rfl := q.isA rfl | cases q)
      unfold big at hb
      rw [Bool.and_eq_true] at hb
      exact ⟨j, rfl, of_decide_eq_true hb.1, of_decide_eq_true hb.2, k _ H1 R1 S1 st1 (it_range 0 _)⟩
    · cases e2
  · cases e2
end
noncomputable def MG (K : PySem.W.Frag) (O T : List Nat) (g : TG) (f : D → Rho → Option Rho) : Prop := ∀ (Z : Anc) (σ : St) (H R : Hp) (ρ : Rho) (x : V) (d : D) (ρ' : Rho) (Q : St → Hp → Prop), StR K Z O σ H R ρ → Rp K R x d → f d ρ = some ρ' → (∀ σ', StR K Z O σ' H R ρ' → (∀ j, j ∉ T → σ'[j]? = σ[j]?) → Q σ' H) → g x σ H Q
noncomputable def MGs (K : PySem.W.Frag) (O T : List Nat) (g : TGs) (f : List D → Rho → Option Rho) : Prop := ∀ (Z : Anc) (σ : St) (H R : Hp) (ρ : Rho) (xs : List V) (ds : List D) (ρ' : Rho) (Q : St → Hp → Prop), StR K Z O σ H R ρ → Rps K R xs ds → f ds ρ = some ρ' → (∀ σ', StR K Z O σ' H R ρ' → (∀ j, j ∉ T → σ'[j]? = σ[j]?) → Q σ' H) → g xs σ H Q
noncomputable def gSet (i : Nat) : D → Rho → Option Rho := fun d ρ => some (ρ.set i (some d))
noncomputable def gsNil : List D → Rho → Option Rho := fun ds ρ => match ds with
  | [] => some ρ
  | _ => none
noncomputable def gsCons (f : D → Rho → Option Rho) (g : List D → Rho → Option Rho) : List D → Rho → Option Rho := fun ds ρ => match ds with
  | d :: r => match f d ρ with
    | some ρ1 => g r ρ1
    | none => none
  | [] => none
noncomputable def gTupD (n : Nat) (f : List D → Rho → Option Rho) : D → Rho → Option Rho := fun d ρ => match d with
  | .tup ds => if ds.length = n then f ds ρ else none
  | _ => none
section
variable {K : PySem.W.Frag} {O T T' : List Nat} {g : TG} {gs : TGs} {f : D → Rho → Option Rho} {fs : List D → Rho → Option Rho}
theorem mg_name {i : Nat} (hi : i ∉ O := by decide) : MG K O [i] (gName i) (gSet i) := fun Z σ H R ρ x d ρ' Q S r e k => by
  cases e
  exact k _ (S.set hi r) fun j hj => List.getElem?_set_ne (fun (z : i = j) => hj (by rw [z]; exact List.mem_singleton_self j))
theorem mgs_nil : MGs K O [] gNil gsNil := fun Z σ H R ρ xs ds ρ' Q S r e k => by
  cases r with
  | nil => cases e; exact ⟨rfl, k σ S fun _ _ => rfl⟩
  | cons _ _ => cases e
theorem mgs_cons (h : MG K O T g f) (h2 : MGs K O T' gs fs) : MGs K O (T ++ T') (gCons g gs) (gsCons f fs) := fun Z σ H R ρ xs ds ρ' Q S r e k => by
  cases r with
  | nil => cases e
  | cons q r =>
    rename_i x xs d ds
    unfold gsCons at e
    cases e1 : f d ρ with
    | none => simp only [e1] at e; cases e
    | some ρ1 =>
      simp only [e1] at e
      refine ⟨x, xs, rfl, h Z σ H R ρ x d ρ1 _ S q e1 fun σ1 S1 n1 => h2 Z σ1 H R ρ1 xs ds ρ' _ S1 r e fun σ2 S2 n2 => ?_⟩
      refine k σ2 S2 fun j hj => ?_
      rw [List.mem_append, not_or] at hj
      rw [n2 j hj.2, n1 j hj.1]
theorem mg_tup {n : Nat} (h : MGs K O T gs fs) : MG K O T (gTup K n gs) (gTupD n fs) := fun Z σ H R ρ x d ρ' Q S r e k => by
  cases r with
  | tup q rs =>
    unfold gTupD at e
    simp only at e
    split at e
    · rename_i hn
      exact ⟨_, _, rfl, SqT.of (S.same _ _ q), by rw [rs.length]; exact hn, h Z σ H R ρ _ _ ρ' Q S rs e k⟩
    · cases e
  | _ => cases e
end
noncomputable def capsR (n : Nat) (js : List Nat) (ρ : Rho) : Rho := List.replicate n none ++ js.map fun j => (ρ[j]?).join
noncomputable def bwO : Option (Nat × Nat) → List Nat
  | none => []
  | some p => [p.2]
noncomputable def backR (bw : Option (Nat × Nat)) (ρ ρb : Rho) : Rho := match bw with
  | none => ρ
  | some p => match ρb[p.2]? with
    | some x => ρ.set p.1 x
    | none => ρ
noncomputable def bwOk (n : Nat) (js O : List Nat) (bw : Option (Nat × Nat)) : Bool := match bw with
  | none => js.all fun j => !O.contains j
  | some p => O.contains p.1 && decide (n ≤ p.2) && decide (js[p.2 - n]? = some p.1) && (List.range js.length).all fun k => decide (n + k = p.2) || !O.contains (js.getD k 0)
noncomputable def compRun (n : Nat) (js : List Nat) (bw : Option (Nat × Nat)) (fg : D → Rho → Option Rho) (ft : Rho → Option (Bool × Rho)) (fe : Rho → Option (D × Rho)) : List D → Rho → Option (List D × Rho)
  | [], ρ => some ([], ρ)
  | d :: r, ρ => match fg d (capsR n js ρ) with
    | none => none
    | some ρ1 => match ft ρ1 with
      | none => none
      | some (false, ρ2) => compRun n js bw fg ft fe r (backR bw ρ ρ2)
      | some (true, ρ2) => match fe ρ2 with
        | none => none
        | some (y, ρ3) => match compRun n js bw fg ft fe r (backR bw ρ ρ3) with
          | none => none
          | some (ys, ρ4) => some (y :: ys, ρ4)
section
variable {K : PySem.W.Frag} {Z Z' : Anc} {O : List Nat} {σ σ4 : St} {H R H6 R6 : Hp} {ρ ρ3 : Rho} {n : Nat} {js : List Nat} {bw : Option (Nat × Nat)}
theorem capsR_len : (capsR n js ρ).length = n + js.length := by simp [capsR]
theorem capsR_cap {i : Nat} {d : D} (e : (capsR n js ρ)[i]? = some (some d)) : n ≤ i ∧ ∃ j, js[i - n]? = some j ∧ ρ[j]? = some (some d) := by
  unfold capsR at e
  by_cases h : i < n
  · rw [List.getElem?_append_left (by simpa using h), List.getElem?_replicate, if_pos h] at e
    cases e
  · refine ⟨by omega, ?_⟩
    rw [List.getElem?_append_right (by simp; omega), List.length_replicate, List.getElem?_map] at e
    cases q : js[i - n]? with
    | none => rw [q] at e; cases e
    | some j =>
      rw [q] at e
      refine ⟨j, rfl, ?_⟩
      have e' : (ρ[j]?).join = some d := Option.some.inj e
      cases z : ρ[j]? with
      | none => rw [z] at e'; cases e'
      | some o => rw [z] at e'; have : o = some d := e'; rw [this]
theorem capsR_at {i j : Nat} (h : n ≤ i) (e : js[i - n]? = some j) {d : D} (q : ρ[j]? = some (some d)) : (capsR n js ρ)[i]? = some (some d) := by
  unfold capsR
  rw [List.getElem?_append_right (by simp; omega), List.length_replicate, List.getElem?_map, e]
  show some ((ρ[j]?).join) = _
  rw [q]
  rfl
theorem caps_at {i j : Nat} (h : n ≤ i) (e : js[i - n]? = some j) {v : V} (q : σ[j]? = some (some v)) : (caps n js σ)[i]? = some (some v) := by
  unfold caps
  rw [List.getElem?_append_right (by simp; omega), List.length_replicate, List.getElem?_map, e]
  show some ((σ[j]?).join) = _
  rw [q]
  rfl
noncomputable def bwL (bw : Option (Nat × Nat)) (σ : St) : Addr → Prop := match bw with
  | none => fun _ => False
  | some p => fun l => σ[p.1]? = some (some (.ref l))
theorem StR.block (S : StR K Z O σ H R ρ) (hb : bwOk n js O bw = true) : StR K ⟨H, R, bwL bw σ, bwO bw⟩ (bwO bw) (caps n js σ) H R (capsR n js ρ) := by
  have noO : ∀ i j, n ≤ i → js[i - n]? = some j → i ∉ bwO bw → j ∉ O := fun i j hi hj hn hO => by
    cases bw with
    | none =>
      unfold bwOk at hb
      have z := List.all_eq_true.mp hb j (List.mem_of_getElem? hj)
      simp at z
      exact z hO
    | some p =>
      unfold bwOk at hb
      simp only [Bool.and_eq_true] at hb
      have hk : i - n < js.length := (List.getElem?_eq_some_iff.mp hj).1
      have z := List.all_eq_true.mp hb.2 (i - n) (List.mem_range.mpr hk)
      have ej : js.getD (i - n) 0 = j := by rw [List.getD_eq_getElem?_getD, hj]; rfl
      rw [ej] at z
      simp only [Bool.or_eq_true, decide_eq_true_eq] at z
      rcases z with z | z
      · exact hn (by show i ∈ [p.2]; rw [List.mem_singleton]; omega)
      · simp at z; exact z hO
  have inO : ∀ p, bw = some p → p.1 ∈ O ∧ n ≤ p.2 ∧ js[p.2 - n]? = some p.1 := fun p e => by
    subst e
    unfold bwOk at hb
    simp only [Bool.and_eq_true, decide_eq_true_eq] at hb
    exact ⟨by simpa using hb.1.1.1, hb.1.1.2, hb.1.2⟩
  have only : ∀ i, i ∈ bwO bw → ∃ p, bw = some p ∧ i = p.2 := fun i hi => by
    cases bw with
    | none => exact absurd hi (by simp [bwO])
    | some p => exact ⟨p, rfl, by simpa [bwO] using hi⟩
  refine ⟨S.sub, by rw [capsR_len, caps_len], fun i d hi e => ?_, fun i hi => ?_, fun i j hi hj hn => ?_, fun a o e _ => e, Same.refl _, fun a h => .inl h, fun a h => .refl h, fun i hi hp => absurd hi hp, fun i hi _ l e => ?_⟩
  · obtain ⟨h1, j, h2, h3⟩ := capsR_cap e
    obtain ⟨v, q1, q2⟩ := S.env j d (noO i j h1 h2 hi) h3
    exact ⟨v, caps_at h1 h2 q1, q2⟩
  · obtain ⟨p, rfl, rfl⟩ := only i hi
    obtain ⟨h1, h2, h3⟩ := inO p rfl
    obtain ⟨l, vs, ds, q1, q2, q3⟩ := S.own p.1 h1
    exact ⟨l, vs, ds, capsR_at h2 h3 q1, caps_at h2 h3 q2, q3⟩
  · obtain ⟨p, rfl, rfl⟩ := only i hi
    obtain ⟨p', e, rfl⟩ := only j hj
    cases e
    exact absurd rfl hn
  · obtain ⟨p, rfl, rfl⟩ := only i hi
    obtain ⟨h1, h2, h3⟩ := inO p rfl
    obtain ⟨l', vs, ds, q1, q2, q3⟩ := S.own p.1 h1
    rw [caps_at h2 h3 q2] at e
    cases e
    exact q2
theorem StR.back (S : StR K Z O σ H R ρ) (hb : bwOk n js O bw = true) (Sb : StR K Z' (bwO bw) σ4 H6 R6 ρ3) (st : Stp (bwO bw) σ4 H R H6 R6) (hσ : ∀ p, bw = some p → σ4[p.2]? = σ[p.1]?) :
    StR K Z O σ H6 R6 (backR bw ρ ρ3) ∧ Stp O σ H R H6 R6 := by
  have inO : ∀ p, bw = some p → p.1 ∈ O := fun p e => by
    subst e
    unfold bwOk at hb
    simp only [Bool.and_eq_true, decide_eq_true_eq] at hb
    simpa using hb.1.1.1
  have only : ∀ i, i ∈ bwO bw → ∃ p, bw = some p ∧ i = p.2 := fun i hi => by
    cases bw with
    | none => exact absurd hi (by simp [bwO])
    | some p => exact ⟨p, rfl, by simpa [bwO] using hi⟩
  have st' : Stp O σ H R H6 R6 := ⟨st.r, fun a o e n => st.h a o e fun i hi z => by
    obtain ⟨p, e1, rfl⟩ := only i hi
    rw [hσ p e1] at z
    exact n p.1 (inO p e1) z, st.n, st.d⟩
  have keepH0 : ∀ a o, Z.H0 a = some o → ¬ Z.L a → H6 a = some o := fun a o e n => by
    refine st'.h a o (S.ah a o e n) fun i hi z => ?_
    by_cases hp : i ∈ Z.P
    · exact n (S.ap i hi hp a z)
    · rw [S.ao i hi hp a z] at e; cases e
  have len : (backR bw ρ ρ3).length = ρ.length := by
    unfold backR
    cases bw with
    | none => rfl
    | some p =>
      dsimp only
      split
      · rw [List.length_set]
      · rfl
  have other : ∀ i, (∀ p, bw = some p → p.1 ≠ i) → (backR bw ρ ρ3)[i]? = ρ[i]? := fun i h => by
    unfold backR
    cases bw with
    | none => rfl
    | some p =>
      dsimp only
      split
      · rw [List.getElem?_set_ne (h p rfl)]
      · rfl
  refine ⟨⟨Sb.sub, by rw [len]; exact S.len, fun i d hi e => ?_, fun i hi => ?_, S.dis, keepH0, S.ar.trans st.r, fun a h => ?_, fun a h => (S.ad a h).trans (st.d a (S.ad a h).1), S.ao, S.ap⟩, st'⟩
  · rw [other i fun p e1 z => hi (z ▸ inO p e1)] at e
    obtain ⟨v, h1, h2⟩ := S.env i d hi e
    exact ⟨v, h1, h2.mono st.r⟩
  · by_cases hp : ∃ p, bw = some p ∧ p.1 = i
    · obtain ⟨p, rfl, rfl⟩ := hp
      obtain ⟨l, vs, ds, q1, q2, q3, q4, q5⟩ := Sb.own p.2 (by simp [bwO])
      rw [hσ p rfl] at q2
      obtain ⟨_, _, _, g1, _⟩ := S.own p.1 hi
      have hlen : p.1 < ρ.length := (List.getElem?_eq_some_iff.mp g1).1
      refine ⟨l, vs, ds, ?_, q2, q3, q4, q5⟩
      unfold backR
      dsimp only
      rw [q1]
      exact List.getElem?_set_self hlen
    · have hne : ∀ p, bw = some p → p.1 ≠ i := fun p e z => hp ⟨p, e, z⟩
      obtain ⟨l, vs, ds, q1, q2, q3, q4, q5⟩ := S.own i hi
      have nob : ∀ j, j ∈ bwO bw → σ4[j]? ≠ some (some (.ref l)) := fun j hj z => by
        obtain ⟨p, e1, rfl⟩ := only j hj
        rw [hσ p e1] at z
        exact S.dis p.1 i (inO p e1) hi (hne p e1) l z q2
      refine ⟨l, vs, ds, by rw [other i hne]; exact q1, q2, st.h l _ q3 nob, ?_, q5.mono st.r⟩
      cases q : R6 l with
      | none => rfl
      | some o =>
        rcases st.n l (by rw [q]; exact fun z => nomatch z) with z | z
        · exact absurd q4 z
        · exact (q5.noF q3 z).elim
  · rcases st.n a h with z | z
    · exact S.an a z
    · exact .inr (z.back (S.ad a))
end
theorem cgo_mirror {K : PySem.W.Frag} {Z : Anc} {O T : List Nat} {σ : St} {H R : Hp} {ρ ρ' : Rho} {n : Nat} {js : List Nat} {bw : Option (Nat × Nat)} {g : TG} {tt : TT} {te : TE} {fg : D → Rho → Option Rho} {ft : Rho → Option (Bool × Rho)} {fe : Rho → Option (D × Rho)} {J : It} {ds ys : List D} {Fin : List V → Hp → Prop}
    (hb : bwOk n js O bw = true) (hg : MG K (bwO bw) T g fg) (hT : ∀ p, bw = some p → p.2 ∉ T) (ht : MT K (bwO bw) tt ft) (he : ME K (bwO bw) te fe) (S : StR K Z O σ H R ρ) (ok : ItOk K J R ds) (e : compRun n js bw fg ft fe ds ρ = some (ys, ρ')) (hz : ds.length ≤ sizeLine)
    (fin : ∀ vs H' R', StR K Z O σ H' R' ρ' → Stp O σ H R H' R' → Rps K R' vs ys → vs.length ≤ sizeLine → Fin vs H') : cGo g tt te (caps n js σ) Fin J H := by
  refine ⟨fun i m vs H2 => m = ds.length - i ∧ i ≤ ds.length ∧ vs.length ≤ i ∧ ∃ R2 ρ2 ys1 ys2, StR K Z O σ H2 R2 ρ2 ∧ Stp O σ H R H2 R2 ∧ Rps K R2 vs ys1 ∧ compRun n js bw fg ft fe (ds.drop i) ρ2 = some (ys2, ρ') ∧ ys1 ++ ys2 = ys,
    ⟨ds.length, by simp, Nat.zero_le _, Nat.zero_le _, R, ρ, [], ys, S, Stp.refl _ _ _ _, .nil, by rw [List.drop_zero]; exact e, rfl⟩, ?_⟩
  rintro i m vs H2 ⟨rfl, hi, hv, R2, ρ2, ys1, ys2, S2, st2, r2, e2, ey⟩
  obtain ⟨o1, o2⟩ := ok H2 R2 st2.r S2.sub i
  by_cases hlt : i < ds.length
  · obtain ⟨g1, g2⟩ := o2 ds[i] (List.getElem?_eq_getElem hlt)
    rw [List.drop_eq_getElem_cons hlt] at e2
    refine .inr ⟨g1, by omega, fun vs' H' => ∃ R' ρ2 ys1 ys2, vs'.length ≤ i + 1 ∧ StR K Z O σ H' R' ρ2 ∧ Stp O σ H R H' R' ∧ Rps K R' vs' ys1 ∧ compRun n js bw fg ft fe (ds.drop (i + 1)) ρ2 = some (ys2, ρ') ∧ ys1 ++ ys2 = ys, ?_, fun x H3 y => ?_⟩
    · rintro vs' H' ⟨R', ρ3, zs1, zs2, q0, q1, q2, q3, q4, q5⟩
      exact ⟨ds.length - (i + 1), by omega, rfl, hlt, q0, R', ρ3, zs1, zs2, q1, q2, q3, q4, q5⟩
    · obtain ⟨R3, x3, r3⟩ := g2 x H3 y
      have S3 := S2.ext x3
      have B3 := S3.block hb
      unfold compRun at e2
      cases e3 : fg ds[i] (capsR n js ρ2) with
      | none => rw [e3] at e2; cases e2
      | some ρb1 =>
        rw [e3] at e2
        dsimp only at e2
        refine hg _ _ _ _ _ x _ ρb1 _ B3 r3 e3 fun σ4 S4 n4 => ?_
        have cap : ∀ p, bw = some p → σ4[p.2]? = σ[p.1]? := fun p e1 => by
          rw [n4 p.2 (hT p e1)]
          subst e1
          unfold bwOk at hb
          simp only [Bool.and_eq_true, decide_eq_true_eq] at hb
          obtain ⟨l, _, _, _, q2, _⟩ := S3.own p.1 (by simpa using hb.1.1.1)
          rw [caps_at hb.1.1.2 hb.1.2 q2, q2]
        cases e4 : ft ρb1 with
        | none => rw [e4] at e2; cases e2
        | some c =>
          obtain ⟨b, ρb2⟩ := c
          rw [e4] at e2
          refine ht _ σ4 H3 R3 ρb1 b ρb2 _ S4 e4 fun H5 R5 S5 st5 => ?_
          cases b with
          | false =>
            dsimp only at e2
            obtain ⟨T1, T2⟩ := S3.back hb S5 st5 cap
            exact iteF ⟨R5, _, ys1, ys2, by omega, T1, (st2.trans x3.stp).trans T2, (r2.mono x3.r).mono st5.r, e2, ey⟩
          | true =>
            dsimp only at e2
            cases e5 : fe ρb2 with
            | none => rw [e5] at e2; cases e2
            | some c =>
              obtain ⟨y0, ρb3⟩ := c
              rw [e5] at e2
              dsimp only at e2
              cases e6 : compRun n js bw fg ft fe (ds.drop (i + 1)) (backR bw ρ2 ρb3) with
              | none => rw [e6] at e2; cases e2
              | some c =>
                obtain ⟨zs, ρ6⟩ := c
                rw [e6] at e2
                dsimp only at e2
                cases e2
                refine iteT (he _ σ4 H5 R5 ρb2 y0 ρb3 _ S5 e5 fun w H6 R6 S6 st6 r6 => ?_)
                obtain ⟨T1, T2⟩ := S3.back hb S6 (st5.trans st6) cap
                refine ⟨R6, _, ys1 ++ [y0], zs, by rw [List.length_append]; show vs.length + 1 ≤ i + 1; omega, T1, (st2.trans x3.stp).trans T2, (((r2.mono x3.r).mono st5.r).mono st6.r).snoc r6, e6, ?_⟩
                rw [← ey, List.append_assoc]
                rfl
  · have ei : i = ds.length := by omega
    subst ei
    rw [List.drop_length] at e2
    unfold compRun at e2
    cases e2
    rw [List.append_nil] at ey
    subst ey
    exact .inl ⟨o1 rfl, by omega, fin vs H2 R2 S2 st2 r2 (by omega)⟩
noncomputable def mComp (n : Nat) (js : List Nat) (bw : Option (Nat × Nat)) (fi : Rho → Option (List D × Rho)) (fg : D → Rho → Option Rho) (ft : Rho → Option (Bool × Rho)) (fe : Rho → Option (D × Rho)) : Rho → Option (List D × Rho) := mBind fi fun ds ρ => if ds.length ≤ sizeLine then compRun n js bw fg ft fe ds ρ else none
theorem mt_yes {K : PySem.W.Frag} {O : List Nat} : MT K O tYes (mRet true) := fun Z σ H R ρ b ρ' Q S e k => by
  cases e
  exact k H R S (Stp.refl _ _ _ _)
theorem mn_comp {K : PySem.W.Frag} {O T : List Nat} {n : Nat} {js : List Nat} {bw : Option (Nat × Nat)} {wi : TI} {g : TG} {tt : TT} {te : TE} {fi : Rho → Option (List D × Rho)} {fg : D → Rho → Option Rho} {ft : Rho → Option (Bool × Rho)} {fe : Rho → Option (D × Rho)}
    (hi : MI K O wi fi) (hg : MG K (bwO bw) T g fg) (ht : MT K (bwO bw) tt ft) (he : ME K (bwO bw) te fe) (hb : bwOk n js O bw = true := by decide) (hT : ∀ p, bw = some p → p.2 ∉ T := by decide) : MN K O (tComp n js wi g tt te) (mComp n js bw fi fg ft fe) := fun Z σ H R ρ ds ρ' Q S e k => by
  obtain ⟨xs, ρ1, e1, e⟩ := mBind_some e
  split at e
  · rename_i hz
    refine hi Z σ H R ρ xs ρ1 _ S e1 fun J H1 R1 S1 st1 ok => ?_
    refine cgo_mirror hb hg hT ht he S1 ok e hz fun vs H2 R2 S2 st2 r2 l2 D nD => ?_
    have x := Ext.hid (o := .lst vs) S2.sub nD
    exact k D vs _ _ (S2.ext x) ((st1.trans st2).trans x.stp) ((st1.trans st2).new nD) upd_same (S2.out nD) r2
  · cases e
inductive Out where
  | nx (ρ : Rho)
  | rt (d : D) (ρ : Rho)
  | bk (ρ : Rho)
  | ct (ρ : Rho)
structure MC where
  K : PySem.W.Frag
  fr : Bool
  P : List Nat
  Ol : List Nat
noncomputable def Res (K : PySem.W.Frag) (fr : Bool) (H : Hp) (v : V) (d : D) (H' R' : Hp) : Prop := match fr with
  | false => Rp K R' v d
  | true => ∃ l vs ds, v = .ref l ∧ d = .lst ds ∧ H l = none ∧ H' l = some (.lst vs) ∧ R' l = none ∧ Rps K R' vs ds
noncomputable def Ends.ok (c : MC) (Z : Anc) (O' : List Nat) (R : Hp) (E : Ends) : Out → Prop
  | .nx ρ' => ∀ σ' H' R', StR c.K Z O' σ' H' R' ρ' → Same R R' → E.nx σ' H'
  | .bk ρ' => ∀ σ' H' R', StR c.K Z c.Ol σ' H' R' ρ' → Same R R' → E.bk σ' H'
  | .ct ρ' => ∀ σ' H' R', StR c.K Z c.Ol σ' H' R' ρ' → Same R R' → E.ct σ' H'
  | .rt d ρ' => ∀ v σ' H' R', StR c.K Z c.P σ' H' R' ρ' → Res c.K c.fr Z.H0 v d H' R' → E.rt v H'
noncomputable def MS (c : MC) (O O' : List Nat) (t : TS) (f : Rho → Option Out) : Prop := ∀ (Z : Anc) (E : Ends) (σ : St) (H R : Hp) (ρ : Rho) (o : Out), Z.P = c.P → StR c.K Z O σ H R ρ → f ρ = some o → E.ok c Z O' R o → t E σ H
noncomputable def subO (c : MC) (O O' : List Nat) : Bool := O'.all (fun i => O.contains i) && c.P.all fun i => !O.contains i || O'.contains i
section
variable {c : MC} {O O' O1 : List Nat} {t u : TS} {te : TE} {tt : TT} {g : TG} {f h : Rho → Option Out} {fe : Rho → Option (D × Rho)} {fn : Rho → Option (List D × Rho)} {ft : Rho → Option (Bool × Rho)} {fg : D → Rho → Option Rho}
theorem StR.sub' {Z : Anc} {σ : St} {H R : Hp} {ρ : Rho} (S : StR c.K Z O σ H R ρ) (hP : Z.P = c.P) (hs : subO c O O' = true) : StR c.K Z O' σ H (frzR O O' σ H R) ρ ∧ Same R (frzR O O' σ H R) := by
  unfold subO at hs
  simp only [Bool.and_eq_true, List.all_eq_true] at hs
  refine S.freeze (fun i hi => by simpa using hs.1 i hi) fun i hi hO => ?_
  rw [hP] at hi
  have z := hs.2 i hi
  simp only [Bool.or_eq_true] at z
  rcases z with z | z
  · simp at z; exact absurd hO z
  · simpa using z
noncomputable def sNil : Rho → Option Out := fun ρ => some (.nx ρ)
theorem ms_nil (hs : subO c O O' = true) : MS c O O' tNext sNil := fun Z E σ H R ρ o hP S e k => by
  cases e
  obtain ⟨S', s⟩ := S.sub' hP hs
  exact k σ H _ S' s
noncomputable def sSeq (f h : Rho → Option Out) : Rho → Option Out := fun ρ => match f ρ with
  | none => none
  | some (.nx ρ1) => h ρ1
  | some o => some o
theorem ms_seq (h1 : MS c O O1 t f) (h2 : MS c O1 O' u h) : MS c O O' (tSeq t u) (sSeq f h) := fun Z E σ H R ρ o hP S e k => by
  unfold sSeq at e
  cases e1 : f ρ with
  | none => rw [e1] at e; cases e
  | some o1 =>
    rw [e1] at e
    cases o1 with
    | nx ρ1 =>
      refine h1 Z _ σ H R ρ _ hP S e1 fun σ' H' R' S' s' => ?_
      refine h2 Z E σ' H' R' ρ1 o hP S' e ?_
      cases o with
      | nx ρ' => exact fun σ2 H2 R2 S2 s2 => k σ2 H2 R2 S2 (s'.trans s2)
      | bk ρ' => exact fun σ2 H2 R2 S2 s2 => k σ2 H2 R2 S2 (s'.trans s2)
      | ct ρ' => exact fun σ2 H2 R2 S2 s2 => k σ2 H2 R2 S2 (s'.trans s2)
      | rt d ρ' => exact k
    | bk ρ1 => cases e; exact h1 Z _ σ H R ρ _ hP S e1 k
    | ct ρ1 => cases e; exact h1 Z _ σ H R ρ _ hP S e1 k
    | rt d ρ1 => cases e; exact h1 Z _ σ H R ρ _ hP S e1 k
noncomputable def sSet (i : Nat) (fe : Rho → Option (D × Rho)) : Rho → Option Out := fun ρ => match fe ρ with
  | none => none
  | some (d, ρ1) => some (.nx (ρ1.set i (some d)))
theorem ms_set {i : Nat} (he : ME c.K O te fe) (hs : subO c O O' = true := by rfl) (hi : i ∉ O' := by decide) : MS c O O' (tAsg te (gName i)) (sSet i fe) := fun Z E σ H R ρ o hP S e k => by
  unfold sSet at e
  cases e1 : fe ρ with
  | none => rw [e1] at e; cases e
  | some p =>
    obtain ⟨d, ρ1⟩ := p
    rw [e1] at e
    cases e
    refine he Z σ H R ρ d ρ1 _ S e1 fun v H1 R1 S1 st1 r1 => ?_
    obtain ⟨S2, s2⟩ := S1.sub' hP hs
    exact k _ H1 _ (S2.set hi (r1.mono s2)) (st1.r.trans s2)
noncomputable def sOwn (i : Nat) (fn : Rho → Option (List D × Rho)) : Rho → Option Out := fun ρ => match fn ρ with
  | none => none
  | some (ds, ρ1) => if i < ρ1.length then some (.nx (ρ1.set i (some (.lst ds)))) else none
noncomputable def ownO (c : MC) (i : Nat) (O O' : List Nat) : Bool := subO c O (O'.filter fun j => decide (j ≠ i)) && O'.contains i && !c.P.contains i
theorem ms_own {i : Nat} (he : MN c.K O te fn) (hs : ownO c i O O' = true) : MS c O O' (tAsg te (gName i)) (sOwn i fn) := fun Z E σ H R ρ o hP S e k => by
  unfold sOwn at e
  unfold ownO at hs
  simp only [Bool.and_eq_true] at hs
  cases e1 : fn ρ with
  | none => rw [e1] at e; cases e
  | some p =>
    obtain ⟨ds, ρ1⟩ := p
    rw [e1] at e
    dsimp only at e
    split at e
    · rename_i hlen
      cases e
      refine he Z σ H R ρ ds ρ1 _ S e1 fun l vs H1 R1 S1 st1 h0 hH hR r1 => ?_
      obtain ⟨S2, s2⟩ := S1.sub' hP hs.1.1
      have notown : ∀ j, j ∈ O → σ[j]? ≠ some (some (.ref l)) := S.notnew h0
      have hO' : ∀ j, j ∈ O'.filter (fun j => decide (j ≠ i)) → j ∈ O := fun j hj => by
        have z := hs.1.1
        unfold subO at z
        simp only [Bool.and_eq_true, List.all_eq_true] at z
        simpa using z.1 j hj
      refine k _ H1 _ (S2.take (i := i) (l := l) (vs := .lst vs) (ds := .lst ds) (by simp) (by simpa using hs.1.2) (fun j hj => ?_) (by rw [hP]; simpa using hs.2) hlen (S.new0 h0) hH ?_ (fun j hj => notown j (hO' j hj)) (fun j hj => (List.mem_filter.mp hj).1) (.lst (r1.mono s2))) (st1.r.trans s2)
      · by_cases z : j = i
        · exact .inl z
        · exact .inr (List.mem_filter.mpr ⟨hj, by simpa using z⟩)
      · unfold frzR
        rw [if_neg ?_]
        · exact hR
        · rintro ⟨j, hj, _, z⟩
          exact notown j hj z
    · cases e
noncomputable def sIf (ft : Rho → Option (Bool × Rho)) (f h : Rho → Option Out) : Rho → Option Out := fun ρ => match ft ρ with
  | none => none
  | some (b, ρ1) => if b = true then f ρ1 else h ρ1
theorem ms_if (ht : MT c.K O tt ft) (h1 : MS c O O' t f) (h2 : MS c O O' u h) : MS c O O' (tIfS tt t u) (sIf ft f h) := fun Z E σ H R ρ o hP S e k => by
  unfold sIf at e
  cases e1 : ft ρ with
  | none => rw [e1] at e; cases e
  | some p =>
    obtain ⟨b, ρ1⟩ := p
    rw [e1] at e
    dsimp only at e
    refine ht Z σ H R ρ b ρ1 _ S e1 fun H1 R1 S1 st1 => ?_
    have k' : E.ok c Z O' R1 o := by
      cases o with
      | nx ρ' => exact fun σ2 H2 R2 S2 s2 => k σ2 H2 R2 S2 (st1.r.trans s2)
      | bk ρ' => exact fun σ2 H2 R2 S2 s2 => k σ2 H2 R2 S2 (st1.r.trans s2)
      | ct ρ' => exact fun σ2 H2 R2 S2 s2 => k σ2 H2 R2 S2 (st1.r.trans s2)
      | rt d ρ' => exact k
    cases b with
    | true => exact iteT (h1 Z E σ H1 R1 ρ1 o hP S1 e k')
    | false => exact iteF (h2 Z E σ H1 R1 ρ1 o hP S1 e k')
noncomputable def sRet (fe : Rho → Option (D × Rho)) : Rho → Option Out := fun ρ => match fe ρ with
  | none => none
  | some (d, ρ1) => some (.rt d ρ1)
theorem ms_ret (hf : c.fr = false) (he : ME c.K O te fe) (hs : subO c O c.P = true) : MS c O O' (tRet te) (sRet fe) := fun Z E σ H R ρ o hP S e k => by
  unfold sRet at e
  cases e1 : fe ρ with
  | none => rw [e1] at e; cases e
  | some p =>
    obtain ⟨d, ρ1⟩ := p
    rw [e1] at e
    cases e
    refine he Z σ H R ρ d ρ1 _ S e1 fun v H1 R1 S1 st1 r1 => ?_
    obtain ⟨S2, s2⟩ := S1.sub' hP hs
    refine k v σ H1 _ S2 ?_
    unfold Res
    rw [hf]
    exact r1.mono s2
noncomputable def sRetL (fn : Rho → Option (List D × Rho)) : Rho → Option Out := fun ρ => match fn ρ with
  | none => none
  | some (ds, ρ1) => some (.rt (.lst ds) ρ1)
theorem ms_retL (hf : c.fr = true) (he : MN c.K O te fn) (hs : subO c O c.P = true) : MS c O O' (tRet te) (sRetL fn) := fun Z E σ H R ρ o hP S e k => by
  unfold sRetL at e
  cases e1 : fn ρ with
  | none => rw [e1] at e; cases e
  | some p =>
    obtain ⟨ds, ρ1⟩ := p
    rw [e1] at e
    cases e
    refine he Z σ H R ρ ds ρ1 _ S e1 fun l vs H1 R1 S1 st1 h0 hH hR r1 => ?_
    obtain ⟨S2, s2⟩ := S1.sub' hP hs
    refine k _ σ H1 _ S2 ?_
    unfold Res
    rw [hf]
    refine ⟨l, vs, ds, rfl, rfl, S.new0 h0, hH, ?_, r1.mono s2⟩
    unfold frzR
    rw [if_neg ?_]
    · exact hR
    · rintro ⟨j, hj, _, z⟩
      exact S.notnew h0 j hj z
theorem StR.drop {K : PySem.W.Frag} {Z : Anc} {σ : St} {H R : Hp} {ρ : Rho} {i : Nat} (S : StR K Z O σ H R ρ) (hO : ∀ j, j ∈ O' → j ∈ O ∧ j ≠ i) (hc : ∀ j, j ∈ O → j ≠ i → j ∈ O') : StR K Z O' σ H R (ρ.set i none) := by
  refine ⟨S.sub, by rw [List.length_set]; exact S.len, fun j d hj e => ?_, fun j hj => ?_, fun j k hj hk => S.dis j k (hO j hj).1 (hO k hk).1, S.ah, S.ar, S.an, S.ad, fun j hj => S.ao j (hO j hj).1, fun j hj => S.ap j (hO j hj).1⟩
  · by_cases z : i = j
    · subst z
      have hl : i < ρ.length := by
        have := (List.getElem?_eq_some_iff.mp e).1
        rwa [List.length_set] at this
      rw [List.getElem?_set_self hl] at e
      cases e
    · rw [List.getElem?_set_ne z] at e
      exact S.env j d (fun q => hj (hc j q (Ne.symm z))) e
  · obtain ⟨l, vs, ds, h1, h2⟩ := S.own j (hO j hj).1
    exact ⟨l, vs, ds, by rw [List.getElem?_set_ne (Ne.symm (hO j hj).2)]; exact h1, h2⟩
noncomputable def sRetO (i : Nat) : Rho → Option Out := fun ρ => match ρ[i]? with
  | some (some (.lst xs)) => some (.rt (.lst xs) (ρ.set i none))
  | _ => none
theorem ms_never {O O' : List Nat} : MS c O O' tNever (fun _ => none) := fun Z E σ H R ρ o hP S e k => by cases e
noncomputable def forRun (fg : D → Rho → Option Rho) (fb : Rho → Option Out) : List D → Rho → Option Out
  | [], ρ => some (.nx ρ)
  | d :: r, ρ => match fg d ρ with
    | none => none
    | some ρ1 => match fb ρ1 with
      | none => none
      | some (.nx ρ2) => forRun fg fb r ρ2
      | some (.ct ρ2) => forRun fg fb r ρ2
      | some (.bk ρ2) => some (.nx ρ2)
      | some (.rt d ρ2) => some (.rt d ρ2)
noncomputable def sFor (fi : Rho → Option (List D × Rho)) (fg : D → Rho → Option Rho) (fb : Rho → Option Out) : Rho → Option Out := fun ρ => match fi ρ with
  | none => none
  | some (ds, ρ1) => forRun fg fb ds ρ1
theorem ms_for {T : List Nat} {wi : TI} {fi : Rho → Option (List D × Rho)} {tb : TS} {fb : Rho → Option Out} (hi : MI c.K O wi fi) (hs : subO c O O' = true) (hg : MG c.K O' T g fg) (hb : MS { c with Ol := O' } O' O' tb fb) : MS c O O' (tFor wi g tb) (sFor fi fg fb) := fun Z E σ H R ρ o hP S e k => by
  unfold sFor at e
  cases e1 : fi ρ with
  | none => rw [e1] at e; cases e
  | some p =>
    obtain ⟨ds, ρ1⟩ := p
    rw [e1] at e
    dsimp only at e
    refine hi Z σ H R ρ ds ρ1 _ S e1 fun J H1 R1 S1 st1 ok => ?_
    obtain ⟨S2, s2⟩ := S1.sub' hP hs
    have ok2 := ok.mono s2
    refine ⟨fun i m σ' H' => m = ds.length - i ∧ i ≤ ds.length ∧ ∃ R' ρ', StR c.K Z O' σ' H' R' ρ' ∧ Same (frzR O O' σ H1 R1) R' ∧ forRun fg fb (ds.drop i) ρ' = some o, ⟨ds.length, by simp, Nat.zero_le _, _, ρ1, S2, Same.refl _, by rw [List.drop_zero]; exact e⟩, ?_⟩
    rintro i m σ' H' ⟨rfl, hi', R', ρ', S', s', e'⟩
    obtain ⟨o1, o2⟩ := ok2 H' R' s' S'.sub i
    by_cases hlt : i < ds.length
    · obtain ⟨g1, g2⟩ := o2 ds[i] (List.getElem?_eq_getElem hlt)
      rw [List.drop_eq_getElem_cons hlt] at e'
      refine .inr ⟨g1, fun σ3 H3 => ∃ R3 ρ3, StR c.K Z O' σ3 H3 R3 ρ3 ∧ Same (frzR O O' σ H1 R1) R3 ∧ forRun fg fb (ds.drop (i + 1)) ρ3 = some o, ?_, fun x H3 y => ?_⟩
      · rintro σ3 H3 ⟨R3, ρ3, q1, q2, q3⟩
        exact ⟨ds.length - (i + 1), by omega, rfl, hlt, R3, ρ3, q1, q2, q3⟩
      · obtain ⟨R3, x3, r3⟩ := g2 x H3 y
        have S3 := S'.ext x3
        unfold forRun at e'
        cases e3 : fg ds[i] ρ' with
        | none => rw [e3] at e'; cases e'
        | some ρ4 =>
          rw [e3] at e'
          dsimp only at e'
          refine hg Z σ' H3 R3 ρ' x _ ρ4 _ S3 r3 e3 fun σ4 S4 _ => ?_
          cases e4 : fb ρ4 with
          | none => rw [e4] at e'; cases e'
          | some o4 =>
            rw [e4] at e'
            refine hb Z _ σ4 H3 R3 ρ4 o4 hP S4 e4 ?_
            cases o4 with
            | nx ρ5 => exact fun σ5 H5 R5 S5 s5 => ⟨R5, ρ5, S5, (s'.trans x3.r).trans s5, e'⟩
            | ct ρ5 => exact fun σ5 H5 R5 S5 s5 => ⟨R5, ρ5, S5, (s'.trans x3.r).trans s5, e'⟩
            | bk ρ5 =>
              cases e'
              exact fun σ5 H5 R5 S5 s5 => k σ5 H5 R5 S5 (((st1.r.trans s2).trans s').trans (x3.r.trans s5))
            | rt d ρ5 =>
              cases e'
              exact k
    · have ei : i = ds.length := by omega
      subst ei
      rw [List.drop_length] at e'
      unfold forRun at e'
      cases e'
      exact .inl ⟨o1 rfl, k σ' H' R' S' ((st1.r.trans s2).trans s')⟩
end
section
variable {c : MC} {O O' : List Nat} {te ti : TE} {fe fi : Rho → Option (D × Rho)} {tr : TA} {fs : Rho → Option (List D × Rho)}
noncomputable def isL (ρ : Rho) (i : Nat) : Bool := match ρ[i]? with
  | some (some (.lst _)) => true
  | _ => false
theorem isL_ob {K : PySem.W.Frag} {R : Hp} {ρ : Rho} {i : Nat} {o : HO} {d : D} (h : isL ρ i = true) (e : ρ[i]? = some (some d)) (b : Ob K R o d) : ∃ vs ds, o = .lst vs ∧ d = .lst ds ∧ Rps K R vs ds := by
  unfold isL at h
  rw [e] at h
  cases b with
  | lst r => exact ⟨_, _, rfl, rfl, r⟩
  | _ => cases h
noncomputable def sMut (g : List D → List D → Option (List D)) (i : Nat) (fs : Rho → Option (List D × Rho)) : Rho → Option Out := fun ρ => if isL ρ i = true then (match fs ρ with
  | none => none
  | some (as, ρ1) => match ρ1[i]? with
    | some (some (.lst xs)) => match g xs as with
      | some ys => some (.nx (ρ1.set i (some (.lst ys))))
      | none => none
    | _ => none) else none
noncomputable def MutOk (K : PySem.W.Frag) (r : V → List V → Hp → VK → Prop) (g : List D → List D → Option (List D)) : Prop := ∀ (H R : Hp) (l : Addr) (xs : List V) (ds : List D) (vs : List V) (as bs : List D) (Q : VK), (∀ a o, R a = some o → H a = some o) → H l = some (.lst xs) → R l = none → Rps K R xs ds → Rps K R vs as → g ds as = some bs → (∀ ys, Rps K R ys bs → Q .non (upd H l (.lst ys))) → r (.ref l) vs H Q
theorem ms_mut {r : V → List V → Hp → VK → Prop} {g : List D → List D → Option (List D)} {i : Nat} (hm : MutOk c.K r g) (hi : i ∈ O) (ha : MA c.K O tr fs) (hs : subO c O O' = true) : MS c O O' (tDrop (tBM c.K "list" r (tVar i) tr)) (sMut g i fs) := fun Z E σ H R ρ o hP S e k => by
  unfold sMut at e
  split at e
  case isFalse => cases e
  rename_i hL
  cases e1 : fs ρ with
  | none => rw [e1] at e; cases e
  | some p =>
    obtain ⟨as, ρ1⟩ := p
    rw [e1] at e
    dsimp only at e
    obtain ⟨l, vs, ds, h1, h2, h3, h4, h5⟩ := S.own i hi
    obtain ⟨us, _, rfl, rfl, _⟩ := isL_ob hL h1 h5
    refine ⟨.ref l, h2, .inl ⟨rfl, us, SqL.of h3⟩, ha Z σ H R ρ as ρ1 _ S e1 fun ws H1 R1 S1 st1 r1 => ?_⟩
    obtain ⟨l', vs', ds', g1, g2, g3, g4, g5⟩ := S1.own i hi
    rw [h2] at g2
    cases g2
    rw [g1] at e
    cases g5 with
    | dct _ => cases e
    | dit _ => cases e
    | lst g5 =>
    rename_i vs' ds'
    dsimp only at e
    cases e2 : g ds' as with
    | none => rw [e2] at e; cases e
    | some ys =>
      rw [e2] at e
      cases e
      refine hm H1 R1 l vs' ds' ws as ys _ S1.sub g3 g4 g5 r1 e2 fun zs rz => ?_
      obtain ⟨S2, s2⟩ := (S1.write hi h2 (.lst rz)).sub' hP hs
      exact k σ _ _ S2 (st1.r.trans s2)
noncomputable def dAppend : List D → List D → Option (List D) := fun xs as => match as with
  | [d] => if xs.length < sizeLine then some (xs ++ [d]) else none
  | _ => none
theorem mu_append {K : PySem.W.Frag} : MutOk K rAppend dAppend := fun H R l xs ds vs as bs Q s h hr r ra e k => by
  cases ra with
  | nil => cases e
  | cons q t =>
    cases t with
    | cons _ _ => cases e
    | nil =>
      rename_i x d
      have e' : (if ds.length < sizeLine then some (ds ++ [d]) else none) = some bs := e
      split at e'
      · rename_i hz
        cases e'
        exact ⟨l, xs, x, rfl, rfl, h, by rw [r.length]; exact hz, k _ (r.snoc q)⟩
      · cases e'
noncomputable def sSetI (i : Nat) (fe fi : Rho → Option (D × Rho)) : Rho → Option Out := fun ρ => match fe ρ with
  | none => none
  | some (d, ρ1) => match fi ρ1 with
    | some (.int k, ρ2) => match ρ2[i]? with
      | some (some (.lst xs)) => match ixN xs.length k with
        | some j => some (.nx (ρ2.set i (some (.lst (xs.set j d)))))
        | none => none
      | _ => none
    | _ => none
theorem ms_setI {i : Nat} (hi : i ∈ O) (he : ME c.K O te fe) (hx : ME c.K O ti fi) (hs : subO c O O' = true) : MS c O O' (tAsg te (gSub (tVar i) ti rSetL)) (sSetI i fe fi) := fun Z E σ H R ρ o hP S e k => by
  unfold sSetI at e
  cases e1 : fe ρ with
  | none => rw [e1] at e; cases e
  | some p =>
    obtain ⟨d, ρ1⟩ := p
    rw [e1] at e
    dsimp only at e
    cases e2 : fi ρ1 with
    | none => rw [e2] at e; cases e
    | some p =>
      obtain ⟨x, ρ2⟩ := p
      rw [e2] at e
      refine he Z σ H R ρ d ρ1 _ S e1 fun v H1 R1 S1 st1 r1 => ?_
      obtain ⟨l, vs, ds, h1, h2, h3, h4, h5⟩ := S1.own i hi
      refine ⟨.ref l, h2, hx Z σ H1 R1 ρ1 x ρ2 _ S1 e2 fun w H2 R2 S2 st2 r2 => ?_⟩
      obtain ⟨l', vs', ds', g1, g2, g3, g4, g5⟩ := S2.own i hi
      rw [h2] at g2
      cases g2
      cases r2 with
      | int j =>
        dsimp only at e
        rw [g1] at e
        cases g5 with
        | dct _ => cases e
        | dit _ => cases e
        | lst g5 =>
        rename_i vs' ds'
        dsimp only at e
        cases e3 : ixN ds'.length j with
        | none => rw [e3] at e; cases e
        | some m =>
          rw [e3] at e
          cases e
          refine ⟨l, vs', j, m, rfl, rfl, g3, by rw [g5.length]; exact e3, ?_⟩
          obtain ⟨S3, s3⟩ := (S2.write hi h2 (.lst (g5.set (r1.mono st2.r) m))).sub' hP hs
          exact k σ _ _ S3 ((st1.r.trans st2.r).trans s3)
      | _ => cases e
end
noncomputable def runP (fr : Bool) (n N : Nat) (f : Rho → Option Out) (ds : List D) : Option D := if ds.length = n then match f (ds.map some ++ List.replicate (N - n) none) with
    | some (.rt d _) => some d
    | some (.nx _) => if fr = true then none else some .non
    | _ => none
  else none
noncomputable def spP (K : PySem.W.Frag) (fr : Bool) (n : Nat) (f : List D → Option D) : Sp := fun vs H Q _ => vs.length = n ∧ ∃ R ds d, (∀ a o, R a = some o → H a = some o) ∧ Rps K R vs ds ∧ f ds = some d ∧ ∀ v H' R', Ext H R H' R' → Res K fr H v d H' R' → Q v H'
theorem start_get {N : List Str} {vs : List V} {i : Nat} {v : V} (h : vs[i]? = some v) : (start N vs)[i]? = some (some v) := by
  unfold start
  have hi : i < vs.length := (List.getElem?_eq_some_iff.mp h).1
  rw [List.getElem?_append_left (by simpa using hi), List.getElem?_map, h]
  rfl
theorem slots_get {ds : List D} {m i : Nat} {d : D} (h : (ds.map some ++ List.replicate m none)[i]? = some (some d)) : ds[i]? = some d := by
  by_cases hi : i < ds.length
  · rw [List.getElem?_append_left (by simpa using hi), List.getElem?_map] at h
    cases q : ds[i]? with
    | none => rw [q] at h; cases h
    | some e => rw [q] at h; cases h; rfl
  · rw [List.getElem?_append_right (by simpa using hi), List.getElem?_replicate] at h
    split at h <;> cases h
theorem spP_body {K : PySem.W.Frag} {fr : Bool} {n : Nat} {Nms : List Str} {O' : List Nat} {t : TS} {f : Rho → Option Out} {vs : List V} {H : Hp} {Q : VK} {E : XK} (hm : MS ⟨K, fr, [], []⟩ [] O' t f) (h : spP K fr n (runP fr n Nms.length f) vs H Q E) : t { nx := fun _ H' => Q .non H', rt := Q } (start Nms vs) H := by
  obtain ⟨hn, R, ds, d, sub, r, e, k⟩ := h
  unfold runP at e
  split at e
  · rename_i hl
    have S : StR K ⟨H, R, fun _ => False, []⟩ [] (start Nms vs) H R (ds.map some ++ List.replicate (Nms.length - n) none) := by
      refine ⟨sub, ?_, fun i d _ q => ?_, fun i hi => absurd hi (by simp), fun i j hi => absurd hi (by simp), fun a o q _ => q, Same.refl _, fun a q => .inl q, fun a q => .refl q, fun i hi => absurd hi (by simp), fun i hi => absurd hi (by simp)⟩
      · unfold start
        rw [List.length_append, List.length_append, List.length_map, List.length_map, List.length_replicate, List.length_replicate, hn, hl]
      · obtain ⟨v, h1, h2⟩ := r.get (slots_get q)
        exact ⟨v, start_get h1, h2⟩
    have ext : ∀ {O1 : List Nat} {σ' : St} {H' R' : Hp} {ρ' : Rho}, StR K ⟨H, R, fun _ => False, []⟩ O1 σ' H' R' ρ' → Ext H R H' R' := fun S' => ⟨fun a o q => S'.ah a o q (fun z => z), S'.ar, S'.sub, S'.an⟩
    cases e1 : f (ds.map some ++ List.replicate (Nms.length - n) none) with
    | none => rw [e1] at e; cases e
    | some o =>
      rw [e1] at e
      refine hm _ _ _ _ _ _ o rfl S e1 ?_
      cases o with
      | nx ρ' =>
        dsimp only at e
        split at e
        · cases e
        · rename_i hf
          cases e
          refine fun σ' H' R' S' _ => k .non H' R' (ext S') ?_
          cases fr with
          | false => exact .non
          | true => exact absurd rfl hf
      | bk ρ' => cases e
      | ct ρ' => cases e
      | rt d' ρ' =>
        cases e
        exact fun v σ' H' R' S' q => k v H' R' (ext S') q
  · cases e
noncomputable def runS (fr : Bool) (n N : Nat) (f : Rho → Option Out) (xs ds : List D) : Option (D × List D) := if ds.length + 1 = n then match f (some (.lst xs) :: (ds.map some ++ List.replicate (N - n) none)) with
    | some (.rt d ρ) => (match (ρ[0]? : Option (Option D)) with
      | some (some (D.lst ys)) => some (d, ys)
      | _ => none)
    | some (.nx ρ) => if fr = true then none else (match (ρ[0]? : Option (Option D)) with
      | some (some (D.lst ys)) => some (.non, ys)
      | _ => none)
    | _ => none
  else none
structure ExtS (l : Addr) (H R H' R' : Hp) : Prop where
  h : ∀ a o, a ≠ l → H a = some o → H' a = some o
  r : Same R R'
  s : ∀ a o, R' a = some o → H' a = some o
  n : ∀ a, R' a ≠ none → R a ≠ none ∨ Frh H a
  d : ∀ a, H a ≠ none → Liv H H' a
noncomputable def spS (K : PySem.W.Frag) (fr : Bool) (n : Nat) (f : List D → List D → Option (D × List D)) : Sp := fun vs H Q _ => vs.length = n ∧ ∃ l ws R us xs ds d ys, vs = .ref l :: ws ∧ H l = some (.lst us) ∧ R l = none ∧ (∀ a o, R a = some o → H a = some o) ∧ Rps K R us xs ∧ Rps K R ws ds ∧ f xs ds = some (d, ys) ∧
  ∀ v H' R' us', ExtS l H R H' R' → H' l = some (.lst us') → R' l = none → Rps K R' us' ys → Res K fr H v d H' R' → Q v H'
theorem spS_body {K : PySem.W.Frag} {fr : Bool} {n : Nat} {Nms : List Str} {O' : List Nat} {t : TS} {f : Rho → Option Out} {vs : List V} {H : Hp} {Q : VK} {E : XK} (hm : MS ⟨K, fr, [0], []⟩ [0] [0] t f) (h : spS K fr n (runS fr n Nms.length f) vs H Q E) : t { nx := fun _ H' => Q .non H', rt := Q } (start Nms vs) H := by
  obtain ⟨hn, l, ws, R, us, xs, ds, d, ys, rfl, hH, hR, sub, ru, r, e, k⟩ := h
  unfold runS at e
  split at e
  · rename_i hl
    have ln : ws.length + 1 = n := by simpa using hn
    have S : StR K ⟨H, R, fun a => a = l, [0]⟩ [0] (start Nms (.ref l :: ws)) H R (some (.lst xs) :: (ds.map some ++ List.replicate (Nms.length - n) none)) := by
      have one : ∀ i, i ∈ [0] → i = 0 := fun i hi => by simpa using hi
      refine ⟨sub, ?_, fun i d hi q => ?_, fun i hi => ?_, fun i j hi hj z => absurd ((one i hi).trans (one j hj).symm) z, fun a o q _ => q, Same.refl _, fun a q => .inl q, fun a q => .refl q, fun i hi z => absurd hi z, fun i hi _ a q => ?_⟩
      · unfold start
        simp only [List.map_cons, List.cons_append, List.length_cons, List.length_append, List.length_map, List.length_replicate]
        omega
      · cases i with
        | zero => exact absurd (by simp) hi
        | succ i =>
          rw [List.getElem?_cons_succ] at q
          obtain ⟨v, h1, h2⟩ := r.get (slots_get q)
          exact ⟨v, start_get (by rw [List.getElem?_cons_succ]; exact h1), h2⟩
      · cases one i hi
        exact ⟨l, .lst us, .lst xs, rfl, rfl, hH, hR, .lst ru⟩
      · cases one i hi
        have q' : some (some (V.ref l)) = some (some (V.ref a)) := q
        cases q'
        rfl
    have ext : ∀ {σ' : St} {H' R' : Hp} {ρ' : Rho}, StR K ⟨H, R, fun a => a = l, [0]⟩ [0] σ' H' R' ρ' → ExtS l H R H' R' ∧ ∃ us' zs, ρ'[0]? = some (some zs) ∧ H' l = some us' ∧ R' l = none ∧ Ob K R' us' zs := fun {σ' H' R' ρ'} S' => by
      refine ⟨⟨fun a o n q => S'.ah a o q n, S'.ar, S'.sub, S'.an, S'.ad⟩, ?_⟩
      obtain ⟨l', us', zs, h1, h2, h3, h4, h5⟩ := S'.own 0 (by simp)
      have el : l' = l := S'.ap 0 (by simp) (by simp) l' h2
      subst el
      exact ⟨us', zs, h1, h3, h4, h5⟩
    cases e1 : f (some (.lst xs) :: (ds.map some ++ List.replicate (Nms.length - n) none)) with
    | none => rw [e1] at e; cases e
    | some o =>
      rw [e1] at e
      refine hm _ _ _ _ _ _ o rfl S e1 ?_
      cases o with
      | nx ρ' =>
        dsimp only at e
        split at e
        · cases e
        · rename_i hf
          refine fun σ' H' R' S' _ => ?_
          obtain ⟨x, us', zs, q1, q2, q3, q4⟩ := ext S'
          rw [q1] at e
          cases q4 with
          | dct _ => cases e
          | dit _ => cases e
          | lst q4 =>
          cases e
          refine k .non H' R' _ x q2 q3 q4 ?_
          cases fr with
          | false => exact .non
          | true => exact absurd rfl hf
      | bk ρ' => cases e
      | ct ρ' => cases e
      | rt d' ρ' =>
        dsimp only at e
        refine fun v σ' H' R' S' q => ?_
        obtain ⟨x, us', zs, q1, q2, q3, q4⟩ := ext S'
        rw [q1] at e
        cases q4 with
        | dct _ => cases e
        | dit _ => cases e
        | lst q4 =>
        cases e
        exact k v H' R' _ x q2 q3 q4 q
  · cases e
section
variable {K : PySem.W.Frag} {O : List Nat} {tr : TA} {fs : Rho → Option (List D × Rho)} {E : XK} {n : Nat}
noncomputable def mCall (f : List D → Option D) (fs : Rho → Option (List D × Rho)) : Rho → Option (D × Rho) := mBind fs fun ds => mLift (f ds)
noncomputable def runsN (n : Nat) (f : List D → Option D) : Prop := ∀ ds d, f ds = some d → ds.length = n
theorem runP_n {fr : Bool} {n N : Nat} {f : Rho → Option Out} : runsN n (runP fr n N f) := fun ds d e => by
  unfold runP at e
  split at e
  · assumption
  · cases e
theorem me_callP {f : List D → Option D} (hf : runsN n f) (h : MA K O tr fs) : ME K O (tCall (spP K false n f) [] E tr) (mCall f fs) := fun Z σ H R ρ d ρ' Q S e k => by
  obtain ⟨ds, ρ1, e1, e⟩ := mBind_some e
  obtain ⟨e2, rfl⟩ := mLift_some e
  refine h Z σ H R ρ ds _ _ S e1 fun vs H1 R1 S1 st1 r1 => ?_
  show spP K false n f (vs ++ []) H1 Q E
  rw [List.append_nil]
  exact ⟨by rw [r1.length]; exact hf ds d e2, R1, ds, d, S1.sub, r1, e2, fun v H2 R2 x q => k v H2 R2 (S1.ext x) (st1.trans x.stp) q⟩
noncomputable def lstOf (o : Option D) : Option (List D) := match o with
  | some (.lst ds) => some ds
  | _ => none
noncomputable def mCallL (f : List D → Option D) (fs : Rho → Option (List D × Rho)) : Rho → Option (List D × Rho) := mBind fs fun ds => mLift (lstOf (f ds))
theorem lstOf_some {o : Option D} {ds : List D} (h : lstOf o = some ds) : o = some (.lst ds) := by
  unfold lstOf at h
  split at h
  · cases h; rfl
  · (first | obtain rfl := h.isA rfl | cases h)
theorem mn_callP {f : List D → Option D} (hf : runsN n f) (h : MA K O tr fs) : MN K O (tCall (spP K true n f) [] E tr) (mCallL f fs) := fun Z σ H R ρ d ρ' Q S e k => by
  obtain ⟨ds, ρ1, e1, e⟩ := mBind_some e
  obtain ⟨e2, rfl⟩ := mLift_some e
  have e3 := lstOf_some e2
  refine h Z σ H R ρ ds _ _ S e1 fun vs H1 R1 S1 st1 r1 => ?_
  show spP K true n f (vs ++ []) H1 Q E
  rw [List.append_nil]
  refine ⟨by rw [r1.length]; exact hf ds _ e3, R1, ds, _, S1.sub, r1, e3, fun v H2 R2 x q => ?_⟩
  obtain ⟨l, us, gs, rfl, e4, h0, hH, hR, r⟩ := q
  cases e4
  exact k l us H2 R2 (S1.ext x) (st1.trans x.stp) (st1.new h0) hH hR r
noncomputable def mCallS (f : List D → List D → Option (D × List D)) (i : Nat) (fs : Rho → Option (List D × Rho)) : Rho → Option (D × Rho) := mBind fs fun ds ρ => match ρ[i]? with
  | some (some (.lst xs)) => match f xs ds with
    | some (d, ys) => some (d, ρ.set i (some (.lst ys)))
    | none => none
  | _ => none
noncomputable def runsS (n : Nat) (f : List D → List D → Option (D × List D)) : Prop := ∀ xs ds r, f xs ds = some r → ds.length + 1 = n
theorem runS_n {fr : Bool} {n N : Nat} {f : Rho → Option Out} : runsS n (runS fr n N f) := fun xs ds r e => by
  unfold runS at e
  split at e
  · assumption
  · cases e
theorem me_callS {f : List D → List D → Option (D × List D)} {i : Nat} (hf : runsS n f) (hi : i ∈ O) (h : MA K O tr fs) : ME K O (tCall (spS K false n f) [] E (tCons (tVar i) tr)) (mCallS f i fs) := fun Z σ H R ρ d ρ' Q S e k => by
  obtain ⟨ds, ρ1, e1, e⟩ := mBind_some e
  obtain ⟨l, vs0, ds0, h1, h2, h3, h4, h5⟩ := S.own i hi
  refine ⟨.ref l, h2, h Z σ H R ρ ds ρ1 _ S e1 fun vs H1 R1 S1 st1 r1 => ?_⟩
  obtain ⟨l', us, xs, g1, g2, g3, g4, g5⟩ := S1.own i hi
  rw [h2] at g2
  cases g2
  rw [g1] at e
  cases g5 with
  | dct _ => cases e
  | dit _ => cases e
  | lst g5 =>
  rename_i us xs
  dsimp only at e
  cases e2 : f xs ds with
  | none => rw [e2] at e; cases e
  | some p =>
    obtain ⟨d', ys⟩ := p
    rw [e2] at e
    cases e
    show spS K false n f (.ref l :: vs ++ []) H1 Q E
    rw [List.append_nil]
    refine ⟨by rw [List.length_cons, r1.length]; exact hf _ _ _ e2, l, vs, R1, us, xs, ds, d, ys, rfl, g3, g4, S1.sub, g5, r1, e2, fun v H2 R2 us' x hH hR ru q => ?_⟩
    have hlen : i < ρ1.length := (List.getElem?_eq_some_iff.mp g1).1
    have st2 : Stp O σ H1 R1 H2 R2 := ⟨x.r, fun a o e n => x.h a o (fun z => by subst z; exact n i hi h2) e, x.n, x.d⟩
    have other : ∀ j, j ∈ O → i ≠ j → ∀ m, σ[j]? = some (some (.ref m)) → m ≠ l := fun j hj n m e z => by
      subst z
      exact S1.dis i j hi hj n m h2 e
    refine k v H2 R2 ⟨x.s, by rw [List.length_set]; exact S1.len, fun j e hj q => ?_, fun j hj => ?_, S1.dis, fun a o e n => ?_, S1.ar.trans x.r, fun a h => ?_, fun a h => (S1.ad a h).trans (x.d a (S1.ad a h).1), S1.ao, S1.ap⟩ (st1.trans st2) q
    · have n : i ≠ j := fun z => hj (z ▸ hi)
      rw [List.getElem?_set_ne n] at q
      obtain ⟨w, q1, q2⟩ := S1.env j e hj q
      exact ⟨w, q1, q2.mono x.r⟩
    · by_cases n : i = j
      · subst n
        exact ⟨l, .lst us', .lst ys, by rw [List.getElem?_set_self hlen], h2, hH, hR, .lst ru⟩
      · obtain ⟨m, vs', ds', q1, q2, q3, q4, q5⟩ := S1.own j hj
        refine ⟨m, vs', ds', by rw [List.getElem?_set_ne n]; exact q1, q2, x.h _ _ (other j hj n m q2) q3, ?_, q5.mono x.r⟩
        cases z : R2 m with
        | none => rfl
        | some o =>
          rcases x.n m (by rw [z]; exact fun y => nomatch y) with y | y
          · exact absurd q4 y
          · exact (q5.noF q3 y).elim
    · have ne : a ≠ l := fun z => by
        subst z
        by_cases hp : i ∈ Z.P
        · exact n (S1.ap i hi hp a h2)
        · rw [S1.ao i hi hp a h2] at e; cases e
      exact x.h a o ne (S1.ah a o e n)
    · rcases x.n a h with z | z
      · exact S1.an a z
      · exact .inr (z.back (S1.ad a))
end
noncomputable def rCatS (K : PySem.W.Frag) : R2 := fun x y H Q => ∃ l b xs zs, x = .ref l ∧ y = .ref b ∧ SqL K H l xs ∧ SqL K H b zs ∧ xs.length + zs.length ≤ sizeLine ∧ ∀ p, H p = none → Q (.ref p) (upd H p (.lst (xs ++ zs)))
section
variable {X : Cx} {K : PySem.W.Frag}
theorem op_catS (hK : X.K = K) : OpR X (binaryOp .Add) (rCatS K) := by
  subst hK
  intro pins s σ H x y v u Q I rx ry h
  obtain ⟨l, b, xs, zs, rfl, rfl, hH, hB, hz, q⟩ := h
  (first | obtain rfl := rx.isA rfl | cases rx)
  (first | obtain rfl := ry.isA rfl | cases ry)
  obtain ⟨its, r, pl, z⟩ := I.list hH
  obtain ⟨its2, r2, pl2, z2⟩ := I.list hB
  obtain ⟨⟨cls, dd, data, sl⟩, ho, hc, n, hd⟩ := pl.isList
  obtain ⟨⟨cls2, dd2, data2, sl2⟩, ho2, hc2, n2, hd2⟩ := pl2.isList
  simp only at hc hd hc2 hd2
  subst hc hd hc2 hd2
  have e : its.toArray ++ its2.toArray = (its ++ its2).toArray := by simp
  refine concat_meets ⟨_, ho, rfl⟩ ⟨_, ho2, rfl⟩ noFill_list_add seq_list_add PySem.F.slot_list_add PySem.F.entry_list_add (PySem.F.args_list_add_2 _ _) (list_addW l b its.toArray its2.toArray n n2 dd dd2 sl sl2 (by rw [List.size_toArray, List.size_toArray, ← r.length, ← r2.length]; exact hz)) ⟨ho, ho2, ?_⟩
  rw [e]
  exact ⟨.ref _, _, I.lnew (t' := s.toks) (r.append r2) (by rw [List.length_append]; omega), rfl, q _ I.fresh⟩
noncomputable def rAddG (K : PySem.W.Frag) : R2 := fun x y H Q => rI0 (fun i j => .int (i + j)) x y H Q ∨ rCatS K x y H Q ∨ ∃ i j, x = .str i ∧ y = .str j ∧ i.length + j.length ≤ sizeLine ∧ Q (.str (i ++ j)) H
theorem op_addG (hK : X.K = K) : OpR X (binaryOp .Add) (rAddG K) := op_add.or ((op_catS hK).or op_add_str)
end
section
variable {K : PySem.W.Frag} {O : List Nat}
noncomputable def dAdd : D → D → Option D
  | .int i, .int j => some (.int (i + j))
  | .lst xs, .lst ys => if xs.length + ys.length ≤ sizeLine then some (.lst (xs ++ ys)) else none
  | .str x, .str y => if x.length + y.length ≤ sizeLine then some (.str (x ++ y)) else none
  | _, _ => none
theorem og_add : OpG K (rAddG K) dAdd := fun H R x y d e u Q s rx ry q k => by
  unfold dAdd at q
  split at q
  · rename_i i j
    (first | obtain rfl := q.isA rfl | cases q)
    (first | obtain rfl := rx.isA rfl | cases rx)
    (first | obtain rfl := ry.isA rfl | cases ry)
    exact .inl ⟨i, j, rfl, rfl, k _ H R (Ext.refl s) (.int _)⟩
  · split at q
    · rename_i hz
      (first | obtain rfl := q.isA rfl | cases q)
      obtain ⟨a1, xs, rfl, h, r⟩ := rx.isL
      obtain ⟨a2, ys, rfl, h2, r2⟩ := ry.isL
      refine .inr (.inl ⟨_, _, _, _, rfl, rfl, Same.sqL s h, Same.sqL s h2, by rw [r.length, r2.length]; exact hz, fun p np => ?_⟩)
      have x := Ext.new (o := .lst (xs ++ ys)) s np
      exact k _ _ _ x (.lst (SqL.of upd_same) ((r.append r2).mono x.r))
    · (first | obtain rfl := q.isA rfl | cases q)
  · rename_i i j
    split at q
    · rename_i hz
      (first | obtain rfl := q.isA rfl | cases q)
      (first | obtain rfl := rx.isA rfl | cases rx)
      (first | obtain rfl := ry.isA rfl | cases ry)
      exact .inr (.inr ⟨i, j, rfl, rfl, hz, k _ H R (Ext.refl s) (.str _)⟩)
    · (first | obtain rfl := q.isA rfl | cases q)
  · (first | obtain rfl := q.isA rfl | cases q)
noncomputable def mOp2L (g : D → D → Option (List D)) (fa fb : Rho → Option (D × Rho)) : Rho → Option (List D × Rho) := mBind fa fun x => mBind fb fun y => mLift (g x y)
end
mutual
noncomputable def D.toP : D → Option PyData
  | .non => some .none
  | .bl b => some (.bool b)
  | .int i => some (.int i)
  | .str x => some (.str x)
  | .lst xs => (D.toPs xs).map PyData.list
  | .tup xs => (D.toPs xs).map PyData.tuple
  | .obj _ _ => none
  | .dct _ => none
  | .exc _ => none
  | .fn _ => none
  | .dit _ => none
noncomputable def D.toPs : List D → Option (List PyData)
  | [] => some []
  | d :: r => match D.toP d, D.toPs r with
    | some p, some ps => some (p :: ps)
    | _, _ => none
end
section
variable {K : PySem.W.Frag} {O : List Nat} {R : Hp}
theorem dv_non (p : PyData) (e : D.toP .non = some p) : DV K R .non p := by simp only [D.toP] at e; cases e; exact .non
theorem dv_bl (b : Bool) (p : PyData) (e : D.toP (.bl b) = some p) : DV K R (.bl b) p := by simp only [D.toP] at e; cases e; exact .bl b
theorem dv_int (b : Int) (p : PyData) (e : D.toP (.int b) = some p) : DV K R (.int b) p := by simp only [D.toP] at e; cases e; exact .int b
theorem dv_str (b : Str) (p : PyData) (e : D.toP (.str b) = some p) : DV K R (.str b) p := by simp only [D.toP] at e; cases e; exact .str b
theorem dv_lst {a : Addr} {xs : List V} {ds : List D} {p : PyData} (h : SqL K R a xs) (r : ∀ ps, D.toPs ds = some ps → DVs K R xs ps) (e : D.toP (.lst ds) = some p) : DV K R (.ref a) p := by
  simp only [D.toP] at e
  cases z : D.toPs ds with
  | none => rw [z] at e; cases e
  | some ps => rw [z] at e; cases e; exact .lst h (r _ z)
theorem dv_tup {a : Addr} {xs : List V} {ds : List D} {p : PyData} (h : R a = some (.tup xs)) (r : ∀ ps, D.toPs ds = some ps → DVs K R xs ps) (e : D.toP (.tup ds) = some p) : DV K R (.ref a) p := by
  simp only [D.toP] at e
  cases z : D.toPs ds with
  | none => rw [z] at e; cases e
  | some ps => rw [z] at e; cases e; exact .tup (SqT.of h) (r _ z)
theorem dvs_nil (ps : List PyData) (e : D.toPs [] = some ps) : DVs K R [] ps := by simp only [D.toPs] at e; cases e; exact .nil
theorem dvs_cons {x : V} {xs : List V} {d : D} {ds : List D} {ps : List PyData} (h : ∀ p, d.toP = some p → DV K R x p) (r : ∀ ps, D.toPs ds = some ps → DVs K R xs ps) (e : D.toPs (d :: ds) = some ps) : DVs K R (x :: xs) ps := by
  simp only [D.toPs] at e
  cases z : d.toP with
  | none => rw [z] at e; cases e
  | some p =>
    cases w : D.toPs ds with
    | none => rw [z, w] at e; cases e
    | some qs => rw [z, w] at e; cases e; exact .cons (h _ z) (r _ w)
theorem Rp.dv {v : V} {d : D} {p : PyData} (h : Rp K R v d) (e : d.toP = some p) : DV K R v p :=
  Rp.rec (motive_1 := fun v d _ => ∀ p, d.toP = some p → DV K R v p) (motive_2 := fun xs ds _ => ∀ ps, D.toPs ds = some ps → DVs K R xs ps) (motive_3 := fun _ _ _ => True) (motive_4 := fun _ _ _ => True) (motive_5 := fun _ _ _ => True)
    dv_non dv_bl dv_int dv_str (fun h _ r _ => dv_lst h r) (fun h _ r _ => dv_tup h r) (fun _ _ _ _ _ e => by simp only [D.toP] at e; cases e) (fun _ _ _ _ e => by simp only [D.toP] at e; cases e) (fun _ _ _ _ e => by simp only [D.toP] at e; cases e) (fun _ _ _ _ e => by simp only [D.toP] at e; cases e) (fun _ _ e => by simp only [D.toP] at e; cases e)
    dvs_nil (fun _ _ h r _ => dvs_cons h r) trivial (fun _ _ _ _ => trivial) trivial (fun _ _ _ _ => trivial) trivial (fun _ _ _ _ => trivial) h _ e
theorem Rps.dvs {xs : List V} {ds : List D} {ps : List PyData} (h : Rps K R xs ds) (e : D.toPs ds = some ps) : DVs K R xs ps :=
  Rps.rec (motive_1 := fun v d _ => ∀ p, d.toP = some p → DV K R v p) (motive_2 := fun xs ds _ => ∀ ps, D.toPs ds = some ps → DVs K R xs ps) (motive_3 := fun _ _ _ => True) (motive_4 := fun _ _ _ => True) (motive_5 := fun _ _ _ => True)
    dv_non dv_bl dv_int dv_str (fun h _ r _ => dv_lst h r) (fun h _ r _ => dv_tup h r) (fun _ _ _ _ _ e => by simp only [D.toP] at e; cases e) (fun _ _ _ _ e => by simp only [D.toP] at e; cases e) (fun _ _ _ _ e => by simp only [D.toP] at e; cases e) (fun _ _ _ _ e => by simp only [D.toP] at e; cases e) (fun _ _ e => by simp only [D.toP] at e; cases e)
    dvs_nil (fun _ _ h r _ => dvs_cons h r) trivial (fun _ _ _ _ => trivial) trivial (fun _ _ _ _ => trivial) trivial (fun _ _ _ _ => trivial) h _ e
noncomputable def eqD (d e : D) : Option Bool := match d.toP, e.toP with
  | some p, some q => if SeqAt.shaped p = true ∧ SeqAt.shaped q = true then some (PyData.eqv p q) else none
  | _, _ => none
noncomputable def dEq (d e : D) : Option D := (eqD d e).map .bl
noncomputable def dNe (d e : D) : Option D := (eqD d e).map fun b => .bl (!b)
theorem eqD_some {d e : D} {b : Bool} (h : eqD d e = some b) : ∃ p q, d.toP = some p ∧ e.toP = some q ∧ SeqAt.shaped p = true ∧ SeqAt.shaped q = true ∧ PyData.eqv p q = b := by
  unfold eqD at h
  cases h1 : d.toP with
  | none => rw [h1] at h; cases h
  | some p =>
    cases h2 : e.toP with
    | none => rw [h1, h2] at h; cases h
    | some q =>
      rw [h1, h2] at h
      dsimp only at h
      split at h
      · rename_i z
        exact ⟨p, q, rfl, rfl, z.1, z.2, Option.some.inj h⟩
      · (first | obtain rfl := h.isA rfl | cases h)
theorem os_eq : OpS K (rEqD K) dEq := fun H x y d e u Q rx ry q k => by
  unfold dEq at q
  cases h : eqD d e with
  | none => rw [h] at q; cases q
  | some b =>
    rw [h] at q
    (first | obtain rfl := q.isA rfl | cases q)
    obtain ⟨p, r, h1, h2, h3, h4, h5⟩ := eqD_some h
    refine ⟨p, r, rx.dv h1, ry.dv h2, h3, h4, ?_⟩
    rw [h5]
    exact k _ (.bl _)
theorem os_ne : OpS K (rNeD K) dNe := fun H x y d e u Q rx ry q k => by
  unfold dNe at q
  cases h : eqD d e with
  | none => rw [h] at q; cases q
  | some b =>
    rw [h] at q
    (first | obtain rfl := q.isA rfl | cases q)
    obtain ⟨p, r, h1, h2, h3, h4, h5⟩ := eqD_some h
    refine ⟨p, r, rx.dv h1, ry.dv h2, h3, h4, ?_⟩
    rw [h5]
    exact k _ (.bl _)
end
section
variable {K : PySem.W.Frag} {O : List Nat} {t ta tb tc : TE} {tr : TA} {fa fb fc : Rho → Option (D × Rho)} {fs : Rho → Option (List D × Rho)}
noncomputable def CallG (K : PySem.W.Frag) (r : List V → Hp → VK → Prop) (g : D → Option D) : Prop := ∀ (H R : Hp) (x : V) (d u : D) (Q : VK), (∀ a o, R a = some o → H a = some o) → Rp K R x d → g d = some u → (∀ v H' R', Ext H R H' R' → Rp K R' v u → Q v H') → r [x] H Q
theorem me_callG {r : List V → Hp → VK → Prop} {g : D → Option D} (h : CallG K r g) (ha : ME K O t fa) : ME K O (tCB r (tCons t tNil)) (mOp1 g fa) := fun Z σ H R ρ d ρ' Q S e k => by
  obtain ⟨x, ρ1, e1, e⟩ := mBind_some e
  obtain ⟨e2, rfl⟩ := mLift_some e
  refine ha Z σ H R ρ x _ _ S e1 fun v H1 R1 S1 st1 r1 => ?_
  exact h H1 R1 v x d Q S1.sub r1 e2 fun w H2 R2 x2 r2 => k w H2 R2 (S1.ext x2) (st1.trans x2.stp) r2
noncomputable def dSeq : D → Option (List D)
  | .lst xs => some xs
  | .tup xs => some xs
  | _ => none
noncomputable def dTuple : D → Option D
  | .lst xs => some (.tup xs)
  | .tup xs => some (.tup xs)
  | _ => none
theorem cg_tuple : CallG K (fun xs H Q => ∃ p ys, xs = [.ref p] ∧ ((SqL K H p ys ∧ ∀ l, H l = none → Q (.ref l) (upd H l (.tup ys))) ∨ (SqT K H p ys ∧ Q (.ref p) H))) dTuple := fun H R x d u Q s r e k => by
  cases r with
  | lst h q =>
    cases e
    refine ⟨_, _, rfl, .inl ⟨Same.sqL s h, fun l hl => ?_⟩⟩
    rename_i a xs ds
    have y := Ext.new (o := .tup xs) s hl
    exact k _ _ _ y (.tup upd_same (q.mono y.r))
  | tup h q => cases e; exact ⟨_, _, rfl, .inr ⟨SqT.of (s _ _ h), k _ H R (Ext.refl s) (.tup h q)⟩⟩
  | _ => cases e
noncomputable def MO (K : PySem.W.Frag) (O : List Nat) (t : TO) (f : Rho → Option (Option Int × Rho)) : Prop := ∀ (Z : Anc) (σ : St) (H R : Hp) (ρ : Rho) (o : Option Int) (ρ' : Rho) (Q : Option Int → Hp → Prop), StR K Z O σ H R ρ → f ρ = some (o, ρ') → (∀ H' R', StR K Z O σ H' R' ρ' → Stp O σ H R H' R' → Q o H') → t σ H Q
theorem mo_none : MO K O tNoPart (mRet none) := fun Z σ H R ρ o ρ' Q S e k => by
  cases e
  exact k H R S (Stp.refl _ _ _ _)
noncomputable def mPart (f : Rho → Option (D × Rho)) : Rho → Option (Option Int × Rho) := mBind f fun d => mLift (match d with
  | .int i => some (some i)
  | _ => none)
theorem mo_some (h : ME K O t fa) : MO K O (tPart t) (mPart fa) := fun Z σ H R ρ o ρ' Q S e k => by
  obtain ⟨x, ρ1, e1, e⟩ := mBind_some e
  obtain ⟨e2, rfl⟩ := mLift_some e
  refine h Z σ H R ρ x _ _ S e1 fun v H1 R1 S1 st1 r1 => ?_
  (first | split at e2)
  · rename_i i
    obtain rfl := r1.isA rfl
    cases e2
    exact ⟨i, rfl, k H1 R1 S1 st1⟩
  · cases e2
noncomputable def cutD (xs : List D) (lo hi : Option Int) : List D := (xs.drop (HT.sIx xs.length 0 lo)).take (HT.sIx xs.length xs.length hi - HT.sIx xs.length 0 lo)
theorem Rps.cut {R : Hp} {xs : List V} {ds : List D} (r : Rps K R xs ds) (lo hi : Option Int) : Rps K R (cutV xs lo hi) (cutD ds lo hi) := by
  unfold cutV cutD
  rw [r.length]
  exact (r.drop _).take _
noncomputable def rSlG (K : PySem.W.Frag) : V → Option Int → Option Int → Hp → VK → Prop := fun x lo hi H Q => rSlL K x lo hi H Q
theorem sl_seqK {X : Cx} (h : X.K = K) : SlR X (rSlG K) := by
  subst h
  exact sl_list
noncomputable def dSl (d : D) (lo hi : Option Int) : Option D := match d with
  | .lst xs => some (.lst (cutD xs lo hi))
  | _ => none
noncomputable def mSl (f : Rho → Option (D × Rho)) (fl fh : Rho → Option (Option Int × Rho)) : Rho → Option (D × Rho) := mBind f fun d => mBind fl fun lo => mBind fh fun hi => mLift (dSl d lo hi)
theorem me_slice {tl th : TO} {fl fh : Rho → Option (Option Int × Rho)} (h : ME K O t fa) (hl : MO K O tl fl) (hh : MO K O th fh) : ME K O (tSl (rSlG K) t tl th) (mSl fa fl fh) := fun Z σ H R ρ d ρ' Q S e k => by
  obtain ⟨x, ρ1, e1, e⟩ := mBind_some e
  obtain ⟨lo, ρ2, e2, e⟩ := mBind_some e
  obtain ⟨hi, ρ3, e3, e⟩ := mBind_some e
  obtain ⟨e4, rfl⟩ := mLift_some e
  refine h Z σ H R ρ x _ _ S e1 fun v H1 R1 S1 st1 r1 => hl Z σ H1 R1 ρ1 lo _ _ S1 e2 fun H2 R2 S2 st2 => hh Z σ H2 R2 ρ2 hi _ _ S2 e3 fun H3 R3 S3 st3 => ?_
  have r3 := (r1.mono st2.r).mono st3.r
  have st := (st1.trans st2).trans st3
  unfold dSl at e4
  split at e4
  · obtain ⟨a, xs, rfl, q, r⟩ := r3.isL
    cases e4
    refine ⟨a, xs, rfl, Same.sqL S3.same q, fun p np => ?_⟩
    have y := Ext.new (o := .lst (cutV xs lo hi)) S3.sub np
    exact k _ _ _ (S3.ext y) (st.trans y.stp) (.lst (SqL.of upd_same) ((r.cut lo hi).mono y.r))
  · cases e4
theorem os_b0 {g : Int → Int → Bool} : OpS K (rI0 fun i j => .bl (g i j)) (dB0 g) := fun H x y d e u Q rx ry q k => by
  unfold dB0 at q
  split at q
  · rename_i i j
    (first | obtain rfl := q.isA rfl | cases q)
    (first | obtain rfl := rx.isA rfl | cases rx)
    (first | obtain rfl := ry.isA rfl | cases ry)
    exact ⟨i, j, rfl, rfl, k _ (.bl _)⟩
  · (first | obtain rfl := q.isA rfl | cases q)
noncomputable def flatD : D → Bool
  | .non => true
  | .bl _ => true
  | .int _ => true
  | .str _ => true
  | _ => false
noncomputable def vD : D → V
  | .bl b => .bl b
  | .int i => .int i
  | .str x => .str x
  | _ => .non
noncomputable def inD (x : D) (xs : List D) : Bool := inV (vD x) (xs.map vD)
theorem vD_of {R : Hp} {v : V} {d : D} (r : Rp K R v d) (h : flatD d = true) : v = vD d ∧ flatV v = true := by
  cases r with
  | non => exact ⟨rfl, rfl⟩
  | bl b => exact ⟨rfl, rfl⟩
  | int i => exact ⟨rfl, rfl⟩
  | str x => exact ⟨rfl, rfl⟩
  | _ => cases h
theorem vDs_of {R : Hp} : ∀ {xs : List V} {ds : List D}, Rps K R xs ds → ds.all flatD = true → xs = ds.map vD ∧ xs.all flatV = true
  | _, _, .nil, _ => ⟨rfl, rfl⟩
  | _, _, .cons h r, e => by
    rw [List.all_cons, Bool.and_eq_true] at e
    obtain ⟨h1, h2⟩ := vD_of h e.1
    obtain ⟨r1, r2⟩ := vDs_of r e.2
    exact ⟨by rw [List.map_cons, ← h1, ← r1], by rw [List.all_cons, h2, r2]; rfl⟩
noncomputable def dInG (neg : Bool) (x y : D) : Option D := match dSeq y with
  | some ys => if flatD x = true ∧ ys.all flatD = true then some (.bl (if neg then !inD x ys else inD x ys)) else none
  | none => none
theorem os_in {neg : Bool} : OpS K (rIn K neg) (dInG neg) := fun H x y d e u Q rx ry q k => by
  unfold dInG at q
  have go : ∀ {p : Addr} {xs : List V} {ds : List D}, y = .ref p → (SqL K H p xs ∨ SqT K H p xs) → Rps K H xs ds → (if flatD d = true ∧ ds.all flatD = true then some (D.bl (if neg then !inD d ds else inD d ds)) else none) = some u → rIn K neg x y H Q := fun {p xs ds} ey hs r q' => by
    split at q'
    · rename_i z
      cases q'
      obtain ⟨h1, h2⟩ := vD_of rx z.1
      obtain ⟨r1, r2⟩ := vDs_of r z.2
      refine ⟨p, xs, ey, hs, h2, r2, ?_⟩
      subst h1 r1
      exact k _ (.bl _)
    · cases q'
  cases ry with
  | lst h r => exact go rfl (.inl h) r q
  | tup h r => exact go rfl (.inr (SqT.of h)) r q
  | _ => cases q
noncomputable def iZipG (K : PySem.W.Frag) (ta : TA) : TI := fun σ H R => (iZip K true true ta σ H R ∨ iZip K true false ta σ H R) ∨ (iZip K false true ta σ H R ∨ iZip K false false ta σ H R)
theorem pi_zipG {X : Cx} {a b : Expr} {ta : TA} {p pos : Pos} {elts : List Expr} {x1 : Nat} {tp : Pos} (hK : X.K = K) (hg : Gl X "zip") (hm : X.mg "zip" = none) (ha : PA X [a, b] ta) (he : starEach [a, b] X.env = (false, eval a X.env) :: starEach [b] X.env := by rfl) (hpl : (backTo pos (starEach [b] X.env)).any (·.1) = false := by rfl) :
    PI X (.Tuple elts x1 tp) (.Call (.Name "zip" p) [a, b] [] pos) (iZipG K ta) := fun pins s σ H R I q => by
  rcases q with (q | q) | (q | q)
  · exact pi_zip true true hK hg hm ha he hpl pins s σ H R I q
  · exact pi_zip true false hK hg hm ha he hpl pins s σ H R I q
  · exact pi_zip false true hK hg hm ha he hpl pins s σ H R I q
  · exact pi_zip false false hK hg hm ha he hpl pins s σ H R I q
noncomputable def zipD (xs ys : List D) : List D := List.zipWith (fun x y => D.tup [x, y]) xs ys
noncomputable def mZip (f : Rho → Option (List D × Rho)) : Rho → Option (List D × Rho) := mBind f fun ds => mLift (match ds with
  | [x, y] => match dSeq x, dSeq y with
    | some xs, some ys => some (zipD xs ys)
    | _, _ => none
  | _ => none)
theorem SqB.inj_same {K : PySem.W.Frag} {b : Bool} {R H : Hp} {p : Addr} {xs : List V} (s : Same R H) (h : SqB K b R p xs) : SqB K b H p xs := by
  cases b
  · exact Same.tup s h
  · exact Same.sqL s h
theorem it_zip {R : Hp} {b1 b2 : Bool} {p1 p2 : Addr} {xs ys : List V} {ds es : List D} (h1 : SqB K b1 R p1 xs) (h2 : SqB K b2 R p2 ys) (r1 : Rps K R xs ds) (r2 : Rps K R ys es) : ItOk K (Itz K b1 b2 p1 p2) R (zipD ds es) := fun H' R' s b i => by
  have q1 := (SqB.inj_same s h1)
  have q2 := (SqB.inj_same s h2)
  have g1 := (SqB.inj_same b q1)
  have g2 := (SqB.inj_same b q2)
  have len : (zipD ds es).length = min ds.length es.length := by simp [zipD]
  have l1 := r1.length
  have l2 := r2.length
  refine ⟨fun e => ⟨xs, ys, g1, g2, by omega⟩, fun d e => ?_⟩
  unfold zipD at e
  rw [List.getElem?_zipWith] at e
  cases e1 : ds[i]? with
  | none => rw [e1] at e; cases e
  | some d1 =>
    cases e2 : es[i]? with
    | none => rw [e1, e2] at e; cases e
    | some d2 =>
      rw [e1, e2] at e
      cases e
      obtain ⟨v1, a1, a2⟩ := r1.get e1
      obtain ⟨v2, c1, c2⟩ := r2.get e2
      refine ⟨⟨xs, ys, v1, v2, g1, g2, a1, c1⟩, fun x H'' y => ?_⟩
      obtain ⟨T, x1, y1, rfl, hT, rfl, z1, z2⟩ := y
      have w1 := z1 xs g1
      have w2 := z2 ys g2
      rw [a1] at w1
      rw [c1] at w2
      cases w1
      cases w2
      have y := Ext.new (o := .tup [v1, v2]) b hT
      exact ⟨_, y, .tup upd_same (.cons ((a2.mono s).mono y.r) (.cons ((c2.mono s).mono y.r) .nil))⟩
theorem dSeq_some {x : D} {ds : List D} (h : dSeq x = some ds) : x = .lst ds ∨ x = .tup ds := by
  unfold dSeq at h
  split at h
  · cases h; exact .inl rfl
  · cases h; exact .inr rfl
  · (first | obtain rfl := h.isA rfl | cases h)
theorem mi_zip (h : MA K O tr fs) : MI K O (iZipG K tr) (mZip fs) := fun Z σ H R ρ ds ρ' Q S e k => by
  obtain ⟨xs, ρ1, e1, e⟩ := mBind_some e
  obtain ⟨e2, rfl⟩ := mLift_some e
  have go : ∀ (b1 b2 : Bool) (x y : D) (as bs : List D), xs = [x, y] → ds = zipD as bs → (∀ (R1 : Hp) (v : V), Rp K R1 v x → ∃ p vs, v = .ref p ∧ SqB K b1 R1 p vs ∧ Rps K R1 vs as) → (∀ (R1 : Hp) (v : V), Rp K R1 v y → ∃ p vs, v = .ref p ∧ SqB K b2 R1 p vs ∧ Rps K R1 vs bs) → iZip K b1 b2 tr σ H Q := fun b1 b2 x y as bs hx hd g1 g2 => by
    subst hx hd
    refine h Z σ H R ρ _ _ _ S e1 fun vs H1 R1 S1 st1 r1 => ?_
    obtain ⟨_, _, rfl, q, r⟩ := r1.isC
    obtain ⟨_, _, rfl, q', r⟩ := r.isC
    (first | obtain rfl := r.isA rfl | cases r)
    obtain ⟨p1, us, rfl, s1, t1⟩ := g1 _ _ q
    obtain ⟨p2, ws, rfl, s2, t2⟩ := g2 _ _ q'
    exact ⟨p1, p2, rfl, ⟨us, SqB.inj_same S1.same s1⟩, ⟨ws, SqB.inj_same S1.same s2⟩, k _ H1 R1 S1 st1 (it_zip s1 s2 t1 t2)⟩
  have gl : ∀ (as : List D) (R1 : Hp) (v : V), Rp K R1 v (.lst as) → ∃ p vs, v = .ref p ∧ SqB K true R1 p vs ∧ Rps K R1 vs as := fun as R1 v r => by
    obtain ⟨_, _, rfl, h, q⟩ := r.isL
    exact ⟨_, _, rfl, h, q⟩
  have gt : ∀ (as : List D) (R1 : Hp) (v : V), Rp K R1 v (.tup as) → ∃ p vs, v = .ref p ∧ SqB K false R1 p vs ∧ Rps K R1 vs as := fun as R1 v r => by
    obtain ⟨_, _, rfl, h, q⟩ := r.isT
    exact ⟨_, _, rfl, SqT.of h, q⟩
  split at e2
  · rename_i x y
    split at e2
    · rename_i as bs h1 h2
      cases e2
      rcases dSeq_some h1 with rfl | rfl <;> rcases dSeq_some h2 with rfl | rfl
      · exact .inl (.inl (go true true _ _ as bs rfl rfl (gl as) (gl bs)))
      · exact .inl (.inr (go true false _ _ as bs rfl rfl (gl as) (gt bs)))
      · exact .inr (.inl (go false true _ _ as bs rfl rfl (gt as) (gl bs)))
      · exact .inr (.inr (go false false _ _ as bs rfl rfl (gt as) (gt bs)))
    · cases e2
  · cases e2
end
inductive TyO (K : PySem.W.Frag) (H : Hp) : V → Value → Prop where
  | of {x : V} {t : Value} (h : TyOf K H x t) : TyO K H x t
  | sl {a : Addr} {xs : List V} (h : SqL K H a xs) : TyO K H (.ref a) (.type "list")
  | st {a : Addr} {xs : List V} (h : SqT K H a xs) : TyO K H (.ref a) (.type "tuple")
noncomputable def rIsO (K : PySem.W.Frag) : List V → Hp → VK → Prop := fun xs H Q => ∃ x y t c b, xs = [x, y] ∧ clsV y = some c ∧ TyO K H x t ∧ PySem.W.kitOne K t c = some b ∧ Q (.bl b) H
section
variable {X : Cx} {K : PySem.W.Frag} {O : List Nat} {t : TE} {fa : Rho → Option (D × Rho)}
theorem call_isO (hK : X.K = K) : CallR X (.builtin "isinstance") (rIsO K) := by
  subst hK
  intro pins s σ H xs us Q I r h
  obtain ⟨x, y, t, c, b, rfl, hc, ty, e, q⟩ := h
  cases ty with
  | of h => exact call_isi rfl pins s σ H [x, y] us Q I r ⟨x, y, t, c, b, rfl, hc, h, e, q⟩
  | sl h =>
    obtain ⟨u, w, rfl, ru, rw'⟩ := vals2 r
    (first | obtain rfl := ru.isA rfl | cases ru)
    have ew : w = c := by
      cases y with
      | ref a => exact (show w = Value.ref a from rw').trans (Option.some.inj hc)
      | ty n => exact (show w = Value.type n from rw').trans (Option.some.inj hc)
      | _ => cases hc
    subst ew
    obtain ⟨its, rv, pl, _⟩ := I.list h
    obtain ⟨o, e1, c1, _⟩ := pl.isList
    exact PySem.W.kia_one PySem.W.kitx_list I.kIn ⟨o, e1, c1⟩ e (fun z => nomatch z) fun tk => ⟨.bl b, H, I.tok tk, rfl, q⟩
  | st h =>
    obtain ⟨u, w, rfl, ru, rw'⟩ := vals2 r
    (first | obtain rfl := ru.isA rfl | cases ru)
    have ew : w = c := by
      cases y with
      | ref a => exact (show w = Value.ref a from rw').trans (Option.some.inj hc)
      | ty n => exact (show w = Value.type n from rw').trans (Option.some.inj hc)
      | _ => cases hc
    subst ew
    obtain ⟨its, rv, pl, _⟩ := I.tuple h
    obtain ⟨o, e1, c1, _⟩ := pl
    exact PySem.W.kia_one PySem.W.kitx_tuple I.kIn ⟨o, e1, c1⟩ e (fun z => nomatch z) fun tk => ⟨.bl b, H, I.tok tk, rfl, q⟩
noncomputable def tyN : D → Option String
  | .non => some "NoneType"
  | .bl _ => some "bool"
  | .int _ => some "int"
  | .str _ => some "str"
  | .lst _ => some "list"
  | .tup _ => some "tuple"
  | .dct _ => some "dict"
  | .exc _ => none
  | .fn _ => none
  | .dit _ => some "dict"
  | .obj _ _ => none
theorem tyO_of {H : Hp} {v : V} {d : D} {n : String} (r : Rp K H v d) (e : tyN d = some n) : TyO K H v (.type n) := by
  cases r with
  | non => cases e; exact .of .non
  | bl b => cases e; exact .of (.bl b)
  | int i => cases e; exact .of (.int i)
  | str x => cases e; exact .of (.str x)
  | lst h _ => cases e; exact .sl h
  | tup h _ => cases e; exact .st (SqT.of h)
  | dct h _ => cases e; exact .of (.dK h)
  | dit h _ => cases e; exact .of (.dT h)
  | obj _ _ => cases e
  | exc _ _ _ => cases e
  | fn _ => cases e
noncomputable def KitB (K : PySem.W.Frag) (Y : String) (f : String → Option Bool) : Prop := ∀ s b, f s = some b → PySem.W.kitOne K (.type s) (.type Y) = some b
noncomputable def isTab (Y : String) : String → Option Bool := fun s =>
  if s = "NoneType" then some (decide (Y = "NoneType")) else if s = "bool" then some (decide (Y = "bool") || decide (Y = "int")) else if s = "int" then some (decide (Y = "int")) else if s = "str" then some (decide (Y = "str"))
  else if s = "list" then some (decide (Y = "list")) else if s = "tuple" then some (decide (Y = "tuple")) else if s = "dict" then some (decide (Y = "dict")) else none
theorem kitB_mk {Y : String} (h1 : PySem.W.kitOne K (.type "NoneType") (.type Y) = some (decide (Y = "NoneType"))) (h2 : PySem.W.kitOne K (.type "bool") (.type Y) = some (decide (Y = "bool") || decide (Y = "int"))) (h3 : PySem.W.kitOne K (.type "int") (.type Y) = some (decide (Y = "int")))
    (h4 : PySem.W.kitOne K (.type "str") (.type Y) = some (decide (Y = "str"))) (h5 : PySem.W.kitOne K (.type "list") (.type Y) = some (decide (Y = "list"))) (h6 : PySem.W.kitOne K (.type "tuple") (.type Y) = some (decide (Y = "tuple"))) (h7 : PySem.W.kitOne K (.type "dict") (.type Y) = some (decide (Y = "dict"))) : KitB K Y (isTab Y) := fun s b e => by
  unfold isTab at e
  split at e
  · rename_i z; subst z; rw [← e]; exact h1
  split at e
  · rename_i z; subst z; rw [← e]; exact h2
  split at e
  · rename_i z; subst z; rw [← e]; exact h3
  split at e
  · rename_i z; subst z; rw [← e]; exact h4
  split at e
  · rename_i z; subst z; rw [← e]; exact h5
  split at e
  · rename_i z; subst z; rw [← e]; exact h6
  split at e
  · rename_i z; subst z; rw [← e]; exact h7
  · cases e
noncomputable def dIsi (f : String → Option Bool) (d : D) : Option D := match tyN d with
  | some s => (f s).map .bl
  | none => none
theorem me_isi {Y : String} {f : String → Option Bool} (hk : KitB K Y f) (ha : MB K O t fa) : ME K O (tCB (rIsO K) (tCons t (tCons (tC (.ty Y)) tNil))) (mOp1 (dIsi f) fa) := fun Z σ H R ρ d ρ' Q S e k => by
  obtain ⟨x, ρ1, e1, e⟩ := mBind_some e
  obtain ⟨e2, rfl⟩ := mLift_some e
  refine ha Z σ H R ρ x _ _ S e1 fun v H1 R1 S1 st1 r1 => ?_
  unfold dIsi at e2
  cases e3 : tyN x with
  | none => rw [e3] at e2; cases e2
  | some s =>
    rw [e3] at e2
    dsimp only at e2
    cases e4 : f s with
    | none => rw [e4] at e2; cases e2
    | some b =>
      rw [e4] at e2
      cases e2
      exact ⟨v, .ty Y, .type s, .type Y, b, rfl, rfl, tyO_of r1 e3, hk s b e4, k _ H1 R1 S1 st1 (.bl b)⟩
end
noncomputable def mOf (f : Rho → Option (List D × Rho)) : Rho → Option (D × Rho) := mBind f fun ds => mRet (D.lst ds)
section
variable {K : PySem.W.Frag} {O O1 O' : List Nat} {t : TE} {c : MC} {u : TS} {f : Rho → Option Out} {fn : Rho → Option (List D × Rho)}
theorem me_new (h : MN K O t fn) : ME K O t (mOf fn) := h.me
theorem ms_weak (h : MS c O O1 u f) (hs : subO c O1 O' = true) : MS c O O' u f := fun Z E σ H R ρ o hP S e k => by
  refine h Z E σ H R ρ o hP S e ?_
  cases o with
  | nx ρ' =>
    intro σ' H' R' S' s'
    obtain ⟨S2, s2⟩ := S'.sub' hP hs
    exact k σ' H' _ S2 (s'.trans s2)
  | bk ρ' => exact k
  | ct ρ' => exact k
  | rt d ρ' => exact k
theorem ms_setC {k n : Nat} {js : List Nat} {wi : TI} {g : TG} {tt : TT} {te : TE} (he : MN c.K O (tComp n js wi g tt te) fn) (hs : subO c O O' = true) (hi : k ∉ O') : MS c O O' (sComp k n js wi g tt te) (sSet k (mOf fn)) :=
  show MS c O O' (tAsg (tComp n js wi g tt te) (gName k)) (sSet k (mOf fn)) from ms_set (me_new he) hs hi
noncomputable def sDrop (fe : Rho → Option (D × Rho)) : Rho → Option Out := fun ρ => match fe ρ with
  | none => none
  | some (_, ρ1) => some (.nx ρ1)
theorem ms_expr {fe : Rho → Option (D × Rho)} (he : ME c.K O t fe) (hs : subO c O O' = true) : MS c O O' (tDrop t) (sDrop fe) := fun Z E σ H R ρ o hP S e k => by
  unfold sDrop at e
  cases e1 : fe ρ with
  | none => rw [e1] at e; cases e
  | some p =>
    obtain ⟨d, ρ1⟩ := p
    rw [e1] at e
    cases e
    refine he Z σ H R ρ d ρ1 _ S e1 fun v H1 R1 S1 st1 r1 => ?_
    obtain ⟨S2, s2⟩ := S1.sub' hP hs
    exact k σ H1 _ S2 (st1.r.trans s2)
end
noncomputable def okMul (i j : Int) : Bool := (decide (-(2 ^ 64) < i) && decide (i < 2 ^ 64)) || (decide (-(2 ^ 64) < j) && decide (j < 2 ^ 64))
noncomputable def okDiv (_ j : Int) : Bool := decide (0 < j) && decide (j < 1073741824)
noncomputable def okMod (_ j : Int) : Bool := decide (0 < j)
noncomputable def okPow (i j : Int) : Bool := decide (0 ≤ j) && decide (j ≤ 1000000) && decide (i.natAbs < 2 ^ 64)
noncomputable abbrev dDiv : D → D → Option D := dI2 okDiv fun i j => i / j
noncomputable abbrev dMod : D → D → Option D := dI2 okMod fun i j => i % j
noncomputable abbrev dPow : D → D → Option D := dI2 okPow fun i j => i ^ j.toNat
noncomputable abbrev dShl : D → D → Option D := dI2 okPow fun i j => i * 2 ^ j.toNat
noncomputable abbrev dSub : D → D → Option D := dI0 fun i j => i - j
noncomputable abbrev dGt : D → D → Option D := dB0 fun i j => decide (j < i)
noncomputable abbrev dGe : D → D → Option D := dB0 fun i j => decide (j ≤ i)
section
variable {K : PySem.W.Frag}
theorem og_div : OpG K (rI CDiv fun i j => .int (i / j)) dDiv := op_i fun i j h => by
  unfold okDiv at h
  simp only [Bool.and_eq_true, decide_eq_true_eq] at h
  exact h
theorem og_mod : OpG K (rI (fun _ j => 0 < j) fun i j => .int (i % j)) dMod := op_i fun i j h => of_decide_eq_true h
theorem og_pow : OpG K (rI CPow fun i j => .int (i ^ j.toNat)) dPow := op_i fun i j h => by
  unfold okPow at h
  simp only [Bool.and_eq_true, decide_eq_true_eq] at h
  exact ⟨h.1.1, h.1.2, h.2⟩
theorem og_shl : OpG K (rI CPow fun i j => .int (i * 2 ^ j.toNat)) dShl := op_i fun i j h => by
  unfold okPow at h
  simp only [Bool.and_eq_true, decide_eq_true_eq] at h
  exact ⟨h.1.1, h.1.2, h.2⟩
theorem og_sub : OpG K (rI0 fun i j => .int (i - j)) dSub := op_i0
noncomputable def spLaw (K : PySem.W.Frag) (n : Nat) : Sp := fun vs H Q _ => ∃ (b : Addr) (ns : List Int), vs = [.ref b] ∧ SqL K H b (ns.map V.int) ∧ ns.length ≤ n ∧ ∀ H', Q (.bl true) H'
theorem law_of {P : Program} {w : World} {mg : Str → Option Value} {base : Heap} {CX : CXT} {k n : Nat} {fa : Addr} {fd : FuncData} {x : Str} {f : List D → Option D} (F : FnOk P w K mg base CX k fa fd [x] (spP K false 1 f)) (h : ∀ ns : List Int, ns.length ≤ n → f [.lst (ns.map D.int)] = some (.bl true)) : FnOk P w K mg base CX k fa fd [x] (spLaw K n) :=
  F.imp fun vs H Q E q => by
    obtain ⟨b, ns, rfl, hb, hl, k⟩ := q
    refine ⟨rfl, H, [.lst (ns.map D.int)], .bl true, fun _ _ e => e, .cons (.lst hb (Rps.ints ns)) .nil, h ns hl, fun v H' R' _ r => ?_⟩
    have r' : Rp K R' v (.bl true) := r
    cases r'
    exact k H'
end
section
variable {K : PySem.W.Frag} {O O' : List Nat} {t ta tb : TE} {fa fb : Rho → Option (D × Rho)} {fn : Rho → Option (List D × Rho)} {c : MC}
noncomputable def dNeg : D → Option D
  | .int i => some (.int (-i))
  | _ => none
theorem me_neg (h : ME K O t fa) : ME K O (tUn (rU fun i => .int (-i)) t) (mOp1 dNeg fa) := fun Z σ H R ρ d ρ' Q S e k => by
  obtain ⟨x, ρ1, e1, e⟩ := mBind_some e
  obtain ⟨e2, rfl⟩ := mLift_some e
  refine h Z σ H R ρ x _ _ S e1 fun v H1 R1 S1 st1 r1 => ?_
  (first | split at e2 | (unfold dNeg at e2; split at e2))
  · rename_i i
    obtain rfl := r1.isA rfl
    cases e2
    exact ⟨i, rfl, k _ H1 R1 S1 st1 (.int _)⟩
  · cases e2
theorem Rps.empty {R : Hp} {xs : List V} {ds : List D} (r : Rps K R xs ds) : xs.isEmpty = ds.isEmpty := by cases r <;> rfl
theorem range_any {α : Type} (l : List α) (f : α → Bool) (tr : Nat → Bool) (h : ∀ i x, l[i]? = some x → tr i = f x) : (List.range l.length).any tr = l.any f := by
  induction l generalizing tr with
  | nil => rfl
  | cons a l ih =>
    rw [List.length_cons, List.range_succ_eq_map, List.any_cons, List.any_map, List.any_cons, h 0 a rfl]
    congr 1
    exact ih (fun i => tr (i + 1)) fun i x e => h (i + 1) x (by simpa using e)
theorem call_any {X : Cx} (hK : X.K = K) (hc : X.calm = true) : CallR X (.builtin "any") (fun xs H Q => ∃ (p : Addr) (bs : List Bool), xs = [.ref p] ∧ SqL K H p (bs.map V.bl) ∧ Q (.bl (bs.any id)) H) := by
  subst hK
  intro pins s σ H xs us Q I r h
  obtain ⟨p, bs, rfl, hq, q⟩ := h
  obtain ⟨u, rfl, ru⟩ := vals1 r
  (first | obtain rfl := ru.isA rfl | cases ru)
  obtain ⟨its, rv, pl, hz⟩ := I.list hq
  have hh : X.A.in1.handled = none := I.ok.hd hc
  have eits := vals_bools rv
  have hl := pl.isList
  have hlt : p < s.heap.objs.size := by obtain ⟨_, e, _⟩ := hl; exact Heap.lt_size e
  refine call_any_walk (wpAny_pyIter_list hl ?_)
  refine ⟨_, _, _, _, _, _, fun i => bs.getD i false, rfl, Walks.list hh s.heap.objs.size p (Nat.ne_of_lt hlt) its.toArray, ⟨⟨_, Heap.get?_push_size _ rfl, rfl, rfl⟩, hl.push _⟩, fun i v s' Q' E' hP hQ => ?_, fun h' tk hk => ?_⟩
  · have e : (bs.map Value.bool)[i]? = some v := by rw [← eits]; simpa using hP
    rw [List.getElem?_map] at e
    cases z : bs[i]? with
    | none => rw [z] at e; cases e
    | some b =>
      rw [z] at e
      have e' : v = Value.bool b := (Option.some.inj e).symm
      subst e'
      refine wpAny_truthy_bool ?_
      have : bs.getD i false = b := by rw [List.getD_eq_getElem?_getD, z]; rfl
      dsimp only at hQ
      rw [this] at hQ
      exact hQ
  · have len : its.toArray.size = bs.length := by rw [eits]; simp
    refine ⟨.bl (bs.any id), H, I.kept (t' := tk) fun b o e => hk b o (fun z => ?_) (Heap.get?_push_of_some _ e), ?_, q⟩
    · have := Heap.lt_size e
      rw [List.mem_singleton.mp z] at this
      exact Nat.lt_irrefl _ this
    · show Value.bool _ = Value.bool _
      rw [len, range_any bs id]
      intro i x e
      rw [List.getD_eq_getElem?_getD, e]
      rfl
noncomputable def dAny : D → Option D
  | .lst xs => (boolsD xs).map fun bs => .bl (bs.any id)
  | _ => none
theorem cs_any : CallS K (fun xs H Q => ∃ (p : Addr) (bs : List Bool), xs = [.ref p] ∧ SqL K H p (bs.map V.bl) ∧ Q (.bl (bs.any id)) H) dAny := fun H x d u Q r e k => by
  cases r with
  | lst h q =>
    rename_i ds
    have e' : (boolsD ds).map (fun bs => D.bl (bs.any id)) = some u := e
    cases z : boolsD ds with
    | none => rw [z] at e'; cases e'
    | some ns =>
      rw [z] at e'
      cases e'
      have ex := boolsD_rps q z
      subst ex
      exact ⟨_, ns, rfl, h, k _ (.bl _)⟩
  | _ => cases e
noncomputable def sExt (i : Nat) (fn : Rho → Option (List D × Rho)) : Rho → Option Out := fun ρ => if isL ρ i = true then (match fn ρ with
  | none => none
  | some (ys, ρ1) => match ρ1[i]? with
    | some (some (.lst xs)) => if xs.length + ys.length ≤ sizeLine then some (.nx (ρ1.set i (some (.lst (xs ++ ys))))) else none
    | _ => none) else none
end
section
variable {M : Model} {A : Around} {E : Value → Shared → Prop} {s : Shared}
theorem inplace_list {a b : Value} {Q : Value → Shared → Prop} (ha : s.TypeIs a "list") (hb : s.TypeIs b "list") (hc : wpAny M A (call (.builtin "list.__iadd__") [a, b]) Q E s) : wpAny M A (inplaceOp .Add a b) Q E s := by
  unfold inplaceOp
  refine wpAny_holding ?_
  have hfi : fillsInplaceSlot (.type "list") "add" (Operator.Add == .Add) = pure false := by
    unfold fillsInplaceSlot
    show (typeLookup (.type "list") (dunderI "add") >>= fun fi => pure (fi.isSome && !isSeqSlot fi)) = pure false
    rw [F.slot_list_iadd.lookup]
    rfl
  have hsi : seqSlot? (.type "list") (dunderI "add") = pure (some (.builtin "list.__iadd__")) := PySem.seqSlot_of F.slot_list_iadd.lookup (by decide +kernel)
  refine wpAny_bind (wpAny_typeOf ha (wpAny_bind (wpAny_of_eq hfi ?_)))
  show wpAny M A (if false = true then _ else _) Q E s
  rw [if_neg Bool.false_ne_true]
  refine wpAny_bind (wpAny_binaryOp1_none (nm := "add") ha hb noFill_list_add ?_)
  refine wpAny_bind (wpAny_of_eq hsi ?_)
  exact wpAny_bind (wpAny_rule hc)
end
noncomputable def ipL : TIp := fun x y H Q => ∃ l b xs zs, x = .ref l ∧ y = .ref b ∧ H l = some (.lst xs) ∧ H b = some (.lst zs) ∧ xs.length + zs.length ≤ sizeLine ∧ Q (.ref l) (upd H l (.lst (xs ++ zs)))
section
variable {X : Cx} {K : PySem.W.Frag}
theorem ip_list : PIp X .Add ipL := by
  intro pins s σ H x y v u Q I r1 r2 h
  obtain ⟨l, b, xs, zs, rfl, rfl, hH, hB, hz, q⟩ := h
  (first | obtain rfl := r1.isA rfl | cases r1)
  (first | obtain rfl := r2.isA rfl | cases r2)
  obtain ⟨z, its, n, r, hl, e⟩ := I.lstM hH
  obtain ⟨z2, its2, n2, r2, hl2, e2⟩ := I.lstM hB
  have hsz : its.toArray.size + its2.toArray.size ≤ sizeLine := by rw [List.size_toArray, List.size_toArray]; omega
  have hlong : ¬ (!its.toArray.isEmpty && Builtin.List.listTooLong (its.toArray.size + its2.toArray.size)) = true := by
    rw [notLongL hsz, Bool.and_false]
    exact Bool.false_ne_true
  refine inplace_list ⟨_, e, rfl⟩ ⟨_, e2, rfl⟩ (call_meets F.slot_list_iadd ⟨_, e, rfl⟩ F.entry_list_iadd (F.args_list_iadd_2 _ _)
    (AutoSeq1.list___iadd___list_list_0 l its.toArray n b its2.toArray n2 hlong (by rw [List.size_toArray]; omega) (by omega)) ⟨e, e2, ?_⟩)
  refine ⟨.ref l, _, I.lset (its' := its ++ its2) hH e (by simp) (r.append r2) ?_, rfl, q⟩
  rw [List.length_append]
  omega
end
section
variable {c : MC} {O O' : List Nat} {te : TE} {fn : Rho → Option (List D × Rho)}
theorem ms_augL {i : Nat} (hi : i ∈ O) (he : MN c.K O te fn) (hs : subO c O O' = true) : MS c O O' (tAug i te ipL) (sExt i fn) := fun Z E σ H R ρ o hP S e k => by
  unfold sExt at e
  split at e
  case isFalse => cases e
  rename_i hL
  cases e1 : fn ρ with
  | none => rw [e1] at e; cases e
  | some p =>
    obtain ⟨ys, ρ1⟩ := p
    rw [e1] at e
    dsimp only at e
    obtain ⟨l, vs, ds, h1, h2, h3, h4, h5⟩ := S.own i hi
    refine ⟨.ref l, h2, he Z σ H R ρ ys ρ1 _ S e1 fun b zs H1 R1 S1 st1 b0 bH bR r1 => ?_⟩
    obtain ⟨l', vs', ds', g1, g2, g3, g4, g5⟩ := S1.own i hi
    rw [h2] at g2
    cases g2
    rw [g1] at e
    cases g5 with
    | dct _ => cases e
    | dit _ => cases e
    | lst g5 =>
    rename_i vs' ds'
    dsimp only at e
    split at e
    · rename_i hz
      cases e
      refine ⟨l, b, vs', zs, rfl, rfl, g3, bH, by rw [g5.length, r1.length]; exact hz, ?_⟩
      obtain ⟨S2, s2⟩ := (S1.write hi h2 (.lst (g5.append r1))).sub' hP hs
      have same : σ.set i (some (.ref l)) = σ := by
        have hlen : i < σ.length := (List.getElem?_eq_some_iff.mp h2).1
        refine List.ext_getElem? fun j => ?_
        by_cases hj : i = j
        · subst hj; rw [List.getElem?_set_self hlen, h2]
        · rw [List.getElem?_set_ne hj]
      show E.nx (σ.set i (some (.ref l))) _
      rw [same]
      exact k σ _ _ S2 (st1.r.trans s2)
    · cases e
end
theorem foldl_size {α : Type} (a : Array α) : ∀ (k : Nat) (acc : Array α), (List.foldl (fun x1 x2 => x1 ++ x2) acc (List.replicate k a)).size = acc.size + k * a.size
  | 0, acc => by simp
  | k + 1, acc => by
    rw [List.replicate_succ, List.foldl_cons, foldl_size a k, Array.size_append, Nat.succ_mul]
    omega
section
variable {X : Cx} {K : PySem.W.Frag}
noncomputable def strRep (z : Str) (k : Int) : Str := if (k == 1 || z.length == 0) = true then z else ⟨List.foldl (fun x1 x2 => x1 ++ x2) #[] (List.replicate k.toNat z.cps)⟩
theorem op_repStr : OpR X (binaryOp .Mult) (fun x y H Q => ∃ z k, x = .str z ∧ y = .int k ∧ 0 < k ∧ k ≤ 1000 ∧ 0 < z.length ∧ z.length ≤ 1000 ∧ Q (.str (strRep z k)) H) := by
  intro pins s σ H x y v u Q I rx ry h
  obtain ⟨z, k, rfl, rfl, h1, h2, h3, h4, q⟩ := h
  obtain ⟨t, rfl⟩ := rx
  obtain ⟨t', rfl⟩ := ry
  have hm : z.length * k.toNat ≤ 1000 * 1000 := Nat.mul_le_mul h4 (by omega)
  refine PySem.P.mul_str (by simp; omega) (fun _ _ => ?_) (fun _ _ => ?_) ?_
  · intro hgt
    have h5 : ((2 : Int) ^ 63 - 1) / 1000 ≤ (2 ^ 63 - 1) / k := by
      refine Int.le_ediv_of_mul_le h1 ?_
      have : ((2 : Int) ^ 63 - 1) / 1000 * k ≤ (2 ^ 63 - 1) / 1000 * 1000 := Int.mul_le_mul_of_nonneg_left h2 (by decide)
      exact Int.le_trans this (by decide)
    have h6 : (1000 : Int) < (2 ^ 63 - 1) / 1000 := by decide
    omega
  · unfold Builtin.Str.tooLong
    have : (sizeLine : Nat) ≥ 1000 * 1000 := by decide
    simp
    omega
  · rw [if_neg (by omega)]
    unfold strRep at q
    split
    · rename_i hh
      rw [if_pos hh] at q
      exact ⟨.str z, H, I, ⟨t, rfl⟩, q⟩
    · rename_i hh
      rw [if_neg hh] at q
      refine ⟨?_, ⟨.str _, H, I.tok _, ⟨_, rfl⟩, q⟩⟩
      show (List.foldl (fun x1 x2 => x1 ++ x2) #[] (List.replicate k.toNat z.cps)).size ≤ sizeLine
      rw [foldl_size]
      have h7 : k.toNat * z.cps.size ≤ 1000 * 1000 := Nat.mul_le_mul (by omega) h4
      have h8 : (sizeLine : Nat) ≥ 1000 * 1000 := by decide
      simp
      omega
noncomputable def CMul2 (i j : Int) : Prop := CMul i j ∨ (i.natAbs < 2 ^ 250 ∧ j.natAbs < 2 ^ 250)
theorem bits250 {k : Int} (h : k.natAbs < 2 ^ 250) : Builtin.Int.intBits k ≤ 250 := by
  unfold Builtin.Int.intBits
  split
  · exact Nat.zero_le _
  · rename_i h0
    have hk : k.natAbs ≠ 0 := fun z => h0 (by simpa using z)
    have : k.natAbs.log2 < 250 := (Nat.log2_lt hk).mpr h
    omega
theorem CMul2.ok {i j : Int} (h : CMul2 i j) : IntMulOk i j := by
  rcases h with h | ⟨h1, h2⟩
  · exact h.ok
  · exact IntMulOk.of_le (bits250 h1) (bits250 h2) (by decide)
theorem op_mul2 : OpR X (binaryOp .Mult) (rI CMul2 fun i j => .int (i * j)) := opI fun _ _ _ _ _ _ _ hc q => mul_int q hc.ok
noncomputable def bigM (i : Int) : Bool := decide (i.natAbs < 2 ^ 250)
noncomputable def okMul2 (i j : Int) : Bool := okMul i j || (bigM i && bigM j)
theorem okMul2_of {i j : Int} (h : okMul2 i j = true) : CMul2 i j := by
  unfold okMul2 okMul bigM at h
  simp only [Bool.or_eq_true, Bool.and_eq_true, decide_eq_true_eq] at h
  rcases h with h | h
  · exact .inl h
  · exact .inr h
noncomputable def rMulG (K : PySem.W.Frag) : R2 := fun x y H Q => rI CMul2 (fun i j => .int (i * j)) x y H Q ∨ ∃ z k, x = .str z ∧ y = .int k ∧ 0 < k ∧ k ≤ 1000 ∧ 0 < z.length ∧ z.length ≤ 1000 ∧ Q (.str (strRep z k)) H
theorem op_mulG (hK : X.K = K) : OpR X (binaryOp .Mult) (rMulG K) := op_mul2.or op_repStr
end
noncomputable def dMulG : D → D → Option D
  | .int i, .int j => if okMul2 i j = true then some (.int (i * j)) else none
  | .str z, .int k => if 0 < k ∧ k ≤ 1000 ∧ 0 < z.length ∧ z.length ≤ 1000 then some (.str (strRep z k)) else none
  | _, _ => none
theorem og_mulG {K : PySem.W.Frag} : OpG K (rMulG K) dMulG := fun H R x y d e u Q s rx ry q k => by
  unfold dMulG at q
  split at q
  · rename_i i j
    split at q
    · rename_i h
      (first | obtain rfl := q.isA rfl | cases q)
      (first | obtain rfl := rx.isA rfl | cases rx)
      (first | obtain rfl := ry.isA rfl | cases ry)
      exact .inl ⟨i, j, rfl, rfl, okMul2_of h, k _ H R (Ext.refl s) (.int _)⟩
    · (first | obtain rfl := q.isA rfl | cases q)
  · rename_i z j
    split at q
    · rename_i hc
      (first | obtain rfl := q.isA rfl | cases q)
      (first | obtain rfl := ry.isA rfl | cases ry)
      (first | obtain rfl := rx.isA rfl | cases rx)
      exact .inr ⟨z, j, rfl, rfl, hc.1, hc.2.1, hc.2.2.1, hc.2.2.2, k _ H R (Ext.refl s) (.str _)⟩
    · (first | obtain rfl := q.isA rfl | cases q)
  · (first | obtain rfl := q.isA rfl | cases q)
section
variable {X : Cx} {K : PySem.W.Frag} {O : List Nat} {pos : Pos}
theorem Inv.bigL {pins : List (Addr × Obj)} {σ : St} {H : Hp} {s : Shared} (I : Inv X pins σ H s) : sysModules < s.heap.objs.size := by
  have h : mainGlobals < s.heap.objs.size := (I.mod.glob.keeps I.bk).lt
  exact Nat.lt_trans (by decide) h
noncomputable def tDict0 : TE := fun _ H Q => ∀ p, H p = none → Q (.ref p) (upd H p (.dK []))
theorem pe_dict0 : PE X (.Dict [] [] pos) tDict0 := fun pins s σ H Q I h =>
  wpAny_Dict_empty ⟨.ref s.heap.objs.size, _, I.laid (a := s.heap.objs.size) (o := .dK []) (t' := s.toks) (fun _ _ q => Heap.get?_push_of_some _ q) (Nat.le_refl _) ⟨Nat.zero_le _, beq_eq_false_iff_ne.mpr (Ne.symm (Nat.ne_of_lt I.bigL)), [], .nil, Heap.DictOf.new _⟩, rfl, h _ (I.hok.fresh (Nat.le_refl _))⟩
theorem me_dict0 : ME K O tDict0 (mRet (.dct [])) := fun Z σ H R ρ d ρ' Q S e k => by
  cases e
  intro p np
  have y := Ext.new (o := .dK []) S.sub np
  exact k _ _ _ (S.ext y) y.stp (.dct upd_same .nil)
end
noncomputable def strsD : List D → Option (List Str)
  | [] => some []
  | .str i :: r => (strsD r).map (i :: ·)
  | _ => none
theorem strsD_rps {K : PySem.W.Frag} {R : Hp} : ∀ {xs : List V} {ds : List D} {ns : List Str}, Rps K R xs ds → strsD ds = some ns → xs = ns.map V.str
  | _, _, ns, .nil, e => by cases e; rfl
  | _, _, ns, .cons (d := d) h r, e => by
    cases h with
    | str i =>
      unfold strsD at e
      cases q : strsD _ with
      | none => rw [q] at e; cases e
      | some ms => rw [q] at e; cases e; rw [strsD_rps r q]; rfl
    | _ => cases e
theorem strsAre_of : ∀ {ns : List Str} {us : List Value}, Vals (ns.map V.str) us → StrsAre us ns
  | [], us, r => by cases r; exact .nil
  | n :: ns, us, r => by
    cases r with
    | cons h t =>
      obtain ⟨tk, e⟩ := (show ∃ t, _ = Value.str n t from h)
      subst e
      exact .cons n tk (strsAre_of t)
noncomputable def rJoin (K : PySem.W.Frag) : V → List V → Hp → VK → Prop := fun x vs H Q => ∃ z p ns, x = .str z ∧ vs = [.ref p] ∧ SqL K H p (ns.map V.str) ∧ (ns.map (·.length)).sum + ns.length * z.length ≤ 16777216 ∧ Q (.str (Txt.join z ns)) H
theorem mt_joinS {X : Cx} {K : PySem.W.Frag} (hK : X.K = K) : MtM X "str.join" (rJoin K) := by
  subst hK
  intro pins s σ H x vs v us Q I rx rv h
  obtain ⟨z, p, ns, rfl, rfl, hs, hz, q⟩ := h
  obtain ⟨t, rfl⟩ := rx
  obtain ⟨u, rfl, ru⟩ := rv.one
  (first | obtain rfl := ru.isA rfl | cases ru)
  obtain ⟨its, r, pl, _⟩ := I.list hs
  refine PyProof.Rows.join_list pl.isList (by simpa using strsAre_of r) hz fun t' k => ?_
  exact ⟨.str _, H, I.tok k, ⟨t', rfl⟩, q⟩
noncomputable def dJoin (x y : D) : Option D := match x, y with
  | .str z, .lst ds => match strsD ds with
    | some ns => if (ns.map (·.length)).sum + ns.length * z.length ≤ 16777216 then some (.str (Txt.join z ns)) else none
    | none => none
  | _, _ => none
theorem me_join {K : PySem.W.Frag} {O : List Nat} {t ta : TE} {fa fb : Rho → Option (D × Rho)} (h : ME K O t fa) (h2 : ME K O ta fb) : ME K O (tBM K "str" (rJoin K) t (tCons ta tNil)) (mOp2 dJoin fa fb) := fun Z σ H R ρ d ρ' Q S e k => by
  obtain ⟨x, ρ1, e1, e⟩ := mBind_some e
  obtain ⟨y, ρ2, e2, e⟩ := mBind_some e
  obtain ⟨e3, rfl⟩ := mLift_some e
  unfold dJoin at e3
  split at e3
  · rename_i z ds
    split at e3
    · rename_i ns z3
      split at e3
      · rename_i hz
        cases e3
        refine h Z σ H R ρ _ ρ1 _ S e1 fun v H1 R1 S1 st1 r1 => ?_
        (first | obtain rfl := r1.isA rfl | cases r1)
        refine ⟨rfl, h2 Z σ H1 R1 ρ1 _ _ _ S1 e2 fun w H2 R2 S2 st2 r2 => ?_⟩
        obtain ⟨a, xs, rfl, q, r⟩ := r2.isL
        have ex := strsD_rps r z3
        subst ex
        exact ⟨_, a, ns, rfl, rfl, Same.sqL S2.same q, hz, k _ H2 R2 S2 (st1.trans st2) (.str _)⟩
      · cases e3
    · cases e3
  · cases e3
theorem os_inK {K : PySem.W.Frag} {O : List Nat} {neg : Bool} {p : Addr} {xs : List V} {t : TE} {ds : List D} {f : Rho → Option (D × Rho)} (hs : ∀ H, SqT K H p xs) (hx : xs = ds.map vD) (hf : xs.all flatV = true) (h : ME K O t f) :
    ME K O (tOp (rIn K neg) t (tC (.ref p))) (mOp1 (fun d => if flatD d = true then some (.bl (if neg then !inD d ds else inD d ds)) else none) f) := fun Z σ H R ρ d ρ' Q S e k => by
  obtain ⟨x, ρ1, e1, e⟩ := mBind_some e
  obtain ⟨e3, rfl⟩ := mLift_some e
  refine h Z σ H R ρ x _ _ S e1 fun v H1 R1 S1 st1 r1 => ?_
  have e4 : (if flatD x = true then some (D.bl (if neg then !inD x ds else inD x ds)) else none) = some d := e3
  by_cases hz : flatD x = true
  · rw [if_pos hz] at e4
    cases e4
    obtain ⟨h1, h2⟩ := vD_of r1 hz
    refine ⟨p, xs, rfl, .inr (hs H1), h2, hf, ?_⟩
    subst h1 hx
    exact k _ H1 R1 S1 st1 (.bl _)
  · rw [if_neg hz] at e4
    cases e4
inductive TyX (K : PySem.W.Frag) (H : Hp) : V → Value → Prop where
  | exc {a C : Addr} (h : H a = some (excO a (.ref C))) (k : ExcK K C) : TyX K H (.ref a) (.ref C)
  | non : TyX K H .non (.type "NoneType")
noncomputable def clsVs : List V → Option (List Value)
  | [] => some []
  | v :: vs => match clsV v, clsVs vs with
    | some c, some cs => some (c :: cs)
    | _, _ => none
noncomputable def rIsX (K : PySem.W.Frag) : List V → Hp → VK → Prop := fun xs H Q => ∃ x y t b, xs = [x, y] ∧ TyX K H x t ∧ Q (.bl b) H ∧
  ((∃ c, clsV y = some c ∧ PySem.W.kitOne K t c = some b) ∨ ∃ p ys cs, y = .ref p ∧ H p = some (.tup ys) ∧ clsVs ys = some cs ∧ PySem.W.kitAny K t cs = some b)
theorem clsV_val {y : V} {c w : Value} (h : clsV y = some c) (r : RelV y w) : w = c := by
  cases y with
  | ref a => exact (show w = Value.ref a from r).trans (Option.some.inj h)
  | ty n => exact (show w = Value.type n from r).trans (Option.some.inj h)
  | _ => cases h
theorem clsVs_vals : ∀ {ys : List V} {cs us : List Value}, clsVs ys = some cs → Vals ys us → us = cs
  | [], cs, us, h, r => by cases r; cases h; rfl
  | y :: ys, cs, us, h, r => by
    cases r with
    | cons r1 r2 =>
      unfold clsVs at h
      cases h1 : clsV y with
      | none => rw [h1] at h; cases h
      | some c =>
        rw [h1] at h
        cases h2 : clsVs ys with
        | none => rw [h2] at h; cases h
        | some ds =>
          rw [h2] at h
          (first | obtain rfl := h.isA rfl | cases h)
          rw [clsV_val h1 r1, clsVs_vals h2 r2]
section
variable {X : Cx} {K : PySem.W.Frag} {O : List Nat} {t : TE} {fa : Rho → Option (D × Rho)}
theorem call_isX (hK : X.K = K) : CallR X (.builtin "isinstance") (rIsX K) := by
  subst hK
  intro pins s σ H xs us Q I r h
  obtain ⟨x, y, t, b, rfl, ty, q, h⟩ := h
  obtain ⟨u, w, rfl, ru, rw'⟩ := vals2 r
  rcases h with ⟨c, hc, e⟩ | ⟨p, ys, cs, rfl, hp, hcs, e⟩
  · have ew := clsV_val hc rw'
    subst ew
    cases ty with
    | exc h k => cases ru; exact isinst_exc I h k e fun tk => ⟨.bl b, H, I.tok tk, rfl, q⟩
    | non => cases ru; exact PySem.W.kia_one PySem.W.kitx_none I.kIn True.intro e (fun z => nomatch z) fun tk => ⟨.bl b, H, I.tok tk, rfl, q⟩
  · cases rw'
    obtain ⟨_, its, rv, ob, e1, ⟨c1, n1, d1⟩, _⟩ := (show ObjOk X.prog X.w H s.heap p (.tup ys) from I.hok p _ hp)
    have ei := clsVs_vals hcs rv
    subst ei
    obtain ⟨oc, od, da, sl⟩ := ob
    simp only at c1 d1
    subst c1 d1
    cases ty with
    | exc h k => cases ru; exact isinst_excT I h k e1 e fun tk => ⟨.bl b, H, I.tok tk, rfl, q⟩
    | non => cases ru; exact PySem.W.kia_tup PySem.W.kitx_none I.kIn True.intro e1 e (fun z => nomatch z) fun tk => ⟨.bl b, H, I.tok tk, rfl, q⟩
noncomputable def dIsX (sub : Str → Option Bool) : D → Option D
  | .exc x => (sub x).map .bl
  | .non => some (.bl false)
  | _ => none
structure KitE (K : PySem.W.Frag) (c : Value) (sub : Str → Option Bool) : Prop where
  exc : ∀ x C b, PySem.W.nsIn K mainGlobals x = some (some (.ref C)) → sub x = some b → PySem.W.kitOne K (.ref C) c = some b
  non : PySem.W.kitOne K (.type "NoneType") c = some false
structure KitEs (K : PySem.W.Frag) (cs : List Value) (sub : Str → Option Bool) : Prop where
  exc : ∀ x C b, PySem.W.nsIn K mainGlobals x = some (some (.ref C)) → sub x = some b → PySem.W.kitAny K (.ref C) cs = some b
  non : PySem.W.kitAny K (.type "NoneType") cs = some false
theorem me_isX {y : V} {c : Value} {sub : Str → Option Bool} (hc : clsV y = some c) (hk : KitE K c sub) (ha : ME K O t fa) : ME K O (tCB (rIsX K) (tCons t (tCons (tC y) tNil))) (mOp1 (dIsX sub) fa) := fun Z σ H R ρ d ρ' Q S e k => by
  obtain ⟨x, ρ1, e1, e⟩ := mBind_some e
  obtain ⟨e2, rfl⟩ := mLift_some e
  refine ha Z σ H R ρ x _ _ S e1 fun v H1 R1 S1 st1 r1 => ?_
  cases r1 with
  | exc n ke h =>
    rename_i a C z
    cases e3 : sub z with
    | none => rw [dIsX, e3] at e2; cases e2
    | some b =>
      rw [dIsX, e3] at e2
      cases e2
      exact ⟨_, y, _, b, rfl, .exc (S1.sub _ _ h) ke, k _ H1 R1 S1 st1 (.bl b), .inl ⟨c, hc, hk.exc _ _ _ n e3⟩⟩
  | non =>
    cases e2
    exact ⟨_, y, _, false, rfl, .non, k _ H1 R1 S1 st1 (.bl false), .inl ⟨c, hc, hk.non⟩⟩
  | _ => cases e2
noncomputable def tCs : List V → TA
  | [] => tNil
  | y :: ys => tCons (tC y) (tCs ys)
theorem tCs_of {σ : St} {H : Hp} : ∀ {ys : List V} {Q : List V → Hp → Prop}, Q ys H → tCs ys σ H Q
  | [], _, h => h
  | y :: ys, Q, h => tCs_of (ys := ys) (Q := fun xs H2 => Q (y :: xs) H2) h
theorem me_isXT {ys : List V} {cs : List Value} {sub : Str → Option Bool} (hc : clsVs ys = some cs) (hl : ys.length ≤ sizeLine) (hk : KitEs K cs sub) (ha : ME K O t fa) : ME K O (tCB (rIsX K) (tCons t (tCons (tTup (tCs ys)) tNil))) (mOp1 (dIsX sub) fa) := fun Z σ H R ρ d ρ' Q S e k => by
  obtain ⟨x, ρ1, e1, e⟩ := mBind_some e
  obtain ⟨e2, rfl⟩ := mLift_some e
  refine ha Z σ H R ρ x _ _ S e1 fun v H1 R1 S1 st1 r1 => ?_
  refine tCs_of ⟨hl, fun p np => ?_⟩
  have x := Ext.hid (o := .tup ys) S1.sub np
  cases r1 with
  | exc n ke h =>
    rename_i a C z
    cases e3 : sub z with
    | none => rw [dIsX, e3] at e2; cases e2
    | some b =>
      rw [dIsX, e3] at e2
      cases e2
      exact ⟨_, _, _, b, rfl, .exc (x.h _ _ (S1.sub _ _ h)) ke, k _ _ R1 (S1.ext x) (st1.trans x.stp) (.bl b), .inr ⟨p, ys, cs, rfl, upd_same, hc, hk.exc _ _ _ n e3⟩⟩
  | non =>
    cases e2
    exact ⟨_, _, _, false, rfl, .non, k _ _ R1 (S1.ext x) (st1.trans x.stp) (.bl false), .inr ⟨p, ys, cs, rfl, upd_same, hc, hk.non⟩⟩
  | _ => cases e2
end
noncomputable abbrev Xr := Rho → Option (Str × Rho)
noncomputable def ExE (K : PySem.W.Frag) (E : XK) (C : Str) (H : Hp) : Prop := ∀ v, PySem.W.nsIn K mainGlobals C = some (some v) → E v none H
section
variable (K : PySem.W.Frag) (O : List Nat)
noncomputable def MX (t : TE) (E : XK) (fx : Xr) : Prop := ∀ (Z : Anc) (σ : St) (H R : Hp) (ρ : Rho) (C : Str) (ρ' : Rho) (Q : VK), StR K Z O σ H R ρ → fx ρ = some (C, ρ') → (∀ H' R', StR K Z O σ H' R' ρ' → Stp O σ H R H' R' → ExE K E C H') → t σ H Q
noncomputable def MTX (t : TT) (E : XK) (fx : Xr) : Prop := ∀ (Z : Anc) (σ : St) (H R : Hp) (ρ : Rho) (C : Str) (ρ' : Rho) (Q : Bool → Hp → Prop), StR K Z O σ H R ρ → fx ρ = some (C, ρ') → (∀ H' R', StR K Z O σ H' R' ρ' → Stp O σ H R H' R' → ExE K E C H') → t σ H Q
noncomputable def MAX (t : TA) (E : XK) (fx : Xr) : Prop := ∀ (Z : Anc) (σ : St) (H R : Hp) (ρ : Rho) (C : Str) (ρ' : Rho) (Q : List V → Hp → Prop), StR K Z O σ H R ρ → fx ρ = some (C, ρ') → (∀ H' R', StR K Z O σ H' R' ρ' → Stp O σ H R H' R' → ExE K E C H') → t σ H Q
end
noncomputable def xNo : Xr := fun _ => none
noncomputable def xThen {α : Type} (fa : Rho → Option (α × Rho)) (xa xb : Xr) : Xr := fun ρ => match xa ρ with
  | some r => some r
  | none => match fa ρ with
    | some (_, ρ1) => xb ρ1
    | none => none
theorem xThen_some {α : Type} {fa : Rho → Option (α × Rho)} {xa xb : Xr} {ρ : Rho} {r : Str × Rho} (h : xThen fa xa xb ρ = some r) : xa ρ = some r ∨ ∃ a ρ1, fa ρ = some (a, ρ1) ∧ xb ρ1 = some r := by
  unfold xThen at h
  cases e : xa ρ with
  | some q => rw [e] at h; cases h; exact .inl rfl
  | none =>
    rw [e] at h
    cases e2 : fa ρ with
    | none => rw [e2] at h; cases h
    | some p => rw [e2] at h; exact .inr ⟨p.1, p.2, rfl, h⟩
section
variable {K : PySem.W.Frag} {O : List Nat} {E : XK} {t ta tb : TE} {tr : TA} {tt : TT} {fa fb : Rho → Option (D × Rho)} {fs : Rho → Option (List D × Rho)} {xa xb xs : Xr}
theorem mx_no : MX K O t E xNo := fun _ _ _ _ _ _ _ _ _ e => by cases e
theorem mtx_no : MTX K O tt E xNo := fun _ _ _ _ _ _ _ _ _ e => by cases e
theorem max_no : MAX K O tr E xNo := fun _ _ _ _ _ _ _ _ _ e => by cases e
theorem max_cons (ha : ME K O ta fa) (ka : MX K O ta E xa) (kr : MAX K O tr E xs) : MAX K O (tCons ta tr) E (xThen fa xa xs) := fun Z σ H R ρ C ρ' Q S e k => by
  rcases xThen_some e with e | ⟨a, ρ1, e1, e2⟩
  · exact ka Z σ H R ρ C ρ' _ S e k
  · exact ha Z σ H R ρ a ρ1 _ S e1 fun v H1 R1 S1 st1 r1 => kr Z σ H1 R1 ρ1 C ρ' _ S1 e2 fun H2 R2 S2 st2 => k H2 R2 S2 (st1.trans st2)
theorem mx_tup (h : MAX K O tr E xs) : MX K O (tTup tr) E xs := fun Z σ H R ρ C ρ' Q S e k => h Z σ H R ρ C ρ' _ S e k
theorem mx_cb {r : List V → Hp → VK → Prop} (h : MAX K O tr E xs) : MX K O (tCB r tr) E xs := fun Z σ H R ρ C ρ' Q S e k => h Z σ H R ρ C ρ' _ S e k
noncomputable def spPX (K : PySem.W.Frag) (fr : Bool) (n : Nat) (f : List D → Option D) (fx : List D → Option Str) : Sp := fun vs H Q E => spP K fr n f vs H Q E ∨
  (vs.length = n ∧ ∃ R ds C, (∀ a o, R a = some o → H a = some o) ∧ Rps K R vs ds ∧ fx ds = some C ∧ ∀ H' R', Ext H R H' R' → ExE K E C H')
theorem spPX_len {fr : Bool} {n : Nat} {f : List D → Option D} {fx : List D → Option Str} {vs : List V} {H : Hp} {Q : VK} (h : spPX K fr n f fx vs H Q E) : vs.length = n := by
  rcases h with h | h
  · exact h.1
  · exact h.1
noncomputable def xCall (fx : List D → Option Str) (fs : Rho → Option (List D × Rho)) (xs : Xr) : Xr := fun ρ => match xs ρ with
  | some r => some r
  | none => match fs ρ with
    | some (ds, ρ1) => (fx ds).map fun C => (C, ρ1)
    | none => none
noncomputable def runsX (n : Nat) (fx : List D → Option Str) : Prop := ∀ ds C, fx ds = some C → ds.length = n
theorem mx_call {n : Nat} {fr : Bool} {f : List D → Option D} {fx : List D → Option Str} (hf : runsX n fx) (h : MA K O tr fs) (hx : MAX K O tr E xs) : MX K O (tCall (spPX K fr n f fx) [] E tr) E (xCall fx fs xs) := fun Z σ H R ρ C ρ' Q S e k => by
  unfold xCall at e
  cases e1 : xs ρ with
  | some r => rw [e1] at e; cases e; exact hx Z σ H R ρ C ρ' _ S e1 k
  | none =>
    rw [e1] at e
    cases e2 : fs ρ with
    | none => rw [e2] at e; cases e
    | some p =>
      obtain ⟨ds, ρ1⟩ := p
      rw [e2] at e
      dsimp only at e
      cases e3 : fx ds with
      | none => rw [e3] at e; cases e
      | some C1 =>
        rw [e3] at e
        cases e
        refine h Z σ H R ρ ds _ _ S e2 fun vs H1 R1 S1 st1 r1 => ?_
        show spPX K fr n f fx (vs ++ []) H1 Q E
        rw [List.append_nil]
        exact .inr ⟨by rw [r1.length]; exact hf ds C e3, R1, ds, C, S1.sub, r1, e3, fun H2 R2 x => k H2 R2 (S1.ext x) (st1.trans x.stp)⟩
theorem me_callX {n : Nat} {f : List D → Option D} {fx : List D → Option Str} (hf : runsN n f) (h : MA K O tr fs) : ME K O (tCall (spPX K false n f fx) [] E tr) (mCall f fs) := fun Z σ H R ρ d ρ' Q S e k => by
  obtain ⟨ds, ρ1, e1, e⟩ := mBind_some e
  obtain ⟨e2, rfl⟩ := mLift_some e
  refine h Z σ H R ρ ds _ _ S e1 fun vs H1 R1 S1 st1 r1 => ?_
  show spPX K false n f fx (vs ++ []) H1 Q E
  rw [List.append_nil]
  exact .inl ⟨by rw [r1.length]; exact hf ds d e2, R1, ds, d, S1.sub, r1, e2, fun v H2 R2 x q => k v H2 R2 (S1.ext x) (st1.trans x.stp) q⟩
end
noncomputable def MSX (c : MC) (O : List Nat) (t : TS) (E : XK) (fx : Xr) : Prop := ∀ (Z : Anc) (D : Ends) (σ : St) (H R : Hp) (ρ : Rho) (C : Str) (ρ' : Rho), Z.P = c.P → StR c.K Z O σ H R ρ → fx ρ = some (C, ρ') → (∀ O' σ' H' R', StR c.K Z O' σ' H' R' ρ' → ExE c.K E C H') → t D σ H
noncomputable def MSXa (c : MC) (O : List Nat) (t : TS) (E : XK) (fx : Xr) : Prop := ∀ (Z : Anc) (D : Ends) (σ : St) (H R : Hp) (ρ : Rho) (C : Str) (ρ' : Rho), Z.P = c.P → StR c.K Z O σ H R ρ → fx ρ = some (C, ρ') → (∀ H' R', StR c.K Z O σ H' R' ρ' → Same R R' → ExE c.K E C H') → t D σ H
theorem MSXa.g {c : MC} {O : List Nat} {t : TS} {E : XK} {fx : Xr} (h : MSXa c O t E fx) : MSX c O t E fx := fun Z D σ H R ρ C ρ' hP S e k => h Z D σ H R ρ C ρ' hP S e fun H' R' S' _ => k O σ H' R' S'
section
variable {c : MC} {O O' O1 : List Nat} {t u : TS} {te : TE} {tt : TT} {tr : TA} {g : TG} {f h : Rho → Option Out} {fe : Rho → Option (D × Rho)} {fs : Rho → Option (List D × Rho)} {ft : Rho → Option (Bool × Rho)} {E : XK} {xe xt fx hx : Xr}
theorem msx_no : MSX c O t E xNo := fun _ _ _ _ _ _ _ _ _ _ e => by cases e
theorem msxa_expr (h : MX c.K O te E xe) : MSXa c O (tDrop te) E xe := fun Z D σ H R ρ C ρ' hP S e k => h Z σ H R ρ C ρ' _ S e fun H' R' S' st => k H' R' S' st.r
theorem msxa_asg (h : MX c.K O te E xe) : MSXa c O (tAsg te g) E xe := fun Z D σ H R ρ C ρ' hP S e k => h Z σ H R ρ C ρ' _ S e fun H' R' S' st => k H' R' S' st.r
theorem msxa_ret (h : MX c.K O te E xe) : MSXa c O (tRet te) E xe := fun Z D σ H R ρ C ρ' hP S e k => h Z σ H R ρ C ρ' _ S e fun H' R' S' st => k H' R' S' st.r
noncomputable def xRaise (C : Str) (fs : Rho → Option (List D × Rho)) : Xr := fun ρ => match fs ρ with
  | some (ds, ρ1) => if ds.length ≤ sizeLine then some (C, ρ1) else none
  | none => none
theorem msxa_raise {x : Str} {a : Addr} (hx : PySem.W.nsIn c.K mainGlobals x = some (some (.ref a))) (h : MA c.K O tr fs) : MSXa c O (tRaise a E tr) E (xRaise x fs) := fun Z D σ H R ρ C ρ' hP S e k => by
  unfold xRaise at e
  cases e1 : fs ρ with
  | none => rw [e1] at e; cases e
  | some p =>
    obtain ⟨ds, ρ1⟩ := p
    rw [e1] at e
    dsimp only at e
    split at e
    · rename_i hl
      cases e
      refine h Z σ H R ρ ds _ _ S e1 fun vs H1 R1 S1 st1 r1 => ⟨by rw [r1.length]; exact hl, k H1 R1 S1 st1.r _ hx⟩
    · cases e
theorem ms_raise {a : Addr} : MS c O O' (tRaise a E tr) (fun _ => none) := fun _ _ _ _ _ _ _ _ _ e => by cases e
noncomputable def xIf (ft : Rho → Option (Bool × Rho)) (xt fx hx : Xr) : Xr := fun ρ => match xt ρ with
  | some r => some r
  | none => match ft ρ with
    | some (true, ρ1) => fx ρ1
    | some (false, ρ1) => hx ρ1
    | none => none
theorem xIf_some {ρ : Rho} {r : Str × Rho} (e : xIf ft xt fx hx ρ = some r) : xt ρ = some r ∨ (∃ ρ1, ft ρ = some (true, ρ1) ∧ fx ρ1 = some r) ∨ ∃ ρ1, ft ρ = some (false, ρ1) ∧ hx ρ1 = some r := by
  unfold xIf at e
  cases e1 : xt ρ with
  | some q => rw [e1] at e; cases e; exact .inl rfl
  | none =>
    rw [e1] at e
    cases e2 : ft ρ with
    | none => rw [e2] at e; cases e
    | some p =>
      obtain ⟨b, ρ1⟩ := p
      rw [e2] at e
      cases b with
      | true => exact .inr (.inl ⟨ρ1, rfl, e⟩)
      | false => exact .inr (.inr ⟨ρ1, rfl, e⟩)
theorem msx_if (ht : MT c.K O tt ft) (kt : MTX c.K O tt E xt) (k1 : MSX c O t E fx) (k2 : MSX c O u E hx) : MSX c O (tIfS tt t u) E (xIf ft xt fx hx) := fun Z D σ H R ρ C ρ' hP S e k => by
  rcases xIf_some e with e | ⟨ρ1, e1, e2⟩ | ⟨ρ1, e1, e2⟩
  · exact kt Z σ H R ρ C ρ' _ S e fun H' R' S' st => k O σ H' R' S'
  · exact ht Z σ H R ρ true ρ1 _ S e1 fun H1 R1 S1 st1 => iteT (k1 Z D σ H1 R1 ρ1 C ρ' hP S1 e2 k)
  · exact ht Z σ H R ρ false ρ1 _ S e1 fun H1 R1 S1 st1 => iteF (k2 Z D σ H1 R1 ρ1 C ρ' hP S1 e2 k)
noncomputable def xSeq (f : Rho → Option Out) (fx hx : Xr) : Xr := fun ρ => match fx ρ with
  | some r => some r
  | none => match f ρ with
    | some (.nx ρ1) => hx ρ1
    | _ => none
theorem msx_seq (h1 : MS c O O1 t f) (k1 : MSX c O t E fx) (k2 : MSX c O1 u E hx) : MSX c O (tSeq t u) E (xSeq f fx hx) := fun Z D σ H R ρ C ρ' hP S e k => by
  unfold xSeq at e
  cases e1 : fx ρ with
  | some q => rw [e1] at e; cases e; exact k1 Z _ σ H R ρ C ρ' hP S e1 k
  | none =>
    rw [e1] at e
    cases e2 : f ρ with
    | none => rw [e2] at e; cases e
    | some o =>
      rw [e2] at e
      cases o with
      | nx ρ1 => exact h1 Z _ σ H R ρ _ hP S e2 fun σ1 H1 R1 S1 _ => k2 Z D σ1 H1 R1 ρ1 C ρ' hP S1 e k
      | _ => cases e
end
noncomputable def outLess (i : Nat) : Out → Out
  | .nx ρ => .nx (ρ.set i none)
  | .bk ρ => .bk (ρ.set i none)
  | .ct ρ => .ct (ρ.set i none)
  | .rt d ρ => .rt d (ρ.set i none)
noncomputable def sTryAs (i : Nat) (sub : Str → Bool) (fb : Rho → Option Out) (xb : Xr) (fh : Rho → Option Out) : Rho → Option Out := fun ρ => match xb ρ with
  | some (C, ρ1) => if sub C = true then (fh (ρ1.set i (some (.exc C)))).map (outLess i) else none
  | none => fb ρ
noncomputable def KitM (K : PySem.W.Frag) (c : Value) (sub : Str → Bool) : Prop := ∀ C v, PySem.W.nsIn K mainGlobals C = some (some v) → sub C = true → PySem.W.exmOne K v c = some true ∧ ∃ a, v = .ref a ∧ ExcK K a
section
variable {c : MC} {O O' : List Nat} {cv : Value} {i : Nat} {sub : Str → Bool} {tb : XK → TS} {ts : TS} {fb fh : Rho → Option Out} {xb : Xr}
theorem StR.unset {K : PySem.W.Frag} {Z : Anc} {σ : St} {H R : Hp} {ρ : Rho} (S : StR K Z O σ H R ρ) (hi : i ∉ O) : StR K Z O (σ.set i none) H R (ρ.set i none) := by
  have ne : ∀ j, j ∈ O → i ≠ j := fun j hj z => hi (z ▸ hj)
  refine ⟨S.sub, by rw [List.length_set, List.length_set]; exact S.len, fun j e hj q => ?_, fun j hj => ?_, fun j k hj hk n l e => ?_, S.ah, S.ar, S.an, S.ad, fun j hj hp l e => ?_, fun j hj hp l e => ?_⟩
  · by_cases hij : i = j
    · subst hij
      have hl : i < ρ.length := by
        have := (List.getElem?_eq_some_iff.mp q).1
        rwa [List.length_set] at this
      rw [List.getElem?_set_self hl] at q
      (first | obtain rfl := q.isA rfl | cases q)
    · rw [List.getElem?_set_ne hij] at q ⊢
      exact S.env j e hj q
  · rw [List.getElem?_set_ne (ne j hj), List.getElem?_set_ne (ne j hj)]
    exact S.own j hj
  · rw [List.getElem?_set_ne (ne j hj)] at e
    rw [List.getElem?_set_ne (ne k hk)]
    exact S.dis j k hj hk n l e
  · rw [List.getElem?_set_ne (ne j hj)] at e
    exact S.ao j hj hp l e
  · rw [List.getElem?_set_ne (ne j hj)] at e
    exact S.ap j hj hp l e
theorem ms_try_as (km : KitM c.K cv sub) (hb : ∀ E, MS c O O' (tb E) fb) (kb : ∀ E, MSXa c O (tb E) E xb) (hs : MS c O O' ts fh) (hi : i ∉ O) (hi' : i ∉ O') (hl : i ∉ c.Ol) (hp : i ∉ c.P) :
    MS c O O' (tTryAs c.K cv i tb ts) (sTryAs i sub fb xb fh) := fun Z D σ H R ρ o hP S e k => by
  unfold sTryAs at e
  cases e1 : xb ρ with
  | none => rw [e1] at e; exact hb _ Z D σ H R ρ o hP S e k
  | some p =>
    obtain ⟨C, ρ1⟩ := p
    rw [e1] at e
    dsimp only at e
    split at e
    · rename_i hsub
      cases e2 : fh (ρ1.set i (some (.exc C))) with
      | none => rw [e2] at e; cases e
      | some o2 =>
        rw [e2] at e
        cases e
        refine kb _ Z D σ H R ρ C ρ1 hP S e1 fun H' R' S' s' v hv => ?_
        obtain ⟨q1, a, rfl, ke⟩ := km C v hv hsub
        refine ⟨q1, fun ea ne => ?_⟩
        have x := Ext.new (o := excO ea (.ref a)) S'.sub ne
        have S2 := (S'.ext x).set (i := i) (v := .ref ea) (d := .exc C) hi (.exc hv ke upd_same)
        refine hs Z (D.less i) _ _ _ _ o2 hP S2 e2 ?_
        have s2 : Same R (upd R' ea (excO ea (.ref a))) := s'.trans x.r
        cases o2 with
        | nx ρ2 => exact fun σ3 H3 R3 S3 s3 => k _ H3 R3 (S3.unset hi') (s2.trans s3)
        | bk ρ2 => exact fun σ3 H3 R3 S3 s3 => k _ H3 R3 (S3.unset hl) (s2.trans s3)
        | ct ρ2 => exact fun σ3 H3 R3 S3 s3 => k _ H3 R3 (S3.unset hl) (s2.trans s3)
        | rt d ρ2 => exact fun v σ3 H3 R3 S3 q => k v _ H3 R3 (S3.unset hp) q
    · cases e
end
noncomputable def runX (n N : Nat) (fx : Xr) (ds : List D) : Option Str := if ds.length = n then (fx (ds.map some ++ List.replicate (N - n) none)).map (·.1) else none
theorem runX_n {n N : Nat} {fx : Xr} : runsX n (runX n N fx) := fun ds C e => by
  unfold runX at e
  split at e
  · assumption
  · cases e
theorem spPX_body {K : PySem.W.Frag} {fr : Bool} {n : Nat} {Nms : List Str} {O' : List Nat} {t : TS} {f : Rho → Option Out} {fx : Xr} {vs : List V} {H : Hp} {Q : VK} {E : XK} (hm : MS ⟨K, fr, [], []⟩ [] O' t f) (hx : MSX ⟨K, fr, [], []⟩ [] t E fx)
    (h : spPX K fr n (runP fr n Nms.length f) (runX n Nms.length fx) vs H Q E) : t { nx := fun _ H' => Q .non H', rt := Q } (start Nms vs) H := by
  rcases h with h | ⟨hn, R, ds, C, sub, r, e, k⟩
  · exact spP_body hm h
  · unfold runX at e
    split at e
    · rename_i hl
      have S : StR K ⟨H, R, fun _ => False, []⟩ [] (start Nms vs) H R (ds.map some ++ List.replicate (Nms.length - n) none) := by
        refine ⟨sub, ?_, fun i d _ q => ?_, fun i hi => absurd hi (by simp), fun i j hi => absurd hi (by simp), fun a o q _ => q, Same.refl _, fun a q => .inl q, fun a q => .refl q, fun i hi => absurd hi (by simp), fun i hi => absurd hi (by simp)⟩
        · unfold start
          rw [List.length_append, List.length_append, List.length_map, List.length_map, List.length_replicate, List.length_replicate, hn, hl]
        · obtain ⟨v, h1, h2⟩ := r.get (slots_get q)
          exact ⟨v, start_get h1, h2⟩
      cases e1 : fx (ds.map some ++ List.replicate (Nms.length - n) none) with
      | none => rw [e1] at e; cases e
      | some p =>
        obtain ⟨C1, ρ1⟩ := p
        rw [e1] at e
        cases e
        exact hx _ _ _ _ _ _ _ ρ1 rfl S e1 fun O2 σ' H' R' S' => k H' R' ⟨fun a o q => S'.ah a o q (fun z => z), S'.ar, S'.sub, S'.an⟩
    · cases e
section
variable {K : PySem.W.Frag} {O : List Nat} {tr : TA} {fs : Rho → Option (List D × Rho)} {E : XK} {n : Nat}
end
section
variable {K : PySem.W.Frag}
theorem kit_reft {C : Addr} {U : String} {b : Bool} (hm : PySem.W.kitMeta U = true) (h3 : PySem.W.subIn K (.ref C) (.type U) = some b) : PySem.W.kitOne K (.ref C) (.type U) = some b := by
  unfold PySem.W.kitOne
  have hne : ¬ ((Value.ref C == Value.type U) = true) := fun z => by have y := eq_of_beq z; cases y
  rw [if_neg hne]
  unfold PySem.W.kitCls
  dsimp only
  rw [if_pos hm]
  exact h3
theorem exm_mk {t : Value} {d : Addr} {b : Bool} (h0 : PySem.W.subIn K (.ref d) (.type "BaseException") = some true) (h1 : PySem.W.isClsIn K d = true) (h2 : PySem.W.typeIn K (.ref d) = some (.type "type")) (h3 : PySem.W.subIn K t (.ref d) = some b) : PySem.W.exmOne K t (.ref d) = some b := by
  unfold PySem.W.exmOne
  rw [h0, if_pos (beq_self_eq_true _)]
  unfold PySem.W.kitCls
  have e : ((PySem.W.clsIn K d).isSome && PySem.W.typeIn K (.ref d) == some (.type "type")) = true := by
    rw [h2, beq_self_eq_true, Bool.and_true]
    exact h1
  dsimp only
  rw [if_pos e]
  exact h3
theorem look_mem {β : Type} {x : Str} {b : β} : ∀ {tab : List (Str × β)}, tab.lookup x = some b → (x, b) ∈ tab
  | [], h => by cases h
  | (y, d) :: tab, h => by
    unfold List.lookup at h
    by_cases q : (x == y) = true
    · rw [q] at h
      (first | obtain rfl := h.isA rfl | cases h)
      rw [beq_iff_eq.mp q]
      exact List.mem_cons_self
    · rw [Bool.eq_false_iff.mpr q] at h
      exact List.mem_cons_of_mem _ (look_mem h)
theorem kitE_of {c : Value} {tab : List (Str × Bool)} (h : ∀ p ∈ tab, ∃ C, PySem.W.nsIn K mainGlobals p.1 = some (some (.ref C)) ∧ PySem.W.kitOne K (.ref C) c = some p.2) (n : PySem.W.kitOne K (.type "NoneType") c = some false) : KitE K c (fun x => tab.lookup x) :=
  ⟨fun x C b e q => by
    obtain ⟨C2, e2, k⟩ := h _ (look_mem q)
    rw [e] at e2
    cases e2
    exact k, n⟩
theorem kitEs_of {cs : List Value} {tab : List (Str × Bool)} (h : ∀ p ∈ tab, ∃ C, PySem.W.nsIn K mainGlobals p.1 = some (some (.ref C)) ∧ PySem.W.kitAny K (.ref C) cs = some p.2) (n : PySem.W.kitAny K (.type "NoneType") cs = some false) : KitEs K cs (fun x => tab.lookup x) :=
  ⟨fun x C b e q => by
    obtain ⟨C2, e2, k⟩ := h _ (look_mem q)
    rw [e] at e2
    cases e2
    exact k, n⟩
theorem kitAny_nil {t : Value} : PySem.W.kitAny K t [] = some false := rfl
theorem kitAny_f {t c : Value} {cs : List Value} {b : Bool} (h : PySem.W.kitOne K t c = some false) (r : PySem.W.kitAny K t cs = some b) : PySem.W.kitAny K t (c :: cs) = some b := by
  unfold PySem.W.kitAny
  rw [h]
  exact r
theorem kitAny_t {t c : Value} {cs : List Value} (h : PySem.W.kitOne K t c = some true) : PySem.W.kitAny K t (c :: cs) = some true := by
  unfold PySem.W.kitAny
  rw [h]
theorem kitM_of {c : Value} {tab : List Str} (h : ∀ x ∈ tab, ∃ a, PySem.W.nsIn K mainGlobals x = some (some (.ref a)) ∧ PySem.W.exmOne K (.ref a) c = some true ∧ ExcK K a) : KitM K c (fun x => tab.contains x) := fun C v e q => by
  obtain ⟨a, e2, k, x⟩ := h C (by simpa using q)
  rw [e] at e2
  cases e2
  exact ⟨k, a, rfl, x⟩
end
section
variable (K : PySem.W.Frag) (O : List Nat)
end
section
variable {K : PySem.W.Frag} {O : List Nat} {ta : TE} {tr : TA} {fa : Rho → Option (D × Rho)} {fs : Rho → Option (List D × Rho)} {E : XK} {n : Nat}
end
theorem fst_some {α : Type} {o : Option (α × Rho)} {x : α} (h : o.map (·.1) = some x) : ∃ ρ, o = some (x, ρ) := by
  cases o with
  | none => cases h
  | some p => cases h; exact ⟨p.2, rfl⟩
theorem cm_map {n : Nat} {js : List Nat} {fg : D → Rho → Option Rho} {fe : Rho → Option (D × Rho)} {ρ : Rho} (g : D → D) : ∀ (xs : List D), (∀ x ∈ xs, ∃ ρ1, fg x (capsR n js ρ) = some ρ1 ∧ (fe ρ1).map (·.1) = some (g x)) → compRun n js none fg (mRet true) fe xs ρ = some (xs.map g, ρ)
  | [], _ => rfl
  | x :: xs, h => by
    obtain ⟨ρ1, h1, h2⟩ := h x List.mem_cons_self
    obtain ⟨ρ2, h2⟩ := fst_some h2
    have ih := cm_map (n := n) (js := js) (fg := fg) (fe := fe) (ρ := ρ) g xs fun y hy => h y (List.mem_cons_of_mem _ hy)
    simp only [compRun, h1, mRet, h2, backR]
    rw [ih]
    rfl
theorem cm_state {n p q : Nat} {js : List Nat} {fg : D → Rho → Option Rho} {fe : Rho → Option (D × Rho)} {S : Type} (ρ : S → Rho) (G : D → Prop) : ∀ (xs : List D), (∀ x ∈ xs, ∀ s, ∃ ρ1 ρ2 y s', fg x (capsR n js (ρ s)) = some ρ1 ∧ fe ρ1 = some (y, ρ2) ∧ backR (some (p, q)) (ρ s) ρ2 = ρ s' ∧ G y) → ∀ s, ∃ ys s', compRun n js (some (p, q)) fg (mRet true) fe xs (ρ s) = some (ys, ρ s') ∧ ys.length = xs.length ∧ ∀ y ∈ ys, G y
  | [], _, s => ⟨[], s, rfl, rfl, fun _ h => nomatch h⟩
  | x :: xs, h, s => by
    obtain ⟨ρ1, ρ2, y, s1, h1, h2, h3, h4⟩ := h x List.mem_cons_self s
    obtain ⟨ys, s2, g1, g2, g3⟩ := cm_state ρ G xs (fun y hy => h y (List.mem_cons_of_mem _ hy)) s1
    refine ⟨y :: ys, s2, ?_, by rw [List.length_cons, List.length_cons, g2], fun z hz => ?_⟩
    · simp only [compRun, h1, mRet, h2, h3]
      rw [g1]
    · rcases List.mem_cons.mp hz with rfl | hz
      · exact h4
      · exact g3 z hz
theorem for_inv {fg : D → Rho → Option Rho} {fb : Rho → Option Out} (I : Nat → Rho → Prop) : ∀ (xs : List D) (k : Nat) (ρ : Rho), I k ρ → (∀ i x ρ, xs[i]? = some x → I (k + i) ρ → ∃ ρ1 ρ2, fg x ρ = some ρ1 ∧ (fb ρ1 = some (.nx ρ2) ∨ fb ρ1 = some (.ct ρ2)) ∧ I (k + i + 1) ρ2) → ∃ ρ', forRun fg fb xs ρ = some (.nx ρ') ∧ I (k + xs.length) ρ'
  | [], k, ρ, h0, _ => ⟨ρ, rfl, h0⟩
  | x :: xs, k, ρ, h0, hs => by
    obtain ⟨ρ1, ρ2, h1, h2, h3⟩ := hs 0 x ρ rfl h0
    obtain ⟨ρ', g1, g2⟩ := for_inv I xs (k + 1) ρ2 h3 fun i y ρ e hi => by
      have e1 : k + 1 + i = k + (i + 1) := by omega
      rw [e1] at hi ⊢
      exact hs (i + 1) y ρ (by simpa using e) hi
    refine ⟨ρ', ?_, by rw [List.length_cons]; have e1 : k + (xs.length + 1) = k + 1 + xs.length := by omega
                       rw [e1]; exact g2⟩
    simp only [forRun, h1]
    rcases h2 with h2 | h2
    · rw [h2]; exact g1
    · rw [h2]; exact g1
theorem for_all {fg : D → Rho → Option Rho} {fb : Rho → Option Out} (I : Rho → Prop) : ∀ (xs : List D) (ρ : Rho), I ρ → (∀ x ρ, x ∈ xs → I ρ → ∃ ρ1 ρ2, fg x ρ = some ρ1 ∧ (fb ρ1 = some (.nx ρ2) ∨ fb ρ1 = some (.ct ρ2)) ∧ I ρ2) → ∃ ρ', forRun fg fb xs ρ = some (.nx ρ') ∧ I ρ' := fun xs ρ h0 hs => by
  obtain ⟨ρ', h1, h2⟩ := for_inv (fg := fg) (fb := fb) (fun _ => I) xs 0 ρ h0 fun i x ρ e hi => hs x ρ (List.mem_of_getElem? e) hi
  exact ⟨ρ', h1, h2⟩
theorem at0 {α : Type} (x : α) (xs : List α) : atI (x :: xs) 0 = some x := by
  unfold atI ixN
  simp
theorem at1 {α : Type} (x y : α) (xs : List α) : atI (x :: y :: xs) 1 = some y := atI_nat (j := 1) rfl
theorem at2 {α : Type} (x y z : α) (xs : List α) : atI (x :: y :: z :: xs) 2 = some z := atI_nat (j := 2) rfl
theorem at3 {α : Type} (x y z u : α) (xs : List α) : atI (x :: y :: z :: u :: xs) 3 = some u := atI_nat (j := 3) rfl
theorem line_of {n : Nat} (h : n ≤ 1000000) : n ≤ sizeLine := Nat.le_trans h (by decide)
theorem rangeD_len (lo : Int) (n : Nat) : (rangeD lo n).length = n := by simp [rangeD]
theorem rangeD_get {lo : Int} {n i : Nat} {d : D} (h : (rangeD lo n)[i]? = some d) : i < n ∧ d = .int (lo + (i : Int)) := by
  have hi : i < n := by
    have := (List.getElem?_eq_some_iff.mp h).1
    rwa [rangeD_len] at this
  refine ⟨hi, ?_⟩
  unfold rangeD at h
  rw [List.getElem?_map, List.getElem?_range hi] at h
  exact (Option.some.inj h).symm
noncomputable def nx (s : Int) : Int := (s * 1181783497276652981 + 12345678910987) % (2 ^ 61 - 1)
noncomputable def dr (s m : Int) : Int := nx s / 65537 % m
theorem dr_lo (s : Int) {m : Int} (h : 0 < m) : 0 ≤ dr s m := Int.emod_nonneg _ (by omega)
theorem dr_hi (s : Int) {m : Int} (h : 0 < m) : dr s m < m := Int.emod_lt_of_pos _ h
theorem eqD_int (i j : Int) : eqD (.int i) (.int j) = some (i == j) := by
  simp [eqD, D.toP, SeqAt.shaped, PyData.canLay0, PyData.depth, PyData.eqv]
theorem eqD_str {i j : Str} (hi : PyData.strOk i = true) (hj : PyData.strOk j = true) : eqD (.str i) (.str j) = some (i == j) := by
  simp [eqD, D.toP, SeqAt.shaped, PyData.canLay0, PyData.depth, PyData.eqv, hi, hj]
section
variable {α β : Type} {a : Rho → Option (α × Rho)} {k : α → Rho → Option (β × Rho)} {ρ : Rho} {fa fb fc : Rho → Option (D × Rho)} {ga gb : Rho → Option (Bool × Rho)} {fs : Rho → Option (List D × Rho)} {g g' : D → D → Option D} {g1 : D → Option D} {gl : D → Option (List D)} {g2 : D → D → Option (List D)} {fl fh : Rho → Option (Option Int × Rho)}
theorem ev_bind : mBind a k ρ = (a ρ).bind fun p => k p.1 p.2 := by
  unfold mBind
  cases a ρ <;> rfl
theorem ev_ret {x : α} : mRet x ρ = some (x, ρ) := rfl
theorem ev_lift {o : Option α} : mLift o ρ = o.map fun x => (x, ρ) := by cases o <;> rfl
theorem ev_var {i : Nat} : mVar i ρ = (ρ[i]?).join.map fun d => (d, ρ) := by
  unfold mVar
  cases h : ρ[i]? with
  | none => rfl
  | some o => cases o <;> rfl
theorem ev_op2 : mOp2 g fa fb ρ = (fa ρ).bind fun p => (fb p.2).bind fun q => (g p.1 q.1).map fun x => (x, q.2) := by
  unfold mOp2
  rw [ev_bind]
  congr 1; funext p
  rw [ev_bind]
  congr 1; funext q
  rw [ev_lift]
theorem ev_op1 : mOp1 g1 fa ρ = (fa ρ).bind fun p => (g1 p.1).map fun x => (x, p.2) := by
  unfold mOp1
  rw [ev_bind]
  congr 1; funext p
  rw [ev_lift]
theorem ev_op2L : mOp2L g2 fa fb ρ = (fa ρ).bind fun p => (fb p.2).bind fun q => (g2 p.1 q.1).map fun x => (x, q.2) := by
  unfold mOp2L
  rw [ev_bind]
  congr 1; funext p
  rw [ev_bind]
  congr 1; funext q
  rw [ev_lift]
noncomputable def ixO : D → D → Option D
  | .lst xs, .int j => atI xs j
  | _, _ => none
theorem ev_ixO {i : Nat} : mIxO i fb ρ = (fb ρ).bind fun q => ((q.2[i]?).join).bind fun x => (ixO x q.1).map fun z => (z, q.2) := by
  unfold mIxO
  rw [ev_bind]
  congr 1; funext q
  rw [ev_bind, ev_var]
  cases (q.2[i]?).join with
  | none => rfl
  | some x => show mLift _ _ = _; rw [ev_lift]; first | rfl | (cases x <;> (cases q.1 <;> rfl))
noncomputable def blO : D → Option Bool
  | .bl b => some b
  | _ => none
theorem ev_test : mTest fa ρ = (fa ρ).bind fun p => (blO p.1).map fun x => (x, p.2) := by
  unfold mTest
  rw [ev_bind]
  congr 1; funext p
  rw [ev_lift]
  first | rfl | (cases p.1 <;> rfl)
theorem ev_not : mNot ga ρ = (ga ρ).map fun p => (!p.1, p.2) := by
  unfold mNot
  rw [ev_bind]
  cases ga ρ <;> rfl
theorem ev_and : mAnd ga gb ρ = (ga ρ).bind fun p => if p.1 = true then gb p.2 else some (false, p.2) := by
  unfold mAnd
  rw [ev_bind]
  congr 1; funext p
  split <;> rfl
theorem ev_or : mOr ga gb ρ = (ga ρ).bind fun p => if p.1 = true then some (true, p.2) else gb p.2 := by
  unfold mOr
  rw [ev_bind]
  congr 1; funext p
  split <;> rfl
theorem ev_andV : mAndV fa fb ρ = (mTest fa ρ).bind fun p => if p.1 = true then fb p.2 else some (.bl false, p.2) := by
  unfold mAndV
  rw [ev_bind]
  congr 1; funext p
  split <;> rfl
theorem ev_orV : mOrV fa fb ρ = (mTest fa ρ).bind fun p => if p.1 = true then some (.bl true, p.2) else fb p.2 := by
  unfold mOrV
  rw [ev_bind]
  congr 1; funext p
  split <;> rfl
theorem ev_nil : mNil ρ = some ([], ρ) := rfl
theorem ev_cons : mCons fa fs ρ = (fa ρ).bind fun p => (fs p.2).map fun q => (p.1 :: q.1, q.2) := by
  unfold mCons
  rw [ev_bind]
  congr 1; funext p
  rw [ev_bind]
  cases fs p.2 <;> rfl
theorem ev_tup : mTup fs ρ = (fs ρ).bind fun p => if p.1.length ≤ sizeLine then some (.tup p.1, p.2) else none := by
  unfold mTup
  rw [ev_bind]
  congr 1; funext p
  rw [ev_lift]
  split <;> rfl
theorem ev_lst : mLst fs ρ = (fs ρ).bind fun p => if p.1.length ≤ sizeLine then some (p.1, p.2) else none := by
  unfold mLst
  rw [ev_bind]
  congr 1; funext p
  rw [ev_lift]
  split <;> rfl
theorem ev_of : mOf fs ρ = (fs ρ).map fun p => (.lst p.1, p.2) := by
  unfold mOf
  rw [ev_bind]
  cases fs ρ <;> rfl
theorem ev_call {f : List D → Option D} : mCall f fs ρ = (fs ρ).bind fun p => (f p.1).map fun x => (x, p.2) := by
  unfold mCall
  rw [ev_bind]
  congr 1; funext p
  rw [ev_lift]
theorem ev_callL {f : List D → Option D} : mCallL f fs ρ = (fs ρ).bind fun p => (lstOf (f p.1)).map fun x => (x, p.2) := by
  unfold mCallL
  rw [ev_bind]
  congr 1; funext p
  rw [ev_lift]
noncomputable def lsO : D → Option (List D)
  | .lst xs => some xs
  | _ => none
theorem ev_callS {f : List D → List D → Option (D × List D)} {i : Nat} : mCallS f i fs ρ = (fs ρ).bind fun p => ((p.2[i]?).join.bind lsO).bind fun xs => (f xs p.1).map fun r => (r.1, p.2.set i (some (.lst r.2))) := by
  unfold mCallS
  rw [ev_bind]
  congr 1; funext p
  cases h : p.2[i]? with
  | none => rfl
  | some o =>
    cases o with
    | none => rfl
    | some d =>
      cases d with
      | lst xs =>
        show (match f xs p.1 with | some (d, ys) => some (d, p.2.set i (some (.lst ys))) | none => none) = _
        show _ = (f xs p.1).map _
        cases f xs p.1 <;> rfl
      | _ => rfl
theorem ev_comp {n : Nat} {js : List Nat} {bw : Option (Nat × Nat)} {fg : D → Rho → Option Rho} : mComp n js bw fs fg ga fa ρ = (fs ρ).bind fun p => if p.1.length ≤ sizeLine then compRun n js bw fg ga fa p.1 p.2 else none := by
  unfold mComp
  rw [ev_bind]
theorem ev_seq : mSeq fa ρ = (fa ρ).bind fun p => (dSeq p.1).map fun x => (x, p.2) := by
  unfold mSeq
  rw [ev_bind]
  congr 1; funext p
  rw [ev_lift]
  cases p.1 <;> rfl
noncomputable def rng1 : List D → Option (List D)
  | [.int j] => if big j = true then some (rangeD 0 j.toNat) else none
  | _ => none
theorem ev_rng1 : mRng1 fs ρ = (fs ρ).bind fun p => (rng1 p.1).map fun x => (x, p.2) := by
  unfold mRng1
  rw [ev_bind]
  congr 1; funext p
  rw [ev_lift]
  rfl
noncomputable def zip2 : List D → Option (List D)
  | [x, y] => match dSeq x, dSeq y with
    | some xs, some ys => some (zipD xs ys)
    | _, _ => none
  | _ => none
theorem ev_zip : mZip fs ρ = (fs ρ).bind fun p => (zip2 p.1).map fun x => (x, p.2) := by
  unfold mZip
  rw [ev_bind]
  congr 1; funext p
  rw [ev_lift]
  rfl
noncomputable def inO : D → Option (Option Int)
  | .int i => some (some i)
  | _ => none
theorem ev_part : mPart fa ρ = (fa ρ).bind fun p => (inO p.1).map fun x => (x, p.2) := by
  unfold mPart
  rw [ev_bind]
  congr 1; funext p
  rw [ev_lift]
  cases p.1 <;> rfl
theorem ev_sl : mSl fa fl fh ρ = (fa ρ).bind fun p => (fl p.2).bind fun q => (fh q.2).bind fun r => (dSl p.1 q.1 r.1).map fun x => (x, r.2) := by
  unfold mSl
  rw [ev_bind]
  congr 1; funext p
  rw [ev_bind]
  congr 1; funext q
  rw [ev_bind]
  congr 1; funext r
  rw [ev_lift]
theorem ev_sseq {f h : Rho → Option Out} : sSeq f h ρ = (f ρ).bind fun o => match o with
    | .nx ρ1 => h ρ1
    | o => some o := by
  unfold sSeq
  cases f ρ with
  | none => rfl
  | some o => cases o <;> rfl
theorem ev_sset {i : Nat} : sSet i fa ρ = (fa ρ).map fun p => .nx (p.2.set i (some p.1)) := by
  unfold sSet
  cases fa ρ <;> rfl
theorem ev_sown {i : Nat} : sOwn i fs ρ = (fs ρ).bind fun p => if i < p.2.length then some (.nx (p.2.set i (some (.lst p.1)))) else none := by
  unfold sOwn
  cases fs ρ <;> rfl
theorem ev_sif {f h : Rho → Option Out} : sIf ga f h ρ = (ga ρ).bind fun p => if p.1 = true then f p.2 else h p.2 := by
  unfold sIf
  cases ga ρ <;> rfl
theorem ev_sret : sRet fa ρ = (fa ρ).map fun p => .rt p.1 p.2 := by
  unfold sRet
  cases fa ρ <;> rfl
theorem ev_sretL : sRetL fs ρ = (fs ρ).map fun p => .rt (.lst p.1) p.2 := by
  unfold sRetL
  cases fs ρ <;> rfl
theorem isL_bind {α : Type} (i : Nat) (x : Option α) : (if isL ρ i = true then x else none) = ((ρ[i]?).join.bind lsO).bind fun _ => x := by
  unfold isL
  cases h : ρ[i]? with
  | none => rfl
  | some o =>
    cases o with
    | none => rfl
    | some d => cases d <;> rfl
theorem ev_snil : sNil ρ = some (.nx ρ) := rfl
theorem ev_sdrop : sDrop fa ρ = (fa ρ).map fun p => .nx p.2 := by
  unfold sDrop
  cases fa ρ <;> rfl
theorem ev_smut {gm : List D → List D → Option (List D)} {i : Nat} : sMut gm i fs ρ = ((ρ[i]?).join.bind lsO).bind fun _ => (fs ρ).bind fun p => ((p.2[i]?).join.bind lsO).bind fun xs => (gm xs p.1).map fun ys => .nx (p.2.set i (some (.lst ys))) := by
  refine Eq.trans ?_ (isL_bind _ _)
  unfold sMut
  congr 1
  cases fs ρ with
  | none => rfl
  | some p =>
    show (match p.2[i]? with | some (some (.lst xs)) => _ | _ => none) = _
    show _ = ((p.2[i]?).join.bind lsO).bind _
    cases h : p.2[i]? with
    | none => rfl
    | some o =>
      cases o with
      | none => rfl
      | some d =>
        cases d with
        | lst xs =>
          show (match gm xs p.1 with | some ys => some (Out.nx _) | none => none) = (gm xs p.1).map _
          cases gm xs p.1 <;> rfl
        | _ => rfl
theorem ev_sext {i : Nat} : sExt i fs ρ = ((ρ[i]?).join.bind lsO).bind fun _ => (fs ρ).bind fun p => ((p.2[i]?).join.bind lsO).bind fun xs => if xs.length + p.1.length ≤ sizeLine then some (.nx (p.2.set i (some (.lst (xs ++ p.1))))) else none := by
  refine Eq.trans ?_ (isL_bind _ _)
  unfold sExt
  congr 1
  cases fs ρ with
  | none => rfl
  | some p =>
    show (match p.2[i]? with | some (some (.lst xs)) => _ | _ => none) = _
    show _ = ((p.2[i]?).join.bind lsO).bind _
    cases h : p.2[i]? with
    | none => rfl
    | some o =>
      cases o with
      | none => rfl
      | some d => cases d <;> rfl
noncomputable def setI (x d k : D) : Option D := match x, k with
  | .lst xs, .int j => (ixN xs.length j).map fun m => .lst (xs.set m d)
  | _, _ => none
theorem ev_sseti {i : Nat} : sSetI i fa fb ρ = (fa ρ).bind fun p => (fb p.2).bind fun q => ((q.2[i]?).join).bind fun x => (setI x p.1 q.1).map fun y => .nx (q.2.set i (some y)) := by
  unfold sSetI
  cases fa ρ with
  | none => rfl
  | some p =>
    show (match fb p.2 with | some (.int k, ρ2) => _ | _ => none) = (fb p.2).bind _
    cases fb p.2 with
    | none => rfl
    | some q =>
      obtain ⟨y, ρ2⟩ := q
      cases y with
      | int j =>
        show (match ρ2[i]? with | some (some (.lst xs)) => _ | _ => none) = ((ρ2[i]?).join).bind _
        cases h : ρ2[i]? with
        | none => rfl
        | some o =>
          cases o with
          | none => rfl
          | some d =>
            cases d with
            | lst xs =>
              show (match ixN xs.length j with | some m => some (Out.nx _) | none => none) = ((ixN xs.length j).map _).map _
              cases ixN xs.length j <;> rfl
            | _ => rfl
      | _ =>
        show none = ((ρ2[i]?).join).bind _
        cases h : (ρ2[i]?).join with
        | none => rfl
        | some x => cases x <;> rfl
theorem ev_sfor {fg : D → Rho → Option Rho} {f : Rho → Option Out} : sFor fs fg f ρ = (fs ρ).bind fun p => forRun fg f p.1 p.2 := by
  unfold sFor
  cases fs ρ <;> rfl
theorem ev_gset {i : Nat} {d : D} : gSet i d ρ = some (ρ.set i (some d)) := rfl
end
theorem le_line {n : Nat} (h : n ≤ 1000000) : (n ≤ sizeLine) = True := eq_true (line_of h)
theorem sIx_pos {n d : Nat} {k : Int} (h : 0 ≤ k) : HT.sIx n d (some k) = min k.toNat n := by
  show (if k < 0 then (k + (n : Int)).toNat else min k.toNat n) = _
  rw [if_neg (by omega)]
theorem cutD_to (xs : List D) {k : Int} (h : 0 ≤ k) : cutD xs none (some k) = xs.take k.toNat := by
  unfold cutD
  rw [sIx_pos h, HT.sIx_none, List.drop_zero, Nat.sub_zero]
  exact List.take_eq_take_min.symm
theorem cutD_from (xs : List D) {k : Int} (h : 0 ≤ k) : cutD xs (some k) none = xs.drop k.toNat := by
  unfold cutD
  rw [sIx_pos h, HT.sIx_none]
  by_cases hk : k.toNat ≤ xs.length
  · rw [Nat.min_eq_left hk]
    exact List.take_of_length_le (by rw [List.length_drop]; exact Nat.le_refl _)
  · rw [Nat.min_eq_right (by omega), List.drop_eq_nil_of_le (Nat.le_refl _), List.drop_eq_nil_of_le (by omega)]
    simp
theorem dSl_lto {xs : List D} {k : Int} (h0 : 0 ≤ k) : dSl (.lst xs) none (some k) = some (.lst (xs.take k.toNat)) := by
  show some (D.lst (cutD xs none (some k))) = _
  rw [cutD_to xs h0]
theorem dSl_lfrom {xs : List D} {k : Int} (h0 : 0 ≤ k) : dSl (.lst xs) (some k) none = some (.lst (xs.drop k.toNat)) := by
  show some (D.lst (cutD xs (some k) none)) = _
  rw [cutD_from xs h0]
section
variable {X : Cx} {a : Expr} {ta : TE} {p pos : Pos} {elts : List Expr} {x1 : Nat} {tp : Pos}
end
section
variable {K : PySem.W.Frag} {O : List Nat} {t : TE} {fa : Rho → Option (D × Rho)}
end
section
variable {X : Cx} {K : PySem.W.Frag} {c : MC} {O O' : List Nat} {t : TE} {fa : Rho → Option (D × Rho)}
end
section
variable {ρ : Rho} {fa fb : Rho → Option (D × Rho)} {fs : Rho → Option (List D × Rho)}
theorem zipD_ints (xs ys : List Int) : zipD (xs.map D.int) (ys.map D.int) = (xs.zip ys).map fun q => D.tup [.int q.1, .int q.2] := by
  unfold zipD
  rw [List.zipWith_map, List.zip, List.map_zipWith]
end
section
variable {prog : Program} {w : World} {A : Around} {E : Value → Shared → Prop} {s : Shared} {a₀ : Array Keyed}
end
section
variable {X : Cx} {K : PySem.W.Frag}
end
section
variable {K : PySem.W.Frag} {O : List Nat} {t tb : TE} {fa fb : Rho → Option (D × Rho)}
end
section
variable {X : Cx}
noncomputable def rStrI : List V → Hp → VK → Prop := fun xs H Q => ∃ i : Int, xs = [.int i] ∧ i.natAbs.log2 < 1920 ∧ Q (.str (Str.ofString (toString i))) H
theorem call_strI : CallR X (.type "str") rStrI := by
  intro pins s σ H xs us Q I r h
  obtain ⟨i, rfl, hz, q⟩ := h
  obtain ⟨u, rfl, ru⟩ := vals1 r
  obtain ⟨t, rfl⟩ := ru
  exact PySem.P.str_of_int hz ⟨.str _, H, I.tok _, ⟨_, rfl⟩, q⟩
noncomputable def rIntT : List V → Hp → VK → Prop := fun xs H Q => ∃ (x : Str) (n : Int), xs = [.str x] ∧ intText? x = some n ∧ x.length ≤ 640 ∧ Q (.int n) H
theorem call_intT : CallR X (.type "int") rIntT := by
  intro pins s σ H xs us Q I r h
  obtain ⟨x, n, rfl, hn, hz, q⟩ := h
  obtain ⟨u, rfl, ru⟩ := vals1 r
  obtain ⟨t, rfl⟩ := ru
  exact PySem.W.KIN.call_text hn hz ⟨.int _, H, I.tok _, ⟨_, rfl⟩, q⟩
theorem vals_strs : ∀ (xs : List Str) (k : Nat), Vals (xs.map V.str) (strsFrom k xs)
  | [], _ => .nil
  | x :: xs, k => .cons ⟨_, rfl⟩ (vals_strs xs (k + 1))
noncomputable def rSplit : V → List V → Hp → VK → Prop := fun x vs H Q => ∃ a b : Str, x = .str a ∧ vs = [.str b] ∧ (b.length == 0) = false ∧ a.length ≤ sizeLine ∧ (Txt.split a b).length ≤ sizeLine ∧ ∀ l, H l = none → Q (.ref l) (upd H l (.lst ((Txt.split a b).map V.str)))
theorem mt_split : MtR X "str.split" rSplit := by
  intro pins s σ H x vs v us Q I rx rv h
  obtain ⟨a, b, rfl, rfl, hb, ha, hn, q⟩ := h
  obtain ⟨t, rfl⟩ := rx
  obtain ⟨u, rfl, ru⟩ := rv.one
  obtain ⟨t2, rfl⟩ := ru
  unfold Txt.split at hn q
  by_cases h1 : (decide (a.length < b.length) || decide (Builtin.Str.strKind a < Builtin.Str.strKind b)) = true
  · rw [if_pos h1] at hn q
    exact call_meets F.slot_str_split (typeIs_str _ _ _) F.entry_str_split (F.args_str_split_2 _ _) (meets_str_split_cannot_occur a b t t2 h1) ⟨.ref _, _, I.lnew (its := [.str a t]) (ys := [.str a]) (t' := s.toks) (.cons ⟨_, rfl⟩ .nil) (by show 1 ≤ sizeLine; decide), rfl, q _ I.fresh⟩
  · rw [if_neg h1] at hn q
    have h1' : (decide (a.length < b.length) || decide (Builtin.Str.strKind a < Builtin.Str.strKind b)) = false := by simpa using h1
    by_cases h2 : (Builtin.Str.occurrences a b 0 a.length (a.length + 1)).isEmpty = true
    · rw [if_pos h2] at hn q
      exact call_meets F.slot_str_split (typeIs_str _ _ _) F.entry_str_split (F.args_str_split_2 _ _) (meets_str_split_not_found a b t t2 h1' hb h2) ⟨.ref _, _, I.lnew (its := [.str a t]) (ys := [.str a]) (t' := s.toks) (.cons ⟨_, rfl⟩ .nil) (by show 1 ≤ sizeLine; decide), rfl, q _ I.fresh⟩
    · rw [if_neg h2] at hn q
      exact call_meets F.slot_str_split (typeIs_str _ _ _) F.entry_str_split (F.args_str_split_2 _ _) (meets_str_split_sep a b t t2 h1' hb (by simpa using h2) ha hn) ⟨.ref _, _, I.lnew (vals_strs _ _) (by rw [List.length_map]; exact hn), rfl, q _ I.fresh⟩
noncomputable def Its (x : Str) : It :=
  ⟨fun i _ => ∃ c, x.cps[i]? = some c, fun i H v H' => H' = H ∧ ∃ c, x.cps[i]? = some c ∧ v = .str ⟨#[c]⟩, fun i _ => x.cps.size ≤ i⟩
theorem turn_strA {P : Program} {w : World} {K : PySem.W.Frag} {tg : Expr} (x : Str) (t : Tok) (it : Addr) : Turn P w K tg (Its x) [it] it (fun i h => h.IsStrIter it "str_ascii_iterator" x t i) where
  mem := by simp
  obj := fun i h st b hb => by
    obtain ⟨o, e, c, d⟩ := st
    rw [List.mem_singleton.mp hb]
    exact ⟨o, e, fun v z => by rw [d] at z; cases z⟩
  keep := fun i h h' st k => by
    obtain ⟨o, e, r⟩ := st
    exact ⟨o, k it (by simp) o e, r⟩
  item := by
    intro X hP hw hK hc i pins s σ H E I hf st hg
    subst hP hw hK
    obtain ⟨c, hx⟩ := hg
    obtain ⟨f0, f1, f2, f3, f4, f5⟩ := hf it (by simp)
    refine wpAny_pyNext_ascii_item st hx fun h' st' sb => ?_
    have I1 : Inv X pins σ H { s with heap := h', toks := s.toks + 1 } := I.turned (t' := s.toks + 1) (fun b o hb e => (sb.2 b hb).trans e) f0 f1 f3 f4 f5
    obtain ⟨o, e1, c1, d1⟩ := id st'
    exact ⟨_, rfl, go_of (s := { s with heap := h', toks := s.toks + 1 }) e1 c1 d1 (by decide) ⟨.str ⟨#[c]⟩, H, I1, ⟨_, rfl⟩, ⟨rfl, c, hx, rfl⟩, st', fun b hb => (hf b hb).1⟩⟩
  done := by
    intro X hP hw hK hc i pins s σ H E I hf st hg
    subst hP hw hK
    obtain ⟨f0, f1, f2, f3, f4, f5⟩ := hf it (by simp)
    exact wpAny_pyNext_ascii_end (I.ok.hd hc) st (Array.getElem?_eq_none hg) fun h' eb => ⟨rfl, I.turned (t' := s.toks) (fun b o hb e => eb b o hb e) f0 f1 f3 f4 f5⟩
  self := fun _ _ _ _ _ st h => wpAny_pyIter_striter_ascii st h
theorem turn_strW {P : Program} {w : World} {K : PySem.W.Frag} {tg : Expr} (x : Str) (t : Tok) (it : Addr) : Turn P w K tg (Its x) [it] it (fun i h => h.IsStrIter it "str_iterator" x t i) where
  mem := by simp
  obj := fun i h st b hb => by
    obtain ⟨o, e, c, d⟩ := st
    rw [List.mem_singleton.mp hb]
    exact ⟨o, e, fun v z => by rw [d] at z; cases z⟩
  keep := fun i h h' st k => by
    obtain ⟨o, e, r⟩ := st
    exact ⟨o, k it (by simp) o e, r⟩
  item := by
    intro X hP hw hK hc i pins s σ H E I hf st hg
    subst hP hw hK
    obtain ⟨c, hx⟩ := hg
    obtain ⟨f0, f1, f2, f3, f4, f5⟩ := hf it (by simp)
    refine wpAny_pyNext_wide_item st hx fun h' st' sb => ?_
    have I1 : Inv X pins σ H { s with heap := h', toks := s.toks + 1 } := I.turned (t' := s.toks + 1) (fun b o hb e => (sb.2 b hb).trans e) f0 f1 f3 f4 f5
    obtain ⟨o, e1, c1, d1⟩ := id st'
    exact ⟨_, rfl, go_of (s := { s with heap := h', toks := s.toks + 1 }) e1 c1 d1 (by decide) ⟨.str ⟨#[c]⟩, H, I1, ⟨_, rfl⟩, ⟨rfl, c, hx, rfl⟩, st', fun b hb => (hf b hb).1⟩⟩
  done := by
    intro X hP hw hK hc i pins s σ H E I hf st hg
    subst hP hw hK
    obtain ⟨f0, f1, f2, f3, f4, f5⟩ := hf it (by simp)
    exact wpAny_pyNext_wide_end (I.ok.hd hc) st (Array.getElem?_eq_none hg) fun h' eb => ⟨rfl, I.turned (t' := s.toks) (fun b o hb e => eb b o hb e) f0 f1 f3 f4 f5⟩
  self := fun _ _ _ _ _ st h => wpAny_pyIter_striter_wide st h
noncomputable def iStr (td : TE) : TI := fun σ H R => td σ H fun v H1 => ∃ x, v = .str x ∧ R (Its x) H1
theorem pi_str {tg l : Expr} {td : TE} (hl : PE X l td) : PI X tg l (iStr td) := by
  intro pins s σ H R I h
  refine thn (hl pins s σ H _ I h) fun v s1 ⟨y, H1, I1, rx, x, ex, q⟩ => ?_
  subst ex
  obtain ⟨t, rfl⟩ := rx
  have fp : ∀ b ∈ [s1.heap.objs.size], FpOk X pins H1 b := fun b hb => by
    rw [List.mem_singleton.mp hb]
    exact I1.fpOk (Nat.le_refl _) (I1.hok.fresh (Nat.le_refl _))
  cases ha : x.cps.all (· < 128)
  · exact wpAny_pyIter_wide ha ⟨s1.heap.objs.size, [s1.heap.objs.size], _, _, H1, rfl, I1.kept (t' := s1.toks) fun b o e => Heap.get?_push_of_some _ e, turn_strW x t _, ⟨_, Heap.get?_push_size _ rfl, rfl, rfl⟩, fp, q⟩
  · exact wpAny_pyIter_ascii ha ⟨s1.heap.objs.size, [s1.heap.objs.size], _, _, H1, rfl, I1.kept (t' := s1.toks) fun b o e => Heap.get?_push_of_some _ e, turn_strA x t _, ⟨_, Heap.get?_push_size _ rfl, rfl, rfl⟩, fp, q⟩
end
section
variable {X : Cx}
noncomputable def rSlS : V → Option Int → Option Int → Hp → VK → Prop := fun x lo hi H Q => ∃ a : Str, x = .str a ∧ a.length ≤ sizeLine ∧ Q (.str (Txt.slice a lo hi)) H
theorem sl_str : SlR X rSlS := by
  intro pins s σ H x v vl vu lo hi sl Q I rx hs pl pu h
  obtain ⟨a, rfl, hz, q⟩ := h
  obtain ⟨t, rfl⟩ := rx
  obtain ⟨o, e, c, d⟩ := hs
  refine ⟨"str", _, F.slot_str_getitem.lookup, typeIs_str _ _ _, ?_⟩
  cases pl with
  | none =>
    cases pu with
    | none => exact wpAny_getItem_str_slice (l := none) (u := none) (st := none) ⟨o, e, c, d⟩ rfl (post_val_or_str ⟨Nat.le_trans (Txt.slice_le a none none) hz, fun t' k => ⟨.str _, H, I.tok k, ⟨_, rfl⟩, q⟩⟩)
    | int j tj => exact wpAny_getItem_str_slice (l := none) (u := some (j, tj)) (st := none) ⟨o, e, c, d⟩ rfl (post_val_or_str ⟨Nat.le_trans (Txt.slice_le a none (some j)) hz, fun t' k => ⟨.str _, H, I.tok k, ⟨_, rfl⟩, q⟩⟩)
  | int i ti =>
    cases pu with
    | none => exact wpAny_getItem_str_slice (l := some (i, ti)) (u := none) (st := none) ⟨o, e, c, d⟩ rfl (post_val_or_str ⟨Nat.le_trans (Txt.slice_le a (some i) none) hz, fun t' k => ⟨.str _, H, I.tok k, ⟨_, rfl⟩, q⟩⟩)
    | int j tj => exact wpAny_getItem_str_slice (l := some (i, ti)) (u := some (j, tj)) (st := none) ⟨o, e, c, d⟩ rfl (post_val_or_str ⟨Nat.le_trans (Txt.slice_le a (some i) (some j)) hz, fun t' k => ⟨.str _, H, I.tok k, ⟨_, rfl⟩, q⟩⟩)
end
section
variable {K : PySem.W.Frag} {O : List Nat} {t tb : TE} {fa fb : Rho → Option (D × Rho)}
noncomputable def dStr : D → Option D
  | .int i => if i.natAbs.log2 < 1920 then some (.str (Str.ofString (toString i))) else none
  | _ => none
theorem cs_str : CallS K rStrI dStr := fun H x d u Q r e k => by
  cases r with
  | int i =>
    unfold dStr at e
    dsimp only at e
    split at e
    · rename_i hz
      cases e
      exact ⟨i, rfl, hz, k _ (.str _)⟩
    · cases e
  | _ => cases e
noncomputable def dIntT : D → Option D
  | .str x => if x.length ≤ 640 then (intText? x).map D.int else none
  | _ => none
theorem cs_intT : CallS K rIntT dIntT := fun H x d u Q r e k => by
  cases r with
  | str x =>
    unfold dIntT at e
    dsimp only at e
    split at e
    · rename_i hz
      cases z : intText? x with
      | none => rw [z] at e; cases e
      | some n =>
        rw [z] at e
        cases e
        exact ⟨x, n, rfl, z, hz, k _ (.int _)⟩
    · cases e
  | _ => cases e
noncomputable def dLenS : D → Option D
  | .str x => if x.length ≤ sizeLine then some (.int x.length) else none
  | _ => none
theorem cs_lenS : CallS K (fun xs H Q => ∃ z : Str, xs = [.str z] ∧ z.length ≤ sizeLine ∧ Q (.int z.length) H) dLenS := fun H x d u Q r e k => by
  cases r with
  | str x =>
    unfold dLenS at e
    dsimp only at e
    split at e
    · rename_i hz
      cases e
      exact ⟨x, rfl, hz, k _ (.int _)⟩
    · cases e
  | _ => cases e
theorem Rps.strs {R : Hp} : ∀ xs : List Str, Rps K R (xs.map V.str) (xs.map D.str)
  | [] => .nil
  | x :: xs => .cons (.str x) (Rps.strs xs)
noncomputable def dSplit (x y : D) : Option (List D) := match x, y with
  | .str a, .str b => if (b.length == 0) = false ∧ a.length ≤ sizeLine ∧ (Txt.split a b).length ≤ sizeLine then some ((Txt.split a b).map D.str) else none
  | _, _ => none
theorem mn_split (ha : ME K O t fa) (hb : ME K O tb fb) : MN K O (tBM K "str" rSplit t (tCons tb tNil)) (mOp2L dSplit fa fb) := fun Z σ H R ρ ds ρ' Q S e k => by
  obtain ⟨x, ρ1, e1, e⟩ := mBind_some e
  obtain ⟨y, ρ2, e2, e⟩ := mBind_some e
  obtain ⟨e3, rfl⟩ := mLift_some e
  unfold dSplit at e3
  split at e3
  · split at e3
    · rename_i hz
      cases e3
      refine ha Z σ H R ρ _ ρ1 _ S e1 fun v H1 R1 S1 st1 r1 => ?_
      (first | obtain rfl := r1.isA rfl | cases r1)
      refine ⟨rfl, hb Z σ H1 R1 ρ1 _ _ _ S1 e2 fun w H2 R2 S2 st2 r2 => ?_⟩
      (first | obtain rfl := r2.isA rfl | cases r2)
      refine ⟨_, _, rfl, rfl, hz.1, hz.2.1, hz.2.2, fun l hl => ?_⟩
      exact k l _ _ _ (S2.ext (Ext.hid S2.sub hl)) ((st1.trans st2).trans (Ext.hid S2.sub hl).stp) ((st1.trans st2).new hl) upd_same (S2.out hl) (Rps.strs _)
    · cases e3
  · cases e3
noncomputable def SM (r : V → List V → Hp → VK → Prop) (g : Str → Str → Option D) : Prop := ∀ (H : Hp) (a b : Str) (d : D) (Q : VK), g a b = some d → (∀ v, Sc v d → Q v H) → r (.str a) [.str b] H Q
noncomputable def dSM (g : Str → Str → Option D) (x y : D) : Option D := match x, y with
  | .str a, .str b => g a b
  | _, _ => none
theorem me_sm {r : V → List V → Hp → VK → Prop} {g : Str → Str → Option D} (h : SM r g) (ha : ME K O t fa) (hb : ME K O tb fb) : ME K O (tBM K "str" r t (tCons tb tNil)) (mOp2 (dSM g) fa fb) := fun Z σ H R ρ d ρ' Q S e k => by
  obtain ⟨x, ρ1, e1, e⟩ := mBind_some e
  obtain ⟨y, ρ2, e2, e⟩ := mBind_some e
  obtain ⟨e3, rfl⟩ := mLift_some e
  unfold dSM at e3
  split at e3
  · refine ha Z σ H R ρ _ ρ1 _ S e1 fun v H1 R1 S1 st1 r1 => ?_
    (first | obtain rfl := r1.isA rfl | cases r1)
    refine ⟨rfl, hb Z σ H1 R1 ρ1 _ _ _ S1 e2 fun w H2 R2 S2 st2 r2 => ?_⟩
    (first | obtain rfl := r2.isA rfl | cases r2)
    exact h H2 _ _ d Q e3 fun v z => k v H2 R2 S2 (st1.trans st2) z.rp
  · cases e3
noncomputable def dInS (x y : D) : Option D := match x, y with
  | .str i, .str j => some (.bl (!(Builtin.Str.occurrences j i 0 j.length 1).isEmpty))
  | _, _ => none
theorem os_inS : OpS K (fun x y H Q => ∃ i j : Str, x = .str i ∧ y = .str j ∧ Q (.bl (!(Builtin.Str.occurrences j i 0 j.length 1).isEmpty)) H) dInS := fun H v w x y d Q r1 r2 e k => by
  unfold dInS at e
  split at e
  · cases e
    (first | obtain rfl := r1.isA rfl | cases r1)
    (first | obtain rfl := r2.isA rfl | cases r2)
    exact ⟨_, _, rfl, rfl, k _ (.bl _)⟩
  · cases e
noncomputable def mSlS (f : Rho → Option (D × Rho)) (fl fh : Rho → Option (Option Int × Rho)) : Rho → Option (D × Rho) := mBind f fun d => mBind fl fun lo => mBind fh fun hi => mLift (match d with
  | .str a => if a.length ≤ sizeLine then some (.str (Txt.slice a lo hi)) else none
  | _ => none)
theorem me_sliceS {tl th : TO} {fl fh : Rho → Option (Option Int × Rho)} (h : ME K O t fa) (hl : MO K O tl fl) (hh : MO K O th fh) : ME K O (tSl rSlS t tl th) (mSlS fa fl fh) := fun Z σ H R ρ d ρ' Q S e k => by
  obtain ⟨x, ρ1, e1, e⟩ := mBind_some e
  obtain ⟨lo, ρ2, e2, e⟩ := mBind_some e
  obtain ⟨hi, ρ3, e3, e⟩ := mBind_some e
  obtain ⟨e4, rfl⟩ := mLift_some e
  refine h Z σ H R ρ x _ _ S e1 fun v H1 R1 S1 st1 r1 => hl Z σ H1 R1 ρ1 lo _ _ S1 e2 fun H2 R2 S2 st2 => hh Z σ H2 R2 ρ2 hi _ _ S2 e3 fun H3 R3 S3 st3 => ?_
  cases r1 with
  | str a =>
    dsimp only at e4
    split at e4
    · rename_i hz
      cases e4
      exact ⟨a, rfl, hz, k _ H3 R3 S3 ((st1.trans st2).trans st3) (.str _)⟩
    · cases e4
  | _ => cases e4
noncomputable def signsD (x : Str) : List D := x.cps.toList.map fun c => .str ⟨#[c]⟩
noncomputable def mSigns (f : Rho → Option (D × Rho)) : Rho → Option (List D × Rho) := mBind f fun d => mLift (match d with
  | .str x => some (signsD x)
  | _ => none)
theorem it_str {R : Hp} (x : Str) : ItOk K (Its x) R (signsD x) := fun H' R' s b i => by
  refine ⟨fun e => ?_, fun d e => ?_⟩
  · show x.cps.size ≤ i
    rw [e]
    simp [signsD]
  · unfold signsD at e
    rw [List.getElem?_map] at e
    cases g : x.cps.toList[i]? with
    | none => rw [g] at e; cases e
    | some c =>
      rw [g] at e
      cases e
      have g' : x.cps[i]? = some c := by simpa using g
      refine ⟨⟨c, g'⟩, fun v H'' y => ?_⟩
      obtain ⟨rfl, c', h1, rfl⟩ := y
      rw [g'] at h1
      (first | obtain rfl := h1.isA rfl | cases h1)
      exact ⟨R', Ext.refl b, .str _⟩
theorem mi_str (h : ME K O t fa) : MI K O (iStr t) (mSigns fa) := fun Z σ H R ρ ds ρ' Q S e k => by
  obtain ⟨d, ρ1, e1, e⟩ := mBind_some e
  obtain ⟨e2, rfl⟩ := mLift_some e
  refine h Z σ H R ρ d _ _ S e1 fun v H1 R1 S1 st1 r1 => ?_
  (first | split at e2)
  · rename_i x
    obtain rfl := r1.isA rfl
    cases e2
    exact ⟨x, rfl, k _ H1 R1 S1 st1 (it_str x)⟩
  · cases e2
end
section
variable {c : MC} {O O' : List Nat} {te : TE} {fe : Rho → Option (D × Rho)}
end
section
variable {K : PySem.W.Frag} {O : List Nat} {tr : TA} {fs : Rho → Option (List D × Rho)} {E : XK} {n : Nat}
end
section
variable {X : Cx} {K : PySem.W.Frag} {o e : Expr} {es : List Expr} {to : TE} {t : TA} {name : Str} {apos cpos : Pos} {T id : String} {r : V → List V → Hp → VK → Prop}
theorem pe_bmK (hK : X.K = K) (pa : PlainAttrs T) (slot : Slot T name id) (hty : typeOf (.builtin id) = pure (.type "method_descriptor")) (hm : MtR X id r) (ho : PE X o to) (ha : PA X (e :: es) t)
    (hbase : attributeBase o name X.env (eval o X.env) = eval o X.env := by rfl)
    (hfew : ((backTo cpos (starEach (e :: es) X.env)).all (fun x => !x.1) && (backToKw cpos (keywordEach [] X.env)).all (fun x => x.1.isSome)
      && decide ((e :: es).length + ([] : List Keyword).length + (if ([] : List Keyword).isEmpty then 0 else 1) < 30)) = true := by rfl)
    (hline : (apos.endLine == cpos.line) = true := by rfl) (hs : starEach (e :: es) X.env = (false, eval e X.env) :: starEach es X.env := by rfl) (hplain : (backTo cpos (starEach es X.env)).any (·.1) = false := by rfl) :
    PE X (.Call (.Attribute o name apos) (e :: es) [] cpos) (tBM K T r to t) := hK ▸ pe_bm pa slot hty hm ho ha hbase hfew hline hs hplain
end
end L2
namespace L2
open PySem PySem.NumText
theorem digs_ok (m : Nat) : AllDigits ((Nat.toDigits 10 m).map Char.toNat) := fun c hc => by
  obtain ⟨ch, hch, e⟩ := List.mem_map.mp hc
  rw [← e]
  have d := Nat.isDigit_of_mem_toDigits (by decide) (by decide) hch
  unfold Char.isDigit at d
  simp only [Bool.and_eq_true, decide_eq_true_eq] at d
  exact ⟨d.1, d.2⟩
theorem digs_ne (m : Nat) : (Nat.toDigits 10 m).map Char.toNat ≠ [] := fun h => by
  have := W.KIN.val_back m
  rw [h] at this
  have m0 : m = 0 := by simpa [digitsVal] using this.symm
  subst m0
  rw [Nat.toDigits_of_lt_base (by decide)] at h
  (first | obtain rfl := h.isA rfl | cases h)
theorem text_nat (m : Nat) : (Str.ofString (toString (m : Int))).cps.toList = (Nat.toDigits 10 m).map Char.toNat := W.KIN.signs_num m
theorem text_neg (m : Nat) : (Str.ofString (toString (-((m + 1 : Nat) : Int)))).cps.toList = 45 :: (Nat.toDigits 10 (m + 1)).map Char.toNat := by
  rw [PyProof.Rows.signs_ofString]
  show (Int.repr (Int.negSucc m)).toList.map Char.toNat = _
  show (("-" ++ Nat.repr (m + 1) : String)).toList.map Char.toNat = _
  rw [String.toList_append, List.map_append, Nat.toList_repr]
  rfl
theorem reads_back (n : Int) (h : (Str.ofString (toString n)).length ≤ 4300) : intText? (Str.ofString (toString n)) = some n := by
  rcases Int.eq_nat_or_neg n with ⟨m, rfl | rfl⟩
  · have e := intText_digits (x := Str.ofString (toString (m : Int))) (by rw [text_nat]; exact digs_ok m) (by rw [text_nat]; exact digs_ne m) h
    rw [e, text_nat, W.KIN.val_back]
  · cases m with
    | zero =>
      have e := intText_digits (x := Str.ofString (toString ((0 : Nat) : Int))) (by rw [text_nat]; exact digs_ok 0) (by rw [text_nat]; exact digs_ne 0) h
      rw [text_nat, W.KIN.val_back] at e
      exact e
    | succ m =>
      have e := intText_neg (text_neg m) (digs_ok (m + 1)) (digs_ne (m + 1)) h
      rw [e, W.KIN.val_back]
theorem str_ext {x y : Str} (h : x.cps.toList = y.cps.toList) : x = y := by
  cases x; cases y
  simp only [Str.mk.injEq]
  exact Array.toList_inj.mp h
theorem cps_append (x y : Str) : (x ++ y).cps.toList = x.cps.toList ++ y.cps.toList := by
  show (x.cps ++ y.cps).toList = _
  rw [Array.toList_append]
theorem cut_one {c : Nat} : ∀ {a b r s : List Nat}, c ∉ a → c ∉ b → a ++ c :: r = b ++ c :: s → a = b ∧ r = s
  | [], [], _, _, _, _, e => by cases e; exact ⟨rfl, rfl⟩
  | [], y :: b, _, _, _, hb, e => by cases e; exact absurd List.mem_cons_self hb
  | x :: a, [], _, _, ha, _, e => by cases e; exact absurd List.mem_cons_self ha
  | x :: a, y :: b, r, s, ha, hb, e => by
    rw [List.cons_append, List.cons_append, List.cons.injEq] at e
    obtain ⟨rfl, e⟩ := e
    obtain ⟨rfl, rfl⟩ := cut_one (fun h => ha (List.mem_cons_of_mem _ h)) (fun h => hb (List.mem_cons_of_mem _ h)) e
    exact ⟨rfl, rfl⟩
theorem join_cons (c : Nat) (x y : Str) (r : List Str) : (Str.join ⟨#[c]⟩ (x :: y :: r)).cps.toList = x.cps.toList ++ c :: (Str.join ⟨#[c]⟩ (y :: r)).cps.toList := by
  show (x ++ ⟨#[c]⟩ ++ Str.join ⟨#[c]⟩ (y :: r)).cps.toList = _
  rw [cps_append, cps_append]
  simp
theorem join_inj (c : Nat) : ∀ {ps qs : List Str}, ps ≠ [] → qs ≠ [] → (∀ p ∈ ps, c ∉ p.cps.toList) → (∀ p ∈ qs, c ∉ p.cps.toList) → Str.join ⟨#[c]⟩ ps = Str.join ⟨#[c]⟩ qs → ps = qs
  | [], _, h, _, _, _, _ => absurd rfl h
  | _, [], _, h, _, _, _ => absurd rfl h
  | [x], [y], _, _, _, _, e => by
    have : x = y := e
    rw [this]
  | [x], y :: z :: r, _, _, hx, _, e => by
    have : x.cps.toList = (Str.join ⟨#[c]⟩ (y :: z :: r)).cps.toList := congrArg (fun s : Str => s.cps.toList) e
    rw [join_cons] at this
    exact absurd (by rw [this]; simp) (hx x List.mem_cons_self)
  | x :: w :: r, [y], _, _, _, hy, e => by
    have : (Str.join ⟨#[c]⟩ (x :: w :: r)).cps.toList = y.cps.toList := congrArg (fun s : Str => s.cps.toList) e
    rw [join_cons] at this
    exact absurd (by rw [← this]; simp) (hy y List.mem_cons_self)
  | x :: w :: r, y :: z :: t, _, _, hx, hy, e => by
    have q : (Str.join ⟨#[c]⟩ (x :: w :: r)).cps.toList = (Str.join ⟨#[c]⟩ (y :: z :: t)).cps.toList := congrArg (fun s : Str => s.cps.toList) e
    rw [join_cons, join_cons] at q
    obtain ⟨e1, e2⟩ := cut_one (hx x List.mem_cons_self) (hy y List.mem_cons_self) q
    have ih := join_inj c (ps := w :: r) (qs := z :: t) (by simp) (by simp) (fun p h => hx p (List.mem_cons_of_mem _ h)) (fun p h => hy p (List.mem_cons_of_mem _ h)) (str_ext e2)
    rw [str_ext e1, ih]
theorem split_ne (x y : Str) : Txt.split x y ≠ [] := by
  unfold Txt.split
  split
  · simp
  · split
    · simp
    · rw [StrLaws.partsBetween_eq]
      cases Builtin.Str.occurrences x y 0 x.length (x.length + 1) <;> simp [StrLaws.partsFrom]
theorem split_join (c : Nat) (ps : List Str) (hn : ps ≠ []) (h : ∀ p ∈ ps, c ∉ p.cps.toList) : Txt.split (Str.join ⟨#[c]⟩ ps) ⟨#[c]⟩ = ps :=
  join_inj c (split_ne _ _) hn (StrLaws.split_free _ c) h (StrLaws.join_split _ _)
theorem txt_join (sep : Str) (ps : List Str) : Txt.join sep ps = Str.join sep ps := StrLaws.glued_eq_join sep ps
end L2
namespace L2
open PySem PySem.NumText
noncomputable def digs (m : Nat) : List Nat := (Nat.toDigits 10 m).map Char.toNat
noncomputable def tx (n : Int) : Str := Str.ofString (toString n)
theorem digs_len {m k : Nat} (h : m < 10 ^ k) (hk : 0 < k) : (digs m).length ≤ k := by
  unfold digs
  rw [List.length_map]
  exact (Nat.length_toDigits_le_iff (by decide) hk).mpr h
theorem digs_pos (m : Nat) : 0 < (digs m).length := by
  have := digs_ne m
  unfold digs
  exact List.length_pos_iff.mpr this
theorem digs_dig {m c : Nat} (h : c ∈ digs m) : 48 ≤ c ∧ c ≤ 57 := digs_ok m c h
theorem digs_small {m : Nat} (h : m < 10) : digs m = [48 + m] := by
  unfold digs
  rw [Nat.toDigits_of_lt_base h, List.map_cons, List.map_nil, Nat.toNat_digitChar_of_lt_ten h]
theorem digs_big {m : Nat} (h : 10 ≤ m) : digs m = digs (m / 10) ++ [48 + m % 10] := by
  unfold digs
  rw [Nat.toDigits_of_base_le (by decide) h, List.map_append, List.map_cons, List.map_nil, Nat.toNat_digitChar_of_lt_ten (Nat.mod_lt _ (by decide))]
theorem digs_head : ∀ {m c : Nat} {r : List Nat}, 0 < m → digs m = c :: r → c ≠ 48 := fun {m} => by
  induction m using Nat.strongRecOn with
  | _ m ih =>
    intro c r h e
    by_cases q : m < 10
    · rw [digs_small q] at e
      cases e
      omega
    · rw [digs_big (by omega)] at e
      cases f : digs (m / 10) with
      | nil => have := digs_pos (m / 10); rw [f] at this; cases this
      | cons d t =>
        rw [f] at e
        cases e
        exact ih (m / 10) (by omega) (by omega) f
theorem tx_nat (m : Nat) : (tx (m : Int)).cps.toList = digs m := text_nat m
theorem tx_neg {m : Nat} (h : 0 < m) : (tx (-(m : Int))).cps.toList = 45 :: digs m := by
  cases m with
  | zero => cases h
  | succ m => exact text_neg m
theorem tx_cases (n : Int) : (0 ≤ n ∧ (tx n).cps.toList = digs n.natAbs) ∨ (n < 0 ∧ (tx n).cps.toList = 45 :: digs n.natAbs) := by
  rcases Int.eq_nat_or_neg n with ⟨m, rfl | rfl⟩
  · exact .inl ⟨by omega, by rw [tx_nat]; rfl⟩
  · cases m with
    | zero => exact .inl ⟨by decide, tx_nat 0⟩
    | succ m => exact .inr ⟨by omega, by rw [tx_neg (by omega)]; congr 2⟩
theorem len_toList (x : Str) : x.length = x.cps.toList.length := rfl
theorem tx_len {n : Int} {k : Nat} (h : n.natAbs < 10 ^ k) (hk : 0 < k) : (tx n).length ≤ k + 1 := by
  rw [len_toList]
  have := digs_len h hk
  rcases tx_cases n with ⟨_, e⟩ | ⟨_, e⟩ <;> rw [e]
  · omega
  · rw [List.length_cons]; omega
theorem tx_sign {n : Int} {c : Nat} (h : c ∈ (tx n).cps.toList) : c = 45 ∨ (48 ≤ c ∧ c ≤ 57) := by
  rcases tx_cases n with ⟨_, e⟩ | ⟨_, e⟩ <;> rw [e] at h
  · exact .inr (digs_dig h)
  · rcases List.mem_cons.mp h with h | h
    · exact .inl h
    · exact .inr (digs_dig h)
theorem strOk_of {x : Str} (h : ∀ c ∈ x.cps.toList, c < 0x110000) : PyData.strOk x = true := by
  unfold PyData.strOk
  rw [← Array.all_toList]
  exact List.all_eq_true.mpr fun c hc => decide_eq_true (h c hc)
theorem tx_ne (n : Int) : (tx n).cps.toList ≠ [] := by
  have := digs_pos n.natAbs
  rcases tx_cases n with ⟨_, e⟩ | ⟨_, e⟩ <;> rw [e] <;> intro z
  · rw [z] at this; cases this
  · cases z
theorem log2_small {m k : Nat} (h : m < 2 ^ k) (hk : 0 < k) : m.log2 < k := by
  by_cases q : m = 0
  · subst q; simpa using hk
  · exact (Nat.log2_lt q).mpr h
theorem dStr_tx {n : Int} (h : n.natAbs < 2 ^ 1920) : dStr (.int n) = some (.str (tx n)) := by
  unfold dStr
  dsimp only
  rw [if_pos (log2_small h (by decide))]
  rfl
theorem dIntT_tx {n : Int} (h : (tx n).length ≤ 640) : dIntT (.str (tx n)) = some (.int n) := by
  unfold dIntT
  dsimp only
  rw [if_pos h]
  have e := reads_back n (Nat.le_trans h (by decide))
  show Option.map D.int (intText? (Str.ofString (toString n))) = _
  rw [e]
  rfl
end L2
namespace L2
end L2
namespace L2
open PySem
noncomputable def rowD (row : List Int) : D := .tup (row.map D.int)
noncomputable def schD (r : Int) (taps : List Int) (rows : List (List Int)) (e : Str) : D := .tup [.int r, .tup (taps.map D.int), .tup (rows.map rowD), .str e]
structure SchOk (r : Int) (taps : List Int) (rows : List (List Int)) (e : Str) : Prop where
  r0 : 0 ≤ r
  r4 : r ≤ 4
  t1 : 1 ≤ taps.length
  t4 : taps.length ≤ 4
  tb : ∀ t ∈ taps, 0 ≤ t ∧ t < 2 * 2 ^ r.toNat
  m1 : 1 ≤ rows.length
  m6 : rows.length ≤ 6
  rw : ∀ row ∈ rows, row.length = taps.length ∧ ∀ b ∈ row, b = 0 ∨ b = 1
  en : e = "open" ∨ e = "ended" ∨ e = "ring"
theorem pickD {a b : Int} (k : Prop) [Decidable k] : ∃ r : Int, atI [D.int a, D.int b] (if k then 1 else 0) = some (.int r) ∧ (r = a ∨ r = b) := by
  by_cases h : k
  · rw [if_pos h]; exact ⟨b, rfl, .inr rfl⟩
  · rw [if_neg h]; exact ⟨a, rfl, .inl rfl⟩
theorem ints_of {P : Int → Prop} : ∀ {ys : List D}, (∀ y ∈ ys, ∃ t, y = .int t ∧ P t) → ∃ ts : List Int, ys = ts.map D.int ∧ ∀ t ∈ ts, P t
  | [], _ => ⟨[], rfl, fun _ h => nomatch h⟩
  | y :: ys, h => by
    obtain ⟨t, rfl, ht⟩ := h y List.mem_cons_self
    obtain ⟨ts, rfl, hs⟩ := ints_of (P := P) fun z hz => h z (List.mem_cons_of_mem _ hz)
    refine ⟨t :: ts, rfl, fun u hu => ?_⟩
    rcases List.mem_cons.mp hu with rfl | hu
    · exact ht
    · exact hs u hu
theorem at_last {α : Type} (xs : List α) (x : α) : atI (xs ++ [x]) (-1) = some x := by
  unfold atI ixN
  have h1 : ¬ ((0 : Int) ≤ -1) := by decide
  have h2 : (-(((xs ++ [x]).length : Nat) : Int) ≤ -1) := by rw [List.length_append, List.length_singleton]; omega
  have h3 : ((-1 : Int) + (((xs ++ [x]).length : Nat) : Int)).toNat = xs.length := by rw [List.length_append, List.length_singleton]; omega
  rw [if_neg h1, if_pos h2, h3]
  show (xs ++ [x])[xs.length]? = some x
  rw [List.getElem?_append_right (Nat.le_refl _), Nat.sub_self]
  rfl
end L2
namespace L2
open PySem PySem.Spec
theorem dSplit_join {c : Nat} {xs : List Str} (hn : xs ≠ []) (h : ∀ x ∈ xs, c ∉ x.cps.toList) (h1 : (Txt.join ⟨#[c]⟩ xs).length ≤ sizeLine) (h2 : xs.length ≤ sizeLine) : dSplit (.str (Txt.join ⟨#[c]⟩ xs)) (.str ⟨#[c]⟩) = some (xs.map D.str) := by
  unfold dSplit
  dsimp only
  have e : Txt.split (Txt.join ⟨#[c]⟩ xs) ⟨#[c]⟩ = xs := by
    rw [txt_join]
    exact split_join c xs hn h
  rw [e, if_pos ⟨rfl, h1, h2⟩]
theorem join_len (c : Nat) : ∀ (xs : List Str) (k : Nat), (∀ x ∈ xs, x.length ≤ k) → (Txt.join ⟨#[c]⟩ xs).length ≤ xs.length * (k + 1) := by
  intro xs k h
  rw [txt_join]
  induction xs with
  | nil =>
    rw [List.length_nil, Nat.zero_mul]
    exact Nat.le_of_eq rfl
  | cons x r ih =>
    cases r with
    | nil =>
      have e : Str.join ⟨#[c]⟩ [x] = x := by
        rw [← txt_join]
        rfl
      rw [e]
      have := h x List.mem_cons_self
      rw [List.length_singleton]
      omega
    | cons y r =>
      have h1 := h x List.mem_cons_self
      have h2 := ih fun z hz => h z (List.mem_cons_of_mem _ hz)
      rw [len_toList, join_cons, List.length_append, List.length_cons, ← len_toList, ← len_toList]
      simp only [List.length_cons] at h2 ⊢
      rw [Nat.add_mul (r.length + 1) 1 (k + 1)]
      omega
noncomputable def sgO (d : D) : Option (List D) := match d with
  | .str x => some (signsD x)
  | _ => none
section
variable {fa : Rho → Option (D × Rho)} {fl fh : Rho → Option (Option Int × Rho)} {ρ : Rho}
theorem ev_signs : mSigns fa ρ = (fa ρ).bind fun p => (sgO p.1).map fun x => (x, p.2) := by
  unfold mSigns
  rw [ev_bind]
  congr 1; funext p
  rw [ev_lift]
  rfl
end
theorem dLenS_is {x : Str} {n : Int} (h : x.length ≤ sizeLine) (e : (x.length : Int) = n) : dLenS (.str x) = some (.int n) := by
  unfold dLenS
  dsimp only
  rw [if_pos h, e]
end L2
namespace L2
open PySem PySem.Spec
noncomputable def DOk (n : Nat) (d : D) : Prop := ∃ p, d.toP = some p ∧ p.canLay0 = true ∧ p.depth ≤ n
noncomputable def DOks (n : Nat) (ds : List D) : Prop := ∃ ps, D.toPs ds = some ps ∧ PyData.canLayAll0 ps = true ∧ PyData.depthAll ps ≤ n
theorem DOk.int (n : Nat) (i : Int) : DOk n (.int i) := ⟨.int i, by simp only [D.toP], by simp only [PyData.canLay0], by simp only [PyData.depth]; exact Nat.zero_le _⟩
theorem DOk.bl (n : Nat) (i : Bool) : DOk n (.bl i) := ⟨.bool i, by simp only [D.toP], by simp only [PyData.canLay0], by simp only [PyData.depth]; exact Nat.zero_le _⟩
theorem DOk.str (n : Nat) {x : Str} (h : PyData.strOk x = true) : DOk n (.str x) := ⟨.str x, by simp only [D.toP], by simp only [PyData.canLay0]; exact h, by simp only [PyData.depth]; exact Nat.zero_le _⟩
theorem DOks.nil (n : Nat) : DOks n [] := ⟨[], by simp only [D.toPs], by simp only [PyData.canLayAll0], by simp only [PyData.depthAll]; exact Nat.zero_le _⟩
theorem DOks.cons {n : Nat} {d : D} {ds : List D} (h : DOk n d) (r : DOks n ds) : DOks n (d :: ds) := by
  obtain ⟨p, h1, h2, h3⟩ := h
  obtain ⟨ps, g1, g2, g3⟩ := r
  refine ⟨p :: ps, by simp only [D.toPs, h1, g1], by simp only [PyData.canLayAll0, h2, g2]; rfl, ?_⟩
  simp only [PyData.depthAll]
  exact Nat.max_le.mpr ⟨h3, g3⟩
theorem DOks.all {n : Nat} : ∀ {ds : List D}, (∀ d ∈ ds, DOk n d) → DOks n ds
  | [], _ => DOks.nil n
  | d :: ds, h => DOks.cons (h d List.mem_cons_self) (DOks.all fun x hx => h x (List.mem_cons_of_mem _ hx))
theorem DOks.lst {n : Nat} {ds : List D} (h : DOks n ds) : DOk (n + 1) (.lst ds) := by
  obtain ⟨ps, g1, g2, g3⟩ := h
  exact ⟨.list ps, by simp only [D.toP, g1]; rfl, by simp only [PyData.canLay0]; exact g2, by simp only [PyData.depth]; omega⟩
theorem DOks.tup {n : Nat} {ds : List D} (h : DOks n ds) : DOk (n + 1) (.tup ds) := by
  obtain ⟨ps, g1, g2, g3⟩ := h
  exact ⟨.tuple ps, by simp only [D.toP, g1]; rfl, by simp only [PyData.canLay0]; exact g2, by simp only [PyData.depth]; omega⟩
theorem eqD_self {n : Nat} {d : D} (h : DOk n d) (hn : n ≤ 64) : eqD d d = some true := by
  obtain ⟨p, h1, h2, h3⟩ := h
  have hs : SeqAt.shaped p = true := by
    unfold SeqAt.shaped
    rw [h2, decide_eq_true (by omega : p.depth ≤ 64)]
    rfl
  unfold eqD
  rw [h1]
  show (if SeqAt.shaped p = true ∧ SeqAt.shaped p = true then some (PyData.eqv p p) else none) = some true
  rw [if_pos ⟨hs, hs⟩, SeqAt.eqv_refl p h2]
theorem eqD_not_nil {n : Nat} {d : D} {ds : List D} (h : DOk n d) (r : DOks n ds) (hn : n < 64) : eqD (.lst (d :: ds)) (.lst []) = some false := by
  obtain ⟨p, h1, h2, h3⟩ := DOks.lst (DOks.cons h r)
  obtain ⟨q, g1, g2, g3⟩ := h
  obtain ⟨qs, k1, k2, k3⟩ := r
  have e : D.toP (.lst (d :: ds)) = some (.list (q :: qs)) := by simp only [D.toP, D.toPs, g1, k1]; rfl
  rw [e] at h1
  cases h1
  have hs : SeqAt.shaped (.list (q :: qs)) = true := by
    unfold SeqAt.shaped
    rw [h2, decide_eq_true (by omega : (PyData.list (q :: qs)).depth ≤ 64)]
    rfl
  have e0 : D.toP (.lst []) = some (.list []) := by simp only [D.toP, D.toPs]; rfl
  have hs0 : SeqAt.shaped (.list []) = true := by decide +kernel
  unfold eqD
  rw [e, e0]
  show (if SeqAt.shaped (.list (q :: qs)) = true ∧ SeqAt.shaped (.list []) = true then some (PyData.eqv (.list (q :: qs)) (.list [])) else none) = some false
  rw [if_pos ⟨hs, hs0⟩]
  simp [PyData.eqv, PyData.eqvAll]
end L2
namespace L2
open PySem PySem.Spec
theorem join0_cons (x : Str) (r : List Str) : (Txt.join "" (x :: r)).cps.toList = x.cps.toList ++ (Txt.join "" r).cps.toList := by
  rw [txt_join, txt_join]
  cases r with
  | nil =>
    have e : Str.join "" [x] = x := by rw [← txt_join]; rfl
    rw [e]
    show _ = x.cps.toList ++ []
    rw [List.append_nil]
  | cons y r =>
    show (x ++ ("" : Str) ++ Str.join "" (y :: r)).cps.toList = _
    rw [cps_append, cps_append, List.append_assoc]
    rfl
theorem join0_cps : ∀ xs : List Str, (Txt.join "" xs).cps.toList = (xs.map (·.cps.toList)).flatten
  | [] => rfl
  | x :: r => by rw [join0_cons, join0_cps r, List.map_cons, List.flatten_cons]
end L2
namespace L2
open PySem PySem.Spec PyProof.Rows
section
variable {X : Cx}
noncomputable def rStarts : V → List V → Hp → VK → Prop := fun x vs H Q => ∃ a b : Str, x = .str a ∧ vs = [.str b] ∧ Q (.bl (Txt.startswith a b)) H
theorem mt_startswith : MtR X "str.startswith" rStarts := by
  intro pins s σ H x vs v us Q I rx rv h
  obtain ⟨a, b, rfl, rfl, q⟩ := h
  obtain ⟨t, rfl⟩ := rx
  obtain ⟨u, rfl, ru⟩ := rv.one
  obtain ⟨t2, rfl⟩ := ru
  exact call_gives F.slot_str_startswith (typeIs_str _ _ _) F.entry_str_startswith (F.args_str_startswith_2 _ _) (gives_str_startswith a b t t2) ⟨.bl _, H, I, rfl, q⟩
noncomputable def gStartswith (a b : Str) : Option D := some (.bl (Txt.startswith a b))
theorem sm_startswith : SM rStarts gStartswith := fun H a b d Q e k => by
  cases e
  exact ⟨a, b, rfl, rfl, k _ (.bl _)⟩
noncomputable def partT (a b : Str) : List Str := match Builtin.Str.occurrences a b 0 a.length 1 with
  | i :: _ => [Builtin.Str.strSub a 0 i, b, Builtin.Str.strSub a (i + b.length) a.length]
  | [] => [a, Str.empty, Str.empty]
noncomputable def rPartition : V → List V → Hp → VK → Prop := fun x vs H Q => ∃ a b : Str, x = .str a ∧ vs = [.str b] ∧ (b.length == 0) = false ∧ a.length ≤ sizeLine ∧ ∀ p, H p = none → Q (.ref p) (upd H p (.tup ((partT a b).map V.str)))
theorem mt_partition : MtR X "str.partition" rPartition := by
  intro pins s σ H x vs v us Q I rx rv h
  obtain ⟨a, b, rfl, rfl, hb, ha, q⟩ := h
  obtain ⟨t, rfl⟩ := rx
  obtain ⟨u, rfl, ru⟩ := rv.one
  obtain ⟨t2, rfl⟩ := ru
  refine call_meets F.slot_str_partition (typeIs_str _ _ _) F.entry_str_partition (F.args_str_partition_2 _ _) (meets_str_partition a b t t2 hb ha) ?_
  have hn : H s.heap.objs.size = none := I.hok.fresh (Nat.le_refl _)
  unfold partT at q
  cases ho : Builtin.Str.occurrences a b 0 a.length 1 with
  | nil =>
    rw [ho] at q
    refine ⟨.ref s.heap.objs.size, _, ?_, rfl, q _ hn⟩
    refine I.laid (fun b o e => Heap.get?_push_of_some _ e) (Nat.le_refl _) ⟨by show 3 ≤ sizeLine; decide, [.str a t, .str Str.empty s.toks, .str Str.empty s.toks], .cons ⟨_, rfl⟩ (.cons ⟨_, rfl⟩ (.cons ⟨_, rfl⟩ .nil)), ?_⟩
    exact ⟨_, Heap.get?_push_size s.heap rfl, ⟨rfl, 0, rfl⟩, rfl⟩
  | cons i r =>
    rw [ho] at q
    refine ⟨.ref s.heap.objs.size, _, ?_, rfl, q _ hn⟩
    refine I.laid (fun b o e => Heap.get?_push_of_some _ e) (Nat.le_refl _) ⟨by show 3 ≤ sizeLine; decide, [.str (Builtin.Str.strSub a 0 i) s.toks, .str b t2, .str (Builtin.Str.strSub a (i + b.length) a.length) (s.toks + 1)], .cons ⟨_, rfl⟩ (.cons ⟨_, rfl⟩ (.cons ⟨_, rfl⟩ .nil)), ?_⟩
    exact ⟨_, Heap.get?_push_size s.heap rfl, ⟨rfl, 0, rfl⟩, rfl⟩
end
section
variable {K : PySem.W.Frag} {O : List Nat} {t tb : TE} {fa fb : Rho → Option (D × Rho)}
noncomputable def dPartition (x y : D) : Option D := match x, y with
  | .str a, .str b => if (b.length == 0) = false ∧ a.length ≤ sizeLine then some (.tup ((partT a b).map D.str)) else none
  | _, _ => none
theorem me_partition (ha : ME K O t fa) (hb : ME K O tb fb) : ME K O (tBM K "str" rPartition t (tCons tb tNil)) (mOp2 dPartition fa fb) := fun Z σ H R ρ d ρ' Q S e k => by
  obtain ⟨x, ρ1, e1, e⟩ := mBind_some e
  obtain ⟨y, ρ2, e2, e⟩ := mBind_some e
  obtain ⟨e3, rfl⟩ := mLift_some e
  unfold dPartition at e3
  split at e3
  · split at e3
    · rename_i hz
      cases e3
      refine ha Z σ H R ρ _ ρ1 _ S e1 fun v H1 R1 S1 st1 r1 => ?_
      (first | obtain rfl := r1.isA rfl | cases r1)
      refine ⟨rfl, hb Z σ H1 R1 ρ1 _ _ _ S1 e2 fun w H2 R2 S2 st2 r2 => ?_⟩
      (first | obtain rfl := r2.isA rfl | cases r2)
      refine ⟨_, _, rfl, rfl, hz.1, hz.2, fun p hp => ?_⟩
      exact k _ _ _ (S2.ext (Ext.new S2.sub hp)) ((st1.trans st2).trans (Ext.new S2.sub hp).stp) (.tup upd_same (Rps.strs _))
    · cases e3
  · cases e3
end
end L2
namespace L2
open PySem PySem.Spec
theorem in_one (x : Str) (c : Nat) : dInS (.str ⟨#[c]⟩) (.str x) = some (.bl (decide (c ∈ x.cps.toList))) := by
  show some (D.bl _) = _
  rw [StrLaws.found_one]
end L2
namespace L2
open PySem PySem.Spec PyProof.Rows
section
variable {X : Cx}
theorem isStr_at (k : Str) : ∀ {vs : List Value} {ys : List Str}, StrsAre vs ys → ∀ (j : Nat) (h1 : j < vs.length) (h2 : j < ys.length), isStrOf k vs[j] = (ys[j] == k)
  | _, _, .cons n t _, 0, _, _ => rfl
  | _, _, .cons n t r, j + 1, h1, h2 => isStr_at k r j (Nat.lt_of_succ_lt_succ h1) (Nat.lt_of_succ_lt_succ h2)
theorem strsAre_len : ∀ {vs : List Value} {ys : List Str}, StrsAre vs ys → vs.length = ys.length
  | _, _, .nil => rfl
  | _, _, .cons _ _ r => congrArg Nat.succ (strsAre_len r)
theorem ne_idx {k : Str} : ∀ {ns : List Str} {j : Nat}, j < ns.idxOf k → ∀ (h2 : j < ns.length), (ns[j] == k) = false
  | n :: r, 0, h, _ => by
    by_cases e : n = k
    · subst e; simp at h
    · simpa using e
  | n :: r, j + 1, h, h2 => by
    by_cases e : n = k
    · subst e; simp at h
    · have hb : (n == k) = false := by simpa using e
      have h' : j < r.idxOf k := by
        rw [List.idxOf_cons, hb] at h
        exact Nat.lt_of_succ_lt_succ h
      exact ne_idx h' (Nat.lt_of_succ_lt_succ h2)
noncomputable def rIdx (K : PySem.W.Frag) : V → List V → Hp → VK → Prop := fun x vs H Q => ∃ (p : Addr) (ws : List Str) (k : Str), x = .ref p ∧ vs = [.str k] ∧ SqL K H p (ws.map V.str) ∧ k ∈ ws ∧ Q (.int (ws.idxOf k : Nat)) H
theorem mt_idx {K : PySem.W.Frag} (hK : X.K = K) : MtR X "list.index" (rIdx K) := by
  subst hK
  intro pins s σ H x vs v us Q I rx rv h
  obtain ⟨p, ws, k, rfl, rfl, hq, hk, q⟩ := h
  (first | obtain rfl := rx.isA rfl | cases rx)
  obtain ⟨u, rfl, ru⟩ := rv.one
  obtain ⟨t, rfl⟩ := ru
  obtain ⟨its, ri, pl, hz⟩ := I.list hq
  obtain ⟨⟨cls, dd, data, sl⟩, ho, hc, n, hd⟩ := pl.isList
  simp only at hc hd
  subst hc hd
  have hi := strsAre_of ri
  have hlen := strsAre_len hi
  have hj : ws.idxOf k < ws.length := List.idxOf_lt_length_iff.mpr hk
  have hb : ws.length < 2 ^ 62 := by
    rw [List.length_map] at hz
    exact Nat.lt_of_le_of_lt hz (by rw [sizeLine_eq]; decide)
  refine call_meets PySem.F.slot_list_index ⟨_, ho, rfl⟩ PySem.F.entry_list_index (PySem.F.args_list_index_2 _ _)
    (PySem.SeqAt.list_indexAt p its.toArray n dd sl (.str k t) (isStrOf k) (ws.idxOf k) (by simpa [hlen] using hj) (by omega) ?_ ?_) ⟨ho, fun y hy => (eq_isStrOf k t hi y (by simpa using hy)).at _ _, ⟨.int _, H, I.tok _, ⟨_, rfl⟩, q⟩⟩
  · show isStrOf k its[ws.idxOf k] = true
    rw [isStr_at k hi _ (by omega) hj]
    simpa using List.getElem_idxOf hj
  · intro j hjs hlt
    show isStrOf k its[j] = false
    rw [isStr_at k hi j (by simpa using hjs) (by omega)]
    exact ne_idx hlt _
end
section
variable {K : PySem.W.Frag} {O : List Nat} {t tb : TE} {fa fb : Rho → Option (D × Rho)}
noncomputable def dIdx (x y : D) : Option D := match x, y with
  | .lst ds, .str k => match strsD ds with
    | some ws => if k ∈ ws then some (.int (ws.idxOf k : Nat)) else none
    | none => none
  | _, _ => none
theorem me_idxL (ha : ME K O t fa) (hb : ME K O tb fb) : ME K O (tBM K "list" (rIdx K) t (tCons tb tNil)) (mOp2 dIdx fa fb) := fun Z σ H R ρ d ρ' Q S e k => by
  obtain ⟨x, ρ1, e1, e⟩ := mBind_some e
  obtain ⟨y, ρ2, e2, e⟩ := mBind_some e
  obtain ⟨e3, rfl⟩ := mLift_some e
  unfold dIdx at e3
  split at e3
  · split at e3
    · rename_i z
      split at e3
      · rename_i hm
        cases e3
        refine ha Z σ H R ρ _ ρ1 _ S e1 fun v H1 R1 S1 st1 r1 => ?_
        obtain ⟨_, _, rfl, h, r⟩ := r1.isL
        refine ⟨.inl ⟨rfl, _, Same.sqL S1.same h⟩, hb Z σ H1 R1 ρ1 _ _ _ S1 e2 fun w H2 R2 S2 st2 r2 => ?_⟩
        (first | obtain rfl := r2.isA rfl | cases r2)
        have ex := strsD_rps r z
        subst ex
        exact ⟨_, _, _, rfl, rfl, Same.sqL S2.same (Same.sqL st2.r h), hm, k _ H2 R2 S2 (st1.trans st2) (.int _)⟩
      · cases e3
    · cases e3
  · cases e3
end
section
variable {X : Cx} {pins : List (Addr × Obj)} {σ : St} {CX : CXT} {k : Nat} {f : Addr} {fd : FuncData} {ps : List Str} {sp : Sp} {dvs : List V} {ds : List Value} {E : XK} {x : Str} {p pos : Pos} {e : Expr} {es : List Expr} {t : TA} {i : Nat}
noncomputable def tCallV (i : Nat) (f : Addr) (sp : Sp) (dvs : List V) (E : XK) (t : TA) : TE := fun σ H Q => σ[i]? = some (some (.ref f)) ∧ tCall sp dvs E t σ H Q
theorem at_callV (F : FnOk X.prog X.w X.K X.mg X.base CX k f fd ps sp) (hr : Room k X.A) (hv : PE X (.Name x p) (tVar i)) (hk : PySem.W.keepIn X.K (.ref f) = true) (hb : Binds X.K fd ps ds) (hd : Vals dvs ds) (hx : PassesAt CX X pins σ E)
    (ha : PA X (e :: es) t) (he : starEach (e :: es) X.env = (false, eval e X.env) :: starEach es X.env := by rfl) (hpl : (backTo pos (starEach es X.env)).any (·.1) = false := by rfl) :
    PEat X pins σ (.Call (.Name x p) (e :: es) [] pos) (tCallV i f sp dvs E t) := by
  intro s H Q I hq
  obtain ⟨hi, h⟩ := hq
  refine wpAny_Call_Name_kw (thn (hv pins s σ H (fun v H' => v = .ref f ∧ H' = H) I ⟨.ref f, hi, rfl, rfl⟩) fun u s1 ⟨v, H0, I0, r1, e1, e2⟩ => ?_)
  subst e1 e2
  (first | obtain rfl := r1.isA rfl | cases r1)
  refine PySem.W.callWith_K (h₀ := X.base) I0.ok.mod.kin hk (thn (ha pos pins s1 σ _ _ I0 h) fun us s2 ⟨vs, H1, I1, r, q⟩ => ⟨I1.kIn, ?_⟩) he hpl
  have r2 : Vals (vs ++ dvs) (us ++ ds) := r.append hd
  have hl : (us ++ ds).length = ps.length := by rw [← r2.length]; exact F.len _ _ _ _ q
  refine wpAny_call (codeAny_mono (F.run X.A X.stack s2 H1 ⟨us, []⟩ (us ++ ds) (vs ++ dvs) Q E hr I1.env0 (hb s2 us I1.kIn hl) r2 q) fun r s' hq => ?_)
  cases r with
  | error e => exact hx H1 s2 e s' I1 hq
  | ok fl =>
    cases fl with
    | ret u => exact I1.after hq
    | next => exact False.elim hq
    | brk => exact False.elim hq
    | cont => exact False.elim hq
theorem PEat.or {e : Expr} {t u : TE} (h : PEat X pins σ e t) (k : PEat X pins σ e u) : PEat X pins σ e fun σ H Q => t σ H Q ∨ u σ H Q := fun s H Q I q => by
  rcases q with q | q
  · exact h s H Q I q
  · exact k s H Q I q
end
section
variable {K : PySem.W.Frag} {O : List Nat} {tr : TA} {fs : Rho → Option (List D × Rho)} {E : XK} {n : Nat}
theorem me_fn {x : Str} {l : Addr} (h : PySem.W.nsIn K mainGlobals x = some (some (.ref l))) : ME K O (tC (.ref l)) (mRet (.fn x)) := fun Z σ H R ρ d ρ' Q S e k => by
  cases e
  exact k _ H R S (Stp.refl _ _ _ _) (.fn h)
noncomputable def fnAt (i : Nat) (nm : Str) (ρ : Rho) : Bool := match ρ[i]? with
  | some (some (.fn x)) => x == nm
  | _ => false
theorem fnAt_is {Z : Anc} {σ : St} {H R : Hp} {ρ : Rho} {i : Nat} {nm : Str} {l : Addr} (hn : PySem.W.nsIn K mainGlobals nm = some (some (.ref l))) (hi : i ∉ O) (S : StR K Z O σ H R ρ) (h : fnAt i nm ρ = true) : σ[i]? = some (some (.ref l)) := by
  unfold fnAt at h
  split at h
  · rename_i x e
    have ex : x = nm := eq_of_beq h
    subst ex
    obtain ⟨v, h1, h2⟩ := S.env i _ hi e
    cases h2 with
    | fn h3 =>
      rw [hn] at h3
      (first | obtain rfl := h3.isA rfl | cases h3)
      exact h1
  · (first | obtain rfl := h.isA rfl | cases h)
noncomputable def mCallV (i : Nat) (nm : Str) (f : List D → Option D) (fs : Rho → Option (List D × Rho)) : Rho → Option (D × Rho) := fun ρ => if fnAt i nm ρ = true then mCall f fs ρ else none
noncomputable def xCallV (i : Nat) (nm : Str) (fx : List D → Option Str) (fs : Rho → Option (List D × Rho)) : Xr := fun ρ => if fnAt i nm ρ = true then xCall fx fs xNo ρ else none
theorem me_callV {i : Nat} {nm : Str} {l : Addr} {f : List D → Option D} {fx : List D → Option Str} (hn : PySem.W.nsIn K mainGlobals nm = some (some (.ref l))) (hi : i ∉ O) (hf : runsN n f) (h : MA K O tr fs) : ME K O (tCallV i l (spPX K false n f fx) [] E tr) (mCallV i nm f fs) := fun Z σ H R ρ d ρ' Q S e k => by
  unfold mCallV at e
  split at e
  · rename_i hc
    exact ⟨fnAt_is hn hi S hc, me_callX hf h Z σ H R ρ d ρ' Q S e k⟩
  · cases e
theorem mx_callV {i : Nat} {nm : Str} {l : Addr} {f : List D → Option D} {fx : List D → Option Str} (hn : PySem.W.nsIn K mainGlobals nm = some (some (.ref l))) (hi : i ∉ O) (hf : runsX n fx) (h : MA K O tr fs) : MX K O (tCallV i l (spPX K false n f fx) [] E tr) E (xCallV i nm fx fs) := fun Z σ H R ρ C ρ' Q S e k => by
  unfold xCallV at e
  split at e
  · rename_i hc
    exact ⟨fnAt_is hn hi S hc, mx_call hf h max_no Z σ H R ρ C ρ' Q S e k⟩
  · cases e
noncomputable def mOr2 (f g : Rho → Option (D × Rho)) : Rho → Option (D × Rho) := fun ρ => match f ρ with
  | some r => some r
  | none => g ρ
theorem me_or2 {t1 t2 : TE} {fa fb : Rho → Option (D × Rho)} (h1 : ME K O t1 fa) (h2 : ME K O t2 fb) : ME K O (fun σ H Q => t1 σ H Q ∨ t2 σ H Q) (mOr2 fa fb) := fun Z σ H R ρ d ρ' Q S e k => by
  unfold mOr2 at e
  cases e1 : fa ρ with
  | some q =>
    rw [e1] at e
    cases e
    exact .inl (h1 Z σ H R ρ d ρ' Q S e1 k)
  | none =>
    rw [e1] at e
    exact .inr (h2 Z σ H R ρ d ρ' Q S e k)
noncomputable def xOr2 (f g : Xr) : Xr := fun ρ => match f ρ with
  | some r => some r
  | none => g ρ
theorem mx_or2 {t1 t2 : TE} {xa xb : Xr} (h1 : MX K O t1 E xa) (h2 : MX K O t2 E xb) : MX K O (fun σ H Q => t1 σ H Q ∨ t2 σ H Q) E (xOr2 xa xb) := fun Z σ H R ρ C ρ' Q S e k => by
  unfold xOr2 at e
  cases e1 : xa ρ with
  | some q =>
    rw [e1] at e
    cases e
    exact .inl (h1 Z σ H R ρ C ρ' Q S e1 k)
  | none =>
    rw [e1] at e
    exact .inr (h2 Z σ H R ρ C ρ' Q S e k)
end
section
variable {prog : Program} {w : World} {A : Around} {E : Value → Shared → Prop} {s : Shared}
end
section
variable {X : Cx} {a b : Expr} {ta : TA} {p pos : Pos} {elts : List Expr} {x1 : Nat} {tp : Pos}
end
section
variable {K : PySem.W.Frag} {O : List Nat} {tr : TA} {fs : Rho → Option (List D × Rho)}
end
end L2
namespace L2
open PySem PySem.Spec PySem.NumText
section
variable {K : PySem.W.Frag} {O : List Nat} {E : XK}
theorem mx_ifE {tA : TT} {ta tb : TE} {ft : Rho → Option (Bool × Rho)} {xa xb : Xr} (ht : MT K O tA ft) (h1 : MX K O ta E xa) (h2 : MX K O tb E xb) : MX K O (tIf tA ta tb) E (xIf ft xNo xa xb) := fun Z σ H R ρ C ρ' Q S e k => by
  rcases xIf_some e with e | ⟨ρ1, e1, e2⟩ | ⟨ρ1, e1, e2⟩
  · cases e
  · exact ht Z σ H R ρ true ρ1 _ S e1 fun H1 R1 S1 st1 => iteT (h1 Z σ H1 R1 ρ1 C ρ' Q S1 e2 fun H2 R2 S2 st2 => k H2 R2 S2 (st1.trans st2))
  · exact ht Z σ H R ρ false ρ1 _ S e1 fun H1 R1 S1 st1 => iteF (h2 Z σ H1 R1 ρ1 C ρ' Q S1 e2 fun H2 R2 S2 st2 => k H2 R2 S2 (st1.trans st2))
end
end L2
namespace L2
open PySem PySem.Spec PyProof.Rows
noncomputable def compX (n : Nat) (js : List Nat) (fg : D → Rho → Option Rho) (fe : Rho → Option (D × Rho)) (xe : Xr) : List D → Rho → Option Str
  | [], _ => none
  | d :: r, ρ => match fg d (capsR n js ρ) with
    | none => none
    | some ρ1 => match xe ρ1 with
      | some (C, _) => some C
      | none => match fe ρ1 with
        | none => none
        | some _ => compX n js fg fe xe r ρ
theorem cgo_raise {K : PySem.W.Frag} {Z : Anc} {O T : List Nat} {σ : St} {H R : Hp} {ρ : Rho} {n : Nat} {js : List Nat} {g : TG} {te : TE} {fg : D → Rho → Option Rho} {fe : Rho → Option (D × Rho)} {xe : Xr} {E : XK} {J : It} {ds : List D} {C : Str} {Fin : List V → Hp → Prop}
    (hb : bwOk n js O none = true) (hg : MG K (bwO none) T g fg) (he : ME K (bwO none) te fe) (hx : MX K (bwO none) te E xe) (S : StR K Z O σ H R ρ) (ok : ItOk K J R ds) (hz : ds.length ≤ sizeLine) (e : compX n js fg fe xe ds ρ = some C)
    (kx : ∀ H' R', StR K Z O σ H' R' ρ → Stp O σ H R H' R' → ExE K E C H') : cGo g tYes te (caps n js σ) Fin J H := by
  refine ⟨fun i m vs H2 => m = ds.length - i ∧ i ≤ ds.length ∧ vs.length ≤ i ∧ ∃ R2, StR K Z O σ H2 R2 ρ ∧ Stp O σ H R H2 R2 ∧ compX n js fg fe xe (ds.drop i) ρ = some C,
    ⟨ds.length, by simp, Nat.zero_le _, Nat.zero_le _, R, S, Stp.refl _ _ _ _, by rw [List.drop_zero]; exact e⟩, ?_⟩
  rintro i m vs H2 ⟨rfl, hi, hv, R2, S2, st2, e2⟩
  obtain ⟨o1, o2⟩ := ok H2 R2 st2.r S2.sub i
  by_cases hlt : i < ds.length
  · obtain ⟨g1, g2⟩ := o2 ds[i] (List.getElem?_eq_getElem hlt)
    rw [List.drop_eq_getElem_cons hlt] at e2
    refine .inr ⟨g1, by omega, fun vs' H' => ∃ R', vs'.length ≤ i + 1 ∧ StR K Z O σ H' R' ρ ∧ Stp O σ H R H' R' ∧ compX n js fg fe xe (ds.drop (i + 1)) ρ = some C, ?_, fun x H3 y => ?_⟩
    · rintro vs' H' ⟨R', q0, q1, q2, q3⟩
      exact ⟨ds.length - (i + 1), by omega, rfl, hlt, q0, R', q1, q2, q3⟩
    · obtain ⟨R3, x3, r3⟩ := g2 x H3 y
      have S3 := S2.ext x3
      have B3 := S3.block hb
      unfold compX at e2
      cases e3 : fg ds[i] (capsR n js ρ) with
      | none => rw [e3] at e2; cases e2
      | some ρb1 =>
        rw [e3] at e2
        dsimp only at e2
        refine hg _ _ _ _ _ x _ ρb1 _ B3 r3 e3 fun σ4 S4 n4 => ?_
        have cap : ∀ p, (none : Option (Nat × Nat)) = some p → σ4[p.2]? = σ[p.1]? := fun p e1 => nomatch e1
        unfold tYes
        cases e5 : xe ρb1 with
        | some q =>
          obtain ⟨C', ρb2⟩ := q
          rw [e5] at e2
          cases e2
          refine iteT (hx _ σ4 H3 R3 ρb1 C ρb2 _ S4 e5 fun H' R' S' st' => ?_)
          obtain ⟨T1, T2⟩ := S3.back hb S' st' cap
          exact kx H' R' T1 ((st2.trans x3.stp).trans T2)
        | none =>
          rw [e5] at e2
          dsimp only at e2
          cases e6 : fe ρb1 with
          | none => rw [e6] at e2; cases e2
          | some c =>
            obtain ⟨y0, ρb3⟩ := c
            rw [e6] at e2
            dsimp only at e2
            refine iteT (he _ σ4 H3 R3 ρb1 y0 ρb3 _ S4 e6 fun w H6 R6 S6 st6 r6 => ?_)
            obtain ⟨T1, T2⟩ := S3.back hb S6 st6 cap
            exact ⟨R6, by rw [List.length_append]; show vs.length + 1 ≤ i + 1; omega, T1, (st2.trans x3.stp).trans T2, e2⟩
  · have ei : i = ds.length := by omega
    subst ei
    rw [List.drop_length] at e2
    cases e2
noncomputable def xComp (n : Nat) (js : List Nat) (fi : Rho → Option (List D × Rho)) (fg : D → Rho → Option Rho) (fe : Rho → Option (D × Rho)) (xe : Xr) : Xr := fun ρ => match fi ρ with
  | some (ds, ρ1) => if ds.length ≤ sizeLine then (compX n js fg fe xe ds ρ1).map fun C => (C, ρ1) else none
  | none => none
theorem mx_comp {K : PySem.W.Frag} {O T : List Nat} {n : Nat} {js : List Nat} {wi : TI} {g : TG} {te : TE} {fi : Rho → Option (List D × Rho)} {fg : D → Rho → Option Rho} {fe : Rho → Option (D × Rho)} {xe : Xr} {E : XK}
    (hi : MI K O wi fi) (hg : MG K (bwO none) T g fg) (he : ME K (bwO none) te fe) (hx : MX K (bwO none) te E xe) (hb : bwOk n js O none = true := by decide) : MX K O (tComp n js wi g tYes te) E (xComp n js fi fg fe xe) := fun Z σ H R ρ C ρ' Q S e k => by
  unfold xComp at e
  cases e1 : fi ρ with
  | none => rw [e1] at e; cases e
  | some p =>
    obtain ⟨xs, ρ1⟩ := p
    rw [e1] at e
    dsimp only at e
    split at e
    · rename_i hz
      cases e2 : compX n js fg fe xe xs ρ1 with
      | none => rw [e2] at e; cases e
      | some C1 =>
        rw [e2] at e
        cases e
        exact hi Z σ H R ρ xs _ _ S e1 fun J H1 R1 S1 st1 ok => cgo_raise hb hg he hx S1 ok hz e2 fun H' R' S' st' => k H' R' S' (st1.trans st')
    · cases e
theorem msxa_asgC {c : MC} {O : List Nat} {k n : Nat} {js : List Nat} {wi : TI} {g : TG} {te : TE} {E : XK} {fx : Xr} (h : MX c.K O (tComp n js wi g tYes te) E fx) : MSXa c O (sComp k n js wi g tYes te) E fx :=
  show MSXa c O (tAsg (tComp n js wi g tYes te) (gName k)) E fx from msxa_asg h
theorem iadd_any (l : Addr) (xs : Array Value) (n : Nat) (b : Addr) (ys : Array Value) (m : Nat) (dct : Option Addr) (sl : Array (Option Value))
    (h0 : ¬ (!xs.isEmpty && Builtin.List.listTooLong (xs.size + ys.size)) = true) (h1 : xs.size ≤ sizeLine) (h2 : xs.size + ys.size ≤ sizeLine + 1) :
    Meets (Builtin.«list.__iadd__» ⟨[.ref l, .ref b], []⟩) (fun _ R s =>
      s.heap.get? l = some ⟨.type "list", none, .seq xs n, #[]⟩ ∧ s.heap.get? b = some ⟨.type "list", dct, .seq ys m, sl⟩ ∧
      R (.ok (.ret (.ref l))) ⟨s.heap.update l (Obj.mapSeq fun z => z ++ ys), s.gens, s.drawn, s.toks, s.os⟩) := by
  refine .of_wp fun prog w A R s h => ?_
  obtain ⟨hp, g, d, tk, os⟩ := s
  obtain ⟨hl, hb, h⟩ := h
  have c1 := AutoSeq1.idx_int
  have c2 := AutoSeq1.sub_tuple_tuple
  have c3 := AutoSeq1.sub_list_list
  have c4 := AutoSeq1.sub_tuple_list
  have c5 := AutoSeq1.sub_list_tuple
  have hz : (xs ++ ys).size ≤ sizeLine + 1 := by rw [Array.size_append]; exact h2
  wp_walk using (wpAny_updateSeq hl rfl (hz := h1) (_hz' := hz)), AutoSeq1.wpAny_loadPart' hl, AutoSeq1.wpAny_loadPart' hb
  exact ⟨_, rfl, h⟩
noncomputable def ipLK (K : PySem.W.Frag) : TIp := fun x y H Q => ∃ l b xs zs, x = .ref l ∧ y = .ref b ∧ H l = some (.lst xs) ∧ SqL K H b zs ∧ xs.length + zs.length ≤ sizeLine ∧ Q (.ref l) (upd H l (.lst (xs ++ zs)))
theorem ip_listK {X : Cx} {K : PySem.W.Frag} (hK : X.K = K) : PIp X .Add (ipLK K) := by
  subst hK
  intro pins s σ H x y v u Q I r1 r2 h
  obtain ⟨l, b, xs, zs, rfl, rfl, hH, hB, hz, q⟩ := h
  (first | obtain rfl := r1.isA rfl | cases r1)
  (first | obtain rfl := r2.isA rfl | cases r2)
  obtain ⟨z, its, n, r, hl, e⟩ := I.lstM hH
  obtain ⟨its2, r2, pl, hz2⟩ := I.list hB
  obtain ⟨⟨c2, dct, dt, sl⟩, e2, hc, n2, hd⟩ := pl.isList
  replace hc : c2 = .type "list" := hc
  replace hd : dt = .seq its2.toArray n2 := hd
  subst hc hd
  have l2 := r2.length
  have hsz : its.toArray.size + its2.toArray.size ≤ sizeLine := by rw [List.size_toArray, List.size_toArray]; omega
  have hlong : ¬ (!its.toArray.isEmpty && Builtin.List.listTooLong (its.toArray.size + its2.toArray.size)) = true := by
    rw [notLongL hsz, Bool.and_false]
    exact Bool.false_ne_true
  refine inplace_list ⟨_, e, rfl⟩ ⟨_, e2, rfl⟩ (call_meets F.slot_list_iadd ⟨_, e, rfl⟩ F.entry_list_iadd (F.args_list_iadd_2 _ _)
    (iadd_any l its.toArray n b its2.toArray n2 dct sl hlong (by rw [List.size_toArray]; omega) (by omega)) ⟨e, e2, ?_⟩)
  refine ⟨.ref l, _, I.lset (its' := its ++ its2) hH e (by simp) (r.append r2) ?_, rfl, q⟩
  rw [List.length_append]
  omega
section
variable {c : MC} {O O' : List Nat} {te : TE} {fa : Rho → Option (D × Rho)}
noncomputable def sExtK (i : Nat) (fa : Rho → Option (D × Rho)) : Rho → Option Out := fun ρ => if isL ρ i = true then (match fa ρ with
  | some (.lst ys, ρ1) => match ρ1[i]? with
    | some (some (.lst xs)) => if xs.length + ys.length ≤ sizeLine then some (.nx (ρ1.set i (some (.lst (xs ++ ys))))) else none
    | _ => none
  | _ => none) else none
theorem ms_augK {i : Nat} (hi : i ∈ O) (ha : ME c.K O te fa) (hs : subO c O O' = true) : MS c O O' (tAug i te (ipLK c.K)) (sExtK i fa) := fun Z E σ H R ρ o hP S e k => by
  unfold sExtK at e
  split at e
  case isFalse => cases e
  rename_i hL
  cases e1 : fa ρ with
  | none => rw [e1] at e; cases e
  | some p =>
    obtain ⟨d, ρ1⟩ := p
    rw [e1] at e
    cases d with
    | lst ys =>
      dsimp only at e
      obtain ⟨l, vs, ds, h1, h2, h3, h4, h5⟩ := S.own i hi
      refine ⟨.ref l, h2, ha Z σ H R ρ _ ρ1 _ S e1 fun v H1 R1 S1 st1 r1 => ?_⟩
      obtain ⟨l', vs', ds', g1, g2, g3, g4, g5⟩ := S1.own i hi
      rw [h2] at g2
      cases g2
      rw [g1] at e
      cases g5 with
      | dct _ => cases e
      | dit _ => cases e
      | lst g5 =>
      rename_i vs' ds'
      dsimp only at e
      split at e
      · rename_i hz
        cases e
        obtain ⟨_, _, rfl, q, r⟩ := r1.isL
        refine ⟨l, _, vs', _, rfl, rfl, g3, Same.sqL S1.same q, by rw [g5.length, r.length]; exact hz, ?_⟩
        obtain ⟨S2, s2⟩ := (S1.write hi h2 (.lst (g5.append r))).sub' hP hs
        have same : σ.set i (some (.ref l)) = σ := by
          have hlen : i < σ.length := (List.getElem?_eq_some_iff.mp h2).1
          refine List.ext_getElem? fun j => ?_
          by_cases hj : i = j
          · subst hj; rw [List.getElem?_set_self hlen, h2]
          · rw [List.getElem?_set_ne hj]
        show E.nx (σ.set i (some (.ref l))) _
        rw [same]
        exact k σ _ _ S2 (st1.r.trans s2)
      · cases e
    | _ => cases e
end
section
variable {M : Model} {A : Around} {E : Value → Shared → Prop} {s : Shared} {B : Heap} {env : Env} {outer l : List Env} {L e : Addr} {cls fl : Value} {Q : Unit → Shared → Prop}
theorem note_any (hfr : A.frames = some (env :: outer)) (hf : env.frame = some L) (F : FlyD B (env :: outer) e cls fl s.heap)
    (k : ∀ h' fl', FlyD B (env :: outer) e cls fl' h' → s.heap.UpToSlots h' → Q () { s with heap := h' }) : wpAny M A (noteFrame (.ref e) env) Q E s := by
  have F0 := F
  obtain ⟨oe, vs, T, oT, ts, he, hc, hdn, hd, h1, hnT, hTe, hT, hdT, h3⟩ := F.ex
  subst hc
  obtain ⟨k1, k2, k3, k4, k5⟩ := step_rec (g := (·.setIfInBounds 3 Value.none)) F.st F.fr hnT hT hdT
  unfold noteFrame
  simp only [hf]
  refine wpAny_bind (wpAny_field he hd h1 ?_)
  rw [if_pos (by simp : (Value.ref T != Value.none) = true)]
  refine wpAny_bind (wpAny_field hT hdT h3 ?_)
  by_cases q : (fl == rawInt L) = true
  · rw [if_pos q]
    exact wpAny_pure (k s.heap fl F0 fun b o e _ => ⟨o.slots, e⟩)
  · rw [if_neg q]
    refine wpAny_bind (wpAny_setField hT hdT (Array.getElem?_eq_some_iff.mp h3).1 ?_)
    exact fly_entry hfr hf k1 k2 F.new ((k5 e (Ne.symm hTe)).trans he) hd hdn (Array.getElem?_eq_some_iff.mp h1).1 fun h' F' up => k h' _ F' (k3.trans up)
theorem set_any {f : Option Addr} (F : FlyD B l e cls fl s.heap) (k : ∀ h' fl', FlyD B l e cls fl' h' → s.heap.UpToSlots h' → Q () { s with heap := h' }) : wpAny M A (setFlight (.ref e) f) Q E s := by
  obtain ⟨oe, vs, T, oT, ts, he, hc, hdn, hd, h1, hnT, hTe, hT, hdT, h3⟩ := F.ex
  obtain ⟨k1, k2, k3, k4, k5⟩ := step_rec (g := (·.setIfInBounds 3 (f.elim Value.none fun f => rawInt f))) F.st F.fr hnT hT hdT
  unfold setFlight
  refine wpAny_bind (wpAny_field he hd h1 ?_)
  rw [if_pos (by simp : (Value.ref T != Value.none) = true)]
  refine wpAny_setField hT hdT (Array.getElem?_eq_some_iff.mp h3).1 (k _ (f.elim Value.none fun f => rawInt f) ⟨k1, F.new, k2, ?_⟩ k3)
  have sz := (Array.getElem?_eq_some_iff.mp h3).1
  exact ⟨oe, vs, T, _, _, (k5 e (Ne.symm hTe)).trans he, hc, hdn, hd, h1, hnT, hTe, k4, Obj.data_mapFields hdT _, by simp [sz]⟩
theorem lv_any (hfr : A.frames = some (env :: outer)) (hf : env.frame = some L) (F : FlyD B (env :: outer) e cls fl s.heap)
    (k : ∀ h', FlyD B outer e cls .none h' → s.heap.UpToSlots h' → Q () { s with heap := h' }) : wpAny M A (leaving env (.ref e)) Q E s := by
  unfold leaving
  exact wpAny_bind (note_any hfr hf F fun h' fl' F up => fly_land (s := { s with heap := h' }) F fun h2 F2 up2 => k h2 F2.less (up.trans up2))
theorem pass_on {α : Type} {what : String} {cenv : Env} {Q : α → Shared → Prop} (F : FlyD B l e cls fl s.heap) (k : ∀ h' fl', FlyD B l e cls fl' h' → s.heap.UpToSlots h' → E (.ref e) { s with heap := h' }) : wpAny M A (PySem.passOn what (.ref e) cenv : Sem α) Q E s := by
  obtain ⟨oe, vs, T, oT, ts, he, hc, hdn, hd, h1, hnT, hTe, hT, hdT, h3⟩ := id F.ex
  unfold PySem.passOn
  refine wpAny_bind (wpAny_field he hd h1 ?_)
  rw [if_neg (by simp : ¬ ((Value.ref T == Value.none) = true))]
  exact wpAny_bind (set_any F fun h' fl' F' up => wpAny_throw (k h' fl' F' up))
theorem frs_but {B B' h h' : Heap} {C : Addr} (hB : ∀ b, B.get? b = none → B'.get? b = none) (hh : ∀ b o, b ≠ C → h.get? b = some o → h'.get? b = some o) : ∀ {l : List Env}, h.FunFrames B l → C ∉ l.filterMap (·.frame) → h'.FunFrames B' l
  | [], _, _ => trivial
  | env :: _, ⟨hk, ⟨L, o, hf, hn, ho, hd⟩, hr⟩, hc => by
    rw [List.filterMap_cons, hf] at hc
    exact ⟨hk, ⟨L, o, hf, hB _ hn, hh L o (fun z => hc (by rw [← z]; exact List.mem_cons_self)) ho, hd⟩, frs_but hB hh hr fun z => hc (List.mem_cons_of_mem _ z)⟩
theorem FlyD.butC {C : Addr} {h h' : Heap} {oC : Obj} (F : FlyD B l e cls fl h) (hC : B.get? C = some oC) (hl : C ∉ l.filterMap (·.frame)) (hs : Heap.SameBut C h h') : FlyD (PySem.W.hideAll B [C]) l e cls fl h' := by
  have hB : ∀ b, B.get? b = none → (PySem.W.hideAll B [C]).get? b = none := fun b hb => by
    cases q : (PySem.W.hideAll B [C]).get? b with
    | none => rfl
    | some o => rw [PySem.W.of_hideAll _ q] at hb; cases hb
  have ne : ∀ b, B.get? b = none → b ≠ C := fun b hb z => by rw [z, hC] at hb; cases hb
  obtain ⟨oe, vs, T, oT, ts, he, hc, hdn, hd, h1, hnT, hTe, hT, hdT, h3⟩ := F.ex
  refine ⟨fun b o q => ?_, hB e F.new, frs_but hB (fun b o n q => hs.extBut b o n q) F.fr hl, oe, vs, T, oT, ts, hs.extBut e oe (ne e F.new) he, hc, hdn, hd, h1, hB T hnT, hTe, hs.extBut T oT (ne T hnT) hT, hdT, h3⟩
  have nb : b ≠ C := fun z => by rw [z, PySem.W.hideAll_none [C] (.head _)] at q; cases q
  exact hs.extBut b o nb (F.st b o (PySem.W.of_hideAll _ q))
end
section
variable {X : Cx} {pins : List (Addr × Obj)} {σ : St} {H H' : Hp} {s : Shared}
theorem flies_outC {C : Addr} {hm : Heap} {s2 : Shared} {B : Heap} {e : Addr} {cls : Value} (I : Inv X pins σ H s) (hstk : X.stack = X.env :: X.outer) (hfr : X.env.frame = some X.env.locals) (hex : X.ex = []) (os : s2.os = s.os) (bare : AllBare s2.gens) (U : Un (frs X.stack) [] H H' s.heap hm)
    (hok : HOk X.prog X.w H' hm) (hC0 : X.s₀.heap.objs.size ≤ C) (hCH : H' C = none) (cond : ∀ b o, b ≠ C → hm.get? b = some o → b ∉ frs X.stack → (H' b ≠ none ∨ ∃ o', s.heap.get? b = some o') → B.get? b = some o)
    (fl : FlyD B X.outer e cls .none s2.heap) (up : ∀ b o, b ≠ C → hm.get? b = some o → (∀ vs, o.data ≠ .fields vs) → ∃ sl, s2.heap.get? b = some { o with slots := sl }) : Flies X.prog X.w X.outer X.H₀ X.s₀ cls e H' s2 := by
  have ne0 : ∀ b o, X.s₀.heap.get? b = some o → b ≠ C := fun b o e z => by
    rw [← z] at hC0
    exact absurd (Nat.lt_of_lt_of_le (Heap.lt_size e) hC0) (Nat.lt_irrefl _)
  have neH : ∀ b, H' b ≠ none → b ≠ C := fun b h z => h (by rw [z]; exact hCH)
  have fsub : ∀ b, b ∉ X.fs → b ≠ X.env.locals → b ∉ frs X.stack := fun b h1 h2 z => (List.mem_cons.mp (I.stkSub b z)).elim h2 h1
  have fin : ∀ b ∈ X.fs, b ∈ frs X.stack := fun b hb => by
    rw [hstk]
    show b ∈ (X.env :: X.outer).filterMap (·.frame)
    rw [List.filterMap_cons, hfr]
    exact List.mem_cons_of_mem _ hb
  have neL : ∀ b o, X.s₀.heap.get? b = some o → b ≠ X.env.locals := fun b o e z => by
    have q := I.ok.above
    rw [← z] at q
    exact absurd (Nat.lt_of_lt_of_le (Heap.lt_size e) q) (Nat.lt_irrefl _)
  have fr_data : ∀ b ∈ frs X.stack, ∀ o, hm.get? b = some o → ∀ vs, o.data ≠ .fields vs := fun b hb o eo vs q => by
    obtain ⟨_, o1, e1, d1⟩ := I.stack.mem hb
    obtain ⟨sl, e2⟩ := U.slot b o1 e1 (I.stkFree b hb) hb (by simp)
    rw [eo] at e2
    cases e2
    exact d1 vs q
  have free_fr : ∀ b ∈ frs X.stack, H' b = none := fun b hb => by
    obtain ⟨_, o1, e1, d1⟩ := I.stack.mem hb
    exact U.free b o1 e1 (I.stkFree b hb) (by simp)
  have at_b : ∀ b o o0, b ≠ C → s.heap.get? b = some o0 → hm.get? b = some o → b ∉ frs X.stack → s2.heap.get? b = some o := fun b o o0 bc e0 e1 nb => fl.st b o (cond b o bc e1 nb (.inr ⟨o0, e0⟩))
  have base := I.base
  rw [hex] at base
  have nx : ∀ b : Addr, b ∉ ([] : List Addr) := fun b => by simp
  have tracked : ∀ b u, H' b ≠ none → hm.get? b = some u → s2.heap.get? b = some u := fun b u hb e => fl.st b u (cond b u (neH b hb) e (fun z => hb (free_fr b z)) (.inl hb))
  refine ⟨os.trans I.os, bare, ⟨fun b o e n hf _ => ?_, fun b o e n hf _ => ?_, fun b o e n _ => ?_, fun b o e _ => ?_, fun b xs e => U.tups b xs (base.tups b xs e), fun b o u e => U.frzs b o u (base.frzs b o u e), fun b ps e => ?_⟩, fun a o e => ?_, B, fl, fun b o e nf h => ?_⟩
  · have e1 := base.keep b o e n hf (nx b)
    have nb := fsub b hf (neL b o e)
    exact at_b b o o (ne0 b o e) e1 (U.keep b o e1 (base.free b o e n (nx b)) nb (nx b)) nb
  · obtain ⟨sl1, e1⟩ := base.slot b o e n hf (nx b)
    obtain ⟨sl2, e2⟩ := U.slot b _ e1 (base.free b o e n (nx b)) (fin b hf) (nx b)
    obtain ⟨sl3, e3⟩ := up b _ (ne0 b o e) e2 (fr_data b (fin b hf) _ e2)
    exact ⟨sl3, e3⟩
  · obtain ⟨o1, e1⟩ := base.there b o e (nx b)
    exact U.free b o1 e1 (base.free b o e n (nx b)) (nx b)
  · obtain ⟨o1, e1⟩ := base.there b o e (nx b)
    obtain ⟨o2, e2⟩ := U.there b o1 e1 (nx b)
    by_cases hb : b ∈ frs X.stack
    · obtain ⟨sl3, e3⟩ := up b _ (ne0 b o e) e2 (fr_data b hb _ e2)
      exact ⟨_, e3⟩
    · exact ⟨_, at_b b o2 o1 (ne0 b o e) e1 e2 hb⟩
  · obtain ⟨m1, e1⟩ := base.tbls b ps e
    obtain ⟨m2, e2⟩ := U.tbls b _ e1
    exact ⟨m1 ++ m2, by rw [e2, Array.append_assoc]⟩
  · refine (hok a o e).stay (fun b u hb q => tracked b u ?_ q) (fun _ q => q) fun _ _ q => q
    rcases hb with rfl | hb
    · rw [e]; exact fun z => nomatch z
    · rw [hb]; exact fun z => nomatch z
  · rcases h with h | ⟨o0, e0⟩
    · cases q : H' b with
      | none => exact absurd q h
      | some u =>
        obtain ⟨o1, e1⟩ := (hok b u q).there
        have e2 := tracked b o1 h e1
        rw [e] at e2
        cases e2
        exact cond b o (neH b h) e1 (fun z => h (free_fr b z)) (.inl h)
    · have nb := fsub b nf (neL b o0 e0)
      obtain ⟨o1, e1⟩ := base.there b o0 e0 (nx b)
      obtain ⟨o2, e2⟩ := U.there b o1 e1 (nx b)
      have e3 := at_b b o2 o1 (ne0 b o0 e0) e1 e2 nb
      rw [e] at e3
      cases e3
      exact cond b o (ne0 b o0 e0) e2 nb (.inr ⟨o1, e1⟩)
end
noncomputable def PassN (X : Cx) (E : XK) : Prop := ∀ (pins : List (Addr × Obj)) (σ : St) (H : Hp) (s : Shared) (C : Addr) (oC : Obj) (e : Value) (s' : Shared), Inv X pins σ H s → CX1 X.prog X.w X.stack H s E e s' → s.heap.get? C = some oC → H C = none → X.s₀.heap.objs.size ≤ C → C ∉ frs X.stack →
  wpAny (model X.prog X.w) X.A (noteFrame e X.env) (fun _ s2 => s2.heap.get? C = some oC ∧ ∀ h', Heap.SameBut C s2.heap h' → ∀ (what : String) (cenv : Env), wpAny (model X.prog X.w) X.A (PySem.passOn what e cenv : Sem Value) (fun _ _ => False) X.xe { s2 with heap := h' }) (fun _ _ => False) s'
section
variable {P : Program} {w : World} {K : PySem.W.Frag} {mg : Str → Option Value} {base : Heap} {N : List Str} {qual : Str} {scope : Scope} {f : Addr} {cd : Value} {A : Around} {outer : List Env} {s₀ : Shared} {H₀ : Hp} {E : XK}
theorem passN : PassN (cxX P w K mg base N qual scope f cd A outer s₀ H₀ E) E := by
  intro pins σ H s C oC e s' I h hC hHC hC0 hCf
  obtain ⟨ea, cls, H', rfl, F, hE⟩ := h
  obtain ⟨B, fl, cond⟩ := F.fly
  have eC : s'.heap.get? C = some oC := F.un.keep C oC hC hHC hCf (by simp)
  have bC : B.get? C = some oC := cond C oC eC hCf (.inr ⟨oC, hC⟩)
  refine note_any (L := s₀.heap.objs.size) I.ok.frames rfl fl fun h1 fl1 F1 up1 => ⟨F1.st C oC bC, fun h2 hs2 what cenv => ?_⟩
  have F2 := F1.butC bC hCf hs2
  refine pass_on (s := { s' with heap := h2 }) F2 fun h3 fl3 F3 up3 => ?_
  show wpAny (model P w) _ (leaving _ (.ref ea)) _ _ _
  refine lv_any (L := s₀.heap.objs.size) (s := { s' with heap := h3 }) I.ok.frames rfl F3 fun h4 F4 up4 => ?_
  refine ⟨ea, cls, H', rfl, flies_outC (hm := s'.heap) (s2 := { s' with heap := h4 }) I rfl rfl rfl F.os F.bare F.un F.hok hC0 (F.un.free C oC hC hHC (by simp)) (fun b o nb e1 n1 c1 => PySem.W.hideAll_get _ (cond b o e1 n1 c1) (by simp [nb])) F4 (fun b o nb e1 nf => ?_), hE⟩
  obtain ⟨sl1, q1⟩ := up1 b o e1 nf
  have q2 := hs2.extBut b _ nb q1
  obtain ⟨sl3, q3⟩ := up3 b _ q2 nf
  obtain ⟨sl4, q4⟩ := up4 b _ q3 nf
  exact ⟨sl4, q4⟩
end
noncomputable def cxY (X : Cx) (E : XK) (N : List Str) (scope : Scope) (s : Shared) (H : Hp) (C : Addr) (cl : List (Str × Addr)) (fp : List Addr) : Cx :=
  (cxB X N scope s H C cl fp).wish fun e s' => ∃ p σ8 H8 s8, Inv (cxB X N scope s H C cl fp) p σ8 H8 s8 ∧ CX1 X.prog X.w X.stack H8 s8 E e s'
theorem passB {X : Cx} {E : XK} {N : List Str} {scope : Scope} {s : Shared} {H : Hp} {C : Addr} {cl : List (Str × Addr)} {fp : List Addr} : Passes (CX1 X.prog X.w) (cxY X E N scope s H C cl fp) E :=
  fun pins σ H8 s8 _ _ I h => ⟨pins, σ, H8, s8, I.unwish, h⟩
theorem comp_loopX {XE : Value → Shared → Prop} {prog : Program} {w : World} {A : Around} {R : Result → Shared → Prop} {s : Shared} {elt target iter : Expr} {ifs : List Expr} {scope : Scope} {pos : Pos} {it acc : Value} {env : Env} (hx : ∀ e s, XE e s → notedBy (model prog w) A env (fun e s' => R (.error e) s') e s) (I : Nat → Shared → Prop)
    (turn : ∀ n s, I n s → wpAny (model prog w) A (pyNext it) (fun r s₁ => (r = none ∧ R (.ok .next) s₁) ∨ ∃ v, r = some v ∧ wpAny (model prog w) A (letOwnedTupleGo target it v) (fun _ s₀ =>
      wpAny (model prog w) A (assign target env v) (fun _ s₂ =>
        wpAny (model prog w) A (forIn ifs true fun c r => if r = true then do let ok ← isTrue c env (eval c env); pure (ForInStep.yield ok) else pure (ForInStep.yield r)) (fun ok s₃ =>
          if ok = true then wpAny (model prog w) A (eval elt env) (fun x s₄ => wpAny (model prog w) A (call (.builtin "list.append") [acc, x]) (fun _ s₅ => ∃ m, m < n ∧ I m s₅) (fun _ _ => False) s₄) XE s₃
          else ∃ m, m < n ∧ I m s₃) XE s₂) XE s₀) (fun _ _ => False) s₁) (fun _ _ => False) s)
    (n : Nat) (h : I n s) : codeAny (model prog w) A (.compLoop (.ListComp elt [⟨target, iter, ifs, 0⟩] scope pos) 0 it acc env) R s := by
  have no : ∀ {E : Value → Shared → Prop} (x : Value) (z : Shared), False → E x z := fun _ _ f => f.elim
  refine codeAny_loop rfl I (fun n s hI => ?_) n h
  show wpAny _ A ((compTurn (.ListComp elt [⟨target, iter, ifs, 0⟩] scope pos) 0 it acc env).onRaise (fun x => do noteFrame x env; theTreesLotGoes x)) _ _ s
  refine wpAny_noted ?_
  rw [compTurn_list]
  refine wpAny_bind (wpAny_standAt (wpAny_bind (wpAny_mono (turn n s hI) (fun r s₁ h₁ => ?_) no)))
  rcases h₁ with ⟨e, h₁⟩ | ⟨v, e, h₁⟩
  · subst e
    exact wpAny_pure h₁
  · subst e
    refine wpAny_bind (wpAny_mono h₁ (fun _ s₀ h₀ => wpAny_bind (wpAny_mono h₀ (fun _ s₂ h₂ => wpAny_bind (wpAny_mono h₂ (fun ok s₃ h₃ => ?_) hx)) hx)) no)
    cases ok with
    | false => exact wpAny_pure ⟨rfl, h₃⟩
    | true =>
      have q : wpAny (model prog w) A (eval elt env) _ _ s₃ := h₃
      exact wpAny_bind (wpAny_bind (wpAny_mono q (fun x s₄ h₄ => wpAny_bind (wpAny_mono h₄ (fun _ s₅ h₅ => wpAny_pure (wpAny_pure ⟨rfl, h₅⟩)) no)) hx))
section
variable {X : Cx} {tg elt iter : Expr} {ifs : List Expr} {scope : Scope} {pos : Pos} {N N0 : List Str} {n : Nat} {js : List Nat} {sc : Scope} {wi : TI} {g : TG} {tt : TT} {te : TE}
theorem comp_blockX {EX : XK} {pins : List (Addr × Obj)} {σ : St} {H : Hp} {s : Shared} {it : Addr} {fp : List Addr} {tn : Nat → Heap → Prop} {J : It} {cl : List (Str × Addr)} {Fin : List V → Hp → Prop} {RR : Value → Addr → Result → Shared → Prop} {E : Value → Shared → Prop}
    (hNx : PassN X EX) (hc : X.calm = true) (hsc : X.env.scope = sc) (hN0 : X.N = N0) (ok : compOk sc N0 N n js scope = true)
    (hg : ∀ s H C cl fp, PG (cxY X EX N scope s H C cl fp) tg g) (hgo : Own n g) (ht : ∀ s H C cl fp, PIf (cxY X EX N scope s H C cl fp) ifs tt) (he : ∀ s H C cl fp, PE (cxY X EX N scope s H C cl fp) elt te)
    (I : Inv X pins σ H s) (T : Turn X.prog X.w X.K tg J fp it tn) (st : tn 0 s.heap) (fo : ∀ b ∈ fp, FpOk X pins H b)
    (hcl : ∀ x c, cl.lookup x = some c → X.env.cells.lookup x = some c) (hcl2 : ∀ y ∈ scope.names, y.2 = .free → ∃ c, cl.lookup y.1 = some c)
    (G : cGo g tt te (caps n js σ) Fin J H)
    (k : ∀ (D C : Addr) (oC : Obj) (m : Str → Option Value) (ys : List V) (H' : Hp) (s' : Shared), Inv X (pins ++ [(C, oC)]) σ (upd H' D (.lst ys)) s' → H' D = none → s'.heap.Ns C m → X.s₀.heap.objs.size ≤ C → C ≠ X.env.locals → (∀ x c, X.env.cells.lookup x = some c → c ≠ C) →
      (∀ p ∈ X.pn ++ pins, p.1 ≠ C) → upd H' D (.lst ys) C = none → Fin ys H' → RR (.ref D) C (.ok .next) s')
    (kx : ∀ (D C : Addr) (m : Str → Option Value) (e : Value) (s2 : Shared), s2.heap.Ns C m → (∀ h', Heap.SameBut C s2.heap h' → ∀ (what : String) (cenv : Env), wpAny (model X.prog X.w) X.A (PySem.passOn what e cenv : Sem Value) (fun _ _ => False) X.xe { s2 with heap := h' }) → RR (.ref D) C (.error e) s2) :
    wpAny (model X.prog X.w) X.A (newList []) (fun acc s₃ => wpAny (model X.prog X.w) X.A (newFunctionEnv scope X.env.globals cl [] X.env.qual none .none (some X.env)) (fun cenv s₄ =>
      codeAny (model X.prog X.w) X.A (.compStart (.ListComp elt [⟨tg, iter, ifs, 0⟩] scope pos) 0 (.ref it) acc { cenv with scope := relabel scope X.env }) (RR acc cenv.locals) s₄) E s₃) E s := by
  simp only [compOk, Bool.and_eq_true, decide_eq_true_eq, List.all_eq_true, Bool.or_eq_true] at ok
  obtain ⟨⟨⟨⟨⟨⟨⟨kind, cell⟩, free⟩, nms⟩, cap⟩, lc⟩, lf⟩, len⟩ := ok
  subst hN0 hsc
  refine wpAny_newObj_type (wpAny_newFunctionEnv cell (by intro y hy; simp at hy) (fun h1 ns1 sb1 => ?_) kind)
  dsimp only at ns1 sb1 ⊢
  generalize eG : s.heap.push { cls := .type "list", dict := none, data := .seq ([] : List Value).toArray } = G2 at ns1 sb1 ⊢
  have eC : G2.objs.size = s.heap.objs.size + 1 := by rw [← eG, Heap.size_push]
  generalize eCC : G2.objs.size = C at ns1 sb1 eC ⊢
  generalize eD : s.heap.objs.size = D at eC ⊢
  have ltD : ∀ b o, s.heap.get? b = some o → b < D := fun b o e => eD ▸ Heap.lt_size e
  have DC : D ≠ C := by rw [eC]; exact Nat.ne_of_lt (Nat.lt_succ_self _)
  have bC : ∀ b : Nat, b < D → b ≠ C := fun b hb z => by rw [z, eC] at hb; exact absurd hb (Nat.not_lt.mpr (Nat.le_succ _))
  have old : ∀ b o, s.heap.get? b = some o → h1.get? b = some o := fun b o e => by
    have hb := ltD b o e
    refine sb1.extBut b o (bC b hb) (Heap.get?_push_of_some _ ?_)
    rw [← eG]
    exact Heap.get?_push_of_some _ e
  have accD : h1.get? D = some { cls := .type "list", data := .seq ([] : List Value).toArray 0 } := by
    refine sb1.extBut _ _ DC (Heap.get?_push_of_some _ ?_)
    rw [← eG, ← eD]
    exact Heap.get?_push_size _ rfl
  have freeD : H D = none := I.hok.fresh (by rw [eD]; exact Nat.le_refl _)
  have freeC : H C = none := I.hok.fresh (by rw [eD, eC]; exact Nat.le_succ _)
  have fpD : ∀ b ∈ fp, b < D := fun b hb => let ⟨o, e, _⟩ := T.obj 0 _ st b hb; ltD b o e
  have cellD : ∀ x c, X.env.cells.lookup x = some c → c < D := fun x c e => let ⟨v, o, ho, _⟩ := I.cell x c e; ltD c o ho
  have pinD : ∀ p ∈ X.pn ++ pins, p.1 < D := fun p hp => ltD _ _ (I.pin p hp).1
  have stkD : ∀ b ∈ frs X.stack, b < D := fun b hb => by
    rcases List.mem_cons.mp (I.stkSub b hb) with e | z
    · subst e; rw [← eD]; exact I.lt
    · obtain ⟨_, o, ho, _⟩ := I.ok.funs.mem z
      rw [← eD]
      exact Nat.lt_of_lt_of_le (Heap.lt_size ho) I.sz
  have fpS : ∀ b ∈ fp, b ∉ frs X.stack := fun b hb z => by
    obtain ⟨_, f1, f2, _⟩ := fo b hb
    rcases List.mem_cons.mp (I.stkSub b z) with e | q
    · exact f1 e
    · exact f2 q
  have kindB : (compEnvC scope cl C X.env).scope.kind = .function := kind
  have okB : (cxB X N scope s H C cl fp).Ok := {
    mod := I.ok.mod
    kind := kind
    glob := I.ok.glob
    blt := I.ok.blt
    above := by show s.heap.objs.size ≤ C; rw [eD, eC]; exact Nat.le_succ _
    inj := fun x y c e1 e2 => I.ok.inj x y c (hcl x c e1) (hcl y c e2)
    has := fun x hx => by
      obtain ⟨y, hy, e, f⟩ := relabel_free (env := X.env) (names := scope.names) (x := x) hx cell
      subst e
      exact hcl2 y hy f
    cab := fun x c z => by cases z
    hd := I.ok.hd
    frames := I.ok.frames
    stk := .inl rfl
    exf := fun b hb => ⟨bC b (fpD b hb), fun x c e => (fo b hb).2.2.2.2.1 x c (hcl x c e)⟩
    bs := fun b o e => I.bs b o e
    bsz := Nat.le_trans I.ok.bsz I.sz
    noex := fun b o e hb => by
      rcases (fo b hb).2.2.2.1 with z | z
      · exact I.ok.noex b o e z
      · exact absurd (Nat.lt_of_lt_of_le (Heap.lt_size e) (Nat.le_trans I.ok.bsz z)) (Nat.lt_irrefl _)
    exfs := fpS
    funs := I.stack
    frf := I.stkFree }
  have upH : ∀ b o, s.heap.get? b = some o → h1.get? b = some o := old
  have IB : Inv (cxB X N scope s H C cl fp) [(D, { cls := .type "list", data := .seq ([] : List Value).toArray 0 })] (caps n js σ) H { s with heap := h1, toks := s.toks + ([] : List (Str × Value)).length } := by
    refine ⟨okB, rfl, I.bare, Un.kept old, ⟨_, ns1, fun i x v e1 e2 e3 => ?_⟩, fun x c e => ?_, freeC, fun x c e => I.freeC x c (hcl x c e), fun p hp => ?_, I.hok.kept old, ?_⟩
    · have hi : n ≤ i := by
        by_cases hlt : i < n
        · rw [caps_own hlt] at e2; cases e2
        · omega
      obtain ⟨j, ej, ev⟩ := caps_cap hi e2
      have hxN : (N.drop n)[i - n]? = some x := by
        rw [List.getElem?_drop, show n + (i - n) = i by omega]
        exact e1
      have hxm : x ∈ N.drop n := List.mem_of_getElem? hxN
      have eN : X.N[j]? = some x := by
        have q : (js.map fun j => X.N[j]?)[i - n]? = some (X.N[j]?) := by rw [List.getElem?_map, ej]; rfl
        rw [cap, List.getElem?_map, hxN] at q
        exact (Option.some.inj q).symm
      obtain ⟨m0, _, hl⟩ := I.loc
      have kx := lc x hxm
      have vis : Vis X.env.scope x := by
        rcases kx with z | z
        · exact .inr (.inl z)
        · exact .inr (.inr z)
      obtain ⟨u, r, lk⟩ := hl j x v eN ev vis
      refine ⟨u, r, ?_⟩
      rcases lk with ⟨q, _⟩ | ⟨_, c, ec, o, ho, hd⟩
      · exfalso
        have q' : X.env.scope.names.lookup x = some .local := q
        rcases kx with z | z
        · rw [z] at q'; cases q'
        · rw [z] at q'; cases q'
      · have fx : scope.names.lookup x = some .free := lf x hxm
        obtain ⟨c', ec'⟩ : ∃ c', cl.lookup x = some c' := by
          have hm : (x, NameKind.free) ∈ scope.names := mem_of_lookup fx
          exact hcl2 _ hm rfl
        have ecc : c' = c := by
          have z := hcl x c' ec'
          rw [ec] at z
          exact (Option.some.inj z).symm
        subst ecc
        refine .inr ⟨?_, c', ec', o, old _ _ ho, hd⟩
        rcases e3 with z | z | z
        · exfalso
          have z' : (relabel scope X.env).names.lookup x = some .local := z
          exact relabel_notlocal _ fx z'
        · exact .inl z
        · exact .inr z
    · obtain ⟨v, o, ho, hd⟩ := I.cell x c (hcl x c e)
      exact ⟨v, o, old _ _ ho, hd⟩
    · have e : p = (D, { cls := .type "list", data := .seq ([] : List Value).toArray 0 }) := by simpa [cxB] using hp
      subst e
      exact ⟨accD, freeD, DC, fun z => absurd (stkD D z) (Nat.lt_irrefl _), fun v => by intro z; cases z⟩
    · show (caps n js σ).length = N.length
      rw [caps_len]
      exact len
  -- what stays true of the iterator's records
  have stat : ∀ {H' : Hp} {oD : Obj}, (∀ b ∈ fp, H' b = none) → ∀ b ∈ fp, FpOk (cxB X N scope s H C cl fp) [(D, oD)] H' b := fun {H' oD} hn b hb =>
    ⟨hn b hb, bC b (fpD b hb), fpS b hb, .inl hb, fun x c e => (fo b hb).2.2.2.2.1 x c (hcl x c e), fun p hp => by
      have e : p = (D, oD) := by simpa [cxB] using hp
      subst e
      exact Nat.ne_of_gt (fpD b hb)⟩
  obtain ⟨W, ⟨m0, w0⟩, turn⟩ := G
  have loop : codeAny (model X.prog X.w) X.A (.compLoop (.ListComp elt [⟨tg, iter, ifs, 0⟩] scope pos) 0 (.ref it) (.ref D) (compEnvC scope cl C X.env)) (RR (.ref D) C) { s with heap := h1, toks := s.toks + ([] : List (Str × Value)).length } := by
    refine comp_loopX (XE := (cxY X EX N scope s H C cl fp).xe) ?err (fun m s' => ∃ (i : Nat) (ys : List V) (its : List Value) (kk : Nat) (σ' : St) (H' : Hp), Inv (cxB X N scope s H C cl fp) [(D, { cls := .type "list", data := .seq its.toArray kk })] σ' H' s' ∧ Vals ys its ∧ (σ'.length = (caps n js σ).length ∧ ∀ i, n ≤ i → σ'[i]? = (caps n js σ)[i]?) ∧
      tn i s'.heap ∧ (∀ b ∈ fp, H' b = none) ∧ W i m ys H') ?turn m0 ⟨0, [], [], 0, _, H, IB, .nil, ⟨rfl, fun _ _ => rfl⟩, T.keep _ _ _ st fun b hb o e => old b o e, fun b hb => (fo b hb).1, w0⟩
    case err =>
      rintro e s9 ⟨p8, σ8, H8, s8, I8, h9⟩
      have J8 : Inv X pins σ H8 s8 := I.call' (s' := s8) I8.os (ch := fp) I8.base I8.hok I8.bare fun b hb => by
        obtain ⟨_, f1, f2, f3, f4, f5⟩ := fo b hb
        exact ⟨f3, f1, f4, f5⟩
      obtain ⟨mC, nsC, _⟩ := I8.loc
      obtain ⟨oC, es, ep, hoC, rC⟩ := nsC
      have cS : X.s₀.heap.objs.size ≤ C := Nat.le_trans I.sz (by rw [eD, eC]; exact Nat.le_succ _)
      have cF : C ∉ frs X.stack := fun z => absurd (stkD C z) (by rw [eC]; exact Nat.not_lt.mpr (Nat.le_succ _))
      show wpAny _ X.A (noteFrame e X.env) _ _ s9
      exact wpAny_mono (hNx pins σ H8 s8 C oC e s9 J8 h9 hoC I8.free cS cF) (fun _ s10 q => kx D C mC e s10 ⟨oC, es, ep, q.1, rC⟩ q.2) fun _ _ z => z.elim
    case turn =>
    rintro m s3 ⟨i, ys, its, kk, σ3, H3, I3, r3, ⟨l3, a3⟩, st3, fr3, w3⟩
    have I3' : Inv (cxB X N scope s H C cl fp) [(D, { cls := .type "list", data := .seq its.toArray kk })] (caps n js σ) H3 s3 := I3.weak l3.symm fun j v e => by
      by_cases hj : j < n
      · rw [caps_own hj] at e; cases e
      · rw [a3 j (by omega)]; exact e
    rcases turn i m ys H3 w3 with ⟨stop, hz, fin⟩ | ⟨go, hz, Nn, hNn, step⟩
    · refine wpAny_mono (T.done (cxB X N scope s H C cl fp) rfl rfl rfl hc i _ s3 _ H3 (fun _ _ => False) I3' (stat fr3) st3 stop) (fun r s4 h4 => ?_) fun _ _ z => z
      obtain ⟨hr, I4⟩ := h4
      refine .inl ⟨hr, ?_⟩
      have pD := I4.pin (D, { cls := .type "list", data := .seq its.toArray kk }) (by simp [cxB])
      obtain ⟨mC, nsC, _⟩ := I4.loc
      obtain ⟨oC, es, ep, hoC, dC, rC⟩ := id nsC
      have J4 : Inv X pins σ H3 s4 := I.call' (s' := s4) I4.os (ch := fp) I4.base I4.hok I4.bare fun b hb => by
        obtain ⟨_, f1, f2, f3, f4, f5⟩ := fo b hb
        exact ⟨f3, f1, f4, f5⟩
      have fC : H3 C = none := I4.free
      have ltL : X.env.locals < D := eD ▸ I.lt
      have cL : C ≠ X.env.locals := (bC _ ltL).symm
      have cC : ∀ x c, X.env.cells.lookup x = some c → c ≠ C := fun x c e => bC c (cellD x c e)
      have cP : ∀ p ∈ X.pn ++ pins, p.1 ≠ C := fun p hp => bC p.1 (pinD p hp)
      have cS : X.s₀.heap.objs.size ≤ C := Nat.le_trans I.sz (by rw [eD, eC]; exact Nat.le_succ _)
      have dS : X.s₀.heap.objs.size ≤ D := by have := I.sz; rw [eD] at this; exact this
      have cF : C ∉ X.fs := fun z => by
        obtain ⟨_, o, ho, _⟩ := I.ok.funs.mem z
        exact Nat.lt_irrefl _ (Nat.lt_of_lt_of_le (Heap.lt_size ho) cS)
      have J5 : Inv X (pins ++ [(C, oC)]) σ H3 s4 := J4.pins_of fun p hp => (List.mem_append.mp hp).elim (fun z => J4.pin p (List.mem_append_right _ z)) fun z => by
        have e : p = (C, oC) := by simpa using z
        subst e
        exact ⟨hoC, fC, cL, cF, fun v z => by have z' : oC.data = .cell v := z; rw [dC] at z'; cases z'⟩
      refine k D C oC mC ys H3 s4 (J5.track pD.2.1 dS (Nat.ne_of_gt ltL) (fun x c e => Nat.ne_of_lt (cellD x c e)) (fun p hp => ?_) ?_) pD.2.1 nsC cS cL cC cP ?_ fin
      · rcases List.mem_append.mp hp with z | z
        · exact Nat.ne_of_lt (pinD p (List.mem_append_left _ z))
        · rcases List.mem_append.mp z with z | z
          · exact Nat.ne_of_lt (pinD p (List.mem_append_right _ z))
          · have e : p = (C, oC) := by simpa using z
            subst e
            exact Ne.symm DC
      · exact ⟨hz, its, kk, r3, pD.1⟩
      · rw [upd_ne (Ne.symm DC)]
        exact fC
    · refine wpAny_mono (T.item (cxB X N scope s H C cl fp) rfl rfl rfl hc i _ s3 _ H3 (fun _ _ => False) I3' (stat fr3) st3 go) (fun r s4 h4 => ?_) fun _ _ z => z
      obtain ⟨u, hr, h4⟩ := h4
      refine .inr ⟨u, hr, ?_⟩
      refine thn h4 fun _ s5 h5 => ?_
      obtain ⟨x, H5, I5, r5, y5, st5, fr5⟩ := h5
      have I5' := I5.pinned (stat fr5) (T.obj _ _ st5)
      refine thn (hg s H C cl fp _ s5 _ H5 x u _ (I5'.wish _) r5 (hgo _ _ _ _ (step x H5 y5))) fun _ s6 h6 => ?_
      obtain ⟨σ6, H6, I6, q6, l6, a6⟩ := h6
      refine thn (ht s H C cl fp _ s6 σ6 H6 _ I6 q6) fun ok s7 h7 => ?_
      obtain ⟨H7, I7y, q7⟩ := h7
      have I7 := I7y.unwish
      have stays : ∀ {H8 : Hp} {s8 : Shared}, Inv (cxB X N scope s H C cl fp) ([(D, { cls := .type "list", data := .seq its.toArray kk })] ++ pinsAt fp s5.heap) σ6 H8 s8 → (∀ b ∈ fp, ∀ o, s5.heap.get? b = some o → s8.heap.get? b = some o) ∧ ∀ b ∈ fp, H8 b = none := fun {H8 s8} I8 =>
        ⟨fun b hb o e => (I8.pin (b, o) (List.mem_append_right _ (List.mem_append_right _ (mem_pinsAt hb e)))).1, fun b hb => by
          obtain ⟨o, e, d⟩ := T.obj _ _ st5 b hb
          exact (I8.pin (b, o) (List.mem_append_right _ (List.mem_append_right _ (mem_pinsAt hb e)))).2.1⟩
      cases ok with
      | false =>
        obtain ⟨m', hm, w7⟩ := hNn ys H7 (show Nn ys H7 from q7)
        obtain ⟨z1, z2⟩ := stays I7
        exact ⟨m', hm, i + 1, ys, its, kk, σ6, H7, I7.unpinned, r3, ⟨l6, a6⟩, T.keep _ _ _ st5 z1, z2, w7⟩
      | true =>
        show wpAny _ _ (eval elt _) _ _ s7
        refine thn (he s H C cl fp _ s7 σ6 H7 _ I7y q7) fun y s8 h8 => ?_
        obtain ⟨vy, H8, I8y, ry, n8⟩ := h8
        have I8 := I8y.unwish
        obtain ⟨m', hm, w8⟩ := hNn _ _ n8
        obtain ⟨z1, z2⟩ := stays I8
        have pD := I8.pin (D, { cls := .type "list", data := .seq its.toArray kk }) (by simp [cxB])
        have lenits : its.length < sizeLine := by rw [← r3.length]; exact hz
        refine append_at pD.1 (fun h9 hs9 hD9 => ?_) (by simpa using Nat.le_of_lt lenits)
        have keep9 : ∀ b o, b ≠ D → s8.heap.get? b = some o → h9.get? b = some o := fun b o hb e => hs9.extBut b o hb e
        have I9 : Inv (cxB X N scope s H C cl fp) [] σ6 H8 { s8 with heap := h9 } := (I8.pins_of (pins' := []) fun p hp => nomatch hp).turned (it := D) keep9 pD.2.1 DC (.inr (by show s.heap.objs.size ≤ D; rw [eD]; exact Nat.le_refl _))
          (fun x c e => Nat.ne_of_lt (cellD x c (hcl x c e))) fun p hp => by simp [cxB] at hp
        refine ⟨m', hm, i + 1, ys ++ [vy], its ++ [y], kk + 1, σ6, H8, I9.pins_of fun p hp => ?_, r3.append (.cons ry .nil), ⟨l6, a6⟩, T.keep _ _ _ st5 fun b hb o e => keep9 b o (Nat.ne_of_lt (fpD b hb)) (z1 b hb o e), z2, w8⟩
        have e : p = (D, { cls := .type "list", data := .seq (its ++ [y]).toArray (kk + 1) }) := by simpa using hp
        subst e
        refine ⟨?_, pD.2.1, DC, fun z => absurd (stkD D z) (Nat.lt_irrefl _), fun v z => by cases z⟩
        show h9.get? D = _
        rw [hD9, List.push_toArray]
  exact codeAny_compStart_list loop (T.self _ 0 _ _ _ (T.keep _ _ _ st fun b hb o e => old b o e) loop)
end
section
variable {X : Cx} {tg elt iter : Expr} {ifs : List Expr} {scope : Scope} {pos : Pos} {N N0 : List Str} {n : Nat} {js : List Nat} {sc : Scope} {wi : TI} {g : TG} {tt : TT} {te : TE}
theorem pe_compX {EX : XK} (hNx : PassN X EX) (hc : X.calm = true) (hsc : X.env.scope = sc) (hN0 : X.N = N0) (ok : compOk sc N0 N n js scope = true) (hi : PI X tg iter wi)
    (hg : ∀ s H C cl fp, PG (cxY X EX N scope s H C cl fp) tg g) (hgo : Own n g) (ht : ∀ s H C cl fp, PIf (cxY X EX N scope s H C cl fp) ifs tt) (he : ∀ s H C cl fp, PE (cxY X EX N scope s H C cl fp) elt te)
    (hs : ∀ x, foldedSetIterable iter X.env x = pure x := by intro _; rfl) : PE X (.ListComp elt [⟨tg, iter, ifs, 0⟩] scope pos) (tComp n js wi g tt te) := by
  intro pins s σ H Q I h
  obtain ⟨cl, hclos, c1, c2⟩ := closure_some (comp_has I hsc ok)
  obtain ⟨kd, nm⟩ := comp_names ok
  rw [eval_ListComp]
  refine wpAny_comprehension_free (use := none) rfl hs hclos kd nm ?_
  refine thn (hi pins s σ H _ I h) fun v s1 h1 => thn h1 fun itv s2 h2 => ?_
  obtain ⟨it, fp, tn, J, H2, e, I2, T, st2, f2, G⟩ := h2
  subst e
  refine comp_blockX (RR := fun acc C => compPost (model X.prog X.w) X.A X.xe none (EP X pins σ Q) acc C) hNx hc hsc hN0 ok hg hgo ht he I2 T st2 f2 c1 c2 G ?_ (fun D C m e s2 ns q => ⟨m, ns, fun h' hs cenv _ => q h' hs _ cenv⟩)
  intro D C oC m ys H' s' I' hD ns k1 k2 k3 k4 k5 fin
  exact ⟨m, ns, fun h' hs' => ⟨.ref D, _, I'.butC hs' k1 k2 k3 k4 k5, rfl, fin D hD⟩⟩
theorem ps_compX {EX : XK} {k : Nat} {y : Str} {py spos : Pos} (hNx : PassN X EX) (hc : X.calm = true) (hsc : X.env.scope = sc) (hN0 : X.N = N0) (ok : compOk sc N0 N n js scope = true) (hN : X.N.Nodup) (hk : X.N[k]? = some y) (hy : Loc X.env.scope y)
    (hi : PI X tg iter wi) (hg : ∀ s H C cl fp, PG (cxY X EX N scope s H C cl fp) tg g) (hgo : Own n g) (ht : ∀ s H C cl fp, PIf (cxY X EX N scope s H C cl fp) ifs tt) (he : ∀ s H C cl fp, PE (cxY X EX N scope s H C cl fp) elt te)
    (hsw : swapsWith (.ListComp elt [⟨tg, iter, ifs, 0⟩] scope pos) (some (.Name y py)) spos.line X.env = pure true := by rfl) (hs : ∀ x, foldedSetIterable iter X.env x = pure x := by intro _; rfl)
    (hf : X.fn y = true ∨ X.env.scope.names.lookup y = some .local := by first | exact .inl rfl | exact .inr rfl) : PS X (.Assign [.Name y py] (.ListComp elt [⟨tg, iter, ifs, 0⟩] scope pos) spos) (sComp k n js wi g tt te) := by
  intro pins s σ H D0 I h
  obtain ⟨cl, hclos, c1, c2⟩ := closure_some (comp_has I hsc ok)
  obtain ⟨kd, nm⟩ := comp_names ok
  rw [exec_Assign_Name_used _ _ _ _ hsw]
  refine wpAny_bind (wpAny_standAt (wpAny_bind ?_))
  show wpAny _ X.A (comprehension (.ListComp elt [⟨tg, iter, ifs, 0⟩] scope pos) scope X.env _ (newList []) false (eval iter X.env) (some (assign (.Name y py) X.env)) >>= fun _ => pure ()) _ _ s
  refine wpAny_bind (wpAny_mono (wpAny_comprehension_free (use := some (assign (.Name y py) X.env)) (Q := fun _ s' => SP X pins D0 .next s') rfl hs hclos kd nm ?_) (fun _ s' q => wpAny_pure (wpAny_pure q)) fun _ _ z => z)
  refine thn (hi pins s σ H _ I h) fun v s1 h1 => thn h1 fun itv s2 h2 => ?_
  obtain ⟨it, fp, tn, J, H2, e, I2, T, st2, f2, G⟩ := h2
  subst e
  refine comp_blockX (RR := fun acc C => compPost (model X.prog X.w) X.A X.xe (some (assign (.Name y py) X.env)) (fun _ s' => SP X pins D0 .next s') acc C) hNx hc hsc hN0 ok hg hgo ht he I2 T st2 f2 c1 c2 G ?_ (fun D C m e s2 ns q => ⟨m, ns, fun h' hs cenv _ => q h' hs _ cenv⟩)
  intro D C oC m ys H' s' I' hD ns k1 k2 k3 k4 k5 fin
  show wpAny _ X.A (assign (.Name y py) X.env (.ref D)) _ _ s'
  refine wpAny_assign_Name (store_ok I' hN hk hy (v := .ref D) rfl (fun s'' I'' => ?_) hf)
  have pc := I''.pin (C, oC) (List.mem_append_right _ (List.mem_append_right _ List.mem_cons_self))
  obtain ⟨o, es, ep, ho, r⟩ := ns
  have pc' := I'.pin (C, oC) (List.mem_append_right _ (List.mem_append_right _ List.mem_cons_self))
  have eo : o = oC := by
    have z := pc'.1
    rw [ho] at z
    exact Option.some.inj z
  subst eo
  exact ⟨m, ⟨o, es, ep, pc.1, r⟩, fun h' hs' => ⟨_, _, I''.butC hs' k1 k2 k3 k4 k5, fin D hD⟩⟩
end
theorem passN0 {X : Cx} : PassN X E0 := fun _ _ _ _ _ _ _ _ _ h => by
  obtain ⟨_, _, _, _, _, hE⟩ := h
  exact hE.elim
theorem len1 {α : Type} {Pr : List α → Prop} (h : ∀ a, Pr [a]) (us : List α) (hl : us.length = 1) : Pr us := by
  match us, hl with
  | [a], _ => exact h a
theorem len2 {α : Type} {Pr : List α → Prop} (h : ∀ a b, Pr [a, b]) (us : List α) (hl : us.length = 2) : Pr us := by
  match us, hl with
  | [a, b], _ => exact h a b
theorem len3 {α : Type} {Pr : List α → Prop} (h : ∀ a b c, Pr [a, b, c]) (us : List α) (hl : us.length = 3) : Pr us := by
  match us, hl with
  | [a, b, c], _ => exact h a b c
end L2
namespace K54
open PySem L2
local macro_rules | `(tactic| walk_at "ev") => `(tactic| simp [runS, runP, ev_bind, ev_ret, ev_lift, ev_var, ev_op2, ev_op1, ev_op2L, ev_ixO, ev_test, ev_not, ev_and, ev_or, ev_andV, ev_orV, ev_nil, ev_cons, ev_tup, ev_lst, ev_of, ev_call, ev_callL, ev_callS, ev_comp, ev_seq, ev_rng1, ev_zip, ev_part, ev_sl, ev_sseq, ev_sset, ev_sown, ev_sif, ev_sret, ev_sretL, ev_snil, ev_sdrop, ev_smut, ev_sext, ev_sseti, ev_sfor, ev_gset, forRun, ixO, blO, lsO, lstOf, rng1, zip2, inO, flatD, setI, gsNil, gsCons, gTupD, dI2, dI0, dB0, dAdd, dMulG, dIx, dLen, dInt, dAll, dAny, dTuple, dSeq, dSl_lto, dSl_lfrom, dNeg, dIsi, tyN, isTab, dAppend, okMul, okMul2, okMod, okDiv, okPow, at0, at1, at2, at3, ixN, dEq, dNe, eqD_int, dJoin, strsD, le_line, sTryAs, xIf, xCall, xThen, xNo, xSeq, xRaise, outLess, dIsX, runX, ev_signs, dSM, fnAt, mCallV, xCallV, mOr2, xOr2, xComp, *])
local macro_rules | `(tactic| walk_at "sc") => `(tactic| exact ⟨rfl, rfl, rfl, by decide +kernel, rfl, by decide +kernel, by decide +kernel⟩)
local macro_rules | `(tactic| walk_at "lr") => `(tactic| first | exact Or.inl rfl | exact Or.inr rfl)
noncomputable def top (i : Nat) : Stmt := PySem.Challenge.pw_trellisway_k54_refused_texts.main.body.getD i (.Pass ⟨0, 0, 0, 0⟩)
noncomputable abbrev s_y18 : Stmt := top 24
theorem sc_y18 : FnScope ["found"] ["found"] (defScope s_y18) := by walk_at "sc"
noncomputable abbrev s_y17 : Stmt := top 25
theorem sc_y17 : FnScope ["text", "signs"] ["text", "signs"] (defScope s_y17) := by walk_at "sc"
noncomputable abbrev s_y8 : Stmt := top 26
theorem sc_y8 : FnScope ["text", "most"] ["text", "most"] (defScope s_y8) := by walk_at "sc"
noncomputable abbrev s_y13 : Stmt := top 27
theorem sc_y13 : FnScope ["text"] ["text"] (defScope s_y13) := by walk_at "sc"
noncomputable abbrev s_y12 : Stmt := top 28
theorem sc_y12 : FnScope ["text", "number"] ["text"] (defScope s_y12) := by walk_at "sc"
noncomputable abbrev s_y15 : Stmt := top 29
theorem sc_y15 : FnScope ["text"] ["text"] (defScope s_y15) := by walk_at "sc"
noncomputable abbrev s_y16 : Stmt := top 30
theorem sc_y16 : FnScope ["words"] ["words"] (defScope s_y16) := by walk_at "sc"
noncomputable abbrev s_y9 : Stmt := top 31
theorem sc_y9 : FnScope ["text", "words", "split_at", "taps", "rows", "reach", "scheme"] ["text"] (defScope s_y9) := by walk_at "sc"
noncomputable abbrev s_y14 : Stmt := top 32
theorem sc_y14 : FnScope ["word", "parts"] ["word"] (defScope s_y14) := by walk_at "sc"
noncomputable abbrev s_y11 : Stmt := top 33
theorem sc_y11 : FnScope ["text"] ["text"] (defScope s_y11) := by walk_at "sc"
noncomputable abbrev s_y10 : Stmt := top 34
theorem sc_y10 : FnScope ["text", "places"] ["text"] (defScope s_y10) := by walk_at "sc"
noncomputable abbrev s_y6 : Stmt := top 36
theorem sc_y6 : FnScope ["_law_state", "_law_many"] ["_law_state", "_law_many"] (defScope s_y6) := by walk_at "sc"
noncomputable abbrev s_y7 : Stmt := top 37
theorem sc_y7 : FnScope ["_law_script", "_law_seed_here", "_law_cell"] ["_law_script"] (defScope s_y7) := by walk_at "sc"
noncomputable abbrev s_y4 : Stmt := top 38
theorem sc_y4 : FnScope ["_law_state", "_law_reach", "_law_taps", "_law_many", "_law_rows", "_law_k", "_law_full"] ["_law_state"] (defScope s_y4) := by walk_at "sc"
noncomputable abbrev s_y3 : Stmt := top 39
theorem sc_y3 : FnScope ["_law_reader", "_law_text", "_law_both", "_law_found", "e", "_law_others"] ["_law_reader", "_law_text", "_law_both"] (defScope s_y3) := by walk_at "sc"
noncomputable abbrev s_y5 : Stmt := top 40
theorem sc_y5 : FnScope ["_law_scheme_here", "_law_taps", "_law_rows"] ["_law_scheme_here"] (defScope s_y5) := by walk_at "sc"
noncomputable abbrev s_y0 : Stmt := top 41
theorem sc_y0 : FnScope ["_law_state", "_law_scheme_here", "_law_pieces_here", "_law_spot", "_law_way", "_law_odd", "_law_some", "_law_place", "_law_words", "_law_piece"] ["_law_state", "_law_scheme_here"] (defScope s_y0) := by walk_at "sc"
noncomputable abbrev s_y2 : Stmt := top 42
theorem sc_y2 : FnScope ["_law_state", "_law_good", "_law_odd", "_law_piece", "_law_spot"] ["_law_state"] (defScope s_y2) := by walk_at "sc"
noncomputable abbrev s_y1 : Stmt := top 43
theorem sc_y1 : FnScope ["_law_state", "_law_first", "_law_later", "_law_one", "_law_two", "_law_some"] ["_law_state"] (defScope s_y1) := by walk_at "sc"
noncomputable abbrev s_law : Stmt := top 44
theorem sc_law : FnScope ["_law_script", "_law_state", "_law_cell", "_law_drawn", "_law_odd"] ["_law_script"] (defScope s_law) := by walk_at "sc"
set_option genInjectivity false in
structure Ad where
  c_WayError : Addr
  c_NoText : Addr
  c_NoScheme : Addr
  c_NoWord : Addr
  c_NoSigns : Addr
  c_NoPlace : Addr
  f_y18 : Addr
  fd_y18 : FuncData
  f_y17 : Addr
  fd_y17 : FuncData
  f_y8 : Addr
  fd_y8 : FuncData
  f_y13 : Addr
  fd_y13 : FuncData
  f_y12 : Addr
  fd_y12 : FuncData
  f_y15 : Addr
  fd_y15 : FuncData
  f_y16 : Addr
  fd_y16 : FuncData
  f_y9 : Addr
  fd_y9 : FuncData
  f_y14 : Addr
  fd_y14 : FuncData
  f_y11 : Addr
  fd_y11 : FuncData
  f_y10 : Addr
  fd_y10 : FuncData
  f_y6 : Addr
  fd_y6 : FuncData
  f_y7 : Addr
  fd_y7 : FuncData
  f_y4 : Addr
  fd_y4 : FuncData
  f_y3 : Addr
  fd_y3 : FuncData
  f_y5 : Addr
  fd_y5 : FuncData
  f_y0 : Addr
  fd_y0 : FuncData
  f_y2 : Addr
  fd_y2 : FuncData
  f_y1 : Addr
  fd_y1 : FuncData
  f_law : Addr
  fd_law : FuncData
  k_y19 : Tok
  k_y20 : Tok
  k_FIGURES : Tok
  t_ENDINGS : Addr
structure Txt (K : PySem.W.Frag) (mg : Str → Option Value) (a : Ad) : Prop where
  mg_WayError : mg "WayError" = some (.ref a.c_WayError)
  ns_WayError : PySem.W.nsIn K mainGlobals "WayError" = some (some (.ref a.c_WayError))
  ek_WayError : ExcK K a.c_WayError
  mg_NoText : mg "NoText" = some (.ref a.c_NoText)
  ns_NoText : PySem.W.nsIn K mainGlobals "NoText" = some (some (.ref a.c_NoText))
  ek_NoText : ExcK K a.c_NoText
  ex_NoText : PySem.W.excIn K a.c_NoText [.type "ValueError", .type "Exception", .type "BaseException", .type "object"] "ValueError.__new__" = true
  mg_NoScheme : mg "NoScheme" = some (.ref a.c_NoScheme)
  ns_NoScheme : PySem.W.nsIn K mainGlobals "NoScheme" = some (some (.ref a.c_NoScheme))
  ek_NoScheme : ExcK K a.c_NoScheme
  mg_NoWord : mg "NoWord" = some (.ref a.c_NoWord)
  ns_NoWord : PySem.W.nsIn K mainGlobals "NoWord" = some (some (.ref a.c_NoWord))
  ek_NoWord : ExcK K a.c_NoWord
  mg_NoSigns : mg "NoSigns" = some (.ref a.c_NoSigns)
  ns_NoSigns : PySem.W.nsIn K mainGlobals "NoSigns" = some (some (.ref a.c_NoSigns))
  ek_NoSigns : ExcK K a.c_NoSigns
  mg_NoPlace : mg "NoPlace" = some (.ref a.c_NoPlace)
  ns_NoPlace : PySem.W.nsIn K mainGlobals "NoPlace" = some (some (.ref a.c_NoPlace))
  ek_NoPlace : ExcK K a.c_NoPlace
  em_WayError_WayError : PySem.W.exmOne K (.ref a.c_WayError) (.ref a.c_WayError) = some true
  em_NoText_WayError : PySem.W.exmOne K (.ref a.c_NoText) (.ref a.c_WayError) = some true
  em_NoScheme_WayError : PySem.W.exmOne K (.ref a.c_NoScheme) (.ref a.c_WayError) = some true
  em_NoWord_WayError : PySem.W.exmOne K (.ref a.c_NoWord) (.ref a.c_WayError) = some true
  em_NoSigns_WayError : PySem.W.exmOne K (.ref a.c_NoSigns) (.ref a.c_WayError) = some true
  em_NoPlace_WayError : PySem.W.exmOne K (.ref a.c_NoPlace) (.ref a.c_WayError) = some true
  mg_y19 : mg "MOST_SMALL_FIGURES" = some (.int (2) a.k_y19)
  mg_y20 : mg "MOST_FIGURES" = some (.int (60) a.k_y20)
  mg_FIGURES : mg "FIGURES" = some (.str "0123456789" a.k_FIGURES)
  mg_ENDINGS : mg "ENDINGS" = some (.ref a.t_ENDINGS)
  tq_ENDINGS : ∀ H : Hp, SqT K H a.t_ENDINGS [.str "open", .str "ended", .str "ring"]
  F_y18 : Fun K "check_text" "check_text" s_y18 a.f_y18 a.fd_y18
  B_y18 : Binds K a.fd_y18 ["found"] []
  mg_y18 : mg "check_text" = some (.ref a.f_y18)
  kp_y18 : PySem.W.keepIn K (.ref a.f_y18) = true
  F_y17 : Fun K "is_made_of" "is_made_of" s_y17 a.f_y17 a.fd_y17
  B_y17 : Binds K a.fd_y17 ["text", "signs"] []
  mg_y17 : mg "is_made_of" = some (.ref a.f_y17)
  kp_y17 : PySem.W.keepIn K (.ref a.f_y17) = true
  F_y8 : Fun K "read_figures" "read_figures" s_y8 a.f_y8 a.fd_y8
  B_y8 : Binds K a.fd_y8 ["text", "most"] []
  mg_y8 : mg "read_figures" = some (.ref a.f_y8)
  kp_y8 : PySem.W.keepIn K (.ref a.f_y8) = true
  F_y13 : Fun K "read_small" "read_small" s_y13 a.f_y13 a.fd_y13
  B_y13 : Binds K a.fd_y13 ["text"] []
  mg_y13 : mg "read_small" = some (.ref a.f_y13)
  kp_y13 : PySem.W.keepIn K (.ref a.f_y13) = true
  F_y12 : Fun K "read_number" "read_number" s_y12 a.f_y12 a.fd_y12
  B_y12 : Binds K a.fd_y12 ["text"] []
  mg_y12 : mg "read_number" = some (.ref a.f_y12)
  kp_y12 : PySem.W.keepIn K (.ref a.f_y12) = true
  F_y15 : Fun K "read_bits" "read_bits" s_y15 a.f_y15 a.fd_y15
  B_y15 : Binds K a.fd_y15 ["text"] []
  mg_y15 : mg "read_bits" = some (.ref a.f_y15)
  kp_y15 : PySem.W.keepIn K (.ref a.f_y15) = true
  F_y16 : Fun K "has_scheme_form" "has_scheme_form" s_y16 a.f_y16 a.fd_y16
  B_y16 : Binds K a.fd_y16 ["words"] []
  mg_y16 : mg "has_scheme_form" = some (.ref a.f_y16)
  kp_y16 : PySem.W.keepIn K (.ref a.f_y16) = true
  F_y9 : Fun K "read_scheme" "read_scheme" s_y9 a.f_y9 a.fd_y9
  B_y9 : Binds K a.fd_y9 ["text"] []
  mg_y9 : mg "read_scheme" = some (.ref a.f_y9)
  kp_y9 : PySem.W.keepIn K (.ref a.f_y9) = true
  nsf_y9 : PySem.W.nsIn K mainGlobals "read_scheme" = some (some (.ref a.f_y9))
  F_y14 : Fun K "read_sign" "read_sign" s_y14 a.f_y14 a.fd_y14
  B_y14 : Binds K a.fd_y14 ["word"] []
  mg_y14 : mg "read_sign" = some (.ref a.f_y14)
  kp_y14 : PySem.W.keepIn K (.ref a.f_y14) = true
  F_y11 : Fun K "read_heard" "read_heard" s_y11 a.f_y11 a.fd_y11
  B_y11 : Binds K a.fd_y11 ["text"] []
  mg_y11 : mg "read_heard" = some (.ref a.f_y11)
  kp_y11 : PySem.W.keepIn K (.ref a.f_y11) = true
  nsf_y11 : PySem.W.nsIn K mainGlobals "read_heard" = some (some (.ref a.f_y11))
  F_y10 : Fun K "read_places" "read_places" s_y10 a.f_y10 a.fd_y10
  B_y10 : Binds K a.fd_y10 ["text"] []
  mg_y10 : mg "read_places" = some (.ref a.f_y10)
  kp_y10 : PySem.W.keepIn K (.ref a.f_y10) = true
  nsf_y10 : PySem.W.nsIn K mainGlobals "read_places" = some (some (.ref a.f_y10))
  F_y6 : Fun K "_law_next" "_law_next" s_y6 a.f_y6 a.fd_y6
  B_y6 : Binds K a.fd_y6 ["_law_state", "_law_many"] []
  mg_y6 : mg "_law_next" = some (.ref a.f_y6)
  kp_y6 : PySem.W.keepIn K (.ref a.f_y6) = true
  F_y7 : Fun K "_law_seed" "_law_seed" s_y7 a.f_y7 a.fd_y7
  B_y7 : Binds K a.fd_y7 ["_law_script"] []
  mg_y7 : mg "_law_seed" = some (.ref a.f_y7)
  kp_y7 : PySem.W.keepIn K (.ref a.f_y7) = true
  F_y4 : Fun K "_law_scheme" "_law_scheme" s_y4 a.f_y4 a.fd_y4
  B_y4 : Binds K a.fd_y4 ["_law_state"] []
  mg_y4 : mg "_law_scheme" = some (.ref a.f_y4)
  kp_y4 : PySem.W.keepIn K (.ref a.f_y4) = true
  F_y3 : Fun K "_law_refused" "_law_refused" s_y3 a.f_y3 a.fd_y3
  B_y3 : Binds K a.fd_y3 ["_law_reader", "_law_text", "_law_both"] []
  mg_y3 : mg "_law_refused" = some (.ref a.f_y3)
  kp_y3 : PySem.W.keepIn K (.ref a.f_y3) = true
  F_y5 : Fun K "_law_pieces" "_law_pieces" s_y5 a.f_y5 a.fd_y5
  B_y5 : Binds K a.fd_y5 ["_law_scheme_here"] []
  mg_y5 : mg "_law_pieces" = some (.ref a.f_y5)
  kp_y5 : PySem.W.keepIn K (.ref a.f_y5) = true
  F_y0 : Fun K "_law_bad_scheme" "_law_bad_scheme" s_y0 a.f_y0 a.fd_y0
  B_y0 : Binds K a.fd_y0 ["_law_state", "_law_scheme_here"] []
  mg_y0 : mg "_law_bad_scheme" = some (.ref a.f_y0)
  kp_y0 : PySem.W.keepIn K (.ref a.f_y0) = true
  F_y2 : Fun K "_law_bad_heard" "_law_bad_heard" s_y2 a.f_y2 a.fd_y2
  B_y2 : Binds K a.fd_y2 ["_law_state"] []
  mg_y2 : mg "_law_bad_heard" = some (.ref a.f_y2)
  kp_y2 : PySem.W.keepIn K (.ref a.f_y2) = true
  F_y1 : Fun K "_law_bad_places" "_law_bad_places" s_y1 a.f_y1 a.fd_y1
  B_y1 : Binds K a.fd_y1 ["_law_state"] []
  mg_y1 : mg "_law_bad_places" = some (.ref a.f_y1)
  kp_y1 : PySem.W.keepIn K (.ref a.f_y1) = true
  F_law : Fun K "law" "law" s_law a.f_law a.fd_law
  B_law : Binds K a.fd_law ["_law_script"] []
  mg_law : mg "law" = some (.ref a.f_law)
  kp_law : PySem.W.keepIn K (.ref a.f_law) = true
  z_ValueError : mg "ValueError" = none
  z_all : mg "all" = none
  z_any : mg "any" = none
  z_int : mg "int" = none
  z_isinstance : mg "isinstance" = none
  z_len : mg "len" = none
  z_range : mg "range" = none
  z_str : mg "str" = none
  z_tuple : mg "tuple" = none
  z_zip : mg "zip" = none
  kit_ty_NoneType_ty_str : PySem.W.kitOne K (.type "NoneType") (.type "str") = some false
  kit_ty_bool_ty_str : PySem.W.kitOne K (.type "bool") (.type "str") = some false
  kit_ty_int_ty_str : PySem.W.kitOne K (.type "int") (.type "str") = some false
  kit_ty_str_ty_str : PySem.W.kitOne K (.type "str") (.type "str") = some true
  kit_ty_list_ty_str : PySem.W.kitOne K (.type "list") (.type "str") = some false
  kit_ty_tuple_ty_str : PySem.W.kitOne K (.type "tuple") (.type "str") = some false
  kit_ty_dict_ty_str : PySem.W.kitOne K (.type "dict") (.type "str") = some false
  kit_WayError_NoPlace : PySem.W.kitOne K (.ref a.c_WayError) (.ref a.c_NoPlace) = some false
  kit_NoText_NoPlace : PySem.W.kitOne K (.ref a.c_NoText) (.ref a.c_NoPlace) = some false
  kit_NoScheme_NoPlace : PySem.W.kitOne K (.ref a.c_NoScheme) (.ref a.c_NoPlace) = some false
  kit_NoWord_NoPlace : PySem.W.kitOne K (.ref a.c_NoWord) (.ref a.c_NoPlace) = some false
  kit_NoSigns_NoPlace : PySem.W.kitOne K (.ref a.c_NoSigns) (.ref a.c_NoPlace) = some false
  kit_NoPlace_NoPlace : PySem.W.kitOne K (.ref a.c_NoPlace) (.ref a.c_NoPlace) = some true
  kit_ty_NoneType_NoPlace : PySem.W.kitOne K (.type "NoneType") (.ref a.c_NoPlace) = some false
  kit_WayError_NoSigns : PySem.W.kitOne K (.ref a.c_WayError) (.ref a.c_NoSigns) = some false
  kit_NoText_NoSigns : PySem.W.kitOne K (.ref a.c_NoText) (.ref a.c_NoSigns) = some false
  kit_NoScheme_NoSigns : PySem.W.kitOne K (.ref a.c_NoScheme) (.ref a.c_NoSigns) = some false
  kit_NoWord_NoSigns : PySem.W.kitOne K (.ref a.c_NoWord) (.ref a.c_NoSigns) = some false
  kit_NoSigns_NoSigns : PySem.W.kitOne K (.ref a.c_NoSigns) (.ref a.c_NoSigns) = some true
  kit_NoPlace_NoSigns : PySem.W.kitOne K (.ref a.c_NoPlace) (.ref a.c_NoSigns) = some false
  kit_ty_NoneType_NoSigns : PySem.W.kitOne K (.type "NoneType") (.ref a.c_NoSigns) = some false
  kit_WayError_NoWord : PySem.W.kitOne K (.ref a.c_WayError) (.ref a.c_NoWord) = some false
  kit_NoText_NoWord : PySem.W.kitOne K (.ref a.c_NoText) (.ref a.c_NoWord) = some false
  kit_NoScheme_NoWord : PySem.W.kitOne K (.ref a.c_NoScheme) (.ref a.c_NoWord) = some false
  kit_NoWord_NoWord : PySem.W.kitOne K (.ref a.c_NoWord) (.ref a.c_NoWord) = some true
  kit_NoSigns_NoWord : PySem.W.kitOne K (.ref a.c_NoSigns) (.ref a.c_NoWord) = some false
  kit_NoPlace_NoWord : PySem.W.kitOne K (.ref a.c_NoPlace) (.ref a.c_NoWord) = some false
  kit_ty_NoneType_NoWord : PySem.W.kitOne K (.type "NoneType") (.ref a.c_NoWord) = some false
  kit_WayError_ty_ValueError : PySem.W.kitOne K (.ref a.c_WayError) (.type "ValueError") = some true
  kit_NoText_ty_ValueError : PySem.W.kitOne K (.ref a.c_NoText) (.type "ValueError") = some true
  kit_NoScheme_ty_ValueError : PySem.W.kitOne K (.ref a.c_NoScheme) (.type "ValueError") = some true
  kit_NoWord_ty_ValueError : PySem.W.kitOne K (.ref a.c_NoWord) (.type "ValueError") = some true
  kit_NoSigns_ty_ValueError : PySem.W.kitOne K (.ref a.c_NoSigns) (.type "ValueError") = some true
  kit_NoPlace_ty_ValueError : PySem.W.kitOne K (.ref a.c_NoPlace) (.type "ValueError") = some true
  kit_ty_NoneType_ty_ValueError : PySem.W.kitOne K (.type "NoneType") (.type "ValueError") = some false
  kit_WayError_NoScheme : PySem.W.kitOne K (.ref a.c_WayError) (.ref a.c_NoScheme) = some false
  kit_NoText_NoScheme : PySem.W.kitOne K (.ref a.c_NoText) (.ref a.c_NoScheme) = some false
  kit_NoScheme_NoScheme : PySem.W.kitOne K (.ref a.c_NoScheme) (.ref a.c_NoScheme) = some true
  kit_NoWord_NoScheme : PySem.W.kitOne K (.ref a.c_NoWord) (.ref a.c_NoScheme) = some false
  kit_NoSigns_NoScheme : PySem.W.kitOne K (.ref a.c_NoSigns) (.ref a.c_NoScheme) = some false
  kit_NoPlace_NoScheme : PySem.W.kitOne K (.ref a.c_NoPlace) (.ref a.c_NoScheme) = some false
  kit_ty_NoneType_NoScheme : PySem.W.kitOne K (.type "NoneType") (.ref a.c_NoScheme) = some false
  kit_WayError_NoText : PySem.W.kitOne K (.ref a.c_WayError) (.ref a.c_NoText) = some false
  kit_NoText_NoText : PySem.W.kitOne K (.ref a.c_NoText) (.ref a.c_NoText) = some true
  kit_NoScheme_NoText : PySem.W.kitOne K (.ref a.c_NoScheme) (.ref a.c_NoText) = some false
  kit_NoWord_NoText : PySem.W.kitOne K (.ref a.c_NoWord) (.ref a.c_NoText) = some false
  kit_NoSigns_NoText : PySem.W.kitOne K (.ref a.c_NoSigns) (.ref a.c_NoText) = some false
  kit_NoPlace_NoText : PySem.W.kitOne K (.ref a.c_NoPlace) (.ref a.c_NoText) = some false
  kit_ty_NoneType_NoText : PySem.W.kitOne K (.type "NoneType") (.ref a.c_NoText) = some false
theorem isi_str {K : PySem.W.Frag} {mg : Str → Option Value} {a : Ad} (T : Txt K mg a) : KitB K "str" (isTab "str") := kitB_mk T.kit_ty_NoneType_ty_str T.kit_ty_bool_ty_str T.kit_ty_int_ty_str T.kit_ty_str_ty_str T.kit_ty_list_ty_str T.kit_ty_tuple_ty_str T.kit_ty_dict_ty_str
noncomputable def eb_y21 : List (Str × Bool) := [("WayError", false), ("NoText", false), ("NoScheme", false), ("NoWord", true), ("NoSigns", true), ("NoPlace", true)]
theorem ke_y21 {K : PySem.W.Frag} {mg : Str → Option Value} {a : Ad} (T : Txt K mg a) : KitEs K [.ref a.c_NoPlace, .ref a.c_NoSigns, .ref a.c_NoWord] (fun x => eb_y21.lookup x) := by
  refine kitEs_of (fun p hp => ?_) (kitAny_f T.kit_ty_NoneType_NoPlace (kitAny_f T.kit_ty_NoneType_NoSigns (kitAny_f T.kit_ty_NoneType_NoWord kitAny_nil)))
  unfold eb_y21 at hp
  simp only [List.mem_cons, List.not_mem_nil, or_false] at hp
  rcases hp with rfl | rfl | rfl | rfl | rfl | rfl
  · exact ⟨_, T.ns_WayError, (kitAny_f T.kit_WayError_NoPlace (kitAny_f T.kit_WayError_NoSigns (kitAny_f T.kit_WayError_NoWord kitAny_nil)))⟩
  · exact ⟨_, T.ns_NoText, (kitAny_f T.kit_NoText_NoPlace (kitAny_f T.kit_NoText_NoSigns (kitAny_f T.kit_NoText_NoWord kitAny_nil)))⟩
  · exact ⟨_, T.ns_NoScheme, (kitAny_f T.kit_NoScheme_NoPlace (kitAny_f T.kit_NoScheme_NoSigns (kitAny_f T.kit_NoScheme_NoWord kitAny_nil)))⟩
  · exact ⟨_, T.ns_NoWord, (kitAny_f T.kit_NoWord_NoPlace (kitAny_f T.kit_NoWord_NoSigns (kitAny_t T.kit_NoWord_NoWord)))⟩
  · exact ⟨_, T.ns_NoSigns, (kitAny_f T.kit_NoSigns_NoPlace (kitAny_t T.kit_NoSigns_NoSigns))⟩
  · exact ⟨_, T.ns_NoPlace, (kitAny_t T.kit_NoPlace_NoPlace)⟩
noncomputable def eb_ValueError : List (Str × Bool) := [("WayError", true), ("NoText", true), ("NoScheme", true), ("NoWord", true), ("NoSigns", true), ("NoPlace", true)]
theorem ke_ValueError {K : PySem.W.Frag} {mg : Str → Option Value} {a : Ad} (T : Txt K mg a) : KitE K (.type "ValueError") (fun x => eb_ValueError.lookup x) := by
  refine kitE_of (fun p hp => ?_) T.kit_ty_NoneType_ty_ValueError
  unfold eb_ValueError at hp
  simp only [List.mem_cons, List.not_mem_nil, or_false] at hp
  rcases hp with rfl | rfl | rfl | rfl | rfl | rfl
  · exact ⟨_, T.ns_WayError, T.kit_WayError_ty_ValueError⟩
  · exact ⟨_, T.ns_NoText, T.kit_NoText_ty_ValueError⟩
  · exact ⟨_, T.ns_NoScheme, T.kit_NoScheme_ty_ValueError⟩
  · exact ⟨_, T.ns_NoWord, T.kit_NoWord_ty_ValueError⟩
  · exact ⟨_, T.ns_NoSigns, T.kit_NoSigns_ty_ValueError⟩
  · exact ⟨_, T.ns_NoPlace, T.kit_NoPlace_ty_ValueError⟩
noncomputable def eb_NoScheme : List (Str × Bool) := [("WayError", false), ("NoText", false), ("NoScheme", true), ("NoWord", false), ("NoSigns", false), ("NoPlace", false)]
theorem ke_NoScheme {K : PySem.W.Frag} {mg : Str → Option Value} {a : Ad} (T : Txt K mg a) : KitE K (.ref a.c_NoScheme) (fun x => eb_NoScheme.lookup x) := by
  refine kitE_of (fun p hp => ?_) T.kit_ty_NoneType_NoScheme
  unfold eb_NoScheme at hp
  simp only [List.mem_cons, List.not_mem_nil, or_false] at hp
  rcases hp with rfl | rfl | rfl | rfl | rfl | rfl
  · exact ⟨_, T.ns_WayError, T.kit_WayError_NoScheme⟩
  · exact ⟨_, T.ns_NoText, T.kit_NoText_NoScheme⟩
  · exact ⟨_, T.ns_NoScheme, T.kit_NoScheme_NoScheme⟩
  · exact ⟨_, T.ns_NoWord, T.kit_NoWord_NoScheme⟩
  · exact ⟨_, T.ns_NoSigns, T.kit_NoSigns_NoScheme⟩
  · exact ⟨_, T.ns_NoPlace, T.kit_NoPlace_NoScheme⟩
noncomputable def eb_NoText : List (Str × Bool) := [("WayError", false), ("NoText", true), ("NoScheme", false), ("NoWord", false), ("NoSigns", false), ("NoPlace", false)]
theorem ke_NoText {K : PySem.W.Frag} {mg : Str → Option Value} {a : Ad} (T : Txt K mg a) : KitE K (.ref a.c_NoText) (fun x => eb_NoText.lookup x) := by
  refine kitE_of (fun p hp => ?_) T.kit_ty_NoneType_NoText
  unfold eb_NoText at hp
  simp only [List.mem_cons, List.not_mem_nil, or_false] at hp
  rcases hp with rfl | rfl | rfl | rfl | rfl | rfl
  · exact ⟨_, T.ns_WayError, T.kit_WayError_NoText⟩
  · exact ⟨_, T.ns_NoText, T.kit_NoText_NoText⟩
  · exact ⟨_, T.ns_NoScheme, T.kit_NoScheme_NoText⟩
  · exact ⟨_, T.ns_NoWord, T.kit_NoWord_NoText⟩
  · exact ⟨_, T.ns_NoSigns, T.kit_NoSigns_NoText⟩
  · exact ⟨_, T.ns_NoPlace, T.kit_NoPlace_NoText⟩
noncomputable def tk_WayError : List Str := ["WayError", "NoText", "NoScheme", "NoWord", "NoSigns", "NoPlace"]
theorem km_WayError {K : PySem.W.Frag} {mg : Str → Option Value} {a : Ad} (T : Txt K mg a) : KitM K (.ref a.c_WayError) (fun x => tk_WayError.contains x) := by
  refine kitM_of fun x hx => ?_
  unfold tk_WayError at hx
  simp only [List.mem_cons, List.not_mem_nil, or_false] at hx
  rcases hx with rfl | rfl | rfl | rfl | rfl | rfl
  · exact ⟨_, T.ns_WayError, T.em_WayError_WayError, T.ek_WayError⟩
  · exact ⟨_, T.ns_NoText, T.em_NoText_WayError, T.ek_NoText⟩
  · exact ⟨_, T.ns_NoScheme, T.em_NoScheme_WayError, T.ek_NoScheme⟩
  · exact ⟨_, T.ns_NoWord, T.em_NoWord_WayError, T.ek_NoWord⟩
  · exact ⟨_, T.ns_NoSigns, T.em_NoSigns_WayError, T.ek_NoSigns⟩
  · exact ⟨_, T.ns_NoPlace, T.em_NoPlace_WayError, T.ek_NoPlace⟩
section
seal PS PSs PE PT PW PA
variable {P : Program} {w : World} {K : PySem.W.Frag} {mg : Str → Option Value} {base : Heap} {a : Ad}
noncomputable def b_y18 : Rho → Option Out :=
  (sIf (mNot (mTest (mOp1 (dIsi (isTab "str")) (mVar 0))))
    (fun _ => none)
    sNil)
noncomputable def f_y18 : List D → Option D := runP false 1 1 b_y18
theorem n_y18 : runsN 1 f_y18 := runP_n
noncomputable def x_y18 : Xr :=
  (xIf (mNot (mTest (mOp1 (dIsi (isTab "str")) (mVar 0)))) xNo
    (xRaise "NoText" (mCons (mRet (.str "this is no text")) mNil))
    xNo)
noncomputable def fx_y18 : List D → Option Str := runX 1 1 x_y18
theorem nx_y18 : runsX 1 fx_y18 := runX_n
theorem ok_y18 (T : Txt K mg a) : FnOk P w K mg base (CX1 P w) 1 a.f_y18 a.fd_y18 ["found"] (spPX K false 1 f_y18 fx_y18) := by
  refine T.F_y18.okX sc_y18 (fun vs H Q E h => spPX_len h) (fun cdv A outer s H vs Q E hr h => ?_)
  refine ⟨_, (pss_one (ps_if (pt_not (pt_val (pe_callB (call_isO (K := K) rfl) (by rfl) T.z_isinstance (by rfl) (pa_cons (pv 0) (pa_cons (pe_bltn (v := .ty "str") (by rfl) T.z_str (by rfl) rfl) pa_nil))))) (pss_one (ps_raise newX rfl (by rfl) T.mg_NoText T.ex_NoText PySem.F.excBase_ValueError (pa_cons pe_str pa_nil))) pss_nil)), ?_⟩
  exact spPX_body (O' := []) (Nms := ["found"]) (f := b_y18) (fx := x_y18) (by
      unfold b_y18
      exact (ms_if (mt_not (mt_val (me_isi (isi_str T) mb_var))) ms_raise (ms_nil rfl))) (by
      unfold x_y18
      exact (msx_if (mt_not (mt_val (me_isi (isi_str T) mb_var))) mtx_no (msxa_raise T.ns_NoText (ma_cons me_str ma_nil)).g msx_no)) h
noncomputable def b_y17 : Rho → Option Out :=
  (sRet (mAndV (mOp2 dGt (mOp1 dLenS (mVar 0)) (mRet (.int 0))) (mOp1 dAll (mOf (mComp 1 [1] none (mSigns (mVar 0)) (gSet 0) (mRet true) (mOp2 dInS (mVar 0) (mVar 1)))))))
noncomputable def f_y17 : List D → Option D := runP false 2 2 b_y17
theorem n_y17 : runsN 2 f_y17 := runP_n
theorem ok_y17 (T : Txt K mg a) : FnOk P w K mg base CX0 1 a.f_y17 a.fd_y17 ["text", "signs"] (spP K false 2 f_y17) := by
  refine T.F_y17.ok sc_y17 (fun _ _ _ _ h => h.1) (fun cdv A outer s H vs Q E hr h => ?_)
  · refine ⟨_, (pss_one (ps_ret (pe_and (pe_cmpR op_gt (pe_callB call_len_str (by rfl) T.z_len (by rfl) (pa_cons (pv 0) pa_nil)) pe_int (nomark _)) (pe_one (pe_callB (call_all (K := K) rfl rfl) (by rfl) T.z_all (by rfl) (pa_cons (pe_compX (sc := defScope s_y17) (N0 := ["text", "signs"]) passN0 rfl rfl rfl (show compOk _ _ ["sign", "signs"] 1 [1] _ = true by decide +kernel) (pi_str (pv 0)) (fun _ _ _ _ _ => (pg_name (i := 0) (show List.Nodup (["sign", "signs"] : List Str) from (by decide +kernel)) rfl (Or.inl rfl))) (own_name (by decide)) (fun _ _ _ _ _ => pif_nil) (fun _ _ _ _ _ => (pe_cmpR op_in_str (pv 0) (pv 1) (by with_unfolding_all rfl)))) pa_nil)))))), ?_⟩
    exact spP_body (O' := []) (Nms := ["text", "signs"]) (f := b_y17) (by
      unfold b_y17
      exact (ms_ret rfl (me_and (me_opB os_b0 (me_call1 cs_lenS mb_var) me_int.mb) (me_call1 cs_all (me_new (mn_comp (bw := none) (mi_str (me_var (i := 0))) (mg_name (i := 0)) mt_yes (me_opB os_inS (me_var (i := 0)) mb_var))).mb)) rfl)) h
noncomputable def b_y8 : Rho → Option Out :=
  (sSeq (sIf (mOr (mNot (mTest (mCall f_y17 (mCons (mVar 0) (mCons (mRet (.str "0123456789")) mNil))))) (mOr (mTest (mOp2 dGt (mOp1 dLenS (mVar 0)) (mVar 1))) (mAnd (mTest (mOp2 dEq (mOp2 dIx (mVar 0) (mRet (.int 0))) (mRet (.str "0")))) (mTest (mOp2 dNe (mVar 0) (mRet (.str "0")))))))
    (fun _ => none)
    sNil)
  (sRet (mOp1 dIntT (mVar 0))))
noncomputable def f_y8 : List D → Option D := runP false 2 2 b_y8
theorem n_y8 : runsN 2 f_y8 := runP_n
noncomputable def x_y8 : Xr :=
  (xSeq (sIf (mOr (mNot (mTest (mCall f_y17 (mCons (mVar 0) (mCons (mRet (.str "0123456789")) mNil))))) (mOr (mTest (mOp2 dGt (mOp1 dLenS (mVar 0)) (mVar 1))) (mAnd (mTest (mOp2 dEq (mOp2 dIx (mVar 0) (mRet (.int 0))) (mRet (.str "0")))) (mTest (mOp2 dNe (mVar 0) (mRet (.str "0")))))))
    (fun _ => none)
    sNil) (xIf (mOr (mNot (mTest (mCall f_y17 (mCons (mVar 0) (mCons (mRet (.str "0123456789")) mNil))))) (mOr (mTest (mOp2 dGt (mOp1 dLenS (mVar 0)) (mVar 1))) (mAnd (mTest (mOp2 dEq (mOp2 dIx (mVar 0) (mRet (.int 0))) (mRet (.str "0")))) (mTest (mOp2 dNe (mVar 0) (mRet (.str "0"))))))) xNo
    (xRaise "NoText" (mCons (mRet (.str "this is no number, or not one that can stand here")) mNil))
    xNo)
  xNo)
noncomputable def fx_y8 : List D → Option Str := runX 2 2 x_y8
theorem nx_y8 : runsX 2 fx_y8 := runX_n
theorem ok_y8 (T : Txt K mg a) : FnOk P w K mg base (CX1 P w) 2 a.f_y8 a.fd_y8 ["text", "most"] (spPX K false 2 f_y8 fx_y8) := by
  have G_y17 := ok_y17 (P := P) (w := w) (base := base) T
  refine T.F_y8.okX sc_y8 (fun vs H Q E h => spPX_len h) (fun cdv A outer s H vs Q E hr h => ?_)
  refine ⟨_, (pss_cons (ps_if (PW.pt (pw_or (pt_not (pt_val (pe_call G_y17 hr.m (by rfl) T.mg_y17 T.kp_y17 T.B_y17 .nil pass0 (pa_cons (pv 0) (pa_cons (pe_glob (v := .str "0123456789") (by rfl) T.mg_FIGURES ⟨_, rfl⟩) pa_nil))))) (pw_or (pt_cmpR op_gt (pe_callB call_len_str (by rfl) T.z_len (by rfl) (pa_cons (pv 0) pa_nil)) (pv 1) (nomark _)) (pw_or1 (PW.pt (pw_and (pt_cmpR (op_eqD (K := K) rfl hr.units) (pe_ix (ix_seqK (K := K) rfl) (pv 0) pe_int) pe_str (nomark _)) (pw_and1 (pt_cmpR (op_neD (K := K) rfl hr.units) (pv 0) pe_str (nomark _))))))))) (pss_one (ps_raise newX rfl (by rfl) T.mg_NoText T.ex_NoText PySem.F.excBase_ValueError (pa_cons pe_str pa_nil))) pss_nil) (pss_one (ps_ret (pe_callTy call_intT (by rfl) T.z_int (by rfl) (pa_cons (pv 0) pa_nil))))), ?_⟩
  exact spPX_body (O' := []) (Nms := ["text", "most"]) (f := b_y8) (fx := x_y8) (by
      unfold b_y8
      exact (ms_seq (O1 := []) (ms_if (mt_or (mt_not (mt_val (me_callP n_y17 (ma_cons (me_var (i := 0)) (ma_cons me_str ma_nil))))) (mt_or (mt_test (me_opB os_b0 (me_call1 cs_lenS mb_var) mb_var)) (mt_and (mt_test (me_opB os_eq (me_op op_ix (me_var (i := 0)) me_int) me_str.mb)) (mt_test (me_opB os_ne (me_var (i := 0)) me_str.mb))))) ms_raise (ms_nil rfl)) (ms_ret rfl (me_call1 cs_intT mb_var) rfl))) (by
      unfold x_y8
      exact (msx_seq (O1 := []) (ms_if (mt_or (mt_not (mt_val (me_callP n_y17 (ma_cons (me_var (i := 0)) (ma_cons me_str ma_nil))))) (mt_or (mt_test (me_opB os_b0 (me_call1 cs_lenS mb_var) mb_var)) (mt_and (mt_test (me_opB os_eq (me_op op_ix (me_var (i := 0)) me_int) me_str.mb)) (mt_test (me_opB os_ne (me_var (i := 0)) me_str.mb))))) ms_raise (ms_nil rfl)) (msx_if (mt_or (mt_not (mt_val (me_callP n_y17 (ma_cons (me_var (i := 0)) (ma_cons me_str ma_nil))))) (mt_or (mt_test (me_opB os_b0 (me_call1 cs_lenS mb_var) mb_var)) (mt_and (mt_test (me_opB os_eq (me_op op_ix (me_var (i := 0)) me_int) me_str.mb)) (mt_test (me_opB os_ne (me_var (i := 0)) me_str.mb))))) mtx_no (msxa_raise T.ns_NoText (ma_cons me_str ma_nil)).g msx_no)
      msx_no)) h
noncomputable def b_y13 : Rho → Option Out :=
  (sRet (mCall f_y8 (mCons (mVar 0) (mCons (mRet (.int (2))) mNil))))
noncomputable def f_y13 : List D → Option D := runP false 1 1 b_y13
theorem n_y13 : runsN 1 f_y13 := runP_n
noncomputable def x_y13 : Xr :=
  (xCall fx_y8 (mCons (mVar 0) (mCons (mRet (.int (2))) mNil)) xNo)
noncomputable def fx_y13 : List D → Option Str := runX 1 1 x_y13
theorem nx_y13 : runsX 1 fx_y13 := runX_n
theorem ok_y13 (T : Txt K mg a) : FnOk P w K mg base (CX1 P w) 3 a.f_y13 a.fd_y13 ["text"] (spPX K false 1 f_y13 fx_y13) := by
  have G_y8 := ok_y8 (P := P) (w := w) (base := base) T
  refine T.F_y13.okX sc_y13 (fun vs H Q E h => spPX_len h) (fun cdv A outer s H vs Q E hr h => ?_)
  refine ⟨_, (pss_one (ps_ret (pe_call G_y8 hr.m (by rfl) T.mg_y8 T.kp_y8 T.B_y8 .nil passX (pa_cons (pv 0) (pa_cons (pe_glob (v := .int (2)) (by rfl) T.mg_y19 ⟨_, rfl⟩) pa_nil))))), ?_⟩
  exact spPX_body (O' := []) (Nms := ["text"]) (f := b_y13) (fx := x_y13) (by
      unfold b_y13
      exact (ms_ret rfl (me_callX n_y8 (ma_cons (me_var (i := 0)) (ma_cons me_int ma_nil))) rfl)) (by
      unfold x_y13
      exact (msxa_ret (mx_call nx_y8 (ma_cons (me_var (i := 0)) (ma_cons me_int ma_nil)) max_no)).g) h
noncomputable def b_y12 : Rho → Option Out :=
  (sSeq (sDrop (mCall f_y18 (mCons (mVar 0) mNil)))
  (sSeq (sIf (mNot (mTest (mOp2 (dSM gStartswith) (mVar 0) (mRet (.str "-")))))
    (sRet (mCall f_y8 (mCons (mVar 0) (mCons (mRet (.int (60))) mNil))))
    sNil)
  (sSeq (sSet 1 (mCall f_y8 (mCons (mSlS (mVar 0) (mPart (mRet (.int 1))) (mRet none)) (mCons (mRet (.int (60))) mNil))))
  (sSeq (sIf (mTest (mOp2 dEq (mVar 1) (mRet (.int 0))))
    (fun _ => none)
    sNil)
  (sRet (mOp1 dNeg (mVar 1)))))))
noncomputable def f_y12 : List D → Option D := runP false 1 2 b_y12
theorem n_y12 : runsN 1 f_y12 := runP_n
noncomputable def x_y12 : Xr :=
  (xSeq (sDrop (mCall f_y18 (mCons (mVar 0) mNil))) (xCall fx_y18 (mCons (mVar 0) mNil) xNo)
  (xSeq (sIf (mNot (mTest (mOp2 (dSM gStartswith) (mVar 0) (mRet (.str "-")))))
    (sRet (mCall f_y8 (mCons (mVar 0) (mCons (mRet (.int (60))) mNil))))
    sNil) (xIf (mNot (mTest (mOp2 (dSM gStartswith) (mVar 0) (mRet (.str "-"))))) xNo
    (xCall fx_y8 (mCons (mVar 0) (mCons (mRet (.int (60))) mNil)) xNo)
    xNo)
  (xSeq (sSet 1 (mCall f_y8 (mCons (mSlS (mVar 0) (mPart (mRet (.int 1))) (mRet none)) (mCons (mRet (.int (60))) mNil)))) (xCall fx_y8 (mCons (mSlS (mVar 0) (mPart (mRet (.int 1))) (mRet none)) (mCons (mRet (.int (60))) mNil)) xNo)
  (xSeq (sIf (mTest (mOp2 dEq (mVar 1) (mRet (.int 0))))
    (fun _ => none)
    sNil) (xIf (mTest (mOp2 dEq (mVar 1) (mRet (.int 0)))) xNo
    (xRaise "NoText" (mCons (mRet (.str "0 is written without a - ahead")) mNil))
    xNo)
  xNo))))
noncomputable def fx_y12 : List D → Option Str := runX 1 2 x_y12
theorem nx_y12 : runsX 1 fx_y12 := runX_n
theorem ok_y12 (T : Txt K mg a) : FnOk P w K mg base (CX1 P w) 3 a.f_y12 a.fd_y12 ["text"] (spPX K false 1 f_y12 fx_y12) := by
  have G_y18 := ok_y18 (P := P) (w := w) (base := base) T
  have G_y8 := ok_y8 (P := P) (w := w) (base := base) T
  refine T.F_y12.okX sc_y12 (fun vs H Q E h => spPX_len h) (fun cdv A outer s H vs Q E hr h => ?_)
  refine ⟨_, (pss_cons (ps_expr (pe_call G_y18 hr.m (by rfl) T.mg_y18 T.kp_y18 T.B_y18 .nil passX (pa_cons (pv 0) pa_nil))) (pss_cons (ps_if (pt_not (pt_val (pe_bm PySem.F.plainAttrs_str PySem.F.slot_str_startswith PySem.F.type_str_startswith mt_startswith (pv 0) (pa_cons pe_str pa_nil)))) (pss_one (ps_ret (pe_call G_y8 hr.m (by rfl) T.mg_y8 T.kp_y8 T.B_y8 .nil passX (pa_cons (pv 0) (pa_cons (pe_glob (v := .int (60)) (by rfl) T.mg_y20 ⟨_, rfl⟩) pa_nil))))) pss_nil) (pss_cons (ps_set (i := 1) sc_y12.nd rfl (by walk_at "lr") (pe_call G_y8 hr.m (by rfl) T.mg_y8 T.kp_y8 T.B_y8 .nil passX (pa_cons (pe_slice sl_str (pv 0) (po_some pe_int) po_none) (pa_cons (pe_glob (v := .int (60)) (by rfl) T.mg_y20 ⟨_, rfl⟩) pa_nil)))) (pss_cons (ps_if (pt_cmpR (op_eqD (K := K) rfl hr.units) (pv 1) pe_int (nomark _)) (pss_one (ps_raise newX rfl (by rfl) T.mg_NoText T.ex_NoText PySem.F.excBase_ValueError (pa_cons pe_str pa_nil))) pss_nil) (pss_one (ps_ret (pe_un un_neg (pv 1)))))))), ?_⟩
  exact spPX_body (O' := []) (Nms := ["text", "number"]) (f := b_y12) (fx := x_y12) (by
      unfold b_y12
      exact (ms_seq (O1 := []) (ms_expr (me_callX n_y18 (ma_cons (me_var (i := 0)) ma_nil)) rfl) (ms_seq (O1 := []) (ms_if (mt_not (mt_val (me_sm sm_startswith (me_var (i := 0)) me_str))) (ms_ret rfl (me_callX n_y8 (ma_cons (me_var (i := 0)) (ma_cons me_int ma_nil))) rfl) (ms_nil rfl)) (ms_seq (O1 := []) (ms_set (me_callX n_y8 (ma_cons (me_sliceS (me_var (i := 0)) (mo_some me_int) mo_none) (ma_cons me_int ma_nil)))) (ms_seq (O1 := []) (ms_if (mt_test (me_opB os_eq (me_var (i := 1)) me_int.mb)) ms_raise (ms_nil rfl)) (ms_ret rfl (me_neg (me_var (i := 1))) rfl)))))) (by
      unfold x_y12
      exact (msx_seq (O1 := []) (ms_expr (me_callX n_y18 (ma_cons (me_var (i := 0)) ma_nil)) rfl) (msxa_expr (mx_call nx_y18 (ma_cons (me_var (i := 0)) ma_nil) max_no)).g (msx_seq (O1 := []) (ms_if (mt_not (mt_val (me_sm sm_startswith (me_var (i := 0)) me_str))) (ms_ret rfl (me_callX n_y8 (ma_cons (me_var (i := 0)) (ma_cons me_int ma_nil))) rfl) (ms_nil rfl)) (msx_if (mt_not (mt_val (me_sm sm_startswith (me_var (i := 0)) me_str))) mtx_no (msxa_ret (mx_call nx_y8 (ma_cons (me_var (i := 0)) (ma_cons me_int ma_nil)) max_no)).g msx_no) (msx_seq (O1 := []) (ms_set (me_callX n_y8 (ma_cons (me_sliceS (me_var (i := 0)) (mo_some me_int) mo_none) (ma_cons me_int ma_nil)))) (msxa_asg (mx_call nx_y8 (ma_cons (me_sliceS (me_var (i := 0)) (mo_some me_int) mo_none) (ma_cons me_int ma_nil)) max_no)).g (msx_seq (O1 := []) (ms_if (mt_test (me_opB os_eq (me_var (i := 1)) me_int.mb)) ms_raise (ms_nil rfl)) (msx_if (mt_test (me_opB os_eq (me_var (i := 1)) me_int.mb)) mtx_no (msxa_raise T.ns_NoText (ma_cons me_str ma_nil)).g msx_no)
      msx_no))))) h
noncomputable def b_y15 : Rho → Option Out :=
  (sSeq (sIf (mNot (mTest (mCall f_y17 (mCons (mVar 0) (mCons (mRet (.str "01")) mNil)))))
    (fun _ => none)
    sNil)
  (sRet (mOf (mComp 1 [] none (mSigns (mVar 0)) (gSet 0) (mRet true) (mOp1 dIntT (mVar 0))))))
noncomputable def f_y15 : List D → Option D := runP false 1 1 b_y15
theorem n_y15 : runsN 1 f_y15 := runP_n
noncomputable def x_y15 : Xr :=
  (xSeq (sIf (mNot (mTest (mCall f_y17 (mCons (mVar 0) (mCons (mRet (.str "01")) mNil)))))
    (fun _ => none)
    sNil) (xIf (mNot (mTest (mCall f_y17 (mCons (mVar 0) (mCons (mRet (.str "01")) mNil))))) xNo
    (xRaise "NoText" (mCons (mRet (.str "these are no bits")) mNil))
    xNo)
  xNo)
noncomputable def fx_y15 : List D → Option Str := runX 1 1 x_y15
theorem nx_y15 : runsX 1 fx_y15 := runX_n
theorem ok_y15 (T : Txt K mg a) : FnOk P w K mg base (CX1 P w) 2 a.f_y15 a.fd_y15 ["text"] (spPX K false 1 f_y15 fx_y15) := by
  have G_y17 := ok_y17 (P := P) (w := w) (base := base) T
  refine T.F_y15.okX sc_y15 (fun vs H Q E h => spPX_len h) (fun cdv A outer s H vs Q E hr h => ?_)
  refine ⟨_, (pss_cons (ps_if (pt_not (pt_val (pe_call G_y17 hr.m (by rfl) T.mg_y17 T.kp_y17 T.B_y17 .nil pass0 (pa_cons (pv 0) (pa_cons pe_str pa_nil))))) (pss_one (ps_raise newX rfl (by rfl) T.mg_NoText T.ex_NoText PySem.F.excBase_ValueError (pa_cons pe_str pa_nil))) pss_nil) (pss_one (ps_ret (pe_compX (sc := defScope s_y15) (N0 := ["text"]) passN0 rfl rfl rfl (show compOk _ _ ["sign"] 1 [] _ = true by decide +kernel) (pi_str (pv 0)) (fun _ _ _ _ _ => (pg_name (i := 0) (show List.Nodup (["sign"] : List Str) from (by decide +kernel)) rfl (Or.inl rfl))) (own_name (by decide)) (fun _ _ _ _ _ => pif_nil) (fun _ _ _ _ _ => (pe_callTy call_intT (by rfl) T.z_int (by rfl) (pa_cons (pv 0) pa_nil))))))), ?_⟩
  exact spPX_body (O' := []) (Nms := ["text"]) (f := b_y15) (fx := x_y15) (by
      unfold b_y15
      exact (ms_seq (O1 := []) (ms_if (mt_not (mt_val (me_callP n_y17 (ma_cons (me_var (i := 0)) (ma_cons me_str ma_nil))))) ms_raise (ms_nil rfl)) (ms_ret rfl (me_new (mn_comp (bw := none) (mi_str (me_var (i := 0))) (mg_name (i := 0)) mt_yes (me_call1 cs_intT mb_var))) rfl))) (by
      unfold x_y15
      exact (msx_seq (O1 := []) (ms_if (mt_not (mt_val (me_callP n_y17 (ma_cons (me_var (i := 0)) (ma_cons me_str ma_nil))))) ms_raise (ms_nil rfl)) (msx_if (mt_not (mt_val (me_callP n_y17 (ma_cons (me_var (i := 0)) (ma_cons me_str ma_nil))))) mtx_no (msxa_raise T.ns_NoText (ma_cons me_str ma_nil)).g msx_no)
      msx_no)) h
noncomputable def b_y16 : Rho → Option Out :=
  (sRet (mAndV (mOp2 dEq (mOp2 dIx (mVar 0) (mRet (.int 0))) (mRet (.str "reach"))) (mAndV (mOp2 dEq (mSl (mVar 0) (mPart (mRet (.int 2))) (mPart (mRet (.int 3)))) (mOf (mLst (mCons (mRet (.str "taps")) mNil)))) (mAndV (mOp2 (dInG false) (mRet (.str "rows")) (mVar 0)) (mOp1 (fun d => if flatD d = true then some (.bl (if false then !inD d [.str "open", .str "ended", .str "ring"] else inD d [.str "open", .str "ended", .str "ring"])) else none) (mOp2 dIx (mVar 0) (mOp1 dNeg (mRet (.int 1)))))))))
noncomputable def f_y16 : List D → Option D := runP false 1 1 b_y16
theorem n_y16 : runsN 1 f_y16 := runP_n
theorem ok_y16 (T : Txt K mg a) : FnOk P w K mg base CX0 1 a.f_y16 a.fd_y16 ["words"] (spP K false 1 f_y16) := by
  refine T.F_y16.ok sc_y16 (fun _ _ _ _ h => h.1) (fun cdv A outer s H vs Q E hr h => ?_)
  · refine ⟨_, (pss_one (ps_ret (pe_and (pe_cmpR (op_eqD (K := K) rfl hr.units) (pe_ix (ix_seqK (K := K) rfl) (pv 0) pe_int) pe_str (nomark _)) (pe_and (pe_cmpR (op_eqD (K := K) rfl hr.units) (pe_slice (sl_seqK (K := K) rfl) (pv 0) (po_some pe_int) (po_some pe_int)) (pe_lst (pa_cons pe_str pa_nil)) (nomark _)) (pe_and (pe_cmpR (op_inK (K := K) rfl) pe_str (pv 0) (by with_unfolding_all rfl)) (pe_one (pe_cmpR (op_inK (K := K) rfl) (pe_ix (ix_seqK (K := K) rfl) (pv 0) (pe_un un_neg pe_int)) (pe_glob (v := .ref a.t_ENDINGS) (by rfl) T.mg_ENDINGS rfl) (by with_unfolding_all rfl)))))))), ?_⟩
    exact spP_body (O' := []) (Nms := ["words"]) (f := b_y16) (by
      unfold b_y16
      exact (ms_ret rfl (me_and (me_opB os_eq (me_op op_ix (me_var (i := 0)) me_int) me_str.mb) (me_and (me_opB os_eq (me_slice (me_var (i := 0)) (mo_some me_int) (mo_some me_int)) (me_new (mn_lst (ma_cons me_str ma_nil))).mb) (me_and (me_opB os_in me_str mb_var) (os_inK (neg := false) (ds := [.str "open", .str "ended", .str "ring"]) T.tq_ENDINGS rfl rfl (me_op op_ix (me_var (i := 0)) (me_neg me_int)))))) rfl)) h
noncomputable def b_y9 : Rho → Option Out :=
  (sSeq (sDrop (mCall f_y18 (mCons (mVar 0) mNil)))
  (sSeq (sSet 1 (mOf (mOp2L dSplit (mVar 0) (mRet (.str " ")))))
  (sSeq (sIf (mNot (mTest (mCall f_y16 (mCons (mVar 1) mNil))))
    (fun _ => none)
    sNil)
  (sSeq (sSet 2 (mOp2 dIdx (mVar 1) (mRet (.str "rows"))))
  (sSeq (sSet 3 (mOf (mComp 1 [] none (mSeq (mSl (mVar 1) (mPart (mRet (.int 3))) (mPart (mVar 2)))) (gSet 0) (mRet true) (mCall f_y13 (mCons (mVar 0) mNil)))))
  (sSeq (sSet 4 (mOf (mComp 1 [] none (mSeq (mSl (mVar 1) (mPart (mOp2 dAdd (mVar 2) (mRet (.int 1)))) (mPart (mOp1 dNeg (mRet (.int 1)))))) (gSet 0) (mRet true) (mOp1 dTuple (mCall f_y15 (mCons (mVar 0) mNil))))))
  (sSeq (sSet 5 (mCall f_y13 (mCons (mOp2 dIx (mVar 1) (mRet (.int 1))) mNil)))
  (sSeq (sIf (mOr (mTest (mOp2 dEq (mOp1 dLen (mVar 3)) (mRet (.int 0)))) (mTest (mOp2 dEq (mOp1 dLen (mVar 4)) (mRet (.int 0)))))
    (fun _ => none)
    sNil)
  (fun _ => none)))))))))
noncomputable def f_y9 : List D → Option D := runP false 1 7 b_y9
theorem n_y9 : runsN 1 f_y9 := runP_n
noncomputable def x_y9 : Xr :=
  (xSeq (sDrop (mCall f_y18 (mCons (mVar 0) mNil))) (xCall fx_y18 (mCons (mVar 0) mNil) xNo)
  (xSeq (sSet 1 (mOf (mOp2L dSplit (mVar 0) (mRet (.str " "))))) xNo
  (xSeq (sIf (mNot (mTest (mCall f_y16 (mCons (mVar 1) mNil))))
    (fun _ => none)
    sNil) (xIf (mNot (mTest (mCall f_y16 (mCons (mVar 1) mNil)))) xNo
    (xRaise "NoText" (mCons (mRet (.str "a scheme is written as: reach R taps T .. rows B .. ENDING")) mNil))
    xNo)
  (xSeq (sSet 2 (mOp2 dIdx (mVar 1) (mRet (.str "rows")))) xNo
  (xSeq (sSet 3 (mOf (mComp 1 [] none (mSeq (mSl (mVar 1) (mPart (mRet (.int 3))) (mPart (mVar 2)))) (gSet 0) (mRet true) (mCall f_y13 (mCons (mVar 0) mNil))))) (xComp 1 [] (mSeq (mSl (mVar 1) (mPart (mRet (.int 3))) (mPart (mVar 2)))) (gSet 0) (mCall f_y13 (mCons (mVar 0) mNil)) (xCall fx_y13 (mCons (mVar 0) mNil) xNo))
  (xSeq (sSet 4 (mOf (mComp 1 [] none (mSeq (mSl (mVar 1) (mPart (mOp2 dAdd (mVar 2) (mRet (.int 1)))) (mPart (mOp1 dNeg (mRet (.int 1)))))) (gSet 0) (mRet true) (mOp1 dTuple (mCall f_y15 (mCons (mVar 0) mNil)))))) (xComp 1 [] (mSeq (mSl (mVar 1) (mPart (mOp2 dAdd (mVar 2) (mRet (.int 1)))) (mPart (mOp1 dNeg (mRet (.int 1)))))) (gSet 0) (mOp1 dTuple (mCall f_y15 (mCons (mVar 0) mNil))) (xThen (mCall f_y15 (mCons (mVar 0) mNil)) (xCall fx_y15 (mCons (mVar 0) mNil) xNo) xNo))
  (xSeq (sSet 5 (mCall f_y13 (mCons (mOp2 dIx (mVar 1) (mRet (.int 1))) mNil))) (xCall fx_y13 (mCons (mOp2 dIx (mVar 1) (mRet (.int 1))) mNil) xNo)
  (xSeq (sIf (mOr (mTest (mOp2 dEq (mOp1 dLen (mVar 3)) (mRet (.int 0)))) (mTest (mOp2 dEq (mOp1 dLen (mVar 4)) (mRet (.int 0)))))
    (fun _ => none)
    sNil) (xIf (mOr (mTest (mOp2 dEq (mOp1 dLen (mVar 3)) (mRet (.int 0)))) (mTest (mOp2 dEq (mOp1 dLen (mVar 4)) (mRet (.int 0))))) xNo
    (xRaise "NoText" (mCons (mRet (.str "a scheme has one tap and one row at least")) mNil))
    xNo)
  xNo))))))))
noncomputable def fx_y9 : List D → Option Str := runX 1 7 x_y9
theorem nx_y9 : runsX 1 fx_y9 := runX_n
theorem ok_y9 (T : Txt K mg a) : FnOk P w K mg base (CX1 P w) 4 a.f_y9 a.fd_y9 ["text"] (spPX K false 1 f_y9 fx_y9) := by
  have G_y18 := ok_y18 (P := P) (w := w) (base := base) T
  have G_y16 := ok_y16 (P := P) (w := w) (base := base) T
  have G_y13 := ok_y13 (P := P) (w := w) (base := base) T
  have G_y15 := ok_y15 (P := P) (w := w) (base := base) T
  refine T.F_y9.okX sc_y9 (fun vs H Q E h => spPX_len h) (fun cdv A outer s H vs Q E hr h => ?_)
  refine ⟨_, (pss_cons (ps_expr (pe_call G_y18 hr.m (by rfl) T.mg_y18 T.kp_y18 T.B_y18 .nil passX (pa_cons (pv 0) pa_nil))) (pss_cons (ps_set (i := 1) sc_y9.nd rfl (by walk_at "lr") (pe_bm PySem.F.plainAttrs_str PySem.F.slot_str_split PySem.F.type_str_split mt_split (pv 0) (pa_cons pe_str pa_nil))) (pss_cons (ps_if (pt_not (pt_val (pe_call G_y16 hr.m (by rfl) T.mg_y16 T.kp_y16 T.B_y16 .nil pass0 (pa_cons (pv 1) pa_nil)))) (pss_one (ps_raise newX rfl (by rfl) T.mg_NoText T.ex_NoText PySem.F.excBase_ValueError (pa_cons pe_str pa_nil))) pss_nil) (pss_cons (ps_set (i := 2) sc_y9.nd rfl (by walk_at "lr") (pe_bm PySem.F.plainAttrs_list PySem.F.slot_list_index PySem.F.type_list_index (mt_idx (K := K) rfl) (pv 1) (pa_cons pe_str pa_nil))) (pss_cons (ps_compX (k := 3) (sc := defScope s_y9) (N0 := ["text", "words", "split_at", "taps", "rows", "reach", "scheme"]) passN rfl rfl rfl (show compOk _ _ ["word"] 1 [] _ = true by decide +kernel) sc_y9.nd rfl (Or.inl rfl) (pi_seqK (K := K) rfl (pe_slice (sl_seqK (K := K) rfl) (pv 1) (po_some pe_int) (po_some (pv 2)))) (fun _ _ _ _ _ => (pg_name (i := 0) (show List.Nodup (["word"] : List Str) from (by decide +kernel)) rfl (Or.inl rfl))) (own_name (by decide)) (fun _ _ _ _ _ => pif_nil) (fun _ _ _ _ _ => (pe_call G_y13 hr.m (by rfl) T.mg_y13 T.kp_y13 T.B_y13 .nil passB (pa_cons (pv 0) pa_nil)))) (pss_cons (ps_compX (k := 4) (sc := defScope s_y9) (N0 := ["text", "words", "split_at", "taps", "rows", "reach", "scheme"]) passN rfl rfl rfl (show compOk _ _ ["word"] 1 [] _ = true by decide +kernel) sc_y9.nd rfl (Or.inl rfl) (pi_seqK (K := K) rfl (pe_slice (sl_seqK (K := K) rfl) (pv 1) (po_some (pe_op (op_addG (K := K) rfl) (pv 2) pe_int)) (po_some (pe_un un_neg pe_int)))) (fun _ _ _ _ _ => (pg_name (i := 0) (show List.Nodup (["word"] : List Str) from (by decide +kernel)) rfl (Or.inl rfl))) (own_name (by decide)) (fun _ _ _ _ _ => pif_nil) (fun _ _ _ _ _ => (pe_callTy (call_tupleK (K := K) rfl) (by rfl) T.z_tuple (by rfl) (pa_cons (pe_call G_y15 hr.m (by rfl) T.mg_y15 T.kp_y15 T.B_y15 .nil passB (pa_cons (pv 0) pa_nil)) pa_nil)))) (pss_cons (ps_set (i := 5) sc_y9.nd rfl (by walk_at "lr") (pe_call G_y13 hr.m (by rfl) T.mg_y13 T.kp_y13 T.B_y13 .nil passX (pa_cons (pe_ix (ix_seqK (K := K) rfl) (pv 1) pe_int) pa_nil))) (pss_cons (ps_if (PW.pt (pw_or (pt_cmpR (op_eqD (K := K) rfl hr.units) (pe_callB (call_lenK (K := K) rfl) (by rfl) T.z_len (by rfl) (pa_cons (pv 3) pa_nil)) pe_int (nomark _)) (pw_or1 (pt_cmpR (op_eqD (K := K) rfl hr.units) (pe_callB (call_lenK (K := K) rfl) (by rfl) T.z_len (by rfl) (pa_cons (pv 4) pa_nil)) pe_int (nomark _))))) (pss_one (ps_raise newX rfl (by rfl) T.mg_NoText T.ex_NoText PySem.F.excBase_ValueError (pa_cons pe_str pa_nil))) pss_nil)
      pss_never)))))))), ?_⟩
  exact spPX_body (O' := []) (Nms := ["text", "words", "split_at", "taps", "rows", "reach", "scheme"]) (f := b_y9) (fx := x_y9) (by
      unfold b_y9
      exact (ms_seq (O1 := []) (ms_expr (me_callX n_y18 (ma_cons (me_var (i := 0)) ma_nil)) rfl) (ms_seq (O1 := []) (ms_set (me_new (mn_split (me_var (i := 0)) me_str))) (ms_seq (O1 := []) (ms_if (mt_not (mt_val (me_callP n_y16 (ma_cons (me_var (i := 1)) ma_nil)))) ms_raise (ms_nil rfl)) (ms_seq (O1 := []) (ms_set (me_idxL (me_var (i := 1)) me_str)) (ms_seq (O1 := []) (ms_setC (mn_comp (bw := none) (mi_seq (me_slice (me_var (i := 1)) (mo_some me_int) (mo_some (me_var (i := 2))))) (mg_name (i := 0)) mt_yes (me_callX n_y13 (ma_cons (me_var (i := 0)) ma_nil))) rfl (by decide)) (ms_seq (O1 := []) (ms_setC (mn_comp (bw := none) (mi_seq (me_slice (me_var (i := 1)) (mo_some (me_op og_add (me_var (i := 2)) me_int)) (mo_some (me_neg me_int)))) (mg_name (i := 0)) mt_yes (me_callG cg_tuple (me_callX n_y15 (ma_cons (me_var (i := 0)) ma_nil)))) rfl (by decide)) (ms_seq (O1 := []) (ms_set (me_callX n_y13 (ma_cons (me_op op_ix (me_var (i := 1)) me_int) ma_nil))) (ms_seq (O1 := []) (ms_if (mt_or (mt_test (me_opB os_eq (me_call1 cs_len mb_var) me_int.mb)) (mt_test (me_opB os_eq (me_call1 cs_len mb_var) me_int.mb))) ms_raise (ms_nil rfl))
      ms_never))))))))) (by
      unfold x_y9
      exact (msx_seq (O1 := []) (ms_expr (me_callX n_y18 (ma_cons (me_var (i := 0)) ma_nil)) rfl) (msxa_expr (mx_call nx_y18 (ma_cons (me_var (i := 0)) ma_nil) max_no)).g (msx_seq (O1 := []) (ms_set (me_new (mn_split (me_var (i := 0)) me_str))) msx_no (msx_seq (O1 := []) (ms_if (mt_not (mt_val (me_callP n_y16 (ma_cons (me_var (i := 1)) ma_nil)))) ms_raise (ms_nil rfl)) (msx_if (mt_not (mt_val (me_callP n_y16 (ma_cons (me_var (i := 1)) ma_nil)))) mtx_no (msxa_raise T.ns_NoText (ma_cons me_str ma_nil)).g msx_no) (msx_seq (O1 := []) (ms_set (me_idxL (me_var (i := 1)) me_str)) msx_no (msx_seq (O1 := []) (ms_setC (mn_comp (bw := none) (mi_seq (me_slice (me_var (i := 1)) (mo_some me_int) (mo_some (me_var (i := 2))))) (mg_name (i := 0)) mt_yes (me_callX n_y13 (ma_cons (me_var (i := 0)) ma_nil))) rfl (by decide)) (msxa_asgC (mx_comp (mi_seq (me_slice (me_var (i := 1)) (mo_some me_int) (mo_some (me_var (i := 2))))) (mg_name (i := 0)) (me_callX n_y13 (ma_cons (me_var (i := 0)) ma_nil)) (mx_call nx_y13 (ma_cons (me_var (i := 0)) ma_nil) max_no))).g (msx_seq (O1 := []) (ms_setC (mn_comp (bw := none) (mi_seq (me_slice (me_var (i := 1)) (mo_some (me_op og_add (me_var (i := 2)) me_int)) (mo_some (me_neg me_int)))) (mg_name (i := 0)) mt_yes (me_callG cg_tuple (me_callX n_y15 (ma_cons (me_var (i := 0)) ma_nil)))) rfl (by decide)) (msxa_asgC (mx_comp (mi_seq (me_slice (me_var (i := 1)) (mo_some (me_op og_add (me_var (i := 2)) me_int)) (mo_some (me_neg me_int)))) (mg_name (i := 0)) (me_callG cg_tuple (me_callX n_y15 (ma_cons (me_var (i := 0)) ma_nil))) (mx_cb (max_cons (me_callX n_y15 (ma_cons (me_var (i := 0)) ma_nil)) (mx_call nx_y15 (ma_cons (me_var (i := 0)) ma_nil) max_no) max_no)))).g (msx_seq (O1 := []) (ms_set (me_callX n_y13 (ma_cons (me_op op_ix (me_var (i := 1)) me_int) ma_nil))) (msxa_asg (mx_call nx_y13 (ma_cons (me_op op_ix (me_var (i := 1)) me_int) ma_nil) max_no)).g (msx_seq (O1 := []) (ms_if (mt_or (mt_test (me_opB os_eq (me_call1 cs_len mb_var) me_int.mb)) (mt_test (me_opB os_eq (me_call1 cs_len mb_var) me_int.mb))) ms_raise (ms_nil rfl)) (msx_if (mt_or (mt_test (me_opB os_eq (me_call1 cs_len mb_var) me_int.mb)) (mt_test (me_opB os_eq (me_call1 cs_len mb_var) me_int.mb))) mtx_no (msxa_raise T.ns_NoText (ma_cons me_str ma_nil)).g msx_no)
      msx_no))))))))) h
noncomputable def b_y14 : Rho → Option Out :=
  (sSeq (sIf (mTest (mOp2 dEq (mVar 0) (mRet (.str "?"))))
    (sRet (mTup (mCons (mRet (.str "gap")) mNil)))
    sNil)
  (sSeq (sIf (mTest (mOp2 dInS (mRet (.str "/")) (mVar 0)))
    (sSeq (sSet 1 (mOp2 dPartition (mVar 0) (mRet (.str "/"))))
  (sRet (mTup (mCons (mRet (.str "soft")) (mCons (mCall f_y12 (mCons (mOp2 dIx (mVar 1) (mRet (.int 0))) mNil)) (mCons (mCall f_y12 (mCons (mOp2 dIx (mVar 1) (mRet (.int 2))) mNil)) mNil))))))
    sNil)
  (sSeq (sIf (mOr (mTest (mOp2 dEq (mVar 0) (mRet (.str "0")))) (mTest (mOp2 dEq (mVar 0) (mRet (.str "1")))))
    (sRet (mTup (mCons (mRet (.str "clear")) (mCons (mOp1 dIntT (mVar 0)) mNil))))
    sNil)
  (fun _ => none))))
noncomputable def f_y14 : List D → Option D := runP false 1 2 b_y14
theorem n_y14 : runsN 1 f_y14 := runP_n
noncomputable def x_y14 : Xr :=
  (xSeq (sIf (mTest (mOp2 dEq (mVar 0) (mRet (.str "?"))))
    (sRet (mTup (mCons (mRet (.str "gap")) mNil)))
    sNil) xNo
  (xSeq (sIf (mTest (mOp2 dInS (mRet (.str "/")) (mVar 0)))
    (sSeq (sSet 1 (mOp2 dPartition (mVar 0) (mRet (.str "/"))))
  (sRet (mTup (mCons (mRet (.str "soft")) (mCons (mCall f_y12 (mCons (mOp2 dIx (mVar 1) (mRet (.int 0))) mNil)) (mCons (mCall f_y12 (mCons (mOp2 dIx (mVar 1) (mRet (.int 2))) mNil)) mNil))))))
    sNil) (xIf (mTest (mOp2 dInS (mRet (.str "/")) (mVar 0))) xNo
    (xSeq (sSet 1 (mOp2 dPartition (mVar 0) (mRet (.str "/")))) xNo
  (xThen (mRet (D.str "soft")) xNo (xThen (mCall f_y12 (mCons (mOp2 dIx (mVar 1) (mRet (.int 0))) mNil)) (xCall fx_y12 (mCons (mOp2 dIx (mVar 1) (mRet (.int 0))) mNil) xNo) (xThen (mCall f_y12 (mCons (mOp2 dIx (mVar 1) (mRet (.int 2))) mNil)) (xCall fx_y12 (mCons (mOp2 dIx (mVar 1) (mRet (.int 2))) mNil) xNo) xNo))))
    xNo)
  (xSeq (sIf (mOr (mTest (mOp2 dEq (mVar 0) (mRet (.str "0")))) (mTest (mOp2 dEq (mVar 0) (mRet (.str "1")))))
    (sRet (mTup (mCons (mRet (.str "clear")) (mCons (mOp1 dIntT (mVar 0)) mNil))))
    sNil) xNo
  (xRaise "NoText" (mCons (mRet (.str "this is no heard sign")) mNil)))))
noncomputable def fx_y14 : List D → Option Str := runX 1 2 x_y14
theorem nx_y14 : runsX 1 fx_y14 := runX_n
theorem ok_y14 (T : Txt K mg a) : FnOk P w K mg base (CX1 P w) 4 a.f_y14 a.fd_y14 ["word"] (spPX K false 1 f_y14 fx_y14) := by
  have G_y12 := ok_y12 (P := P) (w := w) (base := base) T
  refine T.F_y14.okX sc_y14 (fun vs H Q E h => spPX_len h) (fun cdv A outer s H vs Q E hr h => ?_)
  refine ⟨_, (pss_cons (ps_if (pt_cmpR (op_eqD (K := K) rfl hr.units) (pv 0) pe_str (nomark _)) (pss_one (ps_ret (pe_tup (pa_cons pe_str pa_nil)))) pss_nil) (pss_cons (ps_if (pt_cmpR op_in_str pe_str (pv 0) (by with_unfolding_all rfl)) (pss_cons (ps_set (i := 1) sc_y14.nd rfl (by walk_at "lr") (pe_bm PySem.F.plainAttrs_str PySem.F.slot_str_partition PySem.F.type_str_partition mt_partition (pv 0) (pa_cons pe_str pa_nil))) (pss_one (ps_ret (pe_tup (pa_cons pe_str (pa_cons (pe_call G_y12 hr.m (by rfl) T.mg_y12 T.kp_y12 T.B_y12 .nil passX (pa_cons (pe_ix (ix_seqK (K := K) rfl) (pv 1) pe_int) pa_nil)) (pa_cons (pe_call G_y12 hr.m (by rfl) T.mg_y12 T.kp_y12 T.B_y12 .nil passX (pa_cons (pe_ix (ix_seqK (K := K) rfl) (pv 1) pe_int) pa_nil)) pa_nil))))))) pss_nil) (pss_cons (ps_if (PW.pt (pw_or (pt_cmpR (op_eqD (K := K) rfl hr.units) (pv 0) pe_str (nomark _)) (pw_or1 (pt_cmpR (op_eqD (K := K) rfl hr.units) (pv 0) pe_str (nomark _))))) (pss_one (ps_ret (pe_tup (pa_cons pe_str (pa_cons (pe_callTy call_intT (by rfl) T.z_int (by rfl) (pa_cons (pv 0) pa_nil)) pa_nil))))) pss_nil) (pss_one (ps_raise newX rfl (by rfl) T.mg_NoText T.ex_NoText PySem.F.excBase_ValueError (pa_cons pe_str pa_nil)))))), ?_⟩
  exact spPX_body (O' := []) (Nms := ["word", "parts"]) (f := b_y14) (fx := x_y14) (by
      unfold b_y14
      exact (ms_seq (O1 := []) (ms_if (mt_test (me_opB os_eq (me_var (i := 0)) me_str.mb)) (ms_ret rfl (me_tup (ma_cons me_str ma_nil)) rfl) (ms_nil rfl)) (ms_seq (O1 := []) (ms_if (mt_test (me_opB os_inS me_str mb_var)) (ms_seq (O1 := []) (ms_set (me_partition (me_var (i := 0)) me_str)) (ms_ret rfl (me_tup (ma_cons me_str (ma_cons (me_callX n_y12 (ma_cons (me_op op_ix (me_var (i := 1)) me_int) ma_nil)) (ma_cons (me_callX n_y12 (ma_cons (me_op op_ix (me_var (i := 1)) me_int) ma_nil)) ma_nil)))) rfl)) (ms_nil rfl)) (ms_seq (O1 := []) (ms_if (mt_or (mt_test (me_opB os_eq (me_var (i := 0)) me_str.mb)) (mt_test (me_opB os_eq (me_var (i := 0)) me_str.mb))) (ms_ret rfl (me_tup (ma_cons me_str (ma_cons (me_call1 cs_intT mb_var) ma_nil))) rfl) (ms_nil rfl))
      ms_raise)))) (by
      unfold x_y14
      exact (msx_seq (O1 := []) (ms_if (mt_test (me_opB os_eq (me_var (i := 0)) me_str.mb)) (ms_ret rfl (me_tup (ma_cons me_str ma_nil)) rfl) (ms_nil rfl)) msx_no (msx_seq (O1 := []) (ms_if (mt_test (me_opB os_inS me_str mb_var)) (ms_seq (O1 := []) (ms_set (me_partition (me_var (i := 0)) me_str)) (ms_ret rfl (me_tup (ma_cons me_str (ma_cons (me_callX n_y12 (ma_cons (me_op op_ix (me_var (i := 1)) me_int) ma_nil)) (ma_cons (me_callX n_y12 (ma_cons (me_op op_ix (me_var (i := 1)) me_int) ma_nil)) ma_nil)))) rfl)) (ms_nil rfl)) (msx_if (mt_test (me_opB os_inS me_str mb_var)) mtx_no (msx_seq (O1 := []) (ms_set (me_partition (me_var (i := 0)) me_str)) msx_no (msxa_ret (mx_tup (max_cons me_str mx_no (max_cons (me_callX n_y12 (ma_cons (me_op op_ix (me_var (i := 1)) me_int) ma_nil)) (mx_call nx_y12 (ma_cons (me_op op_ix (me_var (i := 1)) me_int) ma_nil) max_no) (max_cons (me_callX n_y12 (ma_cons (me_op op_ix (me_var (i := 1)) me_int) ma_nil)) (mx_call nx_y12 (ma_cons (me_op op_ix (me_var (i := 1)) me_int) ma_nil) max_no) max_no))))).g) msx_no) (msx_seq (O1 := []) (ms_if (mt_or (mt_test (me_opB os_eq (me_var (i := 0)) me_str.mb)) (mt_test (me_opB os_eq (me_var (i := 0)) me_str.mb))) (ms_ret rfl (me_tup (ma_cons me_str (ma_cons (me_call1 cs_intT mb_var) ma_nil))) rfl) (ms_nil rfl)) msx_no (msxa_raise T.ns_NoText (ma_cons me_str ma_nil)).g)))) h
noncomputable def b_y11 : Rho → Option Out :=
  (sSeq (sDrop (mCall f_y18 (mCons (mVar 0) mNil)))
  (sRet (mIf (mTest (mOp2 dEq (mVar 0) (mRet (.str "")))) (mOf (mLst mNil)) (mOf (mComp 1 [] none (mSeq (mOf (mOp2L dSplit (mVar 0) (mRet (.str " "))))) (gSet 0) (mRet true) (mCall f_y14 (mCons (mVar 0) mNil)))))))
noncomputable def f_y11 : List D → Option D := runP false 1 1 b_y11
theorem n_y11 : runsN 1 f_y11 := runP_n
noncomputable def x_y11 : Xr :=
  (xSeq (sDrop (mCall f_y18 (mCons (mVar 0) mNil))) (xCall fx_y18 (mCons (mVar 0) mNil) xNo)
  (xIf (mTest (mOp2 dEq (mVar 0) (mRet (.str "")))) xNo xNo (xComp 1 [] (mSeq (mOf (mOp2L dSplit (mVar 0) (mRet (.str " "))))) (gSet 0) (mCall f_y14 (mCons (mVar 0) mNil)) (xCall fx_y14 (mCons (mVar 0) mNil) xNo))))
noncomputable def fx_y11 : List D → Option Str := runX 1 1 x_y11
theorem nx_y11 : runsX 1 fx_y11 := runX_n
theorem ok_y11 (T : Txt K mg a) : FnOk P w K mg base (CX1 P w) 5 a.f_y11 a.fd_y11 ["text"] (spPX K false 1 f_y11 fx_y11) := by
  have G_y18 := ok_y18 (P := P) (w := w) (base := base) T
  have G_y14 := ok_y14 (P := P) (w := w) (base := base) T
  refine T.F_y11.okX sc_y11 (fun vs H Q E h => spPX_len h) (fun cdv A outer s H vs Q E hr h => ?_)
  refine ⟨_, (pss_cons (ps_expr (pe_call G_y18 hr.m (by rfl) T.mg_y18 T.kp_y18 T.B_y18 .nil passX (pa_cons (pv 0) pa_nil))) (pss_one (ps_ret (pe_ifExp (pt_cmpR (op_eqD (K := K) rfl hr.units) (pv 0) pe_str (nomark _)) (pe_lst pa_nil) (pe_compX (sc := defScope s_y11) (N0 := ["text"]) passN rfl rfl rfl (show compOk _ _ ["word"] 1 [] _ = true by decide +kernel) (pi_seqK (K := K) rfl (pe_bmK (K := K) rfl PySem.F.plainAttrs_str PySem.F.slot_str_split PySem.F.type_str_split mt_split (pv 0) (pa_cons pe_str pa_nil))) (fun _ _ _ _ _ => (pg_name (i := 0) (show List.Nodup (["word"] : List Str) from (by decide +kernel)) rfl (Or.inl rfl))) (own_name (by decide)) (fun _ _ _ _ _ => pif_nil) (fun _ _ _ _ _ => (pe_call G_y14 hr.m (by rfl) T.mg_y14 T.kp_y14 T.B_y14 .nil passB (pa_cons (pv 0) pa_nil)))))))), ?_⟩
  exact spPX_body (O' := []) (Nms := ["text"]) (f := b_y11) (fx := x_y11) (by
      unfold b_y11
      exact (ms_seq (O1 := []) (ms_expr (me_callX n_y18 (ma_cons (me_var (i := 0)) ma_nil)) rfl) (ms_ret rfl (me_if (mt_test (me_opB os_eq (me_var (i := 0)) me_str.mb)) (me_new (mn_lst ma_nil)) (me_new (mn_comp (bw := none) (mi_seq (me_new (mn_split (me_var (i := 0)) me_str))) (mg_name (i := 0)) mt_yes (me_callX n_y14 (ma_cons (me_var (i := 0)) ma_nil))))) rfl))) (by
      unfold x_y11
      exact (msx_seq (O1 := []) (ms_expr (me_callX n_y18 (ma_cons (me_var (i := 0)) ma_nil)) rfl) (msxa_expr (mx_call nx_y18 (ma_cons (me_var (i := 0)) ma_nil) max_no)).g (msxa_ret (mx_ifE (mt_test (me_opB os_eq (me_var (i := 0)) me_str.mb)) mx_no (mx_comp (mi_seq (me_new (mn_split (me_var (i := 0)) me_str))) (mg_name (i := 0)) (me_callX n_y14 (ma_cons (me_var (i := 0)) ma_nil)) (mx_call nx_y14 (ma_cons (me_var (i := 0)) ma_nil) max_no)))).g)) h
noncomputable def b_y10 : Rho → Option Out :=
  (sSeq (sDrop (mCall f_y18 (mCons (mVar 0) mNil)))
  (sSeq (sIf (mTest (mOp2 dEq (mVar 0) (mRet (.str "-"))))
    (sRet (mOf (mLst mNil)))
    sNil)
  (sSeq (sSet 1 (mOf (mComp 1 [] none (mSeq (mOf (mOp2L dSplit (mVar 0) (mRet (.str ","))))) (gSet 0) (mRet true) (mCall f_y8 (mCons (mVar 0) (mCons (mRet (.int (60))) mNil))))))
  (sSeq (sIf (mTest (mOp1 dAny (mOf (mComp 2 [] none (mZip (mCons (mVar 1) (mCons (mSl (mVar 1) (mPart (mRet (.int 1))) (mRet none)) mNil))) (gTupD 2 (gsCons (gSet 0) (gsCons (gSet 1) gsNil))) (mRet true) (mOp2 dGe (mVar 0) (mVar 1))))))
    (fun _ => none)
    sNil)
  (sRet (mVar 1))))))
noncomputable def f_y10 : List D → Option D := runP false 1 2 b_y10
theorem n_y10 : runsN 1 f_y10 := runP_n
noncomputable def x_y10 : Xr :=
  (xSeq (sDrop (mCall f_y18 (mCons (mVar 0) mNil))) (xCall fx_y18 (mCons (mVar 0) mNil) xNo)
  (xSeq (sIf (mTest (mOp2 dEq (mVar 0) (mRet (.str "-"))))
    (sRet (mOf (mLst mNil)))
    sNil) xNo
  (xSeq (sSet 1 (mOf (mComp 1 [] none (mSeq (mOf (mOp2L dSplit (mVar 0) (mRet (.str ","))))) (gSet 0) (mRet true) (mCall f_y8 (mCons (mVar 0) (mCons (mRet (.int (60))) mNil)))))) (xComp 1 [] (mSeq (mOf (mOp2L dSplit (mVar 0) (mRet (.str ","))))) (gSet 0) (mCall f_y8 (mCons (mVar 0) (mCons (mRet (.int (60))) mNil))) (xCall fx_y8 (mCons (mVar 0) (mCons (mRet (.int (60))) mNil)) xNo))
  (xSeq (sIf (mTest (mOp1 dAny (mOf (mComp 2 [] none (mZip (mCons (mVar 1) (mCons (mSl (mVar 1) (mPart (mRet (.int 1))) (mRet none)) mNil))) (gTupD 2 (gsCons (gSet 0) (gsCons (gSet 1) gsNil))) (mRet true) (mOp2 dGe (mVar 0) (mVar 1))))))
    (fun _ => none)
    sNil) (xIf (mTest (mOp1 dAny (mOf (mComp 2 [] none (mZip (mCons (mVar 1) (mCons (mSl (mVar 1) (mPart (mRet (.int 1))) (mRet none)) mNil))) (gTupD 2 (gsCons (gSet 0) (gsCons (gSet 1) gsNil))) (mRet true) (mOp2 dGe (mVar 0) (mVar 1)))))) xNo
    (xRaise "NoText" (mCons (mRet (.str "each place is above the one ahead")) mNil))
    xNo)
  xNo))))
noncomputable def fx_y10 : List D → Option Str := runX 1 2 x_y10
theorem nx_y10 : runsX 1 fx_y10 := runX_n
theorem ok_y10 (T : Txt K mg a) : FnOk P w K mg base (CX1 P w) 3 a.f_y10 a.fd_y10 ["text"] (spPX K false 1 f_y10 fx_y10) := by
  have G_y18 := ok_y18 (P := P) (w := w) (base := base) T
  have G_y8 := ok_y8 (P := P) (w := w) (base := base) T
  refine T.F_y10.okX sc_y10 (fun vs H Q E h => spPX_len h) (fun cdv A outer s H vs Q E hr h => ?_)
  refine ⟨_, (pss_cons (ps_expr (pe_call G_y18 hr.m (by rfl) T.mg_y18 T.kp_y18 T.B_y18 .nil passX (pa_cons (pv 0) pa_nil))) (pss_cons (ps_if (pt_cmpR (op_eqD (K := K) rfl hr.units) (pv 0) pe_str (nomark _)) (pss_one (ps_ret (pe_lst pa_nil))) pss_nil) (pss_cons (ps_compX (k := 1) (sc := defScope s_y10) (N0 := ["text", "places"]) passN rfl rfl rfl (show compOk _ _ ["word"] 1 [] _ = true by decide +kernel) sc_y10.nd rfl (Or.inl rfl) (pi_seqK (K := K) rfl (pe_bmK (K := K) rfl PySem.F.plainAttrs_str PySem.F.slot_str_split PySem.F.type_str_split mt_split (pv 0) (pa_cons pe_str pa_nil))) (fun _ _ _ _ _ => (pg_name (i := 0) (show List.Nodup (["word"] : List Str) from (by decide +kernel)) rfl (Or.inl rfl))) (own_name (by decide)) (fun _ _ _ _ _ => pif_nil) (fun _ _ _ _ _ => (pe_call G_y8 hr.m (by rfl) T.mg_y8 T.kp_y8 T.B_y8 .nil passB (pa_cons (pv 0) (pa_cons (pe_glob (v := .int (60)) (by rfl) T.mg_y20 ⟨_, rfl⟩) pa_nil))))) (pss_cons (ps_if (pt_val (pe_callB (call_any (K := K) rfl rfl) (by rfl) T.z_any (by rfl) (pa_cons (pe_compX (sc := defScope s_y10) (N0 := ["text", "places"]) passN0 rfl rfl rfl (show compOk _ _ ["place", "later"] 2 [] _ = true by decide +kernel) (pi_zipG (K := K) rfl (by rfl) T.z_zip (pa_cons (pv 1) (pa_cons (pe_slice (sl_seqK (K := K) rfl) (pv 1) (po_some pe_int) po_none) pa_nil))) (fun _ _ _ _ _ => (pg_tupK (K := K) rfl rfl (pgs_cons (pg_name (i := 0) (show List.Nodup (["place", "later"] : List Str) from (by decide +kernel)) rfl (Or.inl rfl)) (pgs_cons (pg_name (i := 1) (show List.Nodup (["place", "later"] : List Str) from (by decide +kernel)) rfl (Or.inl rfl)) pgs_nil)))) (own_tup2 (by decide) (by decide)) (fun _ _ _ _ _ => pif_nil) (fun _ _ _ _ _ => (pe_cmpR op_ge (pv 0) (pv 1) (nomark _)))) pa_nil))) (pss_one (ps_raise newX rfl (by rfl) T.mg_NoText T.ex_NoText PySem.F.excBase_ValueError (pa_cons pe_str pa_nil))) pss_nil) (pss_one (ps_ret (pv 1))))))), ?_⟩
  exact spPX_body (O' := []) (Nms := ["text", "places"]) (f := b_y10) (fx := x_y10) (by
      unfold b_y10
      exact (ms_seq (O1 := []) (ms_expr (me_callX n_y18 (ma_cons (me_var (i := 0)) ma_nil)) rfl) (ms_seq (O1 := []) (ms_if (mt_test (me_opB os_eq (me_var (i := 0)) me_str.mb)) (ms_ret rfl (me_new (mn_lst ma_nil)) rfl) (ms_nil rfl)) (ms_seq (O1 := []) (ms_setC (mn_comp (bw := none) (mi_seq (me_new (mn_split (me_var (i := 0)) me_str))) (mg_name (i := 0)) mt_yes (me_callX n_y8 (ma_cons (me_var (i := 0)) (ma_cons me_int ma_nil)))) rfl (by decide)) (ms_seq (O1 := []) (ms_if (mt_val (me_call1 cs_any (me_new (mn_comp (bw := none) (mi_zip (ma_cons (me_var (i := 1)) (ma_cons (me_slice (me_var (i := 1)) (mo_some me_int) mo_none) ma_nil))) (mg_tup (mgs_cons (mg_name (i := 0)) (mgs_cons (mg_name (i := 1)) mgs_nil))) mt_yes (me_opB os_b0 (me_var (i := 0)) mb_var))).mb)) ms_raise (ms_nil rfl)) (ms_ret rfl (me_var (i := 1)) rfl)))))) (by
      unfold x_y10
      exact (msx_seq (O1 := []) (ms_expr (me_callX n_y18 (ma_cons (me_var (i := 0)) ma_nil)) rfl) (msxa_expr (mx_call nx_y18 (ma_cons (me_var (i := 0)) ma_nil) max_no)).g (msx_seq (O1 := []) (ms_if (mt_test (me_opB os_eq (me_var (i := 0)) me_str.mb)) (ms_ret rfl (me_new (mn_lst ma_nil)) rfl) (ms_nil rfl)) msx_no (msx_seq (O1 := []) (ms_setC (mn_comp (bw := none) (mi_seq (me_new (mn_split (me_var (i := 0)) me_str))) (mg_name (i := 0)) mt_yes (me_callX n_y8 (ma_cons (me_var (i := 0)) (ma_cons me_int ma_nil)))) rfl (by decide)) (msxa_asgC (mx_comp (mi_seq (me_new (mn_split (me_var (i := 0)) me_str))) (mg_name (i := 0)) (me_callX n_y8 (ma_cons (me_var (i := 0)) (ma_cons me_int ma_nil))) (mx_call nx_y8 (ma_cons (me_var (i := 0)) (ma_cons me_int ma_nil)) max_no))).g (msx_seq (O1 := []) (ms_if (mt_val (me_call1 cs_any (me_new (mn_comp (bw := none) (mi_zip (ma_cons (me_var (i := 1)) (ma_cons (me_slice (me_var (i := 1)) (mo_some me_int) mo_none) ma_nil))) (mg_tup (mgs_cons (mg_name (i := 0)) (mgs_cons (mg_name (i := 1)) mgs_nil))) mt_yes (me_opB os_b0 (me_var (i := 0)) mb_var))).mb)) ms_raise (ms_nil rfl)) (msx_if (mt_val (me_call1 cs_any (me_new (mn_comp (bw := none) (mi_zip (ma_cons (me_var (i := 1)) (ma_cons (me_slice (me_var (i := 1)) (mo_some me_int) mo_none) ma_nil))) (mg_tup (mgs_cons (mg_name (i := 0)) (mgs_cons (mg_name (i := 1)) mgs_nil))) mt_yes (me_opB os_b0 (me_var (i := 0)) mb_var))).mb)) mtx_no (msxa_raise T.ns_NoText (ma_cons me_str ma_nil)).g msx_no)
      msx_no))))) h
noncomputable def b_y6 : Rho → Option Out :=
  (sSeq (sSetI 0 (mOp2 dMod (mOp2 dAdd (mOp2 dMulG (mIxO 0 (mRet (.int 0))) (mRet (.int 1181783497276652981))) (mRet (.int 12345678910987))) (mOp2 dSub (mOp2 dPow (mRet (.int 2)) (mRet (.int 61))) (mRet (.int 1)))) (mRet (.int 0)))
  (sRet (mOp2 dMod (mOp2 dDiv (mIxO 0 (mRet (.int 0))) (mRet (.int 65537))) (mVar 1))))
noncomputable def f_y6 : List D → List D → Option (D × List D) := runS false 2 2 b_y6
theorem n_y6 : runsS 2 f_y6 := runS_n
theorem ok_y6 (T : Txt K mg a) : FnOk P w K mg base CX0 1 a.f_y6 a.fd_y6 ["_law_state", "_law_many"] (spS K false 2 f_y6) := by
  refine T.F_y6.ok sc_y6 (fun _ _ _ _ h => h.1) (fun cdv A outer s H vs Q E hr h => ?_)
  · refine ⟨_, (pss_cons (ps_asg (pe_op op_mod (pe_op (op_addG (K := K) rfl) (pe_op (op_mulG (K := K) rfl) (pe_ix (ix_seqK (K := K) rfl) (pv 0) pe_int) pe_int) pe_int) (pe_op op_sub (pe_op op_pow pe_int pe_int) pe_int)) (pg_sub (pv 0) pe_int set_list)) (pss_one (ps_ret (pe_op op_mod (pe_op op_fdiv (pe_ix (ix_seqK (K := K) rfl) (pv 0) pe_int) pe_int) (pv 1))))), ?_⟩
    exact spS_body (O' := []) (Nms := ["_law_state", "_law_many"]) (f := b_y6) (by
      unfold b_y6
      exact (ms_seq (O1 := [0]) (ms_setI (by decide) (me_op og_mod (me_op og_add (me_op og_mulG (me_ixO (i := 0) (by decide) me_int) me_int) me_int) (me_op og_sub (me_op og_pow me_int me_int) me_int)) me_int rfl) (ms_ret rfl (me_op og_mod (me_op og_div (me_ixO (i := 0) (by decide) me_int) me_int) (me_var (i := 1))) rfl))) h
noncomputable def b_y7 : Rho → Option Out :=
  (sSeq (sSet 1 (mRet (.int 1000003)))
  (sSeq (sFor (mSeq (mVar 0)) (gSet 2)
    (sSet 1 (mOp2 dMod (mOp2 dAdd (mOp2 dAdd (mOp2 dMulG (mVar 1) (mRet (.int 7368787))) (mOp2 dMod (mVar 2) (mOp2 dPow (mRet (.int 10)) (mRet (.int 30))))) (mRet (.int 11))) (mOp2 dSub (mOp2 dPow (mRet (.int 2)) (mRet (.int 61))) (mRet (.int 1))))))
  (sRet (mVar 1))))
noncomputable def f_y7 : List D → Option D := runP false 1 3 b_y7
theorem n_y7 : runsN 1 f_y7 := runP_n
theorem ok_y7 (T : Txt K mg a) : FnOk P w K mg base CX0 1 a.f_y7 a.fd_y7 ["_law_script"] (spP K false 1 f_y7) := by
  refine T.F_y7.ok sc_y7 (fun _ _ _ _ h => h.1) (fun cdv A outer s H vs Q E hr h => ?_)
  · refine ⟨_, (pss_cons (ps_set (i := 1) sc_y7.nd rfl (by walk_at "lr") pe_int) (pss_cons (ps_for PassesOwn.never rfl (pi_seqK (K := K) rfl (pv 0)) (pg_name (i := 2) sc_y7.nd rfl (by walk_at "lr")) (pss_one (ps_set (i := 1) sc_y7.nd rfl (by walk_at "lr") (pe_op op_mod (pe_op (op_addG (K := K) rfl) (pe_op (op_addG (K := K) rfl) (pe_op (op_mulG (K := K) rfl) (pv 1) pe_int) (pe_op op_mod (pv 2) (pe_op op_pow pe_int pe_int))) pe_int) (pe_op op_sub (pe_op op_pow pe_int pe_int) pe_int))))) (pss_one (ps_ret (pv 1))))), ?_⟩
    exact spP_body (O' := []) (Nms := ["_law_script", "_law_seed_here", "_law_cell"]) (f := b_y7) (by
      unfold b_y7
      exact (ms_seq (O1 := []) (ms_set me_int) (ms_seq (O1 := []) (ms_for (O' := []) (mi_seq (me_var (i := 0))) rfl (mg_name (i := 2)) (ms_set (me_op og_mod (me_op og_add (me_op og_add (me_op og_mulG (me_var (i := 1)) me_int) (me_op og_mod (me_var (i := 2)) (me_op og_pow me_int me_int))) me_int) (me_op og_sub (me_op og_pow me_int me_int) me_int)))) (ms_ret rfl (me_var (i := 1)) rfl)))) h
noncomputable def b_y4 : Rho → Option Out :=
  (sSeq (sSet 1 (mOp2 dIx (mOf (mLst (mCons (mCallS f_y6 0 (mCons (mRet (.int 4)) mNil)) (mCons (mRet (.int 4)) mNil)))) (mOp1 dInt (mOp2 dEq (mCallS f_y6 0 (mCons (mRet (.int 8)) mNil)) (mRet (.int 0))))))
  (sSeq (sSet 2 (mOf (mComp 1 [0, 1] (some (0, 1)) (mRng1 (mCons (mOp2 dAdd (mRet (.int 1)) (mCallS f_y6 0 (mCons (mRet (.int 4)) mNil))) mNil)) (gSet 0) (mRet true) (mCallS f_y6 1 (mCons (mOp2 dShl (mRet (.int 2)) (mVar 2)) mNil)))))
  (sSeq (sSet 3 (mOp2 dIx (mOf (mLst (mCons (mOp2 dAdd (mRet (.int 1)) (mCallS f_y6 0 (mCons (mRet (.int 3)) mNil))) (mCons (mOp2 dAdd (mRet (.int 4)) (mCallS f_y6 0 (mCons (mRet (.int 3)) mNil))) mNil)))) (mOp1 dInt (mOp2 dEq (mCallS f_y6 0 (mCons (mRet (.int 6)) mNil)) (mRet (.int 0))))))
  (sSeq (sOwn 4 (mLst mNil))
  (sSeq (sFor (mRng1 (mCons (mVar 3) mNil)) (gSet 5)
    (sSeq (sSet 6 (mOp2 dGt (mCallS f_y6 0 (mCons (mRet (.int 3)) mNil)) (mRet (.int 0))))
  (sMut dAppend 4 (mCons (mOp1 dTuple (mOf (mComp 1 [6, 0] (some (0, 2)) (mSeq (mVar 2)) (gSet 0) (mRet true) (mOp1 dInt (mOrV (mVar 1) (mOp2 dEq (mCallS f_y6 2 (mCons (mRet (.int 2)) mNil)) (mRet (.int 0)))))))) mNil))))
  (sRet (mTup (mCons (mVar 1) (mCons (mOp1 dTuple (mVar 2)) (mCons (mOp1 dTuple (mVar 4)) (mCons (mOp2 dIx (mOf (mLst (mCons (mRet (.str "open")) (mCons (mRet (.str "ended")) (mCons (mRet (.str "ring")) mNil))))) (mCallS f_y6 0 (mCons (mRet (.int 3)) mNil))) mNil)))))))))))
noncomputable def f_y4 : List D → List D → Option (D × List D) := runS false 1 7 b_y4
theorem n_y4 : runsS 1 f_y4 := runS_n
theorem ok_y4 (T : Txt K mg a) : FnOk P w K mg base CX0 2 a.f_y4 a.fd_y4 ["_law_state"] (spS K false 1 f_y4) := by
  have G_y6 := ok_y6 (P := P) (w := w) (base := base) T
  refine T.F_y4.ok sc_y4 (fun _ _ _ _ h => h.1) (fun cdv A outer s H vs Q E hr h => ?_)
  · refine ⟨_, (pss_cons (ps_set (i := 1) sc_y4.nd rfl (by walk_at "lr") (pe_ix (ix_seqK (K := K) rfl) (pe_lst (pa_cons (pe_call G_y6 hr.m (by rfl) T.mg_y6 T.kp_y6 T.B_y6 .nil pass0 (pa_cons (pv 0) (pa_cons pe_int pa_nil))) (pa_cons pe_int pa_nil))) (pe_callTy call_int1 (by rfl) T.z_int (by rfl) (pa_cons (pe_cmpR (op_eqD (K := K) rfl hr.units) (pe_call G_y6 hr.m (by rfl) T.mg_y6 T.kp_y6 T.B_y6 .nil pass0 (pa_cons (pv 0) (pa_cons pe_int pa_nil))) pe_int (nomark _)) pa_nil)))) (pss_cons (ps_compX (k := 2) (sc := defScope s_y4) (N0 := ["_law_state", "_law_reach", "_law_taps", "_law_many", "_law_rows", "_law_k", "_law_full"]) passN0 rfl rfl rfl (show compOk _ _ ["_law_k", "_law_state", "_law_reach"] 1 [0, 1] _ = true by decide +kernel) sc_y4.nd rfl (Or.inl rfl) (pi_range1 (by rfl) T.z_range (pa_cons (pe_op (op_addG (K := K) rfl) pe_int (pe_call G_y6 hr.m (by rfl) T.mg_y6 T.kp_y6 T.B_y6 .nil pass0 (pa_cons (pv 0) (pa_cons pe_int pa_nil)))) pa_nil)) (fun _ _ _ _ _ => (pg_name (i := 0) (show List.Nodup (["_law_k", "_law_state", "_law_reach"] : List Str) from (by decide +kernel)) rfl (Or.inl rfl))) (own_name (by decide)) (fun _ _ _ _ _ => pif_nil) (fun _ _ _ _ _ => (pe_call G_y6 hr.m (by rfl) T.mg_y6 T.kp_y6 T.B_y6 .nil pass0 (pa_cons (pv 1) (pa_cons (pe_op op_shl pe_int (pv 2)) pa_nil))))) (pss_cons (ps_set (i := 3) sc_y4.nd rfl (by walk_at "lr") (pe_ix (ix_seqK (K := K) rfl) (pe_lst (pa_cons (pe_op (op_addG (K := K) rfl) pe_int (pe_call G_y6 hr.m (by rfl) T.mg_y6 T.kp_y6 T.B_y6 .nil pass0 (pa_cons (pv 0) (pa_cons pe_int pa_nil)))) (pa_cons (pe_op (op_addG (K := K) rfl) pe_int (pe_call G_y6 hr.m (by rfl) T.mg_y6 T.kp_y6 T.B_y6 .nil pass0 (pa_cons (pv 0) (pa_cons pe_int pa_nil)))) pa_nil))) (pe_callTy call_int1 (by rfl) T.z_int (by rfl) (pa_cons (pe_cmpR (op_eqD (K := K) rfl hr.units) (pe_call G_y6 hr.m (by rfl) T.mg_y6 T.kp_y6 T.B_y6 .nil pass0 (pa_cons (pv 0) (pa_cons pe_int pa_nil))) pe_int (nomark _)) pa_nil)))) (pss_cons (ps_set (i := 4) sc_y4.nd rfl (by walk_at "lr") (pe_lst pa_nil)) (pss_cons (ps_for PassesOwn.never rfl (pi_range1 (by rfl) T.z_range (pa_cons (pv 3) pa_nil)) (pg_name (i := 5) sc_y4.nd rfl (by walk_at "lr")) (pss_cons (ps_set (i := 6) sc_y4.nd rfl (by walk_at "lr") (pe_cmpR op_gt (pe_call G_y6 hr.m (by rfl) T.mg_y6 T.kp_y6 T.B_y6 .nil pass0 (pa_cons (pv 0) (pa_cons pe_int pa_nil))) pe_int (nomark _))) (pss_one (ps_expr (pe_bm PySem.F.plainAttrs_list PySem.F.slot_list_append PySem.F.type_list_append mt_append (pv 4) (pa_cons (pe_callTy (call_tupleK (K := K) rfl) (by rfl) T.z_tuple (by rfl) (pa_cons (pe_compX (sc := defScope s_y4) (N0 := ["_law_state", "_law_reach", "_law_taps", "_law_many", "_law_rows", "_law_k", "_law_full"]) passN0 rfl rfl rfl (show compOk _ _ ["_law_tap", "_law_full", "_law_state"] 1 [6, 0] _ = true by decide +kernel) (pi_seqK (K := K) rfl (pv 2)) (fun _ _ _ _ _ => (pg_name (i := 0) (show List.Nodup (["_law_tap", "_law_full", "_law_state"] : List Str) from (by decide +kernel)) rfl (Or.inl rfl))) (own_name (by decide)) (fun _ _ _ _ _ => pif_nil) (fun _ _ _ _ _ => (pe_callTy call_int1 (by rfl) T.z_int (by rfl) (pa_cons (pe_or (pv 1) (pe_one (pe_cmpR (op_eqD (K := K) rfl hr.units) (pe_call G_y6 hr.m (by rfl) T.mg_y6 T.kp_y6 T.B_y6 .nil pass0 (pa_cons (pv 2) (pa_cons pe_int pa_nil))) pe_int (nomark _)))) pa_nil)))) pa_nil)) pa_nil)))))) (pss_one (ps_ret (pe_tup (pa_cons (pv 1) (pa_cons (pe_callTy (call_tupleK (K := K) rfl) (by rfl) T.z_tuple (by rfl) (pa_cons (pv 2) pa_nil)) (pa_cons (pe_callTy (call_tupleK (K := K) rfl) (by rfl) T.z_tuple (by rfl) (pa_cons (pv 4) pa_nil)) (pa_cons (pe_ix (ix_seqK (K := K) rfl) (pe_lst (pa_cons pe_str (pa_cons pe_str (pa_cons pe_str pa_nil)))) (pe_call G_y6 hr.m (by rfl) T.mg_y6 T.kp_y6 T.B_y6 .nil pass0 (pa_cons (pv 0) (pa_cons pe_int pa_nil)))) pa_nil)))))))))))), ?_⟩
    exact spS_body (O' := []) (Nms := ["_law_state", "_law_reach", "_law_taps", "_law_many", "_law_rows", "_law_k", "_law_full"]) (f := b_y4) (by
      unfold b_y4
      exact (ms_seq (O1 := [0]) (ms_set (me_op op_ix (me_new (mn_lst (ma_cons (me_callS (i := 0) n_y6 (by decide) (ma_cons me_int ma_nil)) (ma_cons me_int ma_nil)))) (me_call1 cs_int (me_opB os_eq (me_callS (i := 0) n_y6 (by decide) (ma_cons me_int ma_nil)) me_int.mb).mb))) (ms_seq (O1 := [0]) (ms_setC (mn_comp (bw := (some (0, 1))) (mi_range1 (ma_cons (me_op og_add me_int (me_callS (i := 0) n_y6 (by decide) (ma_cons me_int ma_nil))) ma_nil)) (mg_name (i := 0)) mt_yes (me_callS (i := 1) n_y6 (by decide) (ma_cons (me_op og_shl me_int (me_var (i := 2))) ma_nil))) rfl (by decide)) (ms_seq (O1 := [0]) (ms_set (me_op op_ix (me_new (mn_lst (ma_cons (me_op og_add me_int (me_callS (i := 0) n_y6 (by decide) (ma_cons me_int ma_nil))) (ma_cons (me_op og_add me_int (me_callS (i := 0) n_y6 (by decide) (ma_cons me_int ma_nil))) ma_nil)))) (me_call1 cs_int (me_opB os_eq (me_callS (i := 0) n_y6 (by decide) (ma_cons me_int ma_nil)) me_int.mb).mb))) (ms_seq (O1 := [0, 4]) (ms_own (mn_lst ma_nil) rfl) (ms_seq (O1 := [0]) (ms_weak (ms_for (O' := [0, 4]) (mi_range1 (ma_cons (me_var (i := 3)) ma_nil)) rfl (mg_name (i := 5)) (ms_seq (O1 := [0, 4]) (ms_set (me_opB os_b0 (me_callS (i := 0) n_y6 (by decide) (ma_cons me_int ma_nil)) me_int.mb)) (ms_mut mu_append (by decide) (ma_cons (me_callG cg_tuple (me_new (mn_comp (bw := (some (0, 2))) (mi_seq (me_var (i := 2))) (mg_name (i := 0)) mt_yes (me_call1 cs_int (me_or (me_var (i := 1)) (me_opB os_eq (me_callS (i := 2) n_y6 (by decide) (ma_cons me_int ma_nil)) me_int.mb)).mb)))) ma_nil) rfl))) rfl) (ms_ret rfl (me_tup (ma_cons (me_var (i := 1)) (ma_cons (me_callG cg_tuple (me_var (i := 2))) (ma_cons (me_callG cg_tuple (me_var (i := 4))) (ma_cons (me_op op_ix (me_new (mn_lst (ma_cons me_str (ma_cons me_str (ma_cons me_str ma_nil))))) (me_callS (i := 0) n_y6 (by decide) (ma_cons me_int ma_nil))) ma_nil))))) rfl))))))) h
noncomputable def b_y3 : Rho → Option Out :=
  (sSeq (sSet 3 (mOf (mLst mNil)))
  (sSeq (sTryAs 4 (fun x => tk_WayError.contains x) (sDrop (mOr2 (mCallV 0 "read_scheme" f_y9 (mCons (mVar 1) mNil)) (mOr2 (mCallV 0 "read_heard" f_y11 (mCons (mVar 1) mNil)) (mCallV 0 "read_places" f_y10 (mCons (mVar 1) mNil))))) (xOr2 (xCallV 0 "read_scheme" fx_y9 (mCons (mVar 1) mNil)) (xOr2 (xCallV 0 "read_heard" fx_y11 (mCons (mVar 1) mNil)) (xCallV 0 "read_places" fx_y10 (mCons (mVar 1) mNil))))
    (sSeq (sSet 5 (mOp1 (dIsX (fun x => eb_y21.lookup x)) (mVar 4)))
  (sSet 3 (mOf (mLst (mCons (mOp1 (dIsX (fun x => eb_NoText.lookup x)) (mVar 4)) (mCons (mOp1 (dIsX (fun x => eb_NoScheme.lookup x)) (mVar 4)) (mCons (mOp1 (dIsX (fun x => eb_ValueError.lookup x)) (mVar 4)) (mCons (mVar 5) mNil)))))))))
  (sRet (mOp2 dEq (mVar 3) (mOp2 dAdd (mVar 2) (mOf (mLst (mCons (mRet (.bl true)) (mCons (mRet (.bl false)) mNil)))))))))
noncomputable def f_y3 : List D → Option D := runP false 3 6 b_y3
theorem n_y3 : runsN 3 f_y3 := runP_n
theorem ok_y3 (T : Txt K mg a) : FnOk P w K mg base CX0 6 a.f_y3 a.fd_y3 ["_law_reader", "_law_text", "_law_both"] (spP K false 3 f_y3) := by
  have G_y10 := ok_y10 (P := P) (w := w) (base := base) T
  have G_y11 := ok_y11 (P := P) (w := w) (base := base) T
  have G_y9 := ok_y9 (P := P) (w := w) (base := base) T
  refine T.F_y3.ok sc_y3 (fun _ _ _ _ h => h.1) (fun cdv A outer s H vs Q E hr h => ?_)
  · refine ⟨_, (pss_cons (ps_set (i := 3) sc_y3.nd rfl (by walk_at "lr") (pe_lst pa_nil)) (pss_cons (ps_try_as (i := 4) rfl rfl rfl sc_y3.nd rfl rfl (by rfl) T.mg_WayError (fun xe pins σ E hp => (at_one (at_expr (PEat.or (at_callV G_y9 hr.m (pv 0) T.kp_y9 T.B_y9 .nil hp (pa_cons (pv 1) pa_nil)) (PEat.or (at_callV G_y11 hr.m (pv 0) T.kp_y11 T.B_y11 .nil hp (pa_cons (pv 1) pa_nil)) (at_callV G_y10 hr.m (pv 0) T.kp_y10 T.B_y10 .nil hp (pa_cons (pv 1) pa_nil))))))) (fun ea => (pss_cons (ps_set (i := 5) sc_y3.nd rfl (by walk_at "lr") (pe_callB (call_isX (K := K) rfl) (by rfl) T.z_isinstance (by rfl) (pa_cons (pv 4) (pa_cons (pe_tup (pa_cons (pe_glob (v := .ref a.c_NoPlace) (by rfl) T.mg_NoPlace rfl) (pa_cons (pe_glob (v := .ref a.c_NoSigns) (by rfl) T.mg_NoSigns rfl) (pa_cons (pe_glob (v := .ref a.c_NoWord) (by rfl) T.mg_NoWord rfl) pa_nil)))) pa_nil)))) (pss_one (ps_set (i := 3) sc_y3.nd rfl (by walk_at "lr") (pe_lst (pa_cons (pe_callB (call_isX (K := K) rfl) (by rfl) T.z_isinstance (by rfl) (pa_cons (pv 4) (pa_cons (pe_glob (v := .ref a.c_NoText) (by rfl) T.mg_NoText rfl) pa_nil))) (pa_cons (pe_callB (call_isX (K := K) rfl) (by rfl) T.z_isinstance (by rfl) (pa_cons (pv 4) (pa_cons (pe_glob (v := .ref a.c_NoScheme) (by rfl) T.mg_NoScheme rfl) pa_nil))) (pa_cons (pe_callB (call_isX (K := K) rfl) (by rfl) T.z_isinstance (by rfl) (pa_cons (pv 4) (pa_cons (pe_bltn (v := .ty "ValueError") (by rfl) T.z_ValueError (by rfl) rfl) pa_nil))) (pa_cons (pv 5) pa_nil)))))))))) (pss_one (ps_ret (pe_cmpR (op_eqD (K := K) rfl hr.units) (pv 3) (pe_op (op_addG (K := K) rfl) (pv 2) (pe_lst (pa_cons pe_bl (pa_cons pe_bl pa_nil)))) (nomark _)))))), ?_⟩
    exact spP_body (O' := []) (Nms := ["_law_reader", "_law_text", "_law_both", "_law_found", "e", "_law_others"]) (f := b_y3) (by
      unfold b_y3
      exact (ms_seq (O1 := []) (ms_set (me_new (mn_lst ma_nil))) (ms_seq (O1 := []) (ms_try_as (km_WayError T) (fun E => (ms_expr (me_or2 (me_callV T.nsf_y9 (by decide) n_y9 (ma_cons (me_var (i := 1)) ma_nil)) (me_or2 (me_callV T.nsf_y11 (by decide) n_y11 (ma_cons (me_var (i := 1)) ma_nil)) (me_callV T.nsf_y10 (by decide) n_y10 (ma_cons (me_var (i := 1)) ma_nil)))) rfl)) (fun E => (msxa_expr (mx_or2 (mx_callV T.nsf_y9 (by decide) nx_y9 (ma_cons (me_var (i := 1)) ma_nil)) (mx_or2 (mx_callV T.nsf_y11 (by decide) nx_y11 (ma_cons (me_var (i := 1)) ma_nil)) (mx_callV T.nsf_y10 (by decide) nx_y10 (ma_cons (me_var (i := 1)) ma_nil)))))) (ms_seq (O1 := []) (ms_set (me_isXT (ys := [.ref a.c_NoPlace, .ref a.c_NoSigns, .ref a.c_NoWord]) rfl (by show 3 ≤ sizeLine; decide) (ke_y21 T) (me_var (i := 4)))) (ms_set (me_new (mn_lst (ma_cons (me_isX (y := .ref a.c_NoText) rfl (ke_NoText T) (me_var (i := 4))) (ma_cons (me_isX (y := .ref a.c_NoScheme) rfl (ke_NoScheme T) (me_var (i := 4))) (ma_cons (me_isX (y := .ty "ValueError") rfl (ke_ValueError T) (me_var (i := 4))) (ma_cons (me_var (i := 5)) ma_nil)))))))) (by decide) (by decide) (by first | decide | simp) (by first | decide | simp)) (ms_ret rfl (me_opB os_eq (me_var (i := 3)) (me_op og_add (me_var (i := 2)) (me_new (mn_lst (ma_cons me_bl (ma_cons me_bl ma_nil))))).mb) rfl)))) h
noncomputable def b_y5 : Rho → Option Out :=
  (sSeq (sSet 1 (mOf (mComp 1 [] none (mSeq (mOp2 dIx (mVar 0) (mRet (.int 1)))) (gSet 0) (mRet true) (mOp1 dStr (mVar 0)))))
  (sSeq (sSet 2 (mOf (mComp 1 [] none (mSeq (mOp2 dIx (mVar 0) (mRet (.int 2)))) (gSet 0) (mRet true) (mOp2 dJoin (mRet (.str "")) (mOf (mComp 1 [] none (mSeq (mVar 0)) (gSet 0) (mRet true) (mOp1 dStr (mVar 0))))))))
  (sRetL (mLst (mCons (mOf (mLst (mCons (mRet (.str "reach")) mNil))) (mCons (mOf (mLst (mCons (mOp1 dStr (mOp2 dIx (mVar 0) (mRet (.int 0)))) mNil))) (mCons (mOf (mLst (mCons (mRet (.str "taps")) mNil))) (mCons (mVar 1) (mCons (mOf (mLst (mCons (mRet (.str "rows")) mNil))) (mCons (mVar 2) (mCons (mOf (mLst (mCons (mOp2 dIx (mVar 0) (mRet (.int 3))) mNil))) mNil)))))))))))
noncomputable def f_y5 : List D → Option D := runP true 1 3 b_y5
theorem n_y5 : runsN 1 f_y5 := runP_n
theorem ok_y5 (T : Txt K mg a) : FnOk P w K mg base CX0 1 a.f_y5 a.fd_y5 ["_law_scheme_here"] (spP K true 1 f_y5) := by
  refine T.F_y5.ok sc_y5 (fun _ _ _ _ h => h.1) (fun cdv A outer s H vs Q E hr h => ?_)
  · refine ⟨_, (pss_cons (ps_compX (k := 1) (sc := defScope s_y5) (N0 := ["_law_scheme_here", "_law_taps", "_law_rows"]) passN0 rfl rfl rfl (show compOk _ _ ["_law_tap"] 1 [] _ = true by decide +kernel) sc_y5.nd rfl (Or.inl rfl) (pi_seqK (K := K) rfl (pe_ix (ix_seqK (K := K) rfl) (pv 0) pe_int)) (fun _ _ _ _ _ => (pg_name (i := 0) (show List.Nodup (["_law_tap"] : List Str) from (by decide +kernel)) rfl (Or.inl rfl))) (own_name (by decide)) (fun _ _ _ _ _ => pif_nil) (fun _ _ _ _ _ => (pe_callTy call_strI (by rfl) T.z_str (by rfl) (pa_cons (pv 0) pa_nil)))) (pss_cons (ps_compX (k := 2) (sc := defScope s_y5) (N0 := ["_law_scheme_here", "_law_taps", "_law_rows"]) passN0 rfl rfl rfl (show compOk _ _ ["_law_row"] 1 [] _ = true by decide +kernel) sc_y5.nd rfl (Or.inl rfl) (pi_seqK (K := K) rfl (pe_ix (ix_seqK (K := K) rfl) (pv 0) pe_int)) (fun _ _ _ _ _ => (pg_name (i := 0) (show List.Nodup (["_law_row"] : List Str) from (by decide +kernel)) rfl (Or.inl rfl))) (own_name (by decide)) (fun _ _ _ _ _ => pif_nil) (fun _ _ _ _ _ => (pe_bmK (K := K) rfl PySem.F.plainAttrs_str PySem.F.slot_str_join PySem.F.type_str_join (mt_joinS (K := K) rfl) pe_str (pa_cons (pe_compX (N0 := ["_law_row"]) passN0 rfl rfl rfl (show compOk _ _ ["_law_bit"] 1 [] _ = true by kernel_rfl) (pi_seqK (K := K) rfl (pv 0)) (fun _ _ _ _ _ => (pg_name (i := 0) (show List.Nodup (["_law_bit"] : List Str) from (by decide +kernel)) rfl (Or.inl rfl))) (own_name (by decide)) (fun _ _ _ _ _ => pif_nil) (fun _ _ _ _ _ => (pe_callTy call_strI (by rfl) (by exact T.z_str) (by rfl) (pa_cons (pv 0) pa_nil)))) pa_nil)))) (pss_one (ps_ret (pe_lst (pa_cons (pe_lst (pa_cons pe_str pa_nil)) (pa_cons (pe_lst (pa_cons (pe_callTy call_strI (by rfl) T.z_str (by rfl) (pa_cons (pe_ix (ix_seqK (K := K) rfl) (pv 0) pe_int) pa_nil)) pa_nil)) (pa_cons (pe_lst (pa_cons pe_str pa_nil)) (pa_cons (pv 1) (pa_cons (pe_lst (pa_cons pe_str pa_nil)) (pa_cons (pv 2) (pa_cons (pe_lst (pa_cons (pe_ix (ix_seqK (K := K) rfl) (pv 0) pe_int) pa_nil)) pa_nil)))))))))))), ?_⟩
    exact spP_body (O' := []) (Nms := ["_law_scheme_here", "_law_taps", "_law_rows"]) (f := b_y5) (by
      unfold b_y5
      exact (ms_seq (O1 := []) (ms_setC (mn_comp (bw := none) (mi_seq (me_op op_ix (me_var (i := 0)) me_int)) (mg_name (i := 0)) mt_yes (me_call1 cs_str mb_var)) rfl (by decide)) (ms_seq (O1 := []) (ms_setC (mn_comp (bw := none) (mi_seq (me_op op_ix (me_var (i := 0)) me_int)) (mg_name (i := 0)) mt_yes (me_join me_str (me_new (mn_comp (bw := none) (mi_seq (me_var (i := 0))) (mg_name (i := 0)) mt_yes (me_call1 cs_str mb_var))))) rfl (by decide)) (ms_retL rfl (mn_lst (ma_cons (me_new (mn_lst (ma_cons me_str ma_nil))) (ma_cons (me_new (mn_lst (ma_cons (me_call1 cs_str (me_op op_ix (me_var (i := 0)) me_int).mb) ma_nil))) (ma_cons (me_new (mn_lst (ma_cons me_str ma_nil))) (ma_cons (me_var (i := 1)) (ma_cons (me_new (mn_lst (ma_cons me_str ma_nil))) (ma_cons (me_var (i := 2)) (ma_cons (me_new (mn_lst (ma_cons (me_op op_ix (me_var (i := 0)) me_int) ma_nil))) ma_nil)))))))) rfl)))) h
noncomputable def b_y0 : Rho → Option Out :=
  (sSeq (sOwn 2 (mCallL f_y5 (mCons (mVar 1) mNil)))
  (sSeq (sSet 3 (mCallS f_y6 0 (mCons (mRet (.int 7)) mNil)))
  (sSeq (sSet 4 (mCallS f_y6 0 (mCons (mRet (.int 4)) mNil)))
  (sSeq (sIf (mTest (mOp2 dEq (mVar 4) (mRet (.int 0))))
    (sSetI 2 (mOf (mLst mNil)) (mVar 3))
    (sIf (mTest (mOp2 dEq (mVar 4) (mRet (.int 1))))
    (sSetI 2 (mOp2 dAdd (mIxO 2 (mVar 3)) (mSl (mSl (mOf (mLst (mCons (mRet (.str "")) (mCons (mRet (.str "x")) (mCons (mRet (.str "Open")) (mCons (mRet (.str "rows")) (mCons (mRet (.str "1/1")) mNil))))))) (mPart (mCallS f_y6 0 (mCons (mRet (.int 5)) mNil))) (mRet none)) (mRet none) (mPart (mRet (.int 1))))) (mVar 3))
    (sSeq (sOwn 5 (mLst (mCons (mOf (mLst (mCons (mRet (.str "Reach")) (mCons (mRet (.str "taps")) (mCons (mRet (.str "")) (mCons (mRet (.str "reac")) mNil)))))) (mCons (mOf (mLst (mCons (mRet (.str "07")) (mCons (mRet (.str "-1")) (mCons (mRet (.str "100")) (mCons (mRet (.str "")) (mCons (mRet (.str "x")) (mCons (mRet (.str "1.0")) mNil)))))))) (mCons (mOf (mLst (mCons (mRet (.str "tap")) (mCons (mRet (.str "Taps")) (mCons (mRet (.str "reach")) mNil))))) mNil)))))
  (sSeq (sExt 5 (mLst (mCons (mOf (mLst (mCons (mRet (.str "00")) (mCons (mRet (.str "-7")) (mCons (mRet (.str "123")) (mCons (mRet (.str "x")) (mCons (mRet (.str "+1")) mNil))))))) (mCons (mOf (mLst (mCons (mRet (.str "row")) (mCons (mRet (.str "Rows")) (mCons (mRet (.str "taps")) mNil))))) (mCons (mOf (mLst (mCons (mRet (.str "12")) (mCons (mRet (.str "-")) (mCons (mRet (.str "")) (mCons (mRet (.str "1x")) (mCons (mRet (.str "0/1")) mNil))))))) mNil)))))
  (sSeq (sMut dAppend 5 (mCons (mOf (mLst (mCons (mRet (.str "Open")) (mCons (mRet (.str "end")) (mCons (mRet (.str "rings")) (mCons (mRet (.str "")) (mCons (mRet (.str "close")) mNil))))))) mNil))
  (sSeq (sSet 6 (mOp2 dIx (mVar 5) (mVar 3)))
  (sSeq (sSet 7 (mCallS f_y6 0 (mCons (mOp1 dLen (mIxO 2 (mVar 3))) mNil)))
  (sSetI 2 (mOp2 dAdd (mOp2 dAdd (mSl (mIxO 2 (mVar 3)) (mRet none) (mPart (mVar 7))) (mOf (mLst (mCons (mOp2 dIx (mVar 6) (mCallS f_y6 0 (mCons (mOp1 dLen (mVar 6)) mNil))) mNil)))) (mSl (mIxO 2 (mVar 3)) (mPart (mOp2 dAdd (mVar 7) (mRet (.int 1)))) (mRet none))) (mVar 3)))))))))
  (sSeq (sOwn 8 (mLst mNil))
  (sSeq (sFor (mSeq (mVar 2)) (gSet 9)
    (sExtK 8 (mVar 9)))
  (sSeq (sIf (mAnd (mTest (mOp2 dEq (mVar 4) (mRet (.int 1)))) (mTest (mOp2 dEq (mVar 3) (mRet (.int 6)))))
    (sRet (mOp2 dAdd (mOp2 dJoin (mRet (.str " ")) (mVar 8)) (mRet (.str " "))))
    sNil)
  (sRet (mOp2 dJoin (mRet (.str " ")) (mVar 8))))))))))
noncomputable def f_y0 : List D → List D → Option (D × List D) := runS false 2 10 b_y0
theorem n_y0 : runsS 2 f_y0 := runS_n
theorem ok_y0 (T : Txt K mg a) : FnOk P w K mg base CX0 2 a.f_y0 a.fd_y0 ["_law_state", "_law_scheme_here"] (spS K false 2 f_y0) := by
  have G_y5 := ok_y5 (P := P) (w := w) (base := base) T
  have G_y6 := ok_y6 (P := P) (w := w) (base := base) T
  refine T.F_y0.ok sc_y0 (fun _ _ _ _ h => h.1) (fun cdv A outer s H vs Q E hr h => ?_)
  · refine ⟨_, (pss_cons (ps_set (i := 2) sc_y0.nd rfl (by walk_at "lr") (pe_call G_y5 hr.m (by rfl) T.mg_y5 T.kp_y5 T.B_y5 .nil pass0 (pa_cons (pv 1) pa_nil))) (pss_cons (ps_set (i := 3) sc_y0.nd rfl (by walk_at "lr") (pe_call G_y6 hr.m (by rfl) T.mg_y6 T.kp_y6 T.B_y6 .nil pass0 (pa_cons (pv 0) (pa_cons pe_int pa_nil)))) (pss_cons (ps_set (i := 4) sc_y0.nd rfl (by walk_at "lr") (pe_call G_y6 hr.m (by rfl) T.mg_y6 T.kp_y6 T.B_y6 .nil pass0 (pa_cons (pv 0) (pa_cons pe_int pa_nil)))) (pss_cons (ps_if (pt_cmpR (op_eqD (K := K) rfl hr.units) (pv 4) pe_int (nomark _)) (pss_one (ps_asg (pe_lst pa_nil) (pg_sub (pv 2) (pv 3) set_list))) (pss_one (ps_if (pt_cmpR (op_eqD (K := K) rfl hr.units) (pv 4) pe_int (nomark _)) (pss_one (ps_asg (pe_op (op_addG (K := K) rfl) (pe_ix (ix_seqK (K := K) rfl) (pv 2) (pv 3)) (pe_slice (sl_seqK (K := K) rfl) (pe_slice (sl_seqK (K := K) rfl) (pe_lst (pa_cons pe_str (pa_cons pe_str (pa_cons pe_str (pa_cons pe_str (pa_cons pe_str pa_nil)))))) (po_some (pe_call G_y6 hr.m (by rfl) T.mg_y6 T.kp_y6 T.B_y6 .nil pass0 (pa_cons (pv 0) (pa_cons pe_int pa_nil)))) po_none) po_none (po_some pe_int))) (pg_sub (pv 2) (pv 3) set_list))) (pss_cons (ps_set (i := 5) sc_y0.nd rfl (by walk_at "lr") (pe_lst (pa_cons (pe_lst (pa_cons pe_str (pa_cons pe_str (pa_cons pe_str (pa_cons pe_str pa_nil))))) (pa_cons (pe_lst (pa_cons pe_str (pa_cons pe_str (pa_cons pe_str (pa_cons pe_str (pa_cons pe_str (pa_cons pe_str pa_nil))))))) (pa_cons (pe_lst (pa_cons pe_str (pa_cons pe_str (pa_cons pe_str pa_nil)))) pa_nil))))) (pss_cons (ps_aug (i := 5) sc_y0.nd rfl (by walk_at "lr") (pe_lst (pa_cons (pe_lst (pa_cons pe_str (pa_cons pe_str (pa_cons pe_str (pa_cons pe_str (pa_cons pe_str pa_nil)))))) (pa_cons (pe_lst (pa_cons pe_str (pa_cons pe_str (pa_cons pe_str pa_nil)))) (pa_cons (pe_lst (pa_cons pe_str (pa_cons pe_str (pa_cons pe_str (pa_cons pe_str (pa_cons pe_str pa_nil)))))) pa_nil)))) ip_list) (pss_cons (ps_expr (pe_bm PySem.F.plainAttrs_list PySem.F.slot_list_append PySem.F.type_list_append mt_append (pv 5) (pa_cons (pe_lst (pa_cons pe_str (pa_cons pe_str (pa_cons pe_str (pa_cons pe_str (pa_cons pe_str pa_nil)))))) pa_nil))) (pss_cons (ps_set (i := 6) sc_y0.nd rfl (by walk_at "lr") (pe_ix (ix_seqK (K := K) rfl) (pv 5) (pv 3))) (pss_cons (ps_set (i := 7) sc_y0.nd rfl (by walk_at "lr") (pe_call G_y6 hr.m (by rfl) T.mg_y6 T.kp_y6 T.B_y6 .nil pass0 (pa_cons (pv 0) (pa_cons (pe_callB (call_lenK (K := K) rfl) (by rfl) T.z_len (by rfl) (pa_cons (pe_ix (ix_seqK (K := K) rfl) (pv 2) (pv 3)) pa_nil)) pa_nil)))) (pss_one (ps_asg (pe_op (op_addG (K := K) rfl) (pe_op (op_addG (K := K) rfl) (pe_slice (sl_seqK (K := K) rfl) (pe_ix (ix_seqK (K := K) rfl) (pv 2) (pv 3)) po_none (po_some (pv 7))) (pe_lst (pa_cons (pe_ix (ix_seqK (K := K) rfl) (pv 6) (pe_call G_y6 hr.m (by rfl) T.mg_y6 T.kp_y6 T.B_y6 .nil pass0 (pa_cons (pv 0) (pa_cons (pe_callB (call_lenK (K := K) rfl) (by rfl) T.z_len (by rfl) (pa_cons (pv 6) pa_nil)) pa_nil)))) pa_nil))) (pe_slice (sl_seqK (K := K) rfl) (pe_ix (ix_seqK (K := K) rfl) (pv 2) (pv 3)) (po_some (pe_op (op_addG (K := K) rfl) (pv 7) pe_int)) po_none)) (pg_sub (pv 2) (pv 3) set_list))))))))))) (pss_cons (ps_set (i := 8) sc_y0.nd rfl (by walk_at "lr") (pe_lst pa_nil)) (pss_cons (ps_for PassesOwn.never rfl (pi_seqK (K := K) rfl (pv 2)) (pg_name (i := 9) sc_y0.nd rfl (by walk_at "lr")) (pss_one (ps_aug (i := 8) sc_y0.nd rfl (by walk_at "lr") (pv 9) (ip_listK (K := K) rfl)))) (pss_cons (ps_if (PW.pt (pw_and (pt_cmpR (op_eqD (K := K) rfl hr.units) (pv 4) pe_int (nomark _)) (pw_and1 (pt_cmpR (op_eqD (K := K) rfl hr.units) (pv 3) pe_int (nomark _))))) (pss_one (ps_ret (pe_op (op_addG (K := K) rfl) (pe_bm PySem.F.plainAttrs_str PySem.F.slot_str_join PySem.F.type_str_join (mt_joinS (K := K) rfl) pe_str (pa_cons (pv 8) pa_nil)) pe_str))) pss_nil) (pss_one (ps_ret (pe_bm PySem.F.plainAttrs_str PySem.F.slot_str_join PySem.F.type_str_join (mt_joinS (K := K) rfl) pe_str (pa_cons (pv 8) pa_nil))))))))))), ?_⟩
    exact spS_body (O' := []) (Nms := ["_law_state", "_law_scheme_here", "_law_pieces_here", "_law_spot", "_law_way", "_law_odd", "_law_some", "_law_place", "_law_words", "_law_piece"]) (f := b_y0) (by
      unfold b_y0
      exact (ms_seq (O1 := [0, 2]) (ms_own (mn_callP n_y5 (ma_cons (me_var (i := 1)) ma_nil)) rfl) (ms_seq (O1 := [0, 2]) (ms_set (me_callS (i := 0) n_y6 (by decide) (ma_cons me_int ma_nil))) (ms_seq (O1 := [0, 2]) (ms_set (me_callS (i := 0) n_y6 (by decide) (ma_cons me_int ma_nil))) (ms_seq (O1 := [0]) (ms_if (mt_test (me_opB os_eq (me_var (i := 4)) me_int.mb)) (ms_setI (by decide) (me_new (mn_lst ma_nil)) (me_var (i := 3)) rfl) (ms_if (mt_test (me_opB os_eq (me_var (i := 4)) me_int.mb)) (ms_setI (by decide) (me_op og_add (me_ixO (i := 2) (by decide) (me_var (i := 3))) (me_slice (me_slice (me_new (mn_lst (ma_cons me_str (ma_cons me_str (ma_cons me_str (ma_cons me_str (ma_cons me_str ma_nil))))))) (mo_some (me_callS (i := 0) n_y6 (by decide) (ma_cons me_int ma_nil))) mo_none) mo_none (mo_some me_int))) (me_var (i := 3)) rfl) (ms_seq (O1 := [0, 2, 5]) (ms_own (mn_lst (ma_cons (me_new (mn_lst (ma_cons me_str (ma_cons me_str (ma_cons me_str (ma_cons me_str ma_nil)))))) (ma_cons (me_new (mn_lst (ma_cons me_str (ma_cons me_str (ma_cons me_str (ma_cons me_str (ma_cons me_str (ma_cons me_str ma_nil)))))))) (ma_cons (me_new (mn_lst (ma_cons me_str (ma_cons me_str (ma_cons me_str ma_nil))))) ma_nil)))) rfl) (ms_seq (O1 := [0, 2, 5]) (ms_augL (i := 5) (by decide) (mn_lst (ma_cons (me_new (mn_lst (ma_cons me_str (ma_cons me_str (ma_cons me_str (ma_cons me_str (ma_cons me_str ma_nil))))))) (ma_cons (me_new (mn_lst (ma_cons me_str (ma_cons me_str (ma_cons me_str ma_nil))))) (ma_cons (me_new (mn_lst (ma_cons me_str (ma_cons me_str (ma_cons me_str (ma_cons me_str (ma_cons me_str ma_nil))))))) ma_nil)))) rfl) (ms_seq (O1 := [0, 2]) (ms_mut mu_append (by decide) (ma_cons (me_new (mn_lst (ma_cons me_str (ma_cons me_str (ma_cons me_str (ma_cons me_str (ma_cons me_str ma_nil))))))) ma_nil) rfl) (ms_seq (O1 := [0, 2]) (ms_set (me_op op_ix (me_var (i := 5)) (me_var (i := 3)))) (ms_seq (O1 := [0, 2]) (ms_set (me_callS (i := 0) n_y6 (by decide) (ma_cons (me_call1 cs_len (me_ixO (i := 2) (by decide) (me_var (i := 3))).mb) ma_nil))) (ms_setI (by decide) (me_op og_add (me_op og_add (me_slice (me_ixO (i := 2) (by decide) (me_var (i := 3))) mo_none (mo_some (me_var (i := 7)))) (me_new (mn_lst (ma_cons (me_op op_ix (me_var (i := 6)) (me_callS (i := 0) n_y6 (by decide) (ma_cons (me_call1 cs_len mb_var) ma_nil))) ma_nil)))) (me_slice (me_ixO (i := 2) (by decide) (me_var (i := 3))) (mo_some (me_op og_add (me_var (i := 7)) me_int)) mo_none)) (me_var (i := 3)) rfl)))))))) (ms_seq (O1 := [0, 8]) (ms_own (mn_lst ma_nil) rfl) (ms_seq (O1 := [0]) (ms_weak (ms_for (O' := [0, 8]) (mi_seq (me_var (i := 2))) rfl (mg_name (i := 9)) (ms_augK (i := 8) (by decide) (me_var (i := 9)) rfl)) rfl) (ms_seq (O1 := [0]) (ms_if (mt_and (mt_test (me_opB os_eq (me_var (i := 4)) me_int.mb)) (mt_test (me_opB os_eq (me_var (i := 3)) me_int.mb))) (ms_ret rfl (me_op og_add (me_join me_str (me_var (i := 8))) me_str) rfl) (ms_nil rfl)) (ms_ret rfl (me_join me_str (me_var (i := 8))) rfl))))))))) h
noncomputable def b_y2 : Rho → Option Out :=
  (sSeq (sSet 1 (mOf (mComp 1 [0] (some (0, 1)) (mRng1 (mCons (mCallS f_y6 0 (mCons (mRet (.int 5)) mNil)) mNil)) (gSet 0) (mRet true) (mOp2 dIx (mOf (mLst (mCons (mRet (.str "0")) (mCons (mRet (.str "1")) (mCons (mRet (.str "?")) (mCons (mRet (.str "-3/4")) (mCons (mRet (.str "0/0")) mNil))))))) (mCallS f_y6 1 (mCons (mRet (.int 5)) mNil))))))
  (sSeq (sSet 2 (mOf (mLst (mCons (mRet (.str "2")) (mCons (mRet (.str "??")) (mCons (mRet (.str "01")) (mCons (mRet (.str "/1")) (mCons (mRet (.str "1/")) (mCons (mRet (.str "1//2")) (mCons (mRet (.str "1/2/3")) (mCons (mRet (.str "-0/1")) (mCons (mRet (.str "1/+1")) (mCons (mRet (.str "07/1")) (mCons (mRet (.str "x")) (mCons (mRet (.str "")) mNil)))))))))))))))
  (sSeq (sSet 3 (mOp2 dIx (mVar 2) (mCallS f_y6 0 (mCons (mRet (.int 12)) mNil))))
  (sSeq (sIf (mAnd (mTest (mOp2 dEq (mVar 3) (mRet (.str "")))) (mTest (mOp2 dEq (mVar 1) (mOf (mLst mNil)))))
    (sRet (mRet (.str " ")))
    sNil)
  (sSeq (sSet 4 (mCallS f_y6 0 (mCons (mOp2 dAdd (mOp1 dLen (mVar 1)) (mRet (.int 1))) mNil)))
  (sRet (mOp2 dJoin (mRet (.str " ")) (mOp2 dAdd (mOp2 dAdd (mSl (mVar 1) (mRet none) (mPart (mVar 4))) (mOf (mLst (mCons (mVar 3) mNil)))) (mSl (mVar 1) (mPart (mVar 4)) (mRet none))))))))))
noncomputable def f_y2 : List D → List D → Option (D × List D) := runS false 1 5 b_y2
theorem n_y2 : runsS 1 f_y2 := runS_n
theorem ok_y2 (T : Txt K mg a) : FnOk P w K mg base CX0 2 a.f_y2 a.fd_y2 ["_law_state"] (spS K false 1 f_y2) := by
  have G_y6 := ok_y6 (P := P) (w := w) (base := base) T
  refine T.F_y2.ok sc_y2 (fun _ _ _ _ h => h.1) (fun cdv A outer s H vs Q E hr h => ?_)
  · refine ⟨_, (pss_cons (ps_compX (k := 1) (sc := defScope s_y2) (N0 := ["_law_state", "_law_good", "_law_odd", "_law_piece", "_law_spot"]) passN0 rfl rfl rfl (show compOk _ _ ["_law_k", "_law_state"] 1 [0] _ = true by decide +kernel) sc_y2.nd rfl (Or.inl rfl) (pi_range1 (by rfl) T.z_range (pa_cons (pe_call G_y6 hr.m (by rfl) T.mg_y6 T.kp_y6 T.B_y6 .nil pass0 (pa_cons (pv 0) (pa_cons pe_int pa_nil))) pa_nil)) (fun _ _ _ _ _ => (pg_name (i := 0) (show List.Nodup (["_law_k", "_law_state"] : List Str) from (by decide +kernel)) rfl (Or.inl rfl))) (own_name (by decide)) (fun _ _ _ _ _ => pif_nil) (fun _ _ _ _ _ => (pe_ix (ix_seqK (K := K) rfl) (pe_lst (pa_cons pe_str (pa_cons pe_str (pa_cons pe_str (pa_cons pe_str (pa_cons pe_str pa_nil)))))) (pe_call G_y6 hr.m (by rfl) T.mg_y6 T.kp_y6 T.B_y6 .nil pass0 (pa_cons (pv 1) (pa_cons pe_int pa_nil)))))) (pss_cons (ps_set (i := 2) sc_y2.nd rfl (by walk_at "lr") (pe_lst (pa_cons pe_str (pa_cons pe_str (pa_cons pe_str (pa_cons pe_str (pa_cons pe_str (pa_cons pe_str (pa_cons pe_str (pa_cons pe_str (pa_cons pe_str (pa_cons pe_str (pa_cons pe_str (pa_cons pe_str pa_nil)))))))))))))) (pss_cons (ps_set (i := 3) sc_y2.nd rfl (by walk_at "lr") (pe_ix (ix_seqK (K := K) rfl) (pv 2) (pe_call G_y6 hr.m (by rfl) T.mg_y6 T.kp_y6 T.B_y6 .nil pass0 (pa_cons (pv 0) (pa_cons pe_int pa_nil))))) (pss_cons (ps_if (PW.pt (pw_and (pt_cmpR (op_eqD (K := K) rfl hr.units) (pv 3) pe_str (nomark _)) (pw_and1 (pt_cmpR (op_eqD (K := K) rfl hr.units) (pv 1) (pe_lst pa_nil) (nomark _))))) (pss_one (ps_ret pe_str)) pss_nil) (pss_cons (ps_set (i := 4) sc_y2.nd rfl (by walk_at "lr") (pe_call G_y6 hr.m (by rfl) T.mg_y6 T.kp_y6 T.B_y6 .nil pass0 (pa_cons (pv 0) (pa_cons (pe_op (op_addG (K := K) rfl) (pe_callB (call_lenK (K := K) rfl) (by rfl) T.z_len (by rfl) (pa_cons (pv 1) pa_nil)) pe_int) pa_nil)))) (pss_one (ps_ret (pe_bm PySem.F.plainAttrs_str PySem.F.slot_str_join PySem.F.type_str_join (mt_joinS (K := K) rfl) pe_str (pa_cons (pe_op (op_addG (K := K) rfl) (pe_op (op_addG (K := K) rfl) (pe_slice (sl_seqK (K := K) rfl) (pv 1) po_none (po_some (pv 4))) (pe_lst (pa_cons (pv 3) pa_nil))) (pe_slice (sl_seqK (K := K) rfl) (pv 1) (po_some (pv 4)) po_none)) pa_nil))))))))), ?_⟩
    exact spS_body (O' := []) (Nms := ["_law_state", "_law_good", "_law_odd", "_law_piece", "_law_spot"]) (f := b_y2) (by
      unfold b_y2
      exact (ms_seq (O1 := [0]) (ms_setC (mn_comp (bw := (some (0, 1))) (mi_range1 (ma_cons (me_callS (i := 0) n_y6 (by decide) (ma_cons me_int ma_nil)) ma_nil)) (mg_name (i := 0)) mt_yes (me_op op_ix (me_new (mn_lst (ma_cons me_str (ma_cons me_str (ma_cons me_str (ma_cons me_str (ma_cons me_str ma_nil))))))) (me_callS (i := 1) n_y6 (by decide) (ma_cons me_int ma_nil)))) rfl (by decide)) (ms_seq (O1 := [0]) (ms_set (me_new (mn_lst (ma_cons me_str (ma_cons me_str (ma_cons me_str (ma_cons me_str (ma_cons me_str (ma_cons me_str (ma_cons me_str (ma_cons me_str (ma_cons me_str (ma_cons me_str (ma_cons me_str (ma_cons me_str ma_nil))))))))))))))) (ms_seq (O1 := [0]) (ms_set (me_op op_ix (me_var (i := 2)) (me_callS (i := 0) n_y6 (by decide) (ma_cons me_int ma_nil)))) (ms_seq (O1 := [0]) (ms_if (mt_and (mt_test (me_opB os_eq (me_var (i := 3)) me_str.mb)) (mt_test (me_opB os_eq (me_var (i := 1)) (me_new (mn_lst ma_nil)).mb))) (ms_ret rfl me_str rfl) (ms_nil rfl)) (ms_seq (O1 := [0]) (ms_set (me_callS (i := 0) n_y6 (by decide) (ma_cons (me_op og_add (me_call1 cs_len mb_var) me_int) ma_nil))) (ms_ret rfl (me_join me_str (me_op og_add (me_op og_add (me_slice (me_var (i := 1)) mo_none (mo_some (me_var (i := 4)))) (me_new (mn_lst (ma_cons (me_var (i := 3)) ma_nil)))) (me_slice (me_var (i := 1)) (mo_some (me_var (i := 4))) mo_none))) rfl))))))) h
noncomputable def b_y1 : Rho → Option Out :=
  (sSeq (sSet 1 (mCallS f_y6 0 (mCons (mOp2 dPow (mRet (.int 10)) (mRet (.int 10))) mNil)))
  (sSeq (sSet 2 (mOp2 dAdd (mOp2 dAdd (mVar 1) (mRet (.int 1))) (mCallS f_y6 0 (mCons (mRet (.int 10)) mNil))))
  (sSeq (sSet 3 (mOp1 dStr (mVar 1)))
  (sSeq (sSet 4 (mOp1 dStr (mVar 2)))
  (sSeq (sOwn 5 (mLst (mCons (mRet (.str "")) (mCons (mRet (.str "--")) (mCons (mOp2 dAdd (mOp2 dAdd (mVar 3) (mRet (.str ","))) (mVar 3)) (mCons (mOp2 dAdd (mOp2 dAdd (mVar 4) (mRet (.str ","))) (mVar 3)) (mCons (mOp2 dAdd (mVar 3) (mRet (.str ","))) (mCons (mOp2 dAdd (mRet (.str ",")) (mVar 3)) (mCons (mOp2 dAdd (mRet (.str "-")) (mVar 3)) (mCons (mOp2 dAdd (mRet (.str "0")) (mVar 3)) (mCons (mOp2 dAdd (mOp2 dAdd (mVar 3) (mRet (.str " ,"))) (mVar 4)) mNil)))))))))))
  (sSeq (sExt 5 (mLst (mCons (mOp2 dAdd (mOp2 dAdd (mOp2 dAdd (mVar 3) (mRet (.str ","))) (mVar 4)) (mRet (.str ",-1"))) (mCons (mOp2 dAdd (mOp2 dAdd (mVar 3) (mRet (.str ".."))) (mVar 4)) (mCons (mRet (.str "x")) (mCons (mOp2 dAdd (mVar 3) (mRet (.str ",-"))) (mCons (mOp2 dAdd (mOp2 dAdd (mOp2 dAdd (mOp2 dAdd (mVar 3) (mRet (.str ","))) (mVar 4)) (mRet (.str ","))) (mVar 3)) (mCons (mOp2 dMulG (mRet (.str "1")) (mRet (.int 61))) mNil))))))))
  (sRet (mOp2 dIx (mVar 5) (mCallS f_y6 0 (mCons (mRet (.int 15)) mNil))))))))))
noncomputable def f_y1 : List D → List D → Option (D × List D) := runS false 1 6 b_y1
theorem n_y1 : runsS 1 f_y1 := runS_n
theorem ok_y1 (T : Txt K mg a) : FnOk P w K mg base CX0 2 a.f_y1 a.fd_y1 ["_law_state"] (spS K false 1 f_y1) := by
  have G_y6 := ok_y6 (P := P) (w := w) (base := base) T
  refine T.F_y1.ok sc_y1 (fun _ _ _ _ h => h.1) (fun cdv A outer s H vs Q E hr h => ?_)
  · refine ⟨_, (pss_cons (ps_set (i := 1) sc_y1.nd rfl (by walk_at "lr") (pe_call G_y6 hr.m (by rfl) T.mg_y6 T.kp_y6 T.B_y6 .nil pass0 (pa_cons (pv 0) (pa_cons (pe_op op_pow pe_int pe_int) pa_nil)))) (pss_cons (ps_set (i := 2) sc_y1.nd rfl (by walk_at "lr") (pe_op (op_addG (K := K) rfl) (pe_op (op_addG (K := K) rfl) (pv 1) pe_int) (pe_call G_y6 hr.m (by rfl) T.mg_y6 T.kp_y6 T.B_y6 .nil pass0 (pa_cons (pv 0) (pa_cons pe_int pa_nil))))) (pss_cons (ps_set (i := 3) sc_y1.nd rfl (by walk_at "lr") (pe_callTy call_strI (by rfl) T.z_str (by rfl) (pa_cons (pv 1) pa_nil))) (pss_cons (ps_set (i := 4) sc_y1.nd rfl (by walk_at "lr") (pe_callTy call_strI (by rfl) T.z_str (by rfl) (pa_cons (pv 2) pa_nil))) (pss_cons (ps_set (i := 5) sc_y1.nd rfl (by walk_at "lr") (pe_lst (pa_cons pe_str (pa_cons pe_str (pa_cons (pe_op (op_addG (K := K) rfl) (pe_op (op_addG (K := K) rfl) (pv 3) pe_str) (pv 3)) (pa_cons (pe_op (op_addG (K := K) rfl) (pe_op (op_addG (K := K) rfl) (pv 4) pe_str) (pv 3)) (pa_cons (pe_op (op_addG (K := K) rfl) (pv 3) pe_str) (pa_cons (pe_op (op_addG (K := K) rfl) pe_str (pv 3)) (pa_cons (pe_op (op_addG (K := K) rfl) pe_str (pv 3)) (pa_cons (pe_op (op_addG (K := K) rfl) pe_str (pv 3)) (pa_cons (pe_op (op_addG (K := K) rfl) (pe_op (op_addG (K := K) rfl) (pv 3) pe_str) (pv 4)) pa_nil))))))))))) (pss_cons (ps_aug (i := 5) sc_y1.nd rfl (by walk_at "lr") (pe_lst (pa_cons (pe_op (op_addG (K := K) rfl) (pe_op (op_addG (K := K) rfl) (pe_op (op_addG (K := K) rfl) (pv 3) pe_str) (pv 4)) pe_str) (pa_cons (pe_op (op_addG (K := K) rfl) (pe_op (op_addG (K := K) rfl) (pv 3) pe_str) (pv 4)) (pa_cons pe_str (pa_cons (pe_op (op_addG (K := K) rfl) (pv 3) pe_str) (pa_cons (pe_op (op_addG (K := K) rfl) (pe_op (op_addG (K := K) rfl) (pe_op (op_addG (K := K) rfl) (pe_op (op_addG (K := K) rfl) (pv 3) pe_str) (pv 4)) pe_str) (pv 3)) (pa_cons (pe_op (op_mulG (K := K) rfl) pe_str pe_int) pa_nil))))))) ip_list) (pss_one (ps_ret (pe_ix (ix_seqK (K := K) rfl) (pv 5) (pe_call G_y6 hr.m (by rfl) T.mg_y6 T.kp_y6 T.B_y6 .nil pass0 (pa_cons (pv 0) (pa_cons pe_int pa_nil)))))))))))), ?_⟩
    exact spS_body (O' := []) (Nms := ["_law_state", "_law_first", "_law_later", "_law_one", "_law_two", "_law_some"]) (f := b_y1) (by
      unfold b_y1
      exact (ms_seq (O1 := [0]) (ms_set (me_callS (i := 0) n_y6 (by decide) (ma_cons (me_op og_pow me_int me_int) ma_nil))) (ms_seq (O1 := [0]) (ms_set (me_op og_add (me_op og_add (me_var (i := 1)) me_int) (me_callS (i := 0) n_y6 (by decide) (ma_cons me_int ma_nil)))) (ms_seq (O1 := [0]) (ms_set (me_call1 cs_str mb_var)) (ms_seq (O1 := [0]) (ms_set (me_call1 cs_str mb_var)) (ms_seq (O1 := [0, 5]) (ms_own (mn_lst (ma_cons me_str (ma_cons me_str (ma_cons (me_op og_add (me_op og_add (me_var (i := 3)) me_str) (me_var (i := 3))) (ma_cons (me_op og_add (me_op og_add (me_var (i := 4)) me_str) (me_var (i := 3))) (ma_cons (me_op og_add (me_var (i := 3)) me_str) (ma_cons (me_op og_add me_str (me_var (i := 3))) (ma_cons (me_op og_add me_str (me_var (i := 3))) (ma_cons (me_op og_add me_str (me_var (i := 3))) (ma_cons (me_op og_add (me_op og_add (me_var (i := 3)) me_str) (me_var (i := 4))) ma_nil)))))))))) rfl) (ms_seq (O1 := [0]) (ms_augL (i := 5) (by decide) (mn_lst (ma_cons (me_op og_add (me_op og_add (me_op og_add (me_var (i := 3)) me_str) (me_var (i := 4))) me_str) (ma_cons (me_op og_add (me_op og_add (me_var (i := 3)) me_str) (me_var (i := 4))) (ma_cons me_str (ma_cons (me_op og_add (me_var (i := 3)) me_str) (ma_cons (me_op og_add (me_op og_add (me_op og_add (me_op og_add (me_var (i := 3)) me_str) (me_var (i := 4))) me_str) (me_var (i := 3))) (ma_cons (me_op og_mulG me_str me_int) ma_nil))))))) rfl) (ms_ret rfl (me_op op_ix (me_var (i := 5)) (me_callS (i := 0) n_y6 (by decide) (ma_cons me_int ma_nil))) rfl)))))))) h
noncomputable def b_law : Rho → Option Out :=
  (sSeq (sSet 1 (mOf (mLst (mCons (mCall f_y7 (mCons (mVar 0) mNil)) mNil))))
  (sSeq (sFor (mSeq (mOp2 dAdd (mSl (mVar 0) (mRet none) (mPart (mRet (.int 30)))) (mOf (mLst (mCons (mRet (.int 0)) mNil))))) (gSet 2)
    (sSeq (sOwn 3 (mLst (mCons (mOp2 dMod (mOp2 dAdd (mOp2 dIx (mVar 1) (mRet (.int 0))) (mOp2 dMod (mVar 2) (mOp2 dPow (mRet (.int 10)) (mRet (.int 30))))) (mOp2 dSub (mOp2 dPow (mRet (.int 2)) (mRet (.int 61))) (mRet (.int 1)))) mNil)))
  (sSeq (sIf (mNot (mTest (mCall f_y3 (mCons (mRet (.fn "read_scheme")) (mCons (mCallS f_y0 3 (mCons (mCallS f_y4 3 mNil) mNil)) (mCons (mOf (mLst (mCons (mRet (.bl true)) (mCons (mRet (.bl false)) mNil)))) mNil))))))
    (sRet (mRet (.bl false)))
    sNil)
  (sSeq (sIf (mNot (mTest (mCall f_y3 (mCons (mRet (.fn "read_heard")) (mCons (mCallS f_y2 3 mNil) (mCons (mOf (mLst (mCons (mRet (.bl true)) (mCons (mRet (.bl false)) mNil)))) mNil))))))
    (sRet (mRet (.bl false)))
    sNil)
  (sSeq (sIf (mNot (mTest (mCall f_y3 (mCons (mRet (.fn "read_places")) (mCons (mCallS f_y1 3 mNil) (mCons (mOf (mLst (mCons (mRet (.bl true)) (mCons (mRet (.bl false)) mNil)))) mNil))))))
    (sRet (mRet (.bl false)))
    sNil)
  (sSeq (sSet 4 (mOp2 dIx (mOf (mLst (mCons (mRet .non) (mCons (mRet (.int 3)) (mCons (mRet (.bl false)) (mCons (mOf (mLst (mCons (mRet (.str "0")) mNil))) (mCons (mTup mNil) (mCons (mRet (.dct [])) mNil)))))))) (mCallS f_y6 3 (mCons (mRet (.int 6)) mNil))))
  (sIf (mNot (mTest (mCall f_y3 (mCons (mOp2 dIx (mOf (mLst (mCons (mRet (.fn "read_scheme")) (mCons (mRet (.fn "read_heard")) (mCons (mRet (.fn "read_places")) mNil))))) (mCallS f_y6 3 (mCons (mRet (.int 3)) mNil))) (mCons (mVar 4) (mCons (mOf (mLst (mCons (mRet (.bl true)) (mCons (mRet (.bl false)) mNil)))) mNil))))))
    (sRet (mRet (.bl false)))
    sNil)))))))
  (sRet (mRet (.bl true)))))
noncomputable def f_law : List D → Option D := runP false 1 5 b_law
theorem ok_law (T : Txt K mg a) : FnOk P w K mg base CX0 7 a.f_law a.fd_law ["_law_script"] (spP K false 1 f_law) := by
  have G_y7 := ok_y7 (P := P) (w := w) (base := base) T
  have G_y4 := ok_y4 (P := P) (w := w) (base := base) T
  have G_y0 := ok_y0 (P := P) (w := w) (base := base) T
  have G_y3 := ok_y3 (P := P) (w := w) (base := base) T
  have G_y2 := ok_y2 (P := P) (w := w) (base := base) T
  have G_y1 := ok_y1 (P := P) (w := w) (base := base) T
  have G_y6 := ok_y6 (P := P) (w := w) (base := base) T
  refine T.F_law.ok sc_law (fun _ _ _ _ h => h.1) (fun cdv A outer s H vs Q E hr h => ?_)
  · refine ⟨_, (pss_cons (ps_set (i := 1) sc_law.nd rfl (by walk_at "lr") (pe_lst (pa_cons (pe_call G_y7 hr.m (by rfl) T.mg_y7 T.kp_y7 T.B_y7 .nil pass0 (pa_cons (pv 0) pa_nil)) pa_nil))) (pss_cons (ps_for PassesOwn.never rfl (pi_seqK (K := K) rfl (pe_op (op_addG (K := K) rfl) (pe_slice (sl_seqK (K := K) rfl) (pv 0) po_none (po_some pe_int)) (pe_lst (pa_cons pe_int pa_nil)))) (pg_name (i := 2) sc_law.nd rfl (by walk_at "lr")) (pss_cons (ps_set (i := 3) sc_law.nd rfl (by walk_at "lr") (pe_lst (pa_cons (pe_op op_mod (pe_op (op_addG (K := K) rfl) (pe_ix (ix_seqK (K := K) rfl) (pv 1) pe_int) (pe_op op_mod (pv 2) (pe_op op_pow pe_int pe_int))) (pe_op op_sub (pe_op op_pow pe_int pe_int) pe_int)) pa_nil))) (pss_cons (ps_if (pt_not (pt_val (pe_call G_y3 hr.m (by rfl) T.mg_y3 T.kp_y3 T.B_y3 .nil pass0 (pa_cons (pe_glob (v := .ref a.f_y9) (by rfl) T.mg_y9 rfl) (pa_cons (pe_call G_y0 hr.m (by rfl) T.mg_y0 T.kp_y0 T.B_y0 .nil pass0 (pa_cons (pv 3) (pa_cons (pe_call G_y4 hr.m (by rfl) T.mg_y4 T.kp_y4 T.B_y4 .nil pass0 (pa_cons (pv 3) pa_nil)) pa_nil))) (pa_cons (pe_lst (pa_cons pe_bl (pa_cons pe_bl pa_nil))) pa_nil)))))) (pss_one (ps_ret pe_bl)) pss_nil) (pss_cons (ps_if (pt_not (pt_val (pe_call G_y3 hr.m (by rfl) T.mg_y3 T.kp_y3 T.B_y3 .nil pass0 (pa_cons (pe_glob (v := .ref a.f_y11) (by rfl) T.mg_y11 rfl) (pa_cons (pe_call G_y2 hr.m (by rfl) T.mg_y2 T.kp_y2 T.B_y2 .nil pass0 (pa_cons (pv 3) pa_nil)) (pa_cons (pe_lst (pa_cons pe_bl (pa_cons pe_bl pa_nil))) pa_nil)))))) (pss_one (ps_ret pe_bl)) pss_nil) (pss_cons (ps_if (pt_not (pt_val (pe_call G_y3 hr.m (by rfl) T.mg_y3 T.kp_y3 T.B_y3 .nil pass0 (pa_cons (pe_glob (v := .ref a.f_y10) (by rfl) T.mg_y10 rfl) (pa_cons (pe_call G_y1 hr.m (by rfl) T.mg_y1 T.kp_y1 T.B_y1 .nil pass0 (pa_cons (pv 3) pa_nil)) (pa_cons (pe_lst (pa_cons pe_bl (pa_cons pe_bl pa_nil))) pa_nil)))))) (pss_one (ps_ret pe_bl)) pss_nil) (pss_cons (ps_set (i := 4) sc_law.nd rfl (by walk_at "lr") (pe_ix (ix_seqK (K := K) rfl) (pe_lst (pa_cons pe_non (pa_cons pe_int (pa_cons pe_bl (pa_cons (pe_lst (pa_cons pe_str pa_nil)) (pa_cons (pe_tup pa_nil) (pa_cons pe_dict0 pa_nil))))))) (pe_call G_y6 hr.m (by rfl) T.mg_y6 T.kp_y6 T.B_y6 .nil pass0 (pa_cons (pv 3) (pa_cons pe_int pa_nil))))) (pss_one (ps_if (pt_not (pt_val (pe_call G_y3 hr.m (by rfl) T.mg_y3 T.kp_y3 T.B_y3 .nil pass0 (pa_cons (pe_ix (ix_seqK (K := K) rfl) (pe_lst (pa_cons (pe_glob (v := .ref a.f_y9) (by rfl) T.mg_y9 rfl) (pa_cons (pe_glob (v := .ref a.f_y11) (by rfl) T.mg_y11 rfl) (pa_cons (pe_glob (v := .ref a.f_y10) (by rfl) T.mg_y10 rfl) pa_nil)))) (pe_call G_y6 hr.m (by rfl) T.mg_y6 T.kp_y6 T.B_y6 .nil pass0 (pa_cons (pv 3) (pa_cons pe_int pa_nil)))) (pa_cons (pv 4) (pa_cons (pe_lst (pa_cons pe_bl (pa_cons pe_bl pa_nil))) pa_nil)))))) (pss_one (ps_ret pe_bl)) pss_nil)))))))) (pss_one (ps_ret pe_bl)))), ?_⟩
    exact spP_body (O' := []) (Nms := ["_law_script", "_law_state", "_law_cell", "_law_drawn", "_law_odd"]) (f := b_law) (by
      unfold b_law
      exact (ms_seq (O1 := []) (ms_set (me_new (mn_lst (ma_cons (me_callP n_y7 (ma_cons (me_var (i := 0)) ma_nil)) ma_nil)))) (ms_seq (O1 := []) (ms_for (O' := []) (mi_seq (me_op og_add (me_slice (me_var (i := 0)) mo_none (mo_some me_int)) (me_new (mn_lst (ma_cons me_int ma_nil))))) rfl (mg_name (i := 2)) (ms_seq (O1 := [3]) (ms_own (mn_lst (ma_cons (me_op og_mod (me_op og_add (me_op op_ix (me_var (i := 1)) me_int) (me_op og_mod (me_var (i := 2)) (me_op og_pow me_int me_int))) (me_op og_sub (me_op og_pow me_int me_int) me_int)) ma_nil)) rfl) (ms_seq (O1 := [3]) (ms_if (mt_not (mt_val (me_callP n_y3 (ma_cons (me_fn T.nsf_y9) (ma_cons (me_callS (i := 3) n_y0 (by decide) (ma_cons (me_callS (i := 3) n_y4 (by decide) ma_nil) ma_nil)) (ma_cons (me_new (mn_lst (ma_cons me_bl (ma_cons me_bl ma_nil)))) ma_nil)))))) (ms_ret rfl me_bl rfl) (ms_nil rfl)) (ms_seq (O1 := [3]) (ms_if (mt_not (mt_val (me_callP n_y3 (ma_cons (me_fn T.nsf_y11) (ma_cons (me_callS (i := 3) n_y2 (by decide) ma_nil) (ma_cons (me_new (mn_lst (ma_cons me_bl (ma_cons me_bl ma_nil)))) ma_nil)))))) (ms_ret rfl me_bl rfl) (ms_nil rfl)) (ms_seq (O1 := [3]) (ms_if (mt_not (mt_val (me_callP n_y3 (ma_cons (me_fn T.nsf_y10) (ma_cons (me_callS (i := 3) n_y1 (by decide) ma_nil) (ma_cons (me_new (mn_lst (ma_cons me_bl (ma_cons me_bl ma_nil)))) ma_nil)))))) (ms_ret rfl me_bl rfl) (ms_nil rfl)) (ms_seq (O1 := [3]) (ms_set (me_op op_ix (me_new (mn_lst (ma_cons me_non (ma_cons me_int (ma_cons me_bl (ma_cons (me_new (mn_lst (ma_cons me_str ma_nil))) (ma_cons (me_tup ma_nil) (ma_cons me_dict0 ma_nil)))))))) (me_callS (i := 3) n_y6 (by decide) (ma_cons me_int ma_nil)))) (ms_if (mt_not (mt_val (me_callP n_y3 (ma_cons (me_op op_ix (me_new (mn_lst (ma_cons (me_fn T.nsf_y9) (ma_cons (me_fn T.nsf_y11) (ma_cons (me_fn T.nsf_y10) ma_nil))))) (me_callS (i := 3) n_y6 (by decide) (ma_cons me_int ma_nil))) (ma_cons (me_var (i := 4)) (ma_cons (me_new (mn_lst (ma_cons me_bl (ma_cons me_bl ma_nil)))) ma_nil)))))) (ms_ret rfl me_bl rfl) (ms_nil rfl)))))))) (ms_ret rfl me_bl rfl)))) h
end
open PySem.NumText
theorem v_next (s m : Int) (h : 0 < m) : f_y6 [.int s] [.int m] = some (.int (dr s m), [.int (nx s)]) := by
  unfold f_y6 b_y6
  walk_at "ev"
  simp [nx, dr]
theorem v_seed (ns : List Int) : ∃ y : Int, f_y7 [.lst (ns.map D.int)] = some (.int y) := by
  obtain ⟨ρ', h1, y, v, rfl⟩ := for_all (fg := gSet 2) (fb := sSet 1 (mOp2 dMod (mOp2 dAdd (mOp2 dAdd (mOp2 dMulG (mVar 1) (mRet (.int 7368787))) (mOp2 dMod (mVar 2) (mOp2 dPow (mRet (.int 10)) (mRet (.int 30))))) (mRet (.int 11))) (mOp2 dSub (mOp2 dPow (mRet (.int 2)) (mRet (.int 61))) (mRet (.int 1)))))
    (fun ρ => ∃ (y : Int) (v : Option D), ρ = [some (.lst (ns.map D.int)), some (.int y), v]) (ns.map D.int) [some (.lst (ns.map D.int)), some (.int 1000003), none] ⟨_, _, rfl⟩ (by
      rintro x ρ hx ⟨y, v, rfl⟩
      obtain ⟨c, _, rfl⟩ := List.mem_map.mp hx
      refine ⟨_, _, rfl, .inl ?_, (y * 7368787 + c % 10 ^ Int.toNat 30 + 11) % (2 ^ Int.toNat 61 - 1), some (.int c), rfl⟩
      walk_at "ev")
  refine ⟨y, ?_⟩
  unfold f_y7 b_y7
  walk_at "ev"
theorem seq_nx {f g : Rho → Option Out} {ρ ρ1 : Rho} (h : f ρ = some (.nx ρ1)) : sSeq f g ρ = g ρ1 := by
  rw [ev_sseq, h]
  rfl
theorem run_of {b : Rho → Option Out} {n k : Nat} {ds : List D} {d : D} (hl : ds.length = n) (h : ∃ ρ, b (ds.map some ++ List.replicate (k - n) none) = some (.rt d ρ)) : runP false n k b ds = some d := by
  obtain ⟨ρ, h⟩ := h
  unfold runP
  rw [if_pos hl, h]
theorem run_ofS {b : Rho → Option Out} {n k : Nat} {xs ds : List D} {d : D} {ys : List D} (hl : ds.length + 1 = n) (h : ∃ ρ, b (some (.lst xs) :: (ds.map some ++ List.replicate (k - n) none)) = some (.rt d (some (.lst ys) :: ρ))) : runS false n k b xs ds = some (d, ys) := by
  obtain ⟨ρ, h⟩ := h
  unfold runS
  rw [if_pos hl, h]
  rfl
section
variable {s s1 s2 s3 s4 a b c k m r : Int} {e : Str} {T RW A B : List D} {v0 v1 v2 v3 v4 v5 v6 : Option D}
theorem ls0 (two : 2 ≤ sizeLine) (n1 : f_y6 [.int s] [.int 4] = some (.int a, [.int s1])) (n2 : f_y6 [.int s1] [.int 8] = some (.int b, [.int s2])) (h : atI [D.int a, D.int 4] (if b = 0 then 1 else 0) = some (.int r)) : (sSet 1 (mOp2 dIx (mOf (mLst (mCons (mCallS f_y6 0 (mCons (mRet (.int 4)) mNil)) (mCons (mRet (.int 4)) mNil)))) (mOp1 dInt (mOp2 dEq (mCallS f_y6 0 (mCons (mRet (.int 8)) mNil)) (mRet (.int 0)))))) [some (.lst [.int s]), none, none, none, none, none, none] = some (.nx [some (.lst [.int s2]), some (.int r), none, none, none, none, none]) := by
  walk_at "ev"
theorem ls1 (n1 : f_y6 [.int s] [.int 4] = some (.int a, [.int s1])) (bg : big (1 + a) = true) (l : (rangeD 0 (1 + a).toNat).length ≤ sizeLine) (c1 : compRun 1 [0, 1] (some (0, 1)) (gSet 0) (mRet true) (mCallS f_y6 1 (mCons (mOp2 dShl (mRet (.int 2)) (mVar 2)) mNil)) (rangeD 0 (1 + a).toNat) [some (.lst [.int s1]), some (.int r), none, none, none, none, none] = some (T, [some (.lst [.int s2]), some (.int r), none, none, none, none, none])) : (sSet 2 (mOf (mComp 1 [0, 1] (some (0, 1)) (mRng1 (mCons (mOp2 dAdd (mRet (.int 1)) (mCallS f_y6 0 (mCons (mRet (.int 4)) mNil))) mNil)) (gSet 0) (mRet true) (mCallS f_y6 1 (mCons (mOp2 dShl (mRet (.int 2)) (mVar 2)) mNil))))) [some (.lst [.int s]), some (.int r), none, none, none, none, none] = some (.nx [some (.lst [.int s2]), some (.int r), some (.lst T), none, none, none, none]) := by
  generalize (mCallS f_y6 1 (mCons (mOp2 dShl (mRet (.int 2)) (mVar 2)) mNil)) = F at c1 ⊢
  walk_at "ev"
theorem ls2 (two : 2 ≤ sizeLine) (n1 : f_y6 [.int s] [.int 3] = some (.int a, [.int s1])) (n2 : f_y6 [.int s1] [.int 3] = some (.int b, [.int s2])) (n3 : f_y6 [.int s2] [.int 6] = some (.int c, [.int s3])) (h : atI [D.int (1 + a), D.int (4 + b)] (if c = 0 then 1 else 0) = some (.int m)) : (sSet 3 (mOp2 dIx (mOf (mLst (mCons (mOp2 dAdd (mRet (.int 1)) (mCallS f_y6 0 (mCons (mRet (.int 3)) mNil))) (mCons (mOp2 dAdd (mRet (.int 4)) (mCallS f_y6 0 (mCons (mRet (.int 3)) mNil))) mNil)))) (mOp1 dInt (mOp2 dEq (mCallS f_y6 0 (mCons (mRet (.int 6)) mNil)) (mRet (.int 0)))))) [some (.lst [.int s]), v1, v2, none, none, none, none] = some (.nx [some (.lst [.int s3]), v1, v2, some (.int m), none, none, none]) := by
  walk_at "ev"
theorem ls3 (z0 : 0 ≤ sizeLine) : (sOwn 4 (mLst mNil)) [v0, v1, v2, v3, none, none, none] = some (.nx [v0, v1, v2, v3, some (.lst []), none, none]) := by
  walk_at "ev"
theorem ls4 {ρ' : Rho} (bg : big m = true) (l : (rangeD 0 m.toNat).length ≤ sizeLine) (h : forRun (gSet 5) (sSeq (sSet 6 (mOp2 dGt (mCallS f_y6 0 (mCons (mRet (.int 3)) mNil)) (mRet (.int 0))))
  (sMut dAppend 4 (mCons (mOp1 dTuple (mOf (mComp 1 [6, 0] (some (0, 2)) (mSeq (mVar 2)) (gSet 0) (mRet true) (mOp1 dInt (mOrV (mVar 1) (mOp2 dEq (mCallS f_y6 2 (mCons (mRet (.int 2)) mNil)) (mRet (.int 0)))))))) mNil))) (rangeD 0 m.toNat) [v0, v1, v2, some (.int m), v4, v5, v6] = some (.nx ρ')) : (sFor (mRng1 (mCons (mVar 3) mNil)) (gSet 5)
    (sSeq (sSet 6 (mOp2 dGt (mCallS f_y6 0 (mCons (mRet (.int 3)) mNil)) (mRet (.int 0))))
  (sMut dAppend 4 (mCons (mOp1 dTuple (mOf (mComp 1 [6, 0] (some (0, 2)) (mSeq (mVar 2)) (gSet 0) (mRet true) (mOp1 dInt (mOrV (mVar 1) (mOp2 dEq (mCallS f_y6 2 (mCons (mRet (.int 2)) mNil)) (mRet (.int 0)))))))) mNil)))) [v0, v1, v2, some (.int m), v4, v5, v6] = some (.nx ρ') := by
  generalize (sSeq (sSet 6 (mOp2 dGt (mCallS f_y6 0 (mCons (mRet (.int 3)) mNil)) (mRet (.int 0))))
  (sMut dAppend 4 (mCons (mOp1 dTuple (mOf (mComp 1 [6, 0] (some (0, 2)) (mSeq (mVar 2)) (gSet 0) (mRet true) (mOp1 dInt (mOrV (mVar 1) (mOp2 dEq (mCallS f_y6 2 (mCons (mRet (.int 2)) mNil)) (mRet (.int 0)))))))) mNil))) = F at h ⊢
  walk_at "ev"
theorem ls5 (three : 3 ≤ sizeLine) (four : 4 ≤ sizeLine) (lt : T.length ≤ sizeLine) (lr : RW.length ≤ sizeLine) (n1 : f_y6 [.int s] [.int 3] = some (.int k, [.int s1])) (h : atI [D.str "open", D.str "ended", D.str "ring"] k = some (.str e)) : (sRet (mTup (mCons (mVar 1) (mCons (mOp1 dTuple (mVar 2)) (mCons (mOp1 dTuple (mVar 4)) (mCons (mOp2 dIx (mOf (mLst (mCons (mRet (.str "open")) (mCons (mRet (.str "ended")) (mCons (mRet (.str "ring")) mNil))))) (mCallS f_y6 0 (mCons (mRet (.int 3)) mNil))) mNil)))))) [some (.lst [.int s]), some (.int r), some (.lst T), v3, some (.lst RW), v5, v6] = some (.rt (.tup [.int r, .tup T, .tup RW, .str e]) [some (.lst [.int s1]), some (.int r), some (.lst T), v3, some (.lst RW), v5, v6]) := by
  walk_at "ev"
theorem lsb0 (n1 : f_y6 [.int s] [.int 3] = some (.int k, [.int s1])) : (sSet 6 (mOp2 dGt (mCallS f_y6 0 (mCons (mRet (.int 3)) mNil)) (mRet (.int 0)))) [some (.lst [.int s]), v1, v2, v3, v4, v5, v6] = some (.nx [some (.lst [.int s1]), v1, v2, v3, v4, v5, some (.bl (decide (0 < k)))]) := by
  walk_at "ev"
theorem lsb1 (lt : T.length ≤ sizeLine) (lb : B.length ≤ sizeLine) (la : A.length < sizeLine) (h : compRun 1 [6, 0] (some (0, 2)) (gSet 0) (mRet true) (mOp1 dInt (mOrV (mVar 1) (mOp2 dEq (mCallS f_y6 2 (mCons (mRet (.int 2)) mNil)) (mRet (.int 0))))) T [some (.lst [.int s]), v1, some (.lst T), v3, some (.lst A), v5, v6] = some (B, [some (.lst [.int s1]), v1, some (.lst T), v3, some (.lst A), v5, v6])) : (sMut dAppend 4 (mCons (mOp1 dTuple (mOf (mComp 1 [6, 0] (some (0, 2)) (mSeq (mVar 2)) (gSet 0) (mRet true) (mOp1 dInt (mOrV (mVar 1) (mOp2 dEq (mCallS f_y6 2 (mCons (mRet (.int 2)) mNil)) (mRet (.int 0)))))))) mNil)) [some (.lst [.int s]), v1, some (.lst T), v3, some (.lst A), v5, v6] = some (.nx [some (.lst [.int s1]), v1, some (.lst T), v3, some (.lst (A ++ [.tup B])), v5, v6]) := by
  generalize (mOp1 dInt (mOrV (mVar 1) (mOp2 dEq (mCallS f_y6 2 (mCons (mRet (.int 2)) mNil)) (mRet (.int 0))))) = F at h ⊢
  walk_at "ev"
end
theorem v_lawscheme (s : Int) : ∃ r taps rows e s', f_y4 [.int s] [] = some (schD r taps rows e, [.int s']) ∧ SchOk r taps rows e := by
  have hn := v_next
  obtain ⟨r, er, hr⟩ := pickD (a := dr s 4) (b := 4) (dr (nx s) 8 = 0)
  have r0 : 0 ≤ r := by have := dr_lo s (m := 4) (by decide); omega
  have r4 : r ≤ 4 := by have := dr_hi s (m := 4) (by decide); omega
  have r6 : r ≤ 1000000 := by omega
  have pos2 : (0 : Int) < 2 * 2 ^ r.toNat := Int.mul_pos (by decide) (Int.pow_pos (by decide))
  have d0 := dr_lo (nx (nx s)) (m := 4) (by decide)
  have d4 := dr_hi (nx (nx s)) (m := 4) (by decide)
  have bg1 : big (1 + dr (nx (nx s)) 4) = true := by unfold big; simp; omega
  have l1 : (rangeD 0 (1 + dr (nx (nx s)) 4).toNat).length ≤ sizeLine := by rw [rangeD_len]; exact line_of (by omega)
  have two : 2 ≤ sizeLine := by decide
  have zero : 0 ≤ sizeLine := by decide
  -- taps
  obtain ⟨ts, s2, c1, c2, c3⟩ := cm_state (n := 1) (p := 0) (q := 1) (js := [0, 1]) (fg := gSet 0) (fe := mCallS f_y6 1 (mCons (mOp2 dShl (mRet (.int 2)) (mVar 2)) mNil))
    (fun s : Int => [some (.lst [.int s]), some (.int r), none, none, none, none, none]) (fun y => ∃ t : Int, y = .int t ∧ 0 ≤ t ∧ t < 2 * 2 ^ r.toNat) (rangeD 0 (1 + dr (nx (nx s)) 4).toNat) (fun x hx s => by
      refine ⟨[some x, some (.lst [.int s]), some (.int r)], [some x, some (.lst [.int (nx s)]), some (.int r)], .int (dr s (2 * 2 ^ r.toNat)), nx s, rfl, ?_, rfl, _, rfl, dr_lo s pos2, dr_hi s pos2⟩
      walk_at "ev") (nx (nx (nx s)))
  obtain ⟨taps, rfl, tb⟩ := ints_of c3
  rw [List.length_map, rangeD_len] at c2
  have t1 : 1 ≤ taps.length := by omega
  have t4 : taps.length ≤ 4 := by omega
  clear c2
  -- how many rows
  obtain ⟨m, em, hm⟩ := pickD (a := 1 + dr s2 3) (b := 4 + dr (nx s2) 3) (dr (nx (nx s2)) 6 = 0)
  have m1 : 1 ≤ m := by
    have h1 := dr_lo s2 (m := 3) (by decide)
    have h2 := dr_lo (nx s2) (m := 3) (by decide)
    omega
  have m6 : m ≤ 6 := by
    have h1 := dr_hi s2 (m := 3) (by decide)
    have h2 := dr_hi (nx s2) (m := 3) (by decide)
    omega
  have bg2 : big m = true := by unfold big; simp; omega
  have l2 : taps.length ≤ sizeLine := line_of (by omega)
  -- the rows
  obtain ⟨ρ', f1, rows, s3, v5, v6, rfl, lr, hrow⟩ := for_inv (fg := gSet 5) (fb := sSeq (sSet 6 (mOp2 dGt (mCallS f_y6 0 (mCons (mRet (.int 3)) mNil)) (mRet (.int 0))))
    (sMut dAppend 4 (mCons (mOp1 dTuple (mOf (mComp 1 [6, 0] (some (0, 2)) (mSeq (mVar 2)) (gSet 0) (mRet true) (mOp1 dInt (mOrV (mVar 1) (mOp2 dEq (mCallS f_y6 2 (mCons (mRet (.int 2)) mNil)) (mRet (.int 0)))))))) mNil)))
    (fun i ρ => ∃ (rows : List (List Int)) (s : Int) (v5 v6 : Option D), ρ = [some (.lst [.int s]), some (.int r), some (.lst (taps.map D.int)), some (.int m), some (.lst (rows.map rowD)), v5, v6] ∧ rows.length = i ∧ ∀ row ∈ rows, row.length = taps.length ∧ ∀ b ∈ row, b = 0 ∨ b = 1)
    (rangeD 0 m.toNat) 0 [some (.lst [.int (nx (nx (nx s2)))]), some (.int r), some (.lst (taps.map D.int)), some (.int m), some (.lst []), none, none] ⟨[], _, none, none, rfl, rfl, fun _ h => nomatch h⟩ (by
      rintro i x ρ hx ⟨rows, s, v5, v6, rfl, lr, hrow⟩
      obtain ⟨hi, rfl⟩ := rangeD_get hx
      obtain ⟨bs, s4, g1, g2, g3⟩ := cm_state (n := 1) (p := 0) (q := 2) (js := [6, 0]) (fg := gSet 0) (fe := mOp1 dInt (mOrV (mVar 1) (mOp2 dEq (mCallS f_y6 2 (mCons (mRet (.int 2)) mNil)) (mRet (.int 0)))))
        (fun s' : Int => [some (.lst [.int s']), some (.int r), some (.lst (taps.map D.int)), some (.int m), some (.lst (rows.map rowD)), some (.int (i : Int)), some (.bl (decide (0 < dr s 3)))]) (fun y => ∃ t : Int, y = .int t ∧ (t = 0 ∨ t = 1)) (taps.map D.int) (fun x hx s' => by
          cases hf : decide (0 < dr s 3) with
          | true =>
            refine ⟨[some x, some (.bl true), some (.lst [.int s'])], [some x, some (.bl true), some (.lst [.int s'])], .int 1, s', rfl, ?_, rfl, 1, rfl, .inr rfl⟩
            clear hf
            walk_at "ev"
          | false =>
            refine ⟨[some x, some (.bl false), some (.lst [.int s'])], [some x, some (.bl false), some (.lst [.int (nx s')])], .int (if (dr s' 2 == 0) = true then 1 else 0), nx s', rfl, ?_, rfl, _, rfl, ?_⟩
            · clear hf
              walk_at "ev"
            · split
              · exact .inr rfl
              · exact .inl rfl) (nx s)
      obtain ⟨row, rfl, hb⟩ := ints_of g3
      rw [List.length_map, List.length_map] at g2
      have l5 : rows.length < sizeLine := Nat.lt_of_lt_of_le (by omega : rows.length < 1000) (by decide)
      refine ⟨[some (.lst [.int s]), some (.int r), some (.lst (taps.map D.int)), some (.int m), some (.lst (rows.map rowD)), some (.int (0 + (i : Int))), v6],
        [some (.lst [.int s4]), some (.int r), some (.lst (taps.map D.int)), some (.int m), some (.lst ((rows ++ [row]).map rowD)), some (.int (i : Int)), some (.bl (decide (0 < dr s 3)))], rfl, .inl ?_, rows ++ [row], s4, _, _, rfl, by rw [List.length_append, lr]; simp, fun z hz => ?_⟩
      · rw [Int.zero_add]
        refine (seq_nx (lsb0 (hn s 3 (by decide)))).trans ((lsb1 (by rw [List.length_map]; exact l2) (by rw [List.length_map, g2]; exact l2) (by rw [List.length_map]; exact l5) g1).trans ?_)
        rw [List.map_append]
        rfl
      · rcases List.mem_append.mp hz with hz | hz
        · exact hrow z hz
        · rw [List.mem_singleton.mp hz]
          exact ⟨g2, hb⟩)
  rw [rangeD_len] at lr
  have h3 := dr_lo s3 (m := 3) (by decide)
  have h4 := dr_hi s3 (m := 3) (by decide)
  obtain ⟨e, ee, he⟩ : ∃ e : Str, atI [D.str "open", D.str "ended", D.str "ring"] (dr s3 3) = some (.str e) ∧ (e = "open" ∨ e = "ended" ∨ e = "ring") := by
    rcases (by omega : dr s3 3 = 0 ∨ dr s3 3 = 1 ∨ dr s3 3 = 2) with q | q | q
    · rw [q]; exact ⟨_, rfl, .inl rfl⟩
    · rw [q]; exact ⟨_, rfl, .inr (.inl rfl)⟩
    · rw [q]; exact ⟨_, rfl, .inr (.inr rfl)⟩
  refine ⟨r, taps, rows, e, nx s3, ?_, ⟨r0, r4, t1, t4, tb, by omega, by omega, hrow, he⟩⟩
  unfold f_y4 b_y4
  exact run_ofS rfl ⟨_, (seq_nx (ls0 two (hn s 4 (by decide)) (hn (nx s) 8 (by decide)) er)).trans <| (seq_nx (ls1 (hn (nx (nx s)) 4 (by decide)) bg1 l1 c1)).trans <| (seq_nx (ls2 two (hn s2 3 (by decide)) (hn (nx s2) 3 (by decide)) (hn (nx (nx s2)) 6 (by decide)) em)).trans <| (seq_nx (ls3 zero)).trans <| (seq_nx (ls4 bg2 (by rw [rangeD_len]; exact line_of (by omega)) f1)).trans (ls5 (by decide) (by decide) (by rw [List.length_map]; exact l2) (by rw [List.length_map]; exact line_of (by omega)) (hn s3 3 (by decide)) ee)⟩
noncomputable def N60 (n : Int) : Prop := -1000000000000000000000000000000000000000000000000000000000000 < n ∧ n < 1000000000000000000000000000000000000000000000000000000000000
theorem N60.abs {n : Int} (h : N60 n) : n.natAbs < 10 ^ 60 := by
  have e : (10 : Nat) ^ 60 = 1000000000000000000000000000000000000000000000000000000000000 := by decide +kernel
  rw [e]
  unfold N60 at h
  omega
theorem N60.len {n : Int} (h : N60 n) : (tx n).length ≤ 61 := tx_len h.abs (by decide)
theorem N60.str {n : Int} (h : N60 n) : dStr (.int n) = some (.str (tx n)) := dStr_tx (Nat.lt_trans h.abs (by decide +kernel))
theorem N60.back {n : Int} (h : N60 n) : dIntT (.str (tx n)) = some (.int n) := dIntT_tx (Nat.le_trans h.len (by decide))
theorem strsD_map : ∀ xs : List Str, strsD (xs.map D.str) = some xs
  | [] => rfl
  | x :: xs => by
    show (strsD (xs.map D.str)).map (x :: ·) = _
    rw [strsD_map xs]
    rfl
theorem sum_le : ∀ (xs : List Str), (∀ x ∈ xs, x.length ≤ 200) → (xs.map (·.length)).sum ≤ xs.length * 200
  | [], _ => Nat.le_refl _
  | x :: xs, h => by
    have h1 := h x List.mem_cons_self
    have h2 := sum_le xs fun y hy => h y (List.mem_cons_of_mem _ hy)
    rw [List.map_cons, List.sum_cons, List.length_cons]
    omega
theorem join_is {sep : Str} {xs : List Str} (hs : sep.length ≤ 1) (hl : xs.length ≤ 2000) (h : ∀ x ∈ xs, x.length ≤ 200) : dJoin (.str sep) (.lst (xs.map D.str)) = some (.str (Txt.join sep xs)) := by
  unfold dJoin
  dsimp only
  rw [strsD_map]
  have := sum_le xs h
  have m : xs.length * sep.length ≤ xs.length := by
    have := Nat.mul_le_mul_left xs.length hs
    omega
  dsimp only
  rw [if_pos (by omega)]
noncomputable def rowT (row : List Int) : Str := Txt.join "" (row.map tx)
theorem tx0 : tx 0 = "0" := str_ext ((tx_nat 0).trans (digs_small (by decide)))
theorem tx1 : tx 1 = "1" := str_ext ((tx_nat 1).trans (digs_small (by decide)))
theorem strs_cm (ns : List Int) (h : ∀ n ∈ ns, N60 n) (ρ : Rho) : compRun 1 [] none (gSet 0) (mRet true) (mOp1 dStr (mVar 0)) (ns.map D.int) ρ = some ((ns.map tx).map D.str, ρ) := by
  have cm := cm_map (n := 1) (js := []) (fg := gSet 0) (fe := mOp1 dStr (mVar 0)) (ρ := ρ) (fun d => match d with | .int b => .str (tx b) | d => d) (ns.map D.int) (fun x hx => by
    obtain ⟨b, hb, rfl⟩ := List.mem_map.mp hx
    have e := (h b hb).str
    refine ⟨[some (.int b)], rfl, ?_⟩
    clear hx hb
    dsimp only
    generalize tx b = t at e ⊢
    walk_at "ev")
  rw [cm, List.map_map, List.map_map]
  rfl
theorem bit_len {b : Int} (h : b = 0 ∨ b = 1) : (tx b).length = 1 := by
  rcases h with rfl | rfl
  · rw [tx0]; rfl
  · rw [tx1]; rfl
theorem bit_sign {b : Int} {c : Nat} (h : b = 0 ∨ b = 1) (hc : c ∈ (tx b).cps.toList) : c = 48 ∨ c = 49 := by
  rcases h with rfl | rfl
  · rw [tx0] at hc
    have h' : c ∈ [48] := hc
    exact .inl (by simpa using h')
  · rw [tx1] at hc
    have h' : c ∈ [49] := hc
    exact .inr (by simpa using h')
theorem rowT_sign {row : List Int} (h : ∀ b ∈ row, b = 0 ∨ b = 1) {c : Nat} (hc : c ∈ (rowT row).cps.toList) : c = 48 ∨ c = 49 := by
  unfold rowT at hc
  rw [join0_cps] at hc
  obtain ⟨l, hl, hc⟩ := List.mem_flatten.mp hc
  obtain ⟨x, hx, rfl⟩ := List.mem_map.mp hl
  obtain ⟨b, hb, rfl⟩ := List.mem_map.mp hx
  exact bit_sign (h b hb) hc
theorem rowT_len : ∀ {row : List Int}, (∀ b ∈ row, b = 0 ∨ b = 1) → (rowT row).length = row.length
  | [], _ => rfl
  | b :: r, h => by
    unfold rowT
    rw [List.map_cons, len_toList, join0_cons, List.length_append, ← len_toList, ← len_toList, bit_len (h b List.mem_cons_self)]
    have := rowT_len (row := r) fun x hx => h x (List.mem_cons_of_mem _ hx)
    unfold rowT at this
    rw [this, List.length_cons]
    omega
theorem one_ok {c : Nat} (h : c ≤ 57) : PyData.strOk ⟨#[c]⟩ = true := strOk_of fun d hd => by
  have : d = c := by simpa using hd
  omega
theorem eq_one {c d : Nat} (h : c ≤ 57) (h' : d ≤ 57) : eqD (.str ⟨#[c]⟩) (.str ⟨#[d]⟩) = some (decide (c = d)) := by
  rw [eqD_str (one_ok h) (one_ok h')]
  by_cases q : c = d
  · subst q; simp
  · rw [decide_eq_false q]
    congr 1
    rw [beq_eq_false_iff_ne]
    intro z
    exact q (by simpa using congrArg (fun s : Str => s.cps.toList) z)
theorem eq_txt {x : Str} (ho : PyData.strOk x = true) {d : Nat} (h' : d ≤ 57) : eqD (.str x) (.str ⟨#[d]⟩) = some (decide (x.cps.toList = [d])) := by
  rw [eqD_str ho (one_ok h')]
  by_cases q : x.cps.toList = [d]
  · rw [decide_eq_true q]
    congr 1
    rw [beq_iff_eq]
    exact str_ext q
  · rw [decide_eq_false q]
    congr 1
    rw [beq_eq_false_iff_ne]
    intro z
    exact q (by rw [z])
theorem rf_ok (x : Str) (c : Nat) (most L n : Int) (b b' : Bool) (lx : x.length ≤ sizeLine) (hm : f_y17 [.str x, .str "0123456789"] = some (.bl true)) (hl : dLenS (.str x) = some (.int L)) (n1 : ¬ most < L) (e3 : atI x.cps.toList 0 = some c) (e4 : eqD (.str ⟨#[c]⟩) (.str "0") = some b) (e2 : eqD (.str x) (.str "0") = some b') (hb : b = false ∨ b' = true) (hi : dIntT (.str x) = some (.int n)) : f_y8 [.str x, .int most] = some (.int n) := by
  unfold f_y8 b_y8
  cases b with
  | false =>
    clear hb e2
    walk_at "ev"
  | true =>
    cases b' with
    | false => exact absurd hb (by decide)
    | true =>
      clear hb
      walk_at "ev"
theorem tx_pos_len {n : Int} {k : Nat} (n0 : 0 ≤ n) (h : n.natAbs < 10 ^ k) (hk : 0 < k) : (tx n).length ≤ k := by
  rw [len_toList]
  have := digs_len h hk
  rcases tx_cases n with ⟨_, e⟩ | ⟨_, e⟩
  · rw [e]; exact this
  · omega
theorem rb_end (x : Str) (Z W : List D) (hm : f_y17 [.str x, .str "01"] = some (.bl true)) (hs : sgO (.str x) = some Z) (lz : Z.length ≤ sizeLine) (cm : compRun 1 [] none (gSet 0) (mRet true) (mOp1 dIntT (mVar 0)) Z [some (.str x)] = some (W, [some (.str x)])) : f_y15 [.str x] = some (.lst W) := by
  unfold f_y15 b_y15
  walk_at "ev"
theorem cut2 {α : Type} {a b : Nat} (xs ys zs : List α) (h1 : xs.length = a) (h2 : a + ys.length = b) : ((xs ++ (ys ++ zs)).drop a).take (b - a) = ys := by
  rw [← h1, List.drop_left, ← h2, h1, Nat.add_sub_cancel_left, List.take_left]
theorem cutD_two {xs ys zs : List D} {a b : Int} (ha : 0 ≤ a) (hb : 0 ≤ b) (h1 : (xs.length : Int) = a) (h2 : a + ys.length = b) : dSl (.lst (xs ++ (ys ++ zs))) (some a) (some b) = some (.lst ys) := by
  show some (D.lst (cutD _ _ _)) = _
  unfold cutD
  rw [sIx_pos ha, sIx_pos hb]
  have n : (xs ++ (ys ++ zs)).length = xs.length + (ys.length + zs.length) := by rw [List.length_append, List.length_append]
  rw [n, Nat.min_eq_left (by omega), Nat.min_eq_left (by omega), cut2 xs ys zs (by omega) (by omega)]
theorem sIx_neg1 {n d : Nat} (h : 0 < n) : HT.sIx n d (some (-1)) = n - 1 := by
  show (if (-1 : Int) < 0 then ((-1 : Int) + (n : Int)).toNat else min (-1 : Int).toNat n) = _
  rw [if_pos (by decide)]
  omega
theorem cutD_last {xs ys : List D} {z : D} {a : Int} (ha : 0 ≤ a) (h1 : (xs.length : Int) = a) : dSl (.lst (xs ++ (ys ++ [z]))) (some a) (some (-1)) = some (.lst ys) := by
  show some (D.lst (cutD _ _ _)) = _
  unfold cutD
  have n : (xs ++ (ys ++ [z])).length = xs.length + (ys.length + 1) := by rw [List.length_append, List.length_append, List.length_singleton]
  rw [sIx_pos ha, sIx_neg1 (by omega), n, Nat.min_eq_left (by omega), cut2 xs ys [z] (by omega) (by omega)]
theorem at_last {α : Type} (xs : List α) (z : α) : atI (xs ++ [z]) (-1) = some z := by
  unfold atI ixN
  have n : (xs ++ [z]).length = xs.length + 1 := by rw [List.length_append, List.length_singleton]
  rw [if_neg (by decide), n, if_pos (by omega)]
  have e : ((-1 : Int) + ((xs.length + 1 : Nat) : Int)).toNat = xs.length := by omega
  simp only [Option.bind_some]
  rw [e]
  simp
theorem in_list {k : Str} {ws : List Str} (h : k ∈ ws) : dInG false (.str k) (.lst (ws.map D.str)) = some (.bl true) := by
  unfold dInG
  simp only [dSeq]
  have f : (ws.map D.str).all flatD = true := by
    rw [List.all_map, List.all_eq_true]
    intro x _
    rfl
  rw [if_pos ⟨rfl, f⟩]
  have e : inD (.str k) (ws.map D.str) = true := by
    unfold inD inV
    rw [List.any_map, List.any_map, List.any_eq_true]
    exact ⟨k, h, by show (k == k) = true; simp⟩
  rw [e]
  rfl
theorem idx_is {xs zs : List Str} {k : Str} (h : k ∉ xs) : dIdx (.lst ((xs ++ k :: zs).map D.str)) (.str k) = some (.int (xs.length : Nat)) := by
  unfold dIdx
  dsimp only
  rw [strsD_map]
  dsimp only
  rw [if_pos (by simp), List.idxOf_append, if_neg h]
  simp
theorem seq_rt {f g : Rho → Option Out} {ρ ρ1 : Rho} {d : D} (h : f ρ = some (.rt d ρ1)) : sSeq f g ρ = some (.rt d ρ1) := by
  rw [ev_sseq, h]
  rfl
theorem eq_nil {x : Str} (ho : PyData.strOk x = true) : eqD (.str x) (.str "") = some (decide (x.cps.toList = [])) := by
  rw [eqD_str ho (by decide +kernel)]
  congr 1
  rw [Bool.eq_iff_iff, beq_iff_eq, decide_eq_true_eq]
  exact ⟨fun z => by rw [z]; rfl, fun z => str_ext z⟩
theorem at_mem {α : Type} {xs : List α} {k : Int} (h0 : 0 ≤ k) (h1 : k < (xs.length : Int)) : ∃ x, atI xs k = some x ∧ x ∈ xs := by
  have kl : k.toNat < xs.length := by omega
  have ek : ((k.toNat : Nat) : Int) = k := by omega
  refine ⟨xs[k.toNat], ?_, List.getElem_mem kl⟩
  have := atI_nat (xs := xs) (j := k.toNat) (v := xs[k.toNat]) (List.getElem?_eq_getElem kl)
  rw [ek] at this
  exact this
theorem app_len (x y : Str) : (x ++ y).length = x.length + y.length := by
  rw [len_toList, cps_append, List.length_append]
  rfl
theorem made_gen (x F : Str) (L : Int) (Z W : List D) (Bs : List Bool) (b : Bool) (hl : dLenS (.str x) = some (.int L)) (n0 : 0 < L) (hs : sgO (.str x) = some Z) (cm : compRun 1 [1] none (gSet 0) (mRet true) (mOp2 dInS (mVar 0) (mVar 1)) Z [some (.str x), some (.str F)] = some (W, [some (.str x), some (.str F)])) (hb : boolsD W = some Bs) (ha : Bs.all id = b) (lz : Z.length ≤ sizeLine) : f_y17 [.str x, .str F] = some (.bl b) := by
  unfold f_y17 b_y17
  generalize hd : (mOp2 dInS (mVar 0) (mVar 1)) = fe at cm ⊢
  walk_at "ev"
theorem made_none (x F : Str) (hl : dLenS (.str x) = some (.int 0)) : f_y17 [.str x, .str F] = some (.bl false) := by
  unfold f_y17 b_y17
  walk_at "ev"
noncomputable def mkF (F : Str) (l : List Nat) : Bool := l.all fun c => decide (c ∈ F.cps.toList)
theorem bools_of : ∀ Bs : List Bool, boolsD (Bs.map D.bl) = some Bs
  | [] => rfl
  | b :: Bs => by
    show (boolsD (Bs.map D.bl)).map (b :: ·) = _
    rw [bools_of Bs]
    rfl
theorem p_made {x F : Str} (lx : x.length ≤ sizeLine) : f_y17 [.str x, .str F] = some (.bl (!x.cps.toList.isEmpty && mkF F x.cps.toList)) := by
  by_cases ne : x.cps.toList = []
  · rw [ne]
    exact made_none x F (dLenS_is lx (by rw [len_toList, ne]; rfl))
  · have e : (!x.cps.toList.isEmpty && mkF F x.cps.toList) = (x.cps.toList.map fun c => decide (c ∈ F.cps.toList)).all id := by
      rw [List.all_map]
      cases h : x.cps.toList with
      | nil => exact absurd h ne
      | cons a r => rfl
    rw [e]
    refine made_gen x F (x.length : Nat) (signsD x) ((x.cps.toList.map fun c => decide (c ∈ F.cps.toList)).map D.bl) _ _ (dLenS_is lx rfl) (by
      rw [len_toList]
      have := List.length_pos_iff.mpr ne
      omega) rfl ?_ (bools_of _) rfl (by
      unfold signsD
      rw [List.length_map, ← len_toList]
      exact lx)
    have cm := cm_map (n := 1) (js := [1]) (fg := gSet 0) (fe := mOp2 dInS (mVar 0) (mVar 1)) (ρ := [some (.str x), some (.str F)]) (fun d => (dInS d (.str F)).getD .non) (signsD x) (fun y hy => by
      unfold signsD at hy
      obtain ⟨c, hc, rfl⟩ := List.mem_map.mp hy
      have q := in_one F c
      refine ⟨[some (.str ⟨#[c]⟩), some (.str F)], rfl, ?_⟩
      rw [q]
      clear hy hc e ne
      generalize dInS = J at q ⊢
      walk_at "ev")
    have m : (signsD x).map (fun d => (dInS d (.str F)).getD .non) = (x.cps.toList.map fun c => decide (c ∈ F.cps.toList)).map D.bl := by
      unfold signsD
      rw [List.map_map, List.map_map]
      refine List.map_congr_left fun c _ => ?_
      show (dInS (.str ⟨#[c]⟩) (.str F)).getD .non = _
      rw [in_one]
      rfl
    rw [m] at cm
    exact cm
theorem figs_cps : ("0123456789" : Str).cps.toList = [48, 49, 50, 51, 52, 53, 54, 55, 56, 57] := by decide +kernel
theorem bits_cps : ("01" : Str).cps.toList = [48, 49] := by decide +kernel
theorem mk_figs (l : List Nat) : mkF "0123456789" l = true ↔ AllDigits l := by
  unfold mkF AllDigits
  rw [List.all_eq_true, figs_cps]
  refine forall_congr' fun c => forall_congr' fun _ => ?_
  rw [decide_eq_true_eq, show [48, 49, 50, 51, 52, 53, 54, 55, 56, 57] = List.range' 48 10 from rfl, List.mem_range'_1]
  omega
theorem mk_bits (l : List Nat) : mkF "01" l = true ↔ ∀ c ∈ l, c = 48 ∨ c = 49 := by
  unfold mkF
  rw [List.all_eq_true, bits_cps]
  refine forall_congr' fun c => forall_congr' fun _ => ?_
  rw [decide_eq_true_eq]
  simp only [List.mem_cons, List.not_mem_nil, or_false]
noncomputable def figsM (k : Nat) (l : List Nat) : Prop := l ≠ [] ∧ AllDigits l ∧ l.length ≤ k ∧ (l = [48] ∨ l.head? ≠ some 48)
theorem rfx_none (x : Str) (c : Nat) (most L n : Int) (b b' : Bool) (lx : x.length ≤ sizeLine) (hm : f_y17 [.str x, .str "0123456789"] = some (.bl true)) (hl : dLenS (.str x) = some (.int L)) (n1 : ¬ most < L) (e3 : atI x.cps.toList 0 = some c) (e4 : eqD (.str ⟨#[c]⟩) (.str "0") = some b) (e2 : eqD (.str x) (.str "0") = some b') (hb : b = false ∨ b' = true) : fx_y8 [.str x, .int most] = none := by
  unfold fx_y8 x_y8
  cases b with
  | false =>
    clear hb e2
    walk_at "ev"
  | true =>
    cases b' with
    | false => exact absurd hb (by decide)
    | true =>
      clear hb
      walk_at "ev"
theorem rfx_made (x : Str) (most : Int) (l1 : 1 ≤ sizeLine) (hm : f_y17 [.str x, .str "0123456789"] = some (.bl false)) : fx_y8 [.str x, .int most] = some ("NoText" : Str) := by
  unfold fx_y8 x_y8
  walk_at "ev"
theorem rfx_long (x : Str) (most L : Int) (l1 : 1 ≤ sizeLine) (hm : f_y17 [.str x, .str "0123456789"] = some (.bl true)) (hl : dLenS (.str x) = some (.int L)) (n1 : most < L) : fx_y8 [.str x, .int most] = some ("NoText" : Str) := by
  unfold fx_y8 x_y8
  walk_at "ev"
theorem rfx_zero (x : Str) (c : Nat) (most L : Int) (l1 : 1 ≤ sizeLine) (lx : x.length ≤ sizeLine) (hm : f_y17 [.str x, .str "0123456789"] = some (.bl true)) (hl : dLenS (.str x) = some (.int L)) (n1 : ¬ most < L) (e3 : atI x.cps.toList 0 = some c) (e4 : eqD (.str ⟨#[c]⟩) (.str "0") = some true) (e2 : eqD (.str x) (.str "0") = some false) : fx_y8 [.str x, .int most] = some ("NoText" : Str) := by
  unfold fx_y8 x_y8
  walk_at "ev"
theorem ok_of {l : List Nat} (h : AllDigits l) {x : Str} (e : x.cps.toList = l) : PyData.strOk x = true := strOk_of fun c hc => by
  have := h c (e ▸ hc)
  omega
theorem p_figM {x : Str} {k : Nat} (hk : k ≤ 60) (h : figsM k x.cps.toList) : f_y8 [.str x, .int (k : Int)] = some (.int (digitsVal x.cps.toList : Nat)) ∧ fx_y8 [.str x, .int (k : Int)] = none := by
  obtain ⟨h1, h2, h3, h4⟩ := h
  have lx : x.length ≤ sizeLine := line_of (by rw [len_toList]; omega)
  have hm : f_y17 [.str x, .str "0123456789"] = some (.bl true) := by
    rw [p_made lx, (mk_figs _).mpr h2]
    cases hd : x.cps.toList with
    | nil => exact absurd hd h1
    | cons a r => rfl
  have ok := ok_of h2 rfl
  have hi : dIntT (.str x) = some (.int (digitsVal x.cps.toList : Nat)) := by
    unfold dIntT
    dsimp only
    rw [if_pos (by rw [len_toList]; omega), intText_digits h2 h1 (by rw [len_toList]; omega)]
    rfl
  cases hd : x.cps.toList with
  | nil => exact absurd hd h1
  | cons c r =>
    have c0 := h2 c (by rw [hd]; exact List.mem_cons_self)
    have hb : decide (c = 48) = false ∨ decide (x.cps.toList = [48]) = true := by
      rcases h4 with q | q
      · exact .inr (decide_eq_true q)
      · refine .inl (decide_eq_false fun z => q ?_)
        rw [hd, z]
        rfl
    have n1 : ¬ (k : Int) < (x.length : Nat) := by rw [len_toList]; omega
    rw [← hd]
    exact ⟨rf_ok x c (k : Int) (x.length : Nat) _ _ _ lx hm (dLenS_is lx rfl) n1 (by rw [hd, at0]) (eq_one c0.2 (by decide)) (eq_txt ok (by decide)) hb hi, rfx_none x c (k : Int) (x.length : Nat) 0 _ _ lx hm (dLenS_is lx rfl) n1 (by rw [hd, at0]) (eq_one c0.2 (by decide)) (eq_txt ok (by decide)) hb⟩
theorem p_figXM {x : Str} {k : Nat} (lx : x.length ≤ sizeLine) (h : ¬ figsM k x.cps.toList) : fx_y8 [.str x, .int (k : Int)] = some ("NoText" : Str) := by
  have one : 1 ≤ sizeLine := by decide
  have hm := p_made (x := x) (F := "0123456789") lx
  by_cases h1 : x.cps.toList = []
  · rw [h1] at hm
    exact rfx_made x (k : Int) one hm
  · by_cases h2 : AllDigits x.cps.toList
    · rw [(mk_figs _).mpr h2] at hm
      have hm' : f_y17 [.str x, .str "0123456789"] = some (.bl true) := by
        rw [hm]
        cases hd : x.cps.toList with
        | nil => exact absurd hd h1
        | cons a r => rfl
      by_cases h3 : x.cps.toList.length ≤ k
      · have h4 : x.cps.toList ≠ [48] ∧ x.cps.toList.head? = some 48 := by
          refine ⟨fun z => h ⟨h1, h2, h3, .inl z⟩, ?_⟩
          by_cases q : x.cps.toList.head? = some 48
          · exact q
          · exact absurd ⟨h1, h2, h3, .inr q⟩ h
        cases hd : x.cps.toList with
        | nil => exact absurd hd h1
        | cons c r =>
          have c48 : c = 48 := by
            have := h4.2
            rw [hd] at this
            exact Option.some.inj this
          refine rfx_zero x c (k : Int) (x.length : Nat) one lx hm' (dLenS_is lx rfl) (by rw [len_toList]; omega) (by rw [hd, at0]) ((eq_one (c := c) (d := 48) (by omega) (by decide)).trans (by rw [decide_eq_true c48])) ((eq_txt (ok_of h2 rfl) (d := 48) (by decide)).trans (by rw [decide_eq_false h4.1]))
      · exact rfx_long x (k : Int) (x.length : Nat) one hm' (dLenS_is lx rfl) (by rw [len_toList]; omega)
    · have q : mkF "0123456789" x.cps.toList = false := by
        cases z : mkF "0123456789" x.cps.toList with
        | false => rfl
        | true => exact absurd ((mk_figs _).mp z) h2
      rw [q, Bool.and_false] at hm
      exact rfx_made x (k : Int) one hm
theorem compX_no {n : Nat} {js : List Nat} {fg : D → Rho → Option Rho} {fe : Rho → Option (D × Rho)} {xe : Xr} {ρ : Rho} : ∀ (gs : List D), (∀ g ∈ gs, ∃ ρ1, fg g (capsR n js ρ) = some ρ1 ∧ xe ρ1 = none ∧ ∃ r, fe ρ1 = some r) → compX n js fg fe xe gs ρ = none
  | [], _ => rfl
  | g :: gs, h => by
    obtain ⟨ρ1, h1, h2, r, h3⟩ := h g List.mem_cons_self
    rw [compX, h1]
    dsimp only
    rw [h2]
    dsimp only
    rw [h3]
    exact compX_no gs fun x hx => h x (List.mem_cons_of_mem _ hx)
theorem compX_at {n : Nat} {js : List Nat} {fg : D → Rho → Option Rho} {fe : Rho → Option (D × Rho)} {xe : Xr} {ρ : Rho} {C : Str} {p : D} {rest : List D} (hp : ∃ ρ1 r, fg p (capsR n js ρ) = some ρ1 ∧ xe ρ1 = some (C, r)) : ∀ (gs : List D), (∀ g ∈ gs, ∃ ρ1, fg g (capsR n js ρ) = some ρ1 ∧ xe ρ1 = none ∧ ∃ r, fe ρ1 = some r) → compX n js fg fe xe (gs ++ p :: rest) ρ = some C
  | [], _ => by
    obtain ⟨ρ1, r, h1, h2⟩ := hp
    rw [List.nil_append, compX, h1]
    dsimp only
    rw [h2]
  | g :: gs, h => by
    obtain ⟨ρ1, h1, h2, r, h3⟩ := h g List.mem_cons_self
    rw [List.cons_append, compX, h1]
    dsimp only
    rw [h2]
    dsimp only
    rw [h3]
    exact compX_at hp gs fun x hx => h x (List.mem_cons_of_mem _ hx)
theorem xc1 {f : List D → Option D} {fx : List D → Option Str} {d : D} (h : fx [d] = none) : xCall fx (mCons (mVar 0) mNil) xNo [some d] = none := by
  walk_at "ev"
theorem xc2 {fx : List D → Option Str} {d : D} {C : Str} (h : fx [d] = some C) : xCall fx (mCons (mVar 0) mNil) xNo [some d] = some (C, [some d]) := by
  walk_at "ev"
theorem mc1 {f : List D → Option D} {d e : D} (h : f [d] = some e) : mCall f (mCons (mVar 0) mNil) [some d] = some (e, [some d]) := by
  walk_at "ev"
noncomputable def goods : List Str := ["0", "1", "?", "-3/4", "0/0"]
noncomputable def odds : List Str := ["2", "??", "01", "/1", "1/", "1//2", "1/2/3", "-0/1", "1/+1", "07/1", "x", ""]
theorem good_ok : ∀ g ∈ goods, fx_y14 [.str g] = none ∧ ∃ d, f_y14 [.str g] = some d := by
  intro g hg
  simp only [goods, List.mem_cons, List.not_mem_nil, or_false] at hg
  rcases hg with rfl | rfl | rfl | rfl | rfl
  · exact ⟨by kernel_rfl, ⟨.tup [.str "clear", .int 0], by kernel_rfl⟩⟩
  · exact ⟨by kernel_rfl, ⟨.tup [.str "clear", .int 1], by kernel_rfl⟩⟩
  · exact ⟨by kernel_rfl, ⟨.tup [.str "gap"], by kernel_rfl⟩⟩
  · exact ⟨by kernel_rfl, ⟨.tup [.str "soft", .int (-3), .int 4], by kernel_rfl⟩⟩
  · exact ⟨by kernel_rfl, ⟨.tup [.str "soft", .int 0, .int 0], by kernel_rfl⟩⟩
theorem odd_no : ∀ p ∈ odds, fx_y14 [.str p] = some ("NoText" : Str) := by
  intro p hp
  simp only [odds, List.mem_cons, List.not_mem_nil, or_false] at hp
  rcases hp with rfl | rfl | rfl | rfl | rfl | rfl | rfl | rfl | rfl | rfl | rfl | rfl <;> kernel_rfl
theorem blank_no : fx_y11 [.str " "] = some ("NoText" : Str) := by kernel_rfl
theorem rhx (x : Str) (W : List D) (hc : f_y18 [.str x] = some .non) (hcx : fx_y18 [.str x] = none) (he : eqD (.str x) (.str "") = some false) (hs : dSplit (.str x) (.str " ") = some W) (lw : W.length ≤ sizeLine) (cx : compX 1 [] (gSet 0) (mCall f_y14 (mCons (mVar 0) mNil)) (xCall fx_y14 (mCons (mVar 0) mNil) xNo) W [some (.str x)] = some ("NoText" : Str)) : fx_y11 [.str x] = some ("NoText" : Str) := by
  unfold fx_y11 x_y11
  walk_at "ev"
theorem ct_ok (x : Str) : f_y18 [.str x] = some .non ∧ fx_y18 [.str x] = none := by
  constructor
  · unfold f_y18 b_y18
    walk_at "ev"
  · unfold fx_y18 x_y18
    walk_at "ev"
theorem word_ok : ∀ w ∈ goods ++ odds, (∀ c ∈ w.cps.toList, c < 128) ∧ 32 ∉ w.cps.toList ∧ w.length ≤ 10 := by decide +kernel
theorem join_sign {c d : Nat} : ∀ {xs : List Str}, d ∈ (Txt.join ⟨#[c]⟩ xs).cps.toList → d = c ∨ ∃ x ∈ xs, d ∈ x.cps.toList := by
  intro xs
  rw [txt_join]
  induction xs with
  | nil => exact fun h => absurd (show d ∈ ([] : List Nat) from h) (by simp)
  | cons x r ih =>
    cases r with
    | nil =>
      have e : Str.join ⟨#[c]⟩ [x] = x := by rw [← txt_join]; rfl
      rw [e]
      exact fun h => .inr ⟨x, List.mem_cons_self, h⟩
    | cons y r =>
      rw [join_cons]
      intro h
      rcases List.mem_append.mp h with h | h
      · exact .inr ⟨x, List.mem_cons_self, h⟩
      · rcases List.mem_cons.mp h with h | h
        · exact .inl h
        · rcases ih h with h | ⟨z, hz, h⟩
          · exact .inl h
          · exact .inr ⟨z, List.mem_cons_of_mem _ hz, h⟩
theorem join_nil {c : Nat} {xs : List Str} (h : (Txt.join ⟨#[c]⟩ xs).cps.toList = []) : xs = [] ∨ xs = [Str.empty] := by
  rw [txt_join] at h
  cases xs with
  | nil => exact .inl rfl
  | cons x r =>
    cases r with
    | nil =>
      have e : Str.join ⟨#[c]⟩ [x] = x := by rw [← txt_join]; rfl
      rw [e] at h
      exact .inr (by rw [show x = Str.empty from str_ext h])
    | cons y r =>
      rw [join_cons] at h
      simp at h
theorem e32 : (" " : Str) = ⟨#[32]⟩ := by decide +kernel
theorem heard_no {as bs : List Str} {p : Str} (ha : ∀ g ∈ as, g ∈ goods) (hb : ∀ g ∈ bs, g ∈ goods) (hp : p ∈ odds) (hl : as.length + bs.length ≤ 100) (hne : ¬ (p = "" ∧ as ++ bs = [])) : fx_y11 [.str (Txt.join " " (as ++ p :: bs))] = some ("NoText" : Str) := by
  have all : ∀ w ∈ as ++ p :: bs, w ∈ goods ++ odds := fun w hw => by
    rcases List.mem_append.mp hw with hw | hw
    · exact List.mem_append_left _ (ha w hw)
    · rcases List.mem_cons.mp hw with rfl | hw
      · exact List.mem_append_right _ hp
      · exact List.mem_append_left _ (hb w hw)
  have ln : (as ++ p :: bs).length ≤ 101 := by rw [List.length_append, List.length_cons]; omega
  rw [e32]
  have sp := dSplit_join (c := 32) (xs := as ++ p :: bs) (by simp) (fun w hw => (word_ok w (all w hw)).2.1) (line_of (Nat.le_trans (join_len 32 _ 10 fun w hw => (word_ok w (all w hw)).2.2) (by omega))) (line_of (by omega))
  have ok : PyData.strOk (Txt.join ⟨#[32]⟩ (as ++ p :: bs)) = true := strOk_of fun d hd => by
    rcases join_sign hd with h | ⟨w, hw, h⟩
    · omega
    · have := (word_ok w (all w hw)).1 d h
      omega
  have ne : eqD (.str (Txt.join ⟨#[32]⟩ (as ++ p :: bs))) (.str "") = some false := by
    rw [eq_nil ok, decide_eq_false]
    intro z
    rcases join_nil z with q | q
    · simp at q
    · refine hne ?_
      cases as with
      | nil =>
        rw [List.nil_append, List.cons.injEq] at q
        exact ⟨q.1, q.2⟩
      | cons a r =>
        rw [List.cons_append, List.cons.injEq] at q
        simp at q
  refine rhx _ _ (ct_ok _).1 (ct_ok _).2 ne (by rw [e32]; exact sp) (by rw [List.length_map]; exact line_of (by omega)) ?_
  rw [List.map_append, List.map_cons]
  refine compX_at ⟨[some (.str p)], [some (.str p)], rfl, xc2 (odd_no p hp)⟩ _ fun d hd => ?_
  obtain ⟨g, hg, rfl⟩ := List.mem_map.mp hd
  obtain ⟨h1, e, h2⟩ := good_ok g (ha g hg)
  exact ⟨[some (.str g)], rfl, xc1 (f := f_y14) h1, _, mc1 h2⟩
section
variable {s s1 k : Int} {p : Str} {Y A : List D} {b1 b2 : Bool} {v1 v2 v3 v4 : Option D}
theorem h1 (l12 : 12 ≤ sizeLine) : (sSet 2 (mOf (mLst (mCons (mRet (.str "2")) (mCons (mRet (.str "??")) (mCons (mRet (.str "01")) (mCons (mRet (.str "/1")) (mCons (mRet (.str "1/")) (mCons (mRet (.str "1//2")) (mCons (mRet (.str "1/2/3")) (mCons (mRet (.str "-0/1")) (mCons (mRet (.str "1/+1")) (mCons (mRet (.str "07/1")) (mCons (mRet (.str "x")) (mCons (mRet (.str "")) mNil))))))))))))))) [some (.lst [.int s]), some (.lst Y), none, none, none] = some (.nx [some (.lst [.int s]), some (.lst Y), some (.lst (odds.map D.str)), none, none]) := by
  unfold odds
  walk_at "ev"
theorem h2 (n1 : f_y6 [.int s] [.int 12] = some (.int k, [.int s1])) (h : atI A k = some (.str p)) : (sSet 3 (mOp2 dIx (mVar 2) (mCallS f_y6 0 (mCons (mRet (.int 12)) mNil)))) [some (.lst [.int s]), some (.lst Y), some (.lst A), none, none] = some (.nx [some (.lst [.int s1]), some (.lst Y), some (.lst A), some (.str p), none]) := by
  walk_at "ev"
theorem h3y (z0 : 0 ≤ sizeLine) (e1 : eqD (.str p) (.str "") = some true) (e2 : eqD (.lst Y) (.lst []) = some true) : (sIf (mAnd (mTest (mOp2 dEq (mVar 3) (mRet (.str "")))) (mTest (mOp2 dEq (mVar 1) (mOf (mLst mNil)))))
    (sRet (mRet (.str " ")))
    sNil) [some (.lst [.int s]), some (.lst Y), v2, some (.str p), none] = some (.rt (.str " ") [some (.lst [.int s]), some (.lst Y), v2, some (.str p), none]) := by
  walk_at "ev"
theorem h3n (z0 : 0 ≤ sizeLine) (e1 : eqD (.str p) (.str "") = some b1) (e2 : eqD (.lst Y) (.lst []) = some b2) (hb : b1 = false ∨ b2 = false) : (sIf (mAnd (mTest (mOp2 dEq (mVar 3) (mRet (.str "")))) (mTest (mOp2 dEq (mVar 1) (mOf (mLst mNil)))))
    (sRet (mRet (.str " ")))
    sNil) [some (.lst [.int s]), some (.lst Y), v2, some (.str p), none] = some (.nx [some (.lst [.int s]), some (.lst Y), v2, some (.str p), none]) := by
  cases b1 with
  | false =>
    clear hb e2
    walk_at "ev"
  | true =>
    cases b2 with
    | true => simp at hb
    | false =>
      clear hb
      walk_at "ev"
theorem h4 (ly : Y.length ≤ sizeLine) (n1 : f_y6 [.int s] [.int ((Y.length : Int) + 1)] = some (.int k, [.int s1])) : (sSet 4 (mCallS f_y6 0 (mCons (mOp2 dAdd (mOp1 dLen (mVar 1)) (mRet (.int 1))) mNil))) [some (.lst [.int s]), some (.lst Y), v2, some (.str p), none] = some (.nx [some (.lst [.int s1]), some (.lst Y), v2, some (.str p), some (.int k)]) := by
  walk_at "ev"
theorem h5 (U V : List D) (x : Str) (l1 : 1 ≤ sizeLine) (hu : dSl (.lst Y) none (some k) = some (.lst U)) (hv : dSl (.lst Y) (some k) none = some (.lst V)) (lu : U.length + 1 ≤ sizeLine) (lv : U.length + 1 + V.length ≤ sizeLine) (hj : dJoin (.str " ") (.lst (U ++ .str p :: V)) = some (.str x)) : (sRet (mOp2 dJoin (mRet (.str " ")) (mOp2 dAdd (mOp2 dAdd (mSl (mVar 1) (mRet none) (mPart (mVar 4))) (mOf (mLst (mCons (mVar 3) mNil)))) (mSl (mVar 1) (mPart (mVar 4)) (mRet none))))) [some (.lst [.int s]), some (.lst Y), v2, some (.str p), some (.int k)] = some (.rt (.str x) [some (.lst [.int s]), some (.lst Y), v2, some (.str p), some (.int k)]) := by
  generalize dJoin = J at hj ⊢
  walk_at "ev"
end
theorem rpx_comp (x : Str) (W : List D) (hc : f_y18 [.str x] = some .non) (hcx : fx_y18 [.str x] = none) (he : eqD (.str x) (.str "-") = some false) (hs : dSplit (.str x) (.str ",") = some W) (lw : W.length ≤ sizeLine) (cx : compX 1 [] (gSet 0) (mCall f_y8 (mCons (mVar 0) (mCons (mRet (.int 60)) mNil))) (xCall fx_y8 (mCons (mVar 0) (mCons (mRet (.int 60)) mNil)) xNo) W [some (.str x), none] = some ("NoText" : Str)) : fx_y10 [.str x] = some ("NoText" : Str) := by
  unfold fx_y10 x_y10
  walk_at "ev"
theorem rpx_any (x : Str) (W P Z Y : List D) (Bs : List Bool) (l1 : 1 ≤ sizeLine) (hc : f_y18 [.str x] = some .non) (hcx : fx_y18 [.str x] = none) (he : eqD (.str x) (.str "-") = some false) (hs : dSplit (.str x) (.str ",") = some W) (lw : W.length ≤ sizeLine) (cx : compX 1 [] (gSet 0) (mCall f_y8 (mCons (mVar 0) (mCons (mRet (.int 60)) mNil))) (xCall fx_y8 (mCons (mVar 0) (mCons (mRet (.int 60)) mNil)) xNo) W [some (.str x), none] = none)
    (cm : compRun 1 [] none (gSet 0) (mRet true) (mCall f_y8 (mCons (mVar 0) (mCons (mRet (.int 60)) mNil))) W [some (.str x), none] = some (P, [some (.str x), none])) (hz : zipD P P.tail = Z) (lz : Z.length ≤ sizeLine)
    (cz : compRun 2 [] none (gTupD 2 (gsCons (gSet 0) (gsCons (gSet 1) gsNil))) (mRet true) (mOp2 dGe (mVar 0) (mVar 1)) Z [some (.str x), some (.lst P)] = some (Y, [some (.str x), some (.lst P)])) (hb : boolsD Y = some Bs) (ha : Bs.any id = true) : fx_y10 [.str x] = some ("NoText" : Str) := by
  unfold fx_y10 x_y10
  walk_at "ev"
theorem ge_cmG (qs : List (Int × Int)) (ρ : Rho) : compRun 2 [] none (gTupD 2 (gsCons (gSet 0) (gsCons (gSet 1) gsNil))) (mRet true) (mOp2 dGe (mVar 0) (mVar 1)) (qs.map fun q => D.tup [.int q.1, .int q.2]) ρ = some ((qs.map fun q => decide (q.2 ≤ q.1)).map D.bl, ρ) := by
  have cm := cm_map (n := 2) (js := []) (fg := gTupD 2 (gsCons (gSet 0) (gsCons (gSet 1) gsNil))) (fe := mOp2 dGe (mVar 0) (mVar 1)) (ρ := ρ) (fun d => match d with | .tup [.int a, .int b] => .bl (decide (b ≤ a)) | _ => .non) (qs.map fun q => D.tup [.int q.1, .int q.2]) (fun x hx => by
    obtain ⟨⟨p, q⟩, hq, rfl⟩ := List.mem_map.mp hx
    refine ⟨[some (.int p), some (.int q)], rfl, ?_⟩
    clear hx hq
    walk_at "ev")
  have m : (qs.map fun q => D.tup [.int q.1, .int q.2]).map (fun d => match d with | .tup [.int a, .int b] => D.bl (decide (b ≤ a)) | _ => .non) = (qs.map fun q => decide (q.2 ≤ q.1)).map D.bl := by
    rw [List.map_map, List.map_map]
    rfl
  rw [m] at cm
  exact cm
theorem xf1 {d : D} (h : fx_y8 [d, .int 60] = none) : xCall fx_y8 (mCons (mVar 0) (mCons (mRet (.int 60)) mNil)) xNo [some d] = none := by
  walk_at "ev"
theorem xf2 {d : D} {C : Str} (h : fx_y8 [d, .int 60] = some C) : xCall fx_y8 (mCons (mVar 0) (mCons (mRet (.int 60)) mNil)) xNo [some d] = some (C, [some d]) := by
  walk_at "ev"
theorem mf1 {d e : D} (h : f_y8 [d, .int 60] = some e) : mCall f_y8 (mCons (mVar 0) (mCons (mRet (.int 60)) mNil)) [some d] = some (e, [some d]) := by
  walk_at "ev"
noncomputable def WOk (w : Str) : Prop := (∀ c ∈ w.cps.toList, c < 128) ∧ 44 ∉ w.cps.toList ∧ w.length ≤ 100
theorem e44 : ("," : Str) = ⟨#[44]⟩ := by decide +kernel
theorem e45 : ("-" : Str) = ⟨#[45]⟩ := by decide +kernel
theorem pl_split {ws : List Str} (hn : ws ≠ []) (h : ∀ w ∈ ws, WOk w) (hl : ws.length ≤ 10) : dSplit (.str (Txt.join "," ws)) (.str ",") = some (ws.map D.str) ∧ PyData.strOk (Txt.join "," ws) = true := by
  rw [e44]
  refine ⟨dSplit_join hn (fun w hw => (h w hw).2.1) (line_of (Nat.le_trans (join_len 44 _ 100 fun w hw => (h w hw).2.2) (by omega))) (line_of (by omega)), strOk_of fun d hd => ?_⟩
  rcases join_sign hd with q | ⟨w, hw, q⟩
  · omega
  · have := (h w hw).1 d q
    omega
theorem pl_bad {as bs : List Str} {p : Str} (h : ∀ w ∈ as ++ p :: bs, WOk w) (ha : ∀ a ∈ as, figsM 60 a.cps.toList) (hp : ¬ figsM 60 p.cps.toList) (hl : as.length + bs.length ≤ 9) (hne : (Txt.join "," (as ++ p :: bs)).cps.toList ≠ [45]) : fx_y10 [.str (Txt.join "," (as ++ p :: bs))] = some ("NoText" : Str) := by
  obtain ⟨sp, ok⟩ := pl_split (ws := as ++ p :: bs) (by simp) h (by rw [List.length_append, List.length_cons]; omega)
  have lp : p.length ≤ sizeLine := line_of (by have := (h p (by simp)).2.2; omega)
  refine rpx_comp _ _ (ct_ok _).1 (ct_ok _).2 ?_ sp (by rw [List.length_map, List.length_append, List.length_cons]; exact line_of (by omega)) ?_
  · have e := eq_txt ok (d := 45) (by decide)
    rw [decide_eq_false hne, ← e45] at e
    exact e
  · rw [List.map_append, List.map_cons]
    refine compX_at ⟨[some (.str p)], [some (.str p)], rfl, xf2 (p_figXM (k := 60) lp hp)⟩ _ fun d hd => ?_
    obtain ⟨a, ha', rfl⟩ := List.mem_map.mp hd
    obtain ⟨q1, q2⟩ := p_figM (k := 60) (by decide) (ha a ha')
    exact ⟨[some (.str a)], rfl, xf1 q2, _, mf1 q1⟩
theorem figs_tx {p : Int} {k : Nat} (h0 : 0 ≤ p) (h : p.natAbs < 10 ^ k) (hk : 0 < k) : figsM k (tx p).cps.toList := by
  have e : (tx p).cps.toList = digs p.natAbs := by
    rcases tx_cases p with ⟨_, e⟩ | ⟨q, _⟩
    · exact e
    · omega
  rw [e]
  refine ⟨fun z => (by have := digs_pos p.natAbs; rw [z] at this; cases this), fun c hc => digs_dig hc, digs_len h hk, ?_⟩
  by_cases z : p.natAbs = 0
  · rw [z]
    exact .inl (digs_small (by decide))
  · cases hd' : digs p.natAbs with
    | nil => exact .inr (by simp)
    | cons c r =>
      refine .inr fun q => digs_head (by omega) hd' ?_
      exact Option.some.inj q
theorem pl_down {ps : List Int} (hn : ps ≠ []) (h : ∀ p ∈ ps, 0 ≤ p ∧ p < 1000000000000) (hl : ps.length ≤ 9) (hd : (((ps.zip ps.tail).map fun q => decide (q.2 ≤ q.1)).any id) = true) (h2 : 2 ≤ ps.length) : fx_y10 [.str (Txt.join "," (ps.map tx))] = some ("NoText" : Str) := by
  have n6 : ∀ p ∈ ps, N60 p := fun p hp => by have := h p hp; unfold N60; omega
  have ws : ∀ w ∈ ps.map tx, WOk w := fun w hw => by
    obtain ⟨p, hp, rfl⟩ := List.mem_map.mp hw
    refine ⟨fun c hc => ?_, fun hc => ?_, Nat.le_trans (n6 p hp).len (by decide)⟩ <;> have := tx_sign hc <;> omega
  have fg : ∀ p ∈ ps, figsM 60 (tx p).cps.toList := fun p hp => figs_tx (h p hp).1 (n6 p hp).abs (by decide)
  have val : ∀ p ∈ ps, f_y8 [.str (tx p), .int 60] = some (.int p) ∧ fx_y8 [.str (tx p), .int 60] = none := fun p hp => by
    obtain ⟨q1, q2⟩ := p_figM (k := 60) (by decide) (fg p hp)
    refine ⟨q1.trans ?_, q2⟩
    have e : (tx p).cps.toList = digs p.natAbs := by
      rcases tx_cases p with ⟨_, e⟩ | ⟨q, _⟩
      · exact e
      · have := h p hp; omega
    have v : digitsVal (digs p.natAbs) = p.natAbs := W.KIN.val_back p.natAbs
    rw [e, v]
    congr 2
    have := (h p hp).1
    omega
  obtain ⟨sp, ok⟩ := pl_split (ws := ps.map tx) (by simpa using hn) ws (by rw [List.length_map]; omega)
  have ne : (Txt.join "," (ps.map tx)).cps.toList ≠ [45] := by
    intro z
    have hs := sp
    rw [show Txt.join "," (ps.map tx) = "-" from str_ext (by rw [z]; rfl)] at hs
    have q : dSplit (.str "-") (.str ",") = some [.str "-"] := by kernel_rfl
    rw [q] at hs
    have := congrArg (Option.map List.length) hs
    simp at this
    omega
  have tl : ((ps.map D.int).tail) = ps.tail.map D.int := by rw [List.map_tail]
  refine rpx_any _ _ (ps.map D.int) ((ps.zip ps.tail).map fun q => D.tup [.int q.1, .int q.2]) _ _ (by decide) (ct_ok _).1 (ct_ok _).2 ?_ sp (by rw [List.length_map, List.length_map]; exact line_of (by omega)) (compX_no _ fun d hd => ?_) ?_ (by rw [tl, zipD_ints]) (by rw [List.length_map, List.length_zip]; exact line_of (by omega)) (ge_cmG _ _) (bools_of _) hd
  · have e := eq_txt ok (d := 45) (by decide)
    rw [decide_eq_false ne, ← e45] at e
    exact e
  · obtain ⟨w, hw, rfl⟩ := List.mem_map.mp hd
    obtain ⟨p, hp, rfl⟩ := List.mem_map.mp hw
    exact ⟨[some (.str (tx p))], rfl, xf1 (val p hp).2, _, mf1 (val p hp).1⟩
  · have cm := fun ρ => cm_map (n := 1) (js := []) (fg := gSet 0) (fe := mCall f_y8 (mCons (mVar 0) (mCons (mRet (.int 60)) mNil))) (ρ := ρ) (fun d => (f_y8 [d, .int 60]).getD .non) ((ps.map tx).map D.str) (fun x hx => by
      obtain ⟨y, hy, rfl⟩ := List.mem_map.mp hx
      obtain ⟨p, hp, rfl⟩ := List.mem_map.mp hy
      refine ⟨[some (.str (tx p))], rfl, ?_⟩
      rw [mf1 (val p hp).1, (val p hp).1]
      rfl)
    have m : ((ps.map tx).map D.str).map (fun d => (f_y8 [d, .int 60]).getD .non) = ps.map D.int := by
      rw [List.map_map, List.map_map]
      refine List.map_congr_left fun p hp => ?_
      show (f_y8 [.str (tx p), .int 60]).getD .non = _
      rw [(val p hp).1]
      rfl
    rw [m] at cm
    exact cm _
section
variable {x rt e : Str} {W A B TP RW : List D} {k r : Int} {b0 b2 b3 b4 : Bool} {a : Str} {Z : List D}
theorem hs_ex (lw : W.length ≤ sizeLine) (l1 : 1 ≤ sizeLine) (h0 : atI W 0 = some (.str a)) (q0 : eqD (.str a) (.str "reach") = some b0) (h2 : dSl (.lst W) (some 2) (some 3) = some (.lst Z)) (q2 : eqD (.lst Z) (.lst [.str "taps"]) = some b2)
    (h3 : dInG false (.str "rows") (.lst W) = some (.bl b3)) (h4 : atI W (-1) = some (.str e)) (h5 : inD (.str e) [.str "open", .str "ended", .str "ring"] = b4) : f_y16 [.lst W] = some (.bl (b0 && b2 && b3 && b4)) := by
  unfold f_y16 b_y16
  generalize dInG = J at h3 ⊢
  cases b0 <;> cases b2 <;> cases b3 <;> walk_at "ev"
theorem xs_form (l1 : 1 ≤ sizeLine) (hc : f_y18 [.str x] = some .non) (hcx : fx_y18 [.str x] = none) (hs : dSplit (.str x) (.str " ") = some W) (hf : f_y16 [.lst W] = some (.bl false)) : fx_y9 [.str x] = some ("NoText" : Str) := by
  unfold fx_y9 x_y9
  walk_at "ev"
theorem xs_taps (hc : f_y18 [.str x] = some .non) (hcx : fx_y18 [.str x] = none) (hs : dSplit (.str x) (.str " ") = some W) (hf : f_y16 [.lst W] = some (.bl true)) (hi : dIdx (.lst W) (.str "rows") = some (.int k)) (h1 : dSl (.lst W) (some 3) (some k) = some (.lst A)) (la : A.length ≤ sizeLine)
    (cx : compX 1 [] (gSet 0) (mCall f_y13 (mCons (mVar 0) mNil)) (xCall fx_y13 (mCons (mVar 0) mNil) xNo) A [some (.str x), some (.lst W), some (.int k), none, none, none, none] = some ("NoText" : Str)) : fx_y9 [.str x] = some ("NoText" : Str) := by
  unfold fx_y9 x_y9
  generalize dIdx = J at hi ⊢
  walk_at "ev"
theorem xs_rows (hc : f_y18 [.str x] = some .non) (hcx : fx_y18 [.str x] = none) (hs : dSplit (.str x) (.str " ") = some W) (hf : f_y16 [.lst W] = some (.bl true)) (hi : dIdx (.lst W) (.str "rows") = some (.int k)) (h1 : dSl (.lst W) (some 3) (some k) = some (.lst A)) (la : A.length ≤ sizeLine)
    (cx : compX 1 [] (gSet 0) (mCall f_y13 (mCons (mVar 0) mNil)) (xCall fx_y13 (mCons (mVar 0) mNil) xNo) A [some (.str x), some (.lst W), some (.int k), none, none, none, none] = none)
    (c1 : compRun 1 [] none (gSet 0) (mRet true) (mCall f_y13 (mCons (mVar 0) mNil)) A [some (.str x), some (.lst W), some (.int k), none, none, none, none] = some (TP, [some (.str x), some (.lst W), some (.int k), none, none, none, none]))
    (h2 : dSl (.lst W) (some (k + 1)) (some (-1)) = some (.lst B)) (lb : B.length ≤ sizeLine)
    (cy : compX 1 [] (gSet 0) (mOp1 dTuple (mCall f_y15 (mCons (mVar 0) mNil))) (xThen (mCall f_y15 (mCons (mVar 0) mNil)) (xCall fx_y15 (mCons (mVar 0) mNil) xNo) xNo) B [some (.str x), some (.lst W), some (.int k), some (.lst TP), none, none, none] = some ("NoText" : Str)) : fx_y9 [.str x] = some ("NoText" : Str) := by
  unfold fx_y9 x_y9
  generalize dIdx = J at hi ⊢
  walk_at "ev"
theorem xs_pre {ρ' : Rho} {C : Str} (hc : f_y18 [.str x] = some .non) (hcx : fx_y18 [.str x] = none) (hs : dSplit (.str x) (.str " ") = some W) (hf : f_y16 [.lst W] = some (.bl true)) (hi : dIdx (.lst W) (.str "rows") = some (.int k)) (h1 : dSl (.lst W) (some 3) (some k) = some (.lst A)) (la : A.length ≤ sizeLine)
    (cx : compX 1 [] (gSet 0) (mCall f_y13 (mCons (mVar 0) mNil)) (xCall fx_y13 (mCons (mVar 0) mNil) xNo) A [some (.str x), some (.lst W), some (.int k), none, none, none, none] = none)
    (c1 : compRun 1 [] none (gSet 0) (mRet true) (mCall f_y13 (mCons (mVar 0) mNil)) A [some (.str x), some (.lst W), some (.int k), none, none, none, none] = some (TP, [some (.str x), some (.lst W), some (.int k), none, none, none, none]))
    (h2 : dSl (.lst W) (some (k + 1)) (some (-1)) = some (.lst B)) (lb : B.length ≤ sizeLine)
    (cy : compX 1 [] (gSet 0) (mOp1 dTuple (mCall f_y15 (mCons (mVar 0) mNil))) (xThen (mCall f_y15 (mCons (mVar 0) mNil)) (xCall fx_y15 (mCons (mVar 0) mNil) xNo) xNo) B [some (.str x), some (.lst W), some (.int k), some (.lst TP), none, none, none] = none)
    (c2 : compRun 1 [] none (gSet 0) (mRet true) (mOp1 dTuple (mCall f_y15 (mCons (mVar 0) mNil))) B [some (.str x), some (.lst W), some (.int k), some (.lst TP), none, none, none] = some (RW, [some (.str x), some (.lst W), some (.int k), some (.lst TP), none, none, none]))
    (h : (xSeq (sSet 5 (mCall f_y13 (mCons (mOp2 dIx (mVar 1) (mRet (.int 1))) mNil))) (xCall fx_y13 (mCons (mOp2 dIx (mVar 1) (mRet (.int 1))) mNil) xNo)
  (xSeq (sIf (mOr (mTest (mOp2 dEq (mOp1 dLen (mVar 3)) (mRet (.int 0)))) (mTest (mOp2 dEq (mOp1 dLen (mVar 4)) (mRet (.int 0)))))
    (fun _ => none)
    sNil) (xIf (mOr (mTest (mOp2 dEq (mOp1 dLen (mVar 3)) (mRet (.int 0)))) (mTest (mOp2 dEq (mOp1 dLen (mVar 4)) (mRet (.int 0))))) xNo
    (xRaise "NoText" (mCons (mRet (.str "a scheme has one tap and one row at least")) mNil))
    xNo)
  xNo)) [some (.str x), some (.lst W), some (.int k), some (.lst TP), some (.lst RW), none, none] = some (C, ρ')) : fx_y9 [.str x] = some C := by
  unfold fx_y9 x_y9
  generalize (xSeq (sSet 5 (mCall f_y13 (mCons (mOp2 dIx (mVar 1) (mRet (.int 1))) mNil))) (xCall fx_y13 (mCons (mOp2 dIx (mVar 1) (mRet (.int 1))) mNil) xNo)
  (xSeq (sIf (mOr (mTest (mOp2 dEq (mOp1 dLen (mVar 3)) (mRet (.int 0)))) (mTest (mOp2 dEq (mOp1 dLen (mVar 4)) (mRet (.int 0)))))
    (fun _ => none)
    sNil) (xIf (mOr (mTest (mOp2 dEq (mOp1 dLen (mVar 3)) (mRet (.int 0)))) (mTest (mOp2 dEq (mOp1 dLen (mVar 4)) (mRet (.int 0))))) xNo
    (xRaise "NoText" (mCons (mRet (.str "a scheme has one tap and one row at least")) mNil))
    xNo)
  xNo)) = G at h ⊢
  generalize dIdx = J at hi ⊢
  walk_at "ev"
theorem xt_reach (h3 : atI W 1 = some (.str rt)) (h : fx_y13 [.str rt] = some ("NoText" : Str)) : ∃ ρ', (xSeq (sSet 5 (mCall f_y13 (mCons (mOp2 dIx (mVar 1) (mRet (.int 1))) mNil))) (xCall fx_y13 (mCons (mOp2 dIx (mVar 1) (mRet (.int 1))) mNil) xNo)
  (xSeq (sIf (mOr (mTest (mOp2 dEq (mOp1 dLen (mVar 3)) (mRet (.int 0)))) (mTest (mOp2 dEq (mOp1 dLen (mVar 4)) (mRet (.int 0)))))
    (fun _ => none)
    sNil) (xIf (mOr (mTest (mOp2 dEq (mOp1 dLen (mVar 3)) (mRet (.int 0)))) (mTest (mOp2 dEq (mOp1 dLen (mVar 4)) (mRet (.int 0))))) xNo
    (xRaise "NoText" (mCons (mRet (.str "a scheme has one tap and one row at least")) mNil))
    xNo)
  xNo)) [some (.str x), some (.lst W), some (.int k), some (.lst TP), some (.lst RW), none, none] = some (("NoText" : Str), ρ') := by
  walk_at "ev"
theorem xt_taps (l1 : 1 ≤ sizeLine) (h3 : atI W 1 = some (.str rt)) (h5 : fx_y13 [.str rt] = none) (h6 : f_y13 [.str rt] = some (.int r)) : ∃ ρ', (xSeq (sSet 5 (mCall f_y13 (mCons (mOp2 dIx (mVar 1) (mRet (.int 1))) mNil))) (xCall fx_y13 (mCons (mOp2 dIx (mVar 1) (mRet (.int 1))) mNil) xNo)
  (xSeq (sIf (mOr (mTest (mOp2 dEq (mOp1 dLen (mVar 3)) (mRet (.int 0)))) (mTest (mOp2 dEq (mOp1 dLen (mVar 4)) (mRet (.int 0)))))
    (fun _ => none)
    sNil) (xIf (mOr (mTest (mOp2 dEq (mOp1 dLen (mVar 3)) (mRet (.int 0)))) (mTest (mOp2 dEq (mOp1 dLen (mVar 4)) (mRet (.int 0))))) xNo
    (xRaise "NoText" (mCons (mRet (.str "a scheme has one tap and one row at least")) mNil))
    xNo)
  xNo)) [some (.str x), some (.lst W), some (.int k), some (.lst []), some (.lst RW), none, none] = some (("NoText" : Str), ρ') := by
  walk_at "ev"
theorem xt_rows (l1 : 1 ≤ sizeLine) (h3 : atI W 1 = some (.str rt)) (h5 : fx_y13 [.str rt] = none) (h6 : f_y13 [.str rt] = some (.int r)) (lt : TP.length ≤ sizeLine) (e3 : ¬ TP = []) : ∃ ρ', (xSeq (sSet 5 (mCall f_y13 (mCons (mOp2 dIx (mVar 1) (mRet (.int 1))) mNil))) (xCall fx_y13 (mCons (mOp2 dIx (mVar 1) (mRet (.int 1))) mNil) xNo)
  (xSeq (sIf (mOr (mTest (mOp2 dEq (mOp1 dLen (mVar 3)) (mRet (.int 0)))) (mTest (mOp2 dEq (mOp1 dLen (mVar 4)) (mRet (.int 0)))))
    (fun _ => none)
    sNil) (xIf (mOr (mTest (mOp2 dEq (mOp1 dLen (mVar 3)) (mRet (.int 0)))) (mTest (mOp2 dEq (mOp1 dLen (mVar 4)) (mRet (.int 0))))) xNo
    (xRaise "NoText" (mCons (mRet (.str "a scheme has one tap and one row at least")) mNil))
    xNo)
  xNo)) [some (.str x), some (.lst W), some (.int k), some (.lst TP), some (.lst []), none, none] = some (("NoText" : Str), ρ') := by
  walk_at "ev"
theorem xt_end (l1 : 1 ≤ sizeLine) (h3 : atI W 1 = some (.str rt)) (lt : TP.length ≤ sizeLine) (h : fx_y13 [.str rt] = some ("NoText" : Str) ∨ (fx_y13 [.str rt] = none ∧ f_y13 [.str rt] = some (.int r) ∧ (TP = [] ∨ RW = []))) : ∃ ρ', (xSeq (sSet 5 (mCall f_y13 (mCons (mOp2 dIx (mVar 1) (mRet (.int 1))) mNil))) (xCall fx_y13 (mCons (mOp2 dIx (mVar 1) (mRet (.int 1))) mNil) xNo)
  (xSeq (sIf (mOr (mTest (mOp2 dEq (mOp1 dLen (mVar 3)) (mRet (.int 0)))) (mTest (mOp2 dEq (mOp1 dLen (mVar 4)) (mRet (.int 0)))))
    (fun _ => none)
    sNil) (xIf (mOr (mTest (mOp2 dEq (mOp1 dLen (mVar 3)) (mRet (.int 0)))) (mTest (mOp2 dEq (mOp1 dLen (mVar 4)) (mRet (.int 0))))) xNo
    (xRaise "NoText" (mCons (mRet (.str "a scheme has one tap and one row at least")) mNil))
    xNo)
  xNo)) [some (.str x), some (.lst W), some (.int k), some (.lst TP), some (.lst RW), none, none] = some (("NoText" : Str), ρ') := by
  rcases h with h | ⟨h5, h6, h7⟩
  · exact xt_reach h3 h
  · by_cases z : TP = []
    · subst z
      exact xt_taps l1 h3 h5 h6
    · rcases h7 with h7 | h7
      · exact absurd h7 z
      · subst h7
        exact xt_rows l1 h3 h5 h6 lt z
end
theorem rsm (x : Str) : f_y13 [.str x] = f_y8 [.str x, .int 2] ∧ fx_y13 [.str x] = fx_y8 [.str x, .int 2] := by
  constructor
  · unfold f_y13 b_y13
    cases h : f_y8 [.str x, .int 2] <;> walk_at "ev"
  · unfold fx_y13 x_y13
    cases h : fx_y8 [.str x, .int 2] <;> walk_at "ev"
noncomputable def small (w : Str) : Prop := figsM 2 w.cps.toList
noncomputable def bitsW (w : Str) : Prop := w.cps.toList ≠ [] ∧ ∀ c ∈ w.cps.toList, c = 48 ∨ c = 49
theorem small_yes {w : Str} (h : small w) : ∃ n : Int, f_y13 [.str w] = some (.int n) ∧ fx_y13 [.str w] = none := by
  obtain ⟨q1, q2⟩ := p_figM (k := 2) (by decide) h
  exact ⟨_, (rsm w).1.trans q1, (rsm w).2.trans q2⟩
theorem small_no {w : Str} (lw : w.length ≤ sizeLine) (h : ¬ small w) : fx_y13 [.str w] = some ("NoText" : Str) := (rsm w).2.trans (p_figXM (k := 2) lw h)
theorem rbx_no (x : Str) (l1 : 1 ≤ sizeLine) (hm : f_y17 [.str x, .str "01"] = some (.bl false)) : fx_y15 [.str x] = some ("NoText" : Str) := by
  unfold fx_y15 x_y15
  walk_at "ev"
theorem rbx_yes (x : Str) (hm : f_y17 [.str x, .str "01"] = some (.bl true)) : fx_y15 [.str x] = none := by
  unfold fx_y15 x_y15
  walk_at "ev"
theorem bits_no {w : Str} (lw : w.length ≤ sizeLine) (h : ¬ bitsW w) : fx_y15 [.str w] = some ("NoText" : Str) := by
  refine rbx_no w (by decide) ?_
  rw [p_made lw]
  by_cases h1 : w.cps.toList = []
  · rw [h1]; rfl
  · have q : mkF "01" w.cps.toList = false := by
      cases z : mkF "01" w.cps.toList with
      | false => rfl
      | true => exact absurd ⟨h1, (mk_bits _).mp z⟩ h
    rw [q, Bool.and_false]
theorem bits_yes {w : Str} (lw : w.length ≤ sizeLine) (h : bitsW w) : fx_y15 [.str w] = none ∧ ∃ ds, f_y15 [.str w] = some (.lst ds) := by
  have hm : f_y17 [.str w, .str "01"] = some (.bl true) := by
    rw [p_made lw, (mk_bits _).mpr h.2]
    cases hd : w.cps.toList with
    | nil => exact absurd hd h.1
    | cons a r => rfl
  refine ⟨rbx_yes w hm, _, rb_end w (signsD w) ((signsD w).map fun d => (dIntT d).getD .non) hm rfl (by unfold signsD; rw [List.length_map, ← len_toList]; exact lw) (cm_map _ _ fun d hd => ?_)⟩
  unfold signsD at hd
  obtain ⟨c, hc, rfl⟩ := List.mem_map.mp hd
  have e : ∃ n : Int, dIntT (.str ⟨#[c]⟩) = some (.int n) := by
    rcases h.2 c hc with rfl | rfl
    · exact ⟨0, by kernel_rfl⟩
    · exact ⟨1, by kernel_rfl⟩
  obtain ⟨n, e⟩ := e
  refine ⟨[some (.str ⟨#[c]⟩)], rfl, ?_⟩
  rw [e]
  clear hd hc h hm
  generalize dIntT = J at e ⊢
  walk_at "ev"
theorem compX_ex {n : Nat} {js : List Nat} {fg : D → Rho → Option Rho} {fe : Rho → Option (D × Rho)} {xe : Xr} {ρ : Rho} {C : Str} : ∀ (gs : List D), (∀ g ∈ gs, ∃ ρ1, fg g (capsR n js ρ) = some ρ1 ∧ ((xe ρ1 = none ∧ ∃ r, fe ρ1 = some r) ∨ ∃ r, xe ρ1 = some (C, r))) → (∃ g ∈ gs, ∃ ρ1 r, fg g (capsR n js ρ) = some ρ1 ∧ xe ρ1 = some (C, r)) → compX n js fg fe xe gs ρ = some C
  | [], _, ⟨g, hg, _⟩ => nomatch hg
  | g :: gs, h, hx => by
    obtain ⟨ρ1, h1, h2⟩ := h g List.mem_cons_self
    rw [compX, h1]
    dsimp only
    rcases h2 with ⟨h2, r, h3⟩ | ⟨r, h2⟩
    · rw [h2]
      dsimp only
      rw [h3]
      refine compX_ex gs (fun y hy => h y (List.mem_cons_of_mem _ hy)) ?_
      obtain ⟨y, hy, ρ2, r2, e1, e2⟩ := hx
      rcases List.mem_cons.mp hy with rfl | hy
      · rw [h1] at e1
        cases e1
        rw [h2] at e2
        cases e2
      · exact ⟨y, hy, ρ2, r2, e1, e2⟩
    · rw [h2]
theorem xt1 {d : D} (h : fx_y15 [d] = none) : xThen (mCall f_y15 (mCons (mVar 0) mNil)) (xCall fx_y15 (mCons (mVar 0) mNil) xNo) xNo [some d] = none := by
  have e := xc1 (f := f_y15) h
  unfold xThen
  rw [e]
  dsimp only
  cases mCall f_y15 (mCons (mVar 0) mNil) [some d] with
  | none => rfl
  | some p => rfl
theorem xt2 {d : D} {C : Str} (h : fx_y15 [d] = some C) : xThen (mCall f_y15 (mCons (mVar 0) mNil)) (xCall fx_y15 (mCons (mVar 0) mNil) xNo) xNo [some d] = some (C, [some d]) := by
  have e := xc2 h
  unfold xThen
  rw [e]
theorem mt1 {d : D} {ds : List D} (h : f_y15 [d] = some (.lst ds)) : mOp1 dTuple (mCall f_y15 (mCons (mVar 0) mNil)) [some d] = some (.tup ds, [some d]) := by
  walk_at "ev"
theorem strs_of {Pr : Str → Prop} : ∀ {ys : List D}, (∀ y ∈ ys, ∃ t, y = .str t ∧ Pr t) → ∃ ts : List Str, ys = ts.map D.str ∧ ∀ t ∈ ts, Pr t
  | [], _ => ⟨[], rfl, fun _ h => nomatch h⟩
  | y :: ys, h => by
    obtain ⟨t, rfl, ht⟩ := h y List.mem_cons_self
    obtain ⟨ts, rfl, hts⟩ := strs_of fun z hz => h z (List.mem_cons_of_mem _ hz)
    exact ⟨t :: ts, rfl, fun x hx => by
      rcases List.mem_cons.mp hx with rfl | hx
      · exact ht
      · exact hts x hx⟩
theorem pick_str {ws : List Str} {k : Int} (h0 : 0 ≤ k) (h1 : k < (ws.length : Int)) : ∃ x ∈ ws, atI (ws.map D.str) k = some (.str x) := by
  obtain ⟨d, e, hm⟩ := at_mem (xs := ws.map D.str) h0 (by rw [List.length_map]; exact h1)
  obtain ⟨x, hx, rfl⟩ := List.mem_map.mp hm
  exact ⟨x, hx, e⟩
theorem fe_good {s k s1 : Int} {x : Option D} {g : Str} (l5 : 5 ≤ sizeLine) (n1 : f_y6 [.int s] [.int 5] = some (.int k, [.int s1])) (h : atI [D.str "0", .str "1", .str "?", .str "-3/4", .str "0/0"] k = some (.str g)) : mOp2 dIx (mOf (mLst (mCons (mRet (.str "0")) (mCons (mRet (.str "1")) (mCons (mRet (.str "?")) (mCons (mRet (.str "-3/4")) (mCons (mRet (.str "0/0")) mNil))))))) (mCallS f_y6 1 (mCons (mRet (.int 5)) mNil)) [x, some (.lst [.int s])] = some (.str g, [x, some (.lst [.int s1])]) := by
  walk_at "ev"
theorem h0 {s n s1 s2 : Int} {Y : List D} (n1 : f_y6 [.int s] [.int 5] = some (.int n, [.int s1])) (bg : big n = true) (l1 : (rangeD 0 n.toNat).length ≤ sizeLine) (cm : compRun 1 [0] (some (0, 1)) (gSet 0) (mRet true) (mOp2 dIx (mOf (mLst (mCons (mRet (.str "0")) (mCons (mRet (.str "1")) (mCons (mRet (.str "?")) (mCons (mRet (.str "-3/4")) (mCons (mRet (.str "0/0")) mNil))))))) (mCallS f_y6 1 (mCons (mRet (.int 5)) mNil))) (rangeD 0 n.toNat) [some (.lst [.int s1]), none, none, none, none] = some (Y, [some (.lst [.int s2]), none, none, none, none])) : (sSet 1 (mOf (mComp 1 [0] (some (0, 1)) (mRng1 (mCons (mCallS f_y6 0 (mCons (mRet (.int 5)) mNil)) mNil)) (gSet 0) (mRet true) (mOp2 dIx (mOf (mLst (mCons (mRet (.str "0")) (mCons (mRet (.str "1")) (mCons (mRet (.str "?")) (mCons (mRet (.str "-3/4")) (mCons (mRet (.str "0/0")) mNil))))))) (mCallS f_y6 1 (mCons (mRet (.int 5)) mNil)))))) [some (.lst [.int s]), none, none, none, none] = some (.nx [some (.lst [.int s2]), some (.lst Y), none, none, none]) := by
  walk_at "ev"
theorem good_odd_ok {w : Str} (h : w ∈ goods ++ odds) : PyData.strOk w = true := strOk_of fun c hc => by
  have := (word_ok w h).1 c hc
  omega
theorem eq_none (as : List Str) (h : ∀ a ∈ as, PyData.strOk a = true) : eqD (.lst (as.map D.str)) (.lst []) = some (decide (as = [])) := by
  cases as with
  | nil => exact (eqD_self (DOks.lst (DOks.nil 0)) (by decide)).trans (by simp)
  | cons a r =>
    rw [List.map_cons]
    exact (eqD_not_nil (n := 0) (.str 0 (h a List.mem_cons_self)) (DOks.all fun d hd => by
      obtain ⟨b, hb, rfl⟩ := List.mem_map.mp hd
      exact .str 0 (h b (List.mem_cons_of_mem _ hb))) (by decide)).trans (by simp)
theorem v_bad_heard (s : Int) : ∃ x s', f_y2 [.int s] [] = some (.str x, [.int s']) ∧ fx_y11 [.str x] = some ("NoText" : Str) := by
  have d0 := dr_lo s (m := 5) (by decide)
  have d5 := dr_hi s (m := 5) (by decide)
  obtain ⟨Y, s2, c1, c2, c3⟩ := cm_state (n := 1) (p := 0) (q := 1) (js := [0]) (fg := gSet 0) (fe := mOp2 dIx (mOf (mLst (mCons (mRet (.str "0")) (mCons (mRet (.str "1")) (mCons (mRet (.str "?")) (mCons (mRet (.str "-3/4")) (mCons (mRet (.str "0/0")) mNil))))))) (mCallS f_y6 1 (mCons (mRet (.int 5)) mNil))) (fun s : Int => [some (.lst [.int s]), none, none, none, none]) (fun y => ∃ g, y = .str g ∧ g ∈ goods) (rangeD 0 (dr s 5).toNat) (fun x hx s => by
    obtain ⟨g, hg, e⟩ := pick_str (ws := goods) (dr_lo s (m := 5) (by decide)) (dr_hi s (m := 5) (by decide))
    exact ⟨[some x, some (.lst [.int s])], [some x, some (.lst [.int (nx s)])], .str g, nx s, rfl, fe_good (by decide) (v_next s 5 (by decide)) e, rfl, g, rfl, hg⟩) (nx s)
  obtain ⟨as, rfl, hg⟩ := strs_of c3
  rw [List.length_map, rangeD_len] at c2
  have al : as.length ≤ 4 := by omega
  obtain ⟨p, hp, ep⟩ := pick_str (ws := odds) (dr_lo s2 (m := 12) (by decide)) (dr_hi s2 (m := 12) (by decide))
  have bg : big (dr s 5) = true := by unfold big; simp; omega
  have H0 := h0 (v_next s 5 (by decide)) bg (by rw [rangeD_len]; exact line_of (by omega)) c1
  have H1 := h1 (s := s2) (Y := as.map D.str) (by decide)
  have H2 := h2 (Y := as.map D.str) (v_next s2 12 (by decide)) ep
  have e1 := eq_nil (good_odd_ok (List.mem_append_right goods hp))
  have e2 := eq_none as fun a ha => good_odd_ok (List.mem_append_left odds (hg a ha))
  unfold f_y2 b_y2
  by_cases z : p.cps.toList = [] ∧ as = []
  · rw [decide_eq_true z.1] at e1
    rw [decide_eq_true z.2] at e2
    exact ⟨_, _, run_ofS rfl ⟨_, (seq_nx H0).trans <| (seq_nx H1).trans <| (seq_nx H2).trans (seq_rt (h3y (by decide) e1 e2))⟩, blank_no⟩
  · have H3 := h3n (s := nx s2) (v2 := some (.lst (odds.map D.str))) (by decide) e1 e2 (by
      by_cases q : p.cps.toList = []
      · exact .inr (decide_eq_false fun r => z ⟨q, r⟩)
      · exact .inl (decide_eq_false q))
    have k0 := dr_lo (nx s2) (m := (as.length : Int) + 1) (by omega)
    have k1 := dr_hi (nx s2) (m := (as.length : Int) + 1) (by omega)
    have n4 := v_next (nx s2) ((as.length : Int) + 1) (by omega)
    have H4 := h4 (Y := as.map D.str) (p := p) (v2 := some (.lst (odds.map D.str))) (by rw [List.length_map]; exact line_of (by omega)) (by rw [List.length_map]; exact n4)
    generalize dr (nx s2) ((as.length : Int) + 1) = k at k0 k1 n4 H4
    have H5 := h5 (s := nx (nx s2)) (Y := as.map D.str) (p := p) (k := k) (v2 := some (.lst (odds.map D.str))) ((as.take k.toNat).map D.str) ((as.drop k.toNat).map D.str) (Txt.join " " (as.take k.toNat ++ p :: as.drop k.toNat)) (by decide) (by rw [dSl_lto k0, List.map_take]) (by rw [dSl_lfrom k0, List.map_drop]) (by rw [List.length_map, List.length_take]; exact line_of (by omega)) (by rw [List.length_map, List.length_map, List.length_take, List.length_drop]; exact line_of (by omega)) (by
      have e : (as.take k.toNat).map D.str ++ .str p :: (as.drop k.toNat).map D.str = (as.take k.toNat ++ p :: as.drop k.toNat).map D.str := by rw [List.map_append, List.map_cons]
      rw [e]
      refine join_is (by decide) (by rw [List.length_append, List.length_cons, List.length_take, List.length_drop]; omega) fun w hw => ?_
      have m : w ∈ goods ++ odds := by
        rcases List.mem_append.mp hw with hw | hw
        · exact List.mem_append_left _ (hg w (List.mem_of_mem_take hw))
        · rcases List.mem_cons.mp hw with rfl | hw
          · exact List.mem_append_right _ hp
          · exact List.mem_append_left _ (hg w (List.mem_of_mem_drop hw))
      have := (word_ok w m).2.2
      omega)
    refine ⟨_, _, run_ofS rfl ⟨_, (seq_nx H0).trans <| (seq_nx H1).trans <| (seq_nx H2).trans <| (seq_nx H3).trans <| (seq_nx H4).trans H5⟩, heard_no (fun g h => hg g (List.mem_of_mem_take h)) (fun g h => hg g (List.mem_of_mem_drop h)) hp (by rw [List.length_take, List.length_drop]; omega) fun q => z ⟨?_, ?_⟩⟩
    · rw [q.1]; rfl
    · have := q.2
      rwa [List.take_append_drop] at this
theorem jn2 (a b : Str) : Txt.join "," [a, b] = a ++ "," ++ b := by
  rw [txt_join]
  show a ++ "," ++ Str.join "," [b] = _
  rw [← txt_join]
  rfl
theorem jn3 (a b c : Str) : Txt.join "," [a, b, c] = a ++ "," ++ b ++ "," ++ c := by
  rw [txt_join]
  show a ++ "," ++ (b ++ "," ++ Str.join "," [c]) = _
  rw [show Str.join "," [c] = c by rw [← txt_join]; rfl]
  refine str_ext ?_
  simp only [cps_append, List.append_assoc]
section
variable {s s1 f l k : Int} {o t x r : Str} {A B : List D} {v2 v3 v4 v5 : Option D}
theorem p0 (n1 : f_y6 [.int s] [.int 10000000000] = some (.int f, [.int s1])) : (sSet 1 (mCallS f_y6 0 (mCons (mOp2 dPow (mRet (.int 10)) (mRet (.int 10))) mNil))) [some (.lst [.int s]), none, none, none, none, none] = some (.nx [some (.lst [.int s1]), some (.int f), none, none, none, none]) := by
  have e : dPow (.int 10) (.int 10) = some (.int 10000000000) := by kernel_rfl
  walk_at "ev"
theorem p1 (n1 : f_y6 [.int s] [.int 10] = some (.int k, [.int s1])) : (sSet 2 (mOp2 dAdd (mOp2 dAdd (mVar 1) (mRet (.int 1))) (mCallS f_y6 0 (mCons (mRet (.int 10)) mNil)))) [some (.lst [.int s]), some (.int f), none, none, none, none] = some (.nx [some (.lst [.int s1]), some (.int f), some (.int (f + 1 + k)), none, none, none]) := by
  walk_at "ev"
theorem p2 (h : dStr (.int f) = some (.str o)) : (sSet 3 (mOp1 dStr (mVar 1))) [some (.lst [.int s]), some (.int f), some (.int l), none, none, none] = some (.nx [some (.lst [.int s]), some (.int f), some (.int l), some (.str o), none, none]) := by
  generalize dStr = J at h ⊢
  walk_at "ev"
theorem p3 (h : dStr (.int l) = some (.str t)) : (sSet 4 (mOp1 dStr (mVar 2))) [some (.lst [.int s]), some (.int f), some (.int l), some (.str o), none, none] = some (.nx [some (.lst [.int s]), some (.int f), some (.int l), some (.str o), some (.str t), none]) := by
  generalize dStr = J at h ⊢
  walk_at "ev"
theorem p4 (nine : 9 ≤ sizeLine) (a1 : o.length + ("," : Str).length ≤ sizeLine) (a2 : (o ++ ",").length + o.length ≤ sizeLine) (a3 : t.length + ("," : Str).length ≤ sizeLine) (a4 : (t ++ ",").length + o.length ≤ sizeLine) (a5 : ("," : Str).length + o.length ≤ sizeLine) (a6 : ("-" : Str).length + o.length ≤ sizeLine) (a7 : ("0" : Str).length + o.length ≤ sizeLine) (a8 : o.length + (" ," : Str).length ≤ sizeLine) (a9 : (o ++ " ,").length + t.length ≤ sizeLine) :
    (sOwn 5 (mLst (mCons (mRet (.str "")) (mCons (mRet (.str "--")) (mCons (mOp2 dAdd (mOp2 dAdd (mVar 3) (mRet (.str ","))) (mVar 3)) (mCons (mOp2 dAdd (mOp2 dAdd (mVar 4) (mRet (.str ","))) (mVar 3)) (mCons (mOp2 dAdd (mVar 3) (mRet (.str ","))) (mCons (mOp2 dAdd (mRet (.str ",")) (mVar 3)) (mCons (mOp2 dAdd (mRet (.str "-")) (mVar 3)) (mCons (mOp2 dAdd (mRet (.str "0")) (mVar 3)) (mCons (mOp2 dAdd (mOp2 dAdd (mVar 3) (mRet (.str " ,"))) (mVar 4)) mNil))))))))))) [some (.lst [.int s]), some (.int f), some (.int l), some (.str o), some (.str t), none] = some (.nx [some (.lst [.int s]), some (.int f), some (.int l), some (.str o), some (.str t), some (.lst [.str "", .str "--", .str (o ++ "," ++ o), .str (t ++ "," ++ o), .str (o ++ ","), .str ("," ++ o), .str ("-" ++ o), .str ("0" ++ o), .str (o ++ " ," ++ t)])]) := by
  walk_at "ev"
theorem p5 (six : 6 ≤ sizeLine) (la : A.length + 6 ≤ sizeLine) (hm : dMulG (.str "1") (.int 61) = some (.str r)) (a1 : o.length + ("," : Str).length ≤ sizeLine) (b1 : (o ++ ",").length + t.length ≤ sizeLine) (b2 : (o ++ "," ++ t).length + (",-1" : Str).length ≤ sizeLine) (b3 : o.length + (".." : Str).length ≤ sizeLine) (b4 : (o ++ "..").length + t.length ≤ sizeLine) (b5 : o.length + (",-" : Str).length ≤ sizeLine) (b6 : (o ++ "," ++ t).length + ("," : Str).length ≤ sizeLine) (b7 : (o ++ "," ++ t ++ ",").length + o.length ≤ sizeLine) :
    (sExt 5 (mLst (mCons (mOp2 dAdd (mOp2 dAdd (mOp2 dAdd (mVar 3) (mRet (.str ","))) (mVar 4)) (mRet (.str ",-1"))) (mCons (mOp2 dAdd (mOp2 dAdd (mVar 3) (mRet (.str ".."))) (mVar 4)) (mCons (mRet (.str "x")) (mCons (mOp2 dAdd (mVar 3) (mRet (.str ",-"))) (mCons (mOp2 dAdd (mOp2 dAdd (mOp2 dAdd (mOp2 dAdd (mVar 3) (mRet (.str ","))) (mVar 4)) (mRet (.str ","))) (mVar 3)) (mCons (mOp2 dMulG (mRet (.str "1")) (mRet (.int 61))) mNil)))))))) [some (.lst [.int s]), some (.int f), some (.int l), some (.str o), some (.str t), some (.lst A)] = some (.nx [some (.lst [.int s]), some (.int f), some (.int l), some (.str o), some (.str t), some (.lst (A ++ [.str (o ++ "," ++ t ++ ",-1"), .str (o ++ ".." ++ t), .str "x", .str (o ++ ",-"), .str (o ++ "," ++ t ++ "," ++ o), .str r]))]) := by
  generalize dMulG = J at hm ⊢
  walk_at "ev"
theorem p6 (n1 : f_y6 [.int s] [.int 15] = some (.int k, [.int s1])) (h : atI A k = some (.str x)) : (sRet (mOp2 dIx (mVar 5) (mCallS f_y6 0 (mCons (mRet (.int 15)) mNil)))) [some (.lst [.int s]), some (.int f), some (.int l), some (.str o), some (.str t), some (.lst A)] = some (.rt (.str x) [some (.lst [.int s1]), some (.int f), some (.int l), some (.str o), some (.str t), some (.lst A)]) := by
  walk_at "ev"
end
noncomputable def Wn (n : Nat) (w : Str) : Prop := (∀ c ∈ w.cps.toList, c < 128) ∧ 44 ∉ w.cps.toList ∧ w.length ≤ n
theorem Wn.ok {n : Nat} {w : Str} (h : Wn n w) (hn : n ≤ 100) : WOk w := ⟨h.1, h.2.1, Nat.le_trans h.2.2 hn⟩
theorem Wn.app {n m : Nat} {x y : Str} (h : Wn n x) (h' : Wn m y) : Wn (n + m) (x ++ y) := by
  refine ⟨fun c hc => ?_, fun hc => ?_, by rw [app_len]; have := h.2.2; have := h'.2.2; omega⟩
  · rw [cps_append] at hc
    rcases List.mem_append.mp hc with hc | hc
    · exact h.1 c hc
    · exact h'.1 c hc
  · rw [cps_append] at hc
    rcases List.mem_append.mp hc with hc | hc
    · exact h.2.1 hc
    · exact h'.2.1 hc
theorem wlit {n : Nat} {w : Str} (h : (w.cps.toList.all fun c => decide (c < 128 ∧ c ≠ 44)) = true) (hl : w.length ≤ n) : Wn n w := ⟨fun c hc => (of_decide_eq_true (List.all_eq_true.mp h c hc)).1, fun hc => (of_decide_eq_true (List.all_eq_true.mp h 44 hc)).2 rfl, hl⟩
theorem wtx {p : Int} (h0 : 0 ≤ p) (h : p.natAbs < 10 ^ 12) : Wn 12 (tx p) := by
  refine ⟨fun c hc => ?_, fun hc => ?_, tx_pos_len h0 h (by decide)⟩ <;> have := tx_sign hc <;> omega
theorem nofig {w : Str} {k c : Nat} (hc : c ∈ w.cps.toList) (h : c < 48 ∨ 57 < c) : ¬ figsM k w.cps.toList := fun z => by
  have := z.2.1 c hc
  omega
theorem ne45 {w : Str} {c : Nat} (hc : c ∈ w.cps.toList) (h : c ≠ 45) : w.cps.toList ≠ [45] := fun z => h (by rw [z] at hc; simpa using hc)
theorem m_app {x y : Str} {c : Nat} (h : c ∈ x.cps.toList ∨ c ∈ y.cps.toList) : c ∈ (x ++ y).cps.toList := by
  rw [cps_append]
  exact List.mem_append.mpr h
noncomputable def badPl (o t r : Str) : List Str := (["", "--", o ++ "," ++ o, t ++ "," ++ o, o ++ ",", "," ++ o, "-" ++ o, "0" ++ o, o ++ " ," ++ t] : List Str) ++ ([o ++ "," ++ t ++ ",-1", o ++ ".." ++ t, "x", o ++ ",-", o ++ "," ++ t ++ "," ++ o, r] : List Str)
theorem all1 {Pr : Str → Prop} {a : Str} (h : Pr a) : ∀ w ∈ [a], Pr w := fun w hw => by
  rw [List.mem_singleton.mp hw]; exact h
theorem all2 {Pr : Str → Prop} {a b : Str} (h : Pr a) (h' : Pr b) : ∀ w ∈ [a, b], Pr w := fun w hw => by
  rcases List.mem_cons.mp hw with rfl | hw
  · exact h
  · exact all1 h' w hw
theorem all3 {Pr : Str → Prop} {a b c : Str} (h : Pr a) (h' : Pr b) (h2 : Pr c) : ∀ w ∈ [a, b, c], Pr w := fun w hw => by
  rcases List.mem_cons.mp hw with rfl | hw
  · exact h
  · exact all2 h' h2 w hw
theorem pl_bad0 {p : Str} (h : WOk p) (hp : ¬ figsM 60 p.cps.toList) (hne : p.cps.toList ≠ [45]) : fx_y10 [.str p] = some ("NoText" : Str) := pl_bad (as := []) (bs := []) (all1 h) (fun _ h => nomatch h) hp (by decide) hne
theorem comma (a b : Str) : (a ++ "," ++ b).cps.toList ≠ [45] := ne45 (c := 44) (m_app (.inl (m_app (.inr (by decide +kernel))))) (by decide)
theorem places_no {f l : Int} (f0 : 0 ≤ f) (fl : f < l) (l1 : l < 100000000000) : ∀ x ∈ badPl (tx f) (tx l) (strRep "1" 61), fx_y10 [.str x] = some ("NoText" : Str) := by
  have e12 : (10 : Nat) ^ 12 = 1000000000000 := by decide +kernel
  have e60 : (10 : Nat) ^ 60 = 1000000000000000000000000000000000000000000000000000000000000 := by decide +kernel
  have wf : Wn 12 (tx f) := wtx f0 (by rw [e12]; omega)
  have wl : Wn 12 (tx l) := wtx (by omega) (by rw [e12]; omega)
  have gf : figsM 60 (tx f).cps.toList := figs_tx f0 (by rw [e60]; omega) (by decide)
  have gl : figsM 60 (tx l).cps.toList := figs_tx (by omega) (by rw [e60]; omega) (by decide)
  have rf : 0 ≤ f ∧ f < 1000000000000 := by omega
  have rl : 0 ≤ l ∧ l < 1000000000000 := by omega
  have i3 : ∀ {a b c : Int}, (0 ≤ a ∧ a < 1000000000000) → (0 ≤ b ∧ b < 1000000000000) → (0 ≤ c ∧ c < 1000000000000) → ∀ p ∈ [a, b, c], 0 ≤ p ∧ p < 1000000000000 := fun ha hb hc p hp => by
    simp only [List.mem_cons, List.not_mem_nil, or_false] at hp
    rcases hp with rfl | rfl | rfl <;> assumption
  have i2 : ∀ {a b : Int}, (0 ≤ a ∧ a < 1000000000000) → (0 ≤ b ∧ b < 1000000000000) → ∀ p ∈ [a, b], 0 ≤ p ∧ p < 1000000000000 := fun ha hb p hp => by
    simp only [List.mem_cons, List.not_mem_nil, or_false] at hp
    rcases hp with rfl | rfl <;> assumption
  have we : Wn 0 "" := wlit (by decide +kernel) (by decide +kernel)
  have wd : Wn 1 "-" := wlit (by decide +kernel) (by decide +kernel)
  have wz : Wn 1 "0" := wlit (by decide +kernel) (by decide +kernel)
  have wb : Wn 1 " " := wlit (by decide +kernel) (by decide +kernel)
  have wp : Wn 2 ".." := wlit (by decide +kernel) (by decide +kernel)
  have w1 : Wn 2 "-1" := wlit (by decide +kernel) (by decide +kernel)
  have nn : ¬ figsM 60 ("" : Str).cps.toList := fun z => z.1 (by decide +kernel)
  obtain ⟨c, r, hc⟩ : ∃ c r, (tx f).cps.toList = c :: r := by
    cases h : (tx f).cps.toList with
    | nil => exact absurd h (tx_ne f)
    | cons c r => exact ⟨c, r, rfl⟩
  have cm : c ∈ (tx f).cps.toList := by rw [hc]; exact List.mem_cons_self
  have cd := gf.2.1 c cm
  intro x hx
  unfold badPl at hx
  simp only [List.cons_append, List.nil_append, List.mem_cons, List.not_mem_nil, or_false] at hx
  rcases hx with rfl | rfl | rfl | rfl | rfl | rfl | rfl | rfl | rfl | rfl | rfl | rfl | rfl | rfl | rfl
  · exact pl_bad0 (we.ok (by decide)) nn (by decide +kernel)
  · exact pl_bad0 ((wlit (n := 2) (by decide +kernel) (by decide +kernel)).ok (by decide)) (nofig (c := 45) (by decide +kernel) (by decide)) (by decide +kernel)
  · rw [← jn2]
    exact pl_down (ps := [f, f]) (by simp) (i2 rf rf) (by simp) (by simp) (by simp)
  · rw [← jn2]
    exact pl_down (ps := [l, f]) (by simp) (i2 rl rf) (by simp) (by simp; omega) (by simp)
  · have e : tx f ++ "," = Txt.join "," [tx f, ""] := by
      rw [jn2]
      refine str_ext ?_
      simp only [cps_append, List.append_assoc]
      rfl
    rw [e]
    exact pl_bad (as := [tx f]) (bs := []) (all2 (wf.ok (by decide)) (we.ok (by decide))) (all1 gf) nn (by simp) (by rw [List.singleton_append, jn2]; exact comma _ _)
  · have e : "," ++ tx f = Txt.join "," ["", tx f] := by
      rw [jn2]
      refine str_ext ?_
      simp only [cps_append, List.append_assoc]
      rfl
    rw [e]
    exact pl_bad (as := []) (bs := [tx f]) (all2 (we.ok (by decide)) (wf.ok (by decide))) (fun _ h => nomatch h) nn (by simp) (by rw [List.nil_append, jn2]; exact comma _ _)
  · exact pl_bad0 ((wd.app wf).ok (by decide)) (nofig (c := 45) (m_app (.inl (by decide +kernel))) (by decide)) (ne45 (m_app (.inr cm)) (by omega))
  · refine pl_bad0 ((wz.app wf).ok (by decide)) (fun z => ?_) (ne45 (m_app (.inr cm)) (by omega))
    have q := z.2.2.2
    rw [cps_append, hc, show ("0" : Str).cps.toList = [48] by decide +kernel] at q
    simp at q
  · have e : tx f ++ " ," ++ tx l = Txt.join "," [tx f ++ " ", tx l] := by
      rw [jn2]
      refine str_ext ?_
      simp only [cps_append, List.append_assoc]
      rfl
    rw [e]
    exact pl_bad (as := []) (bs := [tx l]) (all2 ((wf.app wb).ok (by decide)) (wl.ok (by decide))) (fun _ h => nomatch h) (nofig (c := 32) (m_app (.inr (by decide +kernel))) (by decide)) (by simp) (by rw [List.nil_append, jn2]; exact comma _ _)
  · have e : tx f ++ "," ++ tx l ++ ",-1" = Txt.join "," [tx f, tx l, "-1"] := by
      rw [jn3]
      refine str_ext ?_
      simp only [cps_append, List.append_assoc]
      rfl
    rw [e]
    exact pl_bad (as := [tx f, tx l]) (bs := []) (all3 (wf.ok (by decide)) (wl.ok (by decide)) (w1.ok (by decide))) (all2 gf gl) (nofig (c := 45) (by decide +kernel) (by decide)) (by simp) (by show (Txt.join "," [tx f, tx l, "-1"]).cps.toList ≠ _; rw [jn3]; exact comma _ _)
  · exact pl_bad0 (((wf.app wp).app wl).ok (by decide)) (nofig (c := 46) (m_app (.inl (m_app (.inr (by decide +kernel))))) (by decide)) (ne45 (c := 46) (m_app (.inl (m_app (.inr (by decide +kernel))))) (by decide))
  · exact pl_bad0 ((wlit (n := 1) (by decide +kernel) (by decide +kernel)).ok (by decide)) (nofig (c := 120) (by decide +kernel) (by decide)) (by decide +kernel)
  · have e : tx f ++ ",-" = Txt.join "," [tx f, "-"] := by
      rw [jn2]
      refine str_ext ?_
      simp only [cps_append, List.append_assoc]
      rfl
    rw [e]
    exact pl_bad (as := [tx f]) (bs := []) (all2 (wf.ok (by decide)) (wd.ok (by decide))) (all1 gf) (nofig (c := 45) (by decide +kernel) (by decide)) (by simp) (by rw [List.singleton_append, jn2]; exact comma _ _)
  · rw [← jn3]
    exact pl_down (ps := [f, l, f]) (by simp) (i3 rf rl rf) (by simp) (by simp; omega) (by simp)
  · exact pl_bad0 ((wlit (n := 61) (by decide +kernel) (by decide +kernel)).ok (by decide)) (fun z => absurd z.2.2.1 (by decide +kernel)) (by decide +kernel)
theorem rep_is (z : Str) (h0 : 0 < z.length) (h1 : z.length ≤ 1000) : dMulG (.str z) (.int 61) = some (.str (strRep z 61)) := by
  show (if (0 : Int) < 61 ∧ (61 : Int) ≤ 1000 ∧ 0 < z.length ∧ z.length ≤ 1000 then some (D.str (strRep z 61)) else none) = _
  rw [if_pos ⟨by decide, by decide, h0, h1⟩]
theorem v_bad_places (s : Int) : ∃ x s', f_y1 [.int s] [] = some (.str x, [.int s']) ∧ fx_y10 [.str x] = some ("NoText" : Str) := by
  have f0 := dr_lo s (m := 10000000000) (by decide)
  have f1 := dr_hi s (m := 10000000000) (by decide)
  have n1 := v_next s 10000000000 (by decide)
  have k0 := dr_lo (nx s) (m := 10) (by decide)
  have k1 := dr_hi (nx s) (m := 10) (by decide)
  have n2 := v_next (nx s) 10 (by decide)
  generalize dr s 10000000000 = f at f0 f1 n1
  generalize dr (nx s) 10 = k at k0 k1 n2
  have n6 : N60 f := by unfold N60; omega
  have m6 : N60 (f + 1 + k) := by unfold N60; omega
  have e12 : (10 : Nat) ^ 12 = 1000000000000 := by decide +kernel
  have lf : (tx f).length ≤ 12 := tx_pos_len f0 (by rw [e12]; omega) (by decide)
  have ll : (tx (f + 1 + k)).length ≤ 12 := tx_pos_len (by omega) (by rw [e12]; omega) (by decide)
  have j1 : ("," : Str).length = 1 := by decide +kernel
  have j2 : (",-1" : Str).length = 3 := by decide +kernel
  have j3 : (".." : Str).length = 2 := by decide +kernel
  have j4 : (",-" : Str).length = 2 := by decide +kernel
  have j5 : (" ," : Str).length = 2 := by decide +kernel
  have j6 : ("-" : Str).length = 1 := by decide +kernel
  have j7 : ("0" : Str).length = 1 := by decide +kernel
  obtain ⟨x, hx, ex⟩ := pick_str (ws := badPl (tx f) (tx (f + 1 + k)) (strRep "1" 61)) (dr_lo (nx (nx s)) (m := 15) (by decide)) (dr_hi (nx (nx s)) (m := 15) (by decide))
  have P4 := p4 (s := nx (nx s)) (f := f) (l := f + 1 + k) (o := tx f) (t := tx (f + 1 + k)) (by decide) (line_of (by omega)) (line_of (by rw [app_len]; omega)) (line_of (by omega)) (line_of (by rw [app_len]; omega)) (line_of (by omega)) (line_of (by omega)) (line_of (by omega)) (line_of (by omega)) (line_of (by rw [app_len]; omega))
  have P5 := p5 (s := nx (nx s)) (f := f) (l := f + 1 + k) (o := tx f) (t := tx (f + 1 + k)) (A := [.str "", .str "--", .str (tx f ++ "," ++ tx f), .str (tx (f + 1 + k) ++ "," ++ tx f), .str (tx f ++ ","), .str ("," ++ tx f), .str ("-" ++ tx f), .str ("0" ++ tx f), .str (tx f ++ " ," ++ tx (f + 1 + k))]) (by decide) (by show 9 + 6 ≤ sizeLine; decide) (rep_is "1" (by decide) (by decide)) (line_of (by omega)) (line_of (by rw [app_len]; omega)) (line_of (by rw [app_len, app_len]; omega)) (line_of (by omega)) (line_of (by rw [app_len]; omega)) (line_of (by omega)) (line_of (by rw [app_len, app_len]; omega)) (line_of (by rw [app_len, app_len, app_len]; omega))
  have P6 := p6 (f := f) (l := f + 1 + k) (o := tx f) (t := tx (f + 1 + k)) (v_next (nx (nx s)) 15 (by decide)) ex
  refine ⟨x, nx (nx (nx s)), ?_, places_no f0 (by omega) (by omega) x hx⟩
  unfold f_y1 b_y1
  exact run_ofS rfl ⟨_, (seq_nx (p0 n1)).trans <| (seq_nx (p1 n2)).trans <| (seq_nx (p2 n6.str)).trans <| (seq_nx (p3 m6.str)).trans <| (seq_nx P4).trans <| (seq_nx P5).trans P6⟩
noncomputable def SOk (w : Str) : Prop := (∀ c ∈ w.cps.toList, c < 128) ∧ 32 ∉ w.cps.toList ∧ w.length ≤ 20
theorem SOk.ok {w : Str} (h : SOk w) : PyData.strOk w = true := strOk_of fun c hc => by
  have := h.1 c hc
  omega
theorem SOk.line {w : Str} (h : SOk w) : w.length ≤ sizeLine := line_of (by have := h.2.2; omega)
noncomputable def ends : List Str := [("open" : Str), ("ended" : Str), ("ring" : Str)]
structure WsOk (ws : List Str) : Prop where
  ok : ∀ w ∈ ws, SOk w
  ln : ws.length ≤ 60
theorem WsOk.split {ws : List Str} (h : WsOk ws) (hn : ws ≠ []) : dSplit (.str (Txt.join (" " : Str) ws)) (.str (" " : Str)) = some (ws.map D.str) := by
  rw [e32]
  have := h.ln
  exact dSplit_join hn (fun w hw => (h.ok w hw).2.1) (line_of (Nat.le_trans (join_len 32 _ 20 fun w hw => (h.ok w hw).2.2) (by omega))) (line_of (by omega))
theorem WsOk.line {ws : List Str} (h : WsOk ws) : (ws.map D.str).length ≤ sizeLine := by
  rw [List.length_map]
  exact line_of (by have := h.ln; omega)
theorem in_listB (k : Str) (ws : List Str) : dInG false (.str k) (.lst (ws.map D.str)) = some (.bl (decide (k ∈ ws))) := by
  by_cases h : k ∈ ws
  · rw [decide_eq_true h]
    exact in_list h
  · rw [decide_eq_false h]
    unfold dInG
    simp only [dSeq]
    have f : (ws.map D.str).all flatD = true := by
      rw [List.all_map, List.all_eq_true]
      intro x _
      rfl
    rw [if_pos ⟨rfl, f⟩]
    have e : inD (.str k) (ws.map D.str) = false := by
      cases z : inD (.str k) (ws.map D.str) with
      | false => rfl
      | true =>
        unfold inD inV at z
        rw [List.any_map, List.any_map, List.any_eq_true] at z
        obtain ⟨x, hx, q⟩ := z
        have q' : (x == k) = true := q
        rw [beq_iff_eq] at q'
        exact absurd (q' ▸ hx) h
    rw [e]
    rfl
theorem eq_lst1 {z y : Str} (hz : PyData.strOk z = true) (hy : PyData.strOk y = true) : eqD (.lst [.str z]) (.lst [.str y]) = some (z == y) := by
  simp [eqD, D.toP, D.toPs, SeqAt.shaped, PyData.canLay0, PyData.canLayAll0, PyData.depth, PyData.depthAll, PyData.eqv, PyData.eqvAll, hz, hy]
theorem in_ends (e : Str) : inD (.str e) [.str ("open" : Str), .str ("ended" : Str), .str ("ring" : Str)] = decide (e ∈ ends) := by
  rw [Bool.eq_iff_iff, decide_eq_true_eq]
  unfold inD inV ends
  simp only [List.map_cons, List.map_nil, List.any_cons, List.any_nil, Bool.or_false, Bool.or_eq_true, List.mem_cons, List.not_mem_nil, or_false]
  constructor
  · intro h
    rcases h with h | h | h
    · exact .inl (beq_iff_eq.mp (show (("open" : Str) == e) = true from h)).symm
    · exact .inr (.inl (beq_iff_eq.mp (show (("ended" : Str) == e) = true from h)).symm)
    · exact .inr (.inr (beq_iff_eq.mp (show (("ring" : Str) == e) = true from h)).symm)
  · intro h
    rcases h with h | h | h
    · exact .inl (show (("open" : Str) == e) = true from beq_iff_eq.mpr h.symm)
    · exact .inr (.inl (show (("ended" : Str) == e) = true from beq_iff_eq.mpr h.symm))
    · exact .inr (.inr (show (("ring" : Str) == e) = true from beq_iff_eq.mpr h.symm))
theorem hs_val {a b c e : Str} {r i ws : List Str} (h : WsOk ws) (w1 : ws = a :: b :: c :: r) (w2 : ws = i ++ [e]) : f_y16 [.lst (ws.map D.str)] = some (.bl ((a == ("reach" : Str)) && (c == ("taps" : Str)) && decide (("rows" : Str) ∈ ws) && decide (e ∈ ends))) := by
  have oa : PyData.strOk a = true := (h.ok a (by rw [w1]; simp)).ok
  have oc : PyData.strOk c = true := (h.ok c (by rw [w1]; simp)).ok
  refine hs_ex (a := a) (Z := [.str c]) (e := e) h.line (by decide) (by rw [w1]; exact at0 _ _) (eqD_str oa (by decide +kernel)) ?_ (eq_lst1 oc (by decide +kernel)) (in_listB _ _) (by rw [w2, List.map_append]; exact at_last _ _) (in_ends e)
  have e1 : ws.map D.str = [.str a, .str b] ++ ([.str c] ++ r.map D.str) := by rw [w1]; rfl
  rw [e1]
  exact cutD_two (by decide) (by decide) rfl rfl
theorem form_no {a b c e : Str} {r i ws : List Str} (h : WsOk ws) (w1 : ws = a :: b :: c :: r) (w2 : ws = i ++ [e]) (hf : a ≠ ("reach" : Str) ∨ c ≠ ("taps" : Str) ∨ ("rows" : Str) ∉ ws ∨ e ∉ ends) : fx_y9 [.str (Txt.join (" " : Str) ws)] = some ("NoText" : Str) := by
  refine xs_form (by decide) (ct_ok _).1 (ct_ok _).2 (h.split (by rw [w1]; simp)) ((hs_val h w1 w2).trans ?_)
  congr 2
  rcases hf with q | q | q | q
  · rw [beq_eq_false_iff_ne.mpr q]; rfl
  · rw [beq_eq_false_iff_ne.mpr q, Bool.and_false]; rfl
  · rw [decide_eq_false q, Bool.and_false]; rfl
  · rw [decide_eq_false q, Bool.and_false]
theorem cm_of {n : Nat} {fe : Rho → Option (D × Rho)} (g : D → D) (xs : List D) (h : ∀ x ∈ xs, fe [some x] = some (g x, [some x])) (ρ : Rho) : compRun 1 [] none (gSet 0) (mRet true) fe xs ρ = some (xs.map g, ρ) := cm_map (n := 1) (js := []) (fg := gSet 0) (fe := fe) (ρ := ρ) g xs fun x hx => ⟨[some x], rfl, by rw [h x hx]; rfl⟩
theorem sch_no {R e : Str} {A B ws : List Str} (h : WsOk ws) (hw : ws = ("reach" : Str) :: R :: ("taps" : Str) :: (A ++ ("rows" : Str) :: (B ++ [e]))) (hR : R ≠ ("rows" : Str)) (hA : ("rows" : Str) ∉ A) (he : e ∈ ends) (bad : (∃ a ∈ A, ¬ small a) ∨ (∃ b ∈ B, ¬ bitsW b) ∨ ¬ small R ∨ A = [] ∨ B = []) : fx_y9 [.str (Txt.join (" " : Str) ws)] = some ("NoText" : Str) := by
  have sA : ∀ a ∈ A, SOk a := fun a ha => h.ok a (by rw [hw]; simp [ha])
  have sB : ∀ b ∈ B, SOk b := fun b hb => h.ok b (by rw [hw]; simp [hb])
  have sR : SOk R := h.ok R (by rw [hw]; simp)
  have ln : A.length + B.length + 5 ≤ 60 := by have := h.ln; rw [hw] at this; simp at this; omega
  have sp := h.split (by rw [hw]; simp)
  have w2 : ws = (("reach" : Str) :: R :: ("taps" : Str) :: (A ++ ("rows" : Str) :: B)) ++ [e] := by rw [hw]; simp
  have hf : f_y16 [.lst (ws.map D.str)] = some (.bl true) := by
    refine (hs_val h hw w2).trans ?_
    rw [decide_eq_true he, decide_eq_true (show ("rows" : Str) ∈ ws by rw [hw]; simp)]
    rw [beq_self_eq_true, beq_self_eq_true]
    rfl
  have w5 : ws = (("reach" : Str) :: R :: ("taps" : Str) :: A) ++ ("rows" : Str) :: (B ++ [e]) := by rw [hw]; rfl
  have nr : ("rows" : Str) ∉ ("reach" : Str) :: R :: ("taps" : Str) :: A := fun z => by
    rcases List.mem_cons.mp z with z | z
    · exact absurd z (by decide +kernel)
    · rcases List.mem_cons.mp z with z | z
      · exact hR z.symm
      · rcases List.mem_cons.mp z with z | z
        · exact absurd z (by decide +kernel)
        · exact hA z
  have hi : dIdx (.lst (ws.map D.str)) (.str ("rows" : Str)) = some (.int ((3 + A.length : Nat) : Int)) := by
    rw [w5, idx_is nr]
    simp only [List.length_cons]
    congr 2
    omega
  have h1 : dSl (.lst (ws.map D.str)) (some 3) (some ((3 + A.length : Nat) : Int)) = some (.lst (A.map D.str)) := by
    have q : ws.map D.str = [.str ("reach" : Str), .str R, .str ("taps" : Str)] ++ (A.map D.str ++ (("rows" : Str) :: (B ++ [e])).map D.str) := by rw [hw]; simp
    rw [q]
    exact cutD_two (by decide) (by omega) rfl (by rw [List.length_map]; omega)
  have h2 : dSl (.lst (ws.map D.str)) (some (((3 + A.length : Nat) : Int) + 1)) (some (-1)) = some (.lst (B.map D.str)) := by
    have q : ws.map D.str = (("reach" : Str) :: R :: ("taps" : Str) :: (A ++ [("rows" : Str)])).map D.str ++ (B.map D.str ++ [.str e]) := by rw [hw]; simp
    rw [q]
    exact cutD_last (by omega) (by simp only [List.length_append, List.length_map, List.length_cons, List.length_nil]; omega)
  have la : (A.map D.str).length ≤ sizeLine := by rw [List.length_map]; exact line_of (by omega)
  have lb : (B.map D.str).length ≤ sizeLine := by rw [List.length_map]; exact line_of (by omega)
  by_cases gA : ∀ a ∈ A, small a
  · have cx := fun ρ => compX_no (n := 1) (js := []) (fg := gSet 0) (fe := mCall f_y13 (mCons (mVar 0) mNil)) (xe := xCall fx_y13 (mCons (mVar 0) mNil) xNo) (ρ := ρ) (A.map D.str) fun d hd => by
      obtain ⟨a, ha, rfl⟩ := List.mem_map.mp hd
      obtain ⟨n, q1, q2⟩ := small_yes (gA a ha)
      exact ⟨[some (.str a)], rfl, xc1 (f := f_y13) q2, _, mc1 q1⟩
    have c1 := cm_of (fe := mCall f_y13 (mCons (mVar 0) mNil)) (n := 1) (fun d => (f_y13 [d]).getD .non) (A.map D.str) fun d hd => by
      obtain ⟨a, ha, rfl⟩ := List.mem_map.mp hd
      obtain ⟨n, q1, q2⟩ := small_yes (gA a ha)
      rw [mc1 q1, q1]
      rfl
    by_cases gB : ∀ b ∈ B, bitsW b
    · have cy := fun ρ => compX_no (n := 1) (js := []) (fg := gSet 0) (fe := mOp1 dTuple (mCall f_y15 (mCons (mVar 0) mNil))) (xe := xThen (mCall f_y15 (mCons (mVar 0) mNil)) (xCall fx_y15 (mCons (mVar 0) mNil) xNo) xNo) (ρ := ρ) (B.map D.str) fun d hd => by
        obtain ⟨b, hb, rfl⟩ := List.mem_map.mp hd
        obtain ⟨q2, ds, q1⟩ := bits_yes (sB b hb).line (gB b hb)
        exact ⟨[some (.str b)], rfl, xt1 q2, _, mt1 q1⟩
      have c2 := cm_of (fe := mOp1 dTuple (mCall f_y15 (mCons (mVar 0) mNil))) (n := 1) (fun d => match f_y15 [d] with | some (.lst ds) => D.tup ds | _ => .non) (B.map D.str) fun d hd => by
        obtain ⟨b, hb, rfl⟩ := List.mem_map.mp hd
        obtain ⟨q2, ds, q1⟩ := bits_yes (sB b hb).line (gB b hb)
        rw [mt1 q1, q1]
      by_cases gR : small R
      · obtain ⟨n, q1, q2⟩ := small_yes gR
        have hb : ((A.map D.str).map fun d => (f_y13 [d]).getD .non) = [] ∨ ((B.map D.str).map fun d => match f_y15 [d] with | some (.lst ds) => D.tup ds | _ => .non) = [] := by
          rcases bad with ⟨a, ha, q⟩ | ⟨b, hb, q⟩ | q | q | q
          · exact absurd (gA a ha) q
          · exact absurd (gB b hb) q
          · exact absurd gR q
          · exact .inl (by rw [q]; rfl)
          · exact .inr (by rw [q]; rfl)
        obtain ⟨ρ', t⟩ := xt_end (x := Txt.join (" " : Str) ws) (W := ws.map D.str) (k := ((3 + A.length : Nat) : Int)) (TP := (A.map D.str).map fun d => (f_y13 [d]).getD .non) (RW := (B.map D.str).map fun d => match f_y15 [d] with | some (.lst ds) => D.tup ds | _ => .non) (by decide) (by rw [hw]; exact at1 _ _ _) (by rw [List.length_map]; exact la) (.inr ⟨q2, q1, hb⟩)
        exact xs_pre (ct_ok _).1 (ct_ok _).2 sp hf hi h1 la (cx _) (c1 _) h2 lb (cy _) (c2 _) t
      · obtain ⟨ρ', t⟩ := xt_end (r := 0) (x := Txt.join (" " : Str) ws) (W := ws.map D.str) (k := ((3 + A.length : Nat) : Int)) (TP := (A.map D.str).map fun d => (f_y13 [d]).getD .non) (RW := (B.map D.str).map fun d => match f_y15 [d] with | some (.lst ds) => D.tup ds | _ => .non) (by decide) (by rw [hw]; exact at1 _ _ _) (by rw [List.length_map]; exact la) (.inl (small_no sR.line gR))
        exact xs_pre (ct_ok _).1 (ct_ok _).2 sp hf hi h1 la (cx _) (c1 _) h2 lb (cy _) (c2 _) t
    · refine xs_rows (ct_ok _).1 (ct_ok _).2 sp hf hi h1 la (cx _) (c1 _) h2 lb (compX_ex _ (fun d hd => ?_) ?_)
      · obtain ⟨b, hb, rfl⟩ := List.mem_map.mp hd
        refine ⟨[some (.str b)], rfl, ?_⟩
        by_cases q : bitsW b
        · obtain ⟨q2, ds, q1⟩ := bits_yes (sB b hb).line q
          exact .inl ⟨xt1 q2, _, mt1 q1⟩
        · exact .inr ⟨_, xt2 (bits_no (sB b hb).line q)⟩
      · obtain ⟨b, hb, q⟩ : ∃ b ∈ B, ¬ bitsW b := by
          apply Classical.byContradiction
          intro z
          exact gB fun b hb => Classical.byContradiction fun q => z ⟨b, hb, q⟩
        exact ⟨.str b, List.mem_map_of_mem hb, _, _, rfl, xt2 (bits_no (sB b hb).line q)⟩
  · refine xs_taps (ct_ok _).1 (ct_ok _).2 sp hf hi h1 la (compX_ex _ (fun d hd => ?_) ?_)
    · obtain ⟨a, ha, rfl⟩ := List.mem_map.mp hd
      refine ⟨[some (.str a)], rfl, ?_⟩
      by_cases q : small a
      · obtain ⟨n, q1, q2⟩ := small_yes q
        exact .inl ⟨xc1 (f := f_y13) q2, _, mc1 q1⟩
      · exact .inr ⟨_, xc2 (small_no (sA a ha).line q)⟩
    · obtain ⟨a, ha, q⟩ : ∃ a ∈ A, ¬ small a := by
        apply Classical.byContradiction
        intro z
        exact gA fun a ha => Classical.byContradiction fun q => z ⟨a, ha, q⟩
      exact ⟨.str a, List.mem_map_of_mem ha, _, _, rfl, xc2 (small_no (sA a ha).line q)⟩
structure Grp (R e : Str) (T B : List Str) : Prop where
  fR : small R
  fT : ∀ t ∈ T, small t
  fB : ∀ b ∈ B, bitsW b
  tn : T ≠ []
  bn : B ≠ []
  en : e ∈ ends
  oR : SOk R
  oT : ∀ t ∈ T, SOk t
  oB : ∀ b ∈ B, SOk b
  tl : T.length ≤ 6
  bl : B.length ≤ 6
noncomputable def grp (R e : Str) (T B : List Str) : List (List Str) := [[("reach" : Str)], [R], [("taps" : Str)], T, [("rows" : Str)], B, [e]]
noncomputable def us : List Str := [("" : Str), ("x" : Str), ("Open" : Str), ("rows" : Str), ("1/1" : Str)]
noncomputable def od : List (List Str) := [[("Reach" : Str), ("taps" : Str), ("" : Str), ("reac" : Str)], [("07" : Str), ("-1" : Str), ("100" : Str), ("" : Str), ("x" : Str), ("1.0" : Str)], [("tap" : Str), ("Taps" : Str), ("reach" : Str)], [("00" : Str), ("-7" : Str), ("123" : Str), ("x" : Str), ("+1" : Str)], [("row" : Str), ("Rows" : Str), ("taps" : Str)], [("12" : Str), ("-" : Str), ("" : Str), ("1x" : Str), ("0/1" : Str)], [("Open" : Str), ("end" : Str), ("rings" : Str), ("" : Str), ("close" : Str)]]
theorem us_ok : ∀ u ∈ us, SOk u ∧ ¬ small u ∧ ¬ bitsW u ∧ u ≠ ("taps" : Str) := by
  unfold SOk small figsM AllDigits bitsW us
  decide +kernel
theorem od_ok : ∀ l ∈ od, ∀ o ∈ l, SOk o := by
  unfold SOk od
  decide +kernel
theorem od0 : ∀ o ∈ ([("Reach" : Str), ("taps" : Str), ("" : Str), ("reac" : Str)] : List Str), o ≠ ("reach" : Str) := by decide +kernel
theorem od1 : ∀ o ∈ ([("07" : Str), ("-1" : Str), ("100" : Str), ("" : Str), ("x" : Str), ("1.0" : Str)] : List Str), ¬ small o ∧ o ≠ ("rows" : Str) := by
  unfold small figsM AllDigits
  decide +kernel
theorem od2 : ∀ o ∈ ([("tap" : Str), ("Taps" : Str), ("reach" : Str)] : List Str), o ≠ ("taps" : Str) := by decide +kernel
theorem od3 : ∀ o ∈ ([("00" : Str), ("-7" : Str), ("123" : Str), ("x" : Str), ("+1" : Str)] : List Str), ¬ small o ∧ o ≠ ("rows" : Str) := by
  unfold small figsM AllDigits
  decide +kernel
theorem od4 : ∀ o ∈ ([("row" : Str), ("Rows" : Str), ("taps" : Str)] : List Str), o ≠ ("rows" : Str) := by decide +kernel
theorem od5 : ∀ o ∈ ([("12" : Str), ("-" : Str), ("" : Str), ("1x" : Str), ("0/1" : Str)] : List Str), ¬ bitsW o := by
  unfold bitsW
  decide +kernel
theorem od6 : ∀ o ∈ ([("Open" : Str), ("end" : Str), ("rings" : Str), ("" : Str), ("close" : Str)] : List Str), o ∉ ends := by
  unfold ends
  decide +kernel
theorem fix_ok : ∀ w ∈ ([("reach" : Str), ("taps" : Str), ("rows" : Str), ("open" : Str), ("ended" : Str), ("ring" : Str), ("" : Str)] : List Str), SOk w := by
  unfold SOk
  decide +kernel
theorem ends_ok : ∀ w ∈ ends, ¬ bitsW w ∧ w ≠ ("rows" : Str) := by
  unfold bitsW ends
  decide +kernel
theorem lead_no : ¬ small ("reach" : Str) ∧ ¬ small ("taps" : Str) ∧ ¬ small ("rows" : Str) ∧ ¬ bitsW ("rows" : Str) := by
  unfold small figsM AllDigits bitsW
  decide +kernel
theorem lt7 : ∀ j, j < 7 → (j = 0 ∨ j = 1 ∨ j = 2 ∨ j = 3 ∨ j = 4 ∨ j = 5 ∨ j = 6) := by decide
theorem lt6 : ∀ j, j < 6 → (j = 0 ∨ j = 1 ∨ j = 2 ∨ j = 3 ∨ j = 4 ∨ j = 5) := by decide
theorem flat_len {k : Nat} : ∀ {L : List (List Str)}, (∀ l ∈ L, l.length ≤ k) → L.flatten.length ≤ L.length * k
  | [], _ => Nat.zero_le _
  | l :: L, h => by
    rw [List.flatten_cons, List.length_append, List.length_cons, Nat.succ_mul]
    have h1 := h l List.mem_cons_self
    have h2 := flat_len (L := L) fun x hx => h x (List.mem_cons_of_mem _ hx)
    omega
section
variable {R e : Str} {T B : List Str}
theorem Grp.oe (g : Grp R e T B) : SOk e := by
  have h := g.en
  unfold ends at h
  simp only [List.mem_cons, List.not_mem_nil, or_false] at h
  rcases h with rfl | rfl | rfl <;> exact fix_ok _ (by simp)
theorem ws_ok (g : Grp R e T B) {j : Nat} {X : List Str} (hx : ∀ w ∈ X, SOk w) (lx : X.length ≤ 7) : WsOk ((grp R e T B).set j X).flatten := by
  have each : ∀ l ∈ (grp R e T B).set j X, (∀ w ∈ l, SOk w) ∧ l.length ≤ 7 := fun l hl => by
    rcases List.mem_or_eq_of_mem_set hl with hl | rfl
    · unfold grp at hl
      simp only [List.mem_cons, List.not_mem_nil, or_false] at hl
      rcases hl with rfl | rfl | rfl | rfl | rfl | rfl | rfl
      · exact ⟨all1 (fix_ok _ (by simp)), by simp⟩
      · exact ⟨all1 g.oR, by simp⟩
      · exact ⟨all1 (fix_ok _ (by simp)), by simp⟩
      · exact ⟨g.oT, by have := g.tl; omega⟩
      · exact ⟨all1 (fix_ok _ (by simp)), by simp⟩
      · exact ⟨g.oB, by have := g.bl; omega⟩
      · exact ⟨all1 g.oe, by simp⟩
    · exact ⟨hx, lx⟩
  refine ⟨fun w hw => ?_, ?_⟩
  · obtain ⟨l, hl, hw⟩ := List.mem_flatten.mp hw
    exact (each l hl).1 w hw
  · have q := flat_len (k := 7) fun l hl => (each l hl).2
    rw [List.length_set] at q
    have q7 : (grp R e T B).length = 7 := rfl
    rw [q7] at q
    omega
theorem last_of {xs : List Str} (h : xs ≠ []) : ∃ i z, xs = i ++ [z] ∧ z ∈ xs := ⟨xs.dropLast, xs.getLast h, (List.dropLast_concat_getLast h).symm, List.getLast_mem h⟩
theorem Grp.ne (g : Grp R e T B) {v : Str} (hv : ¬ small v) : R ≠ v ∧ v ∉ T := ⟨fun z => hv (z ▸ g.fR), fun z => hv (g.fT v z)⟩
theorem Grp.nrows (g : Grp R e T B) {m : List Str} (hm : ("rows" : Str) ∉ m) : ("rows" : Str) ∉ ("reach" : Str) :: R :: ("taps" : Str) :: (T ++ (m ++ (B ++ [e]))) := fun z => by
  have n := g.ne lead_no.2.2.1
  rcases List.mem_cons.mp z with z | z
  · exact absurd z (by decide +kernel)
  rcases List.mem_cons.mp z with z | z
  · exact n.1 z.symm
  rcases List.mem_cons.mp z with z | z
  · exact absurd z (by decide +kernel)
  rcases List.mem_append.mp z with z | z
  · exact n.2 z
  rcases List.mem_append.mp z with z | z
  · exact hm z
  rcases List.mem_append.mp z with z | z
  · exact lead_no.2.2.2 (g.fB _ z)
  · exact (ends_ok e g.en).2 (List.mem_singleton.mp z).symm
theorem no_0 (g : Grp R e T B) {j : Nat} (hj : j < 7) : fx_y9 [.str (Txt.join (" " : Str) ((grp R e T B).set j []).flatten)] = some ("NoText" : Str) := by
  have W := ws_ok g (j := j) (X := []) (fun _ h => nomatch h) (Nat.zero_le _)
  have nR := g.ne lead_no.1
  have nT := g.ne lead_no.2.1
  have nW := g.ne lead_no.2.2.1
  obtain ⟨t, T', et⟩ := List.exists_cons_of_ne_nil g.tn
  obtain ⟨i, b, eb, mb⟩ := last_of g.bn
  have tt : t ≠ ("taps" : Str) := fun z => nT.2 (by rw [et, z]; exact List.mem_cons_self)
  rcases lt7 j hj with rfl | rfl | rfl | rfl | rfl | rfl | rfl
  · exact form_no W (a := R) (b := ("taps" : Str)) (c := t) (r := T' ++ ("rows" : Str) :: (B ++ [e])) (i := R :: ("taps" : Str) :: (T ++ ("rows" : Str) :: B)) (e := e) (by rw [et]; rfl) (by simp [grp]) (.inl nR.1)
  · exact form_no W (a := ("reach" : Str)) (b := ("taps" : Str)) (c := t) (r := T' ++ ("rows" : Str) :: (B ++ [e])) (i := ("reach" : Str) :: ("taps" : Str) :: (T ++ ("rows" : Str) :: B)) (e := e) (by rw [et]; rfl) (by simp [grp]) (.inr (.inl tt))
  · exact form_no W (a := ("reach" : Str)) (b := R) (c := t) (r := T' ++ ("rows" : Str) :: (B ++ [e])) (i := ("reach" : Str) :: R :: (T ++ ("rows" : Str) :: B)) (e := e) (by rw [et]; rfl) (by simp [grp]) (.inr (.inl tt))
  · exact sch_no W (R := R) (A := []) (B := B) (e := e) rfl nW.1 (fun z => nomatch z) g.en (.inr (.inr (.inr (.inl rfl))))
  · exact form_no W (a := ("reach" : Str)) (b := R) (c := ("taps" : Str)) (r := T ++ (B ++ [e])) (i := ("reach" : Str) :: R :: ("taps" : Str) :: (T ++ B)) (e := e) rfl (by simp [grp]) (.inr (.inr (.inl (g.nrows (m := []) (fun z => nomatch z)))))
  · exact sch_no W (R := R) (A := T) (B := []) (e := e) rfl nW.1 nW.2 g.en (.inr (.inr (.inr (.inr rfl))))
  · exact form_no W (a := ("reach" : Str)) (b := R) (c := ("taps" : Str)) (r := T ++ ("rows" : Str) :: B) (i := ("reach" : Str) :: R :: ("taps" : Str) :: (T ++ ("rows" : Str) :: i)) (e := b) (by simp [grp]) (by simp [grp, eb]) (.inr (.inr (.inr fun z => (ends_ok b z).1 (g.fB b mb))))
theorem Grp.oQ (g : Grp R e T B) {j : Nat} {Q : List Str} (hq : (grp R e T B)[j]? = some Q) : (∀ w ∈ Q, SOk w) ∧ Q.length ≤ 6 := by
  have m := List.mem_of_getElem? hq
  unfold grp at m
  simp only [List.mem_cons, List.not_mem_nil, or_false] at m
  rcases m with rfl | rfl | rfl | rfl | rfl | rfl | rfl
  · exact ⟨all1 (fix_ok _ (by simp)), by simp⟩
  · exact ⟨all1 g.oR, by simp⟩
  · exact ⟨all1 (fix_ok _ (by simp)), by simp⟩
  · exact ⟨g.oT, g.tl⟩
  · exact ⟨all1 (fix_ok _ (by simp)), by simp⟩
  · exact ⟨g.oB, g.bl⟩
  · exact ⟨all1 g.oe, by simp⟩
theorem app_ok {Q : List Str} {u : Str} (h : (∀ w ∈ Q, SOk w) ∧ Q.length ≤ 6) (hu : SOk u) : (∀ w ∈ Q ++ [u], SOk w) ∧ (Q ++ [u]).length ≤ 7 := by
  refine ⟨fun w hw => ?_, by rw [List.length_append, List.length_singleton]; omega⟩
  rcases List.mem_append.mp hw with hw | hw
  · exact h.1 w hw
  · rw [List.mem_singleton.mp hw]; exact hu
theorem no_1 (g : Grp R e T B) {j : Nat} (hj : j < 6) {Q : List Str} (hq : (grp R e T B)[j]? = some Q) {u : Str} (hu : u ∈ us) : fx_y9 [.str (Txt.join (" " : Str) ((grp R e T B).set j (Q ++ [u])).flatten)] = some ("NoText" : Str) := by
  obtain ⟨uo, un, ub, ut⟩ := us_ok u hu
  have ao := app_ok (g.oQ hq) uo
  have W := ws_ok g (j := j) ao.1 ao.2
  have nT := g.ne lead_no.2.1
  have nW := g.ne lead_no.2.2.1
  rcases lt6 j hj with rfl | rfl | rfl | rfl | rfl | rfl
  · cases hq
    exact form_no W (a := ("reach" : Str)) (b := u) (c := R) (r := ("taps" : Str) :: (T ++ ("rows" : Str) :: (B ++ [e]))) (i := ("reach" : Str) :: u :: R :: ("taps" : Str) :: (T ++ ("rows" : Str) :: B)) (e := e) rfl (by simp [grp]) (.inr (.inl nT.1))
  · cases hq
    exact form_no W (a := ("reach" : Str)) (b := R) (c := u) (r := ("taps" : Str) :: (T ++ ("rows" : Str) :: (B ++ [e]))) (i := ("reach" : Str) :: R :: u :: ("taps" : Str) :: (T ++ ("rows" : Str) :: B)) (e := e) rfl (by simp [grp]) (.inr (.inl ut))
  · cases hq
    by_cases z : u = ("rows" : Str)
    · subst z
      exact sch_no W (R := R) (A := []) (B := T ++ ("rows" : Str) :: B) (e := e) (by simp [grp]) nW.1 (fun z => nomatch z) g.en (.inr (.inr (.inr (.inl rfl))))
    · exact sch_no W (R := R) (A := u :: T) (B := B) (e := e) rfl nW.1 (fun q => by
        rcases List.mem_cons.mp q with q | q
        · exact z q.symm
        · exact nW.2 q) g.en (.inl ⟨u, List.mem_cons_self, un⟩)
  · cases hq
    by_cases z : u = ("rows" : Str)
    · subst z
      exact sch_no W (R := R) (A := T) (B := ("rows" : Str) :: B) (e := e) (by simp [grp]) nW.1 nW.2 g.en (.inr (.inl ⟨("rows" : Str), List.mem_cons_self, ub⟩))
    · exact sch_no W (R := R) (A := T ++ [u]) (B := B) (e := e) rfl nW.1 (fun q => by
        rcases List.mem_append.mp q with q | q
        · exact nW.2 q
        · exact z (List.mem_singleton.mp q).symm) g.en (.inl ⟨u, by simp, un⟩)
  · cases hq
    exact sch_no W (R := R) (A := T) (B := u :: B) (e := e) rfl nW.1 nW.2 g.en (.inr (.inl ⟨u, List.mem_cons_self, ub⟩))
  · cases hq
    exact sch_no W (R := R) (A := T) (B := B ++ [u]) (e := e) rfl nW.1 nW.2 g.en (.inr (.inl ⟨u, by simp, ub⟩))
theorem join_blank : ∀ (ws : List Str), ws ≠ [] → Txt.join (" " : Str) ws ++ (" " : Str) = Txt.join (" " : Str) (ws ++ [("" : Str)]) := by
  intro ws hn
  rw [txt_join, txt_join]
  induction ws with
  | nil => exact absurd rfl hn
  | cons a r ih =>
    cases r with
    | nil =>
      have e : Str.join (" " : Str) [a] = a := by rw [← txt_join]; rfl
      have e1 : Str.join (" " : Str) [("" : Str)] = ("" : Str) := by rw [← txt_join]; rfl
      show Str.join (" " : Str) [a] ++ (" " : Str) = a ++ (" " : Str) ++ Str.join (" " : Str) [("" : Str)]
      rw [e, e1]
      refine str_ext ?_
      simp only [cps_append, List.append_assoc]
      rfl
    | cons b r =>
      show (a ++ (" " : Str) ++ Str.join (" " : Str) (b :: r)) ++ (" " : Str) = a ++ (" " : Str) ++ Str.join (" " : Str) ((b :: r) ++ [("" : Str)])
      rw [← ih (by simp)]
      refine str_ext ?_
      simp only [cps_append, List.append_assoc]
theorem no_6 (g : Grp R e T B) {Q : List Str} (hq : (grp R e T B)[6]? = some Q) {u : Str} (hu : u ∈ us) : fx_y9 [.str (Txt.join (" " : Str) ((grp R e T B).set 6 (Q ++ [u])).flatten ++ (" " : Str))] = some ("NoText" : Str) := by
  obtain ⟨uo, un, ub, ut⟩ := us_ok u hu
  have ao := app_ok (g.oQ hq) uo
  have W := ws_ok g (j := 6) ao.1 ao.2
  cases hq
  have W' : WsOk (((grp R e T B).set 6 ([e] ++ [u])).flatten ++ [("" : Str)]) := by
    refine ⟨fun w hw => ?_, ?_⟩
    · rcases List.mem_append.mp hw with hw | hw
      · exact W.ok w hw
      · rw [List.mem_singleton.mp hw]
        exact fix_ok _ (by simp)
    · have h1 := g.tl
      have h2 := g.bl
      simp [grp]
      omega
  rw [join_blank _ (by simp [grp])]
  exact form_no W' (a := ("reach" : Str)) (b := R) (c := ("taps" : Str)) (r := T ++ ("rows" : Str) :: (B ++ [e, u, ("" : Str)])) (i := ((grp R e T B).set 6 ([e] ++ [u])).flatten) (e := ("" : Str)) (by simp [grp]) rfl (.inr (.inr (.inr (by unfold ends; decide +kernel))))
theorem sub_ok {Q : List Str} {u : Str} {p : Nat} (h : (∀ w ∈ Q, SOk w) ∧ Q.length ≤ 6) (hu : SOk u) : (∀ w ∈ Q.take p ++ [u] ++ Q.drop (p + 1), SOk w) ∧ (Q.take p ++ [u] ++ Q.drop (p + 1)).length ≤ 7 := by
  refine ⟨fun w hw => ?_, by rw [List.length_append, List.length_append, List.length_singleton, List.length_take, List.length_drop]; omega⟩
  rcases List.mem_append.mp hw with hw | hw
  · rcases List.mem_append.mp hw with hw | hw
    · exact h.1 w (List.mem_of_mem_take hw)
    · rw [List.mem_singleton.mp hw]; exact hu
  · exact h.1 w (List.mem_of_mem_drop hw)
theorem no_2 (g : Grp R e T B) {j p : Nat} (hj : j < 7) {Q O : List Str} (hq : (grp R e T B)[j]? = some Q) (ho : od[j]? = some O) (hp : p < Q.length) {o : Str} (hu : o ∈ O) : fx_y9 [.str (Txt.join (" " : Str) ((grp R e T B).set j (Q.take p ++ [o] ++ Q.drop (p + 1))).flatten)] = some ("NoText" : Str) := by
  have oo := od_ok O (List.mem_of_getElem? ho) o hu
  have ao := sub_ok (p := p) (g.oQ hq) oo
  have W := ws_ok g (j := j) ao.1 ao.2
  have nW := g.ne lead_no.2.2.1
  rcases lt7 j hj with rfl | rfl | rfl | rfl | rfl | rfl | rfl
  · cases hq
    cases ho
    have p0 : p = 0 := by simpa using hp
    subst p0
    exact form_no W (a := o) (b := R) (c := ("taps" : Str)) (r := T ++ ("rows" : Str) :: (B ++ [e])) (i := o :: R :: ("taps" : Str) :: (T ++ ("rows" : Str) :: B)) (e := e) rfl (by simp [grp]) (.inl (od0 o hu))
  · cases hq
    cases ho
    have p0 : p = 0 := by simpa using hp
    subst p0
    exact sch_no W (R := o) (A := T) (B := B) (e := e) rfl (od1 o hu).2 nW.2 g.en (.inr (.inr (.inl (od1 o hu).1)))
  · cases hq
    cases ho
    have p0 : p = 0 := by simpa using hp
    subst p0
    exact form_no W (a := ("reach" : Str)) (b := R) (c := o) (r := T ++ ("rows" : Str) :: (B ++ [e])) (i := ("reach" : Str) :: R :: o :: (T ++ ("rows" : Str) :: B)) (e := e) rfl (by simp [grp]) (.inr (.inl (od2 o hu)))
  · cases hq
    cases ho
    exact sch_no W (R := R) (A := T.take p ++ [o] ++ T.drop (p + 1)) (B := B) (e := e) rfl nW.1 (fun q => by
      rcases List.mem_append.mp q with q | q
      · rcases List.mem_append.mp q with q | q
        · exact nW.2 (List.mem_of_mem_take q)
        · exact (od3 o hu).2 (List.mem_singleton.mp q).symm
      · exact nW.2 (List.mem_of_mem_drop q)) g.en (.inl ⟨o, by simp, (od3 o hu).1⟩)
  · cases hq
    cases ho
    have p0 : p = 0 := by simpa using hp
    subst p0
    exact form_no W (a := ("reach" : Str)) (b := R) (c := ("taps" : Str)) (r := T ++ ([o] ++ (B ++ [e]))) (i := ("reach" : Str) :: R :: ("taps" : Str) :: (T ++ o :: B)) (e := e) rfl (by simp [grp]) (.inr (.inr (.inl (g.nrows (m := [o]) fun z => od4 o hu (List.mem_singleton.mp z).symm))))
  · cases hq
    cases ho
    exact sch_no W (R := R) (A := T) (B := B.take p ++ [o] ++ B.drop (p + 1)) (e := e) rfl nW.1 nW.2 g.en (.inr (.inl ⟨o, by simp, od5 o hu⟩))
  · cases hq
    cases ho
    have p0 : p = 0 := by simpa using hp
    subst p0
    exact form_no W (a := ("reach" : Str)) (b := R) (c := ("taps" : Str)) (r := T ++ ("rows" : Str) :: (B ++ [o])) (i := ("reach" : Str) :: R :: ("taps" : Str) :: (T ++ ("rows" : Str) :: B)) (e := o) rfl (by simp [grp]) (.inr (.inr (.inr (od6 o hu))))
end
noncomputable def gD (l : List Str) : D := .lst (l.map D.str)
theorem qe {Q W : List D} {T : Str} (lq : Q.length ≤ sizeLine) (cm : compRun 1 [] none (gSet 0) (mRet true) (mOp1 dStr (mVar 0)) Q [some (.tup Q)] = some (W, [some (.tup Q)])) (hj : dJoin (.str "") (.lst W) = some (.str T)) : mOp2 dJoin (mRet (.str "")) (mOf (mComp 1 [] none (mSeq (mVar 0)) (gSet 0) (mRet true) (mOp1 dStr (mVar 0)))) [some (.tup Q)] = some (.str T, [some (.tup Q)]) := by
  generalize dJoin = J at hj ⊢
  generalize dStr = J2 at cm ⊢
  walk_at "ev"
theorem pc_end {r : Int} {e R : Str} {TP RW W V : List D} (lt : TP.length ≤ sizeLine) (lr : RW.length ≤ sizeLine) (l1 : 1 ≤ sizeLine) (l7 : 7 ≤ sizeLine) (hs : dStr (.int r) = some (.str R)) (c1 : ∀ ρ, compRun 1 [] none (gSet 0) (mRet true) (mOp1 dStr (mVar 0)) TP ρ = some (W, ρ))
    (c2 : ∀ ρ, compRun 1 [] none (gSet 0) (mRet true) (mOp2 dJoin (mRet (.str "")) (mOf (mComp 1 [] none (mSeq (mVar 0)) (gSet 0) (mRet true) (mOp1 dStr (mVar 0))))) RW ρ = some (V, ρ)) : f_y5 [.tup [.int r, .tup TP, .tup RW, .str e]] = some (.lst [.lst [.str "reach"], .lst [.str R], .lst [.str "taps"], .lst W, .lst [.str "rows"], .lst V, .lst [.str e]]) := by
  unfold f_y5 b_y5
  generalize (mOp2 dJoin (mRet (.str "")) (mOf (mComp 1 [] none (mSeq (mVar 0)) (gSet 0) (mRet true) (mOp1 dStr (mVar 0))))) = F2 at c2 ⊢
  generalize dStr = J at hs c1 ⊢
  walk_at "ev"
theorem v_pieces {r : Int} {taps : List Int} {rows : List (List Int)} {e : Str} (ok : SchOk r taps rows e) : f_y5 [schD r taps rows e] = some (.lst ((grp (tx r) e (taps.map tx) (rows.map rowT)).map gD)) := by
  have r0 := ok.r0
  have r4 := ok.r4
  have t4 := ok.t4
  have m6 := ok.m6
  have p16 : (2 : Int) ^ r.toNat ≤ 16 := by
    rcases (by omega : r = 0 ∨ r = 1 ∨ r = 2 ∨ r = 3 ∨ r = 4) with rfl | rfl | rfl | rfl | rfl <;> decide
  have tn : ∀ t ∈ taps, N60 t := fun t ht => by
    have := ok.tb t ht
    unfold N60
    omega
  have rn : N60 r := by unfold N60; omega
  have c1 := strs_cm taps tn
  have c2 := fun ρ => cm_of (n := 1) (fe := mOp2 dJoin (mRet (.str "")) (mOf (mComp 1 [] none (mSeq (mVar 0)) (gSet 0) (mRet true) (mOp1 dStr (mVar 0))))) (fun d => match d with | .tup ds => .str (rowT (ds.map fun x => match x with | .int b => b | _ => 0)) | d => d) (rows.map rowD) (fun d hd => by
    obtain ⟨row, hrow, rfl⟩ := List.mem_map.mp hd
    have q := ok.rw row hrow
    have bn : ∀ b ∈ row, N60 b := fun b hb => by
      have := q.2 b hb
      unfold N60
      omega
    have back : (row.map D.int).map (fun x => match x with | .int b => b | _ => (0 : Int)) = row := by
      rw [List.map_map]
      exact List.map_id row
    refine (qe (Q := row.map D.int) (T := rowT row) (by rw [List.length_map]; exact line_of (by omega)) (strs_cm row bn _) (join_is (by decide) (by rw [List.length_map]; omega) fun x hx => ?_)).trans ?_
    · obtain ⟨b, hb, rfl⟩ := List.mem_map.mp hx
      rw [bit_len (q.2 b hb)]
      decide
    · show _ = some (D.str (rowT ((row.map D.int).map (fun x => match x with | .int b => b | _ => (0 : Int)))), _)
      rw [back]
      rfl) ρ
  have m : (rows.map rowD).map (fun d => match d with | .tup ds => .str (rowT (ds.map fun x => match x with | .int b => b | _ => 0)) | d => d) = (rows.map rowT).map D.str := by
    rw [List.map_map, List.map_map]
    refine List.map_congr_left fun row _ => ?_
    show D.str (rowT ((row.map D.int).map (fun x => match x with | .int b => b | _ => (0 : Int)))) = _
    have back : (row.map D.int).map (fun x => match x with | .int b => b | _ => (0 : Int)) = row := by
      rw [List.map_map]
      exact List.map_id row
    rw [back]
    rfl
  rw [m] at c2
  exact pc_end (by rw [List.length_map]; exact line_of (by omega)) (by rw [List.length_map]; exact line_of (by omega)) (by decide) (by decide) rn.str c1 c2
section
variable {s s1 k w p m : Int} {d : D} {x o : Str} {P Q U V W O : List D} {v0 v1 v2 v3 v4 v5 v6 v7 v9 : Option D}
theorem s0 (hp : f_y5 [d] = some (.lst P)) : (sOwn 2 (mCallL f_y5 (mCons (mVar 1) mNil))) [some (.lst [.int s]), some d, none, none, none, none, none, none, none, none] = some (.nx [some (.lst [.int s]), some d, some (.lst P), none, none, none, none, none, none, none]) := by
  walk_at "ev"
theorem s1' (n1 : f_y6 [.int s] [.int 7] = some (.int k, [.int s1])) : (sSet 3 (mCallS f_y6 0 (mCons (mRet (.int 7)) mNil))) [some (.lst [.int s]), some d, some (.lst P), none, none, none, none, none, none, none] = some (.nx [some (.lst [.int s1]), some d, some (.lst P), some (.int k), none, none, none, none, none, none]) := by
  walk_at "ev"
theorem s2' (n1 : f_y6 [.int s] [.int 4] = some (.int w, [.int s1])) : (sSet 4 (mCallS f_y6 0 (mCons (mRet (.int 4)) mNil))) [some (.lst [.int s]), some d, some (.lst P), some (.int k), none, none, none, none, none, none] = some (.nx [some (.lst [.int s1]), some d, some (.lst P), some (.int k), some (.int w), none, none, none, none, none]) := by
  walk_at "ev"
theorem s3z {F0 F1 : Rho → Option Out} : sIf (mTest (mOp2 dEq (mVar 4) (mRet (.int 0)))) F0 F1 [v0, v1, v2, v3, some (.int 0), v5, v6, v7, v9, v9] = F0 [v0, v1, v2, v3, some (.int 0), v5, v6, v7, v9, v9] := by
  walk_at "ev"
theorem s3o {F0 F1 F2 : Rho → Option Out} : sIf (mTest (mOp2 dEq (mVar 4) (mRet (.int 0)))) F0 (sIf (mTest (mOp2 dEq (mVar 4) (mRet (.int 1)))) F1 F2) [v0, v1, v2, v3, some (.int 1), v5, v6, v7, v9, v9] = F1 [v0, v1, v2, v3, some (.int 1), v5, v6, v7, v9, v9] := by
  walk_at "ev"
theorem s3a' (z0 : 0 ≤ sizeLine) (k0 : 0 ≤ k) (kl : k < (P.length : Int)) : (sSetI 2 (mOf (mLst mNil)) (mVar 3)) [some (.lst [.int s]), some d, some (.lst P), some (.int k), some (.int 0), none, none, none, none, none] = some (.nx [some (.lst [.int s]), some d, some (.lst (P.set k.toNat (.lst []))), some (.int k), some (.int 0), none, none, none, none, none]) := by
  walk_at "ev"
theorem s3a (z0 : 0 ≤ sizeLine) (k0 : 0 ≤ k) (kl : k < (P.length : Int)) : (sIf (mTest (mOp2 dEq (mVar 4) (mRet (.int 0))))
    (sSetI 2 (mOf (mLst mNil)) (mVar 3))
    (sIf (mTest (mOp2 dEq (mVar 4) (mRet (.int 1))))
    (sSetI 2 (mOp2 dAdd (mIxO 2 (mVar 3)) (mSl (mSl (mOf (mLst (mCons (mRet (.str "")) (mCons (mRet (.str "x")) (mCons (mRet (.str "Open")) (mCons (mRet (.str "rows")) (mCons (mRet (.str "1/1")) mNil))))))) (mPart (mCallS f_y6 0 (mCons (mRet (.int 5)) mNil))) (mRet none)) (mRet none) (mPart (mRet (.int 1))))) (mVar 3))
    (sSeq (sOwn 5 (mLst (mCons (mOf (mLst (mCons (mRet (.str "Reach")) (mCons (mRet (.str "taps")) (mCons (mRet (.str "")) (mCons (mRet (.str "reac")) mNil)))))) (mCons (mOf (mLst (mCons (mRet (.str "07")) (mCons (mRet (.str "-1")) (mCons (mRet (.str "100")) (mCons (mRet (.str "")) (mCons (mRet (.str "x")) (mCons (mRet (.str "1.0")) mNil)))))))) (mCons (mOf (mLst (mCons (mRet (.str "tap")) (mCons (mRet (.str "Taps")) (mCons (mRet (.str "reach")) mNil))))) mNil)))))
  (sSeq (sExt 5 (mLst (mCons (mOf (mLst (mCons (mRet (.str "00")) (mCons (mRet (.str "-7")) (mCons (mRet (.str "123")) (mCons (mRet (.str "x")) (mCons (mRet (.str "+1")) mNil))))))) (mCons (mOf (mLst (mCons (mRet (.str "row")) (mCons (mRet (.str "Rows")) (mCons (mRet (.str "taps")) mNil))))) (mCons (mOf (mLst (mCons (mRet (.str "12")) (mCons (mRet (.str "-")) (mCons (mRet (.str "")) (mCons (mRet (.str "1x")) (mCons (mRet (.str "0/1")) mNil))))))) mNil)))))
  (sSeq (sMut dAppend 5 (mCons (mOf (mLst (mCons (mRet (.str "Open")) (mCons (mRet (.str "end")) (mCons (mRet (.str "rings")) (mCons (mRet (.str "")) (mCons (mRet (.str "close")) mNil))))))) mNil))
  (sSeq (sSet 6 (mOp2 dIx (mVar 5) (mVar 3)))
  (sSeq (sSet 7 (mCallS f_y6 0 (mCons (mOp1 dLen (mIxO 2 (mVar 3))) mNil)))
  (sSetI 2 (mOp2 dAdd (mOp2 dAdd (mSl (mIxO 2 (mVar 3)) (mRet none) (mPart (mVar 7))) (mOf (mLst (mCons (mOp2 dIx (mVar 6) (mCallS f_y6 0 (mCons (mOp1 dLen (mVar 6)) mNil))) mNil)))) (mSl (mIxO 2 (mVar 3)) (mPart (mOp2 dAdd (mVar 7) (mRet (.int 1)))) (mRet none))) (mVar 3))))))))) [some (.lst [.int s]), some d, some (.lst P), some (.int k), some (.int 0), none, none, none, none, none] = some (.nx [some (.lst [.int s]), some d, some (.lst (P.set k.toNat (.lst []))), some (.int k), some (.int 0), none, none, none, none, none]) := s3z.trans (s3a' z0 k0 kl)
theorem s3b' (five : 5 ≤ sizeLine) (k0 : 0 ≤ k) (kl : k < (P.length : Int)) (hat : atI P k = some (.lst Q)) (n1 : f_y6 [.int s] [.int 5] = some (.int m, [.int s1])) (h1 : dSl (.lst [.str "", .str "x", .str "Open", .str "rows", .str "1/1"]) (some m) none = some (.lst U)) (lq : Q.length + min 1 U.length ≤ sizeLine) : (sSetI 2 (mOp2 dAdd (mIxO 2 (mVar 3)) (mSl (mSl (mOf (mLst (mCons (mRet (.str "")) (mCons (mRet (.str "x")) (mCons (mRet (.str "Open")) (mCons (mRet (.str "rows")) (mCons (mRet (.str "1/1")) mNil))))))) (mPart (mCallS f_y6 0 (mCons (mRet (.int 5)) mNil))) (mRet none)) (mRet none) (mPart (mRet (.int 1))))) (mVar 3)) [some (.lst [.int s]), some d, some (.lst P), some (.int k), some (.int 1), none, none, none, none, none] = some (.nx [some (.lst [.int s1]), some d, some (.lst (P.set k.toNat (.lst (Q ++ U.take 1)))), some (.int k), some (.int 1), none, none, none, none, none]) := by
  walk_at "ev"
theorem s3b (five : 5 ≤ sizeLine) (k0 : 0 ≤ k) (kl : k < (P.length : Int)) (hat : atI P k = some (.lst Q)) (n1 : f_y6 [.int s] [.int 5] = some (.int m, [.int s1])) (h1 : dSl (.lst [.str "", .str "x", .str "Open", .str "rows", .str "1/1"]) (some m) none = some (.lst U)) (lq : Q.length + min 1 U.length ≤ sizeLine) : (sIf (mTest (mOp2 dEq (mVar 4) (mRet (.int 0))))
    (sSetI 2 (mOf (mLst mNil)) (mVar 3))
    (sIf (mTest (mOp2 dEq (mVar 4) (mRet (.int 1))))
    (sSetI 2 (mOp2 dAdd (mIxO 2 (mVar 3)) (mSl (mSl (mOf (mLst (mCons (mRet (.str "")) (mCons (mRet (.str "x")) (mCons (mRet (.str "Open")) (mCons (mRet (.str "rows")) (mCons (mRet (.str "1/1")) mNil))))))) (mPart (mCallS f_y6 0 (mCons (mRet (.int 5)) mNil))) (mRet none)) (mRet none) (mPart (mRet (.int 1))))) (mVar 3))
    (sSeq (sOwn 5 (mLst (mCons (mOf (mLst (mCons (mRet (.str "Reach")) (mCons (mRet (.str "taps")) (mCons (mRet (.str "")) (mCons (mRet (.str "reac")) mNil)))))) (mCons (mOf (mLst (mCons (mRet (.str "07")) (mCons (mRet (.str "-1")) (mCons (mRet (.str "100")) (mCons (mRet (.str "")) (mCons (mRet (.str "x")) (mCons (mRet (.str "1.0")) mNil)))))))) (mCons (mOf (mLst (mCons (mRet (.str "tap")) (mCons (mRet (.str "Taps")) (mCons (mRet (.str "reach")) mNil))))) mNil)))))
  (sSeq (sExt 5 (mLst (mCons (mOf (mLst (mCons (mRet (.str "00")) (mCons (mRet (.str "-7")) (mCons (mRet (.str "123")) (mCons (mRet (.str "x")) (mCons (mRet (.str "+1")) mNil))))))) (mCons (mOf (mLst (mCons (mRet (.str "row")) (mCons (mRet (.str "Rows")) (mCons (mRet (.str "taps")) mNil))))) (mCons (mOf (mLst (mCons (mRet (.str "12")) (mCons (mRet (.str "-")) (mCons (mRet (.str "")) (mCons (mRet (.str "1x")) (mCons (mRet (.str "0/1")) mNil))))))) mNil)))))
  (sSeq (sMut dAppend 5 (mCons (mOf (mLst (mCons (mRet (.str "Open")) (mCons (mRet (.str "end")) (mCons (mRet (.str "rings")) (mCons (mRet (.str "")) (mCons (mRet (.str "close")) mNil))))))) mNil))
  (sSeq (sSet 6 (mOp2 dIx (mVar 5) (mVar 3)))
  (sSeq (sSet 7 (mCallS f_y6 0 (mCons (mOp1 dLen (mIxO 2 (mVar 3))) mNil)))
  (sSetI 2 (mOp2 dAdd (mOp2 dAdd (mSl (mIxO 2 (mVar 3)) (mRet none) (mPart (mVar 7))) (mOf (mLst (mCons (mOp2 dIx (mVar 6) (mCallS f_y6 0 (mCons (mOp1 dLen (mVar 6)) mNil))) mNil)))) (mSl (mIxO 2 (mVar 3)) (mPart (mOp2 dAdd (mVar 7) (mRet (.int 1)))) (mRet none))) (mVar 3))))))))) [some (.lst [.int s]), some d, some (.lst P), some (.int k), some (.int 1), none, none, none, none, none] = some (.nx [some (.lst [.int s1]), some d, some (.lst (P.set k.toNat (.lst (Q ++ U.take 1)))), some (.int k), some (.int 1), none, none, none, none, none]) := s3o.trans (s3b' five k0 kl hat n1 h1 lq)
theorem s3e {F0 F1 F2 : Rho → Option Out} (w0 : ¬ w = 0) (w1 : ¬ w = 1) : sIf (mTest (mOp2 dEq (mVar 4) (mRet (.int 0)))) F0 (sIf (mTest (mOp2 dEq (mVar 4) (mRet (.int 1)))) F1 F2) [v0, v1, v2, v3, some (.int w), v5, v6, v7, v9, v9] = F2 [v0, v1, v2, v3, some (.int w), v5, v6, v7, v9, v9] := by
  walk_at "ev"
theorem c0 (l3 : 3 ≤ sizeLine) (l4 : 4 ≤ sizeLine) (l6 : 6 ≤ sizeLine) : (sOwn 5 (mLst (mCons (mOf (mLst (mCons (mRet (.str "Reach")) (mCons (mRet (.str "taps")) (mCons (mRet (.str "")) (mCons (mRet (.str "reac")) mNil)))))) (mCons (mOf (mLst (mCons (mRet (.str "07")) (mCons (mRet (.str "-1")) (mCons (mRet (.str "100")) (mCons (mRet (.str "")) (mCons (mRet (.str "x")) (mCons (mRet (.str "1.0")) mNil)))))))) (mCons (mOf (mLst (mCons (mRet (.str "tap")) (mCons (mRet (.str "Taps")) (mCons (mRet (.str "reach")) mNil))))) mNil))))) [some (.lst [.int s]), some d, some (.lst P), some (.int k), some (.int w), none, none, none, none, none] = some (.nx [some (.lst [.int s]), some d, some (.lst P), some (.int k), some (.int w), some (.lst ((od.take 3).map gD)), none, none, none, none]) := by
  show _ = some (Out.nx [some (.lst [.int s]), some d, some (.lst P), some (.int k), some (.int w), some (.lst [.lst [.str "Reach", .str "taps", .str "", .str "reac"], .lst [.str "07", .str "-1", .str "100", .str "", .str "x", .str "1.0"], .lst [.str "tap", .str "Taps", .str "reach"]]), none, none, none, none])
  walk_at "ev"
theorem c1 {X : List D} (l3 : 3 ≤ sizeLine) (l5 : 5 ≤ sizeLine) (lx : X.length + 3 ≤ sizeLine) : (sExt 5 (mLst (mCons (mOf (mLst (mCons (mRet (.str "00")) (mCons (mRet (.str "-7")) (mCons (mRet (.str "123")) (mCons (mRet (.str "x")) (mCons (mRet (.str "+1")) mNil))))))) (mCons (mOf (mLst (mCons (mRet (.str "row")) (mCons (mRet (.str "Rows")) (mCons (mRet (.str "taps")) mNil))))) (mCons (mOf (mLst (mCons (mRet (.str "12")) (mCons (mRet (.str "-")) (mCons (mRet (.str "")) (mCons (mRet (.str "1x")) (mCons (mRet (.str "0/1")) mNil))))))) mNil))))) [some (.lst [.int s]), some d, some (.lst P), some (.int k), some (.int w), some (.lst X), none, none, none, none] = some (.nx [some (.lst [.int s]), some d, some (.lst P), some (.int k), some (.int w), some (.lst (X ++ [.lst [.str "00", .str "-7", .str "123", .str "x", .str "+1"], .lst [.str "row", .str "Rows", .str "taps"], .lst [.str "12", .str "-", .str "", .str "1x", .str "0/1"]])), none, none, none, none]) := by
  walk_at "ev"
theorem c2 {X : List D} (l5 : 5 ≤ sizeLine) (lx : X.length < sizeLine) : (sMut dAppend 5 (mCons (mOf (mLst (mCons (mRet (.str "Open")) (mCons (mRet (.str "end")) (mCons (mRet (.str "rings")) (mCons (mRet (.str "")) (mCons (mRet (.str "close")) mNil))))))) mNil)) [some (.lst [.int s]), some d, some (.lst P), some (.int k), some (.int w), some (.lst X), none, none, none, none] = some (.nx [some (.lst [.int s]), some d, some (.lst P), some (.int k), some (.int w), some (.lst (X ++ [.lst [.str "Open", .str "end", .str "rings", .str "", .str "close"]])), none, none, none, none]) := by
  walk_at "ev"
theorem c3 {X : List D} (h : atI X k = some (.lst O)) : (sSet 6 (mOp2 dIx (mVar 5) (mVar 3))) [some (.lst [.int s]), some d, some (.lst P), some (.int k), some (.int w), some (.lst X), none, none, none, none] = some (.nx [some (.lst [.int s]), some d, some (.lst P), some (.int k), some (.int w), some (.lst X), some (.lst O), none, none, none]) := by
  walk_at "ev"
theorem c4 (lq : Q.length ≤ sizeLine) (hat : atI P k = some (.lst Q)) (n1 : f_y6 [.int s] [.int (Q.length : Int)] = some (.int p, [.int s1])) : (sSet 7 (mCallS f_y6 0 (mCons (mOp1 dLen (mIxO 2 (mVar 3))) mNil))) [some (.lst [.int s]), some d, some (.lst P), some (.int k), some (.int w), v5, some (.lst O), none, none, none] = some (.nx [some (.lst [.int s1]), some d, some (.lst P), some (.int k), some (.int w), v5, some (.lst O), some (.int p), none, none]) := by
  walk_at "ev"
theorem c5 (l1 : 1 ≤ sizeLine) (k0 : 0 ≤ k) (kl : k < (P.length : Int)) (hat : atI P k = some (.lst Q)) (lo : O.length ≤ sizeLine) (n1 : f_y6 [.int s] [.int (O.length : Int)] = some (.int m, [.int s1])) (ho : atI O m = some (.str o)) (h1 : dSl (.lst Q) none (some p) = some (.lst U)) (h2 : dSl (.lst Q) (some (p + 1)) none = some (.lst V)) (lu : U.length + 1 ≤ sizeLine) (lv : U.length + 1 + V.length ≤ sizeLine) : (sSetI 2 (mOp2 dAdd (mOp2 dAdd (mSl (mIxO 2 (mVar 3)) (mRet none) (mPart (mVar 7))) (mOf (mLst (mCons (mOp2 dIx (mVar 6) (mCallS f_y6 0 (mCons (mOp1 dLen (mVar 6)) mNil))) mNil)))) (mSl (mIxO 2 (mVar 3)) (mPart (mOp2 dAdd (mVar 7) (mRet (.int 1)))) (mRet none))) (mVar 3)) [some (.lst [.int s]), some d, some (.lst P), some (.int k), some (.int w), v5, some (.lst O), some (.int p), none, none] = some (.nx [some (.lst [.int s1]), some d, some (.lst (P.set k.toNat (.lst (U ++ .str o :: V)))), some (.int k), some (.int w), v5, some (.lst O), some (.int p), none, none]) := by
  walk_at "ev"
theorem s4 (z0 : 0 ≤ sizeLine) : (sOwn 8 (mLst mNil)) [v0, v1, v2, v3, v4, v5, v6, v7, none, none] = some (.nx [v0, v1, v2, v3, v4, v5, v6, v7, some (.lst []), none]) := by
  walk_at "ev"
theorem s5 (lp : P.length ≤ sizeLine) (h : forRun (gSet 9) (sExtK 8 (mVar 9)) P [v0, v1, some (.lst P), v3, v4, v5, v6, v7, some (.lst []), none] = some (.nx [v0, v1, some (.lst P), v3, v4, v5, v6, v7, some (.lst W), v9])) : (sFor (mSeq (mVar 2)) (gSet 9)
    (sExtK 8 (mVar 9))) [v0, v1, some (.lst P), v3, v4, v5, v6, v7, some (.lst []), none] = some (.nx [v0, v1, some (.lst P), v3, v4, v5, v6, v7, some (.lst W), v9]) := by
  generalize sExtK = J at h ⊢
  walk_at "ev"
theorem s6y (hj : dJoin (.str " ") (.lst W) = some (.str x)) (lx : x.length + (" " : Str).length ≤ sizeLine) : (sIf (mAnd (mTest (mOp2 dEq (mVar 4) (mRet (.int 1)))) (mTest (mOp2 dEq (mVar 3) (mRet (.int 6)))))
    (sRet (mOp2 dAdd (mOp2 dJoin (mRet (.str " ")) (mVar 8)) (mRet (.str " "))))
    sNil) [v0, v1, v2, some (.int 6), some (.int 1), v5, v6, v7, some (.lst W), v9] = some (.rt (.str (x ++ " ")) [v0, v1, v2, some (.int 6), some (.int 1), v5, v6, v7, some (.lst W), v9]) := by
  generalize dJoin = J at hj ⊢
  walk_at "ev"
theorem s6n (h : ¬ (w = 1 ∧ k = 6)) : (sIf (mAnd (mTest (mOp2 dEq (mVar 4) (mRet (.int 1)))) (mTest (mOp2 dEq (mVar 3) (mRet (.int 6)))))
    (sRet (mOp2 dAdd (mOp2 dJoin (mRet (.str " ")) (mVar 8)) (mRet (.str " "))))
    sNil) [v0, v1, v2, some (.int k), some (.int w), v5, v6, v7, some (.lst W), v9] = some (.nx [v0, v1, v2, some (.int k), some (.int w), v5, v6, v7, some (.lst W), v9]) := by
  by_cases q : w = 1
  · have q2 : ¬ k = 6 := fun z => h ⟨q, z⟩
    subst q
    clear h
    walk_at "ev"
  · clear h
    walk_at "ev"
theorem s7 (hj : dJoin (.str " ") (.lst W) = some (.str x)) : (sRet (mOp2 dJoin (mRet (.str " ")) (mVar 8))) [v0, v1, v2, v3, v4, v5, v6, v7, some (.lst W), v9] = some (.rt (.str x) [v0, v1, v2, v3, v4, v5, v6, v7, some (.lst W), v9]) := by
  generalize dJoin = J at hj ⊢
  walk_at "ev"
theorem ext_step {X Y : List D} (h : X.length + Y.length ≤ sizeLine) : sExtK 8 (mVar 9) [v0, v1, v2, v3, v4, v5, v6, v7, some (.lst X), some (.lst Y)] = some (.nx [v0, v1, v2, v3, v4, v5, v6, v7, some (.lst (X ++ Y)), some (.lst Y)]) := by
  unfold sExtK
  rw [if_pos (show isL [v0, v1, v2, v3, v4, v5, v6, v7, some (.lst X), some (.lst Y)] 8 = true from rfl)]
  show (if X.length + Y.length ≤ sizeLine then _ else none) = _
  rw [if_pos h]
  rfl
end
theorem cat_run {v0 v1 v2 v3 v4 v5 v6 v7 : Option D} : ∀ (G : List (List Str)) (A : List Str) (v9 : Option D), A.length + G.flatten.length ≤ sizeLine → ∃ w9, forRun (gSet 9) (sExtK 8 (mVar 9)) (G.map gD) [v0, v1, v2, v3, v4, v5, v6, v7, some (.lst (A.map D.str)), v9] = some (.nx [v0, v1, v2, v3, v4, v5, v6, v7, some (.lst ((A ++ G.flatten).map D.str)), w9])
  | [], A, v9, _ => ⟨v9, by rw [List.flatten_nil, List.append_nil]; rfl⟩
  | l :: G, A, v9, h => by
    rw [List.flatten_cons, List.length_append] at h
    obtain ⟨w9, e⟩ := cat_run (v0 := v0) (v1 := v1) (v2 := v2) (v3 := v3) (v4 := v4) (v5 := v5) (v6 := v6) (v7 := v7) G (A ++ l) (some (gD l)) (by rw [List.length_append]; omega)
    refine ⟨w9, ?_⟩
    rw [List.map_cons, forRun]
    have g : gSet 9 (gD l) [v0, v1, v2, v3, v4, v5, v6, v7, some (.lst (A.map D.str)), v9] = some [v0, v1, v2, v3, v4, v5, v6, v7, some (.lst (A.map D.str)), some (gD l)] := rfl
    rw [g]
    dsimp only
    have b := ext_step (v0 := v0) (v1 := v1) (v2 := v2) (v3 := v3) (v4 := v4) (v5 := v5) (v6 := v6) (v7 := v7) (X := A.map D.str) (Y := l.map D.str) (by rw [List.length_map, List.length_map]; omega)
    rw [← List.map_append] at b
    have b' : sExtK 8 (mVar 9) [v0, v1, v2, v3, v4, v5, v6, v7, some (.lst (A.map D.str)), some (gD l)] = some (.nx [v0, v1, v2, v3, v4, v5, v6, v7, some (.lst ((A ++ l).map D.str)), some (gD l)]) := b
    rw [b']
    dsimp only
    rw [e, List.flatten_cons, List.append_assoc]
theorem grp_of {r : Int} {taps : List Int} {rows : List (List Int)} {e : Str} (ok : SchOk r taps rows e) : Grp (tx r) e (taps.map tx) (rows.map rowT) := by
  have r0 := ok.r0
  have r4 := ok.r4
  have t1 := ok.t1
  have t4 := ok.t4
  have m1 := ok.m1
  have m6 := ok.m6
  have p16 : (2 : Int) ^ r.toNat ≤ 16 := by
    rcases (by omega : r = 0 ∨ r = 1 ∨ r = 2 ∨ r = 3 ∨ r = 4) with rfl | rfl | rfl | rfl | rfl <;> decide
  have sm : ∀ {n : Int}, 0 ≤ n → n < 100 → small (tx n) := fun h0 h1 => figs_tx h0 (by show _ < 100; omega) (by decide)
  have so : ∀ {n : Int}, 0 ≤ n → n < 100 → SOk (tx n) := fun {n} h0 h1 => by
    refine ⟨fun c hc => ?_, fun hc => ?_, Nat.le_trans (tx_pos_len (k := 2) h0 (by show _ < 100; omega) (by decide)) (by decide)⟩ <;> have := tx_sign hc <;> omega
  have tb : ∀ t ∈ taps, 0 ≤ t ∧ t < 100 := fun t ht => by have := ok.tb t ht; omega
  refine ⟨sm r0 (by omega), fun x hx => ?_, fun x hx => ?_, fun z => ?_, fun z => ?_, ?_, so r0 (by omega), fun x hx => ?_, fun x hx => ?_, by rw [List.length_map]; omega, by rw [List.length_map]; omega⟩
  · obtain ⟨t, ht, rfl⟩ := List.mem_map.mp hx
    exact sm (tb t ht).1 (tb t ht).2
  · obtain ⟨row, hrow, rfl⟩ := List.mem_map.mp hx
    have q := ok.rw row hrow
    refine ⟨fun z => ?_, fun c hc => rowT_sign q.2 hc⟩
    have l := rowT_len q.2
    rw [len_toList, z] at l
    have l' : 0 = row.length := l
    omega
  · rw [List.map_eq_nil_iff] at z
    rw [z] at t1
    cases t1
  · rw [List.map_eq_nil_iff] at z
    rw [z] at m1
    cases m1
  · unfold ends
    rcases ok.en with rfl | rfl | rfl <;> simp
  · obtain ⟨t, ht, rfl⟩ := List.mem_map.mp hx
    exact so (tb t ht).1 (tb t ht).2
  · obtain ⟨row, hrow, rfl⟩ := List.mem_map.mp hx
    have q := ok.rw row hrow
    refine ⟨fun c hc => ?_, fun hc => ?_, by rw [rowT_len q.2]; omega⟩ <;> have := rowT_sign q.2 hc <;> omega
theorem at_grp {G : List (List Str)} {k : Int} (k0 : 0 ≤ k) (kl : k < (G.length : Int)) : ∃ Q, G[k.toNat]? = some Q ∧ atI (G.map gD) k = some (.lst (Q.map D.str)) := by
  have kn : k.toNat < G.length := by omega
  have ek : ((k.toNat : Nat) : Int) = k := by omega
  refine ⟨G[k.toNat], List.getElem?_eq_getElem kn, ?_⟩
  have := atI_nat (xs := G.map gD) (j := k.toNat) (v := gD G[k.toNat]) (by rw [List.getElem?_map, List.getElem?_eq_getElem kn]; rfl)
  rw [ek] at this
  exact this
theorem WsOk.join {ws : List Str} (h : WsOk ws) : dJoin (.str " ") (.lst (ws.map D.str)) = some (.str (Txt.join " " ws)) := join_is (by decide) (by have := h.ln; omega) fun w hw => by
  have := (h.ok w hw).2.2
  omega
theorem tail_run {s k w : Int} {d : D} {G : List (List Str)} {v5 v6 v7 : Option D} (lg : G.length ≤ 100) (hw : WsOk G.flatten) (hn : ¬ (w = 1 ∧ k = 6)) : ∃ ρ, (sSeq (sOwn 8 (mLst mNil)) (sSeq (sFor (mSeq (mVar 2)) (gSet 9)
    (sExtK 8 (mVar 9))) (sSeq (sIf (mAnd (mTest (mOp2 dEq (mVar 4) (mRet (.int 1)))) (mTest (mOp2 dEq (mVar 3) (mRet (.int 6)))))
    (sRet (mOp2 dAdd (mOp2 dJoin (mRet (.str " ")) (mVar 8)) (mRet (.str " "))))
    sNil) (sRet (mOp2 dJoin (mRet (.str " ")) (mVar 8)))))) [some (.lst [.int s]), some d, some (.lst (G.map gD)), some (.int k), some (.int w), v5, v6, v7, none, none] = some (.rt (.str (Txt.join " " G.flatten)) (some (.lst [.int s]) :: ρ)) := by
  obtain ⟨w9, e⟩ := cat_run (v0 := some (.lst [.int s])) (v1 := some d) (v2 := some (.lst (G.map gD))) (v3 := some (.int k)) (v4 := some (.int w)) (v5 := v5) (v6 := v6) (v7 := v7) G [] none (by rw [List.length_nil, Nat.zero_add]; exact line_of (by have := hw.ln; omega))
  rw [List.nil_append] at e
  exact ⟨_, (seq_nx (s4 (by decide))).trans <| (seq_nx (s5 (by rw [List.length_map]; exact line_of (by omega)) e)).trans <| (seq_nx (s6n hn)).trans (s7 hw.join)⟩
theorem tail_six {s : Int} {d : D} {G : List (List Str)} {v5 v6 v7 : Option D} (lg : G.length ≤ 100) (hw : WsOk G.flatten) : ∃ ρ, (sSeq (sOwn 8 (mLst mNil)) (sSeq (sFor (mSeq (mVar 2)) (gSet 9)
    (sExtK 8 (mVar 9))) (sSeq (sIf (mAnd (mTest (mOp2 dEq (mVar 4) (mRet (.int 1)))) (mTest (mOp2 dEq (mVar 3) (mRet (.int 6)))))
    (sRet (mOp2 dAdd (mOp2 dJoin (mRet (.str " ")) (mVar 8)) (mRet (.str " "))))
    sNil) (sRet (mOp2 dJoin (mRet (.str " ")) (mVar 8)))))) [some (.lst [.int s]), some d, some (.lst (G.map gD)), some (.int 6), some (.int 1), v5, v6, v7, none, none] = some (.rt (.str (Txt.join " " G.flatten ++ " ")) (some (.lst [.int s]) :: ρ)) := by
  obtain ⟨w9, e⟩ := cat_run (v0 := some (.lst [.int s])) (v1 := some d) (v2 := some (.lst (G.map gD))) (v3 := some (.int 6)) (v4 := some (.int 1)) (v5 := v5) (v6 := v6) (v7 := v7) G [] none (by rw [List.length_nil, Nat.zero_add]; exact line_of (by have := hw.ln; omega))
  rw [List.nil_append] at e
  have lj : (Txt.join " " G.flatten).length + (" " : Str).length ≤ sizeLine := by
    have l1 : (" " : Str).length = 1 := by decide +kernel
    have l2 : (Txt.join " " G.flatten).length ≤ G.flatten.length * 21 := by rw [e32]; exact join_len 32 _ 20 fun w hw' => (hw.ok w hw').2.2
    have := hw.ln
    exact line_of (by omega)
  exact ⟨_, (seq_nx (s4 (by decide))).trans <| (seq_nx (s5 (by rw [List.length_map]; exact line_of (by omega)) e)).trans (seq_rt (s6y hw.join lj))⟩
theorem us_at {m : Int} (m0 : 0 ≤ m) (m5 : m < 5) : ∃ u ∈ us, ∃ U, dSl (.lst [.str "", .str "x", .str "Open", .str "rows", .str "1/1"]) (some m) none = some (.lst U) ∧ U.take 1 = [.str u] ∧ 1 ≤ U.length := by
  rw [dSl_lfrom m0]
  unfold us
  rcases (by omega : m = 0 ∨ m = 1 ∨ m = 2 ∨ m = 3 ∨ m = 4) with rfl | rfl | rfl | rfl | rfl
  · exact ⟨"", by simp, _, rfl, rfl, by decide⟩
  · exact ⟨"x", by simp, _, rfl, rfl, by decide⟩
  · exact ⟨"Open", by simp, _, rfl, rfl, by decide⟩
  · exact ⟨"rows", by simp, _, rfl, rfl, by decide⟩
  · exact ⟨"1/1", by simp, _, rfl, rfl, by decide⟩
theorem v_bad_scheme {r : Int} {taps : List Int} {rows : List (List Int)} {e : Str} (s : Int) (ok : SchOk r taps rows e) : ∃ x s', f_y0 [.int s] [schD r taps rows e] = some (.str x, [.int s']) ∧ fx_y9 [.str x] = some ("NoText" : Str) := by
  have g := grp_of ok
  have S0 := s0 (s := s) (v_pieces ok)
  generalize schD r taps rows e = d at S0
  generalize tx r = R at g S0
  generalize taps.map tx = T at g S0
  generalize rows.map rowT = B at g S0
  have k0 := dr_lo s (m := 7) (by decide)
  have k7 := dr_hi s (m := 7) (by decide)
  have n1 := v_next s 7 (by decide)
  have w0 := dr_lo (nx s) (m := 4) (by decide)
  have w4 := dr_hi (nx s) (m := 4) (by decide)
  have n2 := v_next (nx s) 4 (by decide)
  generalize dr s 7 = k at k0 k7 n1
  generalize dr (nx s) 4 = w at w0 w4 n2
  have gl : (grp R e T B).length = 7 := rfl
  have kl : k < (((grp R e T B).map gD).length : Int) := by rw [List.length_map, gl]; exact k7
  obtain ⟨Q, hq, hat⟩ := at_grp (G := grp R e T B) k0 (by rw [gl]; exact k7)
  have oq := g.oQ hq
  have S1 := s1' (d := d) (P := (grp R e T B).map gD) n1
  have S2 := s2' (d := d) (P := (grp R e T B).map gD) (k := k) n2
  have k7' : k.toNat < 7 := by omega
  have ms : ∀ X : List Str, ((grp R e T B).map gD).set k.toNat (.lst (X.map D.str)) = ((grp R e T B).set k.toNat X).map gD := fun X => by rw [List.map_set]; rfl
  have sl : ∀ X : List Str, ((grp R e T B).set k.toNat X).length ≤ 100 := fun X => by rw [List.length_set, gl]; decide
  unfold f_y0 b_y0
  by_cases z0 : w = 0
  · subst z0
    have S3 := s3a (s := nx (nx s)) (d := d) (by decide) k0 kl
    rw [show (D.lst []) = D.lst (([] : List Str).map D.str) from rfl, ms] at S3
    obtain ⟨ρ, t⟩ := tail_run (s := nx (nx s)) (k := k) (w := 0) (d := d) (v5 := none) (v6 := none) (v7 := none) (sl []) (ws_ok g (fun _ h => nomatch h) (Nat.zero_le _)) (fun z => absurd z.1 (by decide))
    exact ⟨_, _, run_ofS rfl ⟨_, (seq_nx S0).trans <| (seq_nx S1).trans <| (seq_nx S2).trans <| (seq_nx S3).trans t⟩, no_0 g k7'⟩
  · by_cases z1 : w = 1
    · subst z1
      obtain ⟨u, hu, U, hs, ht, hl⟩ := us_at (dr_lo (nx (nx s)) (m := 5) (by decide)) (dr_hi (nx (nx s)) (m := 5) (by decide))
      have uo := (us_ok u hu).1
      have ao := app_ok oq uo
      have S3 := s3b (s := nx (nx s)) (d := d) (by decide) k0 kl hat (v_next (nx (nx s)) 5 (by decide)) hs (by rw [List.length_map]; exact line_of (by omega))
      rw [ht, show Q.map D.str ++ [D.str u] = (Q ++ [u]).map D.str by rw [List.map_append]; rfl, ms] at S3
      have W := ws_ok g (j := k.toNat) ao.1 ao.2
      by_cases z6 : k = 6
      · subst z6
        obtain ⟨ρ, t⟩ := tail_six (s := nx (nx (nx s))) (d := d) (v5 := none) (v6 := none) (v7 := none) (sl (Q ++ [u])) W
        exact ⟨_, _, run_ofS rfl ⟨_, (seq_nx S0).trans <| (seq_nx S1).trans <| (seq_nx S2).trans <| (seq_nx S3).trans t⟩, no_6 g hq hu⟩
      · obtain ⟨ρ, t⟩ := tail_run (s := nx (nx (nx s))) (k := k) (w := 1) (d := d) (v5 := none) (v6 := none) (v7 := none) (sl (Q ++ [u])) W (fun z => z6 z.2)
        exact ⟨_, _, run_ofS rfl ⟨_, (seq_nx S0).trans <| (seq_nx S1).trans <| (seq_nx S2).trans <| (seq_nx S3).trans t⟩, no_1 g (by omega) hq hu⟩
    · have qn : 0 < Q.length := by
        have m := List.mem_of_getElem? hq
        unfold grp at m
        simp only [List.mem_cons, List.not_mem_nil, or_false] at m
        rcases m with rfl | rfl | rfl | rfl | rfl | rfl | rfl
        · exact Nat.zero_lt_one
        · exact Nat.zero_lt_one
        · exact Nat.zero_lt_one
        · exact List.length_pos_iff.mpr g.tn
        · exact Nat.zero_lt_one
        · exact List.length_pos_iff.mpr g.bn
        · exact Nat.zero_lt_one
      have ol : od.length = 7 := rfl
      obtain ⟨O, hO, hoat⟩ := at_grp (G := od) k0 (by rw [ol]; exact k7)
      have on : 0 < O.length ∧ O.length ≤ 10 := by
        have m := List.mem_of_getElem? hO
        revert O
        unfold od
        intro O _ _ m
        simp only [List.mem_cons, List.not_mem_nil, or_false] at m
        rcases m with rfl | rfl | rfl | rfl | rfl | rfl | rfl <;> decide
      have p0 := dr_lo (nx (nx s)) (m := (Q.length : Int)) (by omega)
      have p1 := dr_hi (nx (nx s)) (m := (Q.length : Int)) (by omega)
      have n3 := v_next (nx (nx s)) (Q.length : Int) (by omega)
      generalize dr (nx (nx s)) (Q.length : Int) = p at p0 p1 n3
      obtain ⟨o, ho, eo⟩ := pick_str (ws := O) (dr_lo (nx (nx (nx s))) (m := (O.length : Int)) (by omega)) (dr_hi (nx (nx (nx s))) (m := (O.length : Int)) (by omega))
      have n4 := v_next (nx (nx (nx s))) (O.length : Int) (by omega)
      have oo := od_ok O (List.mem_of_getElem? hO) o ho
      have ao := sub_ok (p := p.toNat) oq oo
      have W := ws_ok g (j := k.toNat) ao.1 ao.2
      have C0 := c0 (s := nx (nx s)) (d := d) (P := (grp R e T B).map gD) (k := k) (w := w) (by decide) (by decide) (by decide)
      have C1 := c1 (s := nx (nx s)) (d := d) (P := (grp R e T B).map gD) (k := k) (w := w) (X := (od.take 3).map gD) (by decide) (by decide) (by decide)
      have C2 := c2 (s := nx (nx s)) (d := d) (P := (grp R e T B).map gD) (k := k) (w := w) (X := (od.take 3).map gD ++ [.lst [.str "00", .str "-7", .str "123", .str "x", .str "+1"], .lst [.str "row", .str "Rows", .str "taps"], .lst [.str "12", .str "-", .str "", .str "1x", .str "0/1"]]) (by decide) (by decide)
      have eod : ((od.take 3).map gD ++ [.lst [.str "00", .str "-7", .str "123", .str "x", .str "+1"], .lst [.str "row", .str "Rows", .str "taps"], .lst [.str "12", .str "-", .str "", .str "1x", .str "0/1"]]) ++ [.lst [.str "Open", .str "end", .str "rings", .str "", .str "close"]] = od.map gD := rfl
      rw [eod] at C2
      have C3 := c3 (s := nx (nx s)) (d := d) (P := (grp R e T B).map gD) (w := w) hoat
      have C4 := c4 (d := d) (w := w) (v5 := some (.lst (od.map gD))) (O := O.map D.str) (by rw [List.length_map]; exact line_of (by omega)) hat (by rw [List.length_map]; exact n3)
      have C5 := c5 (d := d) (w := w) (p := p) (v5 := some (.lst (od.map gD))) (O := O.map D.str) (U := (Q.take p.toNat).map D.str) (V := (Q.drop (p.toNat + 1)).map D.str) (by decide) k0 kl hat (by rw [List.length_map]; exact line_of (by omega)) (by rw [List.length_map]; exact n4) eo (by rw [dSl_lto p0, List.map_take]) (by rw [dSl_lfrom (by omega), List.map_drop, show (p + 1).toNat = p.toNat + 1 by omega]) (by rw [List.length_map, List.length_take]; exact line_of (by omega)) (by rw [List.length_map, List.length_map, List.length_take, List.length_drop]; exact line_of (by omega))
      rw [show (Q.take p.toNat).map D.str ++ D.str o :: (Q.drop (p.toNat + 1)).map D.str = (Q.take p.toNat ++ [o] ++ Q.drop (p.toNat + 1)).map D.str by simp, ms] at C5
      have S3 := (s3e (v0 := some (.lst [.int (nx (nx s))])) (v1 := some d) (v2 := some (.lst ((grp R e T B).map gD))) (v3 := some (.int k)) (v5 := none) (v6 := none) (v7 := none) (v9 := none) (F0 := (sSetI 2 (mOf (mLst mNil)) (mVar 3))) (F1 := (sSetI 2 (mOp2 dAdd (mIxO 2 (mVar 3)) (mSl (mSl (mOf (mLst (mCons (mRet (.str "")) (mCons (mRet (.str "x")) (mCons (mRet (.str "Open")) (mCons (mRet (.str "rows")) (mCons (mRet (.str "1/1")) mNil))))))) (mPart (mCallS f_y6 0 (mCons (mRet (.int 5)) mNil))) (mRet none)) (mRet none) (mPart (mRet (.int 1))))) (mVar 3))) (F2 := (sSeq (sOwn 5 (mLst (mCons (mOf (mLst (mCons (mRet (.str "Reach")) (mCons (mRet (.str "taps")) (mCons (mRet (.str "")) (mCons (mRet (.str "reac")) mNil)))))) (mCons (mOf (mLst (mCons (mRet (.str "07")) (mCons (mRet (.str "-1")) (mCons (mRet (.str "100")) (mCons (mRet (.str "")) (mCons (mRet (.str "x")) (mCons (mRet (.str "1.0")) mNil)))))))) (mCons (mOf (mLst (mCons (mRet (.str "tap")) (mCons (mRet (.str "Taps")) (mCons (mRet (.str "reach")) mNil))))) mNil)))))
  (sSeq (sExt 5 (mLst (mCons (mOf (mLst (mCons (mRet (.str "00")) (mCons (mRet (.str "-7")) (mCons (mRet (.str "123")) (mCons (mRet (.str "x")) (mCons (mRet (.str "+1")) mNil))))))) (mCons (mOf (mLst (mCons (mRet (.str "row")) (mCons (mRet (.str "Rows")) (mCons (mRet (.str "taps")) mNil))))) (mCons (mOf (mLst (mCons (mRet (.str "12")) (mCons (mRet (.str "-")) (mCons (mRet (.str "")) (mCons (mRet (.str "1x")) (mCons (mRet (.str "0/1")) mNil))))))) mNil)))))
  (sSeq (sMut dAppend 5 (mCons (mOf (mLst (mCons (mRet (.str "Open")) (mCons (mRet (.str "end")) (mCons (mRet (.str "rings")) (mCons (mRet (.str "")) (mCons (mRet (.str "close")) mNil))))))) mNil))
  (sSeq (sSet 6 (mOp2 dIx (mVar 5) (mVar 3)))
  (sSeq (sSet 7 (mCallS f_y6 0 (mCons (mOp1 dLen (mIxO 2 (mVar 3))) mNil)))
  (sSetI 2 (mOp2 dAdd (mOp2 dAdd (mSl (mIxO 2 (mVar 3)) (mRet none) (mPart (mVar 7))) (mOf (mLst (mCons (mOp2 dIx (mVar 6) (mCallS f_y6 0 (mCons (mOp1 dLen (mVar 6)) mNil))) mNil)))) (mSl (mIxO 2 (mVar 3)) (mPart (mOp2 dAdd (mVar 7) (mRet (.int 1)))) (mRet none))) (mVar 3)))))))) z0 z1).trans <| (seq_nx C0).trans <| (seq_nx C1).trans <| (seq_nx C2).trans <| (seq_nx C3).trans <| (seq_nx C4).trans C5
      obtain ⟨ρ, t⟩ := tail_run (s := nx (nx (nx (nx s)))) (k := k) (w := w) (d := d) (v5 := some (.lst (od.map gD))) (v6 := some (.lst (O.map D.str))) (v7 := some (.int p)) (sl _) W (fun z => z1 z.1)
      exact ⟨_, _, run_ofS rfl ⟨_, (seq_nx S0).trans <| (seq_nx S1).trans <| (seq_nx S2).trans <| (seq_nx S3).trans t⟩, no_2 g k7' hq hO (by omega) ho⟩
theorem h6 : eqD (.lst [.bl true, .bl false, .bl true, .bl false]) (.lst [.bl true, .bl false, .bl true, .bl false]) = some true := eqD_self (DOks.lst (DOks.all (n := 0) fun d hd => by
  simp only [List.mem_cons, List.not_mem_nil, or_false] at hd
  rcases hd with rfl | rfl | rfl | rfl <;> exact .bl _ _)) (by decide)
theorem ref_end (rd : Str) (d : D) (hx : xOr2 (xCallV 0 "read_scheme" fx_y9 (mCons (mVar 1) mNil)) (xOr2 (xCallV 0 "read_heard" fx_y11 (mCons (mVar 1) mNil)) (xCallV 0 "read_places" fx_y10 (mCons (mVar 1) mNil))) [some (.fn rd), some d, some (.lst [.bl true, .bl false]), some (.lst []), none, none] = some (("NoText" : Str), [some (.fn rd), some d, some (.lst [.bl true, .bl false]), some (.lst []), none, none])) : f_y3 [.fn rd, d, .lst [.bl true, .bl false]] = some (.bl true) := by
  have h1 : ("NoText" : Str) ∈ tk_WayError := by decide +kernel
  have h2 : eb_y21.lookup ("NoText" : Str) = some false := by decide +kernel
  have h3 : eb_NoText.lookup ("NoText" : Str) = some true := by decide +kernel
  have h4 : eb_NoScheme.lookup ("NoText" : Str) = some false := by decide +kernel
  have h5 : eb_ValueError.lookup ("NoText" : Str) = some true := by decide +kernel
  have h6 := h6
  have l0 : 0 ≤ sizeLine := by decide
  have l2 : 2 ≤ sizeLine := by decide
  have l4 : 4 ≤ sizeLine := by decide
  unfold f_y3 b_y3
  generalize tk_WayError = A1 at h1 ⊢
  generalize eb_y21 = A2 at h2 ⊢
  generalize eb_NoText = A3 at h3 ⊢
  generalize eb_NoScheme = A4 at h4 ⊢
  generalize eb_ValueError = A5 at h5 ⊢
  generalize xOr2 (xCallV 0 "read_scheme" fx_y9 (mCons (mVar 1) mNil)) (xOr2 (xCallV 0 "read_heard" fx_y11 (mCons (mVar 1) mNil)) (xCallV 0 "read_places" fx_y10 (mCons (mVar 1) mNil))) = F at hx ⊢
  generalize (mOr2 (mCallV 0 "read_scheme" f_y9 (mCons (mVar 1) mNil)) (mOr2 (mCallV 0 "read_heard" f_y11 (mCons (mVar 1) mNil)) (mCallV 0 "read_places" f_y10 (mCons (mVar 1) mNil)))) = F'
  walk_at "ev"
theorem v_refS (d : D) (hx : fx_y9 [d] = some ("NoText" : Str)) : f_y3 [.fn "read_scheme", d, .lst [.bl true, .bl false]] = some (.bl true) := by
  refine ref_end _ d ?_
  walk_at "ev"
theorem v_refH (d : D) (hx : fx_y11 [d] = some ("NoText" : Str)) : f_y3 [.fn "read_heard", d, .lst [.bl true, .bl false]] = some (.bl true) := by
  refine ref_end _ d ?_
  have ne : (("read_heard" : Str) == ("read_scheme" : Str)) = false := by decide +kernel
  have ne2 : ¬ (("read_heard" : Str) = ("read_scheme" : Str)) := by decide +kernel
  walk_at "ev"
theorem v_refP (d : D) (hx : fx_y10 [d] = some ("NoText" : Str)) : f_y3 [.fn "read_places", d, .lst [.bl true, .bl false]] = some (.bl true) := by
  refine ref_end _ d ?_
  have ne : (("read_places" : Str) == ("read_scheme" : Str)) = false := by decide +kernel
  have ne2 : ¬ (("read_places" : Str) = ("read_scheme" : Str)) := by decide +kernel
  have ne3 : (("read_places" : Str) == ("read_heard" : Str)) = false := by decide +kernel
  have ne4 : ¬ (("read_places" : Str) = ("read_heard" : Str)) := by decide +kernel
  walk_at "ev"
theorem ctx_odd (d : D) (l1 : 1 ≤ sizeLine) (h : dIsi (isTab "str") d = some (.bl false)) : fx_y18 [d] = some ("NoText" : Str) := by
  unfold fx_y18 x_y18
  generalize dIsi (isTab "str") = J at h ⊢
  walk_at "ev"
theorem rsx_odd (d : D) (h : fx_y18 [d] = some ("NoText" : Str)) : fx_y9 [d] = some ("NoText" : Str) := by
  unfold fx_y9 x_y9
  walk_at "ev"
theorem rhx_odd (d : D) (h : fx_y18 [d] = some ("NoText" : Str)) : fx_y11 [d] = some ("NoText" : Str) := by
  unfold fx_y11 x_y11
  walk_at "ev"
theorem rpx_odd (d : D) (h : fx_y18 [d] = some ("NoText" : Str)) : fx_y10 [d] = some ("NoText" : Str) := by
  unfold fx_y10 x_y10
  walk_at "ev"
section
variable {N A : List D} {q s s1 s2 c k : Int} {x rd : Str} {d S : D} {v2 v3 v4 : Option D}
theorem lb0 (one : 1 ≤ sizeLine) : (sOwn 3 (mLst (mCons (mOp2 dMod (mOp2 dAdd (mOp2 dIx (mVar 1) (mRet (.int 0))) (mOp2 dMod (mVar 2) (mOp2 dPow (mRet (.int 10)) (mRet (.int 30))))) (mOp2 dSub (mOp2 dPow (mRet (.int 2)) (mRet (.int 61))) (mRet (.int 1)))) mNil))) [some (.lst N), some (.lst [.int q]), some (.int c), v3, v4] = some (.nx [some (.lst N), some (.lst [.int q]), some (.int c), some (.lst [.int ((q + c % 1000000000000000000000000000000) % 2305843009213693951)]), v4]) := by
  walk_at "ev"
theorem lb1 (two : 2 ≤ sizeLine) (h1 : f_y4 [.int s] [] = some (S, [.int s1])) (h2 : f_y0 [.int s1] [S] = some (.str x, [.int s2])) (hr : f_y3 [.fn "read_scheme", .str x, .lst [.bl true, .bl false]] = some (.bl true)) : (sIf (mNot (mTest (mCall f_y3 (mCons (mRet (.fn "read_scheme")) (mCons (mCallS f_y0 3 (mCons (mCallS f_y4 3 mNil) mNil)) (mCons (mOf (mLst (mCons (mRet (.bl true)) (mCons (mRet (.bl false)) mNil)))) mNil))))))
    (sRet (mRet (.bl false)))
    sNil) [some (.lst N), some (.lst [.int q]), some (.int c), some (.lst [.int s]), v4] = some (.nx [some (.lst N), some (.lst [.int q]), some (.int c), some (.lst [.int s2]), v4]) := by
  walk_at "ev"
theorem lb2 (two : 2 ≤ sizeLine) (h2 : f_y2 [.int s] [] = some (.str x, [.int s2])) (hr : f_y3 [.fn "read_heard", .str x, .lst [.bl true, .bl false]] = some (.bl true)) : (sIf (mNot (mTest (mCall f_y3 (mCons (mRet (.fn "read_heard")) (mCons (mCallS f_y2 3 mNil) (mCons (mOf (mLst (mCons (mRet (.bl true)) (mCons (mRet (.bl false)) mNil)))) mNil))))))
    (sRet (mRet (.bl false)))
    sNil) [some (.lst N), some (.lst [.int q]), some (.int c), some (.lst [.int s]), v4] = some (.nx [some (.lst N), some (.lst [.int q]), some (.int c), some (.lst [.int s2]), v4]) := by
  walk_at "ev"
theorem lb3 (two : 2 ≤ sizeLine) (h2 : f_y1 [.int s] [] = some (.str x, [.int s2])) (hr : f_y3 [.fn "read_places", .str x, .lst [.bl true, .bl false]] = some (.bl true)) : (sIf (mNot (mTest (mCall f_y3 (mCons (mRet (.fn "read_places")) (mCons (mCallS f_y1 3 mNil) (mCons (mOf (mLst (mCons (mRet (.bl true)) (mCons (mRet (.bl false)) mNil)))) mNil))))))
    (sRet (mRet (.bl false)))
    sNil) [some (.lst N), some (.lst [.int q]), some (.int c), some (.lst [.int s]), v4] = some (.nx [some (.lst N), some (.lst [.int q]), some (.int c), some (.lst [.int s2]), v4]) := by
  walk_at "ev"
theorem lb4 (six : 6 ≤ sizeLine) (one : 1 ≤ sizeLine) (n1 : f_y6 [.int s] [.int 6] = some (.int k, [.int s1])) (h : atI [D.non, .int 3, .bl false, .lst [.str "0"], .tup [], .dct []] k = some d) : (sSet 4 (mOp2 dIx (mOf (mLst (mCons (mRet .non) (mCons (mRet (.int 3)) (mCons (mRet (.bl false)) (mCons (mOf (mLst (mCons (mRet (.str "0")) mNil))) (mCons (mTup mNil) (mCons (mRet (.dct [])) mNil)))))))) (mCallS f_y6 3 (mCons (mRet (.int 6)) mNil)))) [some (.lst N), some (.lst [.int q]), some (.int c), some (.lst [.int s]), v4] = some (.nx [some (.lst N), some (.lst [.int q]), some (.int c), some (.lst [.int s1]), some d]) := by
  walk_at "ev"
theorem lb5 (two : 2 ≤ sizeLine) (three : 3 ≤ sizeLine) (n1 : f_y6 [.int s] [.int 3] = some (.int k, [.int s1])) (h : atI [D.fn "read_scheme", D.fn "read_heard", D.fn "read_places"] k = some (.fn rd)) (hr : f_y3 [.fn rd, d, .lst [.bl true, .bl false]] = some (.bl true)) : (sIf (mNot (mTest (mCall f_y3 (mCons (mOp2 dIx (mOf (mLst (mCons (mRet (.fn "read_scheme")) (mCons (mRet (.fn "read_heard")) (mCons (mRet (.fn "read_places")) mNil))))) (mCallS f_y6 3 (mCons (mRet (.int 3)) mNil))) (mCons (mVar 4) (mCons (mOf (mLst (mCons (mRet (.bl true)) (mCons (mRet (.bl false)) mNil)))) mNil))))))
    (sRet (mRet (.bl false)))
    sNil) [some (.lst N), some (.lst [.int q]), some (.int c), some (.lst [.int s]), some d] = some (.nx [some (.lst N), some (.lst [.int q]), some (.int c), some (.lst [.int s1]), some d]) := by
  walk_at "ev"
theorem l0 (one : 1 ≤ sizeLine) (h : f_y7 [.lst N] = some (.int q)) : (sSet 1 (mOf (mLst (mCons (mCall f_y7 (mCons (mVar 0) mNil)) mNil)))) [some (.lst N), none, none, none, none] = some (.nx [some (.lst N), some (.lst [.int q]), none, none, none]) := by
  walk_at "ev"
theorem l1 (F : List D) (one : 1 ≤ sizeLine) (lf : F.length ≤ sizeLine) (ln : min 30 N.length + 1 ≤ sizeLine) (hF : List.take 30 N ++ [.int 0] = F) (h : forRun (gSet 2) (sSeq (sOwn 3 (mLst (mCons (mOp2 dMod (mOp2 dAdd (mOp2 dIx (mVar 1) (mRet (.int 0))) (mOp2 dMod (mVar 2) (mOp2 dPow (mRet (.int 10)) (mRet (.int 30))))) (mOp2 dSub (mOp2 dPow (mRet (.int 2)) (mRet (.int 61))) (mRet (.int 1)))) mNil)))
  (sSeq (sIf (mNot (mTest (mCall f_y3 (mCons (mRet (.fn "read_scheme")) (mCons (mCallS f_y0 3 (mCons (mCallS f_y4 3 mNil) mNil)) (mCons (mOf (mLst (mCons (mRet (.bl true)) (mCons (mRet (.bl false)) mNil)))) mNil))))))
    (sRet (mRet (.bl false)))
    sNil)
  (sSeq (sIf (mNot (mTest (mCall f_y3 (mCons (mRet (.fn "read_heard")) (mCons (mCallS f_y2 3 mNil) (mCons (mOf (mLst (mCons (mRet (.bl true)) (mCons (mRet (.bl false)) mNil)))) mNil))))))
    (sRet (mRet (.bl false)))
    sNil)
  (sSeq (sIf (mNot (mTest (mCall f_y3 (mCons (mRet (.fn "read_places")) (mCons (mCallS f_y1 3 mNil) (mCons (mOf (mLst (mCons (mRet (.bl true)) (mCons (mRet (.bl false)) mNil)))) mNil))))))
    (sRet (mRet (.bl false)))
    sNil)
  (sSeq (sSet 4 (mOp2 dIx (mOf (mLst (mCons (mRet .non) (mCons (mRet (.int 3)) (mCons (mRet (.bl false)) (mCons (mOf (mLst (mCons (mRet (.str "0")) mNil))) (mCons (mTup mNil) (mCons (mRet (.dct [])) mNil)))))))) (mCallS f_y6 3 (mCons (mRet (.int 6)) mNil))))
  (sIf (mNot (mTest (mCall f_y3 (mCons (mOp2 dIx (mOf (mLst (mCons (mRet (.fn "read_scheme")) (mCons (mRet (.fn "read_heard")) (mCons (mRet (.fn "read_places")) mNil))))) (mCallS f_y6 3 (mCons (mRet (.int 3)) mNil))) (mCons (mVar 4) (mCons (mOf (mLst (mCons (mRet (.bl true)) (mCons (mRet (.bl false)) mNil)))) mNil))))))
    (sRet (mRet (.bl false)))
    sNil)))))) F [some (.lst N), some (.lst [.int q]), none, none, none] = some (.nx [some (.lst N), some (.lst [.int q]), v2, v3, v4])) : (sFor (mSeq (mOp2 dAdd (mSl (mVar 0) (mRet none) (mPart (mRet (.int 30)))) (mOf (mLst (mCons (mRet (.int 0)) mNil))))) (gSet 2)
    (sSeq (sOwn 3 (mLst (mCons (mOp2 dMod (mOp2 dAdd (mOp2 dIx (mVar 1) (mRet (.int 0))) (mOp2 dMod (mVar 2) (mOp2 dPow (mRet (.int 10)) (mRet (.int 30))))) (mOp2 dSub (mOp2 dPow (mRet (.int 2)) (mRet (.int 61))) (mRet (.int 1)))) mNil)))
  (sSeq (sIf (mNot (mTest (mCall f_y3 (mCons (mRet (.fn "read_scheme")) (mCons (mCallS f_y0 3 (mCons (mCallS f_y4 3 mNil) mNil)) (mCons (mOf (mLst (mCons (mRet (.bl true)) (mCons (mRet (.bl false)) mNil)))) mNil))))))
    (sRet (mRet (.bl false)))
    sNil)
  (sSeq (sIf (mNot (mTest (mCall f_y3 (mCons (mRet (.fn "read_heard")) (mCons (mCallS f_y2 3 mNil) (mCons (mOf (mLst (mCons (mRet (.bl true)) (mCons (mRet (.bl false)) mNil)))) mNil))))))
    (sRet (mRet (.bl false)))
    sNil)
  (sSeq (sIf (mNot (mTest (mCall f_y3 (mCons (mRet (.fn "read_places")) (mCons (mCallS f_y1 3 mNil) (mCons (mOf (mLst (mCons (mRet (.bl true)) (mCons (mRet (.bl false)) mNil)))) mNil))))))
    (sRet (mRet (.bl false)))
    sNil)
  (sSeq (sSet 4 (mOp2 dIx (mOf (mLst (mCons (mRet .non) (mCons (mRet (.int 3)) (mCons (mRet (.bl false)) (mCons (mOf (mLst (mCons (mRet (.str "0")) mNil))) (mCons (mTup mNil) (mCons (mRet (.dct [])) mNil)))))))) (mCallS f_y6 3 (mCons (mRet (.int 6)) mNil))))
  (sIf (mNot (mTest (mCall f_y3 (mCons (mOp2 dIx (mOf (mLst (mCons (mRet (.fn "read_scheme")) (mCons (mRet (.fn "read_heard")) (mCons (mRet (.fn "read_places")) mNil))))) (mCallS f_y6 3 (mCons (mRet (.int 3)) mNil))) (mCons (mVar 4) (mCons (mOf (mLst (mCons (mRet (.bl true)) (mCons (mRet (.bl false)) mNil)))) mNil))))))
    (sRet (mRet (.bl false)))
    sNil))))))) [some (.lst N), some (.lst [.int q]), none, none, none] = some (.nx [some (.lst N), some (.lst [.int q]), v2, v3, v4]) := by
  subst hF
  generalize (sSeq (sOwn 3 (mLst (mCons (mOp2 dMod (mOp2 dAdd (mOp2 dIx (mVar 1) (mRet (.int 0))) (mOp2 dMod (mVar 2) (mOp2 dPow (mRet (.int 10)) (mRet (.int 30))))) (mOp2 dSub (mOp2 dPow (mRet (.int 2)) (mRet (.int 61))) (mRet (.int 1)))) mNil)))
  (sSeq (sIf (mNot (mTest (mCall f_y3 (mCons (mRet (.fn "read_scheme")) (mCons (mCallS f_y0 3 (mCons (mCallS f_y4 3 mNil) mNil)) (mCons (mOf (mLst (mCons (mRet (.bl true)) (mCons (mRet (.bl false)) mNil)))) mNil))))))
    (sRet (mRet (.bl false)))
    sNil)
  (sSeq (sIf (mNot (mTest (mCall f_y3 (mCons (mRet (.fn "read_heard")) (mCons (mCallS f_y2 3 mNil) (mCons (mOf (mLst (mCons (mRet (.bl true)) (mCons (mRet (.bl false)) mNil)))) mNil))))))
    (sRet (mRet (.bl false)))
    sNil)
  (sSeq (sIf (mNot (mTest (mCall f_y3 (mCons (mRet (.fn "read_places")) (mCons (mCallS f_y1 3 mNil) (mCons (mOf (mLst (mCons (mRet (.bl true)) (mCons (mRet (.bl false)) mNil)))) mNil))))))
    (sRet (mRet (.bl false)))
    sNil)
  (sSeq (sSet 4 (mOp2 dIx (mOf (mLst (mCons (mRet .non) (mCons (mRet (.int 3)) (mCons (mRet (.bl false)) (mCons (mOf (mLst (mCons (mRet (.str "0")) mNil))) (mCons (mTup mNil) (mCons (mRet (.dct [])) mNil)))))))) (mCallS f_y6 3 (mCons (mRet (.int 6)) mNil))))
  (sIf (mNot (mTest (mCall f_y3 (mCons (mOp2 dIx (mOf (mLst (mCons (mRet (.fn "read_scheme")) (mCons (mRet (.fn "read_heard")) (mCons (mRet (.fn "read_places")) mNil))))) (mCallS f_y6 3 (mCons (mRet (.int 3)) mNil))) (mCons (mVar 4) (mCons (mOf (mLst (mCons (mRet (.bl true)) (mCons (mRet (.bl false)) mNil)))) mNil))))))
    (sRet (mRet (.bl false)))
    sNil)))))) = BB at h ⊢
  walk_at "ev"
theorem l2 {ρ : Rho} : (sRet (mRet (.bl true))) ρ = some (.rt (.bl true) ρ) := by
  walk_at "ev"
end
theorem body_ok (N : List D) (q c : Int) (v3 v4 : Option D) : ∃ w3 w4, (sSeq (sOwn 3 (mLst (mCons (mOp2 dMod (mOp2 dAdd (mOp2 dIx (mVar 1) (mRet (.int 0))) (mOp2 dMod (mVar 2) (mOp2 dPow (mRet (.int 10)) (mRet (.int 30))))) (mOp2 dSub (mOp2 dPow (mRet (.int 2)) (mRet (.int 61))) (mRet (.int 1)))) mNil)))
  (sSeq (sIf (mNot (mTest (mCall f_y3 (mCons (mRet (.fn "read_scheme")) (mCons (mCallS f_y0 3 (mCons (mCallS f_y4 3 mNil) mNil)) (mCons (mOf (mLst (mCons (mRet (.bl true)) (mCons (mRet (.bl false)) mNil)))) mNil))))))
    (sRet (mRet (.bl false)))
    sNil)
  (sSeq (sIf (mNot (mTest (mCall f_y3 (mCons (mRet (.fn "read_heard")) (mCons (mCallS f_y2 3 mNil) (mCons (mOf (mLst (mCons (mRet (.bl true)) (mCons (mRet (.bl false)) mNil)))) mNil))))))
    (sRet (mRet (.bl false)))
    sNil)
  (sSeq (sIf (mNot (mTest (mCall f_y3 (mCons (mRet (.fn "read_places")) (mCons (mCallS f_y1 3 mNil) (mCons (mOf (mLst (mCons (mRet (.bl true)) (mCons (mRet (.bl false)) mNil)))) mNil))))))
    (sRet (mRet (.bl false)))
    sNil)
  (sSeq (sSet 4 (mOp2 dIx (mOf (mLst (mCons (mRet .non) (mCons (mRet (.int 3)) (mCons (mRet (.bl false)) (mCons (mOf (mLst (mCons (mRet (.str "0")) mNil))) (mCons (mTup mNil) (mCons (mRet (.dct [])) mNil)))))))) (mCallS f_y6 3 (mCons (mRet (.int 6)) mNil))))
  (sIf (mNot (mTest (mCall f_y3 (mCons (mOp2 dIx (mOf (mLst (mCons (mRet (.fn "read_scheme")) (mCons (mRet (.fn "read_heard")) (mCons (mRet (.fn "read_places")) mNil))))) (mCallS f_y6 3 (mCons (mRet (.int 3)) mNil))) (mCons (mVar 4) (mCons (mOf (mLst (mCons (mRet (.bl true)) (mCons (mRet (.bl false)) mNil)))) mNil))))))
    (sRet (mRet (.bl false)))
    sNil)))))) [some (.lst N), some (.lst [.int q]), some (.int c), v3, v4] = some (.nx [some (.lst N), some (.lst [.int q]), some (.int c), w3, w4]) := by
  obtain ⟨r, taps, rows, e, s1, f1, ok⟩ := v_lawscheme ((q + c % 1000000000000000000000000000000) % 2305843009213693951)
  obtain ⟨x1, s2, f2, r2⟩ := v_bad_scheme s1 ok
  obtain ⟨x2, s3, f3, r3⟩ := v_bad_heard s2
  obtain ⟨x3, s4, f4, r4⟩ := v_bad_places s3
  obtain ⟨d, ed, hd⟩ := at_mem (xs := [D.non, .int 3, .bl false, .lst [.str "0"], .tup [], .dct []]) (dr_lo s4 (m := 6) (by decide)) (dr_hi s4 (m := 6) (by decide))
  have hs : dIsi (isTab "str") d = some (.bl false) := by
    simp only [List.mem_cons, List.not_mem_nil, or_false] at hd
    rcases hd with rfl | rfl | rfl | rfl | rfl | rfl <;> walk_at "ev"
  have hx := ctx_odd d (by decide) hs
  obtain ⟨rd, er, hr⟩ : ∃ rd, atI [D.fn "read_scheme", D.fn "read_heard", D.fn "read_places"] (dr (nx s4) 3) = some (.fn rd) ∧ f_y3 [.fn rd, d, .lst [.bl true, .bl false]] = some (.bl true) := by
    have c0 := dr_lo (nx s4) (m := 3) (by decide)
    have c1 := dr_hi (nx s4) (m := 3) (by decide)
    rcases (by omega : dr (nx s4) 3 = 0 ∨ dr (nx s4) 3 = 1 ∨ dr (nx s4) 3 = 2) with z | z | z
    · rw [z]; exact ⟨_, at0 _ _, v_refS d (rsx_odd d hx)⟩
    · rw [z]; exact ⟨_, at1 _ _ _, v_refH d (rhx_odd d hx)⟩
    · rw [z]; exact ⟨_, at2 _ _ _ _, v_refP d (rpx_odd d hx)⟩
  exact ⟨_, _, (seq_nx (lb0 (by decide))).trans <| (seq_nx (lb1 (by decide) f1 f2 (v_refS _ r2))).trans <| (seq_nx (lb2 (by decide) f3 (v_refH _ r3))).trans <| (seq_nx (lb3 (by decide) f4 (v_refP _ r4))).trans <| (seq_nx (lb4 (by decide) (by decide) (v_next s4 6 (by decide)) ed)).trans (lb5 (by decide) (by decide) (v_next (nx s4) 3 (by decide)) er hr)⟩
theorem l_run (N : List D) (q : Int) : ∀ (cs : List Int) (v2 v3 v4 : Option D), ∃ w2 w3 w4, forRun (gSet 2) (sSeq (sOwn 3 (mLst (mCons (mOp2 dMod (mOp2 dAdd (mOp2 dIx (mVar 1) (mRet (.int 0))) (mOp2 dMod (mVar 2) (mOp2 dPow (mRet (.int 10)) (mRet (.int 30))))) (mOp2 dSub (mOp2 dPow (mRet (.int 2)) (mRet (.int 61))) (mRet (.int 1)))) mNil)))
  (sSeq (sIf (mNot (mTest (mCall f_y3 (mCons (mRet (.fn "read_scheme")) (mCons (mCallS f_y0 3 (mCons (mCallS f_y4 3 mNil) mNil)) (mCons (mOf (mLst (mCons (mRet (.bl true)) (mCons (mRet (.bl false)) mNil)))) mNil))))))
    (sRet (mRet (.bl false)))
    sNil)
  (sSeq (sIf (mNot (mTest (mCall f_y3 (mCons (mRet (.fn "read_heard")) (mCons (mCallS f_y2 3 mNil) (mCons (mOf (mLst (mCons (mRet (.bl true)) (mCons (mRet (.bl false)) mNil)))) mNil))))))
    (sRet (mRet (.bl false)))
    sNil)
  (sSeq (sIf (mNot (mTest (mCall f_y3 (mCons (mRet (.fn "read_places")) (mCons (mCallS f_y1 3 mNil) (mCons (mOf (mLst (mCons (mRet (.bl true)) (mCons (mRet (.bl false)) mNil)))) mNil))))))
    (sRet (mRet (.bl false)))
    sNil)
  (sSeq (sSet 4 (mOp2 dIx (mOf (mLst (mCons (mRet .non) (mCons (mRet (.int 3)) (mCons (mRet (.bl false)) (mCons (mOf (mLst (mCons (mRet (.str "0")) mNil))) (mCons (mTup mNil) (mCons (mRet (.dct [])) mNil)))))))) (mCallS f_y6 3 (mCons (mRet (.int 6)) mNil))))
  (sIf (mNot (mTest (mCall f_y3 (mCons (mOp2 dIx (mOf (mLst (mCons (mRet (.fn "read_scheme")) (mCons (mRet (.fn "read_heard")) (mCons (mRet (.fn "read_places")) mNil))))) (mCallS f_y6 3 (mCons (mRet (.int 3)) mNil))) (mCons (mVar 4) (mCons (mOf (mLst (mCons (mRet (.bl true)) (mCons (mRet (.bl false)) mNil)))) mNil))))))
    (sRet (mRet (.bl false)))
    sNil)))))) (cs.map D.int) [some (.lst N), some (.lst [.int q]), v2, v3, v4] = some (.nx [some (.lst N), some (.lst [.int q]), w2, w3, w4])
  | [], v2, v3, v4 => ⟨v2, v3, v4, rfl⟩
  | c :: cs, v2, v3, v4 => by
    obtain ⟨w3, w4, b⟩ := body_ok N q c v3 v4
    obtain ⟨u2, u3, u4, e⟩ := l_run N q cs (some (.int c)) w3 w4
    refine ⟨u2, u3, u4, ?_⟩
    rw [List.map_cons, forRun]
    have g : gSet 2 (D.int c) [some (.lst N), some (.lst [.int q]), v2, v3, v4] = some [some (.lst N), some (.lst [.int q]), some (.int c), v3, v4] := rfl
    rw [g]
    dsimp only
    rw [b]
    exact e
theorem law_true (ns : List Int) (h : ns.length ≤ 63) : f_law [.lst (ns.map D.int)] = some (.bl true) := by
  obtain ⟨q, hq⟩ := v_seed ns
  obtain ⟨w2, w3, w4, run⟩ := l_run (ns.map D.int) q (ns.take 30 ++ [0]) none none none
  have e1 : List.take 30 (ns.map D.int) ++ [D.int 0] = (ns.take 30 ++ [0]).map D.int := by rw [List.map_append, List.map_take]; rfl
  exact run_of rfl ⟨_, (seq_nx (l0 (by decide) hq)).trans <| (seq_nx (l1 _ (by decide) (by rw [List.length_map, List.length_append, List.length_take]; exact line_of (by simp; omega)) (by rw [List.length_map]; exact line_of (by omega)) e1 run)).trans l2⟩
theorem law_ok {P : Program} {w : World} {K mg a base} (T : Txt K mg a) : FnOk P w K mg base CX0 7 a.f_law a.fd_law ["_law_script"] (spLaw K 63) := law_of (ok_law T) law_true
theorem txt_mk {K : PySem.W.Frag} {h : Heap} {mg : Str → Option Value} {fa : Addr} (X : K.In h) (G : h.Ns mainGlobals mg) (hfa : mg "law" = some (.ref fa))
    {c_WayError : Addr} {c_NoText : Addr} {c_NoScheme : Addr} {c_NoWord : Addr} {c_NoSigns : Addr} {c_NoPlace : Addr} {tk_y19 : Tok} {tk_y20 : Tok} {tk_FIGURES : Tok} {t_ENDINGS : Addr} {tn_ENDINGS : Nat} {tsl_ENDINGS : Array (Option Value)} {tk0_ENDINGS tk1_ENDINGS tk2_ENDINGS : Tok} {f_y18 : Addr} {od_y18 an_y18 : Option Addr} {sl_y18 : Array (Option Value)} {oc_y18 kV_y18 dc_y18 pm_y18 cd_y18 ct_y18 : Value} {f_y17 : Addr} {od_y17 an_y17 : Option Addr} {sl_y17 : Array (Option Value)} {oc_y17 kV_y17 dc_y17 pm_y17 cd_y17 ct_y17 : Value} {f_y8 : Addr} {od_y8 an_y8 : Option Addr} {sl_y8 : Array (Option Value)} {oc_y8 kV_y8 dc_y8 pm_y8 cd_y8 ct_y8 : Value} {f_y13 : Addr} {od_y13 an_y13 : Option Addr} {sl_y13 : Array (Option Value)} {oc_y13 kV_y13 dc_y13 pm_y13 cd_y13 ct_y13 : Value} {f_y12 : Addr} {od_y12 an_y12 : Option Addr} {sl_y12 : Array (Option Value)} {oc_y12 kV_y12 dc_y12 pm_y12 cd_y12 ct_y12 : Value} {f_y15 : Addr} {od_y15 an_y15 : Option Addr} {sl_y15 : Array (Option Value)} {oc_y15 kV_y15 dc_y15 pm_y15 cd_y15 ct_y15 : Value} {f_y16 : Addr} {od_y16 an_y16 : Option Addr} {sl_y16 : Array (Option Value)} {oc_y16 kV_y16 dc_y16 pm_y16 cd_y16 ct_y16 : Value} {f_y9 : Addr} {od_y9 an_y9 : Option Addr} {sl_y9 : Array (Option Value)} {oc_y9 kV_y9 dc_y9 pm_y9 cd_y9 ct_y9 : Value} {f_y14 : Addr} {od_y14 an_y14 : Option Addr} {sl_y14 : Array (Option Value)} {oc_y14 kV_y14 dc_y14 pm_y14 cd_y14 ct_y14 : Value} {f_y11 : Addr} {od_y11 an_y11 : Option Addr} {sl_y11 : Array (Option Value)} {oc_y11 kV_y11 dc_y11 pm_y11 cd_y11 ct_y11 : Value} {f_y10 : Addr} {od_y10 an_y10 : Option Addr} {sl_y10 : Array (Option Value)} {oc_y10 kV_y10 dc_y10 pm_y10 cd_y10 ct_y10 : Value} {f_y6 : Addr} {od_y6 an_y6 : Option Addr} {sl_y6 : Array (Option Value)} {oc_y6 kV_y6 dc_y6 pm_y6 cd_y6 ct_y6 : Value} {f_y7 : Addr} {od_y7 an_y7 : Option Addr} {sl_y7 : Array (Option Value)} {oc_y7 kV_y7 dc_y7 pm_y7 cd_y7 ct_y7 : Value} {f_y4 : Addr} {od_y4 an_y4 : Option Addr} {sl_y4 : Array (Option Value)} {oc_y4 kV_y4 dc_y4 pm_y4 cd_y4 ct_y4 : Value} {f_y3 : Addr} {od_y3 an_y3 : Option Addr} {sl_y3 : Array (Option Value)} {oc_y3 kV_y3 dc_y3 pm_y3 cd_y3 ct_y3 : Value} {f_y5 : Addr} {od_y5 an_y5 : Option Addr} {sl_y5 : Array (Option Value)} {oc_y5 kV_y5 dc_y5 pm_y5 cd_y5 ct_y5 : Value} {f_y0 : Addr} {od_y0 an_y0 : Option Addr} {sl_y0 : Array (Option Value)} {oc_y0 kV_y0 dc_y0 pm_y0 cd_y0 ct_y0 : Value} {f_y2 : Addr} {od_y2 an_y2 : Option Addr} {sl_y2 : Array (Option Value)} {oc_y2 kV_y2 dc_y2 pm_y2 cd_y2 ct_y2 : Value} {f_y1 : Addr} {od_y1 an_y1 : Option Addr} {sl_y1 : Array (Option Value)} {oc_y1 kV_y1 dc_y1 pm_y1 cd_y1 ct_y1 : Value} {f_law : Addr} {od_law an_law : Option Addr} {sl_law : Array (Option Value)} {oc_law kV_law dc_law pm_law cd_law ct_law : Value}
    (q0 : PySem.W.nsIn K mainGlobals "WayError" = some (some (.ref c_WayError)))
    (q1 : PySem.W.isClsIn K c_WayError = true)
    (q2 : PySem.W.typeIn K (.ref c_WayError) = some (.type "type"))
    (q3 : PySem.W.subIn K (.ref c_WayError) (.ref c_WayError) = some true)
    (q4 : PySem.W.findIn K (.ref c_WayError) "__getattribute__" = some (some (.builtin "BaseException.__getattribute__")))
    (q5 : PySem.W.findIn K (.ref c_WayError) "__getattr__" = some none)
    (q6 : PySem.W.subIn K (.ref c_WayError) (.type "BaseException") = some true)
    (q7 : PySem.W.findIn K (.ref c_WayError) "__class__" = some (some (.builtin "object.__class__")))
    (q8 : PySem.W.specialIn K (.builtin "object.__class__") "__get__" = some (some (.builtin "getset_descriptor.__get__")))
    (q9 : PySem.W.takesIn K (.builtin "object.__class__") = some true)
    (q10 : PySem.W.mroIn K c_WayError (.type "object") = some true)
    (q11 : PySem.W.nsIn K mainGlobals "NoText" = some (some (.ref c_NoText)))
    (q12 : PySem.W.isClsIn K c_NoText = true)
    (q13 : PySem.W.typeIn K (.ref c_NoText) = some (.type "type"))
    (q14 : PySem.W.subIn K (.ref c_NoText) (.ref c_NoText) = some true)
    (q15 : PySem.W.findIn K (.ref c_NoText) "__getattribute__" = some (some (.builtin "BaseException.__getattribute__")))
    (q16 : PySem.W.findIn K (.ref c_NoText) "__getattr__" = some none)
    (q17 : PySem.W.subIn K (.ref c_NoText) (.type "BaseException") = some true)
    (q18 : PySem.W.findIn K (.ref c_NoText) "__class__" = some (some (.builtin "object.__class__")))
    (q19 : PySem.W.specialIn K (.builtin "object.__class__") "__get__" = some (some (.builtin "getset_descriptor.__get__")))
    (q20 : PySem.W.takesIn K (.builtin "object.__class__") = some true)
    (q21 : PySem.W.mroIn K c_NoText (.type "object") = some true)
    (q22 : PySem.W.excIn K c_NoText [.type "ValueError", .type "Exception", .type "BaseException", .type "object"] "ValueError.__new__" = true)
    (q23 : PySem.W.nsIn K mainGlobals "NoScheme" = some (some (.ref c_NoScheme)))
    (q24 : PySem.W.isClsIn K c_NoScheme = true)
    (q25 : PySem.W.typeIn K (.ref c_NoScheme) = some (.type "type"))
    (q26 : PySem.W.subIn K (.ref c_NoScheme) (.ref c_NoScheme) = some true)
    (q27 : PySem.W.findIn K (.ref c_NoScheme) "__getattribute__" = some (some (.builtin "BaseException.__getattribute__")))
    (q28 : PySem.W.findIn K (.ref c_NoScheme) "__getattr__" = some none)
    (q29 : PySem.W.subIn K (.ref c_NoScheme) (.type "BaseException") = some true)
    (q30 : PySem.W.findIn K (.ref c_NoScheme) "__class__" = some (some (.builtin "object.__class__")))
    (q31 : PySem.W.specialIn K (.builtin "object.__class__") "__get__" = some (some (.builtin "getset_descriptor.__get__")))
    (q32 : PySem.W.takesIn K (.builtin "object.__class__") = some true)
    (q33 : PySem.W.mroIn K c_NoScheme (.type "object") = some true)
    (q34 : PySem.W.nsIn K mainGlobals "NoWord" = some (some (.ref c_NoWord)))
    (q35 : PySem.W.isClsIn K c_NoWord = true)
    (q36 : PySem.W.typeIn K (.ref c_NoWord) = some (.type "type"))
    (q37 : PySem.W.subIn K (.ref c_NoWord) (.ref c_NoWord) = some true)
    (q38 : PySem.W.findIn K (.ref c_NoWord) "__getattribute__" = some (some (.builtin "BaseException.__getattribute__")))
    (q39 : PySem.W.findIn K (.ref c_NoWord) "__getattr__" = some none)
    (q40 : PySem.W.subIn K (.ref c_NoWord) (.type "BaseException") = some true)
    (q41 : PySem.W.findIn K (.ref c_NoWord) "__class__" = some (some (.builtin "object.__class__")))
    (q42 : PySem.W.specialIn K (.builtin "object.__class__") "__get__" = some (some (.builtin "getset_descriptor.__get__")))
    (q43 : PySem.W.takesIn K (.builtin "object.__class__") = some true)
    (q44 : PySem.W.mroIn K c_NoWord (.type "object") = some true)
    (q45 : PySem.W.nsIn K mainGlobals "NoSigns" = some (some (.ref c_NoSigns)))
    (q46 : PySem.W.isClsIn K c_NoSigns = true)
    (q47 : PySem.W.typeIn K (.ref c_NoSigns) = some (.type "type"))
    (q48 : PySem.W.subIn K (.ref c_NoSigns) (.ref c_NoSigns) = some true)
    (q49 : PySem.W.findIn K (.ref c_NoSigns) "__getattribute__" = some (some (.builtin "BaseException.__getattribute__")))
    (q50 : PySem.W.findIn K (.ref c_NoSigns) "__getattr__" = some none)
    (q51 : PySem.W.subIn K (.ref c_NoSigns) (.type "BaseException") = some true)
    (q52 : PySem.W.findIn K (.ref c_NoSigns) "__class__" = some (some (.builtin "object.__class__")))
    (q53 : PySem.W.specialIn K (.builtin "object.__class__") "__get__" = some (some (.builtin "getset_descriptor.__get__")))
    (q54 : PySem.W.takesIn K (.builtin "object.__class__") = some true)
    (q55 : PySem.W.mroIn K c_NoSigns (.type "object") = some true)
    (q56 : PySem.W.nsIn K mainGlobals "NoPlace" = some (some (.ref c_NoPlace)))
    (q57 : PySem.W.isClsIn K c_NoPlace = true)
    (q58 : PySem.W.typeIn K (.ref c_NoPlace) = some (.type "type"))
    (q59 : PySem.W.subIn K (.ref c_NoPlace) (.ref c_NoPlace) = some true)
    (q60 : PySem.W.findIn K (.ref c_NoPlace) "__getattribute__" = some (some (.builtin "BaseException.__getattribute__")))
    (q61 : PySem.W.findIn K (.ref c_NoPlace) "__getattr__" = some none)
    (q62 : PySem.W.subIn K (.ref c_NoPlace) (.type "BaseException") = some true)
    (q63 : PySem.W.findIn K (.ref c_NoPlace) "__class__" = some (some (.builtin "object.__class__")))
    (q64 : PySem.W.specialIn K (.builtin "object.__class__") "__get__" = some (some (.builtin "getset_descriptor.__get__")))
    (q65 : PySem.W.takesIn K (.builtin "object.__class__") = some true)
    (q66 : PySem.W.mroIn K c_NoPlace (.type "object") = some true)
    (q67 : PySem.W.subIn K (.ref c_WayError) (.type "BaseException") = some true)
    (q68 : PySem.W.subIn K (.ref c_NoText) (.ref c_WayError) = some true)
    (q69 : PySem.W.subIn K (.ref c_NoScheme) (.ref c_WayError) = some true)
    (q70 : PySem.W.subIn K (.ref c_NoWord) (.ref c_WayError) = some true)
    (q71 : PySem.W.subIn K (.ref c_NoSigns) (.ref c_WayError) = some true)
    (q72 : PySem.W.subIn K (.ref c_NoPlace) (.ref c_WayError) = some true)
    (q73 : PySem.W.nsIn K mainGlobals "MOST_SMALL_FIGURES" = some (some (.int (2) tk_y19)))
    (q74 : PySem.W.nsIn K mainGlobals "MOST_FIGURES" = some (some (.int (60) tk_y20)))
    (q75 : PySem.W.nsIn K mainGlobals "FIGURES" = some (some (.str "0123456789" tk_FIGURES)))
    (q76 : PySem.W.nsIn K mainGlobals "ENDINGS" = some (some (.ref t_ENDINGS)))
    (q77 : K.lookup t_ENDINGS = some ⟨.type "tuple", none, .seq #[.str "open" tk0_ENDINGS, .str "ended" tk1_ENDINGS, .str "ring" tk2_ENDINGS] tn_ENDINGS, tsl_ENDINGS⟩)
    (q78 : PySem.W.nsIn K mainGlobals "check_text" = some (some (.ref f_y18)))
    (q79 : K.lookup f_y18 = some ⟨oc_y18, od_y18, .func (PySem.W.fnOf "check_text" "check_text" (defArgs s_y18) (defBody s_y18) (defScope s_y18) .none kV_y18 dc_y18 pm_y18 an_y18 cd_y18 ct_y18), sl_y18⟩)
    (q80 : PySem.W.codeIn K cd_y18 "check_text" = true)
    (q81 : PySem.W.keepIn K (.ref f_y18) = true)
    (q82 : PySem.W.nsIn K mainGlobals "is_made_of" = some (some (.ref f_y17)))
    (q83 : K.lookup f_y17 = some ⟨oc_y17, od_y17, .func (PySem.W.fnOf "is_made_of" "is_made_of" (defArgs s_y17) (defBody s_y17) (defScope s_y17) .none kV_y17 dc_y17 pm_y17 an_y17 cd_y17 ct_y17), sl_y17⟩)
    (q84 : PySem.W.codeIn K cd_y17 "is_made_of" = true)
    (q85 : PySem.W.keepIn K (.ref f_y17) = true)
    (q86 : PySem.W.nsIn K mainGlobals "read_figures" = some (some (.ref f_y8)))
    (q87 : K.lookup f_y8 = some ⟨oc_y8, od_y8, .func (PySem.W.fnOf "read_figures" "read_figures" (defArgs s_y8) (defBody s_y8) (defScope s_y8) .none kV_y8 dc_y8 pm_y8 an_y8 cd_y8 ct_y8), sl_y8⟩)
    (q88 : PySem.W.codeIn K cd_y8 "read_figures" = true)
    (q89 : PySem.W.keepIn K (.ref f_y8) = true)
    (q90 : PySem.W.nsIn K mainGlobals "read_small" = some (some (.ref f_y13)))
    (q91 : K.lookup f_y13 = some ⟨oc_y13, od_y13, .func (PySem.W.fnOf "read_small" "read_small" (defArgs s_y13) (defBody s_y13) (defScope s_y13) .none kV_y13 dc_y13 pm_y13 an_y13 cd_y13 ct_y13), sl_y13⟩)
    (q92 : PySem.W.codeIn K cd_y13 "read_small" = true)
    (q93 : PySem.W.keepIn K (.ref f_y13) = true)
    (q94 : PySem.W.nsIn K mainGlobals "read_number" = some (some (.ref f_y12)))
    (q95 : K.lookup f_y12 = some ⟨oc_y12, od_y12, .func (PySem.W.fnOf "read_number" "read_number" (defArgs s_y12) (defBody s_y12) (defScope s_y12) .none kV_y12 dc_y12 pm_y12 an_y12 cd_y12 ct_y12), sl_y12⟩)
    (q96 : PySem.W.codeIn K cd_y12 "read_number" = true)
    (q97 : PySem.W.keepIn K (.ref f_y12) = true)
    (q98 : PySem.W.nsIn K mainGlobals "read_bits" = some (some (.ref f_y15)))
    (q99 : K.lookup f_y15 = some ⟨oc_y15, od_y15, .func (PySem.W.fnOf "read_bits" "read_bits" (defArgs s_y15) (defBody s_y15) (defScope s_y15) .none kV_y15 dc_y15 pm_y15 an_y15 cd_y15 ct_y15), sl_y15⟩)
    (q100 : PySem.W.codeIn K cd_y15 "read_bits" = true)
    (q101 : PySem.W.keepIn K (.ref f_y15) = true)
    (q102 : PySem.W.nsIn K mainGlobals "has_scheme_form" = some (some (.ref f_y16)))
    (q103 : K.lookup f_y16 = some ⟨oc_y16, od_y16, .func (PySem.W.fnOf "has_scheme_form" "has_scheme_form" (defArgs s_y16) (defBody s_y16) (defScope s_y16) .none kV_y16 dc_y16 pm_y16 an_y16 cd_y16 ct_y16), sl_y16⟩)
    (q104 : PySem.W.codeIn K cd_y16 "has_scheme_form" = true)
    (q105 : PySem.W.keepIn K (.ref f_y16) = true)
    (q106 : PySem.W.nsIn K mainGlobals "read_scheme" = some (some (.ref f_y9)))
    (q107 : K.lookup f_y9 = some ⟨oc_y9, od_y9, .func (PySem.W.fnOf "read_scheme" "read_scheme" (defArgs s_y9) (defBody s_y9) (defScope s_y9) .none kV_y9 dc_y9 pm_y9 an_y9 cd_y9 ct_y9), sl_y9⟩)
    (q108 : PySem.W.codeIn K cd_y9 "read_scheme" = true)
    (q109 : PySem.W.keepIn K (.ref f_y9) = true)
    (q110 : PySem.W.nsIn K mainGlobals "read_sign" = some (some (.ref f_y14)))
    (q111 : K.lookup f_y14 = some ⟨oc_y14, od_y14, .func (PySem.W.fnOf "read_sign" "read_sign" (defArgs s_y14) (defBody s_y14) (defScope s_y14) .none kV_y14 dc_y14 pm_y14 an_y14 cd_y14 ct_y14), sl_y14⟩)
    (q112 : PySem.W.codeIn K cd_y14 "read_sign" = true)
    (q113 : PySem.W.keepIn K (.ref f_y14) = true)
    (q114 : PySem.W.nsIn K mainGlobals "read_heard" = some (some (.ref f_y11)))
    (q115 : K.lookup f_y11 = some ⟨oc_y11, od_y11, .func (PySem.W.fnOf "read_heard" "read_heard" (defArgs s_y11) (defBody s_y11) (defScope s_y11) .none kV_y11 dc_y11 pm_y11 an_y11 cd_y11 ct_y11), sl_y11⟩)
    (q116 : PySem.W.codeIn K cd_y11 "read_heard" = true)
    (q117 : PySem.W.keepIn K (.ref f_y11) = true)
    (q118 : PySem.W.nsIn K mainGlobals "read_places" = some (some (.ref f_y10)))
    (q119 : K.lookup f_y10 = some ⟨oc_y10, od_y10, .func (PySem.W.fnOf "read_places" "read_places" (defArgs s_y10) (defBody s_y10) (defScope s_y10) .none kV_y10 dc_y10 pm_y10 an_y10 cd_y10 ct_y10), sl_y10⟩)
    (q120 : PySem.W.codeIn K cd_y10 "read_places" = true)
    (q121 : PySem.W.keepIn K (.ref f_y10) = true)
    (q122 : PySem.W.nsIn K mainGlobals "_law_next" = some (some (.ref f_y6)))
    (q123 : K.lookup f_y6 = some ⟨oc_y6, od_y6, .func (PySem.W.fnOf "_law_next" "_law_next" (defArgs s_y6) (defBody s_y6) (defScope s_y6) .none kV_y6 dc_y6 pm_y6 an_y6 cd_y6 ct_y6), sl_y6⟩)
    (q124 : PySem.W.codeIn K cd_y6 "_law_next" = true)
    (q125 : PySem.W.keepIn K (.ref f_y6) = true)
    (q126 : PySem.W.nsIn K mainGlobals "_law_seed" = some (some (.ref f_y7)))
    (q127 : K.lookup f_y7 = some ⟨oc_y7, od_y7, .func (PySem.W.fnOf "_law_seed" "_law_seed" (defArgs s_y7) (defBody s_y7) (defScope s_y7) .none kV_y7 dc_y7 pm_y7 an_y7 cd_y7 ct_y7), sl_y7⟩)
    (q128 : PySem.W.codeIn K cd_y7 "_law_seed" = true)
    (q129 : PySem.W.keepIn K (.ref f_y7) = true)
    (q130 : PySem.W.nsIn K mainGlobals "_law_scheme" = some (some (.ref f_y4)))
    (q131 : K.lookup f_y4 = some ⟨oc_y4, od_y4, .func (PySem.W.fnOf "_law_scheme" "_law_scheme" (defArgs s_y4) (defBody s_y4) (defScope s_y4) .none kV_y4 dc_y4 pm_y4 an_y4 cd_y4 ct_y4), sl_y4⟩)
    (q132 : PySem.W.codeIn K cd_y4 "_law_scheme" = true)
    (q133 : PySem.W.keepIn K (.ref f_y4) = true)
    (q134 : PySem.W.nsIn K mainGlobals "_law_refused" = some (some (.ref f_y3)))
    (q135 : K.lookup f_y3 = some ⟨oc_y3, od_y3, .func (PySem.W.fnOf "_law_refused" "_law_refused" (defArgs s_y3) (defBody s_y3) (defScope s_y3) .none kV_y3 dc_y3 pm_y3 an_y3 cd_y3 ct_y3), sl_y3⟩)
    (q136 : PySem.W.codeIn K cd_y3 "_law_refused" = true)
    (q137 : PySem.W.keepIn K (.ref f_y3) = true)
    (q138 : PySem.W.nsIn K mainGlobals "_law_pieces" = some (some (.ref f_y5)))
    (q139 : K.lookup f_y5 = some ⟨oc_y5, od_y5, .func (PySem.W.fnOf "_law_pieces" "_law_pieces" (defArgs s_y5) (defBody s_y5) (defScope s_y5) .none kV_y5 dc_y5 pm_y5 an_y5 cd_y5 ct_y5), sl_y5⟩)
    (q140 : PySem.W.codeIn K cd_y5 "_law_pieces" = true)
    (q141 : PySem.W.keepIn K (.ref f_y5) = true)
    (q142 : PySem.W.nsIn K mainGlobals "_law_bad_scheme" = some (some (.ref f_y0)))
    (q143 : K.lookup f_y0 = some ⟨oc_y0, od_y0, .func (PySem.W.fnOf "_law_bad_scheme" "_law_bad_scheme" (defArgs s_y0) (defBody s_y0) (defScope s_y0) .none kV_y0 dc_y0 pm_y0 an_y0 cd_y0 ct_y0), sl_y0⟩)
    (q144 : PySem.W.codeIn K cd_y0 "_law_bad_scheme" = true)
    (q145 : PySem.W.keepIn K (.ref f_y0) = true)
    (q146 : PySem.W.nsIn K mainGlobals "_law_bad_heard" = some (some (.ref f_y2)))
    (q147 : K.lookup f_y2 = some ⟨oc_y2, od_y2, .func (PySem.W.fnOf "_law_bad_heard" "_law_bad_heard" (defArgs s_y2) (defBody s_y2) (defScope s_y2) .none kV_y2 dc_y2 pm_y2 an_y2 cd_y2 ct_y2), sl_y2⟩)
    (q148 : PySem.W.codeIn K cd_y2 "_law_bad_heard" = true)
    (q149 : PySem.W.keepIn K (.ref f_y2) = true)
    (q150 : PySem.W.nsIn K mainGlobals "_law_bad_places" = some (some (.ref f_y1)))
    (q151 : K.lookup f_y1 = some ⟨oc_y1, od_y1, .func (PySem.W.fnOf "_law_bad_places" "_law_bad_places" (defArgs s_y1) (defBody s_y1) (defScope s_y1) .none kV_y1 dc_y1 pm_y1 an_y1 cd_y1 ct_y1), sl_y1⟩)
    (q152 : PySem.W.codeIn K cd_y1 "_law_bad_places" = true)
    (q153 : PySem.W.keepIn K (.ref f_y1) = true)
    (q154 : PySem.W.nsIn K mainGlobals "law" = some (some (.ref f_law)))
    (q155 : K.lookup f_law = some ⟨oc_law, od_law, .func (PySem.W.fnOf "law" "law" (defArgs s_law) (defBody s_law) (defScope s_law) .none kV_law dc_law pm_law an_law cd_law ct_law), sl_law⟩)
    (q156 : PySem.W.codeIn K cd_law "law" = true)
    (q157 : PySem.W.keepIn K (.ref f_law) = true)
    (q158 : PySem.W.nsIn K mainGlobals "ValueError" = some none)
    (q159 : PySem.W.nsIn K mainGlobals "all" = some none)
    (q160 : PySem.W.nsIn K mainGlobals "any" = some none)
    (q161 : PySem.W.nsIn K mainGlobals "int" = some none)
    (q162 : PySem.W.nsIn K mainGlobals "isinstance" = some none)
    (q163 : PySem.W.nsIn K mainGlobals "len" = some none)
    (q164 : PySem.W.nsIn K mainGlobals "range" = some none)
    (q165 : PySem.W.nsIn K mainGlobals "str" = some none)
    (q166 : PySem.W.nsIn K mainGlobals "tuple" = some none)
    (q167 : PySem.W.nsIn K mainGlobals "zip" = some none)
    (q168 : PySem.W.subIn K (.type "NoneType") (.type "str") = some false)
    (q169 : PySem.W.subIn K (.type "bool") (.type "str") = some false)
    (q170 : PySem.W.subIn K (.type "int") (.type "str") = some false)
    (q171 : PySem.W.subIn K (.type "list") (.type "str") = some false)
    (q172 : PySem.W.subIn K (.type "tuple") (.type "str") = some false)
    (q173 : PySem.W.subIn K (.type "dict") (.type "str") = some false)
    (q174 : PySem.W.subIn K (.ref c_WayError) (.ref c_NoPlace) = some false)
    (q175 : PySem.W.isClsIn K c_NoPlace = true)
    (q176 : PySem.W.typeIn K (.ref c_NoPlace) = some (.type "type"))
    (q177 : c_WayError ≠ c_NoPlace)
    (q178 : PySem.W.subIn K (.ref c_NoText) (.ref c_NoPlace) = some false)
    (q179 : c_NoText ≠ c_NoPlace)
    (q180 : PySem.W.subIn K (.ref c_NoScheme) (.ref c_NoPlace) = some false)
    (q181 : c_NoScheme ≠ c_NoPlace)
    (q182 : PySem.W.subIn K (.ref c_NoWord) (.ref c_NoPlace) = some false)
    (q183 : c_NoWord ≠ c_NoPlace)
    (q184 : PySem.W.subIn K (.ref c_NoSigns) (.ref c_NoPlace) = some false)
    (q185 : c_NoSigns ≠ c_NoPlace)
    (q186 : PySem.W.subIn K (.type "NoneType") (.ref c_NoPlace) = some false)
    (q187 : PySem.W.subIn K (.ref c_WayError) (.ref c_NoSigns) = some false)
    (q188 : PySem.W.isClsIn K c_NoSigns = true)
    (q189 : PySem.W.typeIn K (.ref c_NoSigns) = some (.type "type"))
    (q190 : c_WayError ≠ c_NoSigns)
    (q191 : PySem.W.subIn K (.ref c_NoText) (.ref c_NoSigns) = some false)
    (q192 : c_NoText ≠ c_NoSigns)
    (q193 : PySem.W.subIn K (.ref c_NoScheme) (.ref c_NoSigns) = some false)
    (q194 : c_NoScheme ≠ c_NoSigns)
    (q195 : PySem.W.subIn K (.ref c_NoWord) (.ref c_NoSigns) = some false)
    (q196 : c_NoWord ≠ c_NoSigns)
    (q197 : PySem.W.subIn K (.ref c_NoPlace) (.ref c_NoSigns) = some false)
    (q198 : c_NoPlace ≠ c_NoSigns)
    (q199 : PySem.W.subIn K (.type "NoneType") (.ref c_NoSigns) = some false)
    (q200 : PySem.W.subIn K (.ref c_WayError) (.ref c_NoWord) = some false)
    (q201 : PySem.W.isClsIn K c_NoWord = true)
    (q202 : PySem.W.typeIn K (.ref c_NoWord) = some (.type "type"))
    (q203 : c_WayError ≠ c_NoWord)
    (q204 : PySem.W.subIn K (.ref c_NoText) (.ref c_NoWord) = some false)
    (q205 : c_NoText ≠ c_NoWord)
    (q206 : PySem.W.subIn K (.ref c_NoScheme) (.ref c_NoWord) = some false)
    (q207 : c_NoScheme ≠ c_NoWord)
    (q208 : PySem.W.subIn K (.ref c_NoSigns) (.ref c_NoWord) = some false)
    (q209 : c_NoSigns ≠ c_NoWord)
    (q210 : PySem.W.subIn K (.ref c_NoPlace) (.ref c_NoWord) = some false)
    (q211 : c_NoPlace ≠ c_NoWord)
    (q212 : PySem.W.subIn K (.type "NoneType") (.ref c_NoWord) = some false)
    (q213 : PySem.W.subIn K (.ref c_WayError) (.type "ValueError") = some true)
    (q214 : PySem.W.subIn K (.ref c_NoText) (.type "ValueError") = some true)
    (q215 : PySem.W.subIn K (.ref c_NoScheme) (.type "ValueError") = some true)
    (q216 : PySem.W.subIn K (.ref c_NoWord) (.type "ValueError") = some true)
    (q217 : PySem.W.subIn K (.ref c_NoSigns) (.type "ValueError") = some true)
    (q218 : PySem.W.subIn K (.ref c_NoPlace) (.type "ValueError") = some true)
    (q219 : PySem.W.subIn K (.type "NoneType") (.type "ValueError") = some false)
    (q220 : PySem.W.subIn K (.ref c_WayError) (.ref c_NoScheme) = some false)
    (q221 : PySem.W.isClsIn K c_NoScheme = true)
    (q222 : PySem.W.typeIn K (.ref c_NoScheme) = some (.type "type"))
    (q223 : c_WayError ≠ c_NoScheme)
    (q224 : PySem.W.subIn K (.ref c_NoText) (.ref c_NoScheme) = some false)
    (q225 : c_NoText ≠ c_NoScheme)
    (q226 : PySem.W.subIn K (.ref c_NoWord) (.ref c_NoScheme) = some false)
    (q227 : c_NoWord ≠ c_NoScheme)
    (q228 : PySem.W.subIn K (.ref c_NoSigns) (.ref c_NoScheme) = some false)
    (q229 : c_NoSigns ≠ c_NoScheme)
    (q230 : PySem.W.subIn K (.ref c_NoPlace) (.ref c_NoScheme) = some false)
    (q231 : c_NoPlace ≠ c_NoScheme)
    (q232 : PySem.W.subIn K (.type "NoneType") (.ref c_NoScheme) = some false)
    (q233 : PySem.W.subIn K (.ref c_WayError) (.ref c_NoText) = some false)
    (q234 : PySem.W.isClsIn K c_NoText = true)
    (q235 : PySem.W.typeIn K (.ref c_NoText) = some (.type "type"))
    (q236 : c_WayError ≠ c_NoText)
    (q237 : PySem.W.subIn K (.ref c_NoScheme) (.ref c_NoText) = some false)
    (q238 : c_NoScheme ≠ c_NoText)
    (q239 : PySem.W.subIn K (.ref c_NoWord) (.ref c_NoText) = some false)
    (q240 : c_NoWord ≠ c_NoText)
    (q241 : PySem.W.subIn K (.ref c_NoSigns) (.ref c_NoText) = some false)
    (q242 : c_NoSigns ≠ c_NoText)
    (q243 : PySem.W.subIn K (.ref c_NoPlace) (.ref c_NoText) = some false)
    (q244 : c_NoPlace ≠ c_NoText)
    (q245 : PySem.W.subIn K (.type "NoneType") (.ref c_NoText) = some false)
    : ∃ a : Ad, Txt K mg a ∧ a.f_law = fa ∧ ∀ (s : Shared) (v : Value), BindsTo s a.fd_law ⟨[v], []⟩ [("_law_script", v)] := by
  have e0 : f_law = fa := Value.ref.inj (Option.some.inj ((PySem.W.mg_of X G q154).symm.trans hfa))
  subst e0
  refine ⟨⟨c_WayError, c_NoText, c_NoScheme, c_NoWord, c_NoSigns, c_NoPlace, f_y18, (PySem.W.fnOf "check_text" "check_text" (defArgs s_y18) (defBody s_y18) (defScope s_y18) .none kV_y18 dc_y18 pm_y18 an_y18 cd_y18 ct_y18), f_y17, (PySem.W.fnOf "is_made_of" "is_made_of" (defArgs s_y17) (defBody s_y17) (defScope s_y17) .none kV_y17 dc_y17 pm_y17 an_y17 cd_y17 ct_y17), f_y8, (PySem.W.fnOf "read_figures" "read_figures" (defArgs s_y8) (defBody s_y8) (defScope s_y8) .none kV_y8 dc_y8 pm_y8 an_y8 cd_y8 ct_y8), f_y13, (PySem.W.fnOf "read_small" "read_small" (defArgs s_y13) (defBody s_y13) (defScope s_y13) .none kV_y13 dc_y13 pm_y13 an_y13 cd_y13 ct_y13), f_y12, (PySem.W.fnOf "read_number" "read_number" (defArgs s_y12) (defBody s_y12) (defScope s_y12) .none kV_y12 dc_y12 pm_y12 an_y12 cd_y12 ct_y12), f_y15, (PySem.W.fnOf "read_bits" "read_bits" (defArgs s_y15) (defBody s_y15) (defScope s_y15) .none kV_y15 dc_y15 pm_y15 an_y15 cd_y15 ct_y15), f_y16, (PySem.W.fnOf "has_scheme_form" "has_scheme_form" (defArgs s_y16) (defBody s_y16) (defScope s_y16) .none kV_y16 dc_y16 pm_y16 an_y16 cd_y16 ct_y16), f_y9, (PySem.W.fnOf "read_scheme" "read_scheme" (defArgs s_y9) (defBody s_y9) (defScope s_y9) .none kV_y9 dc_y9 pm_y9 an_y9 cd_y9 ct_y9), f_y14, (PySem.W.fnOf "read_sign" "read_sign" (defArgs s_y14) (defBody s_y14) (defScope s_y14) .none kV_y14 dc_y14 pm_y14 an_y14 cd_y14 ct_y14), f_y11, (PySem.W.fnOf "read_heard" "read_heard" (defArgs s_y11) (defBody s_y11) (defScope s_y11) .none kV_y11 dc_y11 pm_y11 an_y11 cd_y11 ct_y11), f_y10, (PySem.W.fnOf "read_places" "read_places" (defArgs s_y10) (defBody s_y10) (defScope s_y10) .none kV_y10 dc_y10 pm_y10 an_y10 cd_y10 ct_y10), f_y6, (PySem.W.fnOf "_law_next" "_law_next" (defArgs s_y6) (defBody s_y6) (defScope s_y6) .none kV_y6 dc_y6 pm_y6 an_y6 cd_y6 ct_y6), f_y7, (PySem.W.fnOf "_law_seed" "_law_seed" (defArgs s_y7) (defBody s_y7) (defScope s_y7) .none kV_y7 dc_y7 pm_y7 an_y7 cd_y7 ct_y7), f_y4, (PySem.W.fnOf "_law_scheme" "_law_scheme" (defArgs s_y4) (defBody s_y4) (defScope s_y4) .none kV_y4 dc_y4 pm_y4 an_y4 cd_y4 ct_y4), f_y3, (PySem.W.fnOf "_law_refused" "_law_refused" (defArgs s_y3) (defBody s_y3) (defScope s_y3) .none kV_y3 dc_y3 pm_y3 an_y3 cd_y3 ct_y3), f_y5, (PySem.W.fnOf "_law_pieces" "_law_pieces" (defArgs s_y5) (defBody s_y5) (defScope s_y5) .none kV_y5 dc_y5 pm_y5 an_y5 cd_y5 ct_y5), f_y0, (PySem.W.fnOf "_law_bad_scheme" "_law_bad_scheme" (defArgs s_y0) (defBody s_y0) (defScope s_y0) .none kV_y0 dc_y0 pm_y0 an_y0 cd_y0 ct_y0), f_y2, (PySem.W.fnOf "_law_bad_heard" "_law_bad_heard" (defArgs s_y2) (defBody s_y2) (defScope s_y2) .none kV_y2 dc_y2 pm_y2 an_y2 cd_y2 ct_y2), f_y1, (PySem.W.fnOf "_law_bad_places" "_law_bad_places" (defArgs s_y1) (defBody s_y1) (defScope s_y1) .none kV_y1 dc_y1 pm_y1 an_y1 cd_y1 ct_y1), f_law, (PySem.W.fnOf "law" "law" (defArgs s_law) (defBody s_law) (defScope s_law) .none kV_law dc_law pm_law an_law cd_law ct_law), tk_y19, tk_y20, tk_FIGURES, t_ENDINGS⟩, ?_, rfl, fun s v => .of_eq rfl⟩
  exact ⟨(PySem.W.mg_of X G q0), q0, ⟨q1, q2, q3, q4, q5, q6, q7, q8, q9, q10⟩, (PySem.W.mg_of X G q11), q11, ⟨q12, q13, q14, q15, q16, q17, q18, q19, q20, q21⟩, q22, (PySem.W.mg_of X G q23), q23, ⟨q24, q25, q26, q27, q28, q29, q30, q31, q32, q33⟩, (PySem.W.mg_of X G q34), q34, ⟨q35, q36, q37, q38, q39, q40, q41, q42, q43, q44⟩, (PySem.W.mg_of X G q45), q45, ⟨q46, q47, q48, q49, q50, q51, q52, q53, q54, q55⟩, (PySem.W.mg_of X G q56), q56, ⟨q57, q58, q59, q60, q61, q62, q63, q64, q65, q66⟩, (exm_mk q67 q1 q2 q3), (exm_mk q67 q1 q2 q68), (exm_mk q67 q1 q2 q69), (exm_mk q67 q1 q2 q70), (exm_mk q67 q1 q2 q71), (exm_mk q67 q1 q2 q72), (PySem.W.mg_of X G q73), (PySem.W.mg_of X G q74), (PySem.W.mg_of X G q75), (PySem.W.mg_of X G q76), (fun H => .inr ⟨_, _, _, q77, rfl, rfl, rfl, (by show 3 ≤ sizeLine; decide), (.cons ⟨_, rfl⟩ (.cons ⟨_, rfl⟩ (.cons ⟨_, rfl⟩ .nil)))⟩), (fun_mk (st := s_y18) q79 q80 q81), (fun_mk (st := s_y18) q79 q80 q81).binds (ps := ["found"]) fun _ _ _ _ _ _ => len1 fun _ => rfl, (PySem.W.mg_of X G q78), q81, (fun_mk (st := s_y17) q83 q84 q85), (fun_mk (st := s_y17) q83 q84 q85).binds (ps := ["text", "signs"]) fun _ _ _ _ _ _ => len2 fun _ _ => rfl, (PySem.W.mg_of X G q82), q85, (fun_mk (st := s_y8) q87 q88 q89), (fun_mk (st := s_y8) q87 q88 q89).binds (ps := ["text", "most"]) fun _ _ _ _ _ _ => len2 fun _ _ => rfl, (PySem.W.mg_of X G q86), q89, (fun_mk (st := s_y13) q91 q92 q93), (fun_mk (st := s_y13) q91 q92 q93).binds (ps := ["text"]) fun _ _ _ _ _ _ => len1 fun _ => rfl, (PySem.W.mg_of X G q90), q93, (fun_mk (st := s_y12) q95 q96 q97), (fun_mk (st := s_y12) q95 q96 q97).binds (ps := ["text"]) fun _ _ _ _ _ _ => len1 fun _ => rfl, (PySem.W.mg_of X G q94), q97, (fun_mk (st := s_y15) q99 q100 q101), (fun_mk (st := s_y15) q99 q100 q101).binds (ps := ["text"]) fun _ _ _ _ _ _ => len1 fun _ => rfl, (PySem.W.mg_of X G q98), q101, (fun_mk (st := s_y16) q103 q104 q105), (fun_mk (st := s_y16) q103 q104 q105).binds (ps := ["words"]) fun _ _ _ _ _ _ => len1 fun _ => rfl, (PySem.W.mg_of X G q102), q105, (fun_mk (st := s_y9) q107 q108 q109), (fun_mk (st := s_y9) q107 q108 q109).binds (ps := ["text"]) fun _ _ _ _ _ _ => len1 fun _ => rfl, (PySem.W.mg_of X G q106), q109, q106, (fun_mk (st := s_y14) q111 q112 q113), (fun_mk (st := s_y14) q111 q112 q113).binds (ps := ["word"]) fun _ _ _ _ _ _ => len1 fun _ => rfl, (PySem.W.mg_of X G q110), q113, (fun_mk (st := s_y11) q115 q116 q117), (fun_mk (st := s_y11) q115 q116 q117).binds (ps := ["text"]) fun _ _ _ _ _ _ => len1 fun _ => rfl, (PySem.W.mg_of X G q114), q117, q114, (fun_mk (st := s_y10) q119 q120 q121), (fun_mk (st := s_y10) q119 q120 q121).binds (ps := ["text"]) fun _ _ _ _ _ _ => len1 fun _ => rfl, (PySem.W.mg_of X G q118), q121, q118, (fun_mk (st := s_y6) q123 q124 q125), (fun_mk (st := s_y6) q123 q124 q125).binds (ps := ["_law_state", "_law_many"]) fun _ _ _ _ _ _ => len2 fun _ _ => rfl, (PySem.W.mg_of X G q122), q125, (fun_mk (st := s_y7) q127 q128 q129), (fun_mk (st := s_y7) q127 q128 q129).binds (ps := ["_law_script"]) fun _ _ _ _ _ _ => len1 fun _ => rfl, (PySem.W.mg_of X G q126), q129, (fun_mk (st := s_y4) q131 q132 q133), (fun_mk (st := s_y4) q131 q132 q133).binds (ps := ["_law_state"]) fun _ _ _ _ _ _ => len1 fun _ => rfl, (PySem.W.mg_of X G q130), q133, (fun_mk (st := s_y3) q135 q136 q137), (fun_mk (st := s_y3) q135 q136 q137).binds (ps := ["_law_reader", "_law_text", "_law_both"]) fun _ _ _ _ _ _ => len3 fun _ _ _ => rfl, (PySem.W.mg_of X G q134), q137, (fun_mk (st := s_y5) q139 q140 q141), (fun_mk (st := s_y5) q139 q140 q141).binds (ps := ["_law_scheme_here"]) fun _ _ _ _ _ _ => len1 fun _ => rfl, (PySem.W.mg_of X G q138), q141, (fun_mk (st := s_y0) q143 q144 q145), (fun_mk (st := s_y0) q143 q144 q145).binds (ps := ["_law_state", "_law_scheme_here"]) fun _ _ _ _ _ _ => len2 fun _ _ => rfl, (PySem.W.mg_of X G q142), q145, (fun_mk (st := s_y2) q147 q148 q149), (fun_mk (st := s_y2) q147 q148 q149).binds (ps := ["_law_state"]) fun _ _ _ _ _ _ => len1 fun _ => rfl, (PySem.W.mg_of X G q146), q149, (fun_mk (st := s_y1) q151 q152 q153), (fun_mk (st := s_y1) q151 q152 q153).binds (ps := ["_law_state"]) fun _ _ _ _ _ _ => len1 fun _ => rfl, (PySem.W.mg_of X G q150), q153, (fun_mk (st := s_law) q155 q156 q157), (fun_mk (st := s_law) q155 q156 q157).binds (ps := ["_law_script"]) fun _ _ _ _ _ _ => len1 fun _ => rfl, (PySem.W.mg_of X G q154), q157, (PySem.W.mg_none_of X G q158), (PySem.W.mg_none_of X G q159), (PySem.W.mg_none_of X G q160), (PySem.W.mg_none_of X G q161), (PySem.W.mg_none_of X G q162), (PySem.W.mg_none_of X G q163), (PySem.W.mg_none_of X G q164), (PySem.W.mg_none_of X G q165), (PySem.W.mg_none_of X G q166), (PySem.W.mg_none_of X G q167), (kit_ty (by decide +kernel) q168 (by decide +kernel)), (kit_ty (by decide +kernel) q169 (by decide +kernel)), (kit_ty (by decide +kernel) q170 (by decide +kernel)), kit_self, (kit_ty (by decide +kernel) q171 (by decide +kernel)), (kit_ty (by decide +kernel) q172 (by decide +kernel)), (kit_ty (by decide +kernel) q173 (by decide +kernel)), (kit_ref q175 q176 q174 (fun z => q177 (Value.ref.inj z))), (kit_ref q175 q176 q178 (fun z => q179 (Value.ref.inj z))), (kit_ref q175 q176 q180 (fun z => q181 (Value.ref.inj z))), (kit_ref q175 q176 q182 (fun z => q183 (Value.ref.inj z))), (kit_ref q175 q176 q184 (fun z => q185 (Value.ref.inj z))), kit_self, (kit_ref q175 q176 q186 (fun z => nomatch z)), (kit_ref q188 q189 q187 (fun z => q190 (Value.ref.inj z))), (kit_ref q188 q189 q191 (fun z => q192 (Value.ref.inj z))), (kit_ref q188 q189 q193 (fun z => q194 (Value.ref.inj z))), (kit_ref q188 q189 q195 (fun z => q196 (Value.ref.inj z))), kit_self, (kit_ref q188 q189 q197 (fun z => q198 (Value.ref.inj z))), (kit_ref q188 q189 q199 (fun z => nomatch z)), (kit_ref q201 q202 q200 (fun z => q203 (Value.ref.inj z))), (kit_ref q201 q202 q204 (fun z => q205 (Value.ref.inj z))), (kit_ref q201 q202 q206 (fun z => q207 (Value.ref.inj z))), kit_self, (kit_ref q201 q202 q208 (fun z => q209 (Value.ref.inj z))), (kit_ref q201 q202 q210 (fun z => q211 (Value.ref.inj z))), (kit_ref q201 q202 q212 (fun z => nomatch z)), (kit_reft (by decide +kernel) q213), (kit_reft (by decide +kernel) q214), (kit_reft (by decide +kernel) q215), (kit_reft (by decide +kernel) q216), (kit_reft (by decide +kernel) q217), (kit_reft (by decide +kernel) q218), (kit_ty (by decide +kernel) q219 (by decide +kernel)), (kit_ref q221 q222 q220 (fun z => q223 (Value.ref.inj z))), (kit_ref q221 q222 q224 (fun z => q225 (Value.ref.inj z))), kit_self, (kit_ref q221 q222 q226 (fun z => q227 (Value.ref.inj z))), (kit_ref q221 q222 q228 (fun z => q229 (Value.ref.inj z))), (kit_ref q221 q222 q230 (fun z => q231 (Value.ref.inj z))), (kit_ref q221 q222 q232 (fun z => nomatch z)), (kit_ref q234 q235 q233 (fun z => q236 (Value.ref.inj z))), kit_self, (kit_ref q234 q235 q237 (fun z => q238 (Value.ref.inj z))), (kit_ref q234 q235 q239 (fun z => q240 (Value.ref.inj z))), (kit_ref q234 q235 q241 (fun z => q242 (Value.ref.inj z))), (kit_ref q234 q235 q243 (fun z => q244 (Value.ref.inj z))), (kit_ref q234 q235 q245 (fun z => nomatch z))⟩
theorem walk {l : PySem.W.OpenLaw} {q : Program} {loose : List Str} {XP : (Str → Option Value) → Heap → Prop} {YP : World → Heap → Prop} {d : DefRec} {K : Params → PySem.W.Frag} (hn : l.most = some 63) (hdf : d.params.defaults = []) (hd : d.name = "law")
    (hY : ∀ (w : World) (h : Heap), YP w h → (K w.params).In h)
    (F : ∀ (w : World) (mg : Str → Option Value) (fa : Addr) (h : Heap), (K w.params).In h → h.Ns mainGlobals mg → mg "law" = some (.ref fa) → ∃ a : Ad, Txt (K w.params) mg a ∧ a.f_law = fa ∧ ∀ (s : Shared) (v : Value), BindsTo s a.fd_law ⟨[v], []⟩ [("_law_script", v)]) :
    PySem.W.WalkO q loose XP YP l.row.toRowW d [] (fun f vs => PySem.call f vs) :=
  L2.walk_of (n := 63) (k := 7) (x := "_law_script") (CX := fun _ => CX0) (sp := fun w => spLaw (K w.params) 63) hn (by decide) hdf ⟨rfl, by decide, by decide⟩ hY
    (fun w mg fa h KX G hm => by
      rw [hd] at hm
      obtain ⟨a, T, e, b⟩ := F w mg fa h KX G hm
      subst e
      exact ⟨a.fd_law, b, fun base _ _ => law_ok T⟩)
    (fun _ _ a ns hl _ hS => ⟨a, ns, rfl, hS, hl, fun _ => rfl⟩) fun _ _ _ _ _ z => z
end K54
open PySem PySem.W PyProof.Rows
set_option maxRecDepth 100000 in
set_option maxHeartbeats 0 in
theorem PySem.Challenge.cw_trellisway_k54_refused_texts_holds : PySem.Challenge.rw_trellisway_k54_refused_texts.Holds := by
  w_on; o_law; k_head; (case hw => w_witness2)
  k_fill
  refine K54.walk (l := PySem.Challenge.rw_trellisway_k54_refused_texts) rfl rfl rfl (fun w h Y => PySem.W.kIn_of Y) ?F
  case F =>
    intro w mg fa h KX G hmg
    refine' K54.txt_mk KX G hmg ?_ ?_ ?_ ?_ ?_ ?_ ?_ ?_ ?_ ?_ ?_ ?_ ?_ ?_ ?_ ?_ ?_ ?_ ?_ ?_ ?_ ?_ ?_ ?_ ?_ ?_ ?_ ?_ ?_ ?_ ?_ ?_ ?_ ?_ ?_ ?_ ?_ ?_ ?_ ?_ ?_ ?_ ?_ ?_ ?_ ?_ ?_ ?_ ?_ ?_ ?_ ?_ ?_ ?_ ?_ ?_ ?_ ?_ ?_ ?_ ?_ ?_ ?_ ?_ ?_ ?_ ?_ ?_ ?_ ?_ ?_ ?_ ?_ ?_ ?_ ?_ ?_ ?_ ?_ ?_ ?_ ?_ ?_ ?_ ?_ ?_ ?_ ?_ ?_ ?_ ?_ ?_ ?_ ?_ ?_ ?_ ?_ ?_ ?_ ?_ ?_ ?_ ?_ ?_ ?_ ?_ ?_ ?_ ?_ ?_ ?_ ?_ ?_ ?_ ?_ ?_ ?_ ?_ ?_ ?_ ?_ ?_ ?_ ?_ ?_ ?_ ?_ ?_ ?_ ?_ ?_ ?_ ?_ ?_ ?_ ?_ ?_ ?_ ?_ ?_ ?_ ?_ ?_ ?_ ?_ ?_ ?_ ?_ ?_ ?_ ?_ ?_ ?_ ?_ ?_ ?_ ?_ ?_ ?_ ?_ ?_ ?_ ?_ ?_ ?_ ?_ ?_ ?_ ?_ ?_ ?_ ?_ ?_ ?_ ?_ ?_ ?_ ?_ ?_ ?_ ?_ ?_ ?_ ?_ ?_ ?_ ?_ ?_ ?_ ?_ ?_ ?_ ?_ ?_ ?_ ?_ ?_ ?_ ?_ ?_ ?_ ?_ ?_ ?_ ?_ ?_ ?_ ?_ ?_ ?_ ?_ ?_ ?_ ?_ ?_ ?_ ?_ ?_ ?_ ?_ ?_ ?_ ?_ ?_ ?_ ?_ ?_ ?_ ?_ ?_ ?_ ?_ ?_ ?_ ?_ ?_ ?_ ?_ ?_ ?_ ?_ ?_ ?_ ?_ ?_ ?_
    all_goals try (first | k_is | k_exc | decide)
