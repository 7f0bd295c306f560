import PyProof.Rows.All
import Wide.All
import OpenK.AllK
import Wide.FinOn
import Lean
import KE.KTryMore
import KE.KRevIter
import KE.KMinKey
import KE.KLam
import KE.KIntText
import PyProof.EqAt
import PyProof.EqKinds
import PyProof.TupleCall
import PySem.Challenge.RW_trellisway_k32_fewest_walked
set_option Elab.async false
set_option linter.all false
set_option maxRecDepth 100000
set_option maxHeartbeats 4000000
namespace H32
open PySem PySem.W
def q4r(tb:String->Option Builtin)(p:Program)(w:World)(n₀:Nat)(ann:Option Value):Nat->SharedT->Thread->Option SharedT
 |0,_,_=>none
 | n+1,s,t=>match through t with
   |true=>some s
   | false=>match stepOk n₀ ann t with
     |false=>none
     | true=>match stepT (denote tb) p w s t with
       |some (s',t')=>q4r tb p w n₀ ann n s' t'
       |none=>none
theorem q5c{tb:String->Option Builtin}{p:Program}{w:World}{n₀:Nat}{ann:Option Value}:∀{n:Nat} {s s':SharedT} {t:Thread},q4r tb p w n₀ ann n s t=some s'->topRun tb p w n₀ ann n s.abs t=some s'.abs
 |0,_,_,_,h=>by cases h
 | n+1,s,s',t,h=>by
   unfold q4r at h
   unfold topRun
   split at h
   · rename_i q
     rw[q]
     cases h
     rfl
   · rename_i q
     rw[q]
     split at h
     · cases h
     · rename_i q2
       dsimp only
       rw[q2]
       split at h
       · rename_i s1 t1 q3
         dsimp only
         rw[stepT_spec q3]
         exact q5c h
       · cases h
def qf9:List Obj->Nat->BT->BT
 |[],_,t=>t
 |o::r,n,t=>qf9 r (n+1) (t.ins n o)
noncomputable def qhz(P:Params)(os:OsState):SharedT:=⟨qf9 (boot_heap P).objs.toList 0 .nil,(boot_heap P).objs.size,(boot_heap P).life,Array.mk [],boot_drawn,boot_toks,os⟩
theorem qcz(P:Params)(os:OsState):(qhz P os).abs=⟨boot_heap P,Array.mk [],boot_drawn,boot_toks,os⟩:=by kernel_rfl
theorem qc0{p q:Program}{loose:List Str}{Xt:Shared->Bool}{α:Type}{Yf:Shared->α}{Ya:World->α}{N m₀:Nat}{ann:Option Value}(e:opening p=plainProg p.main.scope.names)(hN:Nat.ble 600 N=true)(f:∀s,fenceModules? p s=some s)
   (size:∀P:Params,((boot_heap P).isNs mainGlobals,(boot_heap P).objs.size,(boot_heap P).nsMap mainGlobals "__annotations__")=(true,m₀,ann))
   (run:∀(w:World) (os:OsState),(q4r treeTable p w m₀ ann N (qhz w.params os) (topStub p)).map (λs=>(staticsOk (importedModules p.main.body) (boot_heap w.params) s.abs.heap&&namesBound p s.abs.heap&&gensDone s.abs&&laidKept (boot_heap w.params) s.abs.heap,
       openSeen q loose (importedModules p.main.body) Xt true s.abs,Yf s.abs))=some (true,openGood q loose,Ya w)):LeftO p q loose Xt Yf Ya N:=λw=>by
 obtain⟨⟨h,gs,d,k,os⟩,e,e'⟩:=Option.map_eq_some_iff.mp (boot_open e hN f w)
 obtain⟨rfl,rfl,rfl,rfl⟩:h=boot_heap w.params/\gs=Array.mk []/\d=boot_drawn/\k=boot_toks:=by simpa using e'
 obtain⟨z1,z2,z3⟩:_/\_/\_:=by simpa only[Prod.mk.injEq]using size w.params
 obtain⟨s,r,l⟩:=Option.map_eq_some_iff.mp (run w os)
 obtain⟨l1,l2,l3⟩:_/\_/\_:=by simpa only[Prod.mk.injEq]using l
 have r:=q5c r
 rw[qcz]at r
 have t:topFrom treeTable p w N ⟨boot_heap w.params,Array.mk [],boot_drawn,boot_toks,os⟩=some s.abs:=by
   unfold topFrom
   dsimp only
   rw[z1,z2,z3,r]
   show(match staticsOk (importedModules p.main.body) (boot_heap w.params) s.abs.heap&&namesBound p s.abs.heap&&gensDone s.abs&&laidKept (boot_heap w.params) s.abs.heap with|true=>_|false=>_)=_
   rw[l1]
 unfold openEnds
 rw[e]
 show(topFrom treeTable p w N _).map _=_
 rw[t]
 exact congrArg some (Prod.ext l2 l3)
def tp(i:Nat):Stmt:=PySem.Challenge.pw_trellisway_k32_fewest_walked.main.body.getD i (.Pass ⟨0,0,0,0⟩)
def dA(s:Stmt):Arguments:=match s with
 |.FunctionDef _ a _ _ _ _ _ _ _ _=>a
 |_=>{posonlyargs:=[],args:=[],vararg:=none,kwonlyargs:=[],kw_defaults:=[],kwarg:=none,defaults:=[]}
def dB(s:Stmt):List Stmt:=match s with
 |.FunctionDef _ _ b _ _ _ _ _ _ _=>b
 |_=>[]
def dS(s:Stmt):Scope:=match s with
 |.FunctionDef _ _ _ _ _ _ sc _ _ _=>sc
 |_=>{kind:=.function,names:=[],isGenerator:=false,isCoroutine:=false}
def V:Program:={PySem.Challenge.pw_trellisway_k32_fewest_walked with main:={PySem.Challenge.pw_trellisway_k32_fewest_walked.main with body:=[tp 1,tp 2,tp 3,tp 4,tp 5,tp 7,tp 8,tp 9,tp 11,tp 12,tp 13,tp 14,tp 15,tp 16,tp 18,tp 19,tp 20,tp 21,tp 22,tp 23,tp 24,tp 25]}}
def eS(P:Params)(x:Str)(t:Nat)(v:Value):DictEntry:=⟨PyData.keyHash P x,.str x t,v⟩
def fO(x:Str)(s:Stmt)(pm:Value)(cd:Nat):Obj:=⟨.type "function",none,.func (W.fnOf x x (dA s) (dB s) (dS s) .none .none .none pm none (.ref cd) .none),#[]⟩
def cO(x:Str)(t:Nat)(y:Str)(u a2 a3 a4 a7 a8 a10 a11 a13 a14 a15 a16 a17 a18:Nat):Obj:=⟨.type "code",none,.fields #[.str x t,.str y u,.str "/claim/cut.py" a2,.int a3 0,.int a4 0,.int 0 0,.int 0 0,.int a7 0,.ref a8,.bool true,.int a10 0,.ref a11,.none,.ref a13,.ref a14,.ref a15,.int a16 0,.int a17 0,.str "/claim/cut.py" a18],#[]⟩
def KH(P:Params):W.Frag:=[(3,⟨.type "dict",none,.dict #[eS P "__name__" 165 (.str "law_trellisway_k32_fewest_walked" 310),eS P "__doc__" 166 (.none),eS P "__package__" 167 (.none),eS P "__loader__" 168 (.builtin "__main__.__loader__#opaque"),eS P "__spec__" 169 (.none),eS P "__annotations__" 170 (.ref 6),eS P "__builtins__" 171 (.ref 4),eS P "__file__" 173 (.str "/claim/cut.py" 172),eS P "__cached__" 174 (.none),eS P "rooms_at" 195 (.ref 21),eS P "rooms" 202 (.ref 28),eS P "parity" 211 (.ref 35),eS P "step" 217 (.ref 40),eS P "sent_at" 223 (.ref 45),eS P "nodes_of" 231 (.ref 50),eS P "paces_from" 244 (.ref 57),eS P "paces_of" 253 (.ref 64),eS P "ones_by" 263 (.ref 71),eS P "best_pace" 272 (.ref 78),eS P "no_ones" 281 (.ref 85),eS P "fewest_before" 292 (.ref 92),eS P "fewest_by" 301 (.ref 99),eS P "fewest" 309 (.ref 106),eS P "_law_next" 319 (.ref 113),eS P "_law_scheme" 325 (.ref 118),eS P "_law_led" 331 (.ref 123),eS P "_law_nodes" 337 (.ref 128),eS P "_law_ways" 349 (.ref 135),eS P "_law_rows" 355 (.ref 140),eS P "_law_right" 361 (.ref 145),eS P "law" 374 (.ref 152)] 31,#[]⟩),
 (4,⟨.type "module",(some 0),.plain,#[]⟩),
 (20,cO "rooms_at" 189 "rooms_at" 190 191 2 1 3 15 181 16 17 18 19 193 2 194),
 (21,fO "rooms_at" (tp 1) (.str "trellisway.schemes" 187) 20),
 (27,cO "rooms" 196 "rooms" 197 198 4 1 3 22 181 23 24 25 26 200 4 201),
 (28,fO "rooms" (tp 2) (.str "trellisway.schemes" 187) 27),
 (34,cO "parity" 203 "parity" 204 205 6 1 3 29 181 30 31 32 33 209 6 210),
 (35,fO "parity" (tp 3) (.str "trellisway.schemes" 187) 34),
 (39,⟨.type "code",none,.fields #[.str "step" 212,.str "step" 213,.str "/claim/cut.py" 214,.int 13 0,.int 3 0,.int 0 0,.int 0 0,.int 3 0,.ref 36,.bool true,.int 181 0,.ref 37,.none,.none,.none,.ref 38,.int 215 0,.int 13 0,.str "/claim/cut.py" 216],#[]⟩),
 (40,fO "step" (tp 4) (.str "trellisway.schemes" 187) 39),
 (44,⟨.type "code",none,.fields #[.str "sent_at" 218,.str "sent_at" 219,.str "/claim/cut.py" 220,.int 17 0,.int 3 0,.int 0 0,.int 0 0,.int 3 0,.ref 41,.bool true,.int 181 0,.ref 42,.none,.none,.none,.ref 43,.int 221 0,.int 17 0,.str "/claim/cut.py" 222],#[]⟩),
 (45,fO "sent_at" (tp 5) (.str "trellisway.schemes" 187) 44),
 (49,⟨.type "code",none,.fields #[.str "nodes_of" 226,.str "nodes_of" 227,.str "/claim/cut.py" 228,.int 22 0,.int 1 0,.int 0 0,.int 0 0,.int 3 0,.ref 46,.bool true,.int 181 0,.ref 47,.none,.none,.none,.ref 48,.int 229 0,.int 22 0,.str "/claim/cut.py" 230],#[]⟩),
 (50,fO "nodes_of" (tp 7) (.str "trellisway.quiet" 224) 49),
 (56,cO "paces_from" 232 "paces_from" 233 234 27 2 3 51 181 52 53 54 55 242 27 243),
 (57,fO "paces_from" (tp 8) (.str "trellisway.quiet" 224) 56),
 (63,cO "paces_of" 245 "paces_of" 246 247 36 1 3 58 181 59 60 61 62 251 36 252),
 (64,fO "paces_of" (tp 9) (.str "trellisway.quiet" 224) 63),
 (70,cO "ones_by" 256 "ones_by" 257 258 42 2 3 65 181 66 67 68 69 261 42 262),
 (71,fO "ones_by" (tp 11) (.str "trellisway.rest" 254) 70),
 (77,cO "best_pace" 264 "best_pace" 265 266 44 2 3 72 181 73 74 75 76 270 44 271),
 (78,fO "best_pace" (tp 12) (.str "trellisway.rest" 254) 77),
 (84,cO "no_ones" 273 "no_ones" 274 275 46 1 3 79 181 80 81 82 83 279 46 280),
 (85,fO "no_ones" (tp 13) (.str "trellisway.rest" 254) 84),
 (91,cO "fewest_before" 282 "fewest_before" 283 284 51 2 3 86 181 87 88 89 90 290 51 291),
 (92,fO "fewest_before" (tp 14) (.str "trellisway.rest" 254) 91),
 (98,cO "fewest_by" 293 "fewest_by" 294 295 56 2 3 93 181 94 95 96 97 299 56 300),
 (99,fO "fewest_by" (tp 15) (.str "trellisway.rest" 254) 98),
 (105,cO "fewest" 302 "fewest" 303 304 61 2 3 100 181 101 102 103 104 307 61 308),
 (106,fO "fewest" (tp 16) (.str "trellisway.rest" 254) 105),
 (112,cO "_law_next" 312 "_law_next" 313 314 64 2 3 107 181 108 109 110 111 317 64 318),
 (113,fO "_law_next" (tp 18) (.str "law_trellisway_k32_fewest_walked" 310) 112),
 (117,⟨.type "code",none,.fields #[.str "_law_scheme" 320,.str "_law_scheme" 321,.str "/claim/cut.py" 322,.int 67 0,.int 3 0,.int 0 0,.int 0 0,.int 3 0,.ref 114,.bool true,.int 181 0,.ref 115,.none,.none,.none,.ref 116,.int 323 0,.int 67 0,.str "/claim/cut.py" 324],#[]⟩),
 (118,fO "_law_scheme" (tp 19) (.str "law_trellisway_k32_fewest_walked" 310) 117),
 (122,⟨.type "code",none,.fields #[.str "_law_led" 326,.str "_law_led" 327,.str "/claim/cut.py" 328,.int 78 0,.int 4 0,.int 0 0,.int 0 0,.int 3 0,.ref 119,.bool true,.int 181 0,.ref 120,.none,.none,.none,.ref 121,.int 329 0,.int 78 0,.str "/claim/cut.py" 330],#[]⟩),
 (123,fO "_law_led" (tp 20) (.str "law_trellisway_k32_fewest_walked" 310) 122),
 (127,⟨.type "code",none,.fields #[.str "_law_nodes" 332,.str "_law_nodes" 333,.str "/claim/cut.py" 334,.int 85 0,.int 1 0,.int 0 0,.int 0 0,.int 3 0,.ref 124,.bool true,.int 181 0,.ref 125,.none,.none,.none,.ref 126,.int 335 0,.int 85 0,.str "/claim/cut.py" 336],#[]⟩),
 (128,fO "_law_nodes" (tp 21) (.str "law_trellisway_k32_fewest_walked" 310) 127),
 (134,cO "_law_ways" 338 "_law_ways" 339 340 90 2 3 129 181 130 131 132 133 347 90 348),
 (135,fO "_law_ways" (tp 22) (.str "law_trellisway_k32_fewest_walked" 310) 134),
 (139,⟨.type "code",none,.fields #[.str "_law_rows" 350,.str "_law_rows" 351,.str "/claim/cut.py" 352,.int 97 0,.int 2 0,.int 0 0,.int 0 0,.int 3 0,.ref 136,.bool true,.int 181 0,.ref 137,.none,.none,.none,.ref 138,.int 353 0,.int 97 0,.str "/claim/cut.py" 354],#[]⟩),
 (140,fO "_law_rows" (tp 23) (.str "law_trellisway_k32_fewest_walked" 310) 139),
 (144,⟨.type "code",none,.fields #[.str "_law_right" 356,.str "_law_right" 357,.str "/claim/cut.py" 358,.int 110 0,.int 2 0,.int 0 0,.int 0 0,.int 3 0,.ref 141,.bool true,.int 181 0,.ref 142,.none,.none,.none,.ref 143,.int 359 0,.int 110 0,.str "/claim/cut.py" 360],#[]⟩),
 (145,fO "_law_right" (tp 24) (.str "law_trellisway_k32_fewest_walked" 310) 144),
 (151,cO "law" 362 "law" 363 364 119 1 3 146 181 147 148 149 150 372 119 373),
 (152,fO "law" (tp 25) (.str "law_trellisway_k32_fewest_walked" 310) 151)]
def KHP(P:Params):W.Frag:=KH P++[(73,⟨.none,none,.fields #[],#[]⟩)]
def KA:List Addr:=[3,4,20,21,27,28,34,35,39,40,44,45,49,50,56,57,63,64,70,71,77,78,84,85,91,92,98,99,105,106,112,113,117,118,122,123,127,128,134,135,139,140,144,145,151,152,73]
theorem ka_eq:∀P,KA=(KHP P).map (·.1):=λ_=>rfl
theorem run(w:World)(os:OsState):(q4r treeTable PySem.Challenge.pw_trellisway_k32_fewest_walked w 11 (some (.ref 6)) 1494 (qhz w.params os) (topStub PySem.Challenge.pw_trellisway_k32_fewest_walked)).map (λs=>(staticsOk (importedModules PySem.Challenge.pw_trellisway_k32_fewest_walked.main.body) (boot_heap w.params) s.abs.heap&&namesBound PySem.Challenge.pw_trellisway_k32_fewest_walked s.abs.heap&&gensDone s.abs&&laidKept (boot_heap w.params) s.abs.heap,
       openSeen V [] (importedModules PySem.Challenge.pw_trellisway_k32_fewest_walked.main.body) (λs=>xlAt V [] s&&recOk (RowW.records (OpenRow.toRowW PySem.Challenge.rw_trellisway_k32_fewest_walked.row)) s) true s.abs,Hook.obs (kHook KHP KA ka_eq) s.abs))=some (true,openGood V [],Hook.val (kHook KHP KA ka_eq) w):=by kernel_rfl
theorem left:LeftO PySem.Challenge.pw_trellisway_k32_fewest_walked V [] (λs=>xlAt V [] s&&recOk (RowW.records (OpenRow.toRowW PySem.Challenge.rw_trellisway_k32_fewest_walked.row)) s) (Hook.obs (kHook KHP KA ka_eq)) (Hook.val (kHook KHP KA ka_eq)) 1494:=qc0 (by kernel_rfl) (by kernel_rfl) (λs=>by kernel_rfl) (λP=>by kernel_rfl) run
theorem qfy:(OpenRow.toRowW PySem.Challenge.rw_trellisway_k32_fewest_walked.row).prog=PySem.Challenge.pw_trellisway_k32_fewest_walked:=by kernel_rfl
theorem leftR:LeftO (OpenRow.toRowW PySem.Challenge.rw_trellisway_k32_fewest_walked.row).prog V [] (λs=>xlAt V [] s&&recOk (RowW.records (OpenRow.toRowW PySem.Challenge.rw_trellisway_k32_fewest_walked.row)) s) (Hook.obs (kHook KHP KA ka_eq)) (Hook.val (kHook KHP KA ka_eq)) 1494:=by
 rw[qfy]
 exact left
end H32
abbrev j6:=@PySem.wpAny_bind
abbrev j7:=@PySem.wpAny_pure
abbrev j8:=@PySem.Heap.lt_size
abbrev j9:=@List.length_map
abbrev ja:=@PySem.Heap.get?_push_of_some
abbrev jb:=@Option.some.inj
abbrev jc:=@Nat.le_refl
abbrev jd:=@List.getElem?_set_ne
abbrev je:=@PySem.Heap.get?_push_size
abbrev jf:=@List.mem_cons_self
abbrev jg:=@List.map_cons
abbrev jh:=@Nat.ne_of_lt
abbrev ji:=@Nat.lt_of_lt_of_le
abbrev jj:=@List.mem_cons_of_mem
abbrev jk:=@List.length_cons
abbrev jl:=@List.size_toArray
abbrev jm:=@List.length_append
abbrev jn:=@PySem.wpAny_field
abbrev jo:=@PySem.wpAny_call_entry
abbrev jq:=@PySem.wpAny_newObj_type
abbrev jr:=@PySem.wpAny_holding
abbrev jt:=@List.mem_append_right
abbrev ju:=@List.getElem?_map
abbrev jv:=@List.getElem?_set_self
abbrev jw:=@List.getElem?_eq_getElem
abbrev jx:=@List.map_map
abbrev jy:=@Nat.le_trans
abbrev jz:=@PySem.wpAny_mono
abbrev x4:=@List.length_set
abbrev x5:=@PySem.PassesOwn.never
abbrev x6:=@PySem.wpAny_seqItems
abbrev x8:=@PySem.F.plain_min_loop
abbrev x9:=@Nat.lt_irrefl
abbrev xc:=@PySem.wpAny_dictEntries
abbrev xf:=@PySem.wpAny_callSpecial?_slot
abbrev xg:=@PySem.Heap.get?_update_other
abbrev xh:=@PySem.Heap.SameBut.update
abbrev xi:=@PySem.wpAny_letGo
abbrev xj:=@List.length_replicate
abbrev xk:=@PySem.Heap.size_push
abbrev xl:=@PySem.wpAny_setField_rec
abbrev xm:=@PySem.wpAny_dictEpoch
abbrev xn:=@PySem.Paired.length
abbrev xo:=@PySem.Heap.get?_update_self
abbrev xp:=@PySem.wpAny_tryCatch
abbrev xq:=@PySem.wpAny_attempt
abbrev xr:=@PySem.plainId_quiet
abbrev xu:=@Int.toNat_natCast
abbrev xw:=@PySem.wpAny_truthy_bool
abbrev xx:=@PySem.wpAny_passesOwn
abbrev k8:=@List.mem_of_getElem?
abbrev k9:=@PySem.wpAny_setField
abbrev ka:=@List.map_append
abbrev kc:=@PySem.wpAny_pyIter_list
abbrev ke:=@List.getElem?_append_right
abbrev kf:=@List.getD_eq_getElem?_getD
abbrev kg:=@PySem.Obj.data_mapFields
abbrev kh:=@PySem.wpAny_isInstance
abbrev ki:=@PySem.codeAny_builtin
abbrev kj:=@PySem.F.entry_min_loop
abbrev kl:=@PySem.Around.under_plainId
abbrev km:=@PySem.wpAny_updateSeq
abbrev ko:=@PySem.wpAny_notOrdered_dict
abbrev kr:=@PySem.wpAny_pyNext_list_item
abbrev ku:=@PySem.wpAny_Call_Name_kw
abbrev v9:=@List.getElem?_append_left
abbrev va:=@List.getElem?_replicate
abbrev vc:=@PySem.F.slot_tuple_iterator_next
abbrev vd:=@PySem.F.slot_dict_keyiterator_next
abbrev ve:=@PySem.wpAny_typeNameOfWhole_keyiter
abbrev vf:=@PySem.F.slot_dict_itemiterator_next
abbrev vg:=@PySem.wpAny_typeNameOfWhole_itemiter
abbrev vh:=@PySem.F.slot_dict_valueiterator_next
abbrev vk:=@PySem.wpAny_typeNameOfWhole_valiter
namespace L2
open PySem PySem.Spec PyProof.Rows
abbrev Key:=Sum Int Str
def qa0:Key->Value->Bool
 |.inl k,v=>Value.isInt k v
 |.inr x,v=>Value.isStrOf x v
def keyH(w:World):Key->Int
 |.inl k=>hashInt k
 |.inr x=>hashStr w x
theorem q13:∀{k:Key} {v:Value},qa0 k v=true->(∃i t,k=Sum.inl i/\v=Value.int i t)∨(∃x t,k=Sum.inr x/\v=Value.str x t)
 | .inl i,v,h=>by
   obtain⟨t,e⟩:=Value.isInt_shape (k:=i) (v:=v) h
   exact .inl ⟨i,t,rfl,e⟩
 | .inr x,v,h=>by
   obtain⟨t,e⟩:=Value.isStrOf_shape (x:=x) (v:=v) h
   exact .inr ⟨x,t,rfl,e⟩
theorem qc6(i:Int)(t:Tok):qa0 (.inl i) (.int i t)=true:=by simp[qa0,Value.isInt]
theorem qc5(x:Str)(t:Tok):qa0 (.inr x) (.str x t)=true:=by simp[qa0,Value.isStrOf]
theorem qkl(a b:Int):decide ((Sum.inl a:Key)=Sum.inl b)=(a==b):=by
 by_cases e:a=b
 · subst e;simp
 · have h:¬(Sum.inl a:Key)=Sum.inl b:=λq=>e (Sum.inl.inj q)
   rw[decide_eq_false h]
   exact(beq_eq_false_iff_ne.mpr e).symm
theorem qki(a b:Str):decide ((Sum.inr a:Key)=Sum.inr b)=decide (a=b):=by
 by_cases e:a=b
 · subst e;simp
 · have h:¬(Sum.inr a:Key)=Sum.inr b:=λq=>e (Sum.inr.inj q)
   rw[decide_eq_false h,decide_eq_false e]
theorem qkk(a:Int)(b:Str):decide ((Sum.inl a:Key)=Sum.inr b)=false:=decide_eq_false (λq=>nomatch q)
theorem qkj(a:Str)(b:Int):decide ((Sum.inr a:Key)=Sum.inl b)=false:=decide_eq_false (λq=>nomatch q)
def q10(prog:Program)(w:World):PySem.KeyKind prog w Key where
 is:=qa0
 hash:=keyH w
 inj:=λv a b ha hb=>by
   rcases q13 ha with⟨i,t,rfl,rfl⟩|⟨x,t,rfl,rfl⟩
   · rcases q13 hb with⟨j,u,rfl,e⟩|⟨y,u,rfl,e⟩
     · injection e with e1 _;rw[e1]
     · exact nomatch e
   · rcases q13 hb with⟨j,u,rfl,e⟩|⟨y,u,rfl,e⟩
     · exact nomatch e
     · injection e with e1 _;rw[e1]
 byValue:=λk v h=>by
   rcases q13 h with⟨i,t,rfl,rfl⟩|⟨x,t,rfl,rfl⟩<;>rfl
 pyHash:=λhv h=>by
   rcases q13 hv with⟨i,t,rfl,rfl⟩|⟨x,t,rfl,rfl⟩
   · exact wpAny_pyHash_int h
   · exact wpAny_pyHash_str h
 eqBool:=λhu hv h=>by
   rcases q13 hu with⟨i,t,rfl,rfl⟩|⟨x,t,rfl,rfl⟩
   · rcases q13 hv with⟨j,u,rfl,rfl⟩|⟨y,u,rfl,rfl⟩
     · rw[qkl]at h;exact wpAny_eqBool_int h
     · rw[qkk]at h;exact SeqAt.EqAt.int_str i t y u _ _ _ _ h
   · rcases q13 hv with⟨j,u,rfl,rfl⟩|⟨y,u,rfl,rfl⟩
     · rw[qkj]at h;exact SeqAt.EqAt.str_int x t j u _ _ _ _ h
     · rw[qki]at h;exact wpAny_eqBool_str h
 «strs»:=λk x t v h=>by
   rcases q13 h with⟨i,u,rfl,e⟩|⟨y,u,rfl,e⟩
   · exact nomatch e
   · injection e with e1 _
     subst e1
     cases v<;>rfl
theorem q7y(prog:Program)(w:World)(i:Int)(t:Tok):(q10 prog w).is (.inl i) (.int i t)=true:=qc6 i t
theorem q7x(prog:Program)(w:World)(x:Str)(t:Tok):(q10 prog w).is (.inr x) (.str x t)=true:=qc5 x t
inductive V where
 |non|bl (b:Bool)|int (i:Int)|str (x:Str)|byt (b:Array UInt8)|flt (b:UInt64)|ref (a:Addr)|ty (n:String)
 deriving DecidableEq
def RelV:V->Value->Prop
 |.non,u=>u=Value.none
 |.bl b,u=>u=Value.bool b
 |.int i,u=>∃t,u=Value.int i t
 |.str x,u=>∃t,u=Value.str x t
 |.byt b,u=>∃t,u=Value.bytes b t
 |.flt b,u=>∃t,u=Value.float b t
 |.ref a,u=>u=Value.ref a
 |.ty n,u=>u=Value.type n
abbrev Vals:List V->List Value->Prop:=Paired RelV
theorem Vals.length{xs:List V}{us:List Value}(r:Vals xs us):xs.length=us.length:=xn r
theorem Vals.get:∀{xs:List V} {us:List Value} {i:Nat} {x:V},Vals xs us->xs[i]? =some x->∃u,us[i]? =some u/\RelV x u
 |_,_,_,_,.nil,e=>by simp at e
 |_,_,0,_,.cons r _,e=>by simp at e;subst e;exact⟨_,rfl,r⟩
 | _,_,i+1,x,.cons _ t,e=>by
   obtain⟨u,h1,h2⟩:=Vals.get (i:=i) (x:=x) t (by simpa using e)
   exact⟨u,by simpa using h1,h2⟩
theorem Vals.set{x:V}{u:Value}(r:RelV x u):∀{xs:List V} {us:List Value} (i:Nat),Vals xs us->Vals (xs.set i x) (us.set i u)
 |_,_,_,.nil=>.nil
 |_,_,0,.cons _ t=>.cons r t
 |_,_,i+1,.cons q t=>.cons q (Vals.set r i t)
theorem Vals.append:∀{xs ys:List V} {us ws:List Value},Vals xs us->Vals ys ws->Vals (xs++ys) (us++ws)
 |_,_,_,_,.nil,s=>s
 |_,_,_,_,.cons r t,s=>.cons r (Vals.append t s)
theorem Vals.take:∀{xs:List V} {us:List Value} (n:Nat),Vals xs us->Vals (xs.take n) (us.take n)
 |_,_,0,_=>.nil
 |_,_,_+1,.nil=>.nil
 |_,_,n+1,.cons r t=>.cons r (Vals.take n t)
theorem Vals.drop:∀{xs:List V} {us:List Value} (n:Nat),Vals xs us->Vals (xs.drop n) (us.drop n)
 |_,_,0,r=>r
 |_,_,_+1,.nil=>.nil
 |_,_,n+1,.cons _ t=>Vals.drop n t
def RelO:Option V->Option Value->Prop
 |some v,some u=>RelV v u
 |none,none=>True
 |_,_=>False
def KV{κ:Type}:List (κ×V)->List (κ×Value)->Prop:=Paired λ(p:κ×V) (q:κ×Value)=>p.1=q.1/\RelV p.2 q.2
def kV:Key->V
 |.inl i=>.int i
 |.inr x=>.str x
inductive HO where
 |lst (xs:List V)
 |tup (xs:List V)
 |dK (kvs:List (Key×V))|dT (kvs:List (List Key×V))
 |set (S:Int->Bool) (n:Nat)
 |ins (C dx:Addr) (fs:List (Str×V))
 |own (x:Addr)
 |xd (fs:List (Str×V))
 |met (f x:Addr)
 |rng (lo hi:Int)
 |frz (o:Obj) (u:HO)
 |tbl (ps:Array Value)
 |lam (pos:Pos) (q:Str)
 |ext (φ:Heap->Prop)
abbrev Hp:=Addr->Option HO
def upd(H:Hp)(a:Addr)(o:HO):Hp:=λb=>if b=a then some o else H b
theorem q0a{H:Hp}{a:Addr}{o:HO}:upd H a o a=some o:=by unfold upd;rw[if_pos rfl]
theorem q05{H:Hp}{a b:Addr}{o:HO}(h:b≠a):upd H a o b=H b:=by unfold upd;rw[if_neg h]
theorem qmb{H:Hp}{a b:Addr}{o u:HO}(h:H a=some o)(h':H b=some u)(d:o≠u):a≠b:=by
 intro e;subst e;rw[h]at h';exact d (jb h')
theorem q0k{H:Hp}{a b:Addr}{o:HO}(h:H a=some o)(h':H b=none):a≠b:=by
 intro e;subst e;rw[h]at h';cases h'
def TupN(h:Heap)(a:Addr)(items:Array Value):Prop:=∃o,h.get? a=some o/\(o.cls=.type "tuple"/\∃n,o.data=.seq items n)/\o.dict=none
theorem TupN.tup{h:Heap}{a:Addr}{items:Array Value}(x:TupN h a items):IsTup h a items:=let ⟨o,e,c,_⟩:=x;⟨o,e,c⟩
theorem TupN.lt{h:Heap}{a:Addr}{items:Array Value}(x:TupN h a items):a<h.objs.size:=let ⟨_,e,_⟩:=x;j8 e
theorem TupN.new(h:Heap)(items:Array Value):TupN (h.push {cls:=.type "tuple",data:=.seq items}) h.objs.size items:=⟨_,je _ rfl,⟨rfl,_,rfl⟩,rfl⟩
def DictN{P:Program}{w:World}{κ:Type}[DecidableEq κ](knd:KeyKind P w κ)(h:Heap)(a:Addr)(kvs:List (κ×Value))(n:Nat):Prop:=∃o es,h.get? a=some o/\o.ExactDict/\o.data=.dict es n/\KeysOf knd es/\Pairs knd es.toList kvs/\(kvs.map (·.1)).Nodup
theorem DictN.of{P:Program}{w:World}{κ:Type}[DecidableEq κ]{knd:KeyKind P w κ}{h:Heap}{a:Addr}{kvs:List (κ×Value)}{n:Nat}(x:DictN knd h a kvs n):h.DictOf knd a kvs:=let ⟨o,es,r⟩:=x;⟨o,es,n,r⟩
section
variable(P:Program)(w:World)
def ObjOk(H:Hp)(h:Heap)(a:Addr):HO->Prop
 |.lst xs=>xs.length<=sizeLine/\∃(its:List Value) (n:Nat),Vals xs its/\h.get? a=some {cls:=.type "list",data:=.seq its.toArray n}
 |.tup xs=>xs.length<=sizeLine/\∃its:List Value,Vals xs its/\TupN h a its.toArray
 |.dK kvs=>kvs.length<=sizeLine/\(a==sysModules)=false/\∃vs,KV kvs vs/\DictN (q10 P w) h a vs kvs.length
 |.dT kvs=>kvs.length<=sizeLine/\(a==sysModules)=false/\∃xs:List (List Key×Addr×Value),
     Paired (λ(p:List Key×V) (q:List Key×Addr×Value)=>p.1=q.1/\H q.2.1=some (.tup (p.1.map kV))/\RelV p.2 q.2.2) kvs xs/\
     ∃o es ep,h.get? a=some o/\o.ExactDict/\o.data=.dict es ep/\es.toList=xs.map (entryOfKey (tupleKind (q10 P w)))/\(xs.map (·.1)).Nodup/\ep=kvs.length
 |.set S n=>h.SetOf (intKind P w) a S n
 |.ins C dx fs=>H dx=some (.own a)/\fs.length<=1000/\dx≠a/\h.get? a=some (PySem.W.instObj C dx)/\
     ∃mA,h.Ns1 dx mA/\(∀f,RelO (fs.lookup f) (mA f))/\PySem.Within mA (fs.map (·.1))
 |.own _=>∃o,h.get? a=some o
 |.xd fs=>∃mA,h.Ns1 a mA/\∀f,RelO (fs.lookup f) (mA f)
 |.rng lo hi=>∃t u v,h.get? a=some {cls:=.type "range",data:=.fields #[.int lo t,.int hi u,.int 1 v]}
 |.frz o u=>h.get? a=some o/\ObjOk H h a u
 |.tbl ps=>h.get? a=some {cls:=.none,data:=.fields ps}
 |.lam pos q=>∃ps:Array Value,h.get? a=some {cls:=.none,data:=.fields ps}/\TriplesOk ps.toList/\(codeAmong pos ps.toList=none∨∃c',codeAmong pos ps.toList=some (.ref c')/\H c'=some (.own a)/\h.CodeRec (.ref c') q)
 |.met f x=>h.get? a=some (PySem.W.methodObj (.ref f) (.ref x))
 |.ext φ=>φ h/\(∃o,h.get? a=some o)/\∀h1 h2:Heap,φ h1->(∀o,h1.get? a=some o->h2.get? a=some o)->φ h2
def HOk(H:Hp)(h:Heap):Prop:=∀a o,H a=some o->ObjOk P w H h a o
end
section
variable{P:Program}{w:World}{H H':Hp}{h h':Heap}{a:Addr}{o:HO}
theorem ObjOk.lt(x:ObjOk P w H h a o):a<h.objs.size:=by
 cases o with
 |lst xs=>obtain⟨_,_,_,_,e⟩:=x;exact j8 e
 |tup xs=>obtain⟨_,_,_,p⟩:=x;exact p.lt
 |dK kvs=>obtain⟨_,_,_,_,o,_,e,_⟩:=x;exact j8 e
 |dT kvs=>obtain⟨_,_,_,_,o,_,_,e,_⟩:=x;exact j8 e
 |set S n=>obtain⟨o,_,_,_,e,_⟩:=x;exact j8 e
 |ins C dx fs=>obtain⟨_,_,_,e,_⟩:=x;exact j8 e
 |own y=>obtain⟨_,e⟩:=x;exact j8 e
 |xd fs=>obtain⟨_,⟨_,_,_,e,_⟩,_⟩:=x;exact j8 e
 |rng lo hi=>obtain⟨_,_,_,e⟩:=x;exact j8 e
 |frz ob u=>obtain⟨e,_⟩:=x;exact j8 e
 |tbl ps=>exact j8 (show h.get? a=some _ from x)
 |lam pos q=>obtain⟨_,e,_⟩:=x;exact j8 e
 |met f y=>exact j8 (show h.get? a=some _ from x)
 |ext φ=>obtain⟨_,⟨_,e⟩,_⟩:=x;exact j8 e
theorem Paired.mapP{α β:Type}{F G:α->β->Prop}:∀{l₁:List α} {l₂:List β},Paired F l₁ l₂->(∀a b,F a b->G a b)->Paired G l₁ l₂
 |_,_,.nil,_=>.nil
 |_,_,.cons r t,f=>.cons (f _ _ r) (Paired.mapP t f)
theorem ObjOk.stay(x:ObjOk P w H h a o)(k:∀b u,(b=a∨H b=some (.own a))->h.get? b=some u->h'.get? b=some u)
   (ho:∀b,H b=some (.own a)->H' b=some (.own a)) (ht:∀b xs,H b=some (.tup xs)->H' b=some (.tup xs)):ObjOk P w H' h' a o:=by
 induction o with
 |lst xs=>obtain⟨z,its,n,r,e⟩:=x;exact⟨z,its,n,r,k _ _ (.inl rfl) e⟩
 |tup xs=>obtain⟨z,its,r,ob,e,c⟩:=x;exact⟨z,its,r,ob,k _ _ (.inl rfl) e,c⟩
 |dK kvs=>obtain⟨z,y,vs,r,ob,es,e,c⟩:=x;exact⟨z,y,vs,r,ob,es,k _ _ (.inl rfl) e,c⟩
 | dT kvs=>
   obtain⟨z,y,xs,r,ob,es,ep,e,c⟩:=x
   exact⟨z,y,xs,Paired.mapP r λp q z=>⟨z.1,ht _ _ z.2.1,z.2.2⟩,ob,es,ep,k _ _ (.inl rfl) e,c⟩
 |set S n=>obtain⟨ob,es,ep,t,e,c⟩:=x;exact⟨ob,es,ep,t,k _ _ (.inl rfl) e,c⟩
 | ins C dx fs=>
   obtain⟨d,z,ne,e,mA,⟨od,es,ep,e2,c⟩,r⟩:=x
   exact⟨ho _ d,z,ne,k _ _ (.inl rfl) e,mA,⟨od,es,ep,k _ _ (.inr d) e2,c⟩,r⟩
 |own y=>obtain⟨ob,e⟩:=x;exact⟨ob,k _ _ (.inl rfl) e⟩
 |xd fs=>obtain⟨mA,⟨od,es,ep,e,c⟩,r⟩:=x;exact⟨mA,⟨od,es,ep,k _ _ (.inl rfl) e,c⟩,r⟩
 |rng lo hi=>obtain⟨t,u,v,e⟩:=x;exact⟨t,u,v,k _ _ (.inl rfl) e⟩
 |frz ob u ih=>obtain⟨e,q⟩:=x;exact⟨k _ _ (.inl rfl) e,ih q⟩
 | tbl ps=>
   have e:h.get? a=some {cls:=.none,data:=.fields ps}:=x
   show h'.get? a=some {cls:=.none,data:=.fields ps}
   exact k a _ (.inl rfl) e
 | lam pos q=>
   obtain⟨ps,e,t,r⟩:=x
   refine⟨ps,k _ _ (.inl rfl) e,t,?_⟩
   rcases r with r|⟨c',r1,r2,c,oc,vs,tq,hc,hoc,hd,hq⟩
   · exact .inl r
   · cases hc
     exact .inr ⟨c',r1,ho _ r2,c',oc,vs,tq,rfl,k _ _ (.inr r2) hoc,hd,hq⟩
 | met f y=>
   have e:h.get? a=some (PySem.W.methodObj (.ref f) (.ref y)):=x
   show h'.get? a=some (PySem.W.methodObj (.ref f) (.ref y))
   exact k a _ (.inl rfl) e
 |ext φ=>obtain⟨p,⟨o,e⟩,st⟩:=x;exact⟨st _ _ p λo q=>k _ _ (.inl rfl) q,⟨o,k _ _ (.inl rfl) e⟩,st⟩
theorem HOk.lt(x:HOk P w H h)(e:H a=some o):a<h.objs.size:=(x a o e).lt
theorem HOk.fresh(x:HOk P w H h)(e:h.objs.size<=a):H a=none:=by
 cases q:H a with
 |none=>rfl
 |some u=>exact absurd (ji (x.lt q) e) (x9 _)
theorem HOk.kept(x:HOk P w H h)(k:∀b u,h.get? b=some u->h'.get? b=some u):HOk P w H h':=λa o e=>
 (x a o e).stay (λb u _ q=>k b u q) (λ_ q=>q) λ_ _ q=>q
theorem HOk.laid(x:HOk P w H h)(k:∀b u,h.get? b=some u->h'.get? b=some u)(hp:h.objs.size<=a)(new:ObjOk P w (upd H a o) h' a o):HOk P w (upd H a o) h':=λb u e=>by
 have hn:=x.fresh hp
 by_cases hb:b=a
 · subst hb;rw[q0a]at e;cases e;exact new
 · rw[q05 hb]at e
   exact(x b u e).stay (λc v _ q=>k c v q) (λc q=>by rw[q05 (q0k q hn)];exact q) λc xs q=>by rw[q05 (q0k q hn)];exact q
end
def Rd(H:Hp)(a:Addr)(u:HO):Prop:=H a=some u∨∃o,H a=some (.frz o u)
theorem Rd.ok{P:Program}{w:World}{H:Hp}{h:Heap}{a:Addr}{u:HO}(r:Rd H a u)(x:HOk P w H h):ObjOk P w H h a u:=by
 rcases r with r|⟨o,r⟩
 · exact x a u r
 · obtain⟨_,q⟩:=x a _ r
   exact q
def Mut:Option HO->Prop
 |some (.lst _)=>True
 |some (.dK _)=>True
 |some (.dT _)=>True
 |some (.set _ _)=>True
 |some (.ins _ _ _)=>True
 |some (.ext _)=>True
 |some (.lam _ _)=>True
 |_=>False
section
variable{P:Program}{w:World}{H:Hp}{h h':Heap}{x e:Addr}{o':HO}
theorem HOk.write(ok:HOk P w H h)(mu:Mut (H x))(he:e=x∨H e=some (.own x))(k:∀b u,b≠e->h.get? b=some u->h'.get? b=some u)(heo:∃u,h'.get? e=some u)
   (new:ObjOk P w (upd H x o') h' x o'):HOk P w (upd H x o') h':=λb u q=>by
 have nown:∀c y,H c=some (.own y)->c≠x:=λc y r z=>by subst z;rw[r]at mu;exact mu
 have ntup:∀c xs,H c=some (.tup xs)->c≠x:=λc xs r z=>by subst z;rw[r]at mu;exact mu
 by_cases hb:b=x
 · subst hb;rw[q0a]at q;cases q;exact new
 · rw[q05 hb]at q
   by_cases hbe:b=e
   · have q':H b=some (.own x):=by
       rcases he with z|z
       · exact absurd (hbe.trans z) hb
       · rw[hbe];exact z
     rw[q]at q';cases q'
     obtain⟨v,hv⟩:=heo
     exact⟨v,by rw[hbe];exact hv⟩
   · refine(ok b u q).stay (λc v hc r=>k c v ?_ r) (λc r=>by rw[q05 (nown c b r)];exact r) λc xs r=>by rw[q05 (ntup c xs r)];exact r
     rcases hc with rfl|hc
     · exact hbe
     · rintro rfl
       rcases he with z|z
       · exact nown c b hc z
       · rw[hc]at z;cases z;exact hb rfl
end
structure Un(fs ex:List Addr)(H H':Hp)(h h':Heap):Prop where
 keep:∀b o,h.get? b=some o->H b=none->b∉fs->b∉ex->h'.get? b=some o
 slot:∀b o,h.get? b=some o->H b=none->b∈fs->b∉ex->∃sl,h'.get? b=some {o with slots:=sl}
 free:∀b o,h.get? b=some o->H b=none->b∉ex->H' b=none
 there:∀b o,h.get? b=some o->b∉ex->∃o',h'.get? b=some o'
 tups:∀b xs,H b=some (.tup xs)->H' b=some (.tup xs)
 frzs:∀b o u,H b=some (.frz o u)->H' b=some (.frz o u)
 tbls:∀b ps,H b=some (.tbl ps)->∃more,H' b=some (.tbl (ps++more))
section
variable{fs fs' ex ex':List Addr}{H H1 H2:Hp}{h h1 h2 h':Heap}{a x e:Addr}{o:HO}
theorem Un.any(u:Un fs ex H H1 h h1){b:Addr}{ob:Obj}(q:h.get? b=some ob)(n:H b=none)(hx:b∉ex):∃sl,h1.get? b=some {ob with slots:=sl}:=by
 by_cases hb:b∈fs
 · exact u.slot b ob q n hb hx
 · exact⟨ob.slots,u.keep b ob q n hb hx⟩
theorem Un.trans(a:Un fs ex H H1 h h1)(b:Un fs ex H1 H2 h1 h2):Un fs ex H H2 h h2 where
 keep:=λc ob q n hc hx=>b.keep c ob (a.keep c ob q n hc hx) (a.free c ob q n hx) hc hx
 slot:=λc ob q n hc hx=>by
   obtain⟨sl,e1⟩:=a.slot c ob q n hc hx
   obtain⟨sl',e2⟩:=b.slot c _ e1 (a.free c ob q n hx) hc hx
   exact⟨sl',e2⟩
 free:=λc ob q n hx=>by
   obtain⟨o',e1⟩:=a.there c ob q hx
   exact b.free c o' e1 (a.free c ob q n hx) hx
 there:=λc ob q hx=>by
   obtain⟨o',e1⟩:=a.there c ob q hx
   exact b.there c o' e1 hx
 tups:=λc xs q=>b.tups c xs (a.tups c xs q)
 frzs:=λc ob xs q=>b.frzs c ob xs (a.frzs c ob xs q)
 tbls:=λc ps q=>by
   obtain⟨m1,e1⟩:=a.tbls c ps q
   obtain⟨m2,e2⟩:=b.tbls c _ e1
   exact⟨m1++m2,by rw[e2,Array.append_assoc]⟩
theorem Un.kept(k:∀b u,h.get? b=some u->h'.get? b=some u):Un fs ex H H h h':=
 ⟨λb ob q _ _ _=>k b ob q,λb ob q _ _ _=>⟨ob.slots,k b ob q⟩,λ_ _ _ n _=>n,λb ob q _=>⟨ob,k b ob q⟩,λ_ _ q=>q,λ_ _ _ q=>q,λ_ ps q=>⟨#[],by rw[q];simp⟩⟩
theorem Un.refl:Un fs ex H H h h:=Un.kept λ_ _ q=>q
theorem Un.laid(k:∀b u,h.get? b=some u->h'.get? b=some u)(hp:h.objs.size<=a)(hn:H a=none):Un fs ex H (upd H a o) h h' where
 keep:=λb u q _ _ _=>k b u q
 slot:=λb u q _ _ _=>⟨u.slots,k b u q⟩
 free:=λb u q n _=>by rw[q05 (jh (ji (j8 q) hp))];exact n
 there:=λb u q _=>⟨u,k b u q⟩
 tups:=λb xs q=>by rw[q05 (q0k q hn)];exact q
 frzs:=λb u xs q=>by rw[q05 (q0k q hn)];exact q
 tbls:=λb ps q=>⟨#[],by rw[q05 (q0k q hn),q];simp⟩
theorem Un.write(mu:Mut (H x))(he:e=x∨H e=some (.own x))(k:∀b u,b≠e->h.get? b=some u->h'.get? b=some u)(heo:∃u,h'.get? e=some u):Un fs ex H (upd H x o) h h':=by
 have hx:∀b,H b=none->b≠x:=λb n z=>by subst z;rw[n]at mu;exact mu
 have hb:∀b,H b=none->b≠e:=λb n z=>by
   subst z
   rcases he with r|r
   · exact hx b n r
   · rw[n]at r;cases r
 have hm:∀b u,H b=some u->¬Mut (some u)->b≠x:=λb u q nm z=>by subst z;rw[q]at mu;exact nm mu
 refine⟨λb u q n _ _=>k b u (hb b n) q,λb u q n _ _=>⟨u.slots,k b u (hb b n) q⟩,λb u q n _=>by rw[q05 (hx b n)];exact n,λb u q _=>?_,
   λb xs q=>by rw[q05 (hm b _ q λz=>z)];exact q,λb u xs q=>by rw[q05 (hm b _ q λz=>z)];exact q,λb ps q=>⟨#[],by rw[q05 (hm b _ q λz=>z),q];simp⟩⟩
 by_cases hbe:b=e
 · subst hbe;exact heo
 · exact⟨u,k b u hbe q⟩
theorem Un.mono(u:Un fs ex H H1 h h1)(hs:∀b∈fs,b∈fs')(hx:∀b∈ex,b∈ex'):Un fs' ex' H H1 h h1:=
 ⟨λb ob q n hb he=>u.keep b ob q n (λz=>hb (hs b z)) λz=>he (hx b z),λ_ _ q n _ he=>u.any q n λz=>he (hx _ z),λb ob q n he=>u.free b ob q n λz=>he (hx b z),λb ob q he=>u.there b ob q λz=>he (hx b z),u.tups,u.frzs,u.tbls⟩
end
def trk(h:Heap)(H:Hp):List Addr:=(List.range h.objs.size).filter λa=>(H a).isSome
def hidT(h:Heap)(H:Hp):Heap:=PySem.W.hideAll h (trk h H)
theorem qce(h:Heap)(H:Hp):(hidT h H).objs.size=h.objs.size:=PySem.W.hideAll_size _ _
theorem qea{h:Heap}{H:Hp}{b:Addr}{o:Obj}(e:h.get? b=some o)(n:H b=none):(hidT h H).get? b=some o:=
 PySem.W.hideAll_get _ e λhm=>by
   have q:(H b).isSome=true:=(List.mem_filter.mp hm).2
   rw[n]at q;simp at q
theorem qgj{h:Heap}{H:Hp}{b:Addr}{o:Obj}(e:(hidT h H).get? b=some o):h.get? b=some o/\H b=none:=by
 have e':h.get? b=some o:=PySem.W.of_hideAll (trk h H) e
 refine⟨e',?_⟩
 cases q:H b with
 |none=>rfl
 | some x=>
   have hm:b∈trk h H:=List.mem_filter.mpr ⟨List.mem_range.mpr (j8 e'),by simp[q]⟩
   have z:(hidT h H).get? b=none:=PySem.W.hideAll_none (trk h H) hm
   rw[z]at e;cases e
structure Mod(K:PySem.W.Frag)(mg:Str->Option Value)(base:Heap):Prop where
 kin:K.In base
 glob:base.Ns mainGlobals mg
 blt:∃mb,base.Ns builtinsNs mb/\∀x:Str,x≠"__name__"->mb x=bootBuiltins x
 nolimit:base.NoLimit
structure Cx where
 prog:Program
 w:World
 K:PySem.W.Frag
 mg:Str->Option Value
 base:Heap
 A:Around
 N:List Str
 s₀:Shared
 H₀:Hp
 env:Env
 outer:List Env
 stack:List Env
 ex:List Addr
 fn:Str->Bool
 calm:Bool
 pn:List (Addr×Obj)
 xe:Value->Shared->Prop
def frs(l:List Env):List Addr:=l.filterMap (·.frame)
abbrev Cx.fs(X:Cx):List Addr:=frs X.outer
def Vis(sc:Scope)(x:Str):Prop:=sc.names.lookup x=some .local∨sc.names.lookup x=some .cell∨sc.names.lookup x=some .free
def Loc(sc:Scope)(x:Str):Prop:=sc.names.lookup x=some .local∨sc.names.lookup x=some .cell
def Look(env:Env)(h:Heap)(m:Str->Option Value)(x:Str)(u:Value):Prop:=
 (env.kindOf x=some .local/\m x=some u)∨((env.kindOf x=some .cell∨env.kindOf x=some .free)/\∃c,env.cells.lookup x=some c/\h.IsCell c (some u))
structure Cx.Ok(X:Cx):Prop where
 mod:Mod X.K X.mg X.base
 kind:X.env.scope.kind=.function
 glob:X.env.globals=mainGlobals
 blt:X.env.builtins=builtinsNs
 above:X.s₀.heap.objs.size<=X.env.locals
 inj:∀x y c,X.env.cells.lookup x=some c->X.env.cells.lookup y=some c->x=y
 has:∀x,(X.env.kindOf x=some .cell∨X.env.kindOf x=some .free)->∃c,X.env.cells.lookup x=some c
 cab:∀x c,X.fn x=true->X.env.cells.lookup x=some c->X.s₀.heap.objs.size<=c
 hd:X.calm=true->X.A.handled=none
 frames:X.A.frames=some X.stack
 stk:X.stack=X.outer∨(X.stack=X.env::X.outer/\X.env.frame=some X.env.locals)
 exf:∀b∈X.ex,b≠X.env.locals/\∀x c,X.env.cells.lookup x=some c->c≠b
 bs:∀b o,X.base.get? b=some o->X.s₀.heap.get? b=some o/\X.H₀ b=none
 bsz:X.base.objs.size<=X.s₀.heap.objs.size
 noex:∀b o,X.base.get? b=some o->b∉X.ex
 exfs:∀b∈X.ex,b∉X.fs
 funs:X.s₀.heap.FunFrames X.base X.outer
 frf:∀b∈X.fs,X.H₀ b=none
structure Inv(X:Cx)(z4:List (Addr×Obj))(σ:List (Option V))(H:Hp)(s:Shared):Prop where
 ok:X.Ok
 os:s.os=X.s₀.os
 bare:AllBare s.gens
 base:Un X.fs X.ex X.H₀ H X.s₀.heap s.heap
 loc:∃m,s.heap.Ns X.env.locals m/\∀(i:Nat) (x:Str) (v:V),X.N[i]? =some x->σ[i]? =some (some v)->Vis X.env.scope x->∃u,RelV v u/\Look X.env s.heap m x u
 cell:∀x c,X.env.cells.lookup x=some c->∃v,s.heap.IsCell c v
 free:H X.env.locals=none
 freeC:∀x c,X.env.cells.lookup x=some c->H c=none
 pin:∀p∈X.pn++z4,s.heap.get? p.1=some p.2/\H p.1=none/\p.1≠X.env.locals/\p.1∉X.fs/\∀v,p.2.data≠.cell v
 hok:HOk X.prog X.w H s.heap
 len:σ.length=X.N.length
section
variable{X:Cx}{z4:List (Addr×Obj)}{σ:List (Option V)}{H H':Hp}{s:Shared}{h':Heap}
theorem Cx.Ok.nofr(ok:X.Ok){b:Addr}{o:Obj}(e:X.base.get? b=some o):b∉X.fs:=λhb=>by
 have:=(ok.funs.mem hb).1
 rw[e]at this;cases this
theorem Inv.bs(I:Inv X z4 σ H s):∀b o,X.base.get? b=some o->s.heap.get? b=some o/\H b=none:=λb o e=>
 ⟨I.base.keep b o (I.ok.bs b o e).1 (I.ok.bs b o e).2 (I.ok.nofr e) (I.ok.noex b o e),I.base.free b o (I.ok.bs b o e).1 (I.ok.bs b o e).2 (I.ok.noex b o e)⟩
theorem Inv.bk(I:Inv X z4 σ H s):∀b o,X.base.get? b=some o->s.heap.get? b=some o:=λb o e=>(I.bs b o e).1
theorem Inv.mod(I:Inv X z4 σ H s):Mod X.K X.mg X.base:=I.ok.mod
theorem Inv.kIn(I:Inv X z4 σ H s):X.K.In s.heap:=I.ok.mod.kin.keeps I.bk
theorem Inv.fr(I:Inv X z4 σ H s):∃m,Fr X.base X.env.locals s.heap m:=
 let ⟨m,hn,_⟩:=I.loc
 ⟨m,hn,I.bk,jy I.ok.bsz I.ok.above⟩
theorem Inv.lt(I:Inv X z4 σ H s):X.env.locals<s.heap.objs.size:=let ⟨_,hn,_⟩:=I.loc;hn.lt
theorem Inv.sz(I:Inv X z4 σ H s):X.s₀.heap.objs.size<=s.heap.objs.size:=jy I.ok.above (Nat.le_of_lt I.lt)
theorem Inv.nofs(I:Inv X z4 σ H s){a:Addr}(h:s.heap.objs.size<=a):a∉X.fs:=λhb=>by
 obtain⟨_,o,ho,_⟩:=I.ok.funs.mem hb
 exact absurd (ji (j8 ho) (jy I.sz h)) (x9 _)
theorem Inv.cne(I:Inv X z4 σ H s):∀x c,X.env.cells.lookup x=some c->c≠X.env.locals:=λx c e z=>by
 obtain⟨v,o,ho,hd⟩:=I.cell x c e
 obtain⟨m,⟨o',es,ep,ho',hd',_⟩,_⟩:=I.loc
 rw[z,ho']at ho;cases ho;rw[hd']at hd;cases hd
theorem Inv.funs(I:Inv X z4 σ H s):s.heap.FunFrames X.base X.outer:=by
 have all:∀(l:List Env),(∀b∈frs l,b∈X.fs)->X.s₀.heap.FunFrames X.base l->s.heap.FunFrames X.base l:=by
   intro l
   induction l with
   |nil=>intro _ _;trivial
   | cons env r ih=>
     intro hs hl
     obtain⟨hk,⟨L,o,hf,hn,ho,hd⟩,hr⟩:=hl
     have hL:L∈X.fs:=hs L (by unfold frs;rw[List.filterMap_cons,hf];exact jf)
     obtain⟨sl,e⟩:=I.base.slot L o ho (I.ok.frf L hL) hL λz=>I.ok.exfs L z hL
     exact⟨hk,⟨L,_,hf,hn,e,hd⟩,ih (λb hb=>hs b (by unfold frs;rw[List.filterMap_cons,hf];exact jj _ hb)) hr⟩
 exact all X.outer (λ_ hb=>hb) I.ok.funs
theorem Inv.stack(I:Inv X z4 σ H s):s.heap.FunFrames X.base X.stack:=by
 rcases I.ok.stk with e|⟨e,hf⟩
 · rw[e];exact I.funs
 · rw[e]
   obtain⟨m,hn,_⟩:=I.loc
   refine .cons (by rw[I.ok.kind];decide) hf hn ?_ I.funs
   exact Heap.get?_none_of_le (jy I.ok.bsz I.ok.above)
theorem Inv.stkSub(I:Inv X z4 σ H s):∀b∈frs X.stack,b∈X.env.locals::X.fs:=λb hb=>by
 rcases I.ok.stk with e|⟨e,hf⟩
 · rw[e]at hb;exact jj _ hb
 · rw[e]at hb
   unfold frs at hb
   rw[List.filterMap_cons,hf]at hb
   exact hb
theorem Inv.stkFree(I:Inv X z4 σ H s):∀b∈frs X.stack,H b=none:=λb hb=>by
 rcases List.mem_cons.mp (I.stkSub b hb)with e|hb
 · rw[e];exact I.free
 · obtain⟨_,o,ho,_⟩:=I.ok.funs.mem hb
   exact I.base.free b o ho (I.ok.frf b hb) λz=>I.ok.exfs b z hb
theorem Inv.step{g':Array GenState}{t':Nat}{d':Drawn}{ch:List Addr}(I:Inv X z4 σ H s)
   (hch:∀b∈ch,(b∈X.ex∨X.s₀.heap.objs.size<=b)/\b≠X.env.locals/\(∀x c,X.env.cells.lookup x=some c->c≠b)/\∀p∈X.pn++z4,p.1≠b)
   (keep:∀b o,b≠X.env.locals->b∉X.fs->b∉ch->s.heap.get? b=some o->H b=none->h'.get? b=some o)
   (slot:∀b o,b≠X.env.locals->b∈X.fs->b∉ch->s.heap.get? b=some o->H b=none->∃sl,h'.get? b=some {o with slots:=sl}) (free:∀b o,b∉ch->s.heap.get? b=some o->H b=none->H' b=none)
   (there:∀b o,b∉ch->s.heap.get? b=some o->∃o',h'.get? b=some o')
   (tups:∀b xs,H b=some (.tup xs)->H' b=some (.tup xs)) (frzs:∀b o u,H b=some (.frz o u)->H' b=some (.frz o u)) (tbls:∀b ps,H b=some (.tbl ps)->∃more,H' b=some (.tbl (ps++more)))
   (ns:∀m,s.heap.Ns X.env.locals m->h'.Ns X.env.locals m) (hok:HOk X.prog X.w H' h') (hg:AllBare g'):
   Inv X z4 σ H' {s with heap:=h',gens:=g',drawn:=d',toks:=t'}:=by
 have neL:∀b o,X.s₀.heap.get? b=some o->b≠X.env.locals:=λb o e=>jh (ji (j8 e) I.ok.above)
 have neC:∀b o,X.s₀.heap.get? b=some o->b∉X.ex->b∉ch:=λb o e hx hb=>by
   rcases(hch b hb).1 with z|z
   · exact hx z
   · exact absurd (ji (j8 e) z) (x9 _)
 have cellK:∀x c,X.env.cells.lookup x=some c->∀v,s.heap.IsCell c v->h'.IsCell c v:=λx c e v ⟨o,ho,hd⟩=>by
   have nch:c∉ch:=λz=>(hch c z).2.2.1 x c e rfl
   by_cases hc:c∈X.fs
   · obtain⟨sl,q⟩:=slot c o (I.cne x c e) hc nch ho (I.freeC x c e)
     exact⟨_,q,hd⟩
   · exact⟨o,keep c o (I.cne x c e) hc nch ho (I.freeC x c e),hd⟩
 refine⟨I.ok,I.os,hg,⟨λb o e n hb hx=>?_,λb o e n hb hx=>?_,λb o e n hx=>?_,λb o e hx=>?_,λb xs e=>tups b xs (I.base.tups b xs e),λb o xs e=>frzs b o xs (I.base.frzs b o xs e),λb ps e=>?_⟩,?_,λx c e=>?_,?_,λx c e=>?_,λp hp=>?_,hok,I.len⟩
 · exact keep b o (neL b o e) hb (neC b o e hx) (I.base.keep b o e n hb hx) (I.base.free b o e n hx)
 · obtain⟨sl,e1⟩:=I.base.slot b o e n hb hx
   obtain⟨sl',e2⟩:=slot b _ (neL b o e) hb (neC b o e hx) e1 (I.base.free b o e n hx)
   exact⟨sl',e2⟩
 · obtain⟨o',e1⟩:=I.base.there b o e hx
   exact free b o' (neC b o e hx) e1 (I.base.free b o e n hx)
 · obtain⟨o',e1⟩:=I.base.there b o e hx
   exact there b o' (neC b o e hx) e1
 · obtain⟨m1,e1⟩:=I.base.tbls b ps e
   obtain⟨m2,e2⟩:=tbls b _ e1
   exact⟨m1++m2,by rw[e2,Array.append_assoc]⟩
 · obtain⟨m,hn,hl⟩:=I.loc
   refine⟨m,ns m hn,λi x v e1 e2 e3=>?_⟩
   obtain⟨u,r,l⟩:=hl i x v e1 e2 e3
   refine⟨u,r,?_⟩
   rcases l with l|⟨k,c,e,z⟩
   · exact .inl l
   · exact .inr ⟨k,c,e,cellK x c e _ z⟩
 · obtain⟨v,z⟩:=I.cell x c e
   exact⟨v,cellK x c e v z⟩
 · obtain⟨m,⟨o,_,_,ho,_⟩,_⟩:=I.loc
   exact free _ o (λz=>(hch _ z).2.1 rfl) ho I.free
 · obtain⟨v,o,ho,hd⟩:=I.cell x c e
   exact free c o (λz=>(hch c z).2.2.1 x c e rfl) ho (I.freeC x c e)
 · obtain⟨e,n,ne,nf,d⟩:=I.pin p hp
   have nch:p.1∉ch:=λz=>(hch p.1 z).2.2.2 p hp rfl
   exact⟨keep p.1 p.2 ne nf nch e n,free p.1 p.2 nch e n,ne,nf,d⟩
theorem Inv.un{t':Nat}(I:Inv X z4 σ H s)(u:Un X.fs [] H H' s.heap h')(hok:HOk X.prog X.w H' h'):Inv X z4 σ H' {s with heap:=h',toks:=t'}:=by
 obtain⟨m,⟨o,es,ep,ho,r⟩,_⟩:=id I.loc
 obtain⟨sl,hL⟩:=u.any ho I.free (by simp)
 exact I.step (g':=s.gens) (d':=s.drawn) (ch:=[]) (λ_ z=>nomatch z) (λb o _ hb _ e n=>u.keep b o e n hb (by simp)) (λb o _ hb _ e n=>u.slot b o e n hb (by simp)) (λb o _ e n=>u.free b o e n (by simp)) (λb o _ e=>u.there b o e (by simp)) u.tups u.frzs u.tbls (λm' hm=>by
   obtain⟨o',es',ep',ho',r'⟩:=hm
   rw[ho]at ho';cases ho'
   exact⟨_,es',ep',hL,r'⟩) hok I.bare
theorem Inv.call{g':Array GenState}{t':Nat}{d':Drawn}{ch:List Addr}(I:Inv X z4 σ H s)(u:Un (frs X.stack) ch H H' s.heap h')(hok:HOk X.prog X.w H' h')(hg:AllBare g')
   (hch:∀b∈ch,(b∈X.ex∨X.s₀.heap.objs.size<=b)/\b≠X.env.locals/\(∀x c,X.env.cells.lookup x=some c->c≠b)/\∀p∈X.pn++z4,p.1≠b):
   Inv X z4 σ H' {s with heap:=h',gens:=g',drawn:=d',toks:=t'}:=by
 obtain⟨m,⟨o,es,ep,ho,r⟩,_⟩:=id I.loc
 obtain⟨sl,hL⟩:=u.any ho I.free λz=>(hch _ z).2.1 rfl
 exact I.step (ch:=ch) hch (λb o hL hb hc e n=>u.keep b o e n (λz=>(List.mem_cons.mp (I.stkSub b z)).elim hL hb) hc) (λb o _ _ hc e n=>u.any e n hc) (λb o hc e n=>u.free b o e n hc) (λb o hc e=>u.there b o e hc) u.tups u.frzs u.tbls (λm' hm=>by
   obtain⟨o',es',ep',ho',r'⟩:=hm
   rw[ho]at ho';cases ho'
   exact⟨_,es',ep',hL,r'⟩) hok hg
theorem Inv.turned{t':Nat}{it:Addr}(I:Inv X z4 σ H s)(k:∀b o,b≠it->s.heap.get? b=some o->h'.get? b=some o)(hn:H it=none)(hL:it≠X.env.locals)
   (h1:it∈X.ex∨X.s₀.heap.objs.size<=it) (h2:∀x c,X.env.cells.lookup x=some c->c≠it) (h3:∀p∈X.pn++z4,p.1≠it):Inv X z4 σ H {s with heap:=h',toks:=t'}:=by
 have nit:∀b u,H b=some u->b≠it:=λb u e z=>by rw[z,hn]at e;cases e
 refine I.step (g':=s.gens) (d':=s.drawn) (ch:=[it]) (λb hb=>?_) (λb o _ _ hc e _=>k b o (λz=>hc (by simp[z])) e) (λb o _ _ hc e _=>⟨o.slots,k b o (λz=>hc (by simp[z])) e⟩) (λ_ _ _ _ n=>n)
   (λb o hc e=>⟨o,k b o (λz=>hc (by simp[z])) e⟩) (λ_ _ e=>e) (λ_ _ _ e=>e) (λb ps e=>⟨#[],by rw[e];simp⟩) (λm hm=>?_) (λb u e=>?_) I.bare
 · have e:b=it:=by simpa using hb
   subst e
   exact⟨h1,hL,h2,h3⟩
 · obtain⟨o,es,ep,ho,r⟩:=hm
   exact⟨o,es,ep,k _ o (Ne.symm hL) ho,r⟩
 · refine(I.hok b u e).stay (λc v hc q=>k c v ?_ q) (λ_ q=>q) λ_ _ q=>q
   rcases hc with z|z
   · rw[z];exact nit b u e
   · exact nit c _ z
theorem Inv.tok(I:Inv X z4 σ H s)(t:Nat):Inv X z4 σ H {s with toks:=t}:=I.un (h':=s.heap) (t':=t) Un.refl I.hok
theorem Inv.kept{t':Nat}(I:Inv X z4 σ H s)(k:∀b u,s.heap.get? b=some u->h'.get? b=some u):Inv X z4 σ H {s with heap:=h',toks:=t'}:=I.un (Un.kept k) (I.hok.kept k)
theorem Inv.laid{a:Addr}{o:HO}{t':Nat}(I:Inv X z4 σ H s)(k:∀b u,s.heap.get? b=some u->h'.get? b=some u)(hp:s.heap.objs.size<=a)(new:ObjOk X.prog X.w (upd H a o) h' a o):
   Inv X z4 σ (upd H a o) {s with heap:=h',toks:=t'}:=I.un (Un.laid k hp (I.hok.fresh hp)) (I.hok.laid k hp new)
theorem Inv.write{x e:Addr}{o:HO}{t':Nat}(I:Inv X z4 σ H s)(mu:Mut (H x))(he:e=x∨H e=some (.own x))(k:∀b u,b≠e->s.heap.get? b=some u->h'.get? b=some u)(heo:∃u,h'.get? e=some u)
   (new:ObjOk X.prog X.w (upd H x o) h' x o):Inv X z4 σ (upd H x o) {s with heap:=h',toks:=t'}:=I.un (Un.write mu he k heo) (I.hok.write mu he k heo new)
theorem Inv.weak{σ':List (Option V)}(I:Inv X z4 σ H s)(hl:σ'.length=σ.length)(w:∀(i:Nat) v,σ'[i]? =some (some v)->σ[i]? =some (some v)):Inv X z4 σ' H s:=
 ⟨I.ok,I.os,I.bare,I.base,let ⟨m,hn,hl'⟩:=I.loc;⟨m,hn,λi x v e1 e2 e3=>hl' i x v e1 (w i v e2) e3⟩,I.cell,I.free,I.freeC,I.pin,I.hok,hl.trans I.len⟩
theorem Inv.pins_of{pins':List (Addr×Obj)}(I:Inv X z4 σ H s)(h:∀p∈pins',s.heap.get? p.1=some p.2/\H p.1=none/\p.1≠X.env.locals/\p.1∉X.fs/\∀v,p.2.data≠.cell v):Inv X pins' σ H s:=
 ⟨I.ok,I.os,I.bare,I.base,I.loc,I.cell,I.free,I.freeC,λp hp=>(List.mem_append.mp hp).elim (λz=>I.pin p (List.mem_append_left _ z)) (h p),I.hok,I.len⟩
theorem q8x{N:List Str}(hN:N.Nodup){i j:Nat}{x:Str}(a:N[i]? =some x)(b:N[j]? =some x):i=j:=by
 obtain⟨h1,e1⟩:=List.getElem?_eq_some_iff.mp a
 obtain⟨h2,e2⟩:=List.getElem?_eq_some_iff.mp b
 exact(List.getElem_inj hN).mp (e1.trans e2.symm)
theorem qal{M:Model}{A:Around}{E:Value->Shared->Prop}{i:Nat}{x:Str}{v:V}{u:Value}{Q:Unit->Shared->Prop}(I:Inv X z4 σ H s)(hN:X.N.Nodup)(hi:X.N[i]? =some x)(hx:Loc X.env.scope x)(r:RelV v u)
   (h:∀s',Inv X z4 (σ.set i (some v)) H s'->(∃a,Heap.SameBut a s.heap s'.heap/\(a=X.env.locals∨X.env.cells.lookup x=some a))->Q () s') (hf:X.fn x=true∨X.env.scope.names.lookup x=some .local:=by first|exact .inl rfl|exact .inr rfl|assumption):wpAny M A (storeName X.env x u) Q E s:=by
 obtain⟨m,hn,hl⟩:=id I.loc
 have hcls:(X.env.scope.kind==.class||(X.env.scope.kind==.module&&X.env.locals !=X.env.globals))=false:=by rw[I.ok.kind];rfl
 have hiσ:i<σ.length:=by rw[I.len];exact(List.getElem?_eq_some_iff.mp hi).1
 have cne:=I.cne
 have tracked:∀{a:Addr} {h':Heap},(∃o,s.heap.get? a=some o/\H a=none)->Heap.SameBut a s.heap h'->HOk X.prog X.w H h':=λ{a h'} ha hs b ob e=>by
   obtain⟨_,_,hfree⟩:=ha
   refine(I.hok b ob e).stay (λc w' hc q=>(hs.2 c ?_).trans q) (λ_ q=>q) λ_ _ q=>q
   rintro rfl
   rcases hc with rfl|hc
   · rw[hfree]at e;cases e
   · rw[hfree]at hc;cases hc
 rcases hx with hk|hk
 · refine wpAny_storeName_local hk hn (λh' hn' hs=>?_) hcls
   obtain⟨oL,_,_,hoL,_⟩:=id hn
   refine h _ ⟨I.ok,I.os,I.bare,⟨λb o e n hb hx=>?_,λb o e n hb hx=>?_,I.base.free,λb o e hx=>?_,I.base.tups,I.base.frzs,I.base.tbls⟩,⟨_,hn',λj y v' e1 e2 e3=>?_⟩,λy c e=>?_,I.free,I.freeC,λp hp=>?_,tracked ⟨oL,hoL,I.free⟩ hs,by simpa using I.len⟩ ⟨_,hs,.inl rfl⟩
   · exact(hs.2 b (jh (ji (j8 e) I.ok.above))).trans (I.base.keep b o e n hb hx)
   · obtain⟨sl,e1⟩:=I.base.slot b o e n hb hx
     exact⟨sl,(hs.2 b (jh (ji (j8 e) I.ok.above))).trans e1⟩
   · obtain⟨o',e1⟩:=I.base.there b o e hx
     exact⟨o',(hs.2 b (jh (ji (j8 e) I.ok.above))).trans e1⟩
   · by_cases hj:j=i
     · subst hj
       rw[hi]at e1;cases e1
       rw[jv hiσ]at e2
       cases e2
       exact⟨u,r,.inl ⟨hk,by simp⟩⟩
     · rw[jd (Ne.symm hj)]at e2
       obtain⟨u',r',q⟩:=hl j y v' e1 e2 e3
       refine⟨u',r',?_⟩
       rcases q with⟨k,e⟩|⟨k,c,e,z⟩
       · refine .inl ⟨k,?_⟩
         have:y≠x:=λe=>hj (q8x hN e1 (e▸hi))
         simp[this,e]
       · exact .inr ⟨k,c,e,z.sameBut hs (cne y c e)⟩
   · obtain⟨w',z⟩:=I.cell y c e
     exact⟨w',z.sameBut hs (cne y c e)⟩
   · obtain⟨e,n,ne,nf,d⟩:=I.pin p hp
     exact⟨(hs.2 p.1 ne).trans e,n,ne,nf,d⟩
 · have hfn:X.fn x=true:=by
     rcases hf with z|z
     · exact z
     · rw[z]at hk;cases hk
   obtain⟨c,hc⟩:=I.ok.has x (.inl hk)
   obtain⟨w',z⟩:=I.cell x c hc
   refine wpAny_storeName_cell I.ok.kind hk hc z (λh' hc' hs=>?_)
   obtain⟨oc,hoc,hocd⟩:=id z
   refine h {s with heap:=h'} ⟨I.ok,I.os,I.bare,⟨λb o e n hb hx=>?_,λb o e n hb hx=>?_,I.base.free,λb o e hx=>?_,I.base.tups,I.base.frzs,I.base.tbls⟩,⟨m,hn.sameBut hs (Ne.symm (cne x c hc)),λj y v' e1 e2 e3=>?_⟩,λy c' e=>?_,I.free,I.freeC,λp hp=>?_,tracked ⟨oc,hoc,I.freeC x c hc⟩ hs,by simpa using I.len⟩ ⟨c,hs,.inr hc⟩
   · exact(hs.2 b (jh (ji (j8 e) (I.ok.cab x c hfn hc)))).trans (I.base.keep b o e n hb hx)
   · obtain⟨sl,e1⟩:=I.base.slot b o e n hb hx
     exact⟨sl,(hs.2 b (jh (ji (j8 e) (I.ok.cab x c hfn hc)))).trans e1⟩
   · obtain⟨o',e1⟩:=I.base.there b o e hx
     exact⟨o',(hs.2 b (jh (ji (j8 e) (I.ok.cab x c hfn hc)))).trans e1⟩
   · by_cases hj:j=i
     · subst hj
       rw[hi]at e1;cases e1
       rw[jv hiσ]at e2
       cases e2
       exact⟨u,r,.inr ⟨.inl hk,c,hc,hc'⟩⟩
     · rw[jd (Ne.symm hj)]at e2
       obtain⟨u',r',q⟩:=hl j y v' e1 e2 e3
       refine⟨u',r',?_⟩
       rcases q with q|⟨k,c',e,z'⟩
       · exact .inl q
       · refine .inr ⟨k,c',e,z'.sameBut hs ?_⟩
         rintro rfl
         exact hj (q8x hN e1 (I.ok.inj _ _ _ e hc▸hi))
   · by_cases hcc:c'=c
     · subst hcc;exact⟨_,hc'⟩
     · obtain⟨w2,z2⟩:=I.cell y c' e
       exact⟨w2,z2.sameBut hs hcc⟩
   · obtain⟨e,n,ne,nf,d⟩:=I.pin p hp
     refine⟨(hs.2 p.1 ?_).trans e,n,ne,nf,d⟩
     intro q
     rw[q,hoc]at e
     have q':oc=p.2:=jb e
     exact d w' (by rw[<-q'];exact hocd)
theorem q4l{M:Model}{A:Around}{E:Value->Shared->Prop}{i:Nat}{x:Str}{v:V}{u:Value}{Q:Unit->Shared->Prop}(I:Inv X z4 σ H s)(hN:X.N.Nodup)(hi:X.N[i]? =some x)(hx:Loc X.env.scope x)(r:RelV v u)
   (h:∀s',Inv X z4 (σ.set i (some v)) H s'->Q () s') (hf:X.fn x=true∨X.env.scope.names.lookup x=some .local:=by first|exact .inl rfl|exact .inr rfl|assumption):wpAny M A (storeName X.env x u) Q E s:=
 qal I hN hi hx r (λs' I' _=>h s' I') hf
theorem Inv.call'{s':Shared}{ch:List Addr}(I:Inv X z4 σ H s)(ho:s'.os=s.os)(u:Un (frs X.stack) ch H H' s.heap s'.heap)(hok:HOk X.prog X.w H' s'.heap)(hg:AllBare s'.gens)
   (hch:∀b∈ch,(b∈X.ex∨X.s₀.heap.objs.size<=b)/\b≠X.env.locals/\(∀x c,X.env.cells.lookup x=some c->c≠b)/\∀p∈X.pn++z4,p.1≠b):Inv X z4 σ H' s':=by
 obtain⟨h',g',d',t',o'⟩:=s'
 have e:o'=s.os:=ho
 subst e
 exact I.call (g':=g') (t':=t') (d':=d') u hok hg hch
end
abbrev XK:=Value->Option Addr->Hp->Prop
abbrev St:=List (Option V)
abbrev VK:=V->Hp->Prop
abbrev TE:=St->Hp->VK->Prop
abbrev TT:=St->Hp->(Bool->Hp->Prop)->Prop
abbrev TA:=St->Hp->(List V->Hp->Prop)->Prop
structure Ends where
 nx:St->Hp->Prop
 rt:VK
 bk:St->Hp->Prop:=λ_ _=>False
 ct:St->Hp->Prop:=λ_ _=>False
abbrev TS:=Ends->St->Hp->Prop
def EP(X:Cx)(z4:List (Addr×Obj))(σ:St)(Q:VK)(u:Value)(s':Shared):Prop:=∃v H',Inv X z4 σ H' s'/\RelV v u/\Q v H'
def TP(X:Cx)(z4:List (Addr×Obj))(σ:St)(Q:Bool->Hp->Prop)(b:Bool)(s':Shared):Prop:=∃H',Inv X z4 σ H' s'/\Q b H'
def AP(X:Cx)(z4:List (Addr×Obj))(σ:St)(Q:List V->Hp->Prop)(us:List Value)(s':Shared):Prop:=∃vs H',Inv X z4 σ H' s'/\Vals vs us/\Q vs H'
def SP(X:Cx)(z4:List (Addr×Obj))(D:Ends)(f:Flow)(s':Shared):Prop:=
 match f with
 |.next=>∃σ' H',Inv X z4 σ' H' s'/\D.nx σ' H'
 |.brk=>∃σ' H',Inv X z4 σ' H' s'/\D.bk σ' H'
 |.cont=>∃σ' H',Inv X z4 σ' H' s'/\D.ct σ' H'
 |.ret u=>∃v σ' H',Inv X z4 σ' H' s'/\RelV v u/\D.rt v H'
def PE(X:Cx)(e:Expr)(t:TE):Prop:=
 ∀(z4:List (Addr×Obj)) (s:Shared) (σ:St) (H:Hp) (Q:VK),Inv X z4 σ H s->t σ H Q->wpAny (model X.prog X.w) X.A (eval e X.env) (EP X z4 σ Q) X.xe s
def PT(X:Cx)(e:Expr)(t:TT):Prop:=
 ∀(z4:List (Addr×Obj)) (s:Shared) (σ:St) (H:Hp) (Q:Bool->Hp->Prop),Inv X z4 σ H s->t σ H Q->wpAny (model X.prog X.w) X.A (isTrue e X.env (eval e X.env)) (TP X z4 σ Q) X.xe s
def PW(X:Cx)(e:Expr)(t:TT):Prop:=
 ∀(whole:Sem Value) (z4:List (Addr×Obj)) (s:Shared) (σ:St) (H:Hp) (Q:Bool->Hp->Prop),Inv X z4 σ H s->t σ H Q->wpAny (model X.prog X.w) X.A (isTrue e X.env whole) (TP X z4 σ Q) X.xe s
theorem PW.pt{X:Cx}{e:Expr}{t:TT}(h:PW X e t):PT X e t:=h _
def PA(X:Cx)(es:List Expr)(t:TA):Prop:=
 ∀(pos:Pos) (z4:List (Addr×Obj)) (s:Shared) (σ:St) (H:Hp) (Q:List V->Hp->Prop),Inv X z4 σ H s->t σ H Q->wpAny (model X.prog X.w) X.A (spliced (backTo pos (starEach es X.env))) (AP X z4 σ Q) X.xe s
def PS(X:Cx)(st:Stmt)(t:TS):Prop:=
 ∀(z4:List (Addr×Obj)) (s:Shared) (σ:St) (H:Hp) (D:Ends),Inv X z4 σ H s->t D σ H->wpAny (model X.prog X.w) X.A (exec st X.env) (SP X z4 D) X.xe s
def PSs(X:Cx)(st:List Stmt)(t:TS):Prop:=
 ∀(z4:List (Addr×Obj)) (s:Shared) (σ:St) (H:Hp) (D:Ends),Inv X z4 σ H s->t D σ H->wpAny (model X.prog X.w) X.A (execs st X.env) (SP X z4 D) X.xe s
theorem thn{α:Type}{t:Sem α}{Q Q':α->Shared->Prop}{M:Model}{A:Around}{E:Value->Shared->Prop}{s:Shared}(h:wpAny M A t Q E s)(hQ:∀a s,Q a s->Q' a s):wpAny M A t Q' E s:=jz h hQ λ_ _ x=>x
section
variable{X:Cx}
def tVar(i:Nat):TE:=λσ H Q=>∃v,σ[i]? =some (some v)/\Q v H
def tC(v:V):TE:=λ_ H Q=>Q v H
theorem qjb{i:Nat}{x:Str}{pos:Pos}(hN:X.N[i]? =some x)(hv:Vis X.env.scope x)(hd:(x==("__debug__":Str))=false:=by decide)(hcd:(x==("__classdict__":Str))=false:=by decide):PE X (.Name x pos) (tVar i):=by
 intro z4 s σ H Q I h
 obtain⟨v,e,h⟩:=h
 obtain⟨m,hn,hl⟩:=I.loc
 obtain⟨u,r,l⟩:=hl i x v hN e hv
 have fin:EP X z4 σ Q u s:=⟨v,H,I,r,h⟩
 rcases l with⟨hk,hm⟩|⟨hk,c,hc,zb⟩
 · exact wpAny_Name (wpAny_loadName_local I.ok.kind hk hn hm fin) hd
 · rcases hk with hk|hk
   · exact wpAny_Name (wpAny_loadName_cell I.ok.kind hk hc zb fin) hd
   · exact wpAny_Name (wpAny_loadName_free I.ok.kind hk hc zb fin hcd) hd
theorem q09{i j pos}:PE X (.Constant (.int i) j pos) (tC (.int i)):=λ_ _ _ H _ I h=>wpAny_Constant_int ⟨.int i,H,I.tok _,⟨_,rfl⟩,h⟩
theorem q6q{b j pos}:PE X (.Constant (.bool b) j pos) (tC (.bl b)):=λ_ _ _ H _ I h=>Constant_bool ⟨.bl b,H,I,rfl,h⟩
theorem qb9{x j pos}:PE X (.Constant (.str x) j pos) (tC (.str x)):=λ_ _ _ H _ I h=>Calls.Constant_str ⟨.str x,H,I.tok _,⟨_,rfl⟩,h⟩
def Gl(X:Cx)(x:Str):Prop:=X.env.kindOf x=some .globalImplicit
theorem qgu{E:Value->Shared->Prop}{z4:List (Addr×Obj)}{s:Shared}{σ:St}{H:Hp}{x:Str}{u:Value}{pos:Pos}{Q:Value->Shared->Prop}(I:Inv X z4 σ H s)(hg:Gl X x)(hm:X.mg x=some u)(h:Q u s)
   (hd:(x==("__debug__":Str))=false:=by decide):wpAny (model X.prog X.w) X.A (eval (.Name x pos) X.env) Q E s:=
 Calls.Name_function_global I.ok.kind hg (Calls.loadGlobal_global (by rw[I.ok.glob];exact I.mod.glob.keeps I.bk) hm h) hd
theorem q50{E:Value->Shared->Prop}{z4:List (Addr×Obj)}{s:Shared}{σ:St}{H:Hp}{x:Str}{u:Value}{pos:Pos}{Q:Value->Shared->Prop}(I:Inv X z4 σ H s)(hg:Gl X x)(hm:X.mg x=none)(hv:bootBuiltins x=some u)(h:Q u s)
   (hn:x≠"__name__":=by decide) (hd:(x==("__debug__":Str))=false:=by decide):wpAny (model X.prog X.w) X.A (eval (.Name x pos) X.env) Q E s:=by
 obtain⟨mb,h1,h2⟩:=I.mod.blt
 exact Calls.Name_function_global I.ok.kind hg (Calls.loadGlobal_builtin (by rw[I.ok.glob];exact I.mod.glob.keeps I.bk) hm (by rw[I.ok.blt];exact h1.keeps I.bk) ((h2 x hn).trans hv) h) hd
theorem q5v{x:Str}{v:V}{u:Value}{pos:Pos}(hg:Gl X x)(hm:X.mg x=none)(hv:bootBuiltins x=some u)(r:RelV v u)(hn:x≠"__name__":=by decide)(hd:(x==("__debug__":Str))=false:=by decide):PE X (.Name x pos) (tC v):=
 λ_ _ _ H _ I h=>q50 I hg hm hv ⟨v,H,I,r,h⟩ hn hd
variable{a b:Expr}{ta tb:TE}{pos:Pos}
def tB(t:TE):TT:=λσ H Q=>t σ H λx H1=>∃c,x=.bl c/\Q c H1
theorem q6l{e:Expr}{t:TE}(h:PE X e t)(he:∀whole,isTrue e X.env whole=(do let v <-whole;standAt e.pos;holding [v] (truthy v)):=by intro _;rfl):PT X e (tB t):=by
 intro z4 s σ H Q I hw
 refine isTrue_plain (thn (h z4 s σ H _ I hw) λv s1 ⟨x,H1,I1,r1,q1⟩=>?_) (he _)
 obtain⟨d,rfl,q⟩:=q1
 cases r1
 exact xw ⟨H1,I1,q⟩
variable{tA tB':TT}{zm:List Expr}
def tOr(t u:TT):TT:=λσ H Q=>t σ H λc H1=>if c=true then Q true H1 else u σ H1 Q
def tNot(t:TT):TT:=λσ H Q=>t σ H λc H1=>Q (!c) H1
theorem pw_or1(ha:PT X a tA):PW X (.BoolOp .Or [a] pos) tA:=by
 intro wh z4 s σ H Q I h
 refine isTrue_or (thn (ha z4 s σ H Q I h) λc s1 e=>?_)
 cases c with
 |false=>exact isTrue_or_nil e
 |true=>exact e
theorem pw_or(ha:PT X a tA)(hb:PW X (.BoolOp .Or (b::zm) pos) tB'):PW X (.BoolOp .Or (a::b::zm) pos) (tOr tA tB'):=by
 intro wh z4 s σ H Q I h
 refine isTrue_or (thn (ha z4 s σ H _ I h) λc s1 ⟨H1,I1,q1⟩=>?_)
 cases c with
 |true=>exact⟨H1,I1,q1⟩
 |false=>exact hb wh z4 s1 σ H1 Q I1 q1
theorem q6m(ha:PT X a tA):PT X (.UnaryOp .Not a pos) (tNot tA):=by
 intro z4 s σ H Q I h
 exact isTrue_not (ha z4 s σ H (λc H1=>Q (!c) H1) I h)
def qil(ta tb:TE):TE:=λσ H Q=>ta σ H λx H1=>∃c,x=.bl c/\if c=true then tb σ H1 Q else Q (.bl false) H1
def qii(ta:TE):TE:=λσ H Q=>ta σ H λx H1=>∃c,x=.bl c/\Q (.bl (!c)) H1
theorem qjd{op}{t:TE}(h:PE X a t):PE X (.BoolOp op [a] pos) t:=λz4 s σ H Q I hw=>BoolOp_one (h z4 s σ H Q I hw)
theorem qjf(ha:PE X a ta)(hb:PE X (.BoolOp .And (b::zm) pos) tb):PE X (.BoolOp .And (a::b::zm) pos) (qil ta tb):=by
 intro z4 s σ H Q I h
 refine BoolOp_and (thn (ha z4 s σ H _ I h) λv s1 ⟨x,H1,I1,r1,q1⟩=>?_)
 obtain⟨c,rfl,q1⟩:=q1
 cases r1
 refine xw ?_
 cases c with
 |true=>exact hb z4 s1 σ H1 Q I1 q1
 |false=>exact⟨.bl false,H1,I1,rfl,q1⟩
theorem qje(ha:PE X a ta):PE X (.UnaryOp .Not a pos) (qii ta):=by
 intro z4 s σ H Q I h
 refine UnaryOp_ (thn (ha z4 s σ H _ I h) λv s1 ⟨x,H1,I1,r1,q1⟩=>?_)
 obtain⟨c,rfl,q1⟩:=q1
 cases r1
 exact not_of (xw ⟨.bl (!c),H1,I1,rfl,q1⟩)
end
def SqL(K:PySem.W.Frag)(H:Hp)(a:Addr)(xs:List V):Prop:=
 Rd H a (.lst xs)∨
   ∃(o:Obj) (its:Array Value) (n:Nat),K.lookup a=some o/\o.cls=.type "list"/\o.dict=none/\o.data=.seq its n/\its.size<=sizeLine/\Vals xs its.toList
def SqT(K:PySem.W.Frag)(H:Hp)(a:Addr)(xs:List V):Prop:=
 Rd H a (.tup xs)∨
   ∃(o:Obj) (its:Array Value) (n:Nat),K.lookup a=some o/\o.cls=.type "tuple"/\o.dict=none/\o.data=.seq its n/\its.size<=sizeLine/\Vals xs its.toList
def absV:Value->Option V
 |.none=>some .non
 |.bool b=>some (.bl b)
 |.int i _=>some (.int i)
 |.str x _=>some (.str x)
 |.bytes b _=>some (.byt b)
 |.float b _=>some (.flt b)
 |.ref a=>some (.ref a)
 |.type n=>some (.ty n)
 |_=>none
theorem RelV.abs{x:V}{u:Value}(r:RelV x u):absV u=some x:=by
 cases x with
 |non=>cases r;rfl
 |bl _=>cases r;rfl
 |int _=>obtain⟨t,rfl⟩:=r;rfl
 |str _=>obtain⟨t,rfl⟩:=r;rfl
 |byt _=>obtain⟨t,rfl⟩:=r;rfl
 |flt _=>obtain⟨t,rfl⟩:=r;rfl
 |ref _=>cases r;rfl
 |ty _=>cases r;rfl
theorem RelV.inj{x y:V}{u:Value}(r:RelV x u)(q:RelV y u):x=y:=jb (r.abs.symm.trans q.abs)
theorem Vals.inj:∀{xs ys:List V} {us:List Value},Vals xs us->Vals ys us->xs=ys
 |_,_,_,.nil,.nil=>rfl
 |_,_,_,.cons r t,.cons r' t'=>by rw[r.inj r',Vals.inj t t']
section
variable{X:Cx}{z4:List (Addr×Obj)}{σ:St}{H:Hp}{s:Shared}{a:Addr}{xs ys:List V}
theorem SqL.of{K:PySem.W.Frag}(h:H a=some (.lst xs)):SqL K H a xs:=.inl (.inl h)
theorem SqT.of{K:PySem.W.Frag}(h:H a=some (.tup xs)):SqT K H a xs:=.inl (.inl h)
theorem Inv.list(I:Inv X z4 σ H s)(h:SqL X.K H a xs):∃its:List Value,Vals xs its/\PlainL s.heap a its.toArray/\xs.length<=sizeLine:=by
 rcases h with h|⟨o,its,n,hk,hc,hd,hs,hz,r⟩
 · obtain⟨z,its,n,r,e⟩:=h.ok I.hok
   exact⟨its,r,⟨_,n,e,rfl,rfl,rfl⟩,z⟩
 · refine⟨its.toList,r,⟨o,n,I.kIn a o hk,hc,hd,by simpa using hs⟩,?_⟩
   have e:=r.length
   simp only[Array.length_toList]at e
   omega
theorem Inv.tupN(I:Inv X z4 σ H s)(h:SqT X.K H a xs):∃its:List Value,Vals xs its/\TupN s.heap a its.toArray/\xs.length<=sizeLine:=by
 rcases h with h|⟨o,its,n,hk,hc,hd,hs,hz,r⟩
 · obtain⟨z,its,r,p⟩:=h.ok I.hok
   exact⟨its,r,p,z⟩
 · refine⟨its.toList,r,⟨o,I.kIn a o hk,⟨hc,n,by simpa using hs⟩,hd⟩,?_⟩
   have e:=r.length
   simp only[Array.length_toList]at e
   omega
theorem Inv.tuple(I:Inv X z4 σ H s)(h:SqT X.K H a xs):∃its:List Value,Vals xs its/\IsTup s.heap a its.toArray/\xs.length<=sizeLine:=let ⟨its,r,p,z⟩:=I.tupN h;⟨its,r,p.tup,z⟩
theorem Inv.list_inj(I:Inv X z4 σ H s)(h:SqL X.K H a xs)(h':SqL X.K H a ys):xs=ys:=by
 obtain⟨its,r,⟨o,n,e,_,_,d⟩,_⟩:=I.list h
 obtain⟨its',r',⟨o',n',e',_,_,d'⟩,_⟩:=I.list h'
 rw[e]at e';cases e'
 rw[d]at d'
 injection d' with d1 _
 have:its=its':=by simpa using congrArg Array.toList d1
 subst this
 exact r.inj r'
theorem Inv.tuple_inj(I:Inv X z4 σ H s)(h:SqT X.K H a xs)(h':SqT X.K H a ys):xs=ys:=by
 obtain⟨its,r,⟨o,e,_,n,d⟩,_⟩:=I.tuple h
 obtain⟨its',r',⟨o',e',_,n',d'⟩,_⟩:=I.tuple h'
 rw[e]at e';cases e'
 rw[d]at d'
 injection d' with d1 _
 have:its=its':=by simpa using congrArg Array.toList d1
 subst this
 exact r.inj r'
end
abbrev Cx.wish(X:Cx)(E:Value->Shared->Prop):Cx:={X with xe:=E}
abbrev Cx.nox(X:Cx):Cx:=X.wish λ_ _=>False
theorem Cx.Ok.wish{X:Cx}(ok:X.Ok)(E:Value->Shared->Prop):(X.wish E).Ok:=
 ⟨ok.mod,ok.kind,ok.glob,ok.blt,ok.above,ok.inj,ok.has,ok.cab,ok.hd,ok.frames,ok.stk,ok.exf,ok.bs,ok.bsz,ok.noex,ok.exfs,ok.funs,ok.frf⟩
theorem Cx.Ok.unwish{X:Cx}{E:Value->Shared->Prop}(ok:(X.wish E).Ok):X.Ok:=
 ⟨ok.mod,ok.kind,ok.glob,ok.blt,ok.above,ok.inj,ok.has,ok.cab,ok.hd,ok.frames,ok.stk,ok.exf,ok.bs,ok.bsz,ok.noex,ok.exfs,ok.funs,ok.frf⟩
section
variable{X:Cx}{z4:List (Addr×Obj)}{σ:St}{H:Hp}{s:Shared}{E:Value->Shared->Prop}
theorem Inv.wish(I:Inv X z4 σ H s)(E:Value->Shared->Prop):Inv (X.wish E) z4 σ H s:=⟨I.ok.wish E,I.os,I.bare,I.base,I.loc,I.cell,I.free,I.freeC,I.pin,I.hok,I.len⟩
theorem Inv.unwish(I:Inv (X.wish E) z4 σ H s):Inv X z4 σ H s:=⟨I.ok.unwish,I.os,I.bare,I.base,I.loc,I.cell,I.free,I.freeC,I.pin,I.hok,I.len⟩
theorem SP.unwish{D:Ends}{f:Flow}{s':Shared}(h:SP (X.wish E) z4 D f s'):SP X z4 D f s':=by
 cases f with
 |next=>obtain⟨σ',H',I,q⟩:=h;exact⟨σ',H',I.unwish,q⟩
 |brk=>obtain⟨σ',H',I,q⟩:=h;exact⟨σ',H',I.unwish,q⟩
 |cont=>obtain⟨σ',H',I,q⟩:=h;exact⟨σ',H',I.unwish,q⟩
 |ret u=>obtain⟨v,σ',H',I,r,q⟩:=h;exact⟨v,σ',H',I.unwish,r,q⟩
theorem PSs.nox{st:List Stmt}{t:TS}(h:PSs X.nox st t):PSs X st t:=λz4 s σ H D I hw=>
 jz (h z4 s σ H D (I.wish _) hw) (λ_ _ q=>q.unwish) λ_ _ z=>False.elim z
end
section
variable{X:Cx}{st:Stmt}{zm:List Stmt}{t u:TS}{e:Expr}{te:TE}{pos:Pos}
def qdf:TS:=λD σ H=>D.nx σ H
def tSeq(t u:TS):TS:=λD σ H=>t {D with nx:=u D} σ H
theorem q2b:PSs X [] qdf:=λ_ _ σ H _ I h=>wpAny_execs_nil ⟨σ,H,I,h⟩
theorem q06(h1:PS X st t)(h2:PSs X zm u):PSs X (st::zm) (tSeq t u):=by
 intro z4 s σ H D I h
 refine wpAny_execs_cons (thn (h1 z4 s σ H {D with nx:=u D} I h) λf s1 q=>?_)
 cases f with
 | next=>
   obtain⟨σ',H',I',q⟩:=q
   exact h2 z4 s1 σ' H' D I' q
 |ret v=>exact q
 |brk=>exact q
 |cont=>exact q
theorem q0b(h1:PS X st t):PSs X [st] t:=by
 intro z4 s σ H D I h
 refine wpAny_execs_cons (thn (h1 z4 s σ H D I h) λf s1 q=>?_)
 cases f with
 |next=>exact wpAny_execs_nil q
 |ret v=>exact q
 |brk=>exact q
 |cont=>exact q
theorem Inv.quiet{z4:List (Addr×Obj)}{σ:St}{H:Hp}{s:Shared}(I:Inv X z4 σ H s):interactive X.env=false:=by simp[interactive,I.ok.kind]
def qaj(te:TE):TS:=λD σ H=>te σ H λ_ H1=>D.nx σ H1
theorem q3g(he:PE X e te)(hs:swapsWith e none pos.line X.env=pure false:=by rfl):PS X (.Expr e pos) (qaj te):=by
 intro z4 s σ H D I h
 exact wpAny_Expr_any (thn (he z4 s σ H _ I h) λv s1 ⟨x,H1,I1,r1,q1⟩=>⟨σ,H1,I1,q1⟩) I.quiet hs
def tRet(te:TE):TS:=λD σ H=>te σ H D.rt
theorem q0x(he:PE X e te):PS X (.Return (some e) pos) (tRet te):=by
 intro z4 s σ H D I h
 exact wpAny_Return_some (thn (he z4 s σ H _ I h) λv s1 ⟨x,H1,I1,r1,q1⟩=>⟨x,σ,H1,I1,r1,q1⟩)
def tIfS(c:TT)(t u:TS):TS:=λD σ H=>c σ H λb H1=>if b=true then t D σ H1 else u D σ H1
theorem q56{c:Expr}{a b:List Stmt}{tc:TT}(hc:PT X c tc)(ha:PSs X a t)(hb:PSs X b u):PS X (.If c a b pos) (tIfS tc t u):=by
 intro z4 s σ H D I h
 refine wpAny_If (thn (hc z4 s σ H _ I h) λd s1 ⟨H1,I1,q1⟩=>?_)
 cases d with
 |true=>exact ha z4 s1 σ H1 D I1 q1
 |false=>exact hb z4 s1 σ H1 D I1 q1
end
abbrev TG:=V->St->Hp->(St->Hp->Prop)->Prop
abbrev TGs:=List V->St->Hp->(St->Hp->Prop)->Prop
def PG(X:Cx)(zh:Expr)(t:TG):Prop:=
 ∀(z4:List (Addr×Obj)) (s:Shared) (σ:St) (H:Hp) (v:V) (u:Value) (Q:St->Hp->Prop),Inv X z4 σ H s->RelV v u->t v σ H Q->
   wpAny (model X.prog X.w) X.A (assign zh X.env u) (λ_ s'=>∃σ' H',Inv X z4 σ' H' s'/\Q σ' H') X.xe s
def PGs(X:Cx)(ts:List Expr)(t:TGs):Prop:=
 ∀(z4:List (Addr×Obj)) (s:Shared) (σ:St) (H:Hp) (vs:List V) (us:List Value) (Q:St->Hp->Prop),Inv X z4 σ H s->Vals vs us->t vs σ H Q->
   wpAny (model X.prog X.w) X.A (assignInOrder ((assignEach ts X.env).map (·.2)) us) (λ_ s'=>∃σ' H',Inv X z4 σ' H' s'/\Q σ' H') X.xe s
abbrev TSet:=V->V->V->Hp->(Hp->Prop)->Prop
def PSet(X:Cx)(t:TSet):Prop:=
 ∀(z4:List (Addr×Obj)) (s:Shared) (σ:St) (H:Hp) (o i v:V) (ov iv u:Value) (Q:Hp->Prop),Inv X z4 σ H s->RelV o ov->RelV i iv->RelV v u->t o i v H Q->
   wpAny (model X.prog X.w) X.A (setItem ov iv u) (λ_ s'=>∃H',Inv X z4 σ H' s'/\Q H') X.xe s
abbrev TIp:=V->V->Hp->VK->Prop
def PIp(X:Cx)(op:Operator)(t:TIp):Prop:=
 ∀(z4:List (Addr×Obj)) (s:Shared) (σ:St) (H:Hp) (x y:V) (v u:Value) (Q:VK),Inv X z4 σ H s->RelV x v->RelV y u->t x y H Q->
   wpAny (model X.prog X.w) X.A (inplaceOp op v u) (EP X z4 σ Q) X.xe s
section
variable{X:Cx}{pos:Pos}
def q36(i:Nat):TG:=λv σ H Q=>Q (σ.set i (some v)) H
theorem q0h{i:Nat}{x:Str}(hN:X.N.Nodup)(hi:X.N[i]? =some x)(hx:Loc X.env.scope x)(hf:X.fn x=true∨X.env.scope.names.lookup x=some .local:=by first|exact .inl rfl|exact .inr rfl|assumption):PG X (.Name x pos) (q36 i):=by
 intro z4 s σ H v u Q I r h
 exact wpAny_assign_Name (q4l I hN hi hx r (λs' I'=>⟨_,H,I',h⟩) hf)
def gNil:TGs:=λvs σ H Q=>vs=[]/\Q σ H
def q85(t:TG)(u:TGs):TGs:=λvs σ H Q=>∃v r,vs=v::r/\t v σ H λσ' H'=>u r σ' H' Q
theorem q3z:PGs X [] gNil:=by
 intro z4 s σ H vs us Q I r h
 obtain⟨e,h⟩:=h
 subst e
 cases r
 exact assignInOrder_nil ⟨σ,H,I,h⟩
theorem q18{e:Expr}{es:List Expr}{t:TG}{u:TGs}(h1:PG X e t)(h2:PGs X es u)
   (hs:(assignEach (e::es) X.env).map (·.2)=assign e X.env::(assignEach es X.env).map (·.2):=by rfl):PGs X (e::es) (q85 t u):=by
 intro z4 s σ H vs us Q I r h
 obtain⟨v,vr,e1,h⟩:=h
 subst e1
 cases r with
 | cons r rr=>
   rw[hs]
   refine assignInOrder_cons (thn (h1 z4 s σ H _ _ _ I r h) λ_ s1 ⟨σ1,H1,I1,q1⟩=>?_)
   exact h2 z4 s1 σ1 H1 _ _ Q I1 rr q1
def gTup(K:PySem.W.Frag)(n:Nat)(t:TGs):TG:=λv σ H Q=>∃a xs,v=.ref a/\SqT K H a xs/\xs.length=n/\t xs σ H Q
theorem qj7{es:List Expr}{k:Nat}{t:TGs}{n:Nat}(hc:X.calm=true)(h:PGs X es t)
   (hn:(assignEach es X.env).length=n:=by rfl) (hst:(assignEach es X.env).findIdx? (·.1)=none:=by rfl):PG X (.Tuple es k pos) (gTup X.K n t):=by
 intro z4 s σ H v u Q I r hw
 obtain⟨a,xs,e1,hq,hl,hw⟩:=hw
 subst e1
 cases r
 obtain⟨its,rv,ht,hz⟩:=I.tuple hq
 refine assign_Tuple_tuple (I.ok.hd hc) ht (by simp[hn,<-hl,rv.length]) hst λh' hx=>?_
 have I1:Inv X z4 σ H {s with heap:=h'}:=I.kept (t':=s.toks) λb o e=>hx b o (jh (j8 e)) e
 exact h z4 _ σ H xs _ Q I1 (by simpa using rv) hw
def gSub(to ti:TE)(t:TSet):TG:=λv σ H Q=>to σ H λo H1=>ti σ H1 λi H2=>t o i v H2 λH3=>Q σ H3
theorem qj8{o i:Expr}{to ti:TE}{t:TSet}(ho:PE X o to)(hi:PE X i ti)(hs:PSet X t)
   (ha:∀v,assign (.Subscript o i pos) X.env v=(do
     let ov <-holding [v] (eval o X.env)
     let iv <-holding [v,ov] (eval i X.env)
     standAt pos
     holding [v,ov,iv] (setItem ov iv v)
     release [v,ov,iv] []):=by intro _;rfl):PG X (.Subscript o i pos) (gSub to ti t):=by
 intro z4 s σ H v u Q I r h
 rw[ha]
 refine j6 (jr (thn (ho z4 s σ H _ I h) λov s1 ⟨x,H1,I1,r1,q1⟩=>?_))
 refine j6 (jr (thn (hi z4 s1 σ H1 _ I1 q1) λiv s2 ⟨y,H2,I2,r2,q2⟩=>?_))
 refine j6 (wpAny_standAt (j6 (jr (thn (hs z4 s2 σ H2 x y v ov iv u _ I2 r1 r2 r q2) λ_ s3 ⟨H3,I3,q3⟩=>?_))))
 exact wpAny_release ⟨σ,H3,I3,q3⟩
def tAsg(te:TE)(g:TG):TS:=λD σ H=>te σ H λx H1=>g x σ H1 D.nx
theorem qey{tg e:Expr}{te:TE}{g:TG}(he:PE X e te)(hg:PG X tg g)(hs:swapsWithSole [tg] e pos.line X.env=pure false:=by rfl)(hw:swappedStores [tg] e X.env=pure none:=by rfl)
   (h1:(assignEach [tg] X.env).map (·.2)=[assign tg X.env]:=by rfl):PS X (.Assign [tg] e pos) (tAsg te g):=by
 intro z4 s σ H D I h
 refine wpAny_Assign_stores (thn (he z4 s σ H _ I h) λv s1 ⟨x,H1,I1,r1,q1⟩=>?_) hs hw
 rw[h1]
 exact thn (hg z4 s1 σ H1 x v _ I1 r1 q1) λ_ s2 q=>q
theorem q0u{i:Nat}{x:Str}{e:Expr}{te:TE}{zq:Pos}(hN:X.N.Nodup)(hi:X.N[i]? =some x)(hx:Loc X.env.scope x)(he:PE X e te)(hs:swapsWith e (some (.Name x zq)) pos.line X.env=pure false:=by rfl)(hf:X.fn x=true∨X.env.scope.names.lookup x=some .local:=by first|exact .inl rfl|exact .inr rfl|assumption):
   PS X (.Assign [.Name x zq] e pos) (tAsg te (q36 i)):=by
 intro z4 s σ H D I h
 refine wpAny_Assign_Name (thn (he z4 s σ H _ I h) λv s1 ⟨y,H1,I1,r1,q1⟩=>?_) hs
 exact q4l I1 hN hi hx r1 (λs2 I2=>⟨_,H1,I2,q1⟩) hf
def tAug(i:Nat)(te:TE)(ti:TIp):TS:=λD σ H=>∃x,σ[i]? =some (some x)/\te σ H λy H1=>ti x y H1 λz H2=>D.nx (σ.set i (some z)) H2
theorem qex{i:Nat}{x:Str}{e:Expr}{te:TE}{op:Operator}{ti:TIp}{zq:Pos}(hN:X.N.Nodup)(hi:X.N[i]? =some x)(hx:Loc X.env.scope x)(he:PE X e te)(ho:PIp X op ti)(hf:X.fn x=true∨X.env.scope.names.lookup x=some .local:=by first|exact .inl rfl|exact .inr rfl|assumption):
   PS X (.AugAssign (.Name x zq) op e pos) (tAug i te ti):=by
 intro z4 s σ H D I h
 obtain⟨v,e1,h⟩:=h
 obtain⟨m,hn,hl⟩:=I.loc
 have vis:Vis X.env.scope x:=by rcases hx with k|k;exact .inl k;exact .inr (.inl k)
 obtain⟨u,r,l⟩:=hl i x v hi e1 vis
 refine wpAny_AugAssign_Name ?_
 have go:wpAny (model X.prog X.w) X.A (eval e X.env) (λw s₂=>wpAny (model X.prog X.w) X.A (inplaceOp op u w) (λr s₃=>wpAny (model X.prog X.w) X.A (storeName X.env x r) (λ_=>SP X z4 D .next) X.xe s₃) X.xe s₂) X.xe s:=by
   refine thn (he z4 s σ H _ I h) λw s1 ⟨y,H1,I1,r1,q1⟩=>?_
   refine thn (ho z4 s1 σ H1 v y u w _ I1 r r1 q1) λz s2 ⟨zv,H2,I2,r2,q2⟩=>?_
   exact q4l I2 hN hi hx r2 (λs3 I3=>⟨_,H2,I3,q2⟩) hf
 rcases l with⟨hk,hm⟩|⟨hk,c,hc,zb⟩
 · exact wpAny_loadName_local I.ok.kind hk hn hm go
 · rcases hk with hk|hk
   · exact wpAny_loadName_cell I.ok.kind hk hc zb go
   · rcases hx with k|k
     · have:X.env.scope.names.lookup x=some .free:=hk
       rw[k]at this;cases this
     · have:X.env.scope.names.lookup x=some .free:=hk
       rw[k]at this;cases this
def ipI(f:Int->Int->Int):TIp:=λx y H Q=>∃i j,x=.int i/\y=.int j/\Q (.int (f i j)) H
theorem qkr:PIp X .Add (ipI λi j=>i+j):=by
 intro z4 s σ H x y v u Q I r1 r2 h
 obtain⟨i,j,e1,e2,q⟩:=h
 subst e1;subst e2
 obtain⟨t,rfl⟩:=r1
 obtain⟨t',rfl⟩:=r2
 exact iadd_int ⟨.int _,H,I.tok _,⟨_,rfl⟩,q⟩
end
section
variable{X:Cx}{pos:Pos}
def qah(c:TT)(tb:TS):TS:=λD σ H=>∃W:Nat->St->Hp->Prop,(∃m,W m σ H)/\∀m σ H,W m σ H->
 c σ H λb H1=>if b=true then∃N:St->Hp->Prop,(∀σ' H',N σ' H'->∃m',m'<m/\W m' σ' H')/\tb {D with nx:=N,ct:=N,bk:=D.nx} σ H1 else D.nx σ H1
theorem q8o{c:Expr}{body:List Stmt}{tc:TT}{tb:TS}(hp:PassesOwn (model X.prog X.w) X.A X.env X.xe)(hc:PT X c tc)(hb:PSs X body tb):PS X (.While c body [] pos) (qah tc tb):=by
 intro z4 s σ H D I h
 obtain⟨W,⟨m0,w0⟩,turn⟩:=h
 refine wpAny_While (codeAny_whileLoop (λn s'=>∃σ' H',Inv X z4 σ' H' s'/\W n σ' H') ?_ m0 ⟨σ,H,I,w0⟩)
 rintro n s1 ⟨σ1,H1,I1,w1⟩
 refine xx hp (thn (hc z4 s1 σ1 H1 _ I1 (turn n σ1 H1 w1)) λb s2 ⟨H2,I2,q2⟩=>?_)
 cases b with
 | true=>
   obtain⟨N,hN,q2⟩:=q2
   rw[if_pos rfl]
   refine xx hp (thn (hb z4 s2 σ1 H2 _ I2 q2) λf s3 q3=>?_)
   cases f with
   | next=>
     obtain⟨σ3,H3,I3,n3⟩:=q3
     obtain⟨m',hm,w3⟩:=hN σ3 H3 n3
     exact⟨m',hm,σ3,H3,I3,w3⟩
   | cont=>
     obtain⟨σ3,H3,I3,n3⟩:=q3
     obtain⟨m',hm,w3⟩:=hN σ3 H3 n3
     exact⟨m',hm,σ3,H3,I3,w3⟩
   |brk=>exact q3
   |ret v=>exact q3
 | false=>
   rw[if_neg Bool.false_ne_true]
   exact wpAny_execs_nil ⟨σ1,H2,I2,q2⟩
end
structure It where
 go:Nat->Hp->Prop
 yld:Nat->Hp->V->Hp->Prop
 stop:Nat->Hp->Prop
def FpOk(X:Cx)(z4:List (Addr×Obj))(H:Hp)(b:Addr):Prop:=
 H b=none/\b≠X.env.locals/\b∉X.fs/\(b∈X.ex∨X.s₀.heap.objs.size<=b)/\(∀x c,X.env.cells.lookup x=some c->c≠b)/\∀p∈X.pn++z4,p.1≠b
theorem Inv.fpOk{X:Cx}{z4:List (Addr×Obj)}{σ:St}{H H':Hp}{s:Shared}{b:Addr}(I:Inv X z4 σ H s)(hb:s.heap.objs.size<=b)(hn:H' b=none):FpOk X z4 H' b:=by
 refine⟨hn,Nat.ne_of_gt (ji I.lt hb),I.nofs hb,.inr (jy I.sz hb),λx c e z=>?_,λp hp z=>?_⟩
 · obtain⟨v,q⟩:=I.cell x c e
   exact absurd (ji q.lt (by rw[z];exact hb)) (x9 _)
 · exact absurd (ji (j8 (I.pin p hp).1) (by rw[z];exact hb)) (x9 _)
structure Turn(P:Program)(w:World)(K:PySem.W.Frag)(tg:Expr)(J:It)(fp:List Addr)(it:Addr)(tn:Nat->Heap->Prop):Prop where
 mem:it∈fp
 obj:∀i h,tn i h->∀b∈fp,∃o,h.get? b=some o/\∀v,o.data≠.cell v
 keep:∀i h h',tn i h->(∀b∈fp,∀o,h.get? b=some o->h'.get? b=some o)->tn i h'
 item:∀(X:Cx),X.prog=P->X.w=w->X.K=K->X.calm=true->∀(i:Nat) (z4:List (Addr×Obj)) (s:Shared) (σ:St) (H:Hp) (E:Value->Shared->Prop),Inv X z4 σ H s->(∀b∈fp,FpOk X z4 H b)->tn i s.heap->J.go i H->
   wpAny (model P w) X.A (pyNext (.ref it)) (λr s1=>∃u,r=some u/\
     wpAny (model P w) X.A (letOwnedTupleGo tg (.ref it) u) (λ_ s2=>∃x H',Inv X z4 σ H' s2/\RelV x u/\J.yld i H x H'/\tn (i+1) s2.heap/\∀b∈fp,H' b=none) E s1) E s
 done:∀(X:Cx),X.prog=P->X.w=w->X.K=K->X.calm=true->∀(i:Nat) (z4:List (Addr×Obj)) (s:Shared) (σ:St) (H:Hp) (E:Value->Shared->Prop),Inv X z4 σ H s->(∀b∈fp,FpOk X z4 H b)->tn i s.heap->J.stop i H->
   wpAny (model P w) X.A (pyNext (.ref it)) (λr s1=>r=none/\Inv X z4 σ H s1) E s
 self:∀(A:Around) (i:Nat) (s:Shared) (Q:Value->Shared->Prop) (E:Value->Shared->Prop),tn i s.heap->Q (.ref it) s->wpAny (model P w) A (pyIter (.ref it)) Q E s
abbrev TI:=St->Hp->(It->Hp->Prop)->Prop
def PIE(X:Cx)(z4:List (Addr×Obj))(σ:St)(tg:Expr)(R:It->Hp->Prop)(itv:Value)(s2:Shared):Prop:=
 ∃(it:Addr) (fp:List Addr) (tn:Nat->Heap->Prop) (J:It) (H':Hp),itv=.ref it/\Inv X z4 σ H' s2/\Turn X.prog X.w X.K tg J fp it tn/\tn 0 s2.heap/\(∀b∈fp,FpOk X z4 H' b)/\R J H'
def PI(X:Cx)(tg z9:Expr)(wi:TI):Prop:=
 ∀(z4:List (Addr×Obj)) (s:Shared) (σ:St) (H:Hp) (R:It->Hp->Prop),Inv X z4 σ H s->wi σ H R->
   wpAny (model X.prog X.w) X.A (eval z9 X.env) (λv s1=>wpAny (model X.prog X.w) X.A (pyIter v) (PIE X z4 σ tg R) X.xe s1) X.xe s
theorem qcf{M:Model}{A:Around}{E:Value->Shared->Prop}{s:Shared}{tg:Expr}{it:Addr}{u:Value}{o:Obj}{n:String}{vs:Array Value}{Q:Unit->Shared->Prop}(ho:s.heap.get? it=some o)(hc:o.cls=.type n)(hd:o.data=.fields vs)
   (hn:["enumerate","zip","dict_itemiterator","dict_reverseitemiterator","odict_iterator","itertools.zip_longest","itertools.pairwise"].contains n=false) (hQ:Q () s):wpAny M A (letOwnedTupleGo tg (.ref it) u) Q E s:=by
 unfold letOwnedTupleGo
 cases tg<;>first
   |exact j7 hQ
   |(cases u<;>first
       |exact j7 hQ
       | (refine j6 (wpAny_load ho ?_)
          rw[hc,hd]
          show wpAny M A (if(["enumerate","zip","dict_itemiterator","dict_reverseitemiterator","odict_iterator","itertools.zip_longest","itertools.pairwise"].contains n&&vs[0]? ==some (rawInt _))=true then _ else _) Q E s
          rw[if_neg (by intro h;rw[hn,Bool.false_and]at h;cases h)]
          exact j7 hQ))
def Itl(K:PySem.W.Frag)(a:Addr):It:=
 ⟨λi H=>∃xs x,SqL K H a xs/\xs[i]? =some x,λi H x H'=>H'=H/\∀xs,SqL K H a xs->xs[i]? =some x,λi H=>∃xs,SqL K H a xs/\xs.length<=i⟩
def Itt(K:PySem.W.Frag)(a:Addr):It:=
 ⟨λi H=>∃xs x,SqT K H a xs/\xs[i]? =some x,λi H x H'=>H'=H/\∀xs,SqT K H a xs->xs[i]? =some x,λi H=>∃xs,SqT K H a xs/\xs.length<=i⟩
def Itr(lo:Int)(n:Nat):It:=⟨λi _=>i<n,λi H x H'=>H'=H/\x=.int (lo+i),λi _=>n<=i⟩
theorem qaf{P:Program}{w:World}{K:PySem.W.Frag}{tg:Expr}(a it:Addr):Turn P w K tg (Itl K a) [it] it (λi h=>h.IsListIter it a i) where
 mem:=by simp
 obj:=λi h st b hb=>by
   have e:b=it:=by simpa using hb
   subst e
   obtain⟨o,e,c,d⟩:=st
   exact⟨o,e,λv z=>by rw[d]at z;cases z⟩
 keep:=λi h h' st k=>st.at λo e=>k it (by simp) o e
 item:=by
   intro X hP hw hK hc i z4 s σ H E I hf st hg
   subst hP hw hK
   obtain⟨xs,x,hq,hx⟩:=hg
   obtain⟨its,rv,p,hz⟩:=I.list hq
   obtain⟨u,hu,ru⟩:=rv.get hx
   obtain⟨f0,f1,f2,f3,f4,f5⟩:=hf it (by simp)
   refine kr st p.isList (x:=u) (by simpa using hu) λh' st' sb=>?_
   have I1:Inv X z4 σ H {s with heap:=h'}:=I.turned (t':=s.toks) (λb o hb e=>(sb.2 b hb).trans e) f0 f1 f3 f4 f5
   obtain⟨o,e,c,d⟩:=id st'
   exact⟨u,rfl,qcf (s:={s with heap:=h'}) e c d (by decide) ⟨x,H,I1,ru,⟨rfl,λys hy=>by rw[I.list_inj hy hq];exact hx⟩,st',λb hb=>(hf b hb).1⟩⟩
 done:=by
   intro X hP hw hK hc i z4 s σ H E I hf st hg
   subst hP hw hK
   obtain⟨xs,hq,hx⟩:=hg
   obtain⟨its,rv,p,hz⟩:=I.list hq
   obtain⟨f0,f1,f2,f3,f4,f5⟩:=hf it (by simp)
   have hl:=rv.length
   exact wpAny_pyNext_list_end (I.ok.hd hc) st p.isList (by simp;omega) λh' eb=>⟨rfl,I.turned (t':=s.toks) (λb o hb e=>eb b o hb e) f0 f1 f3 f4 f5⟩
 self:=λ_ _ _ _ _ st h=>wpAny_pyIter_listiter st h
theorem q9e{P:Program}{w:World}{K:PySem.W.Frag}{tg:Expr}(a it:Addr):Turn P w K tg (Itt K a) [it] it (λi h=>h.IsTupleIter it a i) where
 mem:=by simp
 obj:=λi h st b hb=>by
   have e:b=it:=by simpa using hb
   subst e
   obtain⟨o,e,c,d⟩:=st
   exact⟨o,e,λv z=>by rw[d]at z;cases z⟩
 keep:=λi h h' st k=>st.at λo e=>k it (by simp) o e
 item:=by
   intro X hP hw hK hc i z4 s σ H E I hf st hg
   subst hP hw hK
   obtain⟨xs,x,hq,hx⟩:=hg
   obtain⟨its,rv,p,hz⟩:=I.tuple hq
   obtain⟨u,hu,ru⟩:=rv.get hx
   obtain⟨f0,f1,f2,f3,f4,f5⟩:=hf it (by simp)
   refine wpAny_pyNext_tuple_item st (show s.heap.IsTuple a its.toArray from p) (x:=u) (by simpa using hu) λh' st' sb=>?_
   have I1:Inv X z4 σ H {s with heap:=h'}:=I.turned (t':=s.toks) (λb o hb e=>(sb.2 b hb).trans e) f0 f1 f3 f4 f5
   obtain⟨o,e,c,d⟩:=id st'
   exact⟨u,rfl,qcf (s:={s with heap:=h'}) e c d (by decide) ⟨x,H,I1,ru,⟨rfl,λys hy=>by rw[I.tuple_inj hy hq];exact hx⟩,st',λb hb=>(hf b hb).1⟩⟩
 done:=by
   intro X hP hw hK hc i z4 s σ H E I hf st hg
   subst hP hw hK
   obtain⟨xs,hq,hx⟩:=hg
   obtain⟨its,rv,p,hz⟩:=I.tuple hq
   obtain⟨f0,f1,f2,f3,f4,f5⟩:=hf it (by simp)
   have hl:=rv.length
   exact wpAny_pyNext_tuple_end (I.ok.hd hc) st (show s.heap.IsTuple a its.toArray from p) (by simp;omega) λh' eb=>⟨rfl,I.turned (t':=s.toks) (λb o hb e=>eb b o hb e) f0 f1 f3 f4 f5⟩
 self:=λ_ _ _ _ _ st h=>wpAny_pyIter_tupleiter st h
theorem q9f{P:Program}{w:World}{K:PySem.W.Frag}{tg:Expr}(it:Addr)(lo:Int)(n:Nat):Turn P w K tg (Itr lo n) [it] it (λi h=>IsRangeIter h it (lo+(i:Nat)*1) ((n:Int)-(i:Nat)) 1) where
 mem:=by simp
 obj:=λi h st b hb=>by
   have e:b=it:=by simpa using hb
   subst e
   exact⟨_,st,λv z=>by
     have z':Data.fields _=Data.cell v:=z
     cases z'⟩
 keep:=λi h h' st k=>k it (by simp) _ st
 item:=by
   intro X hP hw hK hc i z4 s σ H E I hf st hg
   subst hP hw hK
   obtain⟨f0,f1,f2,f3,f4,f5⟩:=hf it (by simp)
   have W:=Walks.range (prog:=X.prog) (w:=X.w) (I.ok.hd hc) it lo 1 n
   refine W.item i s _ _ hg st λv h' tk hv st' kk=>?_
   obtain⟨t,rfl⟩:=hv
   have I1:Inv X z4 σ H {s with heap:=h',toks:=tk}:=I.turned (λb o hb e=>kk b o (by simpa using hb) e) f0 f1 f3 f4 f5
   refine⟨_,rfl,qcf (s:={s with heap:=h',toks:=tk}) (n:="range_iterator") st' rfl rfl (by decide) ⟨.int (lo+i),H,I1,⟨t,?_⟩,⟨rfl,rfl⟩,st',λb hb=>(hf b hb).1⟩⟩
   rw[Int.mul_one]
 done:=by
   intro X hP hw hK hc i z4 s σ H E I hf st hg
   subst hP hw hK
   obtain⟨f0,f1,f2,f3,f4,f5⟩:=hf it (by simp)
   exact wpAny_pyNext_range_end (I.ok.hd hc) st (by have:n<=i:=hg;omega) λh' eb=>⟨rfl,I.turned (t':=s.toks) (λb o hb e=>eb b o hb e) f0 f1 f3 f4 f5⟩
 self:=λ_ _ _ _ _ st h=>wpAny_pyIter_rangeiter st h
section
variable{X:Cx}{tg:Expr}
def qh8(K:PySem.W.Frag)(tl:TE):TI:=λσ H R=>tl σ H λx H1=>∃a,x=.ref a/\(∃xs,SqL K H1 a xs)/\R (Itl K a) H1
def iTup(K:PySem.W.Frag)(tl:TE):TI:=λσ H R=>tl σ H λx H1=>∃a,x=.ref a/\(∃xs,SqT K H1 a xs)/\R (Itt K a) H1
theorem qg3{l:Expr}{tl:TE}(hl:PE X l tl):PI X tg l (qh8 X.K tl):=by
 intro z4 s σ H R I h
 refine thn (hl z4 s σ H _ I h) λv s1 ⟨x,H1,I1,r1,q1⟩=>?_
 obtain⟨a,e,⟨xs,hq⟩,q⟩:=q1
 subst e
 cases r1
 obtain⟨its,rv,p,hz⟩:=I1.list hq
 refine kc p.isList ?_
 refine⟨s1.heap.objs.size,[s1.heap.objs.size],_,_,H1,rfl,I1.kept (t':=s1.toks) λb o e=>ja _ e,qaf a _,⟨_,je _ rfl,rfl,rfl⟩,λb hb=>?_,q⟩
 have e:b=s1.heap.objs.size:=by simpa using hb
 subst e
 exact I1.fpOk (jc _) (I1.hok.fresh (jc _))
theorem qj6{l:Expr}{tl:TE}(hl:PE X l tl):PI X tg l (iTup X.K tl):=by
 intro z4 s σ H R I h
 refine thn (hl z4 s σ H _ I h) λv s1 ⟨x,H1,I1,r1,q1⟩=>?_
 obtain⟨a,e,⟨xs,hq⟩,q⟩:=q1
 subst e
 cases r1
 obtain⟨its,rv,p,hz⟩:=I1.tuple hq
 refine wpAny_pyIter_tuple (show s1.heap.IsTuple a its.toArray from p) ?_
 refine⟨s1.heap.objs.size,[s1.heap.objs.size],_,_,H1,rfl,I1.kept (t':=s1.toks) λb o e=>ja _ e,q9e a _,⟨_,je _ rfl,rfl,rfl⟩,λb hb=>?_,q⟩
 have e:b=s1.heap.objs.size:=by simpa using hb
 subst e
 exact I1.fpOk (jc _) (I1.hok.fresh (jc _))
theorem q8n{z4:List (Addr×Obj)}{σ:St}{H:Hp}{s:Shared}{R:It->Hp->Prop}{E:Value->Shared->Prop}{lo hi:Int}{t u v:Tok}{tk:Nat}(I:Inv X z4 σ H s)(h1: -(2^62)<=lo)(h2:lo<2^62)(h3: -(2^62)<=hi)(h4:hi<2^62)
   (q:R (Itr lo (hi-lo).toNat) H):wpAny (model X.prog X.w) X.A (pyIter (.ref s.heap.objs.size)) (PIE X z4 σ tg R) E {s with heap:=s.heap.push {cls:=.type "range",data:=.fields #[.int lo t,.int hi u,.int 1 v]},toks:=tk}:=by
 refine wpAny_pyIter_range (IsRange.new ..) (small_one h1 h2 h3 h4) ?_
 have I1:Inv X z4 σ H {s with heap:=s.heap.push {cls:=.type "range",data:=.fields #[.int lo t,.int hi u,.int 1 v]},toks:=tk}:=I.kept λb o e=>ja _ e
 refine⟨(s.heap.push {cls:=.type "range",data:=.fields #[.int lo t,.int hi u,.int 1 v]}).objs.size,[(s.heap.push {cls:=.type "range",data:=.fields #[.int lo t,.int hi u,.int 1 v]}).objs.size],_,_,H,rfl,
   I1.kept (t':=tk) λb o e=>ja _ e,q9f _ lo (hi-lo).toNat,?_,λb hb=>?_,q⟩
 · have e1:lo+((0:Nat):Int)*1=lo:=by simp
   have e2:(((hi-lo).toNat:Nat):Int)-((0:Nat):Int)=Builtin.Range.rangeSize lo hi 1:=by rw[rangeSize_one];split<;>omega
   show IsRangeIter _ _ (lo+((0:Nat):Int)*1) ((((hi-lo).toNat:Nat):Int)-((0:Nat):Int)) 1
   rw[e1,e2]
   exact je _ rfl
 · have e:b=(s.heap.push {cls:=.type "range",data:=.fields #[.int lo t,.int hi u,.int 1 v]}).objs.size:=by simpa using hb
   subst e
   exact I1.fpOk (jc _) (I1.hok.fresh (jc _))
def qkv(ta:TA):TI:=λσ H R=>ta σ H λvs H1=>∃j:Int,vs=[.int j]/\ -(2^62)<=j/\j<2^62/\R (Itr 0 j.toNat) H1
def qku(ta:TA):TI:=λσ H R=>ta σ H λvs H1=>∃i j:Int,vs=[.int i,.int j]/\(-(2^62)<=i/\i<2^62/\ -(2^62)<=j/\j<2^62)/\R (Itr i (j-i).toNat) H1
theorem q2j{a:Expr}{ta:TA}{p pos:Pos}(hg:Gl X "range")(hm:X.mg "range"=none)(ha:PA X [a] ta)(hs:starEach [a] X.env=[(false,eval a X.env)]:=by rfl):PI X tg (.Call (.Name "range" p) [a] [] pos) (qkv ta):=by
 intro z4 s σ H R I h
 refine Call_ (q50 I hg hm boot_range (PyProof.Rows.callWith_type1 (thn (ha pos z4 s σ H _ I h) λus s1 ⟨vs,H1,I1,r1,q1⟩=>?_) hs rfl))
 obtain⟨j,e,q1,q2,q⟩:=q1
 subst e
 cases r1 with
 | cons r rr=>
   cases rr
   obtain⟨t,rfl⟩:=r
   exact call_range_1 (q8n I1 (by omega) (by omega) q1 q2 (by simpa using q))
theorem q6p{a b:Expr}{ta:TA}{p pos:Pos}(hg:Gl X "range")(hm:X.mg "range"=none)(ha:PA X [a,b] ta)(hs:starEach [a,b] X.env=[(false,eval a X.env),(false,eval b X.env)]:=by rfl)(hs2:starEach [b] X.env=[(false,eval b X.env)]:=by rfl):
   PI X tg (.Call (.Name "range" p) [a,b] [] pos) (qku ta):=by
 intro z4 s σ H R I h
 refine Call_ (q50 I hg hm boot_range (PyProof.Rows.callWith_type1 (thn (ha pos z4 s σ H _ I h) λus s1 ⟨vs,H1,I1,r1,q1⟩=>?_) (by rw[hs,hs2]) (by rw[hs2];rfl)))
 obtain⟨i,j,e,⟨q1,q2,q3,q4⟩,q⟩:=q1
 subst e
 cases r1 with
 | cons r rr=>
   cases rr with
   | cons r' rr=>
     cases rr
     obtain⟨t,rfl⟩:=r
     obtain⟨t',rfl⟩:=r'
     exact call_range_2 (q8n I1 q1 q2 q3 q4 q)
def tFor(wi:TI)(g:TG)(tb:TS):TS:=λD σ H=>wi σ H λJ H1=>∃W:Nat->Nat->St->Hp->Prop,(∃m,W 0 m σ H1)/\∀i m σ H,W i m σ H->
 (J.stop i H/\D.nx σ H)∨(J.go i H/\∃N:St->Hp->Prop,(∀σ' H',N σ' H'->∃m',m'<m/\W (i+1) m' σ' H')/\∀x H',J.yld i H x H'->g x σ H' λσ2 H2=>tb {D with nx:=N,ct:=N,bk:=D.nx} σ2 H2)
def q6n(fp:List Addr)(h:Heap):List (Addr×Obj):=fp.filterMap λb=>(h.get? b).map λo=>(b,o)
theorem q31{fp:List Addr}{h:Heap}{b:Addr}{o:Obj}(hb:b∈fp)(e:h.get? b=some o):(b,o)∈q6n fp h:=List.mem_filterMap.mpr ⟨b,hb,by rw[e];rfl⟩
theorem qbj{fp:List Addr}{h:Heap}{p:Addr×Obj}(hp:p∈q6n fp h):p.1∈fp/\h.get? p.1=some p.2:=by
 obtain⟨b,hb,e⟩:=List.mem_filterMap.mp hp
 cases q:h.get? b with
 |none=>rw[q]at e;cases e
 | some o=>
   rw[q]at e
   have e':(b,o)=p:=jb e
   subst e'
   exact⟨hb,q⟩
theorem Inv.pinned{z4:List (Addr×Obj)}{σ:St}{H:Hp}{s:Shared}{fp:List Addr}(I:Inv X z4 σ H s)(hf:∀b∈fp,FpOk X z4 H b)(ho:∀b∈fp,∃o,s.heap.get? b=some o/\∀v,o.data≠.cell v):Inv X (z4++q6n fp s.heap) σ H s:=
 I.pins_of λp hp=>(List.mem_append.mp hp).elim (λz=>I.pin p (jt _ z)) λz=>by
   obtain⟨hb,e⟩:=qbj z
   obtain⟨f0,f1,f2,_⟩:=hf p.1 hb
   obtain⟨o,e',d⟩:=ho p.1 hb
   rw[e]at e';cases e'
   exact⟨e,f0,f1,f2,d⟩
theorem Inv.unpinned{z4 pl:List (Addr×Obj)}{σ:St}{H:Hp}{s:Shared}(I:Inv X (z4++pl) σ H s):Inv X z4 σ H s:=I.pins_of λp hp=>I.pin p (jt _ (List.mem_append_left _ hp))
theorem q25{z9:Expr}{body:List Stmt}{wi:TI}{g:TG}{tb:TS}{pos:Pos}(hp:PassesOwn (model X.prog X.w) X.A X.env X.xe)(hc:X.calm=true)(hi:PI X tg z9 wi)(hg:PG X tg g)(hb:PSs X body tb)
   (hs:∀x,foldedSetIterable z9 X.env x=pure x:=by intro _;rfl):PS X (.For tg z9 body [] pos) (tFor wi g tb):=by
 intro z4 s σ H D I h
 refine wpAny_For (thn (hi z4 s σ H _ I h) λv s1 h1=>thn h1 λitv s2 h2=>?_) hs
 obtain⟨it,fp,tn,J,H2,e,I2,T,st2,f2,W,⟨m0,w0⟩,turn⟩:=h2
 subst e
 -- what stays true of the iterator's objects through the loop
 have stat:∀{H':Hp},(∀b∈fp,H' b=none)->∀b∈fp,FpOk X z4 H' b:=λhn b hb=>⟨hn b hb,(f2 b hb).2⟩
 refine codeAny_forLoop_any (λn s'=>∃i σ' H',Inv X z4 σ' H' s'/\tn i s'.heap/\(∀b∈fp,H' b=none)/\W i n σ' H') ?_ m0 ⟨0,σ,H2,I2,st2,λb hb=>(f2 b hb).1,w0⟩
 rintro n s3 ⟨i,σ3,H3,I3,st3,fr3,w3⟩
 rcases turn i n σ3 H3 w3 with⟨stop,qn⟩|⟨go,N,hN,step⟩
 · refine xx hp (thn (T.done X rfl rfl rfl hc i z4 s3 σ3 H3 X.xe I3 (stat fr3) st3 stop) λr s4 ⟨hr,I4⟩=>?_)
   subst hr
   exact wpAny_execs_nil ⟨σ3,H3,I4,qn⟩
 · refine xx hp (thn (T.item X rfl rfl rfl hc i z4 s3 σ3 H3 X.xe I3 (stat fr3) st3 go) λr s4 ⟨u,hr,h4⟩=>?_)
   subst hr
   refine xx hp (thn h4 λ_ s5 ⟨x,H5,I5,r5,y5,st5,fr5⟩=>?_)
   have I5':=I5.pinned (stat fr5) (T.obj _ _ st5)
   refine xx hp (thn (hg _ s5 σ3 H5 x u _ I5' r5 (step x H5 y5)) λ_ s6 ⟨σ6,H6,I6,q6⟩=>?_)
   refine xx hp (thn (hb _ s6 σ6 H6 _ I6 q6) λf s7 q7=>?_)
   have again:∀{σ7:St} {H7:Hp},Inv X (z4++q6n fp s5.heap) σ7 H7 s7->N σ7 H7->∃m,m<n/\∃i σ' H',Inv X z4 σ' H' s7/\tn i s7.heap/\(∀b∈fp,H' b=none)/\W i m σ' H':=λ{σ7 H7} I7 n7=>by
     obtain⟨m',hm,w7⟩:=hN σ7 H7 n7
     refine⟨m',hm,i+1,σ7,H7,I7.unpinned,T.keep _ _ _ st5 λb hb o e=>(I7.pin (b,o) (jt _ (jt _ (q31 hb e)))).1,λb hb=>?_,w7⟩
     obtain⟨o,e,d⟩:=T.obj _ _ st5 b hb
     exact(I7.pin (b,o) (jt _ (jt _ (q31 hb e)))).2.1
   cases f with
   |next=>obtain⟨σ7,H7,I7,n7⟩:=q7;exact again I7 n7
   |cont=>obtain⟨σ7,H7,I7,n7⟩:=q7;exact again I7 n7
   |brk=>obtain⟨σ7,H7,I7,q7⟩:=q7;exact⟨σ7,H7,I7.unpinned,q7⟩
   |ret v=>obtain⟨x7,σ7,H7,I7,r7,q7⟩:=q7;exact⟨x7,σ7,H7,I7.unpinned,r7,q7⟩
end
abbrev R2:=V->V->Hp->VK->Prop
def OpR(X:Cx)(f:Value->Value->Sem Value)(r:R2):Prop:=
 ∀(z4:List (Addr×Obj)) (s:Shared) (σ:St) (H:Hp) (x y:V) (v u:Value) (Q:VK),Inv X z4 σ H s->RelV x v->RelV y u->r x y H Q->
   wpAny (model X.prog X.w) X.A (f v u) (EP X z4 σ Q) X.xe s
def UnR(X:Cx)(f:Value->Sem Value)(r:V->Hp->VK->Prop):Prop:=
 ∀(z4:List (Addr×Obj)) (s:Shared) (σ:St) (H:Hp) (x:V) (v:Value) (Q:VK),Inv X z4 σ H s->RelV x v->r x H Q->
   wpAny (model X.prog X.w) X.A (f v) (EP X z4 σ Q) X.xe s
def q48(X:Cx)(f:Value)(r:List V->Hp->VK->Prop):Prop:=
 ∀(z4:List (Addr×Obj)) (s:Shared) (σ:St) (H:Hp) (xs:List V) (us:List Value) (Q:VK),Inv X z4 σ H s->Vals xs us->r xs H Q->
   wpAny (model X.prog X.w) X.A (call f us) (EP X z4 σ Q) X.xe s
def tOp(r:R2)(ta tb:TE):TE:=λσ H Q=>ta σ H λx H1=>tb σ H1 λy H2=>r x y H2 Q
def tUn(r:V->Hp->VK->Prop)(ta:TE):TE:=λσ H Q=>ta σ H λx H1=>r x H1 Q
def rI(C:Int->Int->Prop)(g:Int->Int->V):R2:=λx y H Q=>∃i j,x=.int i/\y=.int j/\C i j/\Q (g i j) H
def rI0(g:Int->Int->V):R2:=λx y H Q=>∃i j,x=.int i/\y=.int j/\Q (g i j) H
def rU(g:Int->V):V->Hp->VK->Prop:=λx H Q=>∃i,x=.int i/\Q (g i) H
section
variable{X:Cx}{a b c:Expr}{ta tb tc:TE}{pos:Pos}
theorem binT(ha:PE X a ta)(hb:PE X b tb){z4:List (Addr×Obj)}{s:Shared}{σ:St}{H:Hp}{R:V->V->Hp->Prop}(I:Inv X z4 σ H s)
   (h:ta σ H λx H1=>tb σ H1 λy H2=>R x y H2) {Q:Value->Shared->Prop} {f:Value->Value->Sem Value}
   (hf:∀v u s2 x y H2,Inv X z4 σ H2 s2->RelV x v->RelV y u->R x y H2->wpAny (model X.prog X.w) X.A (f v u) Q X.xe s2):
   wpAny (model X.prog X.w) X.A (eval a X.env) (λv s₁=>wpAny (model X.prog X.w) X.A (eval b X.env) (λu s₂=>wpAny (model X.prog X.w) X.A (f v u) Q X.xe s₂) X.xe s₁) X.xe s:=by
 refine thn (ha z4 s σ H _ I h) λv s1 ⟨x,H1,I1,r1,q1⟩=>?_
 refine thn (hb z4 s1 σ H1 _ I1 q1) λu s2 ⟨y,H2,I2,r2,q2⟩=>?_
 exact hf v u s2 x y H2 I2 r1 r2 q2
theorem q11{op:Operator}{r:R2}(ho:OpR X (binaryOp op) r)(ha:PE X a ta)(hb:PE X b tb):PE X (.BinOp a op b pos) (tOp r ta tb):=by
 intro z4 s σ H Q I h
 exact wpAny_BinOp (binT ha hb I h λv u s2 x y H2 I2 rx ry q=>ho z4 s2 σ H2 x y v u Q I2 rx ry q)
theorem qjc{op:UnaryOp}{r:V->Hp->VK->Prop}(ho:UnR X (unaryOp op) r)(ha:PE X a ta):PE X (.UnaryOp op a pos) (tUn r ta):=by
 intro z4 s σ H Q I h
 exact UnaryOp_ (thn (ha z4 s σ H _ I h) λv s1 ⟨x,H1,I1,r1,q1⟩=>ho z4 s1 σ H1 x v Q I1 r1 q1)
theorem opI{f:Value->Value->Sem Value}{C:Int->Int->Prop}{g:Int->Int->Int}
   (rule:∀(i j:Int) (t u:Tok) (s:Shared) (Q:Value->Shared->Prop) (E:Value->Shared->Prop),C i j->Q (.int (g i j) s.toks) {s with toks:=s.toks+1}->wpAny (model X.prog X.w) X.A (f (.int i t) (.int j u)) Q E s):
   OpR X f (rI C λi j=>.int (g i j)):=by
 intro z4 s σ H x y v u Q I rx ry h
 obtain⟨i,j,rfl,rfl,hc,q⟩:=h
 obtain⟨t,rfl⟩:=rx
 obtain⟨t',rfl⟩:=ry
 exact rule i j t t' s _ _ hc ⟨.int (g i j),H,I.tok _,⟨_,rfl⟩,q⟩
theorem opI0{f:Value->Value->Sem Value}{g:Int->Int->Int}
   (rule:∀(i j:Int) (t u:Tok) (s:Shared) (Q:Value->Shared->Prop) (E:Value->Shared->Prop),Q (.int (g i j) s.toks) {s with toks:=s.toks+1}->wpAny (model X.prog X.w) X.A (f (.int i t) (.int j u)) Q E s):
   OpR X f (rI0 λi j=>.int (g i j)):=by
 intro z4 s σ H x y v u Q I rx ry h
 obtain⟨i,j,rfl,rfl,q⟩:=h
 obtain⟨t,rfl⟩:=rx
 obtain⟨t',rfl⟩:=ry
 exact rule i j t t' s _ _ ⟨.int (g i j),H,I.tok _,⟨_,rfl⟩,q⟩
theorem opB0{f:Value->Value->Sem Value}{g:Int->Int->Bool}
   (rule:∀(i j:Int) (t u:Tok) (s:Shared) (Q:Value->Shared->Prop) (E:Value->Shared->Prop),Q (.bool (g i j)) s->wpAny (model X.prog X.w) X.A (f (.int i t) (.int j u)) Q E s):
   OpR X f (rI0 λi j=>.bl (g i j)):=by
 intro z4 s σ H x y v u Q I rx ry h
 obtain⟨i,j,rfl,rfl,q⟩:=h
 obtain⟨t,rfl⟩:=rx
 obtain⟨t',rfl⟩:=ry
 exact rule i j t t' s _ _ ⟨.bl (g i j),H,I,rfl,q⟩
def CDiv(i j:Int):Prop:=0<j/\j<1073741824
def CPow(i j:Int):Prop:=0<=j/\j<=1000000/\i.natAbs<2^64
def CMul(i j:Int):Prop:=(-(2^64)<i/\i<2^64)∨(-(2^64)<j/\j<2^64)
theorem CMul.ok{i j:Int}(h:CMul i j):IntMulOk i j:=by
 rcases h with⟨h1,h2⟩|⟨h1,h2⟩
 · exact .of_left (intBits_le_64 h1 h2)
 · exact .of_right (intBits_le_64 h1 h2)
theorem q9d(k:Nat):(0:Int)<=2^k:=by
 rw[two_pow_cast]
 exact Int.natCast_nonneg _
theorem op_add:OpR X (binaryOp .Add) (rI0 λi j=>.int (i+j)):=opI0 λ_ _ _ _ _ _ _ q=>add_int q
theorem qjk:OpR X (binaryOp .Sub) (rI0 λi j=>.int (i-j)):=opI0 λ_ _ _ _ _ _ _ q=>sub_int q
theorem qbf:OpR X (binaryOp .FloorDiv) (rI CDiv λi j=>.int (i / j)):=opI λi j _ _ _ _ _ hc q=>by
 have h1:(0:Int)<j:=hc.1
 have h2:j<1073741824:=hc.2
 exact floordiv_int (by omega) (by rw[Int.fdiv_eq_ediv_of_nonneg i (by omega)];exact q) (.inl (PyProof.noPylong_small (by omega)))
theorem q3q:OpR X (binaryOp .Mod) (rI (λ_ j=>0<j) λi j=>.int (i % j)):=opI λi j _ _ _ _ _ hc q=>by
 have h1:(0:Int)<j:=hc
 exact mod_int' (by omega) (by rw[Int.fmod_eq_emod_of_nonneg i (by omega)];exact q)
theorem qf0:OpR X (binaryOp .Pow) (rI CPow λi j=>.int (i^j.toNat)):=opI λ_ _ _ _ _ _ _ hc q=>pow_int_small hc.1 hc.2.1 hc.2.2 q
theorem q8r:OpR X (binaryOp .LShift) (rI CPow λi j=>.int (i*2^j.toNat)):=opI λ_ _ _ _ _ _ _ hc q=>lshift_int_small hc.1 hc.2.1 hc.2.2 q
theorem qez:OpR X (binaryOp .RShift) (rI (λ_ j=>0<=j) λi j=>.int (i / 2^j.toNat)):=opI λi j _ _ _ _ _ hc q=>
 rshift_int hc (by rw[Int.fdiv_eq_ediv_of_nonneg i (q9d _)];exact q)
theorem q8s:OpR X (binaryOp .BitAnd) (rI0 λi j=>.int (Builtin.bitAnd i j)):=opI0 λ_ _ _ _ _ _ _ q=>and_int q
theorem qjj:OpR X (binaryOp .BitXor) (rI0 λi j=>.int (Builtin.bitXor i j)):=opI0 λ_ _ _ _ _ _ _ q=>xor_int q
theorem unI{f:Value->Sem Value}{g:Int->Int}
   (rule:∀(i:Int) (t:Tok) (s:Shared) (Q:Value->Shared->Prop) (E:Value->Shared->Prop),Q (.int (g i) s.toks) {s with toks:=s.toks+1}->wpAny (model X.prog X.w) X.A (f (.int i t)) Q E s):
   UnR X f (rU λi=>.int (g i)):=by
 intro z4 s σ H x v Q I rx h
 obtain⟨i,rfl,q⟩:=h
 obtain⟨t,rfl⟩:=rx
 exact rule i t s _ _ ⟨.int (g i),H,I.tok _,⟨_,rfl⟩,q⟩
theorem qet:UnR X (unaryOp .USub) (rU λi=>.int (-i)):=unI λ_ _ _ _ _ q=>neg_int q
end
section
variable{X:Cx}{a b c:Expr}{ta tb tc:TE}{pos:Pos}
theorem qm2:OpR X (compareOp .LtE) (rI0 λi j=>.bl (decide (i<=j))):=opB0 λ_ _ _ _ _ _ _ q=>le_int q
theorem qgd:OpR X (compareOp .Gt) (rI0 λi j=>.bl (decide (j<i))):=opB0 λ_ _ _ _ _ _ _ q=>gt_int q
theorem OpR.or{f:Value->Value->Sem Value}{r r':R2}(h:OpR X f r)(h':OpR X f r'):OpR X f (λx y H Q=>r x y H Q∨r' x y H Q):=by
 intro z4 s σ H x y v u Q I rx ry q
 rcases q with q|q
 · exact h z4 s σ H x y v u Q I rx ry q
 · exact h' z4 s σ H x y v u Q I rx ry q
theorem q2z(b:Expr){op:CmpOp}(h:op≠.In:=by decide)(h2:op≠.NotIn:=by decide):behindInMarks op b=false:=by
 have e1:(op==CmpOp.In)=false:=by cases op<;>first|rfl|exact absurd rfl h
 have e2:(op==CmpOp.NotIn)=false:=by cases op<;>first|rfl|exact absurd rfl h2
 cases b<;>simp[behindInMarks,e1,e2]
theorem qg4{op:CmpOp}{r:R2}(ho:OpR X (compareOp op) r)(ha:PE X a ta)(hb:PE X b tb)(hm:behindInMarks op b=false):PE X (.Compare a [op] [b] pos) (tOp r ta tb):=by
 intro z4 s σ H Q I h
 exact wpAny_Compare1 (binT ha hb I h λv u s2 x y H2 I2 rx ry q=>ho z4 s2 σ H2 x y v u Q I2 rx ry q) hm
def qfo(t:TE):TT:=λσ H Q=>t σ H λx H'=>∃k,x=.bl k/\Q k H'
theorem q2a{op:CmpOp}{r:R2}(ho:OpR X (compareOp op) r)(ha:PE X a ta)(hb:PE X b tb)(hm:behindInMarks op b=false):PT X (.Compare a [op] [b] pos) (qfo (tOp r ta tb)):=by
 intro z4 s σ H Q I h
 refine wpAny_isTrue_Compare1 (thn (ha z4 s σ H _ I h) λv s1 ⟨x,H1,I1,r1,q1⟩=>thn (hb z4 s1 σ H1 _ I1 q1) λu s2 ⟨y,H2,I2,r2,q2⟩=>
   thn (ho z4 s2 σ H2 x y v u _ I2 r1 r2 q2) λc s3 ⟨z,H3,I3,r3,k,e,q3⟩=>?_) hm
 subst e
 cases r3
 exact xw ⟨H3,I3,q3⟩
theorem q72:(sizeLine:Nat)<2^63:=by rw[sizeLine_eq];decide
theorem q9r:OpR X (binaryOp .Add) (λx y H Q=>∃i j,x=.str i/\y=.str j/\i.length+j.length<=sizeLine/\Q (.str (i++j)) H):=by
 intro z4 s σ H x y v u Q I rx ry h
 obtain⟨i,j,rfl,rfl,hz,q⟩:=h
 obtain⟨t,rfl⟩:=rx
 obtain⟨t',rfl⟩:=ry
 exact add_str (λt' tk=>⟨.str (i++j),H,I.tok _,⟨_,rfl⟩,q⟩) hz
theorem vals1{x:V}{us:List Value}(r:Vals [x] us):∃u,us=[u]/\RelV x u:=by
 cases r with
 |cons r1 r2=>cases r2;exact⟨_,rfl,r1⟩
theorem vals2{x y:V}{us:List Value}(r:Vals [x,y] us):∃u w',us=[u,w']/\RelV x u/\RelV y w':=by
 cases r with
 | cons r1 r2=>
   cases r2 with
   |cons r3 r4=>cases r4;exact⟨_,_,rfl,r1,r3⟩
theorem qcy:q48 X (.type "int") (λxs H Q=>(∃i,xs=[.int i]/\Q (.int i) H)∨∃k,xs=[.bl k]/\Q (.int (if k then 1 else 0)) H):=by
 intro z4 s σ H xs us Q I r h
 rcases h with⟨i,rfl,q⟩|⟨k,rfl,q⟩
 · obtain⟨u,rfl,t,rfl⟩:=vals1 r
   exact call_int_int ⟨.int i,H,I,⟨_,rfl⟩,q⟩
 · obtain⟨u,rfl,r1⟩:=vals1 r
   cases r1
   exact call_int_bool ⟨.int (if k then 1 else 0),H,I.tok _,⟨_,rfl⟩,q⟩
end
structure ObjM(h:Heap)(x dx C:Addr)(mA:Str->Option Value):Prop where
 obj:h.get? x=some (PySem.W.instObj C dx)
 ns:h.Ns1 dx mA
 ne:dx≠x
theorem qbz{h:Heap}{dx:Addr}{mA:Str->Option Value}(n:h.Ns1 dx mA):∃od,h.get? dx=some od/\∀name,PySem.W.lookIn name od=some (mA name):=by
 obtain⟨o,es,ep,ho,hd,hk,_,hm⟩:=n
 refine⟨o,ho,λname=>?_⟩
 have e:=hm name
 unfold nsFind findBy at e
 rw[<-Array.find?_toList]at e
 unfold PySem.W.lookIn
 rw[hd]
 dsimp only
 split
 · rename_i y q
   rw[q]at e
   exact congrArg some e
 · rename_i q
   rw[q]at e
   have a:es.toList.any (·.refKey)=false:=by
     rw[List.any_eq_false]
     intro y hy
     obtain⟨z,t,hkey⟩:=hk y (Array.mem_toList_iff.mp hy)
     simp[DictEntry.refKey,hkey]
   have a':¬es.toList.any (·.refKey)=true:=by rw[a];exact Bool.false_ne_true
   rw[if_neg a']
   exact congrArg some e
theorem ObjM.look{h:Heap}{x dx C:Addr}{mA:Str->Option Value}(I:ObjM h x dx C mA):∃od,PySem.W.InstAt h x (PySem.W.instObj C dx) C (some od)/\∀name,PySem.W.lookIn name od=some (mA name):=
 let ⟨od,ho,hl⟩:=qbz I.ns
 ⟨od,⟨I.obj,rfl,rfl,ho⟩,hl⟩
section
variable{prog:Program}{w:World}{A:Around}{E:Value->Shared->Prop}{s:Shared}{K:PySem.W.Frag}{x dx C f:Addr}{mA:Str->Option Value}{name:Str}{v:Value}
end
theorem RelO.some_of{v:V}{o:Option Value}(r:RelO (some v) o):∃u,o=some u/\RelV v u:=by
 cases o with
 |none=>exact(show False from r).elim
 |some u=>exact⟨u,rfl,r⟩
section
variable{P:Program}{w:World}{H H':Hp}{h h':Heap}{a C dx:Addr}{fs fs':List (Str×V)}
theorem qh7(hok:HOk P w H h)(e:H a=some (.ins C dx fs)):∃mA,ObjM h a dx C mA/\(∀f,RelO (fs.lookup f) (mA f))/\PySem.Within mA (fs.map (·.1))/\fs.length<=1000/\H dx=some (.own a):=by
 obtain⟨d,z,ne,ob,mA,n,r,q⟩:=(show ObjOk P w H h a (.ins C dx fs)from hok a _ e)
 exact⟨mA,⟨ob,n,ne⟩,r,q,z,d⟩
end
structure Cls(K:PySem.W.Frag)(C:Addr):Prop where
 pg:PySem.W.plainGet K C Str.empty=true
 hd:PySem.W.hasDictIn K C=true
 po:PySem.W.plainOver K C=true
 sa:PySem.W.findIn K (.ref C) "__setattr__"=some (some (.builtin "object.__setattr__"))
theorem Cls.get{K:PySem.W.Frag}{C:Addr}(c:Cls K C)(f:Str):PySem.W.plainGet K C f=true:=c.pg
structure Con(K:PySem.W.Frag)(C:Addr)(f:Str)(v:V)(u:Value):Prop where
 at_:PySem.W.findIn K (.ref C) f=some (some u)
 rel:RelV v u
 get:PySem.W.specialIn K u "__get__"=some none
 cp:PySem.W.copiedNames.contains f=false
structure Meth(K:PySem.W.Frag)(C:Addr)(m:Str)(f:Addr):Prop where
 at_:PySem.W.findIn K (.ref C) m=some (some (.ref f))
 fn:PySem.W.isFn K (.ref f)=true
 kp:PySem.W.keepIn K (.ref f)=true
section
variable{X:Cx}{z4:List (Addr×Obj)}{σ:St}{H:Hp}{s:Shared}{a C dx:Addr}{fs:List (Str×V)}{f:Str}{v:V}{A:Around}{E:Value->Shared->Prop}
end
section
variable{X:Cx}{o e value:Expr}{f:Str}{pos zq tpos:Pos}{ta tv:TE}
end
section
variable{X:Cx}{z4:List (Addr×Obj)}{σ:St}{H:Hp}{s:Shared}{A:Around}{E:Value->Shared->Prop}{Q:Value->Shared->Prop}{c:Value}{b:Bool}
inductive TyOf(K:PySem.W.Frag)(H:Hp):V->Value->Prop where
 |non:TyOf K H .non (.type "NoneType")
 |bl (x:Bool):TyOf K H (.bl x) (.type "bool")
 |int (i:Int):TyOf K H (.int i) (.type "int")
 |str (x:Str):TyOf K H (.str x) (.type "str")
 |flt (x:UInt64):TyOf K H (.flt x) (.type "float")
 |lst {a:Addr} {xs:List V} (e:H a=some (.lst xs)):TyOf K H (.ref a) (.type "list")
 |frz {a:Addr} {o:Obj} {xs:List V} (e:H a=some (.frz o (.lst xs))):TyOf K H (.ref a) (.type "list")
 |tup {a:Addr} {xs:List V} (e:H a=some (.tup xs)):TyOf K H (.ref a) (.type "tuple")
 |dK {a:Addr} {kvs:List (Key×V)} (e:H a=some (.dK kvs)):TyOf K H (.ref a) (.type "dict")
 |dT {a:Addr} {kvs:List (List Key×V)} (e:H a=some (.dT kvs)):TyOf K H (.ref a) (.type "dict")
 |ins {a C dx:Addr} {fs:List (Str×V)} (e:H a=some (.ins C dx fs)) (cl:Cls K C) (ha:PySem.W.findIn K (.ref C) "__class__"=some (some (.builtin "object.__class__")))
     (hn:PySem.W.specialIn K (.builtin "object.__class__") "__get__"=some (some (.builtin "getset_descriptor.__get__"))) (htk:PySem.W.takesIn K (.builtin "object.__class__")=some true)
     (hm:PySem.W.mroIn K C (.type "object")=some true):TyOf K H (.ref a) (.ref C)
theorem qcc{x:V}{u t:Value}(I:Inv X z4 σ H s)(rx:RelV x u)(ty:TyOf X.K H x t)(e:PySem.W.kitOne X.K t c=some b)(h:∀tk,Q (.bool b) {s with toks:=tk}):
   wpAny (model X.prog X.w) A (call (.builtin "isinstance") [u,c]) Q E s:=by
 cases ty with
 |non=>cases(show u=Value.none from rx);exact PySem.W.kia_one PySem.W.kitx_none I.kIn True.intro e (λz=>nomatch z) h
 |bl y=>cases(show u=Value.bool y from rx);exact PySem.W.kia_one PySem.W.kitx_bool I.kIn True.intro e (λz=>nomatch z) h
 |int i=>obtain⟨t,q⟩:=(show∃t,u=Value.int i t from rx);cases q;exact PySem.W.kia_one PySem.W.kitx_int I.kIn True.intro e (λz=>nomatch z) h
 |str y=>obtain⟨t,q⟩:=(show∃t,u=Value.str y t from rx);cases q;exact PySem.W.kia_one PySem.W.kitx_str I.kIn True.intro e (λz=>nomatch z) h
 |flt y=>obtain⟨t,q⟩:=(show∃t,u=Value.float y t from rx);cases q;exact PySem.W.kia_one PySem.W.kitx_float I.kIn True.intro e (λz=>nomatch z) h
 | @lst a xs ea=>
   cases(show u=Value.ref a from rx)
   obtain⟨_,_,n,_,h1⟩:=(show ObjOk X.prog X.w H s.heap a (.lst xs)from I.hok a _ ea)
   exact PySem.W.kia_one PySem.W.kitx_list I.kIn ⟨_,h1,rfl⟩ e (λz=>nomatch z) h
 | @frz a ob xs ea=>
   cases(show u=Value.ref a from rx)
   obtain⟨_,_,_,n,_,h1⟩:=(show ObjOk X.prog X.w H s.heap a (.frz ob (.lst xs))from I.hok a _ ea)
   exact PySem.W.kia_one PySem.W.kitx_list I.kIn ⟨_,h1,rfl⟩ e (λz=>nomatch z) h
 | @tup a xs ea=>
   cases(show u=Value.ref a from rx)
   obtain⟨_,_,_,p⟩:=(show ObjOk X.prog X.w H s.heap a (.tup xs)from I.hok a _ ea)
   obtain⟨o,h1,⟨h2,_⟩,_⟩:=p
   exact PySem.W.kia_one PySem.W.kitx_tuple I.kIn ⟨o,h1,h2⟩ e (λz=>nomatch z) h
 | @dK a kvs ea=>
   cases(show u=Value.ref a from rx)
   obtain⟨_,_,vs,_,p⟩:=(show ObjOk X.prog X.w H s.heap a (.dK kvs)from I.hok a _ ea)
   obtain⟨o,es,h1,h2,_⟩:=p
   exact PySem.W.kia_one PySem.W.kitx_dict I.kIn ⟨o,h1,h2.1⟩ e (λz=>nomatch z) h
 | @dT a kvs ea=>
   cases(show u=Value.ref a from rx)
   obtain⟨_,_,xs,_,o,es,ep,h1,h2,_⟩:=(show ObjOk X.prog X.w H s.heap a (.dT kvs)from I.hok a _ ea)
   exact PySem.W.kia_one PySem.W.kitx_dict I.kIn ⟨o,h1,h2.1⟩ e (λz=>nomatch z) h
 | @ins a C dx fs ea cl ha hn htk hm=>
   cases(show u=Value.ref a from rx)
   obtain⟨mA,O,_⟩:=qh7 I.hok ea
   obtain⟨od,J,_⟩:=O.look
   exact PySem.W.kia_one (PySem.W.kitx_own (cl.get _) cl.hd ha hn htk hm) I.kIn J e (λz=>nomatch z) h
end
structure Room(k:Nat)(A:Around):Prop where
 hd:A.handled=none
 dp:A.depth+3*k+5<recursionLimit
 un:A.units+16*k+200<cLine
theorem Room.mono{j k:Nat}{A:Around}(r:Room k A)(h:j<=k):Room j A:=⟨r.hd,by have:=r.dp;omega,by have:=r.un;omega⟩
theorem Room.m{j k:Nat}{A:Around}(r:Room k A)(h:j<=k:=by decide):Room j A:=r.mono h
theorem Room.deeper{k:Nat}{A:Around}(r:Room (k+1) A)(env:Env):Room k (A.deeper env):=
 ⟨r.hd,by have:=r.dp;show A.depth+1+3*k+5<_;omega,by have:=r.un;show A.units+3+16*k+200<_;omega⟩
theorem Room.in1{k:Nat}{A:Around}(r:Room (k+1) A):Room k A.in1:=
 ⟨r.hd,by have:=r.dp;show A.depth+3*k+5<_;omega,by have:=r.un;show A.units+1+16*k+200<_;omega⟩
theorem Room.depth{k:Nat}{A:Around}(r:Room k A):A.depth<recursionLimit:=by have:=r.dp;omega
theorem Room.units{k:Nat}{A:Around}(r:Room k A):A.units+64<cLine:=by have:=r.un;omega
def tNil:TA:=λ_ H Q=>Q [] H
def q23(ta:TE)(tr:TA):TA:=λσ H Q=>ta σ H λx H1=>tr σ H1 λxs H2=>Q (x::xs) H2
section
variable{X:Cx}{e:Expr}{es:List Expr}{te:TE}{t:TA}{pos:Pos}
theorem q07:PA X [] tNil:=λ_ _ _ _ H Q I h=>Calls.spliced_nil ⟨[],H,I,.nil,h⟩
theorem q01(ha:PE X e te)(hr:PA X es t)(hs:starEach (e::es) X.env=(false,eval e X.env)::starEach es X.env:=by rfl):PA X (e::es) (q23 te t):=by
 intro pos z4 s σ H Q I h
 rw[hs]
 show wpAny _ _ (spliced ((false,eval e X.env)::backTo pos (starEach es X.env))) _ _ s
 refine Calls.spliced_cons (thn (ha z4 s σ H _ I h) λu s1 ⟨x,H1,I1,r1,q1⟩=>?_)
 exact thn (hr pos z4 s1 σ H1 _ I1 q1) λus s2 ⟨xs,H2,I2,r2,q2⟩=>⟨x::xs,H2,I2,.cons r1 r2,q2⟩
def tTup(t:TA):TE:=λσ H Q=>t σ H λxs H1=>xs.length<=sizeLine/\∀p,H1 p=none->Q (.ref p) (upd H1 p (.tup xs))
def tLst(t:TA):TE:=λσ H Q=>t σ H λxs H1=>xs.length<=sizeLine/\∀p,H1 p=none->Q (.ref p) (upd H1 p (.lst xs))
theorem q2w{x1}(h:PA X es t):PE X (.Tuple es x1 pos) (tTup t):=by
 intro z4 s σ H Q I hq
 refine wpAny_Tuple_spliced (thn (h pos z4 s σ H _ I hq) λus s1 ⟨xs,H1,I1,r,z,q⟩=>⟨by rw[<-r.length];exact z,?_⟩)
 have hf:H1 s1.heap.objs.size=none:=I1.hok.fresh (jc _)
 refine⟨.ref s1.heap.objs.size,upd H1 s1.heap.objs.size (.tup xs),I1.laid (t':=s1.toks) (λb u e=>ja _ e) (jc _) ?_,rfl,q _ hf⟩
 exact⟨z,us,r,⟨_,je _ rfl,⟨rfl,_,rfl⟩,rfl⟩⟩
theorem q2x(h:PA X es t):PE X (.List es pos) (tLst t):=by
 intro z4 s σ H Q I hq
 refine wpAny_List_spliced (thn (h pos z4 s σ H _ I hq) λus s1 ⟨xs,H1,I1,r,z,q⟩=>⟨by rw[<-r.length];exact z,?_⟩)
 have hf:H1 s1.heap.objs.size=none:=I1.hok.fresh (jc _)
 refine⟨.ref s1.heap.objs.size,upd H1 s1.heap.objs.size (.lst xs),I1.laid (t':=s1.toks) (λb u e=>ja _ e) (jc _) ?_,rfl,q _ hf⟩
 exact⟨z,us,0,r,je _ rfl⟩
end
abbrev Sp:=List V->Hp->VK->XK->Prop
abbrev CXT:=List Env->Hp->Shared->XK->Value->Shared->Prop
structure Env0(P:Program)(w:World)(K:PySem.W.Frag)(mg:Str->Option Value)(base:Heap)(A:Around)(outer:List Env)(s:Shared)(H:Hp):Prop where
 frames:A.frames=some outer
 mod:Mod K mg base
 bs:∀b o,base.get? b=some o->s.heap.get? b=some o/\H b=none
 bsz:base.objs.size<=s.heap.objs.size
 funs:s.heap.FunFrames base outer
 frf:∀b∈frs outer,H b=none
 hok:HOk P w H s.heap
 bare:AllBare s.gens
def CE(outer:List Env)(P:Program)(w:World)(H:Hp)(s:Shared)(Q:VK)(u:Value)(s':Shared):Prop:=
 ∃v H',s'.os=s.os/\AllBare s'.gens/\Un (frs outer) [] H H' s.heap s'.heap/\HOk P w H' s'.heap/\RelV v u/\Q v H'
def CR(CX:CXT)(outer:List Env)(P:Program)(w:World)(H:Hp)(s:Shared)(Q:VK)(E:XK)(r:Result)(s':Shared):Prop:=
 match r with
 |.ok (.ret u)=>CE outer P w H s Q u s'
 |.ok _=>False
 |.error e=>CX outer H s E e s'
structure FnOk(P:Program)(w:World)(K:PySem.W.Frag)(mg:Str->Option Value)(base:Heap)(CX:CXT)(k:Nat)(f:Addr)(fd:FuncData)(ps:List Str)(sp:Sp):Prop where
 len:∀vs H Q E,sp vs H Q E->vs.length=ps.length
 run:∀(A:Around) (outer:List Env) (s:Shared) (H:Hp) (args:Args) (us:List Value) (vs:List V) (Q:VK) (E:XK),Room k A->Env0 P w K mg base A outer s H->BindsTo s fd args (ps.zip us)->Vals vs us->sp vs H Q E->
   codeAny (model P w) A (.call (.ref f) args) (CR CX outer P w H s Q E) s
theorem FnOk.mono{P:Program}{w:World}{K:PySem.W.Frag}{mg:Str->Option Value}{base:Heap}{CX:CXT}{j k:Nat}{f:Addr}{fd:FuncData}{ps:List Str}{sp:Sp}(F:FnOk P w K mg base CX j f fd ps sp)(h:j<=k):
   FnOk P w K mg base CX k f fd ps sp:=⟨F.len,λA outer s H args us vs Q E hr=>F.run A outer s H args us vs Q E (hr.mono h)⟩
theorem FnOk.imp{P:Program}{w:World}{K:PySem.W.Frag}{mg:Str->Option Value}{base:Heap}{CX:CXT}{k:Nat}{f:Addr}{fd:FuncData}{ps:List Str}{sp sp':Sp}(F:FnOk P w K mg base CX k f fd ps sp)
   (h:∀vs H Q E,sp' vs H Q E->sp vs H Q E):FnOk P w K mg base CX k f fd ps sp':=
 ⟨λvs H Q E q=>F.len vs H Q E (h _ _ _ _ q),λA outer s H args us vs Q E hr he hb hv hs=>F.run A outer s H args us vs Q E hr he hb hv (h _ _ _ _ hs)⟩
theorem Env0.in1{P:Program}{w:World}{K:PySem.W.Frag}{mg:Str->Option Value}{base:Heap}{A:Around}{outer:List Env}{s:Shared}{H:Hp}(e:Env0 P w K mg base A outer s H):
   Env0 P w K mg base A.in1 outer s H:=⟨e.frames,e.mod,e.bs,e.bsz,e.funs,e.frf,e.hok,e.bare⟩
section
variable{X:Cx}{z4:List (Addr×Obj)}{σ:St}{H:Hp}{s s':Shared}
theorem Inv.env0(I:Inv X z4 σ H s):Env0 X.prog X.w X.K X.mg X.base X.A X.stack s H:=
 ⟨I.ok.frames,I.ok.mod,I.bs,jy I.ok.bsz I.sz,I.stack,I.stkFree,I.hok,I.bare⟩
theorem Inv.after{Q:VK}{u:Value}(I:Inv X z4 σ H s)(h:CE X.stack X.prog X.w H s Q u s'):EP X z4 σ Q u s':=by
 obtain⟨v,H',os,bare,un,hok,r,q⟩:=h
 obtain⟨hh,g,d,t,os'⟩:=s'
 obtain rfl:os'=s.os:=os
 exact⟨v,H',I.call (h':=hh) (g':=g) (d':=d) (t':=t) (ch:=[]) un hok bare (λb z=>absurd z (by simp)),r,q⟩
end
def q4e(sp:Sp)(dvs:List V)(E:XK)(t:TA):TE:=λσ H Q=>t σ H λvs H1=>sp (vs++dvs) H1 Q E
def Binds(K:PySem.W.Frag)(fd:FuncData)(ps:List Str)(ds:List Value):Prop:=
 ∀(s:Shared) (us:List Value),K.In s.heap->(us++ds).length=ps.length->BindsTo s fd ⟨us,[]⟩ (ps.zip (us++ds))
theorem Binds.all{K:PySem.W.Frag}{fd:FuncData}{ps:List Str}(h:∀us:List Value,us.length=ps.length->bindArgs fd ⟨us,[]⟩=pure (ps.zip us)):Binds K fd ps []:=λs us _ hl=>by
 rw[List.append_nil]at hl ⊢
 exact .of_eq (h us hl)
def qd8(CX:CXT)(X:Cx)(E:XK):Prop:=∀(z4:List (Addr×Obj)) (σ:St) (H:Hp) (s:Shared) (e:Value) (s':Shared),Inv X z4 σ H s->CX X.stack H s E e s'->X.xe e s'
section
variable{X:Cx}{CX:CXT}{k:Nat}{f C:Addr}{fd:FuncData}{ps:List Str}{sp:Sp}{dvs:List V}{ds:List Value}{E:XK}{x m:Str}{p pos zl:Pos}{e o:Expr}{es:List Expr}{ta:TE}{t:TA}
theorem qis{z4:List (Addr×Obj)}{σ:St}{H:Hp}{s:Shared}{Q:VK}{us:List Value}{vs:List V}(F:FnOk X.prog X.w X.K X.mg X.base CX k f fd ps sp)(hr:Room k X.A)(hb:Binds X.K fd ps ds)(hd:Vals dvs ds)(hx:qd8 CX X E)
   (I:Inv X z4 σ H s) (r:Vals vs us) (h:sp (vs++dvs) H Q E):wpAny (model X.prog X.w) X.A (call (.ref f) us) (EP X z4 σ Q) X.xe s:=by
 have r2:Vals (vs++dvs) (us++ds):=r.append hd
 have hl:(us++ds).length=ps.length:=by rw[<-r2.length];exact F.len _ _ _ _ h
 refine wpAny_call (codeAny_mono (F.run X.A X.stack s H ⟨us,[]⟩ (us++ds) (vs++dvs) Q E hr I.env0 (hb s us I.kIn hl) r2 h) λr s' hq=>?_)
 cases r with
 |error e=>exact hx z4 σ H s e s' I hq
 | ok fl=>
   cases fl with
   |ret u=>exact I.after hq
   |next=>exact False.elim hq
   |brk=>exact False.elim hq
   |cont=>exact False.elim hq
theorem q0f(F:FnOk X.prog X.w X.K X.mg X.base CX k f fd ps sp)(hr:Room k X.A)(hg:Gl X x)(hm:X.mg x=some (.ref f))(hk:PySem.W.keepIn X.K (.ref f)=true)(hb:Binds X.K fd ps ds)(hd:Vals dvs ds)(hx:qd8 CX X E)
   (ha:PA X (e::es) t) (hdb:(x==("__debug__":Str))=false:=by decide) (he:starEach (e::es) X.env=(false,eval e X.env)::starEach es X.env:=by rfl) (hpl:(backTo pos (starEach es X.env)).any (·.1)=false:=by rfl):
   PE X (.Call (.Name x p) (e::es) [] pos) (q4e sp dvs E t):=by
 intro z4 s σ H Q I h
 refine ku (qgu I hg hm ?_ hdb)
 refine PySem.W.callWith_K (h₀:=X.base) I.ok.mod.kin hk (thn (ha pos z4 s σ H _ I h) λus s1 ⟨vs,H1,I1,r,q⟩=>⟨I1.kIn,?_⟩) he hpl
 exact qis F hr hb hd hx I1 r q
structure Mk(K:PySem.W.Frag)(C f:Addr):Prop where
 makes:PySem.W.makesIn K C=true
 init:PySem.W.findIn K (.ref C) "__init__"=some (some (.ref f))
 fn:PySem.W.isFn K (.ref f)=true
 kp:PySem.W.keepIn K (.ref C)=true
end
section
variable{X:Cx}{CX:CXT}{k:Nat}{f C:Addr}{fd:FuncData}{ps ks:List Str}{sp:Sp}{E:XK}{x m:Str}{p pos zl kpos:Pos}{e o:Expr}{es:List Expr}{kws:List Keyword}{te ta:TE}{t tk:TA}{nm:Option Str}
structure qmr(K:PySem.W.Frag)(fd:FuncData)(ps ks:List Str)(g:List Value->List Value->List Value)(gV:List V->List V->List V):Prop where
 to:∀(s:Shared) (us ws:List Value),K.In s.heap->(g us ws).length=ps.length->BindsTo s fd ⟨us,ks.zip ws⟩ (ps.zip (g us ws))
 rel:∀{vs:List V} {us:List Value} {zs:List V} {ws:List Value},Vals vs us->Vals zs ws->Vals (gV vs zs) (g us ws)
variable{g:List Value->List Value->List Value}{gV:List V->List V->List V}
end
structure q0s(N P:List Str)(sc:Scope):Prop where
 kind:sc.kind=.function
 co:sc.isCoroutine=false
 gen:sc.isGenerator=false
 nd:N.Nodup
 pre:N.take P.length=P
 par:∀x∈P,sc.names.lookup x=some .local∨sc.names.lookup x=some .cell
 nofree:∀y∈sc.names,y.2≠.free
theorem q7f{kindOf:Str->Option NameKind}{x:Str}:∀{binds:List (Str×Value)} {m:Str->Option Value},(∀v,(x,v)∉binds)->bindL kindOf binds m x=m x
 |[],_,_=>rfl
 | (n,v)::r,m,h=>by
   unfold bindL
   rw[q7f λw hw=>h w (jj _ hw)]
   split
   · have:x≠n:=by rintro rfl;exact h v jf
     simp[this]
   · rfl
theorem q7h{kindOf:Str->Option NameKind}{x:Str}:∀{binds:List (Str×Value)} {m:Str->Option Value},(∀v,(x,v)∉binds)->bindC kindOf binds m x=m x
 |[],_,_=>rfl
 | (n,v)::r,m,h=>by
   unfold bindC
   rw[q7h λw hw=>h w (jj _ hw)]
   split
   · rfl
   · have:x≠n:=by rintro rfl;exact h v jf
     simp[this]
theorem q7g{kindOf:Str->Option NameKind}{x:Str}{v:Value}:∀{P:List Str} {vs:List Value} {i:Nat} {m:Str->Option Value},P.Nodup->P[i]? =some x->vs[i]? =some v->kindOf x=some .local->
   bindL kindOf (P.zip vs) m x=some v
 |[],_,_,_,_,h,_,_=>by simp at h
 |_::_,[],_,_,_,_,h,_=>by simp at h
 | p::P,w::vs,0,m,nd,h1,h2,hk=>by
   simp at h1 h2;subst h1;subst h2
   show bindL kindOf ((p,w)::P.zip vs) m p=_
   unfold bindL
   rw[q7f λv hv=>(List.nodup_cons.mp nd).1 (List.of_mem_zip hv).1,if_pos hk]
   simp
 | p::P,w::vs,i+1,m,nd,h1,h2,hk=>by
   show bindL kindOf ((p,w)::P.zip vs) m x=_
   unfold bindL
   exact q7g (i:=i) (List.nodup_cons.mp nd).2 (by simpa using h1) (by simpa using h2) hk
theorem q7i{kindOf:Str->Option NameKind}{x:Str}{v:Value}:∀{P:List Str} {vs:List Value} {i:Nat} {m:Str->Option Value},P.Nodup->P[i]? =some x->vs[i]? =some v->kindOf x≠some .local->
   bindC kindOf (P.zip vs) m x=some v
 |[],_,_,_,_,h,_,_=>by simp at h
 |_::_,[],_,_,_,_,h,_=>by simp at h
 | p::P,w::vs,0,m,nd,h1,h2,hk=>by
   simp at h1 h2;subst h1;subst h2
   show bindC kindOf ((p,w)::P.zip vs) m p=_
   unfold bindC
   rw[q7h λv hv=>(List.nodup_cons.mp nd).1 (List.of_mem_zip hv).1,if_neg hk]
   simp
 | p::P,w::vs,i+1,m,nd,h1,h2,hk=>by
   show bindC kindOf ((p,w)::P.zip vs) m x=_
   unfold bindC
   exact q7i (i:=i) (List.nodup_cons.mp nd).2 (by simpa using h1) (by simpa using h2) hk
def start(N:List Str)(vs:List V):St:=vs.map some++List.replicate (N.length-vs.length) none
def cxOf(CX:CXT)(P:Program)(w:World)(K:PySem.W.Frag)(mg:Str->Option Value)(base:Heap)(N:List Str)(qual:Str)(scope:Scope)(f:Addr)(cd:Value)(A:Around)(outer:List Env)(s:Shared)(H:Hp)(E:XK):Cx where
 prog:=P
 w:=w
 K:=K
 mg:=mg
 base:=base
 A:=A.deeper (envOfC qual scope s.heap.objs.size f cd)
 N:=N
 s₀:=s
 H₀:=H
 env:=envOfC qual scope s.heap.objs.size f cd
 outer:=outer
 stack:=envOfC qual scope s.heap.objs.size f cd::outer
 ex:=[]
 calm:=true
 fn:=λ_=>true
 pn:=[]
 xe:=λe s'=>wpAny (model P w) (A.deeper (envOfC qual scope s.heap.objs.size f cd)) (leaving (envOfC qual scope s.heap.objs.size f cd) e) (λ_ s''=>CX outer H s E e s'') (λe' s''=>CX outer H s E e' s'') s'
theorem q99{sc:Scope}{n:Nat}{x:Str}(h:sc.names.lookup x=some .cell):∃c,(cellsFrom n sc.names []).lookup x=some c:=by
 have q:=PySem.W.cellsFrom_some sc.names n [] (.inl h)
 exact Option.isSome_iff_exists.mp q
theorem qcd{CX:CXT}{P:Program}{w:World}{K:PySem.W.Frag}{mg:Str->Option Value}{base:Heap}{N ps:List Str}{qual:Str}{scope:Scope}{f:Addr}{cd:Value}{A:Around}{outer:List Env}{s s1:Shared}{H:Hp}{E:XK}{us:List Value}{vs:List V}
   (S:q0s N ps scope) (hd:A.handled=none) (e0:Env0 P w K mg base A outer s H) (hl:vs.length=ps.length) (r:Vals vs us)
   (x:InCallC s s.heap.objs.size (bindL (envOfC qual scope s.heap.objs.size f cd).kindOf (ps.zip us) λ_=>none) (cellsFrom (s.heap.objs.size+1) scope.names []) (bindC (envOfC qual scope s.heap.objs.size f cd).kindOf (ps.zip us) λ_=>none) s1):
   Inv (cxOf CX P w K mg base N qual scope f cd A outer s H E) [] (start N vs) H s1:=by
 have hpl:ps.length<=N.length:=by have:=congrArg List.length S.pre;rw[List.length_take]at this;omega
 obtain⟨h1,tk,rfl,hk⟩:=x.done
 have noA:∀b:Addr,b∉(cxOf CX P w K mg base N qual scope f cd A outer s H E).ex:=λb z=>absurd (show b∈([]:List Addr)from z) (by simp)
 refine⟨⟨e0.mod,S.kind,rfl,rfl,jc _,λy z c h1 h2=>?_,λy hy=>?_,λy c _ h=>?_,λ_=>hd,Around.frames_deeper e0.frames,.inr ⟨rfl,rfl⟩,λb z=>absurd z (noA b),e0.bs,e0.bsz,λb _ _=>noA b,λb z=>absurd z (noA b),e0.funs,e0.frf⟩,
   rfl,e0.bare,Un.kept hk,⟨_,x.toInCall.ns,λi y v h1 h2 h3=>?_⟩,λy c h=>⟨_,x.cell y c h⟩,e0.hok.fresh (jc _),λy c h=>?_,λp hp=>absurd (show p∈([]:List (Addr×Obj))from hp) (by simp),e0.hok.kept hk,?_⟩
 · exact name_of_addr x.apart (PySem.mem_of_lookup h1) (PySem.mem_of_lookup h2)
 · have hy:scope.names.lookup y=some .cell∨scope.names.lookup y=some .free:=hy
   rcases hy with hy|hy
   · exact q99 hy
   · exact absurd rfl (S.nofree _ (PySem.mem_of_lookup hy))
 · exact Nat.le_of_lt (x.above y c (PySem.mem_of_lookup h))
 · have hi:i<vs.length:=by
     unfold start at h2
     by_cases hi:i<vs.length
     · exact hi
     · rw[ke (by simpa using hi)]at h2
       rw[va]at h2
       split at h2<;>cases h2
   have ha:vs[i]? =some v:=by
     unfold start at h2
     rw[v9 (by simpa using hi),ju]at h2
     cases e:vs[i]? with
     |none=>rw[e]at h2;cases h2
     |some a=>rw[e]at h2;cases h2;rfl
   obtain⟨u,hu,rv⟩:=r.get ha
   have hp:ps[i]? =some y:=by
     rw[<-S.pre,List.getElem?_take_of_lt (by omega)];exact h1
   have ndP:ps.Nodup:=by rw[<-S.pre];exact S.nd.sublist (List.take_sublist _ _)
   refine⟨u,rv,?_⟩
   rcases S.par y (k8 hp)with k|k
   · exact .inl ⟨k,q7g ndP hp hu k⟩
   · obtain⟨c,e⟩:=q99 (n:=s.heap.objs.size+1) k
     refine .inr ⟨.inl k,c,e,?_⟩
     have q:=x.cell y c e
     rw[q7i ndP hp hu (by show scope.names.lookup y≠_;rw[k];decide)]at q
     exact q
 · exact e0.hok.fresh (Nat.le_of_lt (x.above y c (PySem.mem_of_lookup h)))
 · unfold start
   show _=N.length
   rw[jm,j9,xj]
   omega
theorem qky{CX:CXT}{P:Program}{w:World}{K:PySem.W.Frag}{mg:Str->Option Value}{base:Heap}{k:Nat}{f:Addr}{name qual:Str}{params:Arguments}{body:List Stmt}{scope:Scope}{dV kV doc pm cdv ct oc:Value}{an od:Option Addr}
   {osl:Array (Option Value)} {N ps:List Str} {sp:Sp} (lk:K.lookup f=some ⟨oc,od,.func (PySem.W.fnOf name qual params body scope dV kV doc pm an cdv ct),osl⟩) (hcd:PySem.W.codeIn K cdv qual=true) (S:q0s N ps scope)
   (len:∀vs H Q E,sp vs H Q E->vs.length=ps.length)
   (zc:∀(A:Around) (outer:List Env) (s:Shared) (H:Hp) (vs:List V) (Q:VK) (E:XK),Room k (A.deeper (envOfC qual scope s.heap.objs.size f cdv))->sp vs H Q E->
     ∃t,PSs (cxOf CX P w K mg base N qual scope f cdv A outer s H E) body t/\t {nx:=λ_ H'=>Q .non H',rt:=Q} (start N vs) H):
   FnOk P w K mg base CX (k+1) f (PySem.W.fnOf name qual params body scope dV kV doc pm an cdv ct) ps sp:=by
 refine⟨len,λA outer s H args us vs Q E hr e0 hb r hsp=>?_⟩
 have hl:=len _ _ _ _ hsp
 have KX:K.In s.heap:=e0.mod.kin.keeps λb o e=>(e0.bs b o e).1
 have lim:s.heap.NoLimit:=e0.mod.nolimit.keeps λb o e=>(e0.bs b o e).1
 have zj:∀y∈ps.zip us,scope.names.lookup y.1=some .local∨(scope.names.lookup y.1=some .cell/\((cellsFrom (s.heap.objs.size+1) scope.names []).lookup y.1).isSome=true):=λ⟨n,v⟩ hy=>by
   rcases S.par n (List.of_mem_zip hy).1 with q|q
   · exact .inl q
   · exact .inr ⟨q,PySem.W.cellsFrom_some _ _ _ (.inl q)⟩
 refine codeAny_call_function hr.depth (KX _ _ lk) rfl S.co S.gen rfl (PySem.W.codeRec_of KX hcd) (hb _ _ _ _ ?_)
 refine wpAny_newFunctionEnv_cells S.kind zj λenv he s1 x=>?_
 subst he
 refine⟨lim.keeps x.toInCall.keep,codeAny_func ?_⟩
 obtain⟨t,ht,hq⟩:=zc A outer s H vs Q E (hr.deeper _) hsp
 have I:Inv (cxOf CX P w K mg base N qual scope f cdv A outer s H E) [] (start N vs) H s1:=qcd S hr.hd e0 hl r x
 refine jz (ht [] s1 (start N vs) H _ I hq) (λfl s' hs=>?_) λe s' hs=>hs
 have fin:∀{σ':St} {H':Hp} {v:V} {u:Value},Inv (cxOf CX P w K mg base N qual scope f cdv A outer s H E) [] σ' H' s'->RelV v u->Q v H'->CE outer P w H s Q u s':=
   λ{σ' H' v u} J rv q=>⟨v,H',J.os,J.bare,J.base,J.hok,rv,q⟩
 cases fl with
 | ret u=>
   obtain⟨v,σ',H',J,rv,q⟩:=hs
   exact fin J rv q
 | next=>
   obtain⟨σ',H',J,q⟩:=hs
   exact fin (v:=V.non) (u:=Value.none) J rfl q
 | brk=>
   obtain⟨_,_,_,q⟩:=hs
   exact False.elim q
 | cont=>
   obtain⟨_,_,_,q⟩:=hs
   exact False.elim q
section
variable{X:Cx}{x:Str}{p pos:Pos}{e:Expr}{es:List Expr}{t:TA}{id T:String}{r:List V->Hp->VK->Prop}
def tCB(r:List V->Hp->VK->Prop)(t:TA):TE:=λσ H Q=>t σ H λvs H1=>r vs H1 Q
theorem q0y(hc:q48 X (.builtin id) r)(hg:Gl X x)(hm:X.mg x=none)(hv:bootBuiltins x=some (.builtin id))(ha:PA X (e::es) t)(hn:x≠"__name__":=by decide)(hdb:(x==("__debug__":Str))=false:=by decide)
   (he:starEach (e::es) X.env=(false,eval e X.env)::starEach es X.env:=by rfl) (hpl:(backTo pos (starEach es X.env)).any (·.1)=false:=by rfl):PE X (.Call (.Name x p) (e::es) [] pos) (tCB r t):=by
 intro z4 s σ H Q I h
 refine ku (q50 I hg hm hv ?_ hn hdb)
 exact PyProof.Rows.callWith_builtin1 (thn (ha pos z4 s σ H _ I h) λus s1 ⟨vs,H1,I1,r1,q1⟩=>hc z4 s1 σ H1 vs us Q I1 r1 q1) he hpl
theorem q1y(hc:q48 X (.type T) r)(hg:Gl X x)(hm:X.mg x=none)(hv:bootBuiltins x=some (.type T))(ha:PA X (e::es) t)(hn:x≠"__name__":=by decide)(hdb:(x==("__debug__":Str))=false:=by decide)
   (he:starEach (e::es) X.env=(false,eval e X.env)::starEach es X.env:=by rfl) (hpl:(backTo pos (starEach es X.env)).any (·.1)=false:=by rfl):PE X (.Call (.Name x p) (e::es) [] pos) (tCB r t):=by
 intro z4 s σ H Q I h
 refine ku (q50 I hg hm hv ?_ hn hdb)
 exact PyProof.Rows.callWith_type1 (thn (ha pos z4 s σ H _ I h) λus s1 ⟨vs,H1,I1,r1,q1⟩=>hc z4 s1 σ H1 vs us Q I1 r1 q1) he hpl
end
end L2
namespace HT
open PySem PyProof.Rows
theorem rcLt_int(A:Around)(s:Shared)(a:Int)(t:Tok)(c:Int)(u:Tok)(prog:Program)(w:World)(E:Value->Shared->Prop)(Q:Value->Shared->Prop)(h:Q (.bool (decide (a<c))) s):
   wpAny (model prog w) A (richCompare .Lt (.int a t) (.int c u)) Q E s:=
 (PyProof.Rows.lt_int h:wpAny (model prog w) A (compareOp .Lt (.int a t) (.int c u)) Q E s)
section
open PySem.SeqAt
open PySem.AutoSeq1 (wpAny_loadPart')
open PySem.MeetsSeq PySem.MeetsSeq2 PySem.MeetsSeq3
end
section
variable{prog:Program}{w:World}{A:Around}{E:Value->Shared->Prop}{s:Shared}
def sIx(n d:Nat):Option Int->Nat
 |none=>d
 |some v=>if v<0 then(v+(n:Int)).toNat else min v.toNat n
theorem sIx_none(n d:Nat):sIx n d none=d:=rfl
theorem qiq(n d:Nat)(hd:d<=n)(o:Option Int):sIx n d o<=n:=by
 cases o with
 |none=>exact hd
 | some v=>
   show(if v<0 then(v+(n:Int)).toNat else min v.toNat n)<=n
   by_cases hv:v<0
   · rw[if_pos hv];omega
   · rw[if_neg hv];exact Nat.min_le_right _ _
theorem qcs(v:Int)(n d:Nat):(if v<0 then max (v+(n:Int)) 0 else min v (n:Int))=((sIx n d (some v):Nat):Int):=by
 show(if v<0 then max (v+(n:Int)) 0 else min v (n:Int))=(((if v<0 then(v+(n:Int)).toNat else min v.toNat n):Nat):Int)
 by_cases hv:v<0
 · simp only[if_pos hv];omega
 · simp only[if_neg hv];omega
theorem qa9(lo hi:Option Int)(n:Nat):Builtin.Slice.sliceAdjust lo hi 1 (n:Int)=(((sIx n 0 lo:Nat):Int),((sIx n n hi:Nat):Int)):=by
 have h1:¬((1:Int)<0):=by omega
 unfold Builtin.Slice.sliceAdjust
 simp only[h1,if_false]
 refine Prod.ext ?_ ?_
 · cases lo with
   |none=>rfl
   |some v=>exact qcs v n 0
 · cases hi with
   |none=>rfl
   |some v=>exact qcs v n n
theorem q9q(i j:Nat):Builtin.Slice.slicePlaces (i:Int) (j:Int) 1=j-i:=by
 unfold Builtin.Slice.slicePlaces
 have h1:(1:Int)>0:=by omega
 simp only[h1,if_true,Int.ediv_one]
 split<;>omega
theorem q5d{v:Value}{o:Option Int}{Q:Option Int->Shared->Prop}(p:IsPart v o)(h:Q o s):wpAny (model prog w) A (Builtin.Slice.slicePartIndex v) Q E s:=by
 cases p with
 |none=>exact slicePart_none h
 |int i t=>exact slicePart_int h
theorem q4f{sl:Addr}{vl vu:Value}{lo hi:Option Int}{n:Nat}{Q:Int×Int×Nat->Shared->Prop}(hs:s.heap.IsSliceOf sl vl vu .none)(pl:IsPart vl lo)(pu:IsPart vu hi)
   (h:Q (((sIx n 0 lo:Nat):Int),1,sIx n n hi-sIx n 0 lo) s):wpAny (model prog w) A (Builtin.Slice.sliceApplied (.ref sl) (pure (n:Int))) Q E s:=by
 obtain⟨os,hos,hcs,hds⟩:=id hs
 unfold Builtin.Slice.sliceApplied Builtin.Slice.sliceFields
 refine j6 (j6 (jn hos hds (x:=vl) rfl (j6 (jn hos hds (x:=vu) rfl (j6 (jn hos hds (x:=.none) rfl (j7 ?_)))))))
 refine j6 (slicePart_none ?_)
 show wpAny _ _ (if((1:Int)==0)=true then _ else _) _ _ s
 rw[if_neg (by decide)]
 refine j6 (q5d pl (j6 (q5d pu (j6 (j7 ?_)))))
 show wpAny _ _ (match Builtin.Slice.sliceAdjust lo hi 1 (n:Int)with|(lo,hi)=>pure (lo,(1:Int),Builtin.Slice.slicePlaces lo hi 1)) _ _ s
 rw[qa9 lo hi n]
 show wpAny _ _ (pure (((sIx n 0 lo:Nat):Int),(1:Int),Builtin.Slice.slicePlaces ((sIx n 0 lo:Nat):Int) ((sIx n n hi:Nat):Int) 1)) _ _ s
 rw[q9q]
 exact j7 h
theorem qdk(xs:Array Value)(i k:Nat):((List.range k).filterMap λ(m:Nat)=>xs[((i:Int)+(m:Int)*1).toNat]?).toArray=((xs.toList.drop i).take k).toArray:=by
 have e:(λ(m:Nat)=>xs[((i:Int)+(m:Int)*1).toNat]?)=λm=>xs[i+m]? :=by
   funext m
   have:((i:Int)+(m:Int)*1).toNat=i+m:=by omega
   rw[this]
 rw[e]
 have:=pick_run xs i k
 rw[List.filterMap_map]at this
 have e2:((λx=>xs[x]?)∘λx=>i+x)=λm=>xs[i+m]? :=rfl
 rw[e2]at this
 rw[this]
theorem getItem_tuple_cut{t sl:Addr}{items:Array Value}{vl vu:Value}{lo hi:Option Int}{Q:Value->Shared->Prop}(ht:IsTup s.heap t items)(hs:s.heap.IsSliceOf sl vl vu .none)(pl:IsPart vl lo)(pu:IsPart vu hi)
   (hw:¬(sIx items.size 0 lo=0/\sIx items.size items.size hi=items.size))
   (h:Q (.ref s.heap.objs.size) {s with heap:=s.heap.push {cls:=.type "tuple",data:=.seq ((items.toList.drop (sIx items.size 0 lo)).take (sIx items.size items.size hi-sIx items.size 0 lo)).toArray}})
   (hsz:items.size<=sizeLine):wpAny (model prog w) A (getItem (.ref t) (.ref sl)) Q E s:=by
 have htake:sizeOk (.seq ((items.toList.drop (sIx items.size 0 lo)).take (sIx items.size items.size hi-sIx items.size 0 lo)).toArray):=by
   show((items.toList.drop (sIx items.size 0 lo)).take (sIx items.size items.size hi-sIx items.size 0 lo)).toArray.size<=sizeLine
   rw[jl,List.length_take,List.length_drop,Array.length_toList]
   omega
 have hj:sIx items.size items.size hi<=items.size:=qiq _ _ (jc _) hi
 obtain⟨os,hos,hcs,hds⟩:=id hs
 have hTs:s.TypeIs (.ref sl) "slice":=⟨os,hos,hcs⟩
 unfold getItem
 try with_reducible refine jr ?_
 first|refine j6 (j7 ?_)|skip
 refine j6 (wpAny_sequenceKey ht.typeIs (by decide) ?_)
 refine j6 (xf (name:=Str.ofString "__getitem__") ht.typeIs PyProof.Rows.slot_tuple_getitem
   (jo PyProof.Rows.slot_tuple_getitem ht.typeIs entry_tuple_getitem ?_ (args_tuple_getitem _ _)))
 show wpAny _ _ (Builtin.Tuple.tupleItemsOf (.ref t) >>= _) _ _ s
 refine j6 (tupleItemsOf_ ht ?_)
 refine j6 (wpAny_typeOf hTs ?_)
 rw[if_pos (by decide)]
 refine j6 (q4f hs pl pu ?_)
 have hno:¬((((sIx items.size 0 lo:Nat):Int)==0&&(1:Int)==1&&(sIx items.size items.size hi-sIx items.size 0 lo)==items.size)=true):=by
   intro q
   rw[Bool.and_eq_true,Bool.and_eq_true]at q
   have q1:((sIx items.size 0 lo:Nat):Int)=0:=eq_of_beq q.1.1
   have q2:sIx items.size items.size hi-sIx items.size 0 lo=items.size:=eq_of_beq q.2
   exact hw ⟨by omega,by omega⟩
 show wpAny _ _ (if(((sIx items.size 0 lo:Nat):Int)==0&&(1:Int)==1&&(sIx items.size items.size hi-sIx items.size 0 lo)==items.size)=true then _ else _) _ _ s
 rw[if_neg hno,qdk]
 first
   |exact j6 (m:=Builtin.Tuple.tupleExact _) (jq (j7 ⟨_,rfl,j7 h⟩) htake)
   |exact j6 (m:=Builtin.Tuple.tupleExact _) (jq (j6 (j7 (j7 ⟨_,rfl,j7 h⟩))) htake)
   |exact j6 (j6 (m:=Builtin.Tuple.tupleExact _) (jq (j7 (j7 ⟨_,rfl,j7 h⟩)) htake))
   |exact j6 (j6 (m:=Builtin.Tuple.tupleExact _) (jq (j7 ⟨_,rfl,j7 h⟩) htake))
end
end HT
namespace L2
open PySem PySem.Spec PyProof.Rows
abbrev TO:=St->Hp->(Option Int->Hp->Prop)->Prop
def PO(X:Cx)(e:Option Expr)(t:TO):Prop:=
 ∀(z4:List (Addr×Obj)) (s:Shared) (σ:St) (H:Hp) (Q:Option Int->Hp->Prop),Inv X z4 σ H s->t σ H Q->
   wpAny (model X.prog X.w) X.A (evalPart e X.env) (λu s'=>∃o H',Inv X z4 σ H' s'/\IsPart u o/\Q o H') X.xe s
def qai:TO:=λ_ H Q=>Q none H
def qih(t:TE):TO:=λσ H Q=>t σ H λx H1=>∃i,x=.int i/\Q (some i) H1
section
variable{X:Cx}{e:Expr}{te:TE}{lo hi:Option Expr}{tl th:TO}{pos p2:Pos}
theorem q7p:PO X none qai:=by
 intro z4 s σ H Q I h
 rw[evalPart_none]
 exact j7 ⟨none,H,I,.none,h⟩
theorem q7o(h:PE X e te):PO X (some e) (qih te):=by
 intro z4 s σ H Q I hw
 rw[evalPart_some]
 refine thn (h z4 s σ H _ I hw) λu s1 ⟨x,H1,I1,r1,q1⟩=>?_
 obtain⟨i,rfl,q⟩:=q1
 obtain⟨t,rfl⟩:=r1
 exact⟨some i,H1,I1,.int i t,q⟩
def SlR(X:Cx)(r:V->Option Int->Option Int->Hp->VK->Prop):Prop:=
 ∀(z4:List (Addr×Obj)) (s:Shared) (σ:St) (H:Hp) (x:V) (v vl vu:Value) (lo hi:Option Int) (sl:Addr) (Q:VK),Inv X z4 σ H s->RelV x v->s.heap.IsSliceOf sl vl vu .none->IsPart vl lo->IsPart vu hi->r x lo hi H Q->
   ∃T id,typeLookup (.type T) "__getitem__"=pure (some (.builtin id))/\s.TypeIs v T/\wpAny (model X.prog X.w) X.A (getItem v (.ref sl)) (EP X z4 σ Q) X.xe s
theorem SlR.or{r r':V->Option Int->Option Int->Hp->VK->Prop}(h:SlR X r)(h':SlR X r'):SlR X (λx lo hi H Q=>r x lo hi H Q∨r' x lo hi H Q):=by
 intro z4 s σ H x v vl vu lo hi sl Q I rx hs pl pu q
 rcases q with q|q
 · exact h z4 s σ H x v vl vu lo hi sl Q I rx hs pl pu q
 · exact h' z4 s σ H x v vl vu lo hi sl Q I rx hs pl pu q
def tSl(r:V->Option Int->Option Int->Hp->VK->Prop)(te:TE)(tl th:TO):TE:=λσ H Q=>te σ H λx H1=>tl σ H1 λl H2=>th σ H2 λu H3=>r x l u H3 Q
theorem q5u{r:V->Option Int->Option Int->Hp->VK->Prop}(hr:SlR X r)(he:PE X e te)(hl:PO X lo tl)(hu:PO X hi th):PE X (.Subscript e (.Slice lo hi none p2) pos) (tSl r te tl th):=by
 intro z4 s σ H Q I h
 refine Subscript_ (thn (he z4 s σ H _ I h) λv s1 ⟨x,H1,I1,r1,q1⟩=>?_)
 refine wpAny_Slice (thn (hl z4 s1 σ H1 _ I1 q1) λvl s2 ⟨l,H2,I2,pl,q2⟩=>thn (hu z4 s2 σ H2 _ I2 q2) λvu s3 ⟨u,H3,I3,pu,q3⟩=>?_)
 rw[evalPart_none]
 refine j7 ?_
 have I4:Inv X z4 σ H3 {s3 with heap:=s3.heap.push {cls:=.type "slice",data:=.fields #[vl,vu,.none]}}:=I3.kept (t':=s3.toks) λb ob q=>ja _ q
 obtain⟨T,id,hT,ht,hg⟩:=hr z4 {s3 with heap:=s3.heap.push {cls:=.type "slice",data:=.fields #[vl,vu,.none]}} σ H3 x v vl vu l u s3.heap.objs.size Q I4 r1 (Heap.IsSliceOf.new ..) pl pu q3
 show wpAny (model X.prog X.w) X.A (subscriptTail e (.Slice lo hi none p2) v (.ref s3.heap.objs.size)) (EP X z4 σ Q) X.xe {s3 with heap:=s3.heap.push {cls:=.type "slice",data:=.fields #[vl,vu,.none]}}
 exact tail_any (ops:=[.ref s3.heap.objs.size,v]) ht hT hg (by with_unfolding_all rfl)
def cutV(xs:List V)(lo hi:Option Int):List V:=(xs.drop (HT.sIx xs.length 0 lo)).take (HT.sIx xs.length xs.length hi-HT.sIx xs.length 0 lo)
theorem q54(xs:List V)(lo hi:Option Int):(cutV xs lo hi).length<=xs.length:=by
 unfold cutV
 rw[List.length_take,List.length_drop]
 omega
def rSlT(K:PySem.W.Frag):V->Option Int->Option Int->Hp->VK->Prop:=λx lo hi H Q=>∃a xs,x=.ref a/\SqT K H a xs/\
 ¬(HT.sIx xs.length 0 lo=0/\HT.sIx xs.length xs.length hi=xs.length)/\∀p,H p=none->Q (.ref p) (upd H p (.tup (cutV xs lo hi)))
theorem qim:SlR X (rSlT X.K):=by
 intro z4 s σ H x v vl vu lo hi sl Q I rx hs pl pu h
 obtain⟨a,xs,rfl,hx,hw,q⟩:=h
 cases rx
 obtain⟨its,r,ht,hz⟩:=I.tuple hx
 have z5:its.toArray.size=xs.length:=by rw[jl];exact r.length.symm
 refine⟨"tuple",_,PyProof.Rows.slot_tuple_getitem.lookup,ht.typeIs,?_⟩
 refine HT.getItem_tuple_cut ht hs pl pu (by rw[z5];exact hw) ?_ (by rw[z5];exact hz)
 rw[z5]
 refine⟨.ref s.heap.objs.size,_,I.laid (t':=s.toks) (o:=.tup (cutV xs lo hi)) (λb ob q=>ja _ q) (jc _) ?_,rfl,q _ (I.hok.fresh (jc _))⟩
 exact⟨jy (q54 xs lo hi) hz,_,(r.drop (HT.sIx xs.length 0 lo)).take (HT.sIx xs.length xs.length hi-HT.sIx xs.length 0 lo),TupN.new _ _⟩
theorem Vals.nil_iff{xs:List V}{us:List Value}(r:Vals xs us):us=[]↔xs=[]:=by
 cases r with
 |nil=>simp
 |cons _ _=>simp
end
def ixN(n:Nat)(i:Int):Option Nat:=if 0<=i then(if i<n then some i.toNat else none)else if -(n:Int)<=i then some (i+n).toNat else none
def atI{α:Type}(xs:List α)(i:Int):Option α:=(ixN xs.length i).bind λj=>xs[j]?
theorem qc8{n:Nat}{i:Int}{j:Nat}(h:ixN n i=some j):seqIndex? i n=some j/\j<n/\ -(n:Int)<=i/\i<n:=by
 unfold ixN at h
 by_cases h0:0<=i
 · rw[if_pos h0]at h
   by_cases h1:i<n
   · rw[if_pos h1]at h
     have e:i.toNat=j:=jb h
     exact⟨by rw[seqIndex_of h0 h1,e],by omega,by omega,h1⟩
   · rw[if_neg h1]at h;cases h
 · rw[if_neg h0]at h
   by_cases h1: -(n:Int)<=i
   · rw[if_pos h1]at h
     have e:(i+n).toNat=j:=jb h
     exact⟨by rw[seqIndex_neg (by omega) h1,e],by omega,h1,by omega⟩
   · rw[if_neg h1]at h;cases h
theorem q88{α:Type}{xs:List α}{i:Int}{v:α}(h:atI xs i=some v):∃j,seqIndex? i xs.length=some j/\xs[j]? =some v/\j<xs.length/\ -(xs.length:Int)<=i/\i<xs.length:=by
 unfold atI at h
 cases e:ixN xs.length i with
 |none=>rw[e]at h;cases h
 | some j=>
   rw[e]at h
   obtain⟨h1,h2,h3,h4⟩:=qc8 e
   exact⟨j,h1,h,h2,h3,h4⟩
theorem qd3{α:Type}{xs:List α}{j:Nat}{v:α}(h:xs[j]? =some v):atI xs (j:Int)=some v:=by
 have hj:j<xs.length:=(List.getElem?_eq_some_iff.mp h).1
 have e:ixN xs.length (j:Int)=some j:=by
   unfold ixN
   rw[if_pos (by omega),if_pos (by omega)];simp
 unfold atI;rw[e];exact h
def qi8(b:Expr):Prop:=∀o i,subscripted b false o i=operate [o,i] (getItem o i)
def IxR(X:Cx)(r:R2):Prop:=
 ∀(value za:Expr) (z4:List (Addr×Obj)) (s:Shared) (σ:St) (H:Hp) (x y:V) (v u:Value) (Q:VK),Inv X z4 σ H s->RelV x v->RelV y u->r x y H Q->
   subscripted za false v u=operate [v,u] (getItem v u)->wpAny (model X.prog X.w) X.A (subscriptTail value za v u) (EP X z4 σ Q) X.xe s
def MtR(X:Cx)(id:String)(r:V->List V->Hp->VK->Prop):Prop:=
 ∀(z4:List (Addr×Obj)) (s:Shared) (σ:St) (H:Hp) (x:V) (xs:List V) (v:Value) (us:List Value) (Q:VK),Inv X z4 σ H s->RelV x v->Vals xs us->r x xs H Q->
   wpAny (model X.prog X.w) X.A (call (.builtin id) (v::us)) (EP X z4 σ Q) X.xe s
section
variable{X:Cx}{a b:Expr}{ta tb:TE}{pos:Pos}
theorem IxR.or{r r':R2}(h:IxR X r)(h':IxR X r'):IxR X (λx y H Q=>r x y H Q∨r' x y H Q):=by
 intro value za z4 s σ H x y v u Q I rx ry q hs
 rcases q with q|q
 · exact h value za z4 s σ H x y v u Q I rx ry q hs
 · exact h' value za z4 s σ H x y v u Q I rx ry q hs
theorem q1f{r:R2}(hr:IxR X r)(ha:PE X a ta)(hb:PE X b tb)(hs:qi8 b:=by exact λ_ _=>rfl):PE X (.Subscript a b pos) (tOp r ta tb):=by
 intro z4 s σ H Q I h
 exact Subscript_ (binT ha hb I h λv u s2 x y H2 I2 rx ry q=>hr a b z4 s2 σ H2 x y v u Q I2 rx ry q (hs _ _))
def rIxL(K:PySem.W.Frag):R2:=λx y H Q=>∃p xs i v,x=.ref p/\y=.int i/\SqL K H p xs/\atI xs i=some v/\Q v H
def rIxT(K:PySem.W.Frag):R2:=λx y H Q=>∃p xs i v,x=.ref p/\y=.int i/\SqT K H p xs/\atI xs i=some v/\Q v H
def rIxS:R2:=λx y H Q=>∃z i c,x=.str z/\y=.int i/\z.length<=sizeLine/\atI z.cps.toList i=some c/\Q (.str ⟨#[c]⟩) H
theorem ix_list:IxR X (rIxL X.K):=by
 intro value za z4 s σ H x y v u Q I rx ry h hs
 obtain⟨p,xs,i,z,rfl,rfl,hq,he,q⟩:=h
 cases rx
 obtain⟨t,rfl⟩:=ry
 obtain⟨its,r,pl,hz⟩:=I.list hq
 obtain⟨j,h1,h2,h3,h4,h5⟩:=q88 he
 obtain⟨w,ew,rw'⟩:=r.get h2
 have hl:=r.length
 have hn:=q72
 have fin:EP X z4 σ Q w s:=⟨z,H,I,rw',q⟩
 by_cases h0:0<=i
 · have hj:i.toNat=j:=by
     rw[seqIndex_of h0 h5]at h1
     exact jb h1
   exact item_listR pl.isList h0 (by omega) (by rw[hj];simpa using ew) fin hs
 · have hj:(i+(its.toArray.size:Int)).toNat=j:=by
     rw[seqIndex_neg (by omega) h4]at h1
     rw[jl,<-hl]
     exact jb h1
   exact subscriptTail_builtinR (x:=w) pl.isList.typeIs slot_list_getitem.lookup
     (wpAny_getItem_list_neg (Q:=λr s'=>r=w/\EP X z4 σ Q r s') pl.isList (by omega) (by rw[jl]<;>omega) (by omega) (by rw[hj];simpa using ew) ⟨rfl,fin⟩) hs
theorem ix_tup:IxR X (rIxT X.K):=by
 intro value za z4 s σ H x y v u Q I rx ry h hs
 obtain⟨p,xs,i,z,rfl,rfl,hq,he,q⟩:=h
 cases rx
 obtain⟨t,rfl⟩:=ry
 obtain⟨its,r,pl,hz⟩:=I.tuple hq
 obtain⟨j,h1,h2,h3,h4,h5⟩:=q88 he
 obtain⟨w,ew,rw'⟩:=r.get h2
 have hl:=r.length
 have hn:=q72
 have fin:EP X z4 σ Q w s:=⟨z,H,I,rw',q⟩
 exact subscriptTail_builtinR (x:=w) pl.typeIs slot_tuple_getitem.lookup
   (getItem_tuple (j:=j) (Q:=λr s'=>r=w/\EP X z4 σ Q r s') pl (by omega) (by omega) (by rw[jl,<-hl];exact h1) (by simpa using ew) ⟨rfl,fin⟩) hs
theorem qkn:IxR X rIxS:=by
 intro value za z4 s σ H x y v u Q I rx ry h hs
 obtain⟨z,i,c,rfl,rfl,hz,he,q⟩:=h
 obtain⟨t,rfl⟩:=rx
 obtain⟨t',rfl⟩:=ry
 obtain⟨j,h1,h2,h3,h4,h5⟩:=q88 he
 have hl:z.cps.toList.length=z.length:=by simp[Str.length]
 rw[hl]at h1 h4 h5
 have hn:=q72
 exact tail_any (typeIs_str s z t) slot_str_getitem.lookup (getItem_str (c:=c) (by
   have e1:decide (i< -(2^63:Int))=false:=decide_eq_false (by omega)
   have e2:decide (i≥2^63)=false:=decide_eq_false (by omega)
   rw[e1,e2,Bool.or_false]) (by rw[h1];simpa using h2) ⟨.str ⟨#[c]⟩,H,I.tok _,⟨_,rfl⟩,q⟩) hs
def rIx(K:PySem.W.Frag):R2:=λx y H Q=>rIxL K x y H Q∨rIxT K x y H Q∨rIxS x y H Q
theorem qko:IxR X (rIx X.K):=ix_list.or (ix_tup.or qkn)
theorem q9y(its:List Value)(n j:Nat)(u:Value):Obj.mapSeq (·.setIfInBounds j u) {cls:=.type "list",data:=.seq its.toArray n}={cls:=.type "list",data:=.seq (its.set j u).toArray n}:=by
 simp[Obj.mapSeq]
theorem Inv.lst{z4:List (Addr×Obj)}{σ:St}{H:Hp}{s:Shared}{p:Addr}{xs:List V}(I:Inv X z4 σ H s)(h:H p=some (.lst xs)):
   ∃(its:List Value) (n:Nat),Vals xs its/\s.heap.get? p=some {cls:=.type "list",data:=.seq its.toArray n}/\xs.length<=sizeLine:=by
 obtain⟨z,its,n,r,e⟩:=I.hok p _ h
 exact⟨its,n,r,e,z⟩
theorem Inv.lstUpd{z4:List (Addr×Obj)}{σ:St}{H:Hp}{s:Shared}{p:Addr}{xs ys:List V}{its its':List Value}{n n':Nat}{f:Obj->Obj}(I:Inv X z4 σ H s)(h:H p=some (.lst xs))
   (ho:s.heap.get? p=some {cls:=.type "list",data:=.seq its.toArray n}) (hf:f {cls:=.type "list",data:=.seq its.toArray n}={cls:=.type "list",data:=.seq its'.toArray n'}) (r:Vals ys its') (hz:ys.length<=sizeLine) (t:Nat):
   Inv X z4 σ (upd H p (.lst ys)) {s with heap:=s.heap.update p f,toks:=t}:=by
 have e:(s.heap.update p f).get? p=some {cls:=.type "list",data:=.seq its'.toArray n'}:=by
   rw[xo f ho (by rw[hf]<;>rfl),hf]
 refine I.write (x:=p) (e:=p) (by rw[h];trivial) (.inl rfl) (λb u hb q=>(xg _ _ (Ne.symm hb)).trans q) ⟨_,e⟩ ?_
 exact⟨hz,its',n',r,e⟩
def qix:V->V->V->Hp->(Hp->Prop)->Prop:=λo i v H Q=>∃p xs k j,o=.ref p/\i=.int k/\H p=some (.lst xs)/\ixN xs.length k=some j/\Q (upd H p (.lst (xs.set j v)))
theorem set_list:PSet X qix:=by
 intro z4 s σ H o i v ov iv u Q I ro ri rv h
 obtain⟨p,xs,k,j,rfl,rfl,hp,hj,q⟩:=h
 cases ro
 obtain⟨t,rfl⟩:=ri
 obtain⟨its,n,r,ho,hz⟩:=I.lst hp
 obtain⟨h1,h2,h3,h4⟩:=qc8 hj
 have hl:=r.length
 have hn:=q72
 have I':Inv X z4 σ (upd H p (.lst (xs.set j v))) {s with heap:=s.heap.update p (Obj.mapSeq (·.setIfInBounds j u))}:=
   I.lstUpd hp ho (q9y its n j u) (r.set rv j) (by rw[x4];exact hz) s.toks
 by_cases h0:0<=k
 · have hk:k.toNat=j:=by
     rw[seqIndex_of h0 h4]at h1
     exact jb h1
   exact PySem.W.ki_setAt ho h0 (by omega) (by rw[jl,<-hl];exact h4) (by rw[hk];exact⟨_,I',q⟩)
 · have hk:(k+(its.toArray.size:Int)).toNat=j:=by
     rw[seqIndex_neg (by omega) h3]at h1
     rw[jl,<-hl]
     exact jb h1
   exact PySem.W.ki_setBack ho (by omega) (by rw[jl,<-hl];exact h3) (by omega) (by rw[hk];exact⟨_,I',q⟩)
theorem q6e(lo hi:Option Int)(n:Nat):(sliceBounds lo hi none n).1=((HT.sIx n 0 lo:Nat):Int)/\(sliceBounds lo hi none n).2.1=((HT.sIx n n hi:Nat):Int)/\(sliceBounds lo hi none n).2.2=1:=by
 refine⟨?_,?_,rfl⟩
 · cases lo with
   |none=>simp[sliceBounds,HT.sIx]
   | some i=>
     simp only[sliceBounds,HT.sIx,Option.getD_none,show(1:Int)>0 by decide,if_true]
     by_cases h:i<0
     · simp only[h,if_true]<;>omega
     · simp only[h,if_false]<;>omega
 · cases hi with
   |none=>simp[sliceBounds,HT.sIx]
   | some i=>
     simp only[sliceBounds,HT.sIx,Option.getD_none,show(1:Int)>0 by decide,if_true]
     by_cases h:i<0
     · simp only[h,if_true]<;>omega
     · simp only[h,if_false]<;>omega
theorem q5r(its:List Value)(lo hi:Option Int):slicePick its.toArray lo hi none=((its.drop (HT.sIx its.length 0 lo)).take (HT.sIx its.length its.length hi-HT.sIx its.length 0 lo)).toArray:=by
 obtain⟨h1,h2,h3⟩:=q6e lo hi its.toArray.size
 unfold slicePick
 rw[h1,h2,h3]
 simp only[sliceRange_one,pick_run,List.size_toArray]<;>rfl
def rSlL(K:PySem.W.Frag):V->Option Int->Option Int->Hp->VK->Prop:=λx lo hi H Q=>∃a xs,x=.ref a/\SqL K H a xs/\∀p,H p=none->Q (.ref p) (upd H p (.lst (cutV xs lo hi)))
theorem sl_list:SlR X (rSlL X.K):=by
 intro z4 s σ H x v vl vu lo hi sl Q I rx hs pl pu h
 obtain⟨a,xs,rfl,hx,q⟩:=h
 cases rx
 obtain⟨its,r,ht,hz⟩:=I.list hx
 have z5:=r.length
 refine⟨"list",_,slot_list_getitem.lookup,ht.isList.typeIs,?_⟩
 refine wpAny_getItem_list_slice ht.isList hs pl pu .none (by simp) ?_ (by rw[List.size_toArray]<;>omega)
 rw[q5r,<-z5]
 refine⟨.ref s.heap.objs.size,_,I.laid (t':=s.toks) (o:=.lst (cutV xs lo hi)) (λb ob q=>ja _ q) (jc _) ?_,rfl,q _ (I.hok.fresh (jc _))⟩
 exact⟨jy (q54 xs lo hi) hz,_,0,(r.drop (HT.sIx xs.length 0 lo)).take (HT.sIx xs.length xs.length hi-HT.sIx xs.length 0 lo),je _ rfl⟩
theorem q7e:q48 X (.builtin "len") (λxs H Q=>∃p ys,xs=[.ref p]/\(SqL X.K H p ys∨SqT X.K H p ys)/\Q (.int ys.length) H):=by
 intro z4 s σ H xs us Q I r h
 obtain⟨p,ys,rfl,hq,q⟩:=h
 obtain⟨u,rfl,rx⟩:=vals1 r
 cases rx
 have hn:=q72
 rcases hq with hq|hq
 · obtain⟨its,r',pl,hz⟩:=I.list hq
   have z5:=r'.length
   exact Calls.call_len_list pl.isList (by simp only[List.size_toArray]<;>omega) ⟨.int ys.length,H,I.tok _,⟨s.toks+1,by rw[jl,z5]⟩,q⟩
 · obtain⟨its,r',pl,hz⟩:=I.tuple hq
   have z5:=r'.length
   exact len_tuple pl (by simp only[List.size_toArray]<;>omega) ⟨.int ys.length,H,I.tok _,⟨s.toks+1,by rw[jl,z5]⟩,q⟩
theorem q68:q48 X (.type "tuple") (λxs H Q=>∃p ys,xs=[.ref p]/\((SqL X.K H p ys/\∀l,H l=none->Q (.ref l) (upd H l (.tup ys)))∨(SqT X.K H p ys/\Q (.ref p) H))):=by
 intro z4 s σ H xs us Q I r h
 obtain⟨p,ys,rfl,h⟩:=h
 obtain⟨u,rfl,rx⟩:=vals1 r
 cases rx
 rcases h with⟨hq,q⟩|⟨hq,q⟩
 · obtain⟨its,r',pl,hz⟩:=I.list hq
   have z5:=r'.length
   refine call_tuple_list pl.isList (λh' kp=>?_) (by simp only[List.size_toArray]<;>omega)
   have I1:Inv X z4 σ H {s with heap:=h'}:=I.kept (t':=s.toks) kp
   have I2:Inv X z4 σ (upd H h'.objs.size (.tup ys)) {s with heap:=h'.push {cls:=.type "tuple",data:=.seq its.toArray}}:=
     I1.laid (t':=s.toks) (λb o e=>ja _ e) (jc _) (show ObjOk X.prog X.w _ _ _ (.tup ys)from⟨hz,its,r',TupN.new _ _⟩)
   exact⟨.ref h'.objs.size,_,I2,rfl,q _ (I1.hok.fresh (jc _))⟩
 · obtain⟨its,r',pl,hz⟩:=I.tuple hq
   exact call_tuple_same pl ⟨.ref p,H,I,rfl,q⟩
def tyV(K:PySem.W.Frag)(T:String)(x:V)(H:Hp):Prop:=match x with
 |.str _=>T="str"
 |.int _=>T="int"
 |.ref p=>(T="list"/\∃xs,SqL K H p xs)∨(T="tuple"/\∃o,K.lookup p=some o/\o.cls=.type "tuple"/\o.dict=none)∨
     (T="dict"/\((∃kvs,H p=some (.dK kvs))∨∃kvs,H p=some (.dT kvs)))∨(T="set"/\∃S n,H p=some (.set S n))
 |_=>False
theorem qad{z4:List (Addr×Obj)}{σ:St}{H:Hp}{s:Shared}{T:String}{x:V}{v:Value}(I:Inv X z4 σ H s)(r:RelV x v)(ty:tyV X.K T x H):
   s.TypeIs v T/\∀a,v=.ref a->∃ob,s.heap.get? a=some ob/\ob.dict=none:=by
 cases x with
 | str z=>
   obtain⟨t,rfl⟩:=r
   cases(show T="str" from ty)
   exact⟨typeIs_str s z t,λ_ e=>nomatch e⟩
 | int i=>
   obtain⟨t,rfl⟩:=r
   cases(show T="int" from ty)
   exact⟨typeIs_int s i t,λ_ e=>nomatch e⟩
 | ref p=>
   cases r
   rcases ty with⟨rfl,xs,hq⟩|⟨rfl,o,hk,hc,hd⟩|⟨rfl,hk⟩|⟨rfl,S,n,hk⟩
   · obtain⟨its,_,pl,_⟩:=I.list hq
     refine⟨pl.isList.typeIs,λa e=>?_⟩
     cases e
     obtain⟨o,n,e,c,hd,_⟩:=pl
     exact⟨o,e,hd⟩
   · refine⟨⟨o,I.kIn p o hk,hc⟩,λa e=>?_⟩
     cases e
     exact⟨o,I.kIn _ o hk,hd⟩
   · have z:∃o,s.heap.get? p=some o/\o.ExactDict:=by
       rcases hk with⟨kvs,hk⟩|⟨kvs,hk⟩
       · obtain⟨_,_,_,_,o,_,e,ex,_⟩:=I.hok p _ hk
         exact⟨o,e,ex⟩
       · obtain⟨_,_,_,_,o,_,_,e,ex,_⟩:=I.hok p _ hk
         exact⟨o,e,ex⟩
     obtain⟨o,e,ex⟩:=z
     refine⟨⟨o,e,ex.1⟩,λa e2=>?_⟩
     cases e2
     exact⟨o,e,ex.2.1⟩
   · obtain⟨o,_,_,_,e,ex,_⟩:=I.hok p _ hk
     refine⟨⟨o,e,ex.1⟩,λa e2=>?_⟩
     cases e2
     exact⟨o,e,ex.2.1⟩
 |_=>exact False.elim ty
def tBM(K:PySem.W.Frag)(T:String)(r:V->List V->Hp->VK->Prop)(to:TE)(t:TA):TE:=λσ H Q=>to σ H λx H1=>tyV K T x H1/\t σ H1 λxs H2=>r x xs H2 Q
variable{o e:Expr}{es:List Expr}{to:TE}{t:TA}{name:Str}{zl zd:Pos}{T id:String}{r:V->List V->Hp->VK->Prop}
theorem q7s(pa:PlainAttrs T)(slot:Slot T name id)(hty:typeOf (.builtin id)=pure (.type "method_descriptor"))(hm:MtR X id r)(ho:PE X o to)(ha:PA X (e::es) t)
   (zt:attributeBase o name X.env (eval o X.env)=eval o X.env:=by rfl)
   (hfew:((backTo zd (starEach (e::es) X.env)).all (λx=>!x.1)&&(backToKw zd (keywordEach [] X.env)).all (λx=>x.1.isSome)
     &&decide ((e::es).length+([]:List Keyword).length+(if([]:List Keyword).isEmpty then 0 else 1)<30))=true:=by rfl)
   (zr:(zl.endLine==zd.line)=true:=by rfl) (hs:starEach (e::es) X.env=(false,eval e X.env)::starEach es X.env:=by rfl) (hplain:(backTo zd (starEach es X.env)).any (·.1)=false:=by rfl):
   PE X (.Call (.Attribute o name zl) (e::es) [] zd) (tBM X.K T r to t):=by
 intro z4 s σ H Q I h
 refine wpAny_Call_method_late zt hfew zr rfl (thn (ho z4 s σ H _ I h) λv s1 ⟨x,H1,I1,r1,ty,q1⟩=>?_)
 obtain⟨h1,h2⟩:=qad I1 r1 ty
 refine⟨T,id,pa,slot,hty,h1,h2,?_⟩
 have hA:=ha zd z4 s1 σ H1 _ I1 q1
 rw[hs]at hA ⊢
 refine Calls.callWith_builtin (by show(false||(backTo zd (starEach es X.env)).any (·.1))=false;rw[hplain]<;>rfl) (Calls.evalArgs_plain ?_)
 exact thn hA λus s2 ⟨vs,H2,I2,r2,q2⟩=>hm z4 s2 σ H2 x vs v us Q I2 r1 r2 q2
end
def MtM(X:Cx)(id:String)(r:V->List V->Hp->VK->Prop):Prop:=
 ∀(z4:List (Addr×Obj)) (s:Shared) (σ:St) (H:Hp) (x:V) (xs:List V) (v:Value) (us:List Value) (Q:VK),Inv X z4 σ H s->RelV x v->Vals xs us->r x xs H Q->
   wpAny (model X.prog X.w) X.A (call (.builtin id) (v::us)) (EP X z4 σ Q) X.xe s
theorem Vals.one:∀{x:V} {us:List Value},Vals [x] us->∃u,us=[u]/\RelV x u
 |_,_,.cons r .nil=>⟨_,rfl,r⟩
theorem Vals.zero:∀{us:List Value},Vals [] us->us=[]
 |_,.nil=>rfl
theorem Vals.rep{xs:List V}{us:List Value}(h:Vals xs us):∀k:Nat,Vals (List.replicate k xs).flatten (List.replicate k us).flatten
 |0=>.nil
 | k+1=>by
   rw[List.replicate_succ,List.replicate_succ,List.flatten_cons,List.flatten_cons]
   exact Vals.append h (Vals.rep h k)
theorem foldl_rep(its:List Value):∀(k:Nat) (acc:List Value),
   List.foldl (λx1 x2=>x1++x2) acc.toArray (List.replicate k its.toArray)=(acc++(List.replicate k its).flatten).toArray
 |0,acc=>by simp
 | k+1,acc=>by
   have e:acc.toArray++its.toArray=(acc++its).toArray:=by simp
   have e2:(acc++its)++(List.replicate k its).flatten=acc++(List.replicate (k+1) its).flatten:=by
     rw[List.replicate_succ,List.flatten_cons,List.append_assoc]
   rw[<-e2,<-foldl_rep its k (acc++its),<-e,List.replicate_succ,List.foldl_cons]
section
variable{X:Cx}{z4:List (Addr×Obj)}{σ:St}{H:Hp}{s:Shared}{l b:Addr}{xs ys zs:List V}
theorem Inv.lset{its its':List Value}{n:Nat}{f:Array Value->Array Value}{t':Nat}(I:Inv X z4 σ H s)(hH:H l=some (.lst xs))
   (e:s.heap.get? l=some {cls:=.type "list",data:=.seq its.toArray n}) (hf:f its.toArray=its'.toArray) (hv:Vals ys its') (hz:ys.length<=sizeLine):
   Inv X z4 σ (upd H l (.lst ys)) {s with heap:=s.heap.update l (Obj.mapSeq f),toks:=t'}:=by
 have q:=PySem.IsL.update e f
 rw[hf]at q
 refine I.write (x:=l) (e:=l) (by rw[hH];exact trivial) (.inl rfl) (λb' u hb hu=>(xg s.heap (Obj.mapSeq f) (Ne.symm hb)).trans hu) ⟨_,q⟩ ?_
 exact⟨hz,its',_,hv,q⟩
theorem Inv.lnew{its:List Value}{t':Nat}(I:Inv X z4 σ H s)(hv:Vals ys its)(hz:ys.length<=sizeLine):
   Inv X z4 σ (upd H s.heap.objs.size (.lst ys)) {s with heap:=s.heap.push {cls:=.type "list",data:=.seq its.toArray},toks:=t'}:=
 I.laid (λ_ _ q=>ja _ q) (jc _) ⟨hz,its,0,hv,je _ rfl⟩
theorem Inv.fresh(I:Inv X z4 σ H s):H s.heap.objs.size=none:=I.hok.fresh (jc _)
theorem Inv.lstM(I:Inv X z4 σ H s)(hH:H l=some (.lst xs)):xs.length<=sizeLine/\∃(its:List Value) (n:Nat),Vals xs its/\xs.length=its.length/\s.heap.get? l=some {cls:=.type "list",data:=.seq its.toArray n}:=by
 obtain⟨z,its,n,r,e⟩:=I.hok l _ hH
 exact⟨z,its,n,r,r.length,e⟩
theorem q8w{n:Nat}(h:n<=sizeLine):Builtin.List.listTooLong n=false:=by
 unfold Builtin.List.listTooLong
 exact decide_eq_false (by omega)
end
section
variable{X:Cx}
def q5t:V->List V->Hp->VK->Prop:=λx vs H Q=>∃l xs y,x=.ref l/\vs=[y]/\H l=some (.lst xs)/\xs.length<sizeLine/\Q .non (upd H l (.lst (xs++[y])))
theorem q2k:MtM X "list.append" q5t:=by
 intro z4 s σ H x vs v us Q I rx rv h
 obtain⟨l,xs,y,rfl,rfl,hH,hz,q⟩:=h
 cases rx
 obtain⟨u,rfl,ru⟩:=rv.one
 obtain⟨z,its,n,r,hl,e⟩:=I.lstM hH
 refine call_meets F.slot_list_append ⟨_,e,rfl⟩ F.entry_list_append (F.args_list_append_2 _ _) (PySem.list_append l its.toArray n u (by rw[jl];omega)) ⟨e,?_⟩
 refine⟨.non,_,I.lset (its':=its++[u]) hH e (by simp) (r.append (.cons ru .nil)) ?_,rfl,q⟩
 rw[jm,List.length_singleton]
 omega
def qb4:V->List V->Hp->VK->Prop:=λx vs H Q=>∃l b xs zs,x=.ref l/\vs=[.ref b]/\H l=some (.lst xs)/\H b=some (.lst zs)/\xs.length+zs.length<=sizeLine/\Q .non (upd H l (.lst (xs++zs)))
theorem qbm:MtM X "list.extend" qb4:=by
 intro z4 s σ H x vs v us Q I rx rv h
 obtain⟨l,b,xs,zs,rfl,rfl,hH,hB,hz,q⟩:=h
 cases rx
 obtain⟨u,rfl,ru⟩:=rv.one
 cases ru
 obtain⟨z,its,n,r,hl,e⟩:=I.lstM hH
 obtain⟨z2,its2,n2,r2,hl2,e2⟩:=I.lstM hB
 have hsz:its.toArray.size+its2.toArray.size<=sizeLine:=by rw[jl,jl];omega
 have hlong:¬(!its.toArray.isEmpty&&Builtin.List.listTooLong (its.toArray.size+its2.toArray.size))=true:=by
   rw[q8w hsz,Bool.and_false]
   exact Bool.false_ne_true
 refine call_meets F.slot_list_extend ⟨_,e,rfl⟩ F.entry_list_extend (F.args_list_extend_2 _ _)
   (AutoSeq1.list_extend_list_list_0 l its.toArray n b its2.toArray n2 hlong (by rw[jl];omega) (by omega)) ⟨e,e2,?_⟩
 refine⟨.non,_,I.lset (its':=its++its2) hH e (by simp) (r.append r2) ?_,rfl,q⟩
 rw[jm]
 omega
theorem len_rep{α:Type}(xs:List α)(k:Nat):(List.replicate k xs).flatten.length=k*xs.length:=by
 induction k with
 |zero=>simp
 |succ k ih=>rw[List.replicate_succ,List.flatten_cons,jm,ih,Nat.succ_mul,Nat.add_comm]
end
section
variable{prog:Program}{w:World}{A:Around}{E:Value->Shared->Prop}{s:Shared}
end
section
variable{X:Cx}
end
end L2
namespace Att
open PySem PySem.W PySem.Calls PyProof.Rows
theorem q51{P:Params}{h:Heap}:∀(ns:List Int) (vs:List Value),WellAll P h vs (ns.map WData.int)->IntsAre vs ns:=by
 intro ns
 induction ns with
 | nil=>
   intro vs w
   rw[List.map_nil]at w
   cases w
   exact .nil
 | cons n ns ih=>
   intro vs w
   rw[jg]at w
   cases w with
   | cons a b=>
     cases a
     exact .cons _ _ (ih _ b)
theorem qar{l:OpenLaw}{n:Nat}(hn:l.most=some n){P:Params}{h:Heap}{args:List WData}{vals:List Value}
   (hpre:l.row.toRowW.claim.pre args=true) (hwl:WellAll P h vals args):
   ∃a vs ns,vals=[Value.ref a]/\args=[WData.list (ns.map WData.int)]/\h.get? a=some {cls:=.type "list",data:=.seq vs.toArray}/\IntsAre vs ns/\ns.length<=n:=by
 have hsh:WShape.hasAll [] args [.list .int]=true:=(pre_splitW hpre).1
 have hc:l.pre.holds [] {args:=args}=true:=(pre_splitW hpre).2
 obtain⟨d,r,rfl,h1,h2⟩:=hasAllW_cons hsh
 obtain rfl:=hasAllW_nil h2
 obtain⟨xs,rfl,h3⟩:=hasW_list h1
 obtain⟨ns,rfl⟩:=items_int h3
 have z5:ns.length<=n:=by
   unfold OpenLaw.pre at hc
   have h4:(WTm.not (.lt (.lit (.int (n:Int))) (.len (.arg 0)))).holds [] {args:=[.list (ns.map .int)]}=true:=by
     have h4:=(holds_andW hc).1
     rw[hn]at h4
     exact h4
   have h5:=condW_of h4 (w_not (w_lt w_lit (w_len_list (w_arg rfl))))
   rw[j9]at h5
   refine Nat.le_of_not_lt λq=>?_
   have q':(n:Int)<((ns.length:Nat):Int):=by omega
   first
     |(rw[decide_eq_true q']at h5;exact absurd h5 (by decide))
     |(simp at h5;omega)
 cases hwl with
 | cons w1 w2=>
   cases w2
   cases w1 with
   |list ho hall=>exact⟨_,_,ns,rfl,rfl,ho,q51 ns _ hall,z5⟩
theorem qb6(l:OpenLaw)(args:List WData):l.row.toRowW.claim.post args (.bool true) args=true:=
 postW_of (r:=l.row.toRowW) (X:=(true==true))
   (show WShape.has [] (.bool true) .bool=true by first|rfl|decide|simp[WShape.has,WShape.arms,WShape.armsAll])
   (show(WTm.eq .res (.lit (.bool true))).value [] {args:=args,res:=some (.bool true),after:=args}=some (.bool (true==true))from w_eq_bool (w_res rfl) w_lit) rfl
theorem attach_call{l:OpenLaw}{n:Nat}{q:Program}{loose:List Str}{XP:(Str->Option Value)->Heap->Prop}{YP:World->Heap->Prop}{d:DefRec}
   (hn:l.most=some n) (hdf:d.params.defaults=[])
   (call:∀(w:World) (s₀ s₁:Shared) (mg mb:Str->Option Value) (fa:Addr) (o:Obj) (pm cd doc:Value) (a:Addr) (vs:List Value) (ns:List Int),
     Ground q loose [] XP w s₀ mg mb s₁.heap->YP w s₁.heap->
     s₁.heap.get? fa=some o->o.data=.func (docDef d.name d.params d.body d.scope pm cd doc)->s₁.heap.CodeRec cd d.name->mg d.name=some (.ref fa)->
     s₁.heap.get? a=some {cls:=.type "list",data:=.seq vs.toArray}->IntsAre vs ns->ns.length<=n->s₁.gens=#[]->
     codeAny (model l.prog w) callerA (.call (.ref fa) ⟨[.ref a],[]⟩) (λr s'=>r=.ok (.ret (.bool true))/\OldK s₁.heap s'.heap/\s'.os=s₁.os/\AllBare s'.gens) s₁):
   WalkO q loose XP YP l.row.toRowW d [] (λf vs=>PySem.call f vs):=by
 intro w s₀ s₁ mg mb G Y fa o pm cd doc dV kV ho hd hcd hD hmg hg args vals as hpre hlay hrd hwl hlo
 obtain rfl:dV=.none:=Dflts.none hD hdf
 obtain rfl:kV=.none:=Dflts.noKw hD
 obtain⟨a,vs,ns,rfl,rfl,hobj,j3,z5⟩:=qar hn hpre hwl
 refine enter_call (codeAny_mono (call w s₀ s₁ mg mb fa o pm cd doc a vs ns G Y ho (fd_plain hd) hcd hmg hobj j3 z5 hg) λr s' hq=>?_)
 obtain⟨rfl,h2,h3,h4⟩:=hq
 exact⟨.inl ⟨.bool true,.bool true,[],rfl,λ_=>rfl,.bool true,qb6 l _,λ_=>⟨List.Pairwise.nil,λ_ hm=>(nomatch hm)⟩⟩,h2,h3,h4⟩
section
variable{prog:Program}{w:World}{A:Around}{E:Value->Shared->Prop}{s:Shared}{K:Frag}
end
end Att
namespace L2
open PySem PySem.Spec PyProof.Rows
theorem q6c:∀{vs:List Value} {ns:List Int},IntsAre vs ns->Vals (ns.map V.int) vs
 |_,_,.nil=>.nil
 |_,_,.cons n t h=>.cons ⟨t,rfl⟩ (q6c h)
def q0v(s:Stmt):Arguments:=match s with
 |.FunctionDef _ a _ _ _ _ _ _ _ _=>a
 |_=>{posonlyargs:=[],args:=[],vararg:=none,kwonlyargs:=[],kw_defaults:=[],kwarg:=none,defaults:=[]}
def q0p(s:Stmt):List Stmt:=match s with
 |.FunctionDef _ _ b _ _ _ _ _ _ _=>b
 |_=>[]
def q04(s:Stmt):Scope:=match s with
 |.FunctionDef _ _ _ _ _ _ sc _ _ _=>sc
 |_=>{kind:=.function,names:=[],isGenerator:=false,isCoroutine:=false}
abbrev CX0:CXT:=λ_ _ _ _ _ _=>False
abbrev E0:XK:=λ_ _ _=>False
theorem q1a{X:Cx}:qd8 CX0 X E0:=λ_ _ _ _ _ _ _ h=>h.elim
structure Fun(K:PySem.W.Frag)(x qual:Str)(st:Stmt)(f:Addr)(fd:FuncData):Prop where
 ex:∃(oc:Value) (od:Option Addr) (kV doc pm:Value) (an:Option Addr) (cdv ct:Value) (osl:Array (Option Value)),
   fd=PySem.W.fnOf x qual (q0v st) (q0p st) (q04 st) .none kV doc pm an cdv ct/\K.lookup f=some ⟨oc,od,.func fd,osl⟩/\PySem.W.codeIn K cdv qual=true
 kp:PySem.W.keepIn K (.ref f)=true
section
variable{P:Program}{w:World}{K:PySem.W.Frag}{mg:Str->Option Value}{base:Heap}
theorem Fun.ok{x qual:Str}{st:Stmt}{f:Addr}{fd:FuncData}{N ps:List Str}{k:Nat}{sp:Sp}(F:Fun K x qual st f fd)(S:q0s N ps (q04 st))(len:∀vs H Q E,sp vs H Q E->vs.length=ps.length)
   (zc:∀(cdv:Value) (A:Around) (outer:List Env) (s:Shared) (H:Hp) (vs:List V) (Q:VK) (E:XK),Room k (A.deeper (envOfC qual (q04 st) s.heap.objs.size f cdv))->sp vs H Q E->
     ∃t,PSs (cxOf CX0 P w K mg base N qual (q04 st) f cdv A outer s H E).nox (q0p st) t/\t {nx:=λ_ H'=>Q .non H',rt:=Q} (start N vs) H):FnOk P w K mg base CX0 (k+1) f fd ps sp:=by
 obtain⟨oc,od,kV,doc,pm,an,cdv,ct,osl,rfl,lk,hcd⟩:=F.ex
 refine qky lk hcd S len λA outer s H vs Q E hr hsp=>?_
 obtain⟨t,h,q⟩:=zc cdv A outer s H vs Q E hr hsp
 exact⟨t,h.nox,q⟩
theorem qkx{x qual:Str}{st:Stmt}{f:Addr}{oc:Value}{od an:Option Addr}{osl:Array (Option Value)}{kV doc pm cdv ct:Value}(l:K.lookup f=some ⟨oc,od,.func (PySem.W.fnOf x qual (q0v st) (q0p st) (q04 st) .none kV doc pm an cdv ct),osl⟩)
   (c:PySem.W.codeIn K cdv qual=true) (k:PySem.W.keepIn K (.ref f)=true):Fun K x qual st f (PySem.W.fnOf x qual (q0v st) (q0p st) (q04 st) .none kV doc pm an cdv ct):=⟨⟨oc,od,kV,doc,pm,an,cdv,ct,osl,rfl,l,c⟩,k⟩
end
theorem q5a{A:Around}{k:Nat}(hr:Room k A):A.units+1<cLine:=Nat.lt_of_le_of_lt (Nat.add_le_add_left (by decide:1<=64) _) hr.units
section
variable{X:Cx}
theorem pv(i:Nat){x:Str}{pos:Pos}(hN:X.N[i]? =some x:=by rfl)(hv:Vis X.env.scope x:=by first|exact Or.inl rfl|exact Or.inr (Or.inl rfl)|exact Or.inr (Or.inr rfl))(hd:(x==("__debug__":Str))=false:=by decide)
   (hcd:(x==("__classdict__":Str))=false:=by decide):PE X (.Name x pos) (tVar i):=qjb hN hv hd hcd
end
theorem iteF{A B:Prop}(h:B):if false=true then A else B:=by
 rw[if_neg Bool.false_ne_true]
 exact h
theorem iteT{A B:Prop}(h:A):if true=true then A else B:=by
 rw[if_pos rfl]
 exact h
def Same(H H':Hp):Prop:=∀b o,H b=some o->H' b=some o
theorem Same.refl(H:Hp):Same H H:=λ_ _ h=>h
theorem Same.trans{H H1 H2:Hp}(a:Same H H1)(b:Same H1 H2):Same H H2:=λc o h=>b c o (a c o h)
theorem Same.free{H H':Hp}(e:Same H H'){l:Addr}(h:H' l=Option.none):H l=Option.none:=by
 cases q:H l with
 |none=>rfl
 | some o=>
   rw[e l o q]at h
   cases h
section
variable{X:Cx}{z4:List (Addr×Obj)}{σ:St}{H:Hp}{s:Shared}
theorem Inv.track{d:Addr}{o:HO}(I:Inv X z4 σ H s)(hn:H d=none)(hy:X.s₀.heap.objs.size<=d)(hL:d≠X.env.locals)(hc:∀x c,X.env.cells.lookup x=some c->c≠d)
   (hp:∀p∈X.pn++z4,p.1≠d) (new:ObjOk X.prog X.w (upd H d o) s.heap d o):Inv X z4 σ (upd H d o) s:=by
 have old:∀b ob,X.s₀.heap.get? b=some ob->b≠d:=λb ob e=>jh (ji (j8 e) hy)
 have was:∀b u,H b=some u->b≠d:=λb u e=>q0k e hn
 refine⟨I.ok,I.os,I.bare,⟨I.base.keep,I.base.slot,λb ob e n hx=>?_,I.base.there,λb xs e=>?_,λb ob u e=>?_,λb ps e=>?_⟩,I.loc,I.cell,?_,λx c e=>?_,λp z=>?_,λb u e=>?_,I.len⟩
 · rw[q05 (old b ob e)];exact I.base.free b ob e n hx
 · have q:=I.base.tups b xs e
   rw[q05 (was b _ q)];exact q
 · have q:=I.base.frzs b ob u e
   rw[q05 (was b _ q)];exact q
 · obtain⟨m,q⟩:=I.base.tbls b ps e
   exact⟨m,by rw[q05 (was b _ q)];exact q⟩
 · rw[q05 (Ne.symm hL)];exact I.free
 · rw[q05 (hc x c e)];exact I.freeC x c e
 · obtain⟨e,n,r⟩:=I.pin p z
   exact⟨e,by rw[q05 (hp p z)];exact n,r⟩
 · by_cases hb:b=d
   · subst hb
     rw[q0a]at e
     cases e
     exact new
   · rw[q05 hb]at e
     refine(I.hok b u e).stay (λc v _ q=>q) (λc q=>?_) λc xs q=>?_
     · rw[q05 (was c _ q)];exact q
     · rw[q05 (was c _ q)];exact q
end
theorem q46{env:Env}:∀(names:List (Str×NameKind)) (acc:List (Str×Addr)),(∀y∈names,y.2=.free->∃c,env.cells.lookup y.1=some c)->
   ∃cl,(forIn names acc λ(p:Str×NameKind) (cs:List (Str×Addr))=>(if(p.2==NameKind.free)=true then do let c <-cellOf env p.1;pure (ForInStep.yield ((p.1,c)::cs))else pure (ForInStep.yield cs):Sem (ForInStep (List (Str×Addr)))))=pure cl/\
     (∀x c,cl.lookup x=some c->acc.lookup x=some c∨env.cells.lookup x=some c)/\(∀x c,acc.lookup x=some c->∃c',cl.lookup x=some c')/\∀y∈names,y.2=.free->∃c,cl.lookup y.1=some c
 |[],acc,_=>⟨acc,rfl,λ_ _ h=>.inl h,λ_ c h=>⟨c,h⟩,λ_ h=>nomatch h⟩
 | (n,k)::r,acc,hh=>by
   by_cases hk:k=.free
   · subst hk
     obtain⟨c,hc⟩:=hh (n,.free) jf rfl
     obtain⟨cl,e,h1,h2,h3⟩:=q46 (env:=env) r ((n,c)::acc) λy hy=>hh y (jj _ hy)
     have ec:cellOf env n=pure c:=by
       unfold cellOf
       rw[hc]
     have here:∃c',cl.lookup n=some c':=h2 n c (by simp[List.lookup_cons])
     refine⟨cl,?_,λx d q=>?_,λx d q=>?_,λy hy hf=>?_⟩
     · rw[List.forIn_cons]
       simp only[beq_self_eq_true,if_true,ec,pure_bind]
       exact e
     · rcases h1 x d q with z|z
       · rw[List.lookup_cons]at z
         by_cases hx:x=n
         · subst hx
           simp only[beq_self_eq_true]at z
           cases z
           exact .inr hc
         · rw[beq_eq_false_iff_ne.mpr hx]at z
           exact .inl z
       · exact .inr z
     · by_cases hx:x=n
       · subst hx;exact here
       · exact h2 x d (by rw[List.lookup_cons,beq_eq_false_iff_ne.mpr hx];exact q)
     · rcases List.mem_cons.mp hy with rfl|hy
       · exact here
       · exact h3 y hy hf
   · obtain⟨cl,e,h1,h2,h3⟩:=q46 (env:=env) r acc λy hy=>hh y (jj _ hy)
     refine⟨cl,?_,h1,h2,λy hy hf=>?_⟩
     · rw[List.forIn_cons]
       have hb:(k==NameKind.free)=false:=by simpa using hk
       simp only[hb,Bool.false_eq_true,if_false,pure_bind]
       exact e
     · rcases List.mem_cons.mp hy with rfl|hy
       · exact absurd hf hk
       · exact h3 y hy hf
theorem q4d{env:Env}{scope:Scope}(hh:∀y∈scope.names,y.2=.free->∃c,env.cells.lookup y.1=some c):
   ∃cl,closureFor scope env=pure cl/\(∀x c,cl.lookup x=some c->env.cells.lookup x=some c)/\∀y∈scope.names,y.2=.free->∃c,cl.lookup y.1=some c:=by
 obtain⟨cl,e,h1,_,h3⟩:=q46 (env:=env) scope.names [] hh
 refine⟨cl,?_,λx c q=>(h1 x c q).elim (λz=>by simp at z) id,h3⟩
 unfold closureFor
 simp only[bind_pure]
 exact e
def cxB(X:Cx)(N:List Str)(scope:Scope)(s:Shared)(H:Hp)(C:Addr)(cl:List (Str×Addr))(fp:List Addr):Cx where
 prog:=X.prog
 w:=X.w
 K:=X.K
 mg:=X.mg
 base:=X.base
 A:=X.A
 N:=N
 s₀:=s
 H₀:=H
 env:=compEnvC scope cl C X.env
 outer:=X.stack
 stack:=X.stack
 ex:=fp
 fn:=λ_=>false
 calm:=X.calm
 pn:=[]
 xe:=λ_ _=>False
def caps(n:Nat)(js:List Nat)(σ:St):St:=List.replicate n none++js.map λj=>(σ[j]?).join
def Own(n:Nat)(g:TG):Prop:=∀v σ H Q,g v σ H Q->g v σ H λσ2 H2=>Q σ2 H2/\σ2.length=σ.length/\∀i,n<=i->σ2[i]? =σ[i]?
theorem q26{n i:Nat}(h:i<n):Own n (q36 i):=λv σ H Q q=>⟨q,by simp,λj hj=>by rw[List.getElem?_set_ne (by omega)]⟩
theorem qdr{K:PySem.W.Frag}{n i j:Nat}(hi:i<n)(hj:j<n):Own n (gTup K 2 (q85 (q36 i) (q85 (q36 j) gNil))):=λv σ H Q q=>by
 obtain⟨a,xs,e,h,hl,x,r,e1,y,r2,e2,e3,q⟩:=q
 exact⟨a,xs,e,h,hl,x,r,e1,y,r2,e2,e3,q,by simp,λk hk=>by rw[List.getElem?_set_ne (by omega),List.getElem?_set_ne (by omega)]⟩
def PIf(X:Cx)(ifs:List Expr)(t:TT):Prop:=
 ∀(z4:List (Addr×Obj)) (s:Shared) (σ:St) (H:Hp) (Q:Bool->Hp->Prop),Inv X z4 σ H s->t σ H Q->
   wpAny (model X.prog X.w) X.A (forIn ifs true λc r=>if r=true then do let ok <-isTrue c X.env (eval c X.env);pure (ForInStep.yield ok)else pure (ForInStep.yield r)) (TP X z4 σ Q) X.xe s
def tYes:TT:=λ_ H Q=>Q true H
theorem q2q{X:Cx}:PIf X [] tYes:=λ_ _ _ H _ I h=>wpAny_tests_nil ⟨H,I,h⟩
theorem qg0{X:Cx}{c:Expr}{t:TT}(hc:PT X c t):PIf X [c] t:=λz4 s σ H Q I h=>wpAny_tests_one (hc z4 s σ H Q I h)
def cGo(g:TG)(tt:TT)(te:TE)(σ0:St)(Fin:List V->Hp->Prop)(J:It)(H1:Hp):Prop:=
 ∃W:Nat->Nat->List V->Hp->Prop,(∃m,W 0 m [] H1)/\∀i m ys H2,W i m ys H2->
   (J.stop i H2/\ys.length<=sizeLine/\Fin ys H2)∨
   (J.go i H2/\ys.length<sizeLine/\∃N:List V->Hp->Prop,(∀ys' H',N ys' H'->∃m',m'<m/\W (i+1) m' ys' H')/\∀x H3,J.yld i H2 x H3->g x σ0 H3 λσ4 H4=>tt σ4 H4 λb H5=>
     if b=true then te σ4 H5 λy H6=>N (ys++[y]) H6 else N ys H5)
def qdg(n:Nat)(js:List Nat)(wi:TI)(g:TG)(tt:TT)(te:TE):TE:=λσ H Q=>
 wi σ H (cGo g tt te (caps n js σ) λys H2=>∀D,H2 D=none->Q (.ref D) (upd H2 D (.lst ys)))
def qir(k n:Nat)(js:List Nat)(wi:TI)(g:TG)(tt:TT)(te:TE):TS:=λE σ H=>
 wi σ H (cGo g tt te (caps n js σ) λys H2=>∀D,H2 D=none->E.nx (σ.set k (some (.ref D))) (upd H2 D (.lst ys)))
theorem qcq{prog:Program}{w:World}{A:Around}{R:Result->Shared->Prop}{s:Shared}{elt zh z9:Expr}{ifs:List Expr}{scope:Scope}{pos:Pos}{it acc:Value}{env:Env}(I:Nat->Shared->Prop)
   (turn:∀n s,I n s->wpAny (model prog w) A (pyNext it) (λr s₁=>(r=none/\R (.ok .next) s₁)∨∃v,r=some v/\wpAny (model prog w) A (letOwnedTupleGo zh it v) (λ_ s₀=>
     wpAny (model prog w) A (assign zh env v) (λ_ s₂=>
       wpAny (model prog w) A (forIn ifs true λc r=>if r=true then do let ok <-isTrue c env (eval c env);pure (ForInStep.yield ok)else pure (ForInStep.yield r)) (λok s₃=>
         if ok=true then wpAny (model prog w) A (eval elt env) (λx s₄=>wpAny (model prog w) A (call (.builtin "list.append") [acc,x]) (λ_ s₅=>∃m,m<n/\I m s₅) (λ_ _=>False) s₄) (λ_ _=>False) s₃
         else∃m,m<n/\I m s₃) (λ_ _=>False) s₂) (λ_ _=>False) s₀) (λ_ _=>False) s₁) (λ_ _=>False) s)
   (n:Nat) (h:I n s):codeAny (model prog w) A (.compLoop (.ListComp elt [⟨zh,z9,ifs,0⟩] scope pos) 0 it acc env) R s:=by
 have no:∀{E:Value->Shared->Prop} (x:Value) (z:Shared),False->E x z:=λ_ _ f=>f.elim
 refine codeAny_loop rfl I (λn s hI=>?_) n h
 show wpAny _ A ((compTurn (.ListComp elt [⟨zh,z9,ifs,0⟩] scope pos) 0 it acc env).onRaise (λx=>do noteFrame x env;theTreesLotGoes x)) _ _ s
 refine wpAny_noted ?_
 rw[compTurn_list]
 refine j6 (wpAny_standAt (j6 (jz (turn n s hI) (λr s₁ h₁=>?_) no)))
 rcases h₁ with⟨e,h₁⟩|⟨v,e,h₁⟩
 · subst e
   exact j7 h₁
 · subst e
   refine j6 (jz h₁ (λ_ s₀ h₀=>j6 (jz h₀ (λ_ s₂ h₂=>j6 (jz h₂ (λok s₃ h₃=>?_) no)) no)) no)
   cases ok with
   |false=>exact j7 ⟨rfl,h₃⟩
   | true=>
     have q:wpAny (model prog w) A (eval elt env) _ _ s₃:=h₃
     exact j6 (j6 (jz q (λx s₄ h₄=>j6 (jz h₄ (λ_ s₅ h₅=>j7 (j7 ⟨rfl,h₅⟩)) no)) no))
def q1i(sc:Scope)(N0 N:List Str)(n:Nat)(js:List Nat)(scope:Scope):Bool:=
 decide (scope.kind=.function)&&scope.names.all (λy=>decide (y.2≠.cell))&&scope.names.all (λy=>decide (y.2≠.free)||decide (sc.names.lookup y.1=some .cell)||decide (sc.names.lookup y.1=some .free))&&
 scope.names.all (λy=>decide (y.2≠.local)||decide (scope.names.lookup y.1=some .local))&&decide (js.map (λj=>N0[j]?)=(N.drop n).map some)&&
 (N.drop n).all (λx=>decide (sc.names.lookup x=some .cell)||decide (sc.names.lookup x=some .free))&&(N.drop n).all (λx=>decide (scope.names.lookup x=some .free))&&decide (n+js.length=N.length)
theorem q49{env:Env}:∀{names:List (Str×NameKind)} {x:Str},(names.map λ(n,k)=>if(k==NameKind.free&&env.scope.kind==.function&&env.kindOf n==some .cell)then(n,NameKind.cell)else(n,k)).lookup x=some .cell∨
   (names.map λ(n,k)=>if(k==NameKind.free&&env.scope.kind==.function&&env.kindOf n==some .cell)then(n,NameKind.cell)else(n,k)).lookup x=some .free->(∀y∈names,y.2≠.cell)->∃y∈names,y.1=x/\y.2=.free
 |[],_,h,_=>by rcases h with h|h<;>simp at h
 | (n,k)::r,x,h,hc=>by
   have ih:=@q49 env r x
   by_cases hx:x=n
   · subst hx
     refine⟨(x,k),jf,rfl,?_⟩
     have hk:k≠.cell:=hc (x,k) jf
     by_cases hf:k=.free
     · exact hf
     · exfalso
       have hb:(k==NameKind.free)=false:=by simpa using hf
       simp only[List.map_cons,hb,Bool.false_and,Bool.false_eq_true,if_false,List.lookup_cons,beq_self_eq_true]at h
       rcases h with h|h
       · exact hk (jb h)
       · exact hf (jb h)
   · have hb:(x==n)=false:=beq_eq_false_iff_ne.mpr hx
     have step:∀(q:Str×NameKind) (l:List (Str×NameKind)),q.1=n->List.lookup x (q::l)=List.lookup x l:=λq l e=>by
       obtain⟨a,b⟩:=q
       have e':a=n:=e
       subst e'
       rw[List.lookup_cons,hb]
     have nm:(if(k==NameKind.free&&env.scope.kind==.function&&env.kindOf n==some .cell)then(n,NameKind.cell)else(n,k)).1=n:=by split<;>rfl
     rw[jg,step _ _ nm]at h
     obtain⟨y,hy,r1,r2⟩:=ih h λy hy=>hc y (jj _ hy)
     exact⟨y,jj _ hy,r1,r2⟩
theorem mem_of_lookup{x:Str}{k:NameKind}:∀{l:List (Str×NameKind)},l.lookup x=some k->(x,k)∈l
 |[],h=>by simp at h
 | (a,b)::r,h=>by
   rw[List.lookup_cons]at h
   by_cases hx:x=a
   · subst hx
     simp only[beq_self_eq_true]at h
     cases h
     exact jf
   · rw[beq_eq_false_iff_ne.mpr hx]at h
     exact jj _ (mem_of_lookup h)
theorem q2u{env:Env}{x:Str}:∀(l:List (Str×NameKind)),l.lookup x=some .free->(l.map λ(n,k)=>if(k==NameKind.free&&env.scope.kind==.function&&env.kindOf n==some .cell)then(n,NameKind.cell)else(n,k)).lookup x≠some .local
 |[],q=>by simp at q
 | (a,b)::r,q=>λz=>by
   rw[List.lookup_cons]at q
   by_cases hx:x=a
   · subst hx
     simp only[beq_self_eq_true]at q
     cases q
     rw[jg]at z
     dsimp only at z
     split at z
     · simp[List.lookup_cons]at z
     · simp[List.lookup_cons]at z
   · rw[beq_eq_false_iff_ne.mpr hx]at q
     refine q2u (env:=env) r q ?_
     by_cases hc:(b==NameKind.free&&env.scope.kind==.function&&env.kindOf a==some .cell)=true
     · simp only[List.map_cons,if_pos hc,List.lookup_cons,beq_eq_false_iff_ne.mpr hx]at z
       exact z
     · simp only[List.map_cons,if_neg hc,List.lookup_cons,beq_eq_false_iff_ne.mpr hx]at z
       exact z
theorem q9b(n:Nat)(js:List Nat)(σ:St):(caps n js σ).length=n+js.length:=by simp[caps]
theorem q9a{n:Nat}{js:List Nat}{σ:St}{i:Nat}(h:i<n):(caps n js σ)[i]? =some none:=by
 unfold caps
 rw[v9 (by simpa using h),va,if_pos h]
theorem qem{n:Nat}{js:List Nat}{σ:St}{i:Nat}{v:V}(h:n<=i)(e:(caps n js σ)[i]? =some (some v)):∃j,js[i-n]? =some j/\σ[j]? =some (some v):=by
 unfold caps at e
 rw[ke (by simpa using h),xj,ju]at e
 cases q:js[i-n]? with
 |none=>rw[q]at e;cases e
 | some j=>
   rw[q]at e
   refine⟨j,rfl,?_⟩
   have e':(σ[j]?).join=some v:=jb e
   cases z:σ[j]? with
   |none=>rw[z]at e';cases e'
   |some o=>rw[z]at e';exact congrArg some e'
section
variable{X:Cx}{tg elt z9:Expr}{ifs:List Expr}{scope:Scope}{pos:Pos}{N N0:List Str}{n:Nat}{js:List Nat}{sc:Scope}{g:TG}{tt:TT}{te:TE}
theorem q5o{z4:List (Addr×Obj)}{σ:St}{H:Hp}{s:Shared}{it:Addr}{fp:List Addr}{tn:Nat->Heap->Prop}{J:It}{cl:List (Str×Addr)}{Fin:List V->Hp->Prop}{RR:Value->Addr->Result->Shared->Prop}{E:Value->Shared->Prop}
   (hc:X.calm=true) (hsc:X.env.scope=sc) (hN0:X.N=N0) (ok:q1i sc N0 N n js scope=true)
   (hg:∀s H C cl fp,PG (cxB X N scope s H C cl fp) tg g) (hgo:Own n g) (ht:∀s H C cl fp,PIf (cxB X N scope s H C cl fp) ifs tt) (he:∀s H C cl fp,PE (cxB X N scope s H C cl fp) elt te)
   (I:Inv X z4 σ H s) (T:Turn X.prog X.w X.K tg J fp it tn) (st:tn 0 s.heap) (fo:∀b∈fp,FpOk X z4 H b)
   (hcl:∀x c,cl.lookup x=some c->X.env.cells.lookup x=some c) (hcl2:∀y∈scope.names,y.2=.free->∃c,cl.lookup y.1=some c)
   (G:cGo g tt te (caps n js σ) Fin J H)
   (k:∀(D C:Addr) (oC:Obj) (m:Str->Option Value) (ys:List V) (H':Hp) (s':Shared),Inv X (z4++[(C,oC)]) σ (upd H' D (.lst ys)) s'->H' D=none->s'.heap.Ns C m->X.s₀.heap.objs.size<=C->C≠X.env.locals->(∀x c,X.env.cells.lookup x=some c->c≠C)->
     (∀p∈X.pn++z4,p.1≠C)->upd H' D (.lst ys) C=none->Fin ys H'->RR (.ref D) C (.ok .next) s'):
   wpAny (model X.prog X.w) X.A (newList []) (λacc s₃=>wpAny (model X.prog X.w) X.A (newFunctionEnv scope X.env.globals cl [] X.env.qual none .none (some X.env)) (λcenv s₄=>
     codeAny (model X.prog X.w) X.A (.compStart (.ListComp elt [⟨tg,z9,ifs,0⟩] scope pos) 0 (.ref it) acc {cenv with scope:=relabel scope X.env}) (RR acc cenv.locals) s₄) E s₃) E s:=by
 simp only[q1i,Bool.and_eq_true,decide_eq_true_eq,List.all_eq_true,Bool.or_eq_true]at ok
 obtain⟨⟨⟨⟨⟨⟨⟨kind,cell⟩,free⟩,nms⟩,cap⟩,lc⟩,lf⟩,len⟩:=ok
 subst hN0 hsc
 refine jq (wpAny_newFunctionEnv cell (by intro y hy;simp at hy) (λh1 ns1 sb1=>?_) kind)
 dsimp only at ns1 sb1 ⊢
 generalize eG:s.heap.push {cls:=.type "list",dict:=none,data:=.seq ([]:List Value).toArray}=G2 at ns1 sb1 ⊢
 have eC:G2.objs.size=s.heap.objs.size+1:=by rw[<-eG,xk]
 generalize eCC:G2.objs.size=C at ns1 sb1 eC ⊢
 generalize eD:s.heap.objs.size=D at eC ⊢
 have ltD:∀b o,s.heap.get? b=some o->b<D:=λb o e=>eD▸j8 e
 have DC:D≠C:=by rw[eC];exact jh (Nat.lt_succ_self _)
 have bC:∀b:Nat,b<D->b≠C:=λb hb z=>by rw[z,eC]at hb;exact absurd hb (Nat.not_lt.mpr (Nat.le_succ _))
 have old:∀b o,s.heap.get? b=some o->h1.get? b=some o:=λb o e=>by
   have hb:=ltD b o e
   refine sb1.extBut b o (bC b hb) (ja _ ?_)
   rw[<-eG]
   exact ja _ e
 have accD:h1.get? D=some {cls:=.type "list",data:=.seq ([]:List Value).toArray 0}:=by
   refine sb1.extBut _ _ DC (ja _ ?_)
   rw[<-eG,<-eD]
   exact je _ rfl
 have freeD:H D=none:=I.hok.fresh (by rw[eD];exact jc _)
 have freeC:H C=none:=I.hok.fresh (by rw[eD,eC];exact Nat.le_succ _)
 have fpD:∀b∈fp,b<D:=λb hb=>let ⟨o,e,_⟩:=T.obj 0 _ st b hb;ltD b o e
 have cellD:∀x c,X.env.cells.lookup x=some c->c<D:=λx c e=>let ⟨v,o,ho,_⟩:=I.cell x c e;ltD c o ho
 have pinD:∀p∈X.pn++z4,p.1<D:=λp hp=>ltD _ _ (I.pin p hp).1
 have stkD:∀b∈frs X.stack,b<D:=λb hb=>by
   rcases List.mem_cons.mp (I.stkSub b hb)with e|z
   · subst e;rw[<-eD];exact I.lt
   · obtain⟨_,o,ho,_⟩:=I.ok.funs.mem z
     rw[<-eD]
     exact ji (j8 ho) I.sz
 have fpS:∀b∈fp,b∉frs X.stack:=λb hb z=>by
   obtain⟨_,f1,f2,_⟩:=fo b hb
   rcases List.mem_cons.mp (I.stkSub b z)with e|q
   · exact f1 e
   · exact f2 q
 have kindB:(compEnvC scope cl C X.env).scope.kind=.function:=kind
 have okB:(cxB X N scope s H C cl fp).Ok:={
   mod:=I.ok.mod
   kind:=kind
   glob:=I.ok.glob
   blt:=I.ok.blt
   above:=by show s.heap.objs.size<=C;rw[eD,eC];exact Nat.le_succ _
   inj:=λx y c e1 e2=>I.ok.inj x y c (hcl x c e1) (hcl y c e2)
   has:=λx hx=>by
     obtain⟨y,hy,e,f⟩:=q49 (env:=X.env) (names:=scope.names) (x:=x) hx cell
     subst e
     exact hcl2 y hy f
   cab:=λx c z=>by cases z
   hd:=I.ok.hd
   frames:=I.ok.frames
   stk:=.inl rfl
   exf:=λb hb=>⟨bC b (fpD b hb),λx c e=>(fo b hb).2.2.2.2.1 x c (hcl x c e)⟩
   bs:=λb o e=>I.bs b o e
   bsz:=jy I.ok.bsz I.sz
   noex:=λb o e hb=>by
     rcases(fo b hb).2.2.2.1 with z|z
     · exact I.ok.noex b o e z
     · exact absurd (ji (j8 e) (jy I.ok.bsz z)) (x9 _)
   exfs:=fpS
   funs:=I.stack
   frf:=I.stkFree}
 have upH:∀b o,s.heap.get? b=some o->h1.get? b=some o:=old
 have IB:Inv (cxB X N scope s H C cl fp) [(D,{cls:=.type "list",data:=.seq ([]:List Value).toArray 0})] (caps n js σ) H {s with heap:=h1,toks:=s.toks+([]:List (Str×Value)).length}:=by
   refine⟨okB,rfl,I.bare,Un.kept old,⟨_,ns1,λi x v e1 e2 e3=>?_⟩,λx c e=>?_,freeC,λx c e=>I.freeC x c (hcl x c e),λp hp=>?_,I.hok.kept old,?_⟩
   · have hi:n<=i:=by
       by_cases hlt:i<n
       · rw[q9a hlt]at e2;cases e2
       · omega
     obtain⟨j,ej,ev⟩:=qem hi e2
     have hxN:(N.drop n)[i-n]? =some x:=by
       rw[List.getElem?_drop,show n+(i-n)=i by omega]
       exact e1
     have hxm:x∈N.drop n:=k8 hxN
     have eN:X.N[j]? =some x:=by
       have q:(js.map λj=>X.N[j]?)[i-n]? =some (X.N[j]?):=by rw[ju,ej];rfl
       rw[cap,ju,hxN]at q
       exact(jb q).symm
     obtain⟨m0,_,hl⟩:=I.loc
     have kx:=lc x hxm
     have vis:Vis X.env.scope x:=by
       rcases kx with z|z
       · exact .inr (.inl z)
       · exact .inr (.inr z)
     obtain⟨u,r,lk⟩:=hl j x v eN ev vis
     refine⟨u,r,?_⟩
     rcases lk with⟨q,_⟩|⟨_,c,ec,o,ho,hd⟩
     · exfalso
       have q':X.env.scope.names.lookup x=some .local:=q
       rcases kx with z|z
       · rw[z]at q';cases q'
       · rw[z]at q';cases q'
     · have fx:scope.names.lookup x=some .free:=lf x hxm
       obtain⟨c',ec'⟩:∃c',cl.lookup x=some c':=by
         have hm:(x,NameKind.free)∈scope.names:=mem_of_lookup fx
         exact hcl2 _ hm rfl
       have ecc:c'=c:=by
         have z:=hcl x c' ec'
         rw[ec]at z
         exact(jb z).symm
       subst ecc
       refine .inr ⟨?_,c',ec',o,old _ _ ho,hd⟩
       rcases e3 with z|z|z
       · exfalso
         have z':(relabel scope X.env).names.lookup x=some .local:=z
         exact q2u _ fx z'
       · exact .inl z
       · exact .inr z
   · obtain⟨v,o,ho,hd⟩:=I.cell x c (hcl x c e)
     exact⟨v,o,old _ _ ho,hd⟩
   · have e:p=(D,{cls:=.type "list",data:=.seq ([]:List Value).toArray 0}):=by simpa[cxB]using hp
     subst e
     exact⟨accD,freeD,DC,λz=>absurd (stkD D z) (x9 _),λv=>by intro z;cases z⟩
   · show(caps n js σ).length=N.length
     rw[q9b]
     exact len
 -- what stays true of the iterator's records
 have stat:∀{H':Hp} {oD:Obj},(∀b∈fp,H' b=none)->∀b∈fp,FpOk (cxB X N scope s H C cl fp) [(D,oD)] H' b:=λ{H' oD} hn b hb=>
   ⟨hn b hb,bC b (fpD b hb),fpS b hb,.inl hb,λx c e=>(fo b hb).2.2.2.2.1 x c (hcl x c e),λp hp=>by
     have e:p=(D,oD):=by simpa[cxB]using hp
     subst e
     exact Nat.ne_of_gt (fpD b hb)⟩
 obtain⟨W,⟨m0,w0⟩,turn⟩:=G
 have loop:codeAny (model X.prog X.w) X.A (.compLoop (.ListComp elt [⟨tg,z9,ifs,0⟩] scope pos) 0 (.ref it) (.ref D) (compEnvC scope cl C X.env)) (RR (.ref D) C) {s with heap:=h1,toks:=s.toks+([]:List (Str×Value)).length}:=by
   refine qcq (λm s'=>∃(i:Nat) (ys:List V) (its:List Value) (kk:Nat) (σ':St) (H':Hp),Inv (cxB X N scope s H C cl fp) [(D,{cls:=.type "list",data:=.seq its.toArray kk})] σ' H' s'/\Vals ys its/\(σ'.length=(caps n js σ).length/\∀i,n<=i->σ'[i]? =(caps n js σ)[i]?)/\
     tn i s'.heap/\(∀b∈fp,H' b=none)/\W i m ys H') ?_ m0 ⟨0,[],[],0,_,H,IB,.nil,⟨rfl,λ_ _=>rfl⟩,T.keep _ _ _ st λb hb o e=>old b o e,λb hb=>(fo b hb).1,w0⟩
   rintro m s3 ⟨i,ys,its,kk,σ3,H3,I3,r3,⟨l3,a3⟩,st3,fr3,w3⟩
   have I3':Inv (cxB X N scope s H C cl fp) [(D,{cls:=.type "list",data:=.seq its.toArray kk})] (caps n js σ) H3 s3:=I3.weak l3.symm λj v e=>by
     by_cases hj:j<n
     · rw[q9a hj]at e;cases e
     · rw[a3 j (by omega)];exact e
   rcases turn i m ys H3 w3 with⟨stop,hz,fin⟩|⟨go,hz,Nn,hNn,step⟩
   · refine jz (T.done (cxB X N scope s H C cl fp) rfl rfl rfl hc i _ s3 _ H3 (λ_ _=>False) I3' (stat fr3) st3 stop) (λr s4 h4=>?_) λ_ _ z=>z
     obtain⟨hr,I4⟩:=h4
     refine .inl ⟨hr,?_⟩
     have pD:=I4.pin (D,{cls:=.type "list",data:=.seq its.toArray kk}) (by simp[cxB])
     obtain⟨mC,nsC,_⟩:=I4.loc
     obtain⟨oC,es,ep,hoC,dC,rC⟩:=id nsC
     have J4:Inv X z4 σ H3 s4:=I.call' (s':=s4) I4.os (ch:=fp) I4.base I4.hok I4.bare λb hb=>by
       obtain⟨_,f1,f2,f3,f4,f5⟩:=fo b hb
       exact⟨f3,f1,f4,f5⟩
     have fC:H3 C=none:=I4.free
     have ltL:X.env.locals<D:=eD▸I.lt
     have cL:C≠X.env.locals:=(bC _ ltL).symm
     have cC:∀x c,X.env.cells.lookup x=some c->c≠C:=λx c e=>bC c (cellD x c e)
     have cP:∀p∈X.pn++z4,p.1≠C:=λp hp=>bC p.1 (pinD p hp)
     have cS:X.s₀.heap.objs.size<=C:=jy I.sz (by rw[eD,eC];exact Nat.le_succ _)
     have dS:X.s₀.heap.objs.size<=D:=by have:=I.sz;rw[eD]at this;exact this
     have cF:C∉X.fs:=λz=>by
       obtain⟨_,o,ho,_⟩:=I.ok.funs.mem z
       exact x9 _ (ji (j8 ho) cS)
     have J5:Inv X (z4++[(C,oC)]) σ H3 s4:=J4.pins_of λp hp=>(List.mem_append.mp hp).elim (λz=>J4.pin p (jt _ z)) λz=>by
       have e:p=(C,oC):=by simpa using z
       subst e
       exact⟨hoC,fC,cL,cF,λv z=>by have z':oC.data=.cell v:=z;rw[dC]at z';cases z'⟩
     refine k D C oC mC ys H3 s4 (J5.track pD.2.1 dS (Nat.ne_of_gt ltL) (λx c e=>jh (cellD x c e)) (λp hp=>?_) ?_) pD.2.1 nsC cS cL cC cP ?_ fin
     · rcases List.mem_append.mp hp with z|z
       · exact jh (pinD p (List.mem_append_left _ z))
       · rcases List.mem_append.mp z with z|z
         · exact jh (pinD p (jt _ z))
         · have e:p=(C,oC):=by simpa using z
           subst e
           exact Ne.symm DC
     · exact⟨hz,its,kk,r3,pD.1⟩
     · rw[q05 (Ne.symm DC)]
       exact fC
   · refine jz (T.item (cxB X N scope s H C cl fp) rfl rfl rfl hc i _ s3 _ H3 (λ_ _=>False) I3' (stat fr3) st3 go) (λr s4 h4=>?_) λ_ _ z=>z
     obtain⟨u,hr,h4⟩:=h4
     refine .inr ⟨u,hr,?_⟩
     refine thn h4 λ_ s5 h5=>?_
     obtain⟨x,H5,I5,r5,y5,st5,fr5⟩:=h5
     have I5':=I5.pinned (stat fr5) (T.obj _ _ st5)
     refine thn (hg s H C cl fp _ s5 _ H5 x u _ I5' r5 (hgo _ _ _ _ (step x H5 y5))) λ_ s6 h6=>?_
     obtain⟨σ6,H6,I6,q6,l6,a6⟩:=h6
     refine thn (ht s H C cl fp _ s6 σ6 H6 _ I6 q6) λok s7 h7=>?_
     obtain⟨H7,I7,q7⟩:=h7
     have stays:∀{H8:Hp} {s8:Shared},Inv (cxB X N scope s H C cl fp) ([(D,{cls:=.type "list",data:=.seq its.toArray kk})]++q6n fp s5.heap) σ6 H8 s8->(∀b∈fp,∀o,s5.heap.get? b=some o->s8.heap.get? b=some o)/\∀b∈fp,H8 b=none:=λ{H8 s8} I8=>
       ⟨λb hb o e=>(I8.pin (b,o) (jt _ (jt _ (q31 hb e)))).1,λb hb=>by
         obtain⟨o,e,d⟩:=T.obj _ _ st5 b hb
         exact(I8.pin (b,o) (jt _ (jt _ (q31 hb e)))).2.1⟩
     cases ok with
     | false=>
       obtain⟨m',hm,w7⟩:=hNn ys H7 (show Nn ys H7 from q7)
       obtain⟨z1,z2⟩:=stays I7
       exact⟨m',hm,i+1,ys,its,kk,σ6,H7,I7.unpinned,r3,⟨l6,a6⟩,T.keep _ _ _ st5 z1,z2,w7⟩
     | true=>
       show wpAny _ _ (eval elt _) _ _ s7
       refine thn (he s H C cl fp _ s7 σ6 H7 _ I7 q7) λy s8 h8=>?_
       obtain⟨vy,H8,I8,ry,n8⟩:=h8
       obtain⟨m',hm,w8⟩:=hNn _ _ n8
       obtain⟨z1,z2⟩:=stays I8
       have pD:=I8.pin (D,{cls:=.type "list",data:=.seq its.toArray kk}) (by simp[cxB])
       have lenits:its.length<sizeLine:=by rw[<-r3.length];exact hz
       refine append_at pD.1 (λh9 hs9 hD9=>?_) (by simpa using Nat.le_of_lt lenits)
       have keep9:∀b o,b≠D->s8.heap.get? b=some o->h9.get? b=some o:=λb o hb e=>hs9.extBut b o hb e
       have I9:Inv (cxB X N scope s H C cl fp) [] σ6 H8 {s8 with heap:=h9}:=(I8.pins_of (pins':=[]) λp hp=>nomatch hp).turned (it:=D) keep9 pD.2.1 DC (.inr (by show s.heap.objs.size<=D;rw[eD];exact jc _))
         (λx c e=>jh (cellD x c (hcl x c e))) λp hp=>by simp[cxB]at hp
       refine⟨m',hm,i+1,ys++[vy],its++[y],kk+1,σ6,H8,I9.pins_of λp hp=>?_,r3.append (.cons ry .nil),⟨l6,a6⟩,T.keep _ _ _ st5 λb hb o e=>keep9 b o (jh (fpD b hb)) (z1 b hb o e),z2,w8⟩
       have e:p=(D,{cls:=.type "list",data:=.seq (its++[y]).toArray (kk+1)}):=by simpa using hp
       subst e
       refine⟨?_,pD.2.1,DC,λz=>absurd (stkD D z) (x9 _),λv z=>by cases z⟩
       show h9.get? D=_
       rw[hD9,List.push_toArray]
 exact codeAny_compStart_list loop (T.self _ 0 _ _ _ (T.keep _ _ _ st λb hb o e=>old b o e) loop)
end
section
variable{X:Cx}{tg elt z9:Expr}{ifs:List Expr}{scope:Scope}{pos:Pos}{N N0:List Str}{n:Nat}{js:List Nat}{sc:Scope}{wi:TI}{g:TG}{tt:TT}{te:TE}
theorem q98{z4:List (Addr×Obj)}{σ:St}{H:Hp}{s:Shared}(I:Inv X z4 σ H s)(hsc:X.env.scope=sc)(ok:q1i sc N0 N n js scope=true):∀y∈scope.names,y.2=.free->∃c,X.env.cells.lookup y.1=some c:=by
 simp only[q1i,Bool.and_eq_true,decide_eq_true_eq,List.all_eq_true,Bool.or_eq_true]at ok
 obtain⟨⟨⟨⟨⟨⟨⟨kind,cell⟩,free⟩,nms⟩,cap⟩,lc⟩,lf⟩,len⟩:=ok
 subst hsc
 intro y hy hf
 rcases free y hy with(z|z)|z
 · exact absurd hf z
 · exact I.ok.has y.1 (.inl z)
 · exact I.ok.has y.1 (.inr z)
theorem q5n(ok:q1i sc N0 N n js scope=true):scope.kind=.function/\∀x∈scope.names,x.2=.local->scope.names.lookup x.1=some .local:=by
 simp only[q1i,Bool.and_eq_true,decide_eq_true_eq,List.all_eq_true,Bool.or_eq_true]at ok
 obtain⟨⟨⟨⟨⟨⟨⟨kind,cell⟩,free⟩,nms⟩,cap⟩,lc⟩,lf⟩,len⟩:=ok
 refine⟨kind,λx hx hl=>?_⟩
 rcases nms x hx with z|z
 · exact absurd hl z
 · exact z
theorem Inv.butC{z4:List (Addr×Obj)}{σ:St}{H:Hp}{s:Shared}{C:Addr}{oC:Obj}{h':Heap}(I:Inv X (z4++[(C,oC)]) σ H s)(hs:Heap.SameBut C s.heap h')(h1:X.s₀.heap.objs.size<=C)(h2:C≠X.env.locals)
   (h3:∀x c,X.env.cells.lookup x=some c->c≠C) (h4:∀p∈X.pn++z4,p.1≠C) (h5:H C=none):Inv X z4 σ H {s with heap:=h'}:=
 I.unpinned.turned (it:=C) (t':=s.toks) (λb o hb e=>hs.extBut b o hb e) h5 h2 (.inr h1) h3 h4
theorem q2y(hc:X.calm=true)(hsc:X.env.scope=sc)(hN0:X.N=N0)(ok:q1i sc N0 N n js scope=true)(hi:PI X tg z9 wi)
   (hg:∀s H C cl fp,PG (cxB X N scope s H C cl fp) tg g) (hgo:Own n g) (ht:∀s H C cl fp,PIf (cxB X N scope s H C cl fp) ifs tt) (he:∀s H C cl fp,PE (cxB X N scope s H C cl fp) elt te)
   (hs:∀x,foldedSetIterable z9 X.env x=pure x:=by intro _;rfl):PE X (.ListComp elt [⟨tg,z9,ifs,0⟩] scope pos) (qdg n js wi g tt te):=by
 intro z4 s σ H Q I h
 obtain⟨cl,hclos,c1,c2⟩:=q4d (q98 I hsc ok)
 obtain⟨kd,nm⟩:=q5n ok
 rw[eval_ListComp]
 refine wpAny_comprehension_free (use:=none) rfl hs hclos kd nm ?_
 refine thn (hi z4 s σ H _ I h) λv s1 h1=>thn h1 λitv s2 h2=>?_
 obtain⟨it,fp,tn,J,H2,e,I2,T,st2,f2,G⟩:=h2
 subst e
 refine q5o (RR:=λacc C=>compPost (model X.prog X.w) X.A X.xe none (EP X z4 σ Q) acc C) hc hsc hN0 ok hg hgo ht he I2 T st2 f2 c1 c2 G ?_
 intro D C oC m ys H' s' I' hD ns k1 k2 k3 k4 k5 fin
 exact⟨m,ns,λh' hs'=>⟨.ref D,_,I'.butC hs' k1 k2 k3 k4 k5,rfl,fin D hD⟩⟩
theorem qb5{k:Nat}{y:Str}{py spos:Pos}(hc:X.calm=true)(hsc:X.env.scope=sc)(hN0:X.N=N0)(ok:q1i sc N0 N n js scope=true)(hN:X.N.Nodup)(hk:X.N[k]? =some y)(hy:Loc X.env.scope y)
   (hi:PI X tg z9 wi) (hg:∀s H C cl fp,PG (cxB X N scope s H C cl fp) tg g) (hgo:Own n g) (ht:∀s H C cl fp,PIf (cxB X N scope s H C cl fp) ifs tt) (he:∀s H C cl fp,PE (cxB X N scope s H C cl fp) elt te)
   (hsw:swapsWith (.ListComp elt [⟨tg,z9,ifs,0⟩] scope pos) (some (.Name y py)) spos.line X.env=pure true:=by rfl) (hs:∀x,foldedSetIterable z9 X.env x=pure x:=by intro _;rfl)
   (hf:X.fn y=true∨X.env.scope.names.lookup y=some .local:=by first|exact .inl rfl|exact .inr rfl):PS X (.Assign [.Name y py] (.ListComp elt [⟨tg,z9,ifs,0⟩] scope pos) spos) (qir k n js wi g tt te):=by
 intro z4 s σ H D0 I h
 obtain⟨cl,hclos,c1,c2⟩:=q4d (q98 I hsc ok)
 obtain⟨kd,nm⟩:=q5n ok
 rw[exec_Assign_Name_used _ _ _ _ hsw]
 refine j6 (wpAny_standAt (j6 ?_))
 show wpAny _ X.A (comprehension (.ListComp elt [⟨tg,z9,ifs,0⟩] scope pos) scope X.env _ (newList []) false (eval z9 X.env) (some (assign (.Name y py) X.env)) >>= λ_=>pure ()) _ _ s
 refine j6 (jz (wpAny_comprehension_free (use:=some (assign (.Name y py) X.env)) (Q:=λ_ s'=>SP X z4 D0 .next s') rfl hs hclos kd nm ?_) (λ_ s' q=>j7 (j7 q)) λ_ _ z=>z)
 refine thn (hi z4 s σ H _ I h) λv s1 h1=>thn h1 λitv s2 h2=>?_
 obtain⟨it,fp,tn,J,H2,e,I2,T,st2,f2,G⟩:=h2
 subst e
 refine q5o (RR:=λacc C=>compPost (model X.prog X.w) X.A X.xe (some (assign (.Name y py) X.env)) (λ_ s'=>SP X z4 D0 .next s') acc C) hc hsc hN0 ok hg hgo ht he I2 T st2 f2 c1 c2 G ?_
 intro D C oC m ys H' s' I' hD ns k1 k2 k3 k4 k5 fin
 show wpAny _ X.A (assign (.Name y py) X.env (.ref D)) _ _ s'
 refine wpAny_assign_Name (q4l I' hN hk hy (v:=.ref D) rfl (λs'' I''=>?_) hf)
 have pc:=I''.pin (C,oC) (jt _ (jt _ jf))
 obtain⟨o,es,ep,ho,r⟩:=ns
 have pc':=I'.pin (C,oC) (jt _ (jt _ jf))
 have eo:o=oC:=by
   have z:=pc'.1
   rw[ho]at z
   exact jb z
 subst eo
 exact⟨m,⟨o,es,ep,pc.1,r⟩,λh' hs'=>⟨_,_,I''.butC hs' k1 k2 k3 k4 k5,fin D hD⟩⟩
end
theorem Same.new{H:Hp}{l:Addr}{o:HO}(h:H l=none):Same H (upd H l o):=λb u e=>by rw[q05 (q0k e h)];exact e
theorem Same.tup{K:PySem.W.Frag}{H H':Hp}{a:Addr}{xs:List V}(e:Same H H')(h:SqT K H a xs):SqT K H' a xs:=by
 rcases h with(h|⟨o,h⟩)|h
 · exact .inl (.inl (e _ _ h))
 · exact .inl (.inr ⟨o,e _ _ h⟩)
 · exact .inr h
section
variable{X:Cx}{K:PySem.W.Frag}
theorem q0m(h:X.K=K):IxR X (rIx K):=h▸qko
theorem q1p(h:X.K=K):q48 X (.builtin "len") (λxs H Q=>∃p ys,xs=[.ref p]/\(SqL K H p ys∨SqT K H p ys)/\Q (.int ys.length) H):=by subst h;exact q7e
theorem q1k(h:X.K=K):q48 X (.type "tuple") (λxs H Q=>∃p ys,xs=[.ref p]/\((SqL K H p ys/\∀l,H l=none->Q (.ref l) (upd H l (.tup ys)))∨(SqT K H p ys/\Q (.ref p) H))):=by subst h;exact q68
theorem qdl{tg l:Expr}{tl:TE}(h:X.K=K)(hl:PE X l tl):PI X tg l (qh8 K tl):=h▸qg3 hl
theorem qg2{tg l:Expr}{tl:TE}(h:X.K=K)(hl:PE X l tl):PI X tg l (iTup K tl):=h▸qj6 hl
theorem q40{es:List Expr}{k:Nat}{t:TGs}{n:Nat}{pos:Pos}(hK:X.K=K)(hc:X.calm=true)(h:PGs X es t)(hn:(assignEach es X.env).length=n:=by rfl)(hst:(assignEach es X.env).findIdx? (·.1)=none:=by rfl):PG X (.Tuple es k pos) (gTup K n t):=hK▸qj7 hc h hn hst
end
def clsV:V->Option Value
 |.ref a=>some (.ref a)
 |.ty n=>some (.type n)
 |_=>none
def rIsi(K:PySem.W.Frag):List V->Hp->VK->Prop:=λxs H Q=>∃x y t c b,xs=[x,y]/\clsV y=some c/\TyOf K H x t/\PySem.W.kitOne K t c=some b/\Q (.bl b) H
section
variable{X:Cx}
theorem qeq{K:PySem.W.Frag}(hK:X.K=K):q48 X (.builtin "isinstance") (rIsi K):=by
 subst hK
 intro z4 s σ H xs us Q I r h
 obtain⟨x,y,t,c,b,rfl,hc,ty,e,q⟩:=h
 obtain⟨u,w,rfl,ru,rw'⟩:=vals2 r
 have ew:w=c:=by
   cases y with
   | ref a=>
     have z:w=Value.ref a:=rw'
     rw[z]
     exact jb hc
   | ty n=>
     have z:w=Value.type n:=rw'
     rw[z]
     exact jb hc
   |_=>cases hc
 subst ew
 exact qcc I ru ty e λtk=>⟨.bl b,H,I.tok tk,rfl,q⟩
theorem q4o{K:PySem.W.Frag}{v:Value}:PySem.W.kitOne K v v=some true:=by
 unfold PySem.W.kitOne
 rw[if_pos (beq_self_eq_true v)]
theorem q16{K:PySem.W.Frag}{T U:String}{b:Bool}(hm:PySem.W.kitMeta U=true)(h3:PySem.W.subIn K (.type T) (.type U)=some b)(hn:Value.type T≠.type U):PySem.W.kitOne K (.type T) (.type U)=some b:=by
 unfold PySem.W.kitOne
 rw[if_neg (λz=>hn (eq_of_beq z))]
 unfold PySem.W.kitCls
 dsimp only
 rw[if_pos hm]
 exact h3
theorem q5b:∀{bs:List Bool} {us:List Value},Vals (bs.map V.bl) us->us=bs.map Value.bool
 |[],us,r=>by cases r;rfl
 | b::bs,us,r=>by
   cases r with
   | cons h t=>
     have e:_=Value.bool b:=h
     rw[e,q5b t]
     rfl
theorem range_all{α:Type}(l:List α)(f:α->Bool)(tr:Nat->Bool)(h:∀i x,l[i]? =some x->tr i=f x):(List.range l.length).all tr=l.all f:=by
 induction l generalizing tr with
 |nil=>rfl
 | cons a l ih=>
   rw[jk,List.range_succ_eq_map,List.all_cons,List.all_map,List.all_cons,h 0 a rfl]
   congr 1
   exact ih (λi=>tr (i+1)) λi x e=>h (i+1) x (by simpa using e)
theorem qer{K:PySem.W.Frag}(hK:X.K=K)(hc:X.calm=true):q48 X (.builtin "all") (λxs H Q=>∃(p:Addr) (bs:List Bool),xs=[.ref p]/\SqL K H p (bs.map V.bl)/\Q (.bl (bs.all id)) H):=by
 subst hK
 intro z4 s σ H xs us Q I r h
 obtain⟨p,bs,rfl,hq,q⟩:=h
 obtain⟨u,rfl,ru⟩:=vals1 r
 cases ru
 obtain⟨its,rv,pl,hz⟩:=I.list hq
 have hh:X.A.in1.handled=none:=I.ok.hd hc
 have eits:=q5b rv
 have hl:=pl.isList
 have hlt:p<s.heap.objs.size:=by obtain⟨_,e,_⟩:=hl;exact j8 e
 refine call_all_walk (kc hl ?_)
 refine⟨_,_,_,_,_,_,λi=>bs.getD i false,rfl,Walks.list hh s.heap.objs.size p (jh hlt) its.toArray,⟨⟨_,je _ rfl,rfl,rfl⟩,hl.push _⟩,λi v s' Q' E' hP hQ=>?_,λh' tk hk=>?_⟩
 · have e:(bs.map Value.bool)[i]? =some v:=by rw[<-eits];simpa using hP
   rw[ju]at e
   cases z:bs[i]? with
   |none=>rw[z]at e;cases e
   | some b=>
     rw[z]at e
     have e':v=Value.bool b:=(jb e).symm
     subst e'
     refine xw ?_
     have:bs.getD i false=b:=by rw[kf,z];rfl
     dsimp only at hQ
     rw[this]at hQ
     exact hQ
 · have len:its.toArray.size=bs.length:=by rw[eits];simp
   refine⟨.bl (bs.all id),H,I.kept (t':=tk) λb o e=>hk b o (λz=>?_) (ja _ e),?_,q⟩
   · have:=j8 e
     rw[List.mem_singleton.mp z]at this
     exact x9 _ this
   · show Value.bool _=Value.bool _
     rw[len,range_all bs id]
     intro i x e
     rw[kf,e]
     rfl
mutual
inductive DV(K:PySem.W.Frag)(H:Hp):V->PyData->Prop
 |non:DV K H .non .none
 |bl (b:Bool):DV K H (.bl b) (.bool b)
 |int (i:Int):DV K H (.int i) (.int i)
 |str (x:Str):DV K H (.str x) (.str x)
 |lst {a:Addr} {xs:List V} {ds:List PyData}:SqL K H a xs->DVs K H xs ds->DV K H (.ref a) (.list ds)
 |tup {a:Addr} {xs:List V} {ds:List PyData}:SqT K H a xs->DVs K H xs ds->DV K H (.ref a) (.tuple ds)
inductive DVs(K:PySem.W.Frag)(H:Hp):List V->List PyData->Prop
 |nil:DVs K H [] []
 |cons {x:V} {xs:List V} {d:PyData} {ds:List PyData}:DV K H x d->DVs K H xs ds->DVs K H (x::xs) (d::ds)
end
mutual
theorem q3w{z4:List (Addr×Obj)}{σ:St}{H:Hp}{s:Shared}(I:Inv X z4 σ H s):∀{x:V} {d:PyData} {u:Value},DV X.K H x d->RelV x u->∃as,Reads s.heap u d as
 |_,_,u,.non,r=>by cases(show u=Value.none from r);exact⟨_,.none⟩
 |_,_,u,.bl b,r=>by cases(show u=Value.bool b from r);exact⟨_,.bool b⟩
 |_,_,u,.int i,r=>by obtain⟨t,e⟩:=(show∃t,u=Value.int i t from r);cases e;exact⟨_,.int i t⟩
 |_,_,u,.str x,r=>by obtain⟨t,e⟩:=(show∃t,u=Value.str x t from r);cases e;exact⟨_,.str x t⟩
 | _,_,u,.lst (a:=a) hq hs,r=>by
   cases(show u=Value.ref a from r)
   obtain⟨its,rv,pl,_⟩:=I.list hq
   obtain⟨o,e,c,n,dd⟩:=pl.isList
   obtain⟨as,q⟩:=q3l I hs rv
   exact⟨_,reads_list_at e c dd (by simpa using q)⟩
 | _,_,u,.tup (a:=a) hq hs,r=>by
   cases(show u=Value.ref a from r)
   obtain⟨its,rv,pl,_⟩:=I.tuple hq
   obtain⟨o,e,c,n,dd⟩:=pl
   obtain⟨as,q⟩:=q3l I hs rv
   exact⟨_,reads_tuple_at e c dd (by simpa using q)⟩
theorem q3l{z4:List (Addr×Obj)}{σ:St}{H:Hp}{s:Shared}(I:Inv X z4 σ H s):∀{xs:List V} {ds:List PyData} {us:List Value},DVs X.K H xs ds->Vals xs us->∃as,ReadsAll s.heap us ds as
 |_,_,_,.nil,.nil=>⟨_,.nil⟩
 | _,_,_,.cons h t,.cons r rs=>by
   obtain⟨as,q⟩:=q3w I h r
   obtain⟨bs,p⟩:=q3l I t rs
   exact⟨_,.cons q p⟩
end
def rEqD(K:PySem.W.Frag):R2:=λx y H Q=>∃d e,DV K H x d/\DV K H y e/\SeqAt.shaped d=true/\SeqAt.shaped e=true/\Q (.bl (PyData.eqv d e)) H
def rNeD(K:PySem.W.Frag):R2:=λx y H Q=>∃d e,DV K H x d/\DV K H y e/\SeqAt.shaped d=true/\SeqAt.shaped e=true/\Q (.bl (!PyData.eqv d e)) H
theorem qbg{K:PySem.W.Frag}(hK:X.K=K)(hu:X.A.units+64<cLine):OpR X (compareOp .Eq) (rEqD K):=by
 subst hK
 intro z4 s σ H x y v u Q I rx ry h
 obtain⟨d,e,hd,he,sd,se,q⟩:=h
 obtain⟨as,ra⟩:=q3w I hd rx
 obtain⟨bs,rb⟩:=q3w I he ry
 exact eq_dataH ra rb sd se hu ⟨.bl _,H,I,rfl,q⟩
theorem qf1{K:PySem.W.Frag}(hK:X.K=K)(hu:X.A.units+64<cLine):OpR X (compareOp .NotEq) (rNeD K):=by
 subst hK
 intro z4 s σ H x y v u Q I rx ry h
 obtain⟨d,e,hd,he,sd,se,q⟩:=h
 obtain⟨as,ra⟩:=q3w I hd rx
 obtain⟨bs,rb⟩:=q3w I he ry
 exact ne_dataH ra rb sd se hu ⟨.bl _,H,I,rfl,q⟩
structure MkN(K:PySem.W.Frag)(C:Addr):Prop where
 makes:PySem.W.makesIn K C=true
 init:PySem.W.findIn K (.ref C) "__init__"=some (some (.builtin "object.__init__"))
 kp:PySem.W.keepIn K (.ref C)=true
end
def seqIs(b:Bool)(h:Heap)(l:Addr)(xs:Array Value):Prop:=match b with
 |true=>h.IsList l xs
 |false=>h.IsTuple l xs
def iterIs(b:Bool)(h:Heap)(i l:Addr)(k:Nat):Prop:=match b with
 |true=>h.IsListIter i l k
 |false=>h.IsTupleIter i l k
def q3k(b:Bool)(l:Addr):Obj:={cls:=.type (if b then "list_iterator" else "tuple_iterator"),data:=.fields #[.ref l,.int 0 0]}
theorem seqIs.at_{b:Bool}{h h':Heap}{l:Addr}{xs:Array Value}(q:seqIs b h l xs)(e:∀o,h.get? l=some o->h'.get? l=some o):seqIs b h' l xs:=by
 cases b
 · obtain⟨o,z,r⟩:=(show h.IsTuple l xs from q)
   exact(show h'.IsTuple l xs from⟨o,e o z,r⟩)
 · obtain⟨o,z,r⟩:=(show h.IsList l xs from q)
   exact(show h'.IsList l xs from⟨o,e o z,r⟩)
theorem iterIs.at_{b:Bool}{h h':Heap}{i l:Addr}{k:Nat}(q:iterIs b h i l k)(e:∀o,h.get? i=some o->h'.get? i=some o):iterIs b h' i l k:=by
 cases b
 · obtain⟨o,z,r⟩:=(show h.IsTupleIter i l k from q)
   exact(show h'.IsTupleIter i l k from⟨o,e o z,r⟩)
 · obtain⟨o,z,r⟩:=(show h.IsListIter i l k from q)
   exact(show h'.IsListIter i l k from⟨o,e o z,r⟩)
theorem iterIs.obj{b:Bool}{h:Heap}{i l:Addr}{k:Nat}(q:iterIs b h i l k):∃o,h.get? i=some o/\∀v,o.data≠.cell v:=by
 cases b
 · obtain⟨o,z,_,d⟩:=(show h.IsTupleIter i l k from q)
   exact⟨o,z,λv e=>by rw[d]at e;cases e⟩
 · obtain⟨o,z,_,d⟩:=(show h.IsListIter i l k from q)
   exact⟨o,z,λv e=>by rw[d]at e;cases e⟩
theorem iterIs.mk_{b:Bool}{h:Heap}{i l:Addr}(q:h.get? i=some (q3k b l)):iterIs b h i l 0:=by
 cases b
 · exact(show h.IsTupleIter i l 0 from⟨_,q,rfl,rfl⟩)
 · exact(show h.IsListIter i l 0 from⟨_,q,rfl,rfl⟩)
section
variable{prog:Program}{w:World}{A:Around}{E:Value->Shared->Prop}{s:Shared}
theorem q5f{b:Bool}{l:Addr}{xs:Array Value}{Q:Value->Shared->Prop}(q:seqIs b s.heap l xs)(h:Q (.ref s.heap.objs.size) {s with heap:=s.heap.push (q3k b l)}):wpAny (model prog w) A (pyIter (.ref l)) Q E s:=by
 cases b
 · exact wpAny_pyIter_tuple (show s.heap.IsTuple l xs from q) h
 · exact kc (show s.heap.IsList l xs from q) h
theorem q6u{i l:Addr}{k:Nat}{xs:Array Value}{x:Value}{Q:Value->Shared->Prop}(st:s.heap.IsTupleIter i l k)(tp:s.heap.IsTuple l xs)(e:xs[k]? =some x)
   (h:∀h',h'.IsTupleIter i l (k+1)->Heap.SameBut i s.heap h'->Q x {s with heap:=h'}):wpAny (model prog w) A (Builtin.SmallTypes.nextOf (.ref i)) Q E s:=by
 obtain⟨oi,gi,ci,di⟩:=id st
 obtain⟨ot,gt,_,nt,dt⟩:=tp
 unfold Builtin.SmallTypes.nextOf
 refine j6 (xf (name:=Str.ofString "__next__") st.typeIs vc (jo vc st.typeIs F.entry_tuple_iterator_next ?_ (F.args_tuple_iterator_next_1 _)))
 show wpAny _ _ (field (.ref i) 0 >>= _) _ _ s
 refine j6 (jn gi di (x:=.ref l) rfl ?_)
 show wpAny _ _ (if(Value.ref l==Value.none)=true then _ else _) _ _ s
 rw[if_neg (by exact Bool.false_ne_true:¬((Value.ref l==Value.none)=true))]
 show wpAny _ _ (field (.ref i) 1 >>= _) _ _ s
 refine j6 (jn gi di (x:=.int k 0) rfl ?_)
 show wpAny _ _ (seqItems? (.ref l) >>= _) _ _ s
 refine j6 (x6 gt dt ?_)
 simp only[Int.toNat_natCast,e]
 refine j6 (k9 gi di (by simp) (j7 ⟨x,rfl,j7 (h _ ?_ (xh ..))⟩))
 refine⟨_,xo _ gi (Obj.isFreed_of_fields (kg di _)),(Obj.cls_mapFields ..).trans ci,?_⟩
 rw[kg di]
 simp[rawInt]
theorem q4h{i l:Addr}{k:Nat}{xs:Array Value}{Q:Value->Shared->Prop}(hh:A.handled=none)(st:s.heap.IsTupleIter i l k)(tp:s.heap.IsTuple l xs)(e:xs[k]? =none)
   (h:∀h' x,Heap.ExtBut i s.heap h'->(∃o,h'.get? x=some o/\o.cls=.type "StopIteration")->E (.ref x) {s with heap:=h'}):wpAny (model prog w) A (Builtin.SmallTypes.nextOf (.ref i)) Q E s:=by
 obtain⟨oi,gi,ci,di⟩:=id st
 obtain⟨ot,gt,_,nt,dt⟩:=tp
 unfold Builtin.SmallTypes.nextOf
 refine j6 (xf (name:=Str.ofString "__next__") st.typeIs vc (jo vc st.typeIs F.entry_tuple_iterator_next ?_ (F.args_tuple_iterator_next_1 _)))
 show wpAny _ _ (field (.ref i) 0 >>= _) _ _ s
 refine j6 (jn gi di (x:=.ref l) rfl ?_)
 show wpAny _ _ (if(Value.ref l==Value.none)=true then _ else _) _ _ s
 rw[if_neg (by exact Bool.false_ne_true:¬((Value.ref l==Value.none)=true))]
 show wpAny _ _ (field (.ref i) 1 >>= _) _ _ s
 refine j6 (jn gi di (x:=.int k 0) rfl ?_)
 show wpAny _ _ (seqItems? (.ref l) >>= _) _ _ s
 refine j6 (x6 gt dt ?_)
 simp only[Int.toNat_natCast,e]
 refine j6 (wpAny_rule (j6 (k9 gi di (by simp) ?_)))
 show wpAny _ _ (newExc (.type "StopIteration") [] >>= _) _ _ _
 refine j6 ?_
 simp only[newExc,newTuple]
 refine j6 (jq ?_ (by size_fits))
 refine j6 (m:=firstArgMember _ _) (wpAny_of_eq (a:=Value.none) (by first|rfl|(simp only[firstArgMember]<;>rfl)) ?_)
 refine jq ?_ (by size_fits)
 simp only[raiseNew]
 refine j6 (wpAny_handled ?_)
 first|rw[(hh:A.in1.handled=none)]|rw[hh]
 refine j6 (j7 (wpAny_throw ?_))
 exact h _ _ (((xh ..).extBut.push _).push _) ⟨_,je _ rfl,rfl⟩
theorem q42{b:Bool}{i l:Addr}{k:Nat}{xs:Array Value}{x:Value}{Q:Value->Shared->Prop}(st:iterIs b s.heap i l k)(tp:seqIs b s.heap l xs)(e:xs[k]? =some x)
   (h:∀h',iterIs b h' i l (k+1)->Heap.SameBut i s.heap h'->Q x {s with heap:=h'}):wpAny (model prog w) A (Builtin.SmallTypes.nextOf (.ref i)) Q E s:=by
 cases b
 · exact q6u st tp e h
 · exact wpAny_nextOf_list_item st tp e h
theorem q3a{b:Bool}{i l:Addr}{k:Nat}{xs:Array Value}{Q:Value->Shared->Prop}(hh:A.handled=none)(st:iterIs b s.heap i l k)(tp:seqIs b s.heap l xs)(e:xs[k]? =none)
   (h:∀h' x,Heap.ExtBut i s.heap h'->(∃o,h'.get? x=some o/\o.cls=.type "StopIteration")->E (.ref x) {s with heap:=h'}):wpAny (model prog w) A (Builtin.SmallTypes.nextOf (.ref i)) Q E s:=by
 cases b
 · exact q4h hh st tp e h
 · exact wpAny_nextOf_list_end hh st tp e h
theorem qd9{z TI TO i1 i2 l1 l2:Addr}{b1 b2:Bool}{k1 k2:Nat}{xs ys:Array Value}{x y a b:Value}{Q:Option Value->Shared->Prop}(D:ZipApart z TI TO i1 i2 l1 l2)
   (hz:IsZip s.heap z TI TO .none) (hTI:IsPair s.heap TI (.ref i1) (.ref i2)) (hTO:IsPair s.heap TO a b) (h1:iterIs b1 s.heap i1 l1 k1) (h2:iterIs b2 s.heap i2 l2 k2) (q1:seqIs b1 s.heap l1 xs) (q2:seqIs b2 s.heap l2 ys) (hx:xs[k1]? =some x) (hy:ys[k2]? =some y)
   (hQ:∀h',IsZip h' z TI TO (rawInt s.heap.objs.size)->IsPair h' TO x y->iterIs b1 h' i1 l1 (k1+1)->iterIs b2 h' i2 l2 (k2+1)->IsPair h' s.heap.objs.size x y->
     (∀c o,c≠z->c≠TO->c≠i1->c≠i2->s.heap.get? c=some o->h'.get? c=some o)->Q (some (.ref s.heap.objs.size)) {s with heap:=h'}):wpAny (model prog w) A (pyNext (.ref z)) Q E s:=by
 have ty:s.TypeIs (.ref z) "zip":=⟨_,hz,rfl⟩
 unfold pyNext
 refine j6 (xq (xf (name:=Str.ofString "__next__") ty F.slot_zip_next (jo F.slot_zip_next ty F.entry_zip_next ?_ (F.args_zip_next_1 _))))
 show wpAny _ _ (field (.ref z) 2 >>= _) _ _ _
 refine j6 (jn hz rfl (x:=.bool false) rfl ?_)
 show wpAny _ _ (field (.ref z) 3 >>= _) _ _ _
 refine j6 (jn hz rfl (x:=.ref TI) rfl (j6 (x6 hTI rfl ?_)))
 show wpAny _ _ (Builtin.SmallTypes.ownedTupleIsFree (.ref z) >>= _) _ _ _
 refine j6 ?_
 unfold Builtin.SmallTypes.ownedTupleIsFree
 refine j6 (jn hz rfl (x:=.none) rfl (j7 ?_))
 simp only[if_true]
 refine j6 (wpAny_rule (j6 (jn hz rfl (x:=.ref TO) rfl (j6 (xl hz (by simp) λg1 z1 s1=>?_)))))
 have Z1:IsZip g1 z TI TO .ellipsis:=z1
 refine j6 ?_
 simp only[List.zipIdx_cons,List.zipIdx_nil,List.forIn_cons,List.forIn_nil]
 refine j6 (j6 (wpAny_onRaise ?_))
 show wpAny _ _ (Builtin.SmallTypes.nextOf (.ref i1) >>= _) _ _ _
 refine j6 (q42 (h1.at_ λo e=>s1.extBut _ o D.i1z e) (q1.at_ λo e=>s1.extBut _ o D.l1z e) hx λg2 n2 s2=>j7 ?_)
 have P2:IsPair g2 TO a b:=s2.extBut _ _ D.TOi1 (s1.extBut _ _ D.TOz hTO)
 refine j6 (x6 P2 rfl (j6 (wpAny_updateSeq_pair P2 λg3 p3 s3=>j6 (xi (j7 ?_)))))
 have P3:IsPair g3 TO x b:=p3
 refine j6 (j6 (wpAny_onRaise ?_))
 show wpAny _ _ (Builtin.SmallTypes.nextOf (.ref i2) >>= _) _ _ _
 refine j6 (q42 (h2.at_ λo e=>s3.extBut _ o D.TOi2.symm (s2.extBut _ o D.i12.symm (s1.extBut _ o D.i2z e))) (q2.at_ λo e=>s3.extBut _ o D.l2TO (s2.extBut _ o D.l2i1 (s1.extBut _ o D.l2z e))) hy λg4 n4 s4=>j7 ?_)
 have P4:IsPair g4 TO x b:=s4.extBut _ _ D.TOi2 P3
 refine j6 (x6 P4 rfl (j6 (wpAny_updateSeq_pair P4 λg5 p5 s5=>j6 (xi (j7 (j7 ?_))))))
 have P5:IsPair g5 TO x y:=p5
 refine j6 (x6 P5 rfl (j6 (wpAny_newTuple ?_)))
 have sz:g5.objs.size=s.heap.objs.size:=by rw[s5.1,s4.1,s3.1,s2.1,s1.1]
 have Z5:IsZip g5 z TI TO .ellipsis:=s5.extBut _ _ D.TOz.symm (s4.extBut _ _ D.i2z.symm (s3.extBut _ _ D.TOz.symm (s2.extBut _ _ D.i1z.symm Z1)))
 have K5:∀c o,c≠z->c≠TO->c≠i1->c≠i2->s.heap.get? c=some o->g5.get? c=some o:=λc o c1 c2 c3 c4 e=>s5.extBut _ _ c2 (s4.extBut _ _ c4 (s3.extBut _ _ c2 (s2.extBut _ _ c3 (s1.extBut _ _ c1 e))))
 have N1:iterIs b1 g5 i1 l1 (k1+1):=n2.at_ λo e=>s5.extBut _ o D.TOi1.symm (s4.extBut _ o D.i12 (s3.extBut _ o D.TOi1.symm e))
 have N2:iterIs b2 g5 i2 l2 (k2+1):=n4.at_ λo e=>s5.extBut _ o D.TOi2.symm e
 have zlt:z<g5.objs.size:=j8 Z5
 show wpAny _ _ (Builtin.SmallTypes.ownedTupleHandOut (.ref z) (.ref g5.objs.size) >>= _) _ _ _
 refine j6 ?_
 unfold Builtin.SmallTypes.ownedTupleHandOut
 have Z6:IsZip (g5.push {cls:=.type "tuple",data:=.seq #[x,y]}) z TI TO .ellipsis:=ja _ Z5
 refine j6 (xl Z6 (by simp) λg7 z7 s7=>?_)
 have Z7:IsZip g7 z TI TO (rawInt g5.objs.size):=z7
 refine xl Z7 (by simp) λg8 z8 s8=>?_
 have Z8:IsZip g8 z TI TO (rawInt g5.objs.size):=z8
 have up:∀c o,c≠z->g5.get? c=some o->g8.get? c=some o:=λc o c1 e=>s8.extBut _ _ c1 (s7.extBut _ _ c1 (ja _ e))
 have T8:IsPair g8 g5.objs.size x y:=s8.extBut _ _ (Nat.ne_of_gt zlt) (s7.extBut _ _ (Nat.ne_of_gt zlt) (je _ rfl))
 rw[sz]at Z8 T8
 refine j7 ⟨_,rfl,j7 ?_⟩
 show Q (some (.ref g5.objs.size)) _
 rw[sz]
 exact hQ g8 Z8 (up _ _ D.TOz P5) (N1.at_ λo e=>up _ o D.i1z e) (N2.at_ λo e=>up _ o D.i2z e) T8 λc o c1 c2 c3 c4 e=>up c o c1 (K5 c o c1 c2 c3 c4 e)
theorem qfi{z TI TO i1 i2 l1 l2:Addr}{b1 b2:Bool}{k1 k2:Nat}{xs ys:Array Value}{a b:Value}{Q:Option Value->Shared->Prop}(hh:A.handled=none)(D:ZipApart z TI TO i1 i2 l1 l2)
   (hz:IsZip s.heap z TI TO .none) (hTI:IsPair s.heap TI (.ref i1) (.ref i2)) (hTO:IsPair s.heap TO a b) (h1:iterIs b1 s.heap i1 l1 k1) (h2:iterIs b2 s.heap i2 l2 k2) (q1:seqIs b1 s.heap l1 xs) (q2:seqIs b2 s.heap l2 ys) (hend:xs[k1]? =none∨ys[k2]? =none)
   (hQ:∀h',(∀c o,c≠z->c≠TO->c≠i1->c≠i2->s.heap.get? c=some o->h'.get? c=some o)->Q none {s with heap:=h'}):wpAny (model prog w) A (pyNext (.ref z)) Q E s:=by
 have ty:s.TypeIs (.ref z) "zip":=⟨_,hz,rfl⟩
 have fin:∀(h':Heap) (e:Addr),(∀c o,c≠z->c≠TO->c≠i1->c≠i2->s.heap.get? c=some o->h'.get? c=some o)->(∃o,h'.get? e=some o/\o.cls=.type "StopIteration")->
     wpAny (model prog w) A (isInstance (.ref e) (.type "StopIteration") >>= λr=>if r=true then pure none else throw (.ref e)) Q E {s with heap:=h'}:=λh' e hk ⟨o,ho,hc⟩=>
   j6 (kh (T:="StopIteration") (b:=true) ⟨o,ho,hc⟩ isSubtype_stop (j7 (hQ _ hk)))
 unfold pyNext
 refine j6 (xq (xf (name:=Str.ofString "__next__") ty F.slot_zip_next (jo F.slot_zip_next ty F.entry_zip_next ?_ (F.args_zip_next_1 _))))
 show wpAny _ _ (field (.ref z) 2 >>= _) _ _ _
 refine j6 (jn hz rfl (x:=.bool false) rfl ?_)
 show wpAny _ _ (field (.ref z) 3 >>= _) _ _ _
 refine j6 (jn hz rfl (x:=.ref TI) rfl (j6 (x6 hTI rfl ?_)))
 show wpAny _ _ (Builtin.SmallTypes.ownedTupleIsFree (.ref z) >>= _) _ _ _
 refine j6 ?_
 unfold Builtin.SmallTypes.ownedTupleIsFree
 refine j6 (jn hz rfl (x:=.none) rfl (j7 ?_))
 simp only[if_true]
 refine j6 (wpAny_rule (j6 (jn hz rfl (x:=.ref TO) rfl (j6 (xl hz (by simp) λg1 z1 s1=>?_)))))
 have Z1:IsZip g1 z TI TO .ellipsis:=z1
 refine j6 ?_
 simp only[List.zipIdx_cons,List.zipIdx_nil,List.forIn_cons,List.forIn_nil]
 refine j6 (j6 (wpAny_onRaise ?_))
 show wpAny _ _ (Builtin.SmallTypes.nextOf (.ref i1) >>= _) _ _ _
 have I1:iterIs b1 g1 i1 l1 k1:=h1.at_ λo e=>s1.extBut _ o D.i1z e
 have L1:seqIs b1 g1 l1 xs:=q1.at_ λo e=>s1.extBut _ o D.l1z e
 cases ex:xs[k1]? with
 | none=>
   refine j6 (q3a hh I1 L1 ex λg2 e s2 he=>?_)
   obtain⟨oe,he,ce⟩:=he
   have Z2:IsZip g2 z TI TO .ellipsis:=s2 _ _ D.i1z.symm Z1
   have nez:e≠z:=λq=>by subst q;rw[Z2]at he;cases he;simp at ce
   exact xl Z2 (by simp) λg3 _ s3=>fin g3 e (λc o c1 _ c3 _ q=>s3.extBut _ _ c1 (s2 _ _ c3 (s1.extBut _ _ c1 q))) ⟨oe,s3.extBut _ _ nez he,ce⟩
 | some x=>
   have ey:ys[k2]? =none:=by
     rcases hend with q|q
     · rw[ex]at q;cases q
     · exact q
   refine j6 (q42 I1 L1 ex λg2 n2 s2=>j7 ?_)
   have P2:IsPair g2 TO a b:=s2.extBut _ _ D.TOi1 (s1.extBut _ _ D.TOz hTO)
   refine j6 (x6 P2 rfl (j6 (wpAny_updateSeq_pair P2 λg3 p3 s3=>j6 (xi (j7 ?_)))))
   refine j6 (j6 (wpAny_onRaise ?_))
   show wpAny _ _ (Builtin.SmallTypes.nextOf (.ref i2) >>= _) _ _ _
   refine j6 (q3a hh (h2.at_ λo e=>s3.extBut _ o D.TOi2.symm (s2.extBut _ o D.i12.symm (s1.extBut _ o D.i2z e))) (q2.at_ λo e=>s3.extBut _ o D.l2TO (s2.extBut _ o D.l2i1 (s1.extBut _ o D.l2z e))) ey λg4 e s4 he=>?_)
   obtain⟨oe,he,ce⟩:=he
   have Z4:IsZip g4 z TI TO .ellipsis:=s4 _ _ D.i2z.symm (s3.extBut _ _ D.TOz.symm (s2.extBut _ _ D.i1z.symm Z1))
   have nez:e≠z:=λq=>by subst q;rw[Z4]at he;cases he;simp at ce
   exact xl Z4 (by simp) λg5 _ s5=>fin g5 e (λc o c1 c2 c3 c4 q=>s5.extBut _ _ c1 (s4 _ _ c4 (s3.extBut _ _ c2 (s2.extBut _ _ c3 (s1.extBut _ _ c1 q))))) ⟨oe,s5.extBut _ _ nez he,ce⟩
abbrev zo1(b1:Bool)(h:Heap)(l1:Addr):Heap:=h.push (q3k b1 l1)
abbrev zo2(b1 b2:Bool)(h:Heap)(l1 l2:Addr):Heap:=(zo1 b1 h l1).push (q3k b2 l2)
abbrev zo3(b1 b2:Bool)(h:Heap)(l1 l2:Addr):Heap:=(zo2 b1 b2 h l1 l2).push {cls:=.type "tuple",data:=.seq #[.ref h.objs.size,.ref (zo1 b1 h l1).objs.size]}
abbrev zo4(b1 b2:Bool)(h:Heap)(l1 l2:Addr):Heap:=(zo3 b1 b2 h l1 l2).push {cls:=.type "tuple",data:=.seq #[.none,.none]}
abbrev zo5(b1 b2:Bool)(h:Heap)(l1 l2:Addr):Heap:=(zo4 b1 b2 h l1 l2).push {cls:=.type "zip",data:=.fields #[.none,.bool false,.bool false,.ref (zo2 b1 b2 h l1 l2).objs.size,.ref (zo3 b1 b2 h l1 l2).objs.size]}
theorem qfh(b1 b2:Bool)(l1 l2:Addr)(xs ys:Array Value):Meets (Builtin.«zip.__new__» ⟨[.type "zip",.ref l1,.ref l2],[]⟩) (λ_ R s=>seqIs b1 s.heap l1 xs/\seqIs b2 s.heap l2 ys/\
     R (.ok (.ret (.ref (zo4 b1 b2 s.heap l1 l2).objs.size))) {s with heap:=zo5 b1 b2 s.heap l1 l2}):=by
 refine .of_wp λprog w A R s q=>?_
 obtain⟨hp,g,d,tk,os⟩:=s
 obtain⟨q1,q2,q⟩:=q
 have sub:=sub_zip
 have L1:seqIs b1 (Shared.heap ⟨hp,g,d,tk,os⟩) l1 xs:=q1
 have L2':seqIs b2 (Shared.heap ⟨hp.push (q3k b1 l1),g,d,tk,os⟩) l2 ys:=q2.at_ λo z=>ja _ z
 wp_walk using q5f L1,q5f L2'
 exact⟨_,rfl,q⟩
theorem qeo{b1 b2:Bool}{l1 l2:Addr}{xs ys:Array Value}{Q:Value->Shared->Prop}(q1:seqIs b1 s.heap l1 xs)(q2:seqIs b2 s.heap l2 ys)
   (h:∀h',IsZip h' (s.heap.objs.size+4) (s.heap.objs.size+2) (s.heap.objs.size+3) .none->IsPair h' (s.heap.objs.size+2) (.ref s.heap.objs.size) (.ref (s.heap.objs.size+1))->IsPair h' (s.heap.objs.size+3) .none .none->
     iterIs b1 h' s.heap.objs.size l1 0->iterIs b2 h' (s.heap.objs.size+1) l2 0->(∀c o,s.heap.get? c=some o->h'.get? c=some o)->Q (.ref (s.heap.objs.size+4)) {s with heap:=h'}):
   wpAny (model prog w) A (call (.type "zip") [.ref l1,.ref l2]) Q E s:=by
 refine callType_new F.called_zip (by decide) (F.typeCall_zip_2 _ _) (F.newCall_zip_2 _ _) (λobj=>F.args_object_init_3 obj _ _) F.entry_zip_new (qfh b1 b2 l1 l2 xs ys) ⟨q1,q2,?_⟩
 have y1:(zo1 b1 s.heap l1).objs.size=s.heap.objs.size+1:=xk ..
 have y2:(zo2 b1 b2 s.heap l1 l2).objs.size=s.heap.objs.size+2:=by rw[xk,y1]
 have y3:(zo3 b1 b2 s.heap l1 l2).objs.size=s.heap.objs.size+3:=by rw[xk,y2]
 have y4:(zo4 b1 b2 s.heap l1 l2).objs.size=s.heap.objs.size+4:=by rw[xk,y3]
 have k5:(zo5 b1 b2 s.heap l1 l2).get? (zo4 b1 b2 s.heap l1 l2).objs.size=some _:=je _ rfl
 have k4:(zo5 b1 b2 s.heap l1 l2).get? (zo3 b1 b2 s.heap l1 l2).objs.size=some _:=ja _ (je _ rfl)
 have k3:(zo5 b1 b2 s.heap l1 l2).get? (zo2 b1 b2 s.heap l1 l2).objs.size=some _:=ja _ (ja _ (je _ rfl))
 have k2:(zo5 b1 b2 s.heap l1 l2).get? (zo1 b1 s.heap l1).objs.size=some (q3k b2 l2):=ja _ (ja _ (ja _ (je _ (by cases b2<;>rfl))))
 have k1:(zo5 b1 b2 s.heap l1 l2).get? s.heap.objs.size=some (q3k b1 l1):=ja _ (ja _ (ja _ (ja _ (je _ (by cases b1<;>rfl)))))
 show _/\_
 rw[y2,y3,y4]at k5
 rw[y1,y2]at k3
 rw[y3]at k4
 rw[y1]at k2
 rw[y4]
 exact⟨⟨_,k5,rfl⟩,h _ k5 k3 k4 (iterIs.mk_ k1) (iterIs.mk_ k2) λc o x=>ja _ (ja _ (ja _ (ja _ (ja _ x))))⟩
end
def SqB(K:PySem.W.Frag)(b:Bool)(H:Hp)(p:Addr)(xs:List V):Prop:=match b with
 |true=>SqL K H p xs
 |false=>SqT K H p xs
section
variable{X:Cx}{z4:List (Addr×Obj)}{σ:St}{H:Hp}{s:Shared}{b b1 b2:Bool}{p p1 p2:Addr}{xs ys:List V}
theorem Inv.seqB(I:Inv X z4 σ H s)(h:SqB X.K b H p xs):∃its:List Value,Vals xs its/\seqIs b s.heap p its.toArray/\xs.length<=sizeLine:=by
 cases b
 · obtain⟨its,r,q,hz⟩:=I.tuple (show SqT X.K H p xs from h)
   exact⟨its,r,(show s.heap.IsTuple p its.toArray from q),hz⟩
 · obtain⟨its,r,q,hz⟩:=I.list (show SqL X.K H p xs from h)
   exact⟨its,r,(show s.heap.IsList p its.toArray from q.isList),hz⟩
theorem Inv.seqB_inj(I:Inv X z4 σ H s)(h:SqB X.K b H p xs)(h':SqB X.K b H p ys):xs=ys:=by
 cases b
 · exact I.tuple_inj h h'
 · exact I.list_inj h h'
end
def Itz(K:PySem.W.Frag)(b1 b2:Bool)(p1 p2:Addr):It:=
 ⟨λi H=>∃xs ys x y,SqB K b1 H p1 xs/\SqB K b2 H p2 ys/\xs[i]? =some x/\ys[i]? =some y,
  λi H v H'=>∃T x y,v=.ref T/\H T=none/\H'=upd H T (.tup [x,y])/\(∀xs,SqB K b1 H p1 xs->xs[i]? =some x)/\∀ys,SqB K b2 H p2 ys->ys[i]? =some y,
  λi H=>∃xs ys,SqB K b1 H p1 xs/\SqB K b2 H p2 ys/\(xs.length<=i∨ys.length<=i)⟩
def qls(b1 b2:Bool)(p1 p2 z TI TO i1 i2:Addr)(i:Nat)(h:Heap):Prop:=IsZip h z TI TO .none/\IsPair h TI (.ref i1) (.ref i2)/\(∃a b,IsPair h TO a b)/\iterIs b1 h i1 p1 i/\iterIs b2 h i2 p2 i
theorem qdc{P:Program}{w:World}{K:PySem.W.Frag}{zo:List Expr}{x1:Nat}{pos:Pos}(b1 b2:Bool){p1 p2 z TI TO i1 i2:Addr}(D:ZipApart z TI TO i1 i2 p1 p2):
   Turn P w K (.Tuple zo x1 pos) (Itz K b1 b2 p1 p2) [z,TI,TO,i1,i2] z (qls b1 b2 p1 p2 z TI TO i1 i2) where
 mem:=by simp
 obj:=λi h st c hc=>by
   obtain⟨hz,hI,⟨a,b,hO⟩,j1,j2⟩:=st
   simp only[List.mem_cons,List.not_mem_nil,or_false]at hc
   rcases hc with rfl|rfl|rfl|rfl|rfl
   · exact⟨_,hz,λv e=>by cases e⟩
   · exact⟨_,hI,λv e=>by cases e⟩
   · exact⟨_,hO,λv e=>by cases e⟩
   · exact j1.obj
   · exact j2.obj
 keep:=λi h h' st k=>by
   obtain⟨hz,hI,⟨a,b,hO⟩,j1,j2⟩:=st
   exact⟨k z (by simp) _ hz,k TI (by simp) _ hI,⟨a,b,k TO (by simp) _ hO⟩,j1.at_ λo e=>k i1 (by simp) o e,j2.at_ λo e=>k i2 (by simp) o e⟩
 item:=by
   intro X hP hw hK hc i z4 s σ H E I hf st hg
   subst hP hw hK
   obtain⟨xs,ys,x,y,q1,q2,ex,ey⟩:=hg
   obtain⟨it1,r1,t1,_⟩:=I.seqB q1
   obtain⟨it2,r2,t2,_⟩:=I.seqB q2
   obtain⟨u,eu,ru⟩:=r1.get ex
   obtain⟨v,ev,rv⟩:=r2.get ey
   obtain⟨hz,hI,⟨a,b,hO⟩,j1,j2⟩:=st
   refine qd9 D hz hI hO j1 j2 t1 t2 (x:=u) (y:=v) (by simpa using eu) (by simpa using ev) λh' z' o' n1 n2 tp kk=>?_
   refine⟨_,rfl,?_⟩
   refine wpAny_letOwnedTupleGo_zip z' λh'' z'' s''=>?_
   have fresh:H s.heap.objs.size=none:=I.hok.fresh (jc _)
   have zne:s.heap.objs.size≠z:=λe=>by
     have:=j8 hz
     rw[<-e]at this
     exact x9 _ this
   have keep:∀c o,c∉[z,TI,TO,i1,i2]->s.heap.get? c=some o->h''.get? c=some o:=λc o hc e=>by
     simp only[List.mem_cons,List.not_mem_nil,or_false,not_or]at hc
     exact s''.extBut c o hc.1 (kk c o hc.1 hc.2.2.1 hc.2.2.2.1 hc.2.2.2.2 e)
   have tp':h''.get? s.heap.objs.size=some {cls:=.type "tuple",data:=.seq #[u,v]}:=s''.extBut _ _ zne tp
   have I':Inv X z4 σ (upd H s.heap.objs.size (.tup [x,y])) {s with heap:=h'',toks:=s.toks}:=by
     refine I.step (g':=s.gens) (d':=s.drawn) (ch:=[z,TI,TO,i1,i2]) (λc hc=>?_) (λc o _ _ hc e _=>keep c o hc e) (λc o _ _ hc e _=>⟨o.slots,keep c o hc e⟩) (λc o _ e n=>?_) (λc o hc e=>⟨o,keep c o hc e⟩)
       (λc zs e=>?_) (λc o w' e=>?_) (λc ps e=>⟨#[],?_⟩) (λm hm=>?_) (λc o e=>?_) I.bare
     · obtain⟨_,f1,f2,f3,f4,f5⟩:=hf c hc
       exact⟨f3,f1,f4,f5⟩
     · rw[q05 (jh (j8 e))];exact n
     · rw[q05 (q0k e fresh)];exact e
     · rw[q05 (q0k e fresh)];exact e
     · rw[q05 (q0k e fresh),e];simp
     · obtain⟨o,es,ep,ho,r⟩:=hm
       exact⟨o,es,ep,keep _ o (λq=>(hf _ q).2.1 rfl) ho,r⟩
     · by_cases hb:c=s.heap.objs.size
       · subst hb
         rw[q0a]at e
         cases e
         exact⟨by show 2<=sizeLine;decide,[u,v],.cons ru (.cons rv .nil),⟨_,tp',⟨rfl,_,rfl⟩,rfl⟩⟩
       · rw[q05 hb]at e
         refine(I.hok c o e).stay (λd w' hd q=>keep d w' (λm=>?_) q) (λd q=>?_) λd zs q=>?_
         · have n:=(hf d m).1
           rcases hd with rfl|hd
           · rw[n]at e;cases e
           · rw[n]at hd;cases hd
         · rw[q05 (q0k q fresh)];exact q
         · rw[q05 (q0k q fresh)];exact q
   refine⟨.ref s.heap.objs.size,_,I',rfl,⟨_,x,y,rfl,fresh,rfl,λzs q=>by rw[I.seqB_inj q q1];exact ex,λzs q=>by rw[I.seqB_inj q q2];exact ey⟩,?_,λc hc=>?_⟩
   · refine⟨z'',s''.extBut _ _ D.TIz (kk _ _ D.TIz D.TITO D.TIi1 D.TIi2 hI),⟨u,v,s''.extBut _ _ D.TOz o'⟩,n1.at_ λo e=>s''.extBut _ o D.i1z e,n2.at_ λo e=>s''.extBut _ o D.i2z e⟩
   · have lt:c<s.heap.objs.size:=by
       simp only[List.mem_cons,List.not_mem_nil,or_false]at hc
       rcases hc with rfl|rfl|rfl|rfl|rfl
       · exact j8 hz
       · exact j8 hI
       · exact j8 hO
       · obtain⟨o,e,_⟩:=j1.obj;exact j8 e
       · obtain⟨o,e,_⟩:=j2.obj;exact j8 e
     rw[q05 (jh lt)]
     exact(hf c hc).1
 done:=by
   intro X hP hw hK hc i z4 s σ H E I hf st hg
   subst hP hw hK
   obtain⟨xs,ys,q1,q2,hl⟩:=hg
   obtain⟨it1,r1,t1,_⟩:=I.seqB q1
   obtain⟨it2,r2,t2,_⟩:=I.seqB q2
   obtain⟨hz,hI,⟨a,b,hO⟩,j1,j2⟩:=st
   have l1:=r1.length
   have l2:=r2.length
   refine qfi (I.ok.hd hc) D hz hI hO j1 j2 t1 t2 (by rcases hl with h|h;exact .inl (by simp;omega);exact .inr (by simp;omega)) λh' kk=>⟨rfl,?_⟩
   have keep:∀c o,c∉[z,TI,TO,i1,i2]->s.heap.get? c=some o->h'.get? c=some o:=λc o hc e=>by
     simp only[List.mem_cons,List.not_mem_nil,or_false,not_or]at hc
     exact kk c o hc.1 hc.2.2.1 hc.2.2.2.1 hc.2.2.2.2 e
   show Inv X z4 σ H {s with heap:=h',toks:=s.toks}
   refine I.step (g':=s.gens) (d':=s.drawn) (ch:=[z,TI,TO,i1,i2]) (λc hc=>?_) (λc o _ _ hc e _=>keep c o hc e) (λc o _ _ hc e _=>⟨o.slots,keep c o hc e⟩) (λc o _ e n=>n) (λc o hc e=>⟨o,keep c o hc e⟩)
     (λc zs e=>e) (λc o w' e=>e) (λc ps e=>⟨#[],by rw[e];simp⟩) (λm hm=>?_) (λc o e=>?_) I.bare
   · obtain⟨_,f1,f2,f3,f4,f5⟩:=hf c hc
     exact⟨f3,f1,f4,f5⟩
   · obtain⟨o,es,ep,ho,r⟩:=hm
     exact⟨o,es,ep,keep _ o (λq=>(hf _ q).2.1 rfl) ho,r⟩
   · refine(I.hok c o e).stay (λd w' hd q=>keep d w' (λm=>?_) q) (λd q=>q) λd zs q=>q
     have n:=(hf d m).1
     rcases hd with rfl|hd
     · rw[n]at e;cases e
     · rw[n]at hd;cases hd
 self:=λ_ _ _ _ _ st h=>wpAny_pyIter_zip st.1 h
section
variable{X:Cx}{a b:Expr}{ta:TA}{p pos:Pos}{zo:List Expr}{x1:Nat}{tp:Pos}
def iZip(K:PySem.W.Frag)(b1 b2:Bool)(ta:TA):TI:=λσ H R=>ta σ H λvs H1=>∃p1 p2,vs=[.ref p1,.ref p2]/\(∃xs,SqB K b1 H1 p1 xs)/\(∃ys,SqB K b2 H1 p2 ys)/\R (Itz K b1 b2 p1 p2) H1
theorem q8p{K:PySem.W.Frag}(b1 b2:Bool)(hK:X.K=K)(hg:Gl X "zip")(hm:X.mg "zip"=none)(ha:PA X [a,b] ta)(he:starEach [a,b] X.env=(false,eval a X.env)::starEach [b] X.env:=by rfl)(hpl:(backTo pos (starEach [b] X.env)).any (·.1)=false:=by rfl):
   PI X (.Tuple zo x1 tp) (.Call (.Name "zip" p) [a,b] [] pos) (iZip K b1 b2 ta):=by
 subst hK
 intro z4 s σ H R I h
 refine ku (q50 I hg hm (u:=.type "zip") (by rfl) ?_)
 refine PyProof.Rows.callWith_type1 (thn (ha pos z4 s σ H _ I h) λus s1 h1=>?_) he hpl
 obtain⟨vs,H1,I1,r1,p1,p2,rfl,⟨xs,q1⟩,⟨ys,q2⟩,k⟩:=h1
 obtain⟨u,w',rfl,ru,rw'⟩:=vals2 r1
 cases(show u=Value.ref p1 from ru)
 cases(show w'=Value.ref p2 from rw')
 obtain⟨it1,r1,t1,_⟩:=I1.seqB q1
 obtain⟨it2,r2,t2,_⟩:=I1.seqB q2
 have lt:∀{c:Addr} {b:Bool} {zs:Array Value},seqIs b s1.heap c zs->c<s1.heap.objs.size:=λ{c b zs} q=>by
   cases b
   · obtain⟨o,e,_⟩:=(show s1.heap.IsTuple c zs from q);exact j8 e
   · obtain⟨o,e,_⟩:=(show s1.heap.IsList c zs from q);exact j8 e
 refine qeo t1 t2 λh' hz hI hO j1 j2 kk=>wpAny_pyIter_zip hz ?_
 have D:=zipApart_new (lt t1) (lt t2)
 have I2:Inv X z4 σ H1 {s1 with heap:=h',toks:=s1.toks}:=I1.kept kk
 refine⟨_,_,_,_,H1,rfl,I2,qdc b1 b2 D,⟨hz,hI,⟨_,_,hO⟩,j1,j2⟩,λc hc=>?_,k⟩
 have le:s1.heap.objs.size<=c:=by
   simp only[List.mem_cons,List.not_mem_nil,or_false]at hc
   rcases hc with rfl|rfl|rfl|rfl|rfl<;>first|exact jc _|exact Nat.le_add_right _ _
 exact I1.fpOk le (I1.hok.fresh le)
end
theorem all_true:∀n,(List.replicate n true).all id=true
 |0=>rfl
 |n+1=>by rw[List.replicate_succ,List.all_cons,all_true n];rfl
section
variable{X:Cx}
theorem q3i:∀(ns:List Int) (k:Nat),k<=ns.length->preSum (λi=>ns.getD i 0) k=(ns.take k).sum
 |ns,0,_=>by simp[preSum]
 | ns,k+1,h=>by
   have hk:k<ns.length:=h
   rw[preSum,q3i ns k (Nat.le_of_lt hk),List.take_add_one,jw hk,List.sum_append]
   have e:ns.getD k 0=ns[k]:=by rw[kf,jw hk];rfl
   rw[e]
   simp
theorem q17:∀{ns:List Int} {us:List Value} {i:Nat} {v:Value},Vals (ns.map V.int) us->us[i]? =some v->∃t,v=.int (ns.getD i 0) t
 |[],us,i,v,r,e=>by cases r;simp at e
 | n::ns,us,0,v,r,e=>by
   cases r with
   | cons h t=>
     obtain⟨tk,q⟩:=h
     simp at e
     exact⟨tk,by rw[<-e,q];rfl⟩
 | n::ns,us,i+1,v,r,e=>by
   cases r with
   | cons h t=>
     obtain⟨tk,q⟩:=q17 (i:=i) t (by simpa using e)
     exact⟨tk,by rw[q];rfl⟩
theorem qep{K:PySem.W.Frag}(hK:X.K=K)(hc:X.calm=true):q48 X (.builtin "sum") (λxs H Q=>∃(p:Addr) (ns:List Int),xs=[.ref p]/\SqL K H p (ns.map V.int)/\Q (.int ns.sum) H):=by
 subst hK
 intro z4 s σ H xs us Q I r h
 obtain⟨p,ns,rfl,hq,q⟩:=h
 obtain⟨u,rfl,ru⟩:=vals1 r
 cases ru
 obtain⟨its,rv,pl,hz⟩:=I.list hq
 have hh:X.A.in1.handled=none:=I.ok.hd hc
 have hl:=pl.isList
 have hlt:p<s.heap.objs.size:=by obtain⟨_,e,_⟩:=hl;exact j8 e
 refine call_sum_walkG (kc hl ?_)
 refine⟨_,_,_,_,_,_,λi=>ns.getD i 0,rfl,Walks.list hh s.heap.objs.size p (jh hlt) its.toArray,⟨⟨_,je _ rfl,rfl,rfl⟩,hl.push _⟩,λb hb=>?_,λi v hP=>q17 rv (by simpa using hP),λh' tk t' hk=>?_⟩
 · show b<(s.heap.push _).objs.size
   rw[xk]
   rcases List.mem_cons.mp hb with rfl|hb
   · exact Nat.lt_succ_self _
   · rw[List.mem_singleton.mp hb];exact Nat.lt_succ_of_lt hlt
 · have len:its.toArray.size=ns.length:=by have:=rv.length;simp at this;simp;omega
   refine⟨.int ns.sum,H,I.kept (t':=tk) λb o e=>hk b o (λz=>?_) (ja _ e),⟨t',?_⟩,q⟩
   · have:=j8 e
     rw[List.mem_singleton.mp z]at this
     exact x9 _ this
   · rw[len,q3i ns _ (jc _),List.take_length]
end
def Exc(B:Heap)(e:Addr)(cls fl:Value)(h:Heap):Prop:=
 ∃oe vs T oT ts,h.get? e=some oe/\oe.cls=cls/\oe.dict=none/\oe.data=.fields vs/\vs[1]? =some (.ref T)/\B.get? T=none/\T≠e/\h.get? T=some oT/\oT.data=.fields ts/\ts[3]? =some fl
structure FlyD(B:Heap)(l:List Env)(e:Addr)(cls fl:Value)(h:Heap):Prop where
 st:B.StaysIn h
 new:B.get? e=none
 fr:h.FunFrames B l
 ex:Exc B e cls fl h
section
variable{M:Model}{A:Around}{E:Value->Shared->Prop}{s:Shared}{B:Heap}{env:Env}{outer l:List Env}{L e:Addr}{cls fl:Value}{Q:Unit->Shared->Prop}
theorem qml{h:Heap}(hl:h.FunFrames B l){b:Addr}{o:Obj}{vs:Array Value}(ho:h.get? b=some o)(hd:o.data=.fields vs):b∉l.filterMap (·.frame):=λhb=>by
 obtain⟨_,o1,e1,d1⟩:=hl.mem hb
 rw[ho]at e1
 cases e1
 exact d1 vs hd
end
structure Flies(P:Program)(w:World)(l:List Env)(H:Hp)(s:Shared)(cls:Value)(e:Addr)(H':Hp)(s':Shared):Prop where
 os:s'.os=s.os
 bare:AllBare s'.gens
 un:Un (frs l) [] H H' s.heap s'.heap
 hok:HOk P w H' s'.heap
 fly:∃B,FlyD B l e cls .none s'.heap/\∀b o,s'.heap.get? b=some o->b∉frs l->(H' b≠none∨∃o',s.heap.get? b=some o')->B.get? b=some o
theorem ObjOk.there{P:Program}{w:World}{H:Hp}{h:Heap}{a:Addr}{o:HO}(x:ObjOk P w H h a o):∃u,h.get? a=some u:=by
 cases o with
 |lst xs=>obtain⟨_,_,_,_,e⟩:=x;exact⟨_,e⟩
 |tup xs=>obtain⟨_,_,_,ob,e,_⟩:=x;exact⟨_,e⟩
 |dK kvs=>obtain⟨_,_,_,_,o,_,e,_⟩:=x;exact⟨_,e⟩
 |dT kvs=>obtain⟨_,_,_,_,o,_,_,e,_⟩:=x;exact⟨_,e⟩
 |set S n=>obtain⟨o,_,_,_,e,_⟩:=x;exact⟨_,e⟩
 |ins C dx fs=>obtain⟨_,_,_,e,_⟩:=x;exact⟨_,e⟩
 |own y=>exact x
 |xd fs=>obtain⟨_,⟨_,_,_,e,_⟩,_⟩:=x;exact⟨_,e⟩
 |rng lo hi=>obtain⟨_,_,_,e⟩:=x;exact⟨_,e⟩
 |frz ob u=>obtain⟨e,_⟩:=x;exact⟨_,e⟩
 |tbl ps=>exact⟨_,(show h.get? a=some _ from x)⟩
 |lam pos q=>obtain⟨_,e,_⟩:=x;exact⟨_,e⟩
 |met f y=>exact⟨_,(show h.get? a=some _ from x)⟩
 |ext φ=>obtain⟨_,⟨_,e⟩,_⟩:=x;exact⟨_,e⟩
section
variable{X:Cx}{z4:List (Addr×Obj)}{σ:St}{H H':Hp}{s:Shared}
end
section
variable{P:Program}{w:World}{K:PySem.W.Frag}{mg:Str->Option Value}{base:Heap}{N:List Str}{qual:Str}{scope:Scope}{f:Addr}{cd:Value}{A:Around}{outer:List Env}{s₀:Shared}{H₀:Hp}{E:XK}
end
section
variable{X:Cx}{x:Str}{C:Addr}{bmB:List Value}{B newId initId:String}{np zd pos:Pos}{e:Expr}{es:List Expr}{t:TA}{E:XK}
end
def excO(e:Addr)(cls:Value):HO:=.ext λh=>∃oe vs,h.get? e=some oe/\oe.cls=cls/\oe.dict=none/\oe.data=.fields vs
section
variable{X:Cx}{z4:List (Addr×Obj)}{σ:St}{H H':Hp}{s s1:Shared}{e:Addr}{cls fl:Value}
theorem Flies.fresh{l:List Env}{P:Program}{w:World}(F:Flies P w l H s cls e H' s1):s.heap.get? e=none/\H' e=none:=by
 obtain⟨B,fl,cond⟩:=F.fly
 obtain⟨oe,vs,T,oT,ts,he,hc,hdn,hd,_⟩:=fl.ex
 have nf:=qml fl.fr he hd
 have no:¬(H' e≠none∨∃o',s.heap.get? e=some o'):=λz=>by
   have q:=cond e oe he nf z
   rw[fl.new]at q
   cases q
 constructor
 · cases q:s.heap.get? e with
   |none=>rfl
   |some o=>exact absurd (.inr ⟨o,q⟩) no
 · cases q:H' e with
   |none=>rfl
   |some o=>exact absurd (.inl (by rw[q];exact λz=>nomatch z)) no
end
section
variable{X:Cx}{z4:List (Addr×Obj)}{σ:St}{H H':Hp}{s s1:Shared}{e:Addr}{cls c:Value}{i:Nat}{x n:Str}{np pos hpos:Pos}{b₀:Stmt}{suite:List Stmt}{ts:TS}{D:Ends}
end
section
variable{X:Cx}{z4:List (Addr×Obj)}{σ:St}{CX:CXT}{k:Nat}{f:Addr}{fd:FuncData}{ps:List Str}{sp:Sp}{dvs:List V}{ds:List Value}{E:XK}{x:Str}{p pos zd:Pos}{e c:Expr}{es:List Expr}{t:TA}{te:TE}{tc:TT}{st:Stmt}{a b:List Stmt}{ta tb u:TS}
end
section
variable{X:Cx}{c:Value}{i:Nat}{x n:Str}{np pos hpos:Pos}{body:List Stmt}{b₀:Stmt}{suite:List Stmt}{ts:TS}{tb:XK->TS}
end
section
variable{P:Program}{w:World}{K:PySem.W.Frag}{mg:Str->Option Value}{base:Heap}
end
section
variable{prog:Program}{w:World}{A:Around}{E:Value->Shared->Prop}{s:Shared}{K:PySem.W.Frag}{e C:Addr}{oe:Obj}
end
structure ExcK(K:PySem.W.Frag)(C:Addr):Prop where
 cls:PySem.W.isClsIn K C=true
 ty:PySem.W.typeIn K (.ref C)=some (.type "type")
 sf:PySem.W.subIn K (.ref C) (.ref C)=some true
 ga:PySem.W.findIn K (.ref C) "__getattribute__"=some (some (.builtin "BaseException.__getattribute__"))
 gt:PySem.W.findIn K (.ref C) "__getattr__"=some none
 bs:PySem.W.subIn K (.ref C) (.type "BaseException")=some true
 ha:PySem.W.findIn K (.ref C) "__class__"=some (some (.builtin "object.__class__"))
 hn:PySem.W.specialIn K (.builtin "object.__class__") "__get__"=some (some (.builtin "getset_descriptor.__get__"))
 tk:PySem.W.takesIn K (.builtin "object.__class__")=some true
 hm:PySem.W.mroIn K C (.type "object")=some true
section
variable{X:Cx}{z4:List (Addr×Obj)}{σ:St}{H:Hp}{s:Shared}{A:Around}{E:Value->Shared->Prop}{Q:Value->Shared->Prop}{c:Value}{b:Bool}{a C:Addr}
end
inductive D where
 |non
 |bl (b:Bool)
 |int (i:Int)
 |str (x:Str)
 |lst (xs:List D)
 |tup (xs:List D)
 |obj (x:Str) (fs:List (Str×D))
 |dct (kvs:List (Key×D))
 |dit (kvs:List (List Key×D))
 |exc (x:Str)
 |fn (x:Str)
 |tab (P:Addr) (pos:Pos) (q:Str)
mutual
inductive Rp(K:PySem.W.Frag)(R:Hp):V->D->Prop
 |non:Rp K R .non .non
 |bl (b:Bool):Rp K R (.bl b) (.bl b)
 |int (i:Int):Rp K R (.int i) (.int i)
 |str (x:Str):Rp K R (.str x) (.str x)
 |lst {a:Addr} {xs:List V} {ds:List D}:SqL K R a xs->Rps K R xs ds->Rp K R (.ref a) (.lst ds)
 |tup {a:Addr} {xs:List V} {ds:List D}:R a=some (.tup xs)->Rps K R xs ds->Rp K R (.ref a) (.tup ds)
 |obj {a C dx:Addr} {x:Str} {fs:List (Str×V)} {gs:List (Str×D)}:PySem.W.nsIn K mainGlobals x=some (some (.ref C))->R a=some (.ins C dx fs)->Rfs K R fs gs->Rp K R (.ref a) (.obj x gs)
 |dct {a:Addr} {kvs:List (Key×V)} {gs:List (Key×D)}:R a=some (.dK kvs)->Rkk K R kvs gs->Rp K R (.ref a) (.dct gs)
 |dit {a:Addr} {kvs:List (List Key×V)} {gs:List (List Key×D)}:R a=some (.dT kvs)->Rkt K R kvs gs->Rp K R (.ref a) (.dit gs)
 |exc {a C:Addr} {x:Str}:PySem.W.nsIn K mainGlobals x=some (some (.ref C))->ExcK K C->R a=some (excO a (.ref C))->Rp K R (.ref a) (.exc x)
 |fn {l:Addr} {x:Str}:PySem.W.nsIn K mainGlobals x=some (some (.ref l))->Rp K R (.ref l) (.fn x)
 |tab {P:Addr} {pos:Pos} {q:Str}:R P=some (.lam pos q)->Rp K R (.ref P) (.tab P pos q)
inductive Rps(K:PySem.W.Frag)(R:Hp):List V->List D->Prop
 |nil:Rps K R [] []
 |cons {x:V} {xs:List V} {d:D} {ds:List D}:Rp K R x d->Rps K R xs ds->Rps K R (x::xs) (d::ds)
inductive Rfs(K:PySem.W.Frag)(R:Hp):List (Str×V)->List (Str×D)->Prop
 |nil:Rfs K R [] []
 |cons {f:Str} {x:V} {xs:List (Str×V)} {d:D} {ds:List (Str×D)}:Rp K R x d->Rfs K R xs ds->Rfs K R ((f,x)::xs) ((f,d)::ds)
inductive Rkk(K:PySem.W.Frag)(R:Hp):List (Key×V)->List (Key×D)->Prop
 |nil:Rkk K R [] []
 |cons {f:Key} {x:V} {xs:List (Key×V)} {d:D} {ds:List (Key×D)}:Rp K R x d->Rkk K R xs ds->Rkk K R ((f,x)::xs) ((f,d)::ds)
inductive Rkt(K:PySem.W.Frag)(R:Hp):List (List Key×V)->List (List Key×D)->Prop
 |nil:Rkt K R [] []
 |cons {f:List Key} {x:V} {xs:List (List Key×V)} {d:D} {ds:List (List Key×D)}:Rp K R x d->Rkt K R xs ds->Rkt K R ((f,x)::xs) ((f,d)::ds)
end
section
variable{K:PySem.W.Frag}{R:Hp}
theorem Rp.isI{x:V}{i:Int}(h:Rp K R x (.int i)):x=.int i:=by cases h;rfl
theorem Rp.isS{x:V}{i:Str}(h:Rp K R x (.str i)):x=.str i:=by cases h;rfl
theorem Rp.isB{x:V}{i:Bool}(h:Rp K R x (.bl i)):x=.bl i:=by cases h;rfl
theorem Rp.isN{x:V}(h:Rp K R x .non):x=.non:=by cases h;rfl
def qmq:D->Option V
 |.int i=>some (.int i)
 |.str i=>some (.str i)
 |.bl i=>some (.bl i)
 |.non=>some .non
 |_=>none
theorem Rp.isA{x v:V}:{d:D}->Rp K R x d->qmq d=some v->x=v
 |.int _,h,e=>h.isI.trans (jb e)
 |.str _,h,e=>h.isS.trans (jb e)
 |.bl _,h,e=>h.isB.trans (jb e)
 |.non,h,e=>h.isN.trans (jb e)
theorem Rp.isL{x:V}{ds:List D}(h:Rp K R x (.lst ds)):∃a xs,x=.ref a/\SqL K R a xs/\Rps K R xs ds:=by
 cases h with
 |@lst a xs ds h r=>exact⟨a,xs,rfl,h,r⟩
theorem Rp.isT{x:V}{ds:List D}(h:Rp K R x (.tup ds)):∃a xs,x=.ref a/\R a=some (.tup xs)/\Rps K R xs ds:=by
 cases h with
 |@tup a xs ds h r=>exact⟨a,xs,rfl,h,r⟩
theorem Rps.isC{xs:List V}{d:D}{ds:List D}(h:Rps K R xs (d::ds)):∃x ys,xs=x::ys/\Rp K R x d/\Rps K R ys ds:=by
 cases h with
 |@cons x ys d ds h r=>exact⟨x,ys,rfl,h,r⟩
end
abbrev Rho:=List (Option D)
abbrev RhL:=Rho->Option (List D×Rho)
abbrev RhD:=Rho->Option (D×Rho)
abbrev RhB:=Rho->Option (Bool×Rho)
abbrev RhG:=D->Rho->Option Rho
theorem Same.sqL{K:PySem.W.Frag}{H H':Hp}{a:Addr}{xs:List V}(e:Same H H')(h:SqL K H a xs):SqL K H' a xs:=by
 rcases h with(h|⟨o,h⟩)|h
 · exact .inl (.inl (e _ _ h))
 · exact .inl (.inr ⟨o,e _ _ h⟩)
 · exact .inr h
section
variable{K:PySem.W.Frag}{R R':Hp}
theorem Rp.mono(s:Same R R'){v:V}{d:D}(h:Rp K R v d):Rp K R' v d:=
 Rp.rec (motive_1:=λv d _=>Rp K R' v d) (motive_2:=λxs ds _=>Rps K R' xs ds) (motive_3:=λxs ds _=>Rfs K R' xs ds) (motive_4:=λxs ds _=>Rkk K R' xs ds) (motive_5:=λxs ds _=>Rkt K R' xs ds)
   .non .bl .int .str (λh _ r=>.lst (s.sqL h) r) (λh _ r=>.tup (s _ _ h) r) (λn h _ r=>.obj n (s _ _ h) r) (λh _ r=>.dct (s _ _ h) r) (λh _ r=>.dit (s _ _ h) r) (λn k h=>.exc n k (s _ _ h)) (λn=>.fn n) (λh=>.tab (s _ _ h))
   .nil (λ_ _ h r=>.cons h r) .nil (λ_ _ h r=>.cons h r) .nil (λ_ _ h r=>.cons h r) .nil (λ_ _ h r=>.cons h r) h
theorem Rps.mono(s:Same R R'){xs:List V}{ds:List D}(h:Rps K R xs ds):Rps K R' xs ds:=
 Rps.rec (motive_1:=λv d _=>Rp K R' v d) (motive_2:=λxs ds _=>Rps K R' xs ds) (motive_3:=λxs ds _=>Rfs K R' xs ds) (motive_4:=λxs ds _=>Rkk K R' xs ds) (motive_5:=λxs ds _=>Rkt K R' xs ds)
   .non .bl .int .str (λh _ r=>.lst (s.sqL h) r) (λh _ r=>.tup (s _ _ h) r) (λn h _ r=>.obj n (s _ _ h) r) (λh _ r=>.dct (s _ _ h) r) (λh _ r=>.dit (s _ _ h) r) (λn k h=>.exc n k (s _ _ h)) (λn=>.fn n) (λh=>.tab (s _ _ h))
   .nil (λ_ _ h r=>.cons h r) .nil (λ_ _ h r=>.cons h r) .nil (λ_ _ h r=>.cons h r) .nil (λ_ _ h r=>.cons h r) h
theorem Rfs.mono(s:Same R R'){xs:List (Str×V)}{ds:List (Str×D)}(h:Rfs K R xs ds):Rfs K R' xs ds:=
 Rfs.rec (motive_1:=λv d _=>Rp K R' v d) (motive_2:=λxs ds _=>Rps K R' xs ds) (motive_3:=λxs ds _=>Rfs K R' xs ds) (motive_4:=λxs ds _=>Rkk K R' xs ds) (motive_5:=λxs ds _=>Rkt K R' xs ds)
   .non .bl .int .str (λh _ r=>.lst (s.sqL h) r) (λh _ r=>.tup (s _ _ h) r) (λn h _ r=>.obj n (s _ _ h) r) (λh _ r=>.dct (s _ _ h) r) (λh _ r=>.dit (s _ _ h) r) (λn k h=>.exc n k (s _ _ h)) (λn=>.fn n) (λh=>.tab (s _ _ h))
   .nil (λ_ _ h r=>.cons h r) .nil (λ_ _ h r=>.cons h r) .nil (λ_ _ h r=>.cons h r) .nil (λ_ _ h r=>.cons h r) h
theorem Rkk.mono(s:Same R R'){xs:List (Key×V)}{ds:List (Key×D)}(h:Rkk K R xs ds):Rkk K R' xs ds:=
 Rkk.rec (motive_1:=λv d _=>Rp K R' v d) (motive_2:=λxs ds _=>Rps K R' xs ds) (motive_3:=λxs ds _=>Rfs K R' xs ds) (motive_4:=λxs ds _=>Rkk K R' xs ds) (motive_5:=λxs ds _=>Rkt K R' xs ds)
   .non .bl .int .str (λh _ r=>.lst (s.sqL h) r) (λh _ r=>.tup (s _ _ h) r) (λn h _ r=>.obj n (s _ _ h) r) (λh _ r=>.dct (s _ _ h) r) (λh _ r=>.dit (s _ _ h) r) (λn k h=>.exc n k (s _ _ h)) (λn=>.fn n) (λh=>.tab (s _ _ h))
   .nil (λ_ _ h r=>.cons h r) .nil (λ_ _ h r=>.cons h r) .nil (λ_ _ h r=>.cons h r) .nil (λ_ _ h r=>.cons h r) h
theorem Rkt.mono(s:Same R R'){xs:List (List Key×V)}{ds:List (List Key×D)}(h:Rkt K R xs ds):Rkt K R' xs ds:=
 Rkt.rec (motive_1:=λv d _=>Rp K R' v d) (motive_2:=λxs ds _=>Rps K R' xs ds) (motive_3:=λxs ds _=>Rfs K R' xs ds) (motive_4:=λxs ds _=>Rkk K R' xs ds) (motive_5:=λxs ds _=>Rkt K R' xs ds)
   .non .bl .int .str (λh _ r=>.lst (s.sqL h) r) (λh _ r=>.tup (s _ _ h) r) (λn h _ r=>.obj n (s _ _ h) r) (λh _ r=>.dct (s _ _ h) r) (λh _ r=>.dit (s _ _ h) r) (λn k h=>.exc n k (s _ _ h)) (λn=>.fn n) (λh=>.tab (s _ _ h))
   .nil (λ_ _ h r=>.cons h r) .nil (λ_ _ h r=>.cons h r) .nil (λ_ _ h r=>.cons h r) .nil (λ_ _ h r=>.cons h r) h
theorem Rps.length:∀{xs:List V} {ds:List D},Rps K R xs ds->xs.length=ds.length
 |_,_,.nil=>rfl
 |_,_,.cons _ r=>by rw[jk,jk,Rps.length r]
theorem Rps.get:∀{xs:List V} {ds:List D} {i:Nat} {d:D},Rps K R xs ds->ds[i]? =some d->∃v,xs[i]? =some v/\Rp K R v d
 |_,_,_,_,.nil,e=>by simp at e
 |_,_,0,_,.cons h _,e=>by simp at e;subst e;exact⟨_,rfl,h⟩
 | _,_,i+1,d,.cons _ r,e=>by
   obtain⟨v,h1,h2⟩:=Rps.get (i:=i) (d:=d) r (by simpa using e)
   exact⟨v,by simpa using h1,h2⟩
theorem Rps.append:∀{xs ys:List V} {ds es:List D},Rps K R xs ds->Rps K R ys es->Rps K R (xs++ys) (ds++es)
 |_,_,_,_,.nil,s=>s
 |_,_,_,_,.cons r t,s=>.cons r (Rps.append t s)
theorem Rps.take:∀{xs:List V} {ds:List D} (n:Nat),Rps K R xs ds->Rps K R (xs.take n) (ds.take n)
 |_,_,0,_=>.nil
 |_,_,_+1,.nil=>.nil
 |_,_,n+1,.cons r t=>.cons r (Rps.take n t)
theorem Rps.drop:∀{xs:List V} {ds:List D} (n:Nat),Rps K R xs ds->Rps K R (xs.drop n) (ds.drop n)
 |_,_,0,r=>r
 |_,_,_+1,.nil=>.nil
 |_,_,n+1,.cons _ t=>Rps.drop n t
theorem Rps.set{x:V}{d:D}(r:Rp K R x d):∀{xs:List V} {ds:List D} (i:Nat),Rps K R xs ds->Rps K R (xs.set i x) (ds.set i d)
 |_,_,_,.nil=>.nil
 |_,_,0,.cons _ t=>.cons r t
 |_,_,i+1,.cons q t=>.cons q (Rps.set r i t)
theorem Rps.one{x:V}{d:D}(r:Rp K R x d):Rps K R [x] [d]:=.cons r .nil
theorem Rps.ints:∀ns:List Int,Rps K R (ns.map V.int) (ns.map D.int)
 |[]=>.nil
 |n::ns=>.cons (.int n) (Rps.ints ns)
theorem Rps.snoc{xs:List V}{ds:List D}{x:V}{d:D}(h:Rps K R xs ds)(r:Rp K R x d):Rps K R (xs++[x]) (ds++[d]):=h.append (.one r)
end
inductive Sc:V->D->Prop
 |non:Sc .non .non
 |bl (b:Bool):Sc (.bl b) (.bl b)
 |int (i:Int):Sc (.int i) (.int i)
 |str (x:Str):Sc (.str x) (.str x)
theorem Sc.rp{K:PySem.W.Frag}{R:Hp}{v:V}{d:D}(h:Sc v d):Rp K R v d:=by
 cases h with
 |non=>exact .non
 |bl b=>exact .bl b
 |int i=>exact .int i
 |str x=>exact .str x
def Frh(H:Hp)(a:Addr):Prop:=H a=none∨∃xs,H a=some (.tup xs)
def Liv(H H':Hp)(a:Addr):Prop:=H' a≠none/\∀xs,H' a=some (.tup xs)->H a=some (.tup xs)
theorem Liv.refl{H:Hp}{a:Addr}(h:H a≠none):Liv H H a:=⟨h,λ_ e=>e⟩
theorem Liv.trans{H H1 H2:Hp}{a:Addr}(x:Liv H H1 a)(y:Liv H1 H2 a):Liv H H2 a:=⟨y.1,λxs e=>x.2 xs (y.2 xs e)⟩
theorem Frh.back{H H1:Hp}{a:Addr}(h:H a≠none->Liv H H1 a)(z:Frh H1 a):Frh H a:=by
 cases q:H a with
 |none=>exact .inl q
 | some o=>
   have v:=h (by rw[q];exact λz=>nomatch z)
   rcases z with z|⟨xs,z⟩
   · exact absurd z v.1
   · exact .inr ⟨xs,v.2 xs z⟩
structure Ext(H R H' R':Hp):Prop where
 h:Same H H'
 r:Same R R'
 s:∀a o,R' a=some o->H' a=some o
 n:∀a,R' a≠none->R a≠none∨Frh H a
theorem Ext.refl{H R:Hp}(s:∀a o,R a=some o->H a=some o):Ext H R H R:=⟨Same.refl _,Same.refl _,s,λ_ h=>.inl h⟩
theorem Same.some{H H':Hp}(s:Same H H'){a:Addr}(h:H a≠none):H' a≠none:=by
 cases q:H a with
 |none=>exact absurd q h
 |some o=>rw[s a o q];exact λz=>nomatch z
theorem Same.liv{H H':Hp}(s:Same H H'){a:Addr}(h:H a≠none):Liv H H' a:=⟨s.some h,λxs e=>by
 cases q:H a with
 |none=>exact absurd q h
 |some o=>rw[s a o q]at e;exact e⟩
theorem Ext.trans{H R H1 R1 H2 R2:Hp}(x:Ext H R H1 R1)(y:Ext H1 R1 H2 R2):Ext H R H2 R2:=by
 refine⟨x.h.trans y.h,x.r.trans y.r,y.s,λa h=>?_⟩
 rcases y.n a h with z|z
 · exact x.n a z
 · exact .inr (z.back x.h.liv)
theorem Ext.new{H R:Hp}{a:Addr}{o:HO}(s:∀a o,R a=some o->H a=some o)(h:H a=none):Ext H R (upd H a o) (upd R a o):=by
 have hr:R a=none:=by
   cases q:R a with
   |none=>rfl
   |some u=>rw[s a u q]at h;cases h
 refine⟨Same.new h,Same.new hr,λb u e=>?_,λb e=>?_⟩
 · by_cases hb:b=a
   · subst hb;rw[q0a]at e ⊢;exact e
   · rw[q05 hb]at e ⊢;exact s b u e
 · by_cases hb:b=a
   · subst hb;exact .inr (.inl h)
   · rw[q05 hb]at e;exact .inl e
theorem Ext.hid{H R:Hp}{a:Addr}{o:HO}(s:∀a o,R a=some o->H a=some o)(h:H a=none):Ext H R (upd H a o) R:=
 ⟨Same.new h,Same.refl _,λb u e=>Same.new h _ _ (s b u e),λ_ e=>.inl e⟩
theorem Ext.know{H R H' R':Hp}{l:Addr}{o:HO}(x:Ext H R H' R')(h:H l=none)(h':H' l=some o)(hr:R' l=none):Ext H R H' (upd R' l o):=by
 refine⟨x.h,x.r.trans (Same.new hr),λb u e=>?_,λb e=>?_⟩
 · by_cases hb:b=l
   · subst hb;rw[q0a]at e;rw[h',e]
   · rw[q05 hb]at e;exact x.s b u e
 · by_cases hb:b=l
   · subst hb;exact .inr (.inl h)
   · rw[q05 hb]at e;exact x.n b e
structure Anc where
 H0:Hp
 R0:Hp
 L:Addr->Prop
 P:List Nat
inductive Ob(K:PySem.W.Frag)(R:Hp):HO->D->Prop
 |lst {vs:List V} {ds:List D}:Rps K R vs ds->Ob K R (.lst vs) (.lst ds)
 |dct {kvs:List (Key×V)} {gs:List (Key×D)}:Rkk K R kvs gs->Ob K R (.dK kvs) (.dct gs)
 |dit {kvs:List (List Key×V)} {gs:List (List Key×D)}:Rkt K R kvs gs->Ob K R (.dT kvs) (.dit gs)
theorem Ob.isL{K:PySem.W.Frag}{R:Hp}{o:HO}{ds:List D}(h:Ob K R o (.lst ds)):∃vs,o=.lst vs/\Rps K R vs ds:=by
 cases h with
 |lst r=>exact⟨_,rfl,r⟩
theorem Ob.mono{K:PySem.W.Frag}{R R':Hp}{o:HO}{d:D}(s:Same R R')(h:Ob K R o d):Ob K R' o d:=by
 cases h with
 |lst r=>exact .lst (r.mono s)
 |dct r=>exact .dct (r.mono s)
 |dit r=>exact .dit (r.mono s)
theorem Ob.noF{K:PySem.W.Frag}{H R:Hp}{o:HO}{d:D}{l:Addr}(h:Ob K R o d)(e:H l=some o)(z:Frh H l):False:=by
 rcases z with z|⟨xs,z⟩
 · rw[e]at z;cases z
 · rw[e]at z;cases z;cases h
theorem Ob.rp{K:PySem.W.Frag}{R:Hp}{o:HO}{d:D}{l:Addr}(h:Ob K R o d)(e:R l=some o):Rp K R (.ref l) d:=by
 cases h with
 |lst r=>exact .lst (SqL.of e) r
 |dct r=>exact .dct e r
 |dit r=>exact .dit e r
structure StR(K:PySem.W.Frag)(Z:Anc)(O:List Nat)(σ:St)(H R:Hp)(ρ:Rho):Prop where
 sub:∀a o,R a=some o->H a=some o
 len:σ.length=ρ.length
 env:∀i d,i∉O->ρ[i]? =some (some d)->∃v,σ[i]? =some (some v)/\Rp K R v d
 own:∀i,i∈O->∃l vs ds,ρ[i]? =some (some ds)/\σ[i]? =some (some (.ref l))/\H l=some vs/\R l=none/\Ob K R vs ds
 dis:∀i j,i∈O->j∈O->i≠j->∀l,σ[i]? =some (some (.ref l))->σ[j]? ≠some (some (.ref l))
 ah:∀a o,Z.H0 a=some o->¬Z.L a->H a=some o
 ar:Same Z.R0 R
 an:∀a,R a≠none->Z.R0 a≠none∨Frh Z.H0 a
 ad:∀a,Z.H0 a≠none->Liv Z.H0 H a
 ao:∀i,i∈O->i∉Z.P->∀l,σ[i]? =some (some (.ref l))->Z.H0 l=none
 ap:∀i,i∈O->i∈Z.P->∀l,σ[i]? =some (some (.ref l))->Z.L l
structure Stp(O:List Nat)(σ:St)(H R H' R':Hp):Prop where
 r:Same R R'
 h:∀a o,H a=some o->(∀i,i∈O->σ[i]? ≠some (some (.ref a)))->H' a=some o
 n:∀a,R' a≠none->R a≠none∨Frh H a
 d:∀a,H a≠none->Liv H H' a
theorem Stp.refl(O:List Nat)(σ:St)(H R:Hp):Stp O σ H R H R:=⟨Same.refl _,λ_ _ e _=>e,λ_ h=>.inl h,λ_ h=>.refl h⟩
theorem Stp.trans{O:List Nat}{σ:St}{H R H1 R1 H2 R2:Hp}(x:Stp O σ H R H1 R1)(y:Stp O σ H1 R1 H2 R2):Stp O σ H R H2 R2:=by
 refine⟨x.r.trans y.r,λa o e n=>y.h a o (x.h a o e n) n,λa h=>?_,λa h=>(x.d a h).trans (y.d a (x.d a h).1)⟩
 rcases y.n a h with z|z
 · exact x.n a z
 · exact .inr (z.back (x.d a))
theorem Ext.stp{O:List Nat}{σ:St}{H R H' R':Hp}(x:Ext H R H' R'):Stp O σ H R H' R':=⟨x.r,λa o e _=>x.h a o e,x.n,λ_ h=>x.h.liv h⟩
section
variable{K:PySem.W.Frag}{Z:Anc}{O O':List Nat}{σ σ':St}{H R H' R':Hp}{ρ ρ':Rho}
theorem StR.ext(S:StR K Z O σ H R ρ)(x:Ext H R H' R'):StR K Z O σ H' R' ρ:=by
 refine⟨x.s,S.len,λi d hi e=>?_,λi hi=>?_,S.dis,λa o e n=>x.h a o (S.ah a o e n),S.ar.trans x.r,λa h=>?_,λa h=>(S.ad a h).trans (x.h.liv (S.ad a h).1),S.ao,S.ap⟩
 · obtain⟨v,h1,h2⟩:=S.env i d hi e
   exact⟨v,h1,h2.mono x.r⟩
 · obtain⟨l,vs,ds,h1,h2,h3,h4,h5⟩:=S.own i hi
   refine⟨l,vs,ds,h1,h2,x.h _ _ h3,?_,h5.mono x.r⟩
   cases q:R' l with
   |none=>rfl
   | some o=>
     rcases x.n l (by rw[q];exact λz=>nomatch z)with z|z
     · exact absurd h4 z
     · exact(h5.noF h3 z).elim
 · rcases x.n a h with z|z
   · exact S.an a z
   · exact .inr (z.back (S.ad a))
noncomputable def frzR(O O':List Nat)(σ:St)(H R:Hp):Hp:=λa=>open Classical in if∃i,i∈O/\i∉O'/\σ[i]? =some (some (.ref a))then H a else R a
theorem StR.freeze(S:StR K Z O σ H R ρ)(hs:∀i,i∈O'->i∈O)(hp:∀i,i∈Z.P->i∈O->i∈O'):StR K Z O' σ H (frzR O O' σ H R) ρ/\Same R (frzR O O' σ H R):=by
 have same:Same R (frzR O O' σ H R):=λa o e=>by
   unfold frzR
   split
   · exact S.sub a o e
   · exact e
 refine⟨⟨λa o e=>?_,S.len,λi d hi e=>?_,λi hi=>?_,λi j hi hj=>S.dis i j (hs i hi) (hs j hj),S.ah,S.ar.trans same,λa h=>?_,S.ad,λi hi=>S.ao i (hs i hi),λi hi=>S.ap i (hs i hi)⟩,same⟩
 · unfold frzR at e
   split at e
   · exact e
   · exact S.sub a o e
 · by_cases hO:i∈O
   · obtain⟨l,vs,ds,h1,h2,h3,h4,h5⟩:=S.own i hO
     rw[e]at h1
     have ed:d=ds:=jb (jb h1)
     subst ed
     refine⟨.ref l,h2,(h5.mono same).rp ?_⟩
     unfold frzR
     rw[if_pos ⟨i,hO,hi,h2⟩]
     exact h3
   · obtain⟨v,h1,h2⟩:=S.env i d hO e
     exact⟨v,h1,h2.mono same⟩
 · obtain⟨l,vs,ds,h1,h2,h3,h4,h5⟩:=S.own i (hs i hi)
   refine⟨l,vs,ds,h1,h2,h3,?_,h5.mono same⟩
   unfold frzR
   rw[if_neg ?_]
   · exact h4
   · rintro⟨j,hj,hj',e⟩
     exact S.dis j i hj (hs i hi) (λz=>hj' (z▸hi)) l e h2
 · unfold frzR at h
   split at h
   · rename_i z
     obtain⟨j,hj,hj',e⟩:=z
     exact .inr (.inl (S.ao j hj (λz=>hj' (hp j z hj)) a e))
   · exact S.an a h
theorem StR.set(S:StR K Z O σ H R ρ){i:Nat}{v:V}{d:D}(hi:i∉O)(r:Rp K R v d):StR K Z O (σ.set i (some v)) H R (ρ.set i (some d)):=by
 have ne:∀j,j∈O->i≠j:=λj hj z=>hi (z▸hj)
 refine⟨S.sub,by rw[x4,x4];exact S.len,λj e hj q=>?_,λj hj=>?_,λj k hj hk n l e=>?_,S.ah,S.ar,S.an,S.ad,λj hj hp l e=>?_,λj hj hp l e=>?_⟩
 · by_cases hij:i=j
   · subst hij
     have hl:i<ρ.length:=by
       have:=(List.getElem?_eq_some_iff.mp q).1
       rwa [x4]at this
     rw[jv hl]at q
     have e':d=e:=jb (jb q)
     subst e'
     exact⟨v,by rw[jv (by rw[S.len];exact hl)],r⟩
   · rw[jd hij]at q
     obtain⟨w,h1,h2⟩:=S.env j e hj q
     exact⟨w,by rw[jd hij];exact h1,h2⟩
 · obtain⟨l,vs,ds,h1,h2,h3,h4,h5⟩:=S.own j hj
   exact⟨l,vs,ds,by rw[jd (ne j hj)];exact h1,by rw[jd (ne j hj)];exact h2,h3,h4,h5⟩
 · rw[jd (ne j hj)]at e
   rw[jd (ne k hk)]
   exact S.dis j k hj hk n l e
 · rw[jd (ne j hj)]at e
   exact S.ao j hj hp l e
 · rw[jd (ne j hj)]at e
   exact S.ap j hj hp l e
theorem StR.write(S:StR K Z O σ H R ρ){i:Nat}{l:Addr}{vs:HO}{ds:D}(hi:i∈O)(hl:σ[i]? =some (some (.ref l)))(r:Ob K R vs ds):StR K Z O σ (upd H l vs) R (ρ.set i (some ds)):=by
 obtain⟨l0,vs0,ds0,h1,h2,h3,h4,h5⟩:=S.own i hi
 rw[hl]at h2
 cases h2
 have other:∀j,j∈O->i≠j->∀k,σ[j]? =some (some (.ref k))->k≠l:=λj hj n k e z=>by
   subst z
   exact S.dis i j hi hj n k hl e
 refine⟨λa o e=>?_,by rw[x4];exact S.len,λj d hj q=>?_,λj hj=>?_,S.dis,λa o e n=>?_,S.ar,S.an,λa h=>?_,S.ao,S.ap⟩
 · have ne:a≠l:=λz=>by subst z;rw[h4]at e;cases e
   rw[q05 ne];exact S.sub a o e
 · have n:i≠j:=λz=>hj (z▸hi)
   rw[jd n]at q
   exact S.env j d hj q
 · by_cases n:i=j
   · subst n
     have z5:i<ρ.length:=(List.getElem?_eq_some_iff.mp h1).1
     exact⟨l,vs,ds,by rw[jv z5],hl,q0a,h4,r⟩
   · obtain⟨k,vs',ds',g1,g2,g3,g4,g5⟩:=S.own j hj
     exact⟨k,vs',ds',by rw[jd n];exact g1,g2,by rw[q05 (other j hj n k g2)];exact g3,g4,g5⟩
 · have ne:a≠l:=λz=>by
     subst z
     by_cases hp:i∈Z.P
     · exact n (S.ap i hi hp a hl)
     · rw[S.ao i hi hp a hl]at e;cases e
   rw[q05 ne];exact S.ah a o e n
 · by_cases ha:a=l
   · subst ha;exact⟨by rw[q0a];exact(λz=>(nomatch z)),λxs e=>by rw[q0a]at e;cases e;cases r⟩
   · exact⟨by rw[q05 ha];exact(S.ad a h).1,λxs e=>by rw[q05 ha]at e;exact(S.ad a h).2 xs e⟩
theorem StR.take(S:StR K Z O σ H R ρ){i:Nat}{l:Addr}{vs:HO}{ds:D}(hi:i∉O)(hin:i∈O')(hO:∀j,j∈O'->j=i∨j∈O)(hp:i∉Z.P)(z5:i<ρ.length)(h0:Z.H0 l=none)(hH:H l=some vs)(hR:R l=none)(hn:∀j,j∈O->σ[j]? ≠some (some (.ref l)))(hs:∀j,j∈O->j∈O')(r:Ob K R vs ds):
   StR K Z O' (σ.set i (some (.ref l))) H R (ρ.set i (some ds)):=by
 have ne:∀j,j∈O->i≠j:=λj hj z=>hi (z▸hj)
 have hl:i<σ.length:=by rw[S.len];exact z5
 refine⟨S.sub,by rw[x4,x4];exact S.len,λj e hj q=>?_,λj hj=>?_,λj k hj hk n m e=>?_,S.ah,S.ar,S.an,S.ad,λj hj hp l e=>?_,λj hj hp' l e=>?_⟩
 · by_cases hij:i=j
   · subst hij
     rw[jv z5]at q
     have e':ds=e:=jb (jb q)
     subst e'
     exact absurd hin hj
   · rw[jd hij]at q
     obtain⟨w,h1,h2⟩:=S.env j e (λz=>hj (hs j z)) q
     exact⟨w,by rw[jd hij];exact h1,h2⟩
 · rcases hO j hj with rfl|hj'
   · exact⟨l,vs,ds,by rw[jv z5],by rw[jv hl],hH,hR,r⟩
   · obtain⟨k,vs',ds',g1,g2,g3,g4,g5⟩:=S.own j hj'
     exact⟨k,vs',ds',by rw[jd (ne j hj')];exact g1,by rw[jd (ne j hj')];exact g2,g3,g4,g5⟩
 · rcases hO j hj with rfl|hj'
   · rw[jv hl]at e
     cases e
     rcases hO k hk with rfl|hk'
     · exact absurd rfl n
     · rw[jd (ne k hk')]
       exact hn k hk'
   · rw[jd (ne j hj')]at e
     rcases hO k hk with rfl|hk'
     · rw[jv hl]
       intro z
       cases z
       exact hn j hj' e
     · rw[jd (ne k hk')]
       exact S.dis j k hj' hk' n m e
 · rcases hO j hj with rfl|hj'
   · rw[jv hl]at e
     cases e
     exact h0
   · rw[jd (ne j hj')]at e
     exact S.ao j hj' hp l e
 · rcases hO j hj with rfl|hj'
   · exact absurd hp' hp
   · rw[jd (ne j hj')]at e
     exact S.ap j hj' hp' l e
end
def q14{α β:Type}(a:Rho->Option (α×Rho))(k:α->Rho->Option (β×Rho)):Rho->Option (β×Rho):=λρ=>match a ρ with
 |none=>none
 |some (x,ρ1)=>k x ρ1
def mRet{α:Type}(x:α):Rho->Option (α×Rho):=λρ=>some (x,ρ)
def q1u{α:Type}(o:Option α):Rho->Option (α×Rho):=λρ=>match o with
 |none=>none
 |some x=>some (x,ρ)
theorem q08{α β:Type}{a:Rho->Option (α×Rho)}{k:α->Rho->Option (β×Rho)}{ρ:Rho}{r:β×Rho}(h:q14 a k ρ=some r):∃x ρ1,a ρ=some (x,ρ1)/\k x ρ1=some r:=by
 unfold q14 at h
 cases e:a ρ with
 |none=>rw[e]at h;cases h
 |some p=>rw[e]at h;exact⟨p.1,p.2,rfl,h⟩
theorem q0d{α:Type}{o:Option α}{ρ:Rho}{x:α}{ρ':Rho}(h:q1u o ρ=some (x,ρ')):o=some x/\ρ'=ρ:=by
 unfold q1u at h
 cases o with
 |none=>cases h
 |some y=>cases h;exact⟨rfl,rfl⟩
def mVar(i:Nat):RhD:=λρ=>match ρ[i]? with
 |some (some d)=>some (d,ρ)
 |_=>none
theorem q4z{i:Nat}{ρ ρ':Rho}{d:D}(h:mVar i ρ=some (d,ρ')):ρ[i]? =some (some d)/\ρ'=ρ:=by
 unfold mVar at h
 cases e:ρ[i]? with
 |none=>rw[e]at h;cases h
 | some o=>
   rw[e]at h
   cases o with
   |none=>cases h
   |some y=>cases h;exact⟨rfl,rfl⟩
section
variable(K:PySem.W.Frag)(O:List Nat)
def ME(t:TE)(f:RhD):Prop:=∀(Z:Anc) (σ:St) (H R:Hp) (ρ:Rho) (d:D) (ρ':Rho) (Q:VK),StR K Z O σ H R ρ->f ρ=some (d,ρ')->(∀v H' R',StR K Z O σ H' R' ρ'->Stp O σ H R H' R'->Rp K R' v d->Q v H')->t σ H Q
def MB(t:TE)(f:RhD):Prop:=∀(Z:Anc) (σ:St) (H R:Hp) (ρ:Rho) (d:D) (ρ':Rho) (Q:VK),StR K Z O σ H R ρ->f ρ=some (d,ρ')->(∀v H' R',StR K Z O σ H' R' ρ'->Stp O σ H R H' R'->Rp K H' v d->Q v H')->t σ H Q
def MT(t:TT)(f:RhB):Prop:=∀(Z:Anc) (σ:St) (H R:Hp) (ρ:Rho) (b:Bool) (ρ':Rho) (Q:Bool->Hp->Prop),StR K Z O σ H R ρ->f ρ=some (b,ρ')->(∀H' R',StR K Z O σ H' R' ρ'->Stp O σ H R H' R'->Q b H')->t σ H Q
def MA(t:TA)(f:RhL):Prop:=∀(Z:Anc) (σ:St) (H R:Hp) (ρ:Rho) (ds:List D) (ρ':Rho) (Q:List V->Hp->Prop),StR K Z O σ H R ρ->f ρ=some (ds,ρ')->(∀vs H' R',StR K Z O σ H' R' ρ'->Stp O σ H R H' R'->Rps K R' vs ds->Q vs H')->t σ H Q
def MN(t:TE)(f:RhL):Prop:=∀(Z:Anc) (σ:St) (H R:Hp) (ρ:Rho) (ds:List D) (ρ':Rho) (Q:VK),StR K Z O σ H R ρ->f ρ=some (ds,ρ')->(∀l vs H' R',StR K Z O σ H' R' ρ'->Stp O σ H R H' R'->H l=none->H' l=some (.lst vs)->R' l=none->Rps K R' vs ds->Q (.ref l) H')->t σ H Q
end
section
variable{K:PySem.W.Frag}{Z:Anc}{O:List Nat}{t ta tb tc:TE}{tA tB':TT}{tr:TA}
theorem StR.same{σ:St}{H R:Hp}{ρ:Rho}(S:StR K Z O σ H R ρ):Same R H:=S.sub
theorem ME.mb{f:RhD}(h:ME K O t f):MB K O t f:=λZ σ H R ρ d ρ' Q S e k=>h Z σ H R ρ d ρ' Q S e λv H' R' S' st r=>k v H' R' S' st (r.mono S'.same)
theorem StR.notnew{σ:St}{H R:Hp}{ρ:Rho}(S:StR K Z O σ H R ρ){l:Addr}(h:H l=none):∀j,j∈O->σ[j]? ≠some (some (.ref l)):=λj hj e=>by
 obtain⟨k,vs,ds,_,h2,h3,_⟩:=S.own j hj
 rw[e]at h2
 (first|obtain rfl:=h2.isA rfl|cases h2)
 rw[h]at h3
 (first|obtain rfl:=h3.isA rfl|cases h3)
theorem StR.know{σ:St}{H R:Hp}{ρ:Rho}{l:Addr}{vs:HO}(S:StR K Z O σ H R ρ)(h0:Z.H0 l=none)(hH:H l=some vs)(hR:R l=none)(hn:∀j,j∈O->σ[j]? ≠some (some (.ref l))):StR K Z O σ H (upd R l vs) ρ:=by
 have same:Same R (upd R l vs):=Same.new hR
 refine⟨λa o e=>?_,S.len,λi d hi e=>?_,λi hi=>?_,S.dis,S.ah,S.ar.trans same,λa h=>?_,S.ad,S.ao,S.ap⟩
 · by_cases ha:a=l
   · subst ha;rw[q0a]at e;rw[hH,e]
   · rw[q05 ha]at e;exact S.sub a o e
 · obtain⟨v,h1,h2⟩:=S.env i d hi e
   exact⟨v,h1,h2.mono same⟩
 · obtain⟨k,ws,ds,h1,h2,h3,h4,h5⟩:=S.own i hi
   refine⟨k,ws,ds,h1,h2,h3,?_,h5.mono same⟩
   rw[q05 (λz=>hn i hi (by rw[<-z];exact h2))]
   exact h4
 · by_cases ha:a=l
   · subst ha;exact .inr (.inl h0)
   · rw[q05 ha]at h;exact S.an a h
theorem StR.new0{σ:St}{H R:Hp}{ρ:Rho}{l:Addr}(S:StR K Z O σ H R ρ)(h:H l=none):Z.H0 l=none:=by
 cases q:Z.H0 l with
 |none=>rfl
 |some o=>exact absurd h (S.ad l (by rw[q];exact λz=>nomatch z)).1
theorem Stp.know{σ:St}{H R H' R':Hp}{l:Addr}{o:HO}(x:Stp O σ H R H' R')(h:H l=none)(hr:R' l=none):Stp O σ H R H' (upd R' l o):=by
 refine⟨x.r.trans (Same.new hr),x.h,λb e=>?_,x.d⟩
 by_cases hb:b=l
 · subst hb;exact .inr (.inl h)
 · rw[q05 hb]at e;exact x.n b e
theorem MN.me{f:RhL}(h:MN K O t f):ME K O t (q14 f λds=>mRet (.lst ds)):=λZ σ H R ρ d ρ' Q S e k=>by
 obtain⟨ds,ρ1,e1,e2⟩:=q08 e
 cases e2
 refine h Z σ H R ρ ds _ Q S e1 λl vs H' R' S' st h0 hH hR r=>?_
 refine k _ H' (upd R' l (.lst vs)) (S'.know (S.new0 h0) hH hR ?_) (st.know h0 hR) (.lst (SqL.of q0a) (r.mono (Same.new hR)))
 exact S.notnew h0
theorem q03{i:Nat}(hi:i∉O:=by decide):ME K O (tVar i) (mVar i):=λZ σ H R ρ d ρ' Q S e k=>by
 obtain⟨e1,rfl⟩:=q4z e
 obtain⟨v,h1,h2⟩:=S.env i d hi e1
 exact⟨v,h1,k v H R S (Stp.refl _ _ _ _) h2⟩
theorem q4b{i:Nat}:MB K O (tVar i) (mVar i):=λZ σ H R ρ d ρ' Q S e k=>by
 obtain⟨e1,rfl⟩:=q4z e
 by_cases hi:i∈O
 · obtain⟨l,vs,ds,h1,h2,h3,h4,h5⟩:=S.own i hi
   rw[e1]at h1
   (first|obtain rfl:=h1.isA rfl|cases h1)
   exact⟨.ref l,h2,k _ H R S (Stp.refl _ _ _ _) ((h5.mono S.same).rp h3)⟩
 · obtain⟨v,h1,h2⟩:=S.env i d hi e1
   exact⟨v,h1,k v H R S (Stp.refl _ _ _ _) (h2.mono S.same)⟩
theorem me_c{v:V}{d:D}(h:Sc v d):ME K O (tC v) (mRet d):=λZ σ H R ρ e ρ' Q S q k=>by
 (first|obtain rfl:=q.isA rfl|cases q)
 exact k v H R S (Stp.refl _ _ _ _) h.rp
theorem me_int{i:Int}:ME K O (tC (.int i)) (mRet (.int i)):=me_c (.int i)
theorem qbt{x:Str}:ME K O (tC (.str x)) (mRet (.str x)):=me_c (.str x)
theorem q9x{b:Bool}:ME K O (tC (.bl b)) (mRet (.bl b)):=me_c (.bl b)
def mOp2(g:D->D->Option D)(fa fb:RhD):RhD:=q14 fa λx=>q14 fb λy=>q1u (g x y)
def OpS(K:PySem.W.Frag)(r:R2)(g:D->D->Option D):Prop:=∀(H:Hp) (x y:V) (d e u:D) (Q:VK),Rp K H x d->Rp K H y e->g d e=some u->(∀v,Sc v u->Q v H)->r x y H Q
def OpG(K:PySem.W.Frag)(r:R2)(g:D->D->Option D):Prop:=∀(H R:Hp) (x y:V) (d e u:D) (Q:VK),(∀a o,R a=some o->H a=some o)->Rp K R x d->Rp K R y e->g d e=some u->(∀v H' R',Ext H R H' R'->Rp K R' v u->Q v H')->r x y H Q
theorem OpS.g{r:R2}{g:D->D->Option D}(h:OpS K r g):OpG K r g:=λH R x y d e u Q s rx ry q k=>
 h H x y d e u Q (rx.mono s) (ry.mono s) q λv z=>k v H R (Ext.refl s) z.rp
theorem q0j{r:R2}{g:D->D->Option D}{fa fb:RhD}(h:OpG K r g)(ha:ME K O ta fa)(hb:ME K O tb fb):ME K O (tOp r ta tb) (mOp2 g fa fb):=λZ σ H R ρ d ρ' Q S e k=>by
 obtain⟨x,ρ1,e1,e⟩:=q08 e
 obtain⟨y,ρ2,e2,e⟩:=q08 e
 obtain⟨e3,rfl⟩:=q0d e
 refine ha Z σ H R ρ x ρ1 _ S e1 λv H1 R1 S1 st1 r1=>hb Z σ H1 R1 ρ1 y _ _ S1 e2 λw H2 R2 S2 st2 r2=>?_
 exact h H2 R2 v w x y d Q S2.sub (r1.mono st2.r) r2 e3 λz H3 R3 x3 r3=>k z H3 R3 (S2.ext x3) ((st1.trans st2).trans x3.stp) r3
theorem q3d{r:R2}{g:D->D->Option D}{fa fb:RhD}(h:OpS K r g)(ha:ME K O ta fa)(hb:MB K O tb fb):ME K O (tOp r ta tb) (mOp2 g fa fb):=λZ σ H R ρ d ρ' Q S e k=>by
 obtain⟨x,ρ1,e1,e⟩:=q08 e
 obtain⟨y,ρ2,e2,e⟩:=q08 e
 obtain⟨e3,rfl⟩:=q0d e
 refine ha Z σ H R ρ x ρ1 _ S e1 λv H1 R1 S1 st1 r1=>hb Z σ H1 R1 ρ1 y _ _ S1 e2 λw H2 R2 S2 st2 r2=>?_
 exact h H2 v w x y d Q ((r1.mono st2.r).mono S2.same) r2 e3 λz q=>k z H2 R2 S2 (st1.trans st2) q.rp
def mIxO(i:Nat)(fb:RhD):RhD:=q14 fb λy=>q14 (mVar i) λx=>q1u (match x,y with
 |.lst xs,.int j=>atI xs j
 |_,_=>none)
theorem q6a{R:Hp}{xs:List V}{ds:List D}{i:Int}{d:D}(r:Rps K R xs ds)(h:atI ds i=some d):∃v,atI xs i=some v/\Rp K R v d:=by
 unfold atI at h ⊢
 rw[r.length]
 cases e:ixN ds.length i with
 |none=>rw[e]at h;cases h
 | some j=>
   rw[e]at h
   exact r.get h
theorem qbu{i:Nat}{fb:RhD}(hi:i∈O)(hb:ME K O tb fb):ME K O (tOp (rIx K) (tVar i) tb) (mIxO i fb):=λZ σ H R ρ d ρ' Q S e k=>by
 obtain⟨y,ρ1,e1,e⟩:=q08 e
 obtain⟨x,ρ2,e2,e⟩:=q08 e
 obtain⟨e3,rfl⟩:=q0d e
 obtain⟨e4,rfl⟩:=q4z e2
 obtain⟨l,vs,ds,h1,h2,h3,_⟩:=S.own i hi
 refine⟨.ref l,h2,hb Z σ H R ρ y _ _ S e1 λw H1 R1 S1 st1 r1=>?_⟩
 obtain⟨l',vs',ds',g1,g2,g3,g4,g5⟩:=S1.own i hi
 rw[h2]at g2
 cases g2
 rw[e4]at g1
 cases g1
 split at e3
 · obtain rfl:=r1.isA rfl
   obtain⟨us,rfl,q5⟩:=g5.isL
   obtain⟨v,q1,q2⟩:=q6a q5 e3
   exact .inl ⟨l,_,_,v,rfl,rfl,SqL.of g3,q1,k v H1 R1 S1 st1 q2⟩
 · cases e3
def dIx:D->D->Option D
 |.lst xs,.int i=>atI xs i
 |.tup xs,.int i=>atI xs i
 |.str z,.int i=>if z.length<=sizeLine then(atI z.cps.toList i).map λc=>.str ⟨#[c]⟩else none
 |_,_=>none
theorem q1t:OpG K (rIx K) dIx:=λH R x y d e u Q s rx ry q k=>by
 unfold dIx at q
 split at q
 · rename_i xs i
   (first|obtain rfl:=ry.isA rfl|cases ry)
   obtain⟨_,_,rfl,h,r⟩:=rx.isL
   obtain⟨v,q1,q2⟩:=q6a r q
   exact .inl ⟨_,_,i,v,rfl,rfl,Same.sqL s h,q1,k v H R (Ext.refl s) q2⟩
 · rename_i xs i
   (first|obtain rfl:=ry.isA rfl|cases ry)
   obtain⟨_,_,rfl,h,r⟩:=rx.isT
   obtain⟨v,q1,q2⟩:=q6a r q
   exact .inr (.inl ⟨_,_,i,v,rfl,rfl,SqT.of (s _ _ h),q1,k v H R (Ext.refl s) q2⟩)
 · rename_i z i
   (first|obtain rfl:=ry.isA rfl|cases ry)
   (first|obtain rfl:=rx.isA rfl|cases rx)
   split at q
   · rename_i hz
     cases e':atI z.cps.toList i with
     |none=>rw[e']at q;cases q
     | some c=>
       rw[e']at q
       (first|obtain rfl:=q.isA rfl|cases q)
       exact .inr (.inr ⟨z,i,c,rfl,rfl,hz,e',k _ H R (Ext.refl s) (.str _)⟩)
   · (first|obtain rfl:=q.isA rfl|cases q)
 · (first|obtain rfl:=q.isA rfl|cases q)
def dI2(C:Int->Int->Bool)(g:Int->Int->Int):D->D->Option D
 |.int i,.int j=>if C i j=true then some (.int (g i j))else none
 |_,_=>none
theorem op_i{C:Int->Int->Bool}{P:Int->Int->Prop}{g:Int->Int->Int}(hc:∀i j,C i j=true->P i j):OpG K (rI P λi j=>.int (g i j)) (dI2 C g):=λH R x y d e u Q s rx ry q k=>by
 unfold dI2 at q
 split at q
 · rename_i i j
   split at q
   · rename_i h
     (first|obtain rfl:=q.isA rfl|cases q)
     (first|obtain rfl:=rx.isA rfl|cases rx)
     (first|obtain rfl:=ry.isA rfl|cases ry)
     exact⟨i,j,rfl,rfl,hc i j h,k _ H R (Ext.refl s) (.int _)⟩
   · (first|obtain rfl:=q.isA rfl|cases q)
 · (first|obtain rfl:=q.isA rfl|cases q)
def dI0(g:Int->Int->Int):D->D->Option D
 |.int i,.int j=>some (.int (g i j))
 |_,_=>none
theorem qgc{g:Int->Int->Int}:OpG K (rI0 λi j=>.int (g i j)) (dI0 g):=λH R x y d e u Q s rx ry q k=>by
 unfold dI0 at q
 split at q
 · rename_i i j
   (first|obtain rfl:=q.isA rfl|cases q)
   (first|obtain rfl:=rx.isA rfl|cases rx)
   (first|obtain rfl:=ry.isA rfl|cases ry)
   exact⟨i,j,rfl,rfl,k _ H R (Ext.refl s) (.int _)⟩
 · (first|obtain rfl:=q.isA rfl|cases q)
def dB0(g:Int->Int->Bool):D->D->Option D
 |.int i,.int j=>some (.bl (g i j))
 |_,_=>none
end
section
variable{K:PySem.W.Frag}{Z:Anc}{O:List Nat}{t ta tb tc:TE}{tA tB':TT}{tr:TA}{fa fb fc:RhD}{ga gb:RhB}{fs:RhL}
def q0l(f:RhD):RhB:=q14 f λd=>q1u (match d with
 |.bl b=>some b
 |_=>none)
theorem q2t(h:ME K O t fa):MT K O (qfo t) (q0l fa):=λZ σ H R ρ b ρ' Q S e k=>by
 obtain⟨d,ρ1,e1,e⟩:=q08 e
 obtain⟨e2,rfl⟩:=q0d e
 refine h Z σ H R ρ d _ _ S e1 λv H' R' S' st r=>?_
 (first|split at e2)
 · obtain rfl:=r.isA rfl
   cases e2
   exact⟨_,rfl,k H' R' S' st⟩
 · cases e2
theorem q6v(h:ME K O t fa):MT K O (tB t) (q0l fa):=λZ σ H R ρ b ρ' Q S e k=>by
 obtain⟨d,ρ1,e1,e⟩:=q08 e
 obtain⟨e2,rfl⟩:=q0d e
 refine h Z σ H R ρ d _ _ S e1 λv H' R' S' st r=>?_
 (first|split at e2)
 · obtain rfl:=r.isA rfl
   cases e2
   exact⟨_,rfl,k H' R' S' st⟩
 · cases e2
def mNot(f:RhB):RhB:=q14 f λb=>mRet (!b)
theorem q6w(h:MT K O tA ga):MT K O (tNot tA) (mNot ga):=λZ σ H R ρ b ρ' Q S e k=>by
 obtain⟨c,ρ1,e1,e⟩:=q08 e
 cases e
 exact h Z σ H R ρ c _ _ S e1 λH' R' S' st=>k H' R' S' st
def mOr(f g:RhB):RhB:=q14 f λb=>if b=true then mRet true else g
theorem qk7(h:MT K O tA ga)(h2:MT K O tB' gb):MT K O (tOr tA tB') (mOr ga gb):=λZ σ H R ρ b ρ' Q S e k=>by
 obtain⟨c,ρ1,e1,e⟩:=q08 e
 refine h Z σ H R ρ c _ _ S e1 λH' R' S' st=>?_
 cases c with
 |true=>cases e;exact iteT (k H' R' S' st)
 |false=>exact iteF (h2 Z σ H' R' ρ1 b ρ' Q S' e λH2 R2 S2 st2=>k H2 R2 S2 (st.trans st2))
def q81(f g:RhD):RhD:=q14 (q0l f) λb=>if b=true then g else mRet (.bl false)
def q80(f:RhD):RhD:=q14 (q0l f) λb=>mRet (.bl (!b))
theorem qke(h:ME K O ta fa)(h2:ME K O tb fb):ME K O (qil ta tb) (q81 fa fb):=λZ σ H R ρ d ρ' Q S e k=>by
 obtain⟨c,ρ1,e1,e⟩:=q08 e
 obtain⟨x,ρ2,e1,e2⟩:=q08 e1
 obtain⟨e2,rfl⟩:=q0d e2
 refine h Z σ H R ρ x _ _ S e1 λv H' R' S' st r=>?_
 (first|split at e2)
 · obtain rfl:=r.isA rfl
   cases e2
   refine⟨_,rfl,?_⟩
   cases c with
   |true=>exact iteT (h2 Z σ H' R' _ d ρ' Q S' e λv H2 R2 S2 st2 r2=>k v H2 R2 S2 (st.trans st2) r2)
   |false=>cases e;exact iteF (k _ H' R' S' st (.bl false))
 · cases e2
theorem qkc(h:ME K O ta fa):ME K O (qii ta) (q80 fa):=λZ σ H R ρ d ρ' Q S e k=>by
 obtain⟨c,ρ1,e1,e⟩:=q08 e
 obtain⟨x,ρ2,e1,e2⟩:=q08 e1
 obtain⟨e2,rfl⟩:=q0d e2
 refine h Z σ H R ρ x _ _ S e1 λv H' R' S' st r=>?_
 (first|split at e2)
 · obtain rfl:=r.isA rfl
   cases e2
   cases e
   exact⟨_,rfl,k _ H' R' S' st (.bl _)⟩
 · cases e2
def mNil:RhL:=mRet []
def q00(f:RhD)(g:RhL):RhL:=q14 f λx=>q14 g λxs=>mRet (x::xs)
theorem q0c:MA K O tNil mNil:=λZ σ H R ρ ds ρ' Q S e k=>by
 cases e
 exact k [] H R S (Stp.refl _ _ _ _) .nil
theorem q02(h:ME K O t fa)(h2:MA K O tr fs):MA K O (q23 t tr) (q00 fa fs):=λZ σ H R ρ ds ρ' Q S e k=>by
 obtain⟨x,ρ1,e1,e⟩:=q08 e
 obtain⟨xs,ρ2,e2,e⟩:=q08 e
 cases e
 refine h Z σ H R ρ x _ _ S e1 λv H1 R1 S1 st1 r1=>h2 Z σ H1 R1 ρ1 xs _ _ S1 e2 λvs H2 R2 S2 st2 r2=>?_
 exact k (v::vs) H2 R2 S2 (st1.trans st2) (.cons (r1.mono st2.r) r2)
def mTup(f:RhL):RhD:=q14 f λxs=>q1u (if xs.length<=sizeLine then some (.tup xs)else none)
theorem q3c(h:MA K O tr fs):ME K O (tTup tr) (mTup fs):=λZ σ H R ρ d ρ' Q S e k=>by
 obtain⟨xs,ρ1,e1,e⟩:=q08 e
 obtain⟨e2,rfl⟩:=q0d e
 refine h Z σ H R ρ xs _ _ S e1 λvs H1 R1 S1 st1 r1=>?_
 split at e2
 · rename_i hz
   cases e2
   refine⟨by rw[r1.length];exact hz,λp np=>?_⟩
   have x:=Ext.new (o:=.tup vs) S1.sub np
   exact k _ _ _ (S1.ext x) (st1.trans x.stp) (.tup q0a (r1.mono x.r))
 · cases e2
def mLst(f:RhL):RhL:=q14 f λxs=>q1u (if xs.length<=sizeLine then some xs else none)
theorem StR.out{σ:St}{H R:Hp}{ρ:Rho}{l:Addr}(S:StR K Z O σ H R ρ)(h:H l=none):R l=none:=by
 cases q:R l with
 |none=>rfl
 |some o=>rw[S.sub l o q]at h;cases h
theorem Stp.new{σ:St}{H R H' R':Hp}{l:Addr}(x:Stp O σ H R H' R')(h:H' l=none):H l=none:=by
 cases q:H l with
 |none=>rfl
 |some o=>exact absurd h (x.d l (by rw[q];exact λz=>nomatch z)).1
theorem q3b(h:MA K O tr fs):MN K O (tLst tr) (mLst fs):=λZ σ H R ρ ds ρ' Q S e k=>by
 obtain⟨xs,ρ1,e1,e⟩:=q08 e
 obtain⟨e2,rfl⟩:=q0d e
 refine h Z σ H R ρ xs _ _ S e1 λvs H1 R1 S1 st1 r1=>?_
 split at e2
 · rename_i hz
   cases e2
   refine⟨by rw[r1.length];exact hz,λp np=>?_⟩
   have x:=Ext.hid (o:=.lst vs) S1.sub np
   exact k p vs _ _ (S1.ext x) (st1.trans x.stp) (st1.new np) q0a (S1.out np) r1
 · cases e2
def q89(K:PySem.W.Frag)(r:List V->Hp->VK->Prop)(g:D->Option D):Prop:=∀(H:Hp) (x:V) (d u:D) (Q:VK),Rp K H x d->g d=some u->(∀v,Sc v u->Q v H)->r [x] H Q
def mOp1(g:D->Option D)(f:RhD):RhD:=q14 f λx=>q1u (g x)
theorem q1b{r:List V->Hp->VK->Prop}{g:D->Option D}(h:q89 K r g)(ha:MB K O t fa):ME K O (tCB r (q23 t tNil)) (mOp1 g fa):=λZ σ H R ρ d ρ' Q S e k=>by
 obtain⟨x,ρ1,e1,e⟩:=q08 e
 obtain⟨e2,rfl⟩:=q0d e
 refine ha Z σ H R ρ x _ _ S e1 λv H1 R1 S1 st1 r1=>?_
 exact h H1 v x d Q r1 e2 λw z=>k w H1 R1 S1 st1 z.rp
def dLen:D->Option D
 |.lst xs=>some (.int xs.length)
 |.tup xs=>some (.int xs.length)
 |_=>none
theorem q55:q89 K (λxs H Q=>∃p ys,xs=[.ref p]/\(SqL K H p ys∨SqT K H p ys)/\Q (.int ys.length) H) dLen:=λH x d u Q r e k=>by
 (first|split at e|(unfold dLen at e;split at e))
 · obtain⟨_,_,rfl,h,q⟩:=r.isL
   cases e
   refine⟨_,_,rfl,.inl h,?_⟩
   rw[q.length]
   exact k _ (.int _)
 · obtain⟨_,_,rfl,h,q⟩:=r.isT
   cases e
   refine⟨_,_,rfl,.inr (SqT.of h),?_⟩
   rw[q.length]
   exact k _ (.int _)
 · cases e
def dInt:D->Option D
 |.int i=>some (.int i)
 |.bl b=>some (.int (if b then 1 else 0))
 |_=>none
theorem qlj:q89 K (λxs H Q=>(∃i,xs=[.int i]/\Q (.int i) H)∨∃k,xs=[.bl k]/\Q (.int (if k then 1 else 0)) H) dInt:=λH x d u Q r e k=>by
 (first|split at e|(unfold dInt at e;split at e))
 · rename_i i
   obtain rfl:=r.isA rfl
   cases e
   exact .inl ⟨i,rfl,k _ (.int _)⟩
 · rename_i b
   obtain rfl:=r.isA rfl
   cases e
   exact .inr ⟨b,rfl,k _ (.int _)⟩
 · cases e
def q1v:List D->Option (List Int)
 |[]=>some []
 |.int i::r=>(q1v r).map (i:: ·)
 |_=>none
def q3e:List D->Option (List Bool)
 |[]=>some []
 |.bl i::r=>(q3e r).map (i:: ·)
 |_=>none
theorem q2o{R:Hp}:∀{xs:List V} {ds:List D} {ns:List Int},Rps K R xs ds->q1v ds=some ns->xs=ns.map V.int
 |_,_,ns,.nil,e=>by cases e;rfl
 | _,_,ns,.cons (d:=d) h r,e=>by
   cases h with
   | int i=>
     unfold q1v at e
     cases q:q1v _ with
     |none=>rw[q]at e;cases e
     |some ms=>rw[q]at e;cases e;rw[q2o r q];rfl
   |_=>cases e
theorem q5q{R:Hp}:∀{xs:List V} {ds:List D} {ns:List Bool},Rps K R xs ds->q3e ds=some ns->xs=ns.map V.bl
 |_,_,ns,.nil,e=>by cases e;rfl
 | _,_,ns,.cons (d:=d) h r,e=>by
   cases h with
   | bl i=>
     unfold q3e at e
     cases q:q3e _ with
     |none=>rw[q]at e;cases e
     |some ms=>rw[q]at e;cases e;rw[q5q r q];rfl
   |_=>cases e
theorem q1o:∀ns:List Int,q1v (ns.map D.int)=some ns
 |[]=>rfl
 |n::ns=>by rw[jg,q1v,q1o ns];rfl
def dSum:D->Option D
 |.lst xs=>(q1v xs).map λns=>.int ns.sum
 |_=>none
theorem qli:q89 K (λxs H Q=>∃(p:Addr) (ns:List Int),xs=[.ref p]/\SqL K H p (ns.map V.int)/\Q (.int ns.sum) H) dSum:=λH x d u Q r e k=>by
 cases r with
 | lst h q=>
   rename_i ds
   have e':(q1v ds).map (λns=>D.int ns.sum)=some u:=e
   cases z:q1v ds with
   |none=>rw[z]at e';cases e'
   | some ns=>
     rw[z]at e'
     cases e'
     have ex:=q2o q z
     subst ex
     exact⟨_,ns,rfl,h,k _ (.int _)⟩
 |_=>cases e
def dAll:D->Option D
 |.lst xs=>(q3e xs).map λbs=>.bl (bs.all id)
 |_=>none
theorem qlk:q89 K (λxs H Q=>∃(p:Addr) (bs:List Bool),xs=[.ref p]/\SqL K H p (bs.map V.bl)/\Q (.bl (bs.all id)) H) dAll:=λH x d u Q r e k=>by
 cases r with
 | lst h q=>
   rename_i ds
   have e':(q3e ds).map (λbs=>D.bl (bs.all id))=some u:=e
   cases z:q3e ds with
   |none=>rw[z]at e';cases e'
   | some ns=>
     rw[z]at e'
     cases e'
     have ex:=q5q q z
     subst ex
     exact⟨_,ns,rfl,h,k _ (.bl _)⟩
 |_=>cases e
end
def ItOk(K:PySem.W.Frag)(J:It)(R:Hp)(ds:List D):Prop:=∀(H' R':Hp),Same R R'->(∀a o,R' a=some o->H' a=some o)->∀i:Nat,(i=ds.length->J.stop i H')/\∀d,ds[i]? =some d->J.go i H'/\∀x H'',J.yld i H' x H''->∃R'',Ext H' R' H'' R''/\Rp K R'' x d
theorem ItOk.mono{K:PySem.W.Frag}{J:It}{R R1:Hp}{ds:List D}(h:ItOk K J R ds)(s:Same R R1):ItOk K J R1 ds:=λH' R' s' b=>h H' R' (s.trans s') b
def MI(K:PySem.W.Frag)(O:List Nat)(wi:TI)(f:RhL):Prop:=∀(Z:Anc) (σ:St) (H R:Hp) (ρ:Rho) (ds:List D) (ρ':Rho) (Q:It->Hp->Prop),StR K Z O σ H R ρ->f ρ=some (ds,ρ')->(∀J H' R',StR K Z O σ H' R' ρ'->Stp O σ H R H' R'->ItOk K J R' ds->Q J H')->wi σ H Q
def iSeq(K:PySem.W.Frag)(tl:TE):TI:=λσ H R=>qh8 K tl σ H R∨iTup K tl σ H R
theorem q2r{X:Cx}{K:PySem.W.Frag}{tg l:Expr}{tl:TE}(h:X.K=K)(hl:PE X l tl):PI X tg l (iSeq K tl):=λz4 s σ H R I q=>by
 rcases q with q|q
 · exact qdl h hl z4 s σ H R I q
 · exact qg2 h hl z4 s σ H R I q
def mSeq(f:RhD):RhL:=q14 f λd=>q1u (match d with
 |.lst xs=>some xs
 |.tup xs=>some xs
 |_=>none)
section
variable{K:PySem.W.Frag}{O:List Nat}{t:TE}{tr:TA}{fa:RhD}{fs:RhL}
theorem qh2{R:Hp}{a:Addr}{xs:List V}{ds:List D}(h:SqL K R a xs)(r:Rps K R xs ds):ItOk K (Itl K a) R ds:=λH' R' s b i=>by
 have q:SqL K H' a xs:=Same.sqL b (Same.sqL s h)
 refine⟨λe=>⟨xs,q,by rw[r.length];omega⟩,λd e=>?_⟩
 obtain⟨v,h1,h2⟩:=r.get e
 refine⟨⟨xs,v,q,h1⟩,λx H'' y=>?_⟩
 obtain⟨rfl,y⟩:=y
 have ex:=y xs q
 rw[h1]at ex
 cases ex
 exact⟨R',Ext.refl b,h2.mono s⟩
theorem qkq{R:Hp}{a:Addr}{xs:List V}{ds:List D}(h:SqT K R a xs)(r:Rps K R xs ds):ItOk K (Itt K a) R ds:=λH' R' s b i=>by
 have q:SqT K H' a xs:=Same.tup b (Same.tup s h)
 refine⟨λe=>⟨xs,q,by rw[r.length];omega⟩,λd e=>?_⟩
 obtain⟨v,h1,h2⟩:=r.get e
 refine⟨⟨xs,v,q,h1⟩,λx H'' y=>?_⟩
 obtain⟨rfl,y⟩:=y
 have ex:=y xs q
 rw[h1]at ex
 cases ex
 exact⟨R',Ext.refl b,h2.mono s⟩
theorem q3v(h:ME K O t fa):MI K O (iSeq K t) (mSeq fa):=λZ σ H R ρ ds ρ' Q S e k=>by
 obtain⟨d,ρ1,e1,e⟩:=q08 e
 obtain⟨e2,rfl⟩:=q0d e
 cases d with
 | lst xs=>
   cases e2
   refine .inl (h Z σ H R ρ _ _ _ S e1 λv H1 R1 S1 st1 r1=>?_)
   obtain⟨_,_,rfl,q,r⟩:=r1.isL
   exact⟨_,rfl,⟨_,Same.sqL S1.same q⟩,k _ H1 R1 S1 st1 (qh2 q r)⟩
 | tup xs=>
   cases e2
   refine .inr (h Z σ H R ρ _ _ _ S e1 λv H1 R1 S1 st1 r1=>?_)
   obtain⟨_,_,rfl,q,r⟩:=r1.isT
   exact⟨_,rfl,⟨_,SqT.of (S1.same _ _ q)⟩,k _ H1 R1 S1 st1 (qkq (SqT.of q) r)⟩
 |_=>cases e2
def q0w(lo:Int)(n:Nat):List D:=(List.range n).map λ(k:Nat)=>D.int (lo+(k:Int))
theorem q93{R:Hp}(lo:Int)(n:Nat):ItOk K (Itr lo n) R (q0w lo n):=λH' R' s b i=>by
 have len:(q0w lo n).length=n:=by simp[q0w]
 refine⟨λe=>by show n<=i;omega,λd e=>?_⟩
 have hi:i<n:=by
   have:=(List.getElem?_eq_some_iff.mp e).1
   omega
 have ed:d=D.int (lo+(i:Int)):=by
   unfold q0w at e
   rw[ju,List.getElem?_range hi]at e
   exact(jb e).symm
 subst ed
 refine⟨hi,λx H'' y=>?_⟩
 obtain⟨rfl,rfl⟩:=y
 exact⟨R',Ext.refl b,.int _⟩
def big(j:Int):Bool:=decide (-(2^62)<=j)&&decide (j<2^62)
def q3j(f:RhL):RhL:=q14 f λds=>q1u (match ds with
 |[.int j]=>if big j=true then some (q0w 0 j.toNat)else none
 |_=>none)
theorem q2l(h:MA K O tr fs):MI K O (qkv tr) (q3j fs):=λZ σ H R ρ ds ρ' Q S e k=>by
 obtain⟨xs,ρ1,e1,e⟩:=q08 e
 obtain⟨e2,rfl⟩:=q0d e
 split at e2
 · rename_i j
   split at e2
   · rename_i hb
     cases e2
     refine h Z σ H R ρ _ _ _ S e1 λvs H1 R1 S1 st1 r1=>?_
     obtain⟨_,_,rfl,q,r⟩:=r1.isC
     (first|obtain rfl:=r.isA rfl|cases r)
     (first|obtain rfl:=q.isA rfl|cases q)
     unfold big at hb
     rw[Bool.and_eq_true]at hb
     exact⟨j,rfl,of_decide_eq_true hb.1,of_decide_eq_true hb.2,k _ H1 R1 S1 st1 (q93 0 _)⟩
   · cases e2
 · cases e2
def q6z(f:RhL):RhL:=q14 f λds=>q1u (match ds with
 |[.int i,.int j]=>if(big i&&big j)=true then some (q0w i (j-i).toNat)else none
 |_=>none)
theorem q6y(h:MA K O tr fs):MI K O (qku tr) (q6z fs):=λZ σ H R ρ ds ρ' Q S e k=>by
 obtain⟨xs,ρ1,e1,e⟩:=q08 e
 obtain⟨e2,rfl⟩:=q0d e
 split at e2
 · rename_i i j
   split at e2
   · rename_i hb
     cases e2
     refine h Z σ H R ρ _ _ _ S e1 λvs H1 R1 S1 st1 r1=>?_
     obtain⟨_,_,rfl,q,r⟩:=r1.isC
     obtain⟨_,_,rfl,q2,r⟩:=r.isC
     (first|obtain rfl:=r.isA rfl|cases r)
     (first|obtain rfl:=q.isA rfl|cases q)
     (first|obtain rfl:=q2.isA rfl|cases q2)
     unfold big at hb
     simp only[Bool.and_eq_true,decide_eq_true_eq]at hb
     exact⟨i,j,rfl,⟨hb.1.1,hb.1.2,hb.2.1,hb.2.2⟩,k _ H1 R1 S1 st1 (q93 i _)⟩
   · cases e2
 · cases e2
end
def MG(K:PySem.W.Frag)(O T:List Nat)(g:TG)(f:RhG):Prop:=∀(Z:Anc) (σ:St) (H R:Hp) (ρ:Rho) (x:V) (d:D) (ρ':Rho) (Q:St->Hp->Prop),StR K Z O σ H R ρ->Rp K R x d->f d ρ=some ρ'->(∀σ',StR K Z O σ' H R ρ'->(∀j,j∉T->σ'[j]? =σ[j]?)->Q σ' H)->g x σ H Q
def MGs(K:PySem.W.Frag)(O T:List Nat)(g:TGs)(f:List D->Rho->Option Rho):Prop:=∀(Z:Anc) (σ:St) (H R:Hp) (ρ:Rho) (xs:List V) (ds:List D) (ρ':Rho) (Q:St->Hp->Prop),StR K Z O σ H R ρ->Rps K R xs ds->f ds ρ=some ρ'->(∀σ',StR K Z O σ' H R ρ'->(∀j,j∉T->σ'[j]? =σ[j]?)->Q σ' H)->g xs σ H Q
def gSet(i:Nat):RhG:=λd ρ=>some (ρ.set i (some d))
def q2p:List D->Rho->Option Rho:=λds ρ=>match ds with
 |[]=>some ρ
 |_=>none
def q0g(f:RhG)(g:List D->Rho->Option Rho):List D->Rho->Option Rho:=λds ρ=>match ds with
 | d::r=>match f d ρ with
   |some ρ1=>g r ρ1
   |none=>none
 |[]=>none
def q2f(n:Nat)(f:List D->Rho->Option Rho):RhG:=λd ρ=>match d with
 |.tup ds=>if ds.length=n then f ds ρ else none
 |_=>none
section
variable{K:PySem.W.Frag}{O T T':List Nat}{g:TG}{gs:TGs}{f:RhG}{fs:List D->Rho->Option Rho}
theorem q0i{i:Nat}(hi:i∉O:=by decide):MG K O [i] (q36 i) (gSet i):=λZ σ H R ρ x d ρ' Q S r e k=>by
 cases e
 exact k _ (S.set hi r) λj hj=>jd (λ(z:i=j)=>hj (by rw[z];exact List.mem_singleton_self j))
theorem q45:MGs K O [] gNil q2p:=λZ σ H R ρ xs ds ρ' Q S r e k=>by
 cases r with
 |nil=>cases e;exact⟨rfl,k σ S λ_ _=>rfl⟩
 |cons _ _=>cases e
theorem q19(h:MG K O T g f)(h2:MGs K O T' gs fs):MGs K O (T++T') (q85 g gs) (q0g f fs):=λZ σ H R ρ xs ds ρ' Q S r e k=>by
 cases r with
 |nil=>cases e
 | cons q r=>
   rename_i x xs d ds
   unfold q0g at e
   cases e1:f d ρ with
   |none=>simp only[e1]at e;cases e
   | some ρ1=>
     simp only[e1]at e
     refine⟨x,xs,rfl,h Z σ H R ρ x d ρ1 _ S q e1 λσ1 S1 n1=>h2 Z σ1 H R ρ1 xs ds ρ' _ S1 r e λσ2 S2 n2=>?_⟩
     refine k σ2 S2 λj hj=>?_
     rw[List.mem_append,not_or]at hj
     rw[n2 j hj.2,n1 j hj.1]
theorem q5i{n:Nat}(h:MGs K O T gs fs):MG K O T (gTup K n gs) (q2f n fs):=λZ σ H R ρ x d ρ' Q S r e k=>by
 cases r with
 | tup q rs=>
   unfold q2f at e
   simp only at e
   split at e
   · rename_i hn
     exact⟨_,_,rfl,SqT.of (S.same _ _ q),by rw[rs.length];exact hn,h Z σ H R ρ _ _ ρ' Q S rs e k⟩
   · cases e
 |_=>cases e
end
def q47(n:Nat)(js:List Nat)(ρ:Rho):Rho:=List.replicate n none++js.map λj=>(ρ[j]?).join
def bwO:Option (Nat×Nat)->List Nat
 |none=>[]
 |some p=>[p.2]
def q3y(bw:Option (Nat×Nat))(ρ ρb:Rho):Rho:=match bw with
 |none=>ρ
 | some p=>match ρb[p.2]? with
   |some x=>ρ.set p.1 x
   |none=>ρ
def bwOk(n:Nat)(js O:List Nat)(bw:Option (Nat×Nat)):Bool:=match bw with
 |none=>js.all λj=>!O.contains j
 |some p=>O.contains p.1&&decide (n<=p.2)&&decide (js[p.2-n]? =some p.1)&&(List.range js.length).all λk=>decide (n+k=p.2)|| !O.contains (js.getD k 0)
def q0q(n:Nat)(js:List Nat)(bw:Option (Nat×Nat))(fg:RhG)(ft:RhB)(fe:RhD):List D->RhL
 |[],ρ=>some ([],ρ)
 | d::r,ρ=>match fg d (q47 n js ρ)with
   |none=>none
   | some ρ1=>match ft ρ1 with
     |none=>none
     |some (false,ρ2)=>q0q n js bw fg ft fe r (q3y bw ρ ρ2)
     | some (true,ρ2)=>match fe ρ2 with
       |none=>none
       | some (y,ρ3)=>match q0q n js bw fg ft fe r (q3y bw ρ ρ3)with
         |none=>none
         |some (ys,ρ4)=>some (y::ys,ρ4)
section
variable{K:PySem.W.Frag}{Z Z':Anc}{O:List Nat}{σ σ4:St}{H R H6 R6:Hp}{ρ ρ3:Rho}{n:Nat}{js:List Nat}{bw:Option (Nat×Nat)}
theorem qct:(q47 n js ρ).length=n+js.length:=by simp[q47]
theorem qcu{i:Nat}{d:D}(e:(q47 n js ρ)[i]? =some (some d)):n<=i/\∃j,js[i-n]? =some j/\ρ[j]? =some (some d):=by
 unfold q47 at e
 by_cases h:i<n
 · rw[v9 (by simpa using h),va,if_pos h]at e
   cases e
 · refine⟨by omega,?_⟩
   rw[ke (by simp;omega),xj,ju]at e
   cases q:js[i-n]? with
   |none=>rw[q]at e;cases e
   | some j=>
     rw[q]at e
     refine⟨j,rfl,?_⟩
     have e':(ρ[j]?).join=some d:=jb e
     cases z:ρ[j]? with
     |none=>rw[z]at e';cases e'
     |some o=>rw[z]at e';have:o=some d:=e';rw[this]
theorem qen{i j:Nat}(h:n<=i)(e:js[i-n]? =some j){d:D}(q:ρ[j]? =some (some d)):(q47 n js ρ)[i]? =some (some d):=by
 unfold q47
 rw[ke (by simp;omega),xj,ju,e]
 show some ((ρ[j]?).join)=_
 rw[q]
 rfl
theorem q67{i j:Nat}(h:n<=i)(e:js[i-n]? =some j){v:V}(q:σ[j]? =some (some v)):(caps n js σ)[i]? =some (some v):=by
 unfold caps
 rw[ke (by simp;omega),xj,ju,e]
 show some ((σ[j]?).join)=_
 rw[q]
 rfl
def bwL(bw:Option (Nat×Nat))(σ:St):Addr->Prop:=match bw with
 |none=>λ_=>False
 |some p=>λl=>σ[p.1]? =some (some (.ref l))
theorem StR.block(S:StR K Z O σ H R ρ)(hb:bwOk n js O bw=true):StR K ⟨H,R,bwL bw σ,bwO bw⟩ (bwO bw) (caps n js σ) H R (q47 n js ρ):=by
 have noO:∀i j,n<=i->js[i-n]? =some j->i∉bwO bw->j∉O:=λi j hi hj hn hO=>by
   cases bw with
   | none=>
     unfold bwOk at hb
     have z:=List.all_eq_true.mp hb j (k8 hj)
     simp at z
     exact z hO
   | some p=>
     unfold bwOk at hb
     simp only[Bool.and_eq_true]at hb
     have hk:i-n<js.length:=(List.getElem?_eq_some_iff.mp hj).1
     have z:=List.all_eq_true.mp hb.2 (i-n) (List.mem_range.mpr hk)
     have ej:js.getD (i-n) 0=j:=by rw[kf,hj];rfl
     rw[ej]at z
     simp only[Bool.or_eq_true,decide_eq_true_eq]at z
     rcases z with z|z
     · exact hn (by show i∈[p.2];rw[List.mem_singleton];omega)
     · simp at z;exact z hO
 have inO:∀p,bw=some p->p.1∈O/\n<=p.2/\js[p.2-n]? =some p.1:=λp e=>by
   subst e
   unfold bwOk at hb
   simp only[Bool.and_eq_true,decide_eq_true_eq]at hb
   exact⟨by simpa using hb.1.1.1,hb.1.1.2,hb.1.2⟩
 have only:∀i,i∈bwO bw->∃p,bw=some p/\i=p.2:=λi hi=>by
   cases bw with
   |none=>exact absurd hi (by simp[bwO])
   |some p=>exact⟨p,rfl,by simpa[bwO]using hi⟩
 refine⟨S.sub,by rw[qct,q9b],λi d hi e=>?_,λi hi=>?_,λi j hi hj hn=>?_,λa o e _=>e,Same.refl _,λa h=>.inl h,λa h=>.refl h,λi hi hp=>absurd hi hp,λi hi _ l e=>?_⟩
 · obtain⟨h1,j,h2,h3⟩:=qcu e
   obtain⟨v,q1,q2⟩:=S.env j d (noO i j h1 h2 hi) h3
   exact⟨v,q67 h1 h2 q1,q2⟩
 · obtain⟨p,rfl,rfl⟩:=only i hi
   obtain⟨h1,h2,h3⟩:=inO p rfl
   obtain⟨l,vs,ds,q1,q2,q3⟩:=S.own p.1 h1
   exact⟨l,vs,ds,qen h2 h3 q1,q67 h2 h3 q2,q3⟩
 · obtain⟨p,rfl,rfl⟩:=only i hi
   obtain⟨p',e,rfl⟩:=only j hj
   cases e
   exact absurd rfl hn
 · obtain⟨p,rfl,rfl⟩:=only i hi
   obtain⟨h1,h2,h3⟩:=inO p rfl
   obtain⟨l',vs,ds,q1,q2,q3⟩:=S.own p.1 h1
   rw[q67 h2 h3 q2]at e
   cases e
   exact q2
theorem StR.back(S:StR K Z O σ H R ρ)(hb:bwOk n js O bw=true)(Sb:StR K Z' (bwO bw) σ4 H6 R6 ρ3)(st:Stp (bwO bw) σ4 H R H6 R6)(hσ:∀p,bw=some p->σ4[p.2]? =σ[p.1]?):
   StR K Z O σ H6 R6 (q3y bw ρ ρ3)/\Stp O σ H R H6 R6:=by
 have inO:∀p,bw=some p->p.1∈O:=λp e=>by
   subst e
   unfold bwOk at hb
   simp only[Bool.and_eq_true,decide_eq_true_eq]at hb
   simpa using hb.1.1.1
 have only:∀i,i∈bwO bw->∃p,bw=some p/\i=p.2:=λi hi=>by
   cases bw with
   |none=>exact absurd hi (by simp[bwO])
   |some p=>exact⟨p,rfl,by simpa[bwO]using hi⟩
 have st':Stp O σ H R H6 R6:=⟨st.r,λa o e n=>st.h a o e λi hi z=>by
   obtain⟨p,e1,rfl⟩:=only i hi
   rw[hσ p e1]at z
   exact n p.1 (inO p e1) z,st.n,st.d⟩
 have keepH0:∀a o,Z.H0 a=some o->¬Z.L a->H6 a=some o:=λa o e n=>by
   refine st'.h a o (S.ah a o e n) λi hi z=>?_
   by_cases hp:i∈Z.P
   · exact n (S.ap i hi hp a z)
   · rw[S.ao i hi hp a z]at e;cases e
 have len:(q3y bw ρ ρ3).length=ρ.length:=by
   unfold q3y
   cases bw with
   |none=>rfl
   | some p=>
     dsimp only
     split
     · rw[x4]
     · rfl
 have other:∀i,(∀p,bw=some p->p.1≠i)->(q3y bw ρ ρ3)[i]? =ρ[i]? :=λi h=>by
   unfold q3y
   cases bw with
   |none=>rfl
   | some p=>
     dsimp only
     split
     · rw[jd (h p rfl)]
     · rfl
 refine⟨⟨Sb.sub,by rw[len];exact S.len,λi d hi e=>?_,λi hi=>?_,S.dis,keepH0,S.ar.trans st.r,λa h=>?_,λa h=>(S.ad a h).trans (st.d a (S.ad a h).1),S.ao,S.ap⟩,st'⟩
 · rw[other i λp e1 z=>hi (z▸inO p e1)]at e
   obtain⟨v,h1,h2⟩:=S.env i d hi e
   exact⟨v,h1,h2.mono st.r⟩
 · by_cases hp:∃p,bw=some p/\p.1=i
   · obtain⟨p,rfl,rfl⟩:=hp
     obtain⟨l,vs,ds,q1,q2,q3,q4,q5⟩:=Sb.own p.2 (by simp[bwO])
     rw[hσ p rfl]at q2
     obtain⟨_,_,_,g1,_⟩:=S.own p.1 hi
     have z5:p.1<ρ.length:=(List.getElem?_eq_some_iff.mp g1).1
     refine⟨l,vs,ds,?_,q2,q3,q4,q5⟩
     unfold q3y
     dsimp only
     rw[q1]
     exact jv z5
   · have hne:∀p,bw=some p->p.1≠i:=λp e z=>hp ⟨p,e,z⟩
     obtain⟨l,vs,ds,q1,q2,q3,q4,q5⟩:=S.own i hi
     have nob:∀j,j∈bwO bw->σ4[j]? ≠some (some (.ref l)):=λj hj z=>by
       obtain⟨p,e1,rfl⟩:=only j hj
       rw[hσ p e1]at z
       exact S.dis p.1 i (inO p e1) hi (hne p e1) l z q2
     refine⟨l,vs,ds,by rw[other i hne];exact q1,q2,st.h l _ q3 nob,?_,q5.mono st.r⟩
     cases q:R6 l with
     |none=>rfl
     | some o=>
       rcases st.n l (by rw[q];exact λz=>nomatch z)with z|z
       · exact absurd q4 z
       · exact(q5.noF q3 z).elim
 · rcases st.n a h with z|z
   · exact S.an a z
   · exact .inr (z.back (S.ad a))
end
theorem qa6{K:PySem.W.Frag}{Z:Anc}{O T:List Nat}{σ:St}{H R:Hp}{ρ ρ':Rho}{n:Nat}{js:List Nat}{bw:Option (Nat×Nat)}{g:TG}{tt:TT}{te:TE}{fg:RhG}{ft:RhB}{fe:RhD}{J:It}{ds ys:List D}{Fin:List V->Hp->Prop}
   (hb:bwOk n js O bw=true) (hg:MG K (bwO bw) T g fg) (hT:∀p,bw=some p->p.2∉T) (ht:MT K (bwO bw) tt ft) (he:ME K (bwO bw) te fe) (S:StR K Z O σ H R ρ) (ok:ItOk K J R ds) (e:q0q n js bw fg ft fe ds ρ=some (ys,ρ')) (hz:ds.length<=sizeLine)
   (fin:∀vs H' R',StR K Z O σ H' R' ρ'->Stp O σ H R H' R'->Rps K R' vs ys->vs.length<=sizeLine->Fin vs H'):cGo g tt te (caps n js σ) Fin J H:=by
 refine⟨λi m vs H2=>m=ds.length-i/\i<=ds.length/\vs.length<=i/\∃R2 ρ2 ys1 ys2,StR K Z O σ H2 R2 ρ2/\Stp O σ H R H2 R2/\Rps K R2 vs ys1/\q0q n js bw fg ft fe (ds.drop i) ρ2=some (ys2,ρ')/\ys1++ys2=ys,
   ⟨ds.length,by simp,Nat.zero_le _,Nat.zero_le _,R,ρ,[],ys,S,Stp.refl _ _ _ _,.nil,by rw[List.drop_zero];exact e,rfl⟩,?_⟩
 rintro i m vs H2 ⟨rfl,hi,hv,R2,ρ2,ys1,ys2,S2,st2,r2,e2,ey⟩
 obtain⟨o1,o2⟩:=ok H2 R2 st2.r S2.sub i
 by_cases hlt:i<ds.length
 · obtain⟨g1,g2⟩:=o2 ds[i] (jw hlt)
   rw[List.drop_eq_getElem_cons hlt]at e2
   refine .inr ⟨g1,by omega,λvs' H'=>∃R' ρ2 ys1 ys2,vs'.length<=i+1/\StR K Z O σ H' R' ρ2/\Stp O σ H R H' R'/\Rps K R' vs' ys1/\q0q n js bw fg ft fe (ds.drop (i+1)) ρ2=some (ys2,ρ')/\ys1++ys2=ys,?_,λx H3 y=>?_⟩
   · rintro vs' H' ⟨R',ρ3,zs1,zs2,q0,q1,q2,q3,q4,q5⟩
     exact⟨ds.length-(i+1),by omega,rfl,hlt,q0,R',ρ3,zs1,zs2,q1,q2,q3,q4,q5⟩
   · obtain⟨R3,x3,r3⟩:=g2 x H3 y
     have S3:=S2.ext x3
     have B3:=S3.block hb
     unfold q0q at e2
     cases e3:fg ds[i] (q47 n js ρ2)with
     |none=>rw[e3]at e2;cases e2
     | some ρb1=>
       rw[e3]at e2
       dsimp only at e2
       refine hg _ _ _ _ _ x _ ρb1 _ B3 r3 e3 λσ4 S4 n4=>?_
       have cap:∀p,bw=some p->σ4[p.2]? =σ[p.1]? :=λp e1=>by
         rw[n4 p.2 (hT p e1)]
         subst e1
         unfold bwOk at hb
         simp only[Bool.and_eq_true,decide_eq_true_eq]at hb
         obtain⟨l,_,_,_,q2,_⟩:=S3.own p.1 (by simpa using hb.1.1.1)
         rw[q67 hb.1.1.2 hb.1.2 q2,q2]
       cases e4:ft ρb1 with
       |none=>rw[e4]at e2;cases e2
       | some c=>
         obtain⟨b,ρb2⟩:=c
         rw[e4]at e2
         refine ht _ σ4 H3 R3 ρb1 b ρb2 _ S4 e4 λH5 R5 S5 st5=>?_
         cases b with
         | false=>
           dsimp only at e2
           obtain⟨T1,T2⟩:=S3.back hb S5 st5 cap
           exact iteF ⟨R5,_,ys1,ys2,by omega,T1,(st2.trans x3.stp).trans T2,(r2.mono x3.r).mono st5.r,e2,ey⟩
         | true=>
           dsimp only at e2
           cases e5:fe ρb2 with
           |none=>rw[e5]at e2;cases e2
           | some c=>
             obtain⟨y0,ρb3⟩:=c
             rw[e5]at e2
             dsimp only at e2
             cases e6:q0q n js bw fg ft fe (ds.drop (i+1)) (q3y bw ρ2 ρb3)with
             |none=>rw[e6]at e2;cases e2
             | some c=>
               obtain⟨zs,ρ6⟩:=c
               rw[e6]at e2
               dsimp only at e2
               cases e2
               refine iteT (he _ σ4 H5 R5 ρb2 y0 ρb3 _ S5 e5 λw H6 R6 S6 st6 r6=>?_)
               obtain⟨T1,T2⟩:=S3.back hb S6 (st5.trans st6) cap
               refine⟨R6,_,ys1++[y0],zs,by rw[jm];show vs.length+1<=i+1;omega,T1,(st2.trans x3.stp).trans T2,(((r2.mono x3.r).mono st5.r).mono st6.r).snoc r6,e6,?_⟩
               rw[<-ey,List.append_assoc]
               rfl
 · have ei:i=ds.length:=by omega
   subst ei
   rw[List.drop_length]at e2
   unfold q0q at e2
   cases e2
   rw[List.append_nil]at ey
   subst ey
   exact .inl ⟨o1 rfl,by omega,fin vs H2 R2 S2 st2 r2 (by omega)⟩
def q1c(n:Nat)(js:List Nat)(bw:Option (Nat×Nat))(fi:RhL)(fg:RhG)(ft:RhB)(fe:RhD):RhL:=q14 fi λds ρ=>if ds.length<=sizeLine then q0q n js bw fg ft fe ds ρ else none
theorem q3u{K:PySem.W.Frag}{O:List Nat}:MT K O tYes (mRet true):=λZ σ H R ρ b ρ' Q S e k=>by
 cases e
 exact k H R S (Stp.refl _ _ _ _)
theorem q2d{K:PySem.W.Frag}{O T:List Nat}{n:Nat}{js:List Nat}{bw:Option (Nat×Nat)}{wi:TI}{g:TG}{tt:TT}{te:TE}{fi:RhL}{fg:RhG}{ft:RhB}{fe:RhD}
   (hi:MI K O wi fi) (hg:MG K (bwO bw) T g fg) (ht:MT K (bwO bw) tt ft) (he:ME K (bwO bw) te fe) (hb:bwOk n js O bw=true:=by decide) (hT:∀p,bw=some p->p.2∉T:=by decide):MN K O (qdg n js wi g tt te) (q1c n js bw fi fg ft fe):=λZ σ H R ρ ds ρ' Q S e k=>by
 obtain⟨xs,ρ1,e1,e⟩:=q08 e
 split at e
 · rename_i hz
   refine hi Z σ H R ρ xs ρ1 _ S e1 λJ H1 R1 S1 st1 ok=>?_
   refine qa6 hb hg hT ht he S1 ok e hz λvs H2 R2 S2 st2 r2 l2 D nD=>?_
   have x:=Ext.hid (o:=.lst vs) S2.sub nD
   exact k D vs _ _ (S2.ext x) ((st1.trans st2).trans x.stp) ((st1.trans st2).new nD) q0a (S2.out nD) r2
 · cases e
inductive Out where
 |nx (ρ:Rho)
 |rt (d:D) (ρ:Rho)
 |bk (ρ:Rho)
 |ct (ρ:Rho)
abbrev RhO:=Rho->Option Out
structure MC where
 K:PySem.W.Frag
 fr:Bool
 P:List Nat
 Ol:List Nat
def Res(K:PySem.W.Frag)(fr:Bool)(H:Hp)(v:V)(d:D)(H' R':Hp):Prop:=match fr with
 |false=>Rp K R' v d
 |true=>∃l vs ds,v=.ref l/\d=.lst ds/\H l=none/\H' l=some (.lst vs)/\R' l=none/\Rps K R' vs ds
def Ends.ok(c:MC)(Z:Anc)(O':List Nat)(R:Hp)(E:Ends):Out->Prop
 |.nx ρ'=>∀σ' H' R',StR c.K Z O' σ' H' R' ρ'->Same R R'->E.nx σ' H'
 |.bk ρ'=>∀σ' H' R',StR c.K Z c.Ol σ' H' R' ρ'->Same R R'->E.bk σ' H'
 |.ct ρ'=>∀σ' H' R',StR c.K Z c.Ol σ' H' R' ρ'->Same R R'->E.ct σ' H'
 |.rt d ρ'=>∀v σ' H' R',StR c.K Z c.P σ' H' R' ρ'->Res c.K c.fr Z.H0 v d H' R'->E.rt v H'
def MS(c:MC)(O O':List Nat)(t:TS)(f:RhO):Prop:=∀(Z:Anc) (E:Ends) (σ:St) (H R:Hp) (ρ:Rho) (o:Out),Z.P=c.P->StR c.K Z O σ H R ρ->f ρ=some o->E.ok c Z O' R o->t E σ H
def subO(c:MC)(O O':List Nat):Bool:=O'.all (λi=>O.contains i)&&c.P.all λi=>!O.contains i||O'.contains i
section
variable{c:MC}{O O' O1:List Nat}{t u:TS}{te:TE}{tt:TT}{g:TG}{f h:RhO}{fe:RhD}{fn:RhL}{ft:RhB}{fg:RhG}
theorem StR.sub'{Z:Anc}{σ:St}{H R:Hp}{ρ:Rho}(S:StR c.K Z O σ H R ρ)(hP:Z.P=c.P)(hs:subO c O O'=true):StR c.K Z O' σ H (frzR O O' σ H R) ρ/\Same R (frzR O O' σ H R):=by
 unfold subO at hs
 simp only[Bool.and_eq_true,List.all_eq_true]at hs
 refine S.freeze (λi hi=>by simpa using hs.1 i hi) λi hi hO=>?_
 rw[hP]at hi
 have z:=hs.2 i hi
 simp only[Bool.or_eq_true]at z
 rcases z with z|z
 · simp at z;exact absurd hO z
 · simpa using z
def sNil:RhO:=λρ=>some (.nx ρ)
theorem q4a(hs:subO c O O'=true):MS c O O' qdf sNil:=λZ E σ H R ρ o hP S e k=>by
 cases e
 obtain⟨S',s⟩:=S.sub' hP hs
 exact k σ H _ S' s
def sSeq(f h:RhO):RhO:=λρ=>match f ρ with
 |none=>none
 |some (.nx ρ1)=>h ρ1
 |some o=>some o
theorem q0e(h1:MS c O O1 t f)(h2:MS c O1 O' u h):MS c O O' (tSeq t u) (sSeq f h):=λZ E σ H R ρ o hP S e k=>by
 unfold sSeq at e
 cases e1:f ρ with
 |none=>rw[e1]at e;cases e
 | some o1=>
   rw[e1]at e
   cases o1 with
   | nx ρ1=>
     refine h1 Z _ σ H R ρ _ hP S e1 λσ' H' R' S' s'=>?_
     refine h2 Z E σ' H' R' ρ1 o hP S' e ?_
     cases o with
     |nx ρ'=>exact λσ2 H2 R2 S2 s2=>k σ2 H2 R2 S2 (s'.trans s2)
     |bk ρ'=>exact λσ2 H2 R2 S2 s2=>k σ2 H2 R2 S2 (s'.trans s2)
     |ct ρ'=>exact λσ2 H2 R2 S2 s2=>k σ2 H2 R2 S2 (s'.trans s2)
     |rt d ρ'=>exact k
   |bk ρ1=>cases e;exact h1 Z _ σ H R ρ _ hP S e1 k
   |ct ρ1=>cases e;exact h1 Z _ σ H R ρ _ hP S e1 k
   |rt d ρ1=>cases e;exact h1 Z _ σ H R ρ _ hP S e1 k
def sSet(i:Nat)(fe:RhD):RhO:=λρ=>match fe ρ with
 |none=>none
 |some (d,ρ1)=>some (.nx (ρ1.set i (some d)))
theorem q1g{i:Nat}(he:ME c.K O te fe)(hs:subO c O O'=true:=by rfl)(hi:i∉O':=by decide):MS c O O' (tAsg te (q36 i)) (sSet i fe):=λZ E σ H R ρ o hP S e k=>by
 unfold sSet at e
 cases e1:fe ρ with
 |none=>rw[e1]at e;cases e
 | some p=>
   obtain⟨d,ρ1⟩:=p
   rw[e1]at e
   cases e
   refine he Z σ H R ρ d ρ1 _ S e1 λv H1 R1 S1 st1 r1=>?_
   obtain⟨S2,s2⟩:=S1.sub' hP hs
   exact k _ H1 _ (S2.set hi (r1.mono s2)) (st1.r.trans s2)
def sOwn(i:Nat)(fn:RhL):RhO:=λρ=>match fn ρ with
 |none=>none
 |some (ds,ρ1)=>if i<ρ1.length then some (.nx (ρ1.set i (some (.lst ds))))else none
def ownO(c:MC)(i:Nat)(O O':List Nat):Bool:=subO c O (O'.filter λj=>decide (j≠i))&&O'.contains i&& !c.P.contains i
theorem q4y{i:Nat}(he:MN c.K O te fn)(hs:ownO c i O O'=true):MS c O O' (tAsg te (q36 i)) (sOwn i fn):=λZ E σ H R ρ o hP S e k=>by
 unfold sOwn at e
 unfold ownO at hs
 simp only[Bool.and_eq_true]at hs
 cases e1:fn ρ with
 |none=>rw[e1]at e;cases e
 | some p=>
   obtain⟨ds,ρ1⟩:=p
   rw[e1]at e
   dsimp only at e
   split at e
   · rename_i z5
     cases e
     refine he Z σ H R ρ ds ρ1 _ S e1 λl vs H1 R1 S1 st1 h0 hH hR r1=>?_
     obtain⟨S2,s2⟩:=S1.sub' hP hs.1.1
     have notown:∀j,j∈O->σ[j]? ≠some (some (.ref l)):=S.notnew h0
     have hO':∀j,j∈O'.filter (λj=>decide (j≠i))->j∈O:=λj hj=>by
       have z:=hs.1.1
       unfold subO at z
       simp only[Bool.and_eq_true,List.all_eq_true]at z
       simpa using z.1 j hj
     refine k _ H1 _ (S2.take (i:=i) (l:=l) (vs:=.lst vs) (ds:=.lst ds) (by simp) (by simpa using hs.1.2) (λj hj=>?_) (by rw[hP];simpa using hs.2) z5 (S.new0 h0) hH ?_ (λj hj=>notown j (hO' j hj)) (λj hj=>(List.mem_filter.mp hj).1) (.lst (r1.mono s2))) (st1.r.trans s2)
     · by_cases z:j=i
       · exact .inl z
       · exact .inr (List.mem_filter.mpr ⟨hj,by simpa using z⟩)
     · unfold frzR
       rw[if_neg ?_]
       · exact hR
       · rintro⟨j,hj,_,z⟩
         exact notown j hj z
   · cases e
def sAsg(fe:RhD)(fg:RhG):RhO:=λρ=>match fe ρ with
 |none=>none
 | some (d,ρ1)=>match fg d ρ1 with
   |none=>none
   |some ρ2=>some (.nx ρ2)
theorem qka{T:List Nat}(he:ME c.K O te fe)(hs:subO c O O'=true)(hg:MG c.K O' T g fg):MS c O O' (tAsg te g) (sAsg fe fg):=λZ E σ H R ρ o hP S e k=>by
 unfold sAsg at e
 cases e1:fe ρ with
 |none=>rw[e1]at e;cases e
 | some p=>
   obtain⟨d,ρ1⟩:=p
   rw[e1]at e
   dsimp only at e
   cases e2:fg d ρ1 with
   |none=>rw[e2]at e;cases e
   | some ρ2=>
     rw[e2]at e
     cases e
     refine he Z σ H R ρ d ρ1 _ S e1 λv H1 R1 S1 st1 r1=>?_
     obtain⟨S2,s2⟩:=S1.sub' hP hs
     exact hg Z σ H1 _ ρ1 v d ρ2 _ S2 (r1.mono s2) e2 λσ' S3 _=>k σ' H1 _ S3 (st1.r.trans s2)
def sIf(ft:RhB)(f h:RhO):RhO:=λρ=>match ft ρ with
 |none=>none
 |some (b,ρ1)=>if b=true then f ρ1 else h ρ1
theorem q6x(ht:MT c.K O tt ft)(h1:MS c O O' t f)(h2:MS c O O' u h):MS c O O' (tIfS tt t u) (sIf ft f h):=λZ E σ H R ρ o hP S e k=>by
 unfold sIf at e
 cases e1:ft ρ with
 |none=>rw[e1]at e;cases e
 | some p=>
   obtain⟨b,ρ1⟩:=p
   rw[e1]at e
   dsimp only at e
   refine ht Z σ H R ρ b ρ1 _ S e1 λH1 R1 S1 st1=>?_
   have k':E.ok c Z O' R1 o:=by
     cases o with
     |nx ρ'=>exact λσ2 H2 R2 S2 s2=>k σ2 H2 R2 S2 (st1.r.trans s2)
     |bk ρ'=>exact λσ2 H2 R2 S2 s2=>k σ2 H2 R2 S2 (st1.r.trans s2)
     |ct ρ'=>exact λσ2 H2 R2 S2 s2=>k σ2 H2 R2 S2 (st1.r.trans s2)
     |rt d ρ'=>exact k
   cases b with
   |true=>exact iteT (h1 Z E σ H1 R1 ρ1 o hP S1 e k')
   |false=>exact iteF (h2 Z E σ H1 R1 ρ1 o hP S1 e k')
def sRet(fe:RhD):RhO:=λρ=>match fe ρ with
 |none=>none
 |some (d,ρ1)=>some (.rt d ρ1)
theorem q1n(hf:c.fr=false)(he:ME c.K O te fe)(hs:subO c O c.P=true):MS c O O' (tRet te) (sRet fe):=λZ E σ H R ρ o hP S e k=>by
 unfold sRet at e
 cases e1:fe ρ with
 |none=>rw[e1]at e;cases e
 | some p=>
   obtain⟨d,ρ1⟩:=p
   rw[e1]at e
   cases e
   refine he Z σ H R ρ d ρ1 _ S e1 λv H1 R1 S1 st1 r1=>?_
   obtain⟨S2,s2⟩:=S1.sub' hP hs
   refine k v σ H1 _ S2 ?_
   unfold Res
   rw[hf]
   exact r1.mono s2
theorem StR.drop{K:PySem.W.Frag}{Z:Anc}{σ:St}{H R:Hp}{ρ:Rho}{i:Nat}(S:StR K Z O σ H R ρ)(hO:∀j,j∈O'->j∈O/\j≠i)(hc:∀j,j∈O->j≠i->j∈O'):StR K Z O' σ H R (ρ.set i none):=by
 refine⟨S.sub,by rw[x4];exact S.len,λj d hj e=>?_,λj hj=>?_,λj k hj hk=>S.dis j k (hO j hj).1 (hO k hk).1,S.ah,S.ar,S.an,S.ad,λj hj=>S.ao j (hO j hj).1,λj hj=>S.ap j (hO j hj).1⟩
 · by_cases z:i=j
   · subst z
     have hl:i<ρ.length:=by
       have:=(List.getElem?_eq_some_iff.mp e).1
       rwa [x4]at this
     rw[jv hl]at e
     cases e
   · rw[jd z]at e
     exact S.env j d (λq=>hj (hc j q (Ne.symm z))) e
 · obtain⟨l,vs,ds,h1,h2⟩:=S.own j (hO j hj).1
   exact⟨l,vs,ds,by rw[jd (Ne.symm (hO j hj).2)];exact h1,h2⟩
def q4s(i:Nat):RhO:=λρ=>match ρ[i]? with
 |some (some (.lst xs))=>some (.rt (.lst xs) (ρ.set i none))
 |_=>none
theorem q5y{i:Nat}(hf:c.fr=true)(hi:i∈O)(hs:subO c O (i::c.P)=true)(hp:i∉c.P):MS c O O' (tRet (tVar i)) (q4s i):=λZ E σ H R ρ o hP S e k=>by
 obtain⟨S2,s2⟩:=S.sub' hP hs
 obtain⟨l,vs,ds,h1,h2,h3,h4,h5⟩:=S2.own i jf
 unfold q4s at e
 rw[h1]at e
 have hd:∃xs,ds=.lst xs:=by
   cases h5 with
   |lst _=>exact⟨_,rfl⟩
   |_=>cases e
 obtain⟨xs,rfl⟩:=hd
 cases e
 refine⟨.ref l,h2,k _ σ H _ (S2.drop (i:=i) (O':=c.P) (λj hj=>⟨jj _ hj,λz=>hp (z▸hj)⟩) λj hj n=>?_) ?_⟩
 · rcases List.mem_cons.mp hj with z|z
   · exact absurd z n
   · exact z
 · unfold Res
   rw[hf]
   cases h5 with
   |lst h5=>exact⟨l,_,_,rfl,rfl,S2.ao i jf (by rw[hP];exact hp) l h2,h3,h4,h5⟩
def q0r(fg:RhG)(fb:RhO):List D->RhO
 |[],ρ=>some (.nx ρ)
 | d::r,ρ=>match fg d ρ with
   |none=>none
   | some ρ1=>match fb ρ1 with
     |none=>none
     |some (.nx ρ2)=>q0r fg fb r ρ2
     |some (.ct ρ2)=>q0r fg fb r ρ2
     |some (.bk ρ2)=>some (.nx ρ2)
     |some (.rt d ρ2)=>some (.rt d ρ2)
def sFor(fi:RhL)(fg:RhG)(fb:RhO):RhO:=λρ=>match fi ρ with
 |none=>none
 |some (ds,ρ1)=>q0r fg fb ds ρ1
theorem q27{T:List Nat}{wi:TI}{fi:RhL}{tb:TS}{fb:RhO}(hi:MI c.K O wi fi)(hs:subO c O O'=true)(hg:MG c.K O' T g fg)(hb:MS {c with Ol:=O'} O' O' tb fb):MS c O O' (tFor wi g tb) (sFor fi fg fb):=λZ E σ H R ρ o hP S e k=>by
 unfold sFor at e
 cases e1:fi ρ with
 |none=>rw[e1]at e;cases e
 | some p=>
   obtain⟨ds,ρ1⟩:=p
   rw[e1]at e
   dsimp only at e
   refine hi Z σ H R ρ ds ρ1 _ S e1 λJ H1 R1 S1 st1 ok=>?_
   obtain⟨S2,s2⟩:=S1.sub' hP hs
   have ok2:=ok.mono s2
   refine⟨λi m σ' H'=>m=ds.length-i/\i<=ds.length/\∃R' ρ',StR c.K Z O' σ' H' R' ρ'/\Same (frzR O O' σ H1 R1) R'/\q0r fg fb (ds.drop i) ρ'=some o,⟨ds.length,by simp,Nat.zero_le _,_,ρ1,S2,Same.refl _,by rw[List.drop_zero];exact e⟩,?_⟩
   rintro i m σ' H' ⟨rfl,hi',R',ρ',S',s',e'⟩
   obtain⟨o1,o2⟩:=ok2 H' R' s' S'.sub i
   by_cases hlt:i<ds.length
   · obtain⟨g1,g2⟩:=o2 ds[i] (jw hlt)
     rw[List.drop_eq_getElem_cons hlt]at e'
     refine .inr ⟨g1,λσ3 H3=>∃R3 ρ3,StR c.K Z O' σ3 H3 R3 ρ3/\Same (frzR O O' σ H1 R1) R3/\q0r fg fb (ds.drop (i+1)) ρ3=some o,?_,λx H3 y=>?_⟩
     · rintro σ3 H3 ⟨R3,ρ3,q1,q2,q3⟩
       exact⟨ds.length-(i+1),by omega,rfl,hlt,R3,ρ3,q1,q2,q3⟩
     · obtain⟨R3,x3,r3⟩:=g2 x H3 y
       have S3:=S'.ext x3
       unfold q0r at e'
       cases e3:fg ds[i] ρ' with
       |none=>rw[e3]at e';cases e'
       | some ρ4=>
         rw[e3]at e'
         dsimp only at e'
         refine hg Z σ' H3 R3 ρ' x _ ρ4 _ S3 r3 e3 λσ4 S4 _=>?_
         cases e4:fb ρ4 with
         |none=>rw[e4]at e';cases e'
         | some o4=>
           rw[e4]at e'
           refine hb Z _ σ4 H3 R3 ρ4 o4 hP S4 e4 ?_
           cases o4 with
           |nx ρ5=>exact λσ5 H5 R5 S5 s5=>⟨R5,ρ5,S5,(s'.trans x3.r).trans s5,e'⟩
           |ct ρ5=>exact λσ5 H5 R5 S5 s5=>⟨R5,ρ5,S5,(s'.trans x3.r).trans s5,e'⟩
           | bk ρ5=>
             cases e'
             exact λσ5 H5 R5 S5 s5=>k σ5 H5 R5 S5 (((st1.r.trans s2).trans s').trans (x3.r.trans s5))
           | rt d ρ5=>
             cases e'
             exact k
   · have ei:i=ds.length:=by omega
     subst ei
     rw[List.drop_length]at e'
     unfold q0r at e'
     cases e'
     exact .inl ⟨o1 rfl,k σ' H' R' S' ((st1.r.trans s2).trans s')⟩
def q1l(ft:RhB)(fb:RhO):Nat->RhO
 |0,_=>none
 | n+1,ρ=>match ft ρ with
   |none=>none
   |some (false,ρ1)=>some (.nx ρ1)
   | some (true,ρ1)=>match fb ρ1 with
     |none=>none
     |some (.nx ρ2)=>q1l ft fb n ρ2
     |some (.ct ρ2)=>q1l ft fb n ρ2
     |some (.bk ρ2)=>some (.nx ρ2)
     |some (.rt d ρ2)=>some (.rt d ρ2)
theorem qdt{n:Nat}{tb:TS}{fb:RhO}(ht:MT c.K O' tt ft)(hs:subO c O O'=true)(hb:MS {c with Ol:=O'} O' O' tb fb):MS c O O' (qah tt tb) (q1l ft fb n):=λZ E σ H R ρ o hP S e k=>by
 obtain⟨S2,s2⟩:=S.sub' hP hs
 refine⟨λm σ' H'=>∃R' ρ',StR c.K Z O' σ' H' R' ρ'/\Same (frzR O O' σ H R) R'/\q1l ft fb m ρ'=some o,⟨n,_,ρ,S2,Same.refl _,e⟩,?_⟩
 rintro m σ' H' ⟨R',ρ',S',s',e'⟩
 cases m with
 |zero=>cases e'
 | succ m=>
   unfold q1l at e'
   cases e1:ft ρ' with
   |none=>rw[e1]at e';cases e'
   | some p=>
     obtain⟨b,ρ1⟩:=p
     rw[e1]at e'
     refine ht Z σ' H' R' ρ' b ρ1 _ S' e1 λH1 R1 S1 st1=>?_
     cases b with
     | false=>
       dsimp only at e'
       cases e'
       exact iteF (k σ' H1 R1 S1 ((s2.trans s').trans st1.r))
     | true=>
       dsimp only at e'
       refine iteT ⟨λσ3 H3=>∃R3 ρ3,StR c.K Z O' σ3 H3 R3 ρ3/\Same (frzR O O' σ H R) R3/\q1l ft fb m ρ3=some o,λσ3 H3 q=>⟨m,Nat.lt_succ_self _,q⟩,?_⟩
       cases e4:fb ρ1 with
       |none=>rw[e4]at e';cases e'
       | some o4=>
         rw[e4]at e'
         refine hb Z _ σ' H1 R1 ρ1 o4 hP S1 e4 ?_
         cases o4 with
         |nx ρ5=>exact λσ5 H5 R5 S5 s5=>⟨R5,ρ5,S5,(s'.trans st1.r).trans s5,e'⟩
         |ct ρ5=>exact λσ5 H5 R5 S5 s5=>⟨R5,ρ5,S5,(s'.trans st1.r).trans s5,e'⟩
         | bk ρ5=>
           cases e'
           exact λσ5 H5 R5 S5 s5=>k σ5 H5 R5 S5 ((s2.trans s').trans (st1.r.trans s5))
         | rt d ρ5=>
           cases e'
           exact k
end
section
variable{c:MC}{O O':List Nat}{te ti:TE}{fe fi:RhD}{tr:TA}{fs:RhL}
def isL(ρ:Rho)(i:Nat):Bool:=match ρ[i]? with
 |some (some (.lst _))=>true
 |_=>false
theorem qf8{K:PySem.W.Frag}{R:Hp}{ρ:Rho}{i:Nat}{o:HO}{d:D}(h:isL ρ i=true)(e:ρ[i]? =some (some d))(b:Ob K R o d):∃vs ds,o=.lst vs/\d=.lst ds/\Rps K R vs ds:=by
 unfold isL at h
 rw[e]at h
 cases b with
 |lst r=>exact⟨_,_,rfl,rfl,r⟩
 |_=>cases h
def sMut(g:List D->List D->Option (List D))(i:Nat)(fs:RhL):RhO:=λρ=>if isL ρ i=true then(match fs ρ with
 |none=>none
 | some (as,ρ1)=>match ρ1[i]? with
   | some (some (.lst xs))=>match g xs as with
     |some ys=>some (.nx (ρ1.set i (some (.lst ys))))
     |none=>none
   |_=>none)else none
def qlp(K:PySem.W.Frag)(r:V->List V->Hp->VK->Prop)(g:List D->List D->Option (List D)):Prop:=∀(H R:Hp) (l:Addr) (xs:List V) (ds:List D) (vs:List V) (as bs:List D) (Q:VK),(∀a o,R a=some o->H a=some o)->H l=some (.lst xs)->R l=none->Rps K R xs ds->Rps K R vs as->g ds as=some bs->(∀ys,Rps K R ys bs->Q .non (upd H l (.lst ys)))->r (.ref l) vs H Q
theorem q90{r:V->List V->Hp->VK->Prop}{g:List D->List D->Option (List D)}{i:Nat}(hm:qlp c.K r g)(hi:i∈O)(ha:MA c.K O tr fs)(hs:subO c O O'=true):MS c O O' (qaj (tBM c.K "list" r (tVar i) tr)) (sMut g i fs):=λZ E σ H R ρ o hP S e k=>by
 unfold sMut at e
 split at e
 case isFalse=>cases e
 rename_i hL
 cases e1:fs ρ with
 |none=>rw[e1]at e;cases e
 | some p=>
   obtain⟨as,ρ1⟩:=p
   rw[e1]at e
   dsimp only at e
   obtain⟨l,vs,ds,h1,h2,h3,h4,h5⟩:=S.own i hi
   obtain⟨us,_,rfl,rfl,_⟩:=qf8 hL h1 h5
   refine⟨.ref l,h2,.inl ⟨rfl,us,SqL.of h3⟩,ha Z σ H R ρ as ρ1 _ S e1 λws H1 R1 S1 st1 r1=>?_⟩
   obtain⟨l',vs',ds',g1,g2,g3,g4,g5⟩:=S1.own i hi
   rw[h2]at g2
   cases g2
   rw[g1]at e
   cases g5 with
   |dct _=>cases e
   |dit _=>cases e
   |lst g5=>
   rename_i vs' ds'
   dsimp only at e
   cases e2:g ds' as with
   |none=>rw[e2]at e;cases e
   | some ys=>
     rw[e2]at e
     cases e
     refine hm H1 R1 l vs' ds' ws as ys _ S1.sub g3 g4 g5 r1 e2 λzs rz=>?_
     obtain⟨S2,s2⟩:=(S1.write hi h2 (.lst rz)).sub' hP hs
     exact k σ _ _ S2 (st1.r.trans s2)
def q1e:List D->List D->Option (List D):=λxs as=>match as with
 |[d]=>if xs.length<sizeLine then some (xs++[d])else none
 |_=>none
theorem q3t{K:PySem.W.Frag}:qlp K q5t q1e:=λH R l xs ds vs as bs Q s h hr r ra e k=>by
 cases ra with
 |nil=>cases e
 | cons q t=>
   cases t with
   |cons _ _=>cases e
   | nil=>
     rename_i x d
     have e':(if ds.length<sizeLine then some (ds++[d])else none)=some bs:=e
     split at e'
     · rename_i hz
       cases e'
       exact⟨l,xs,x,rfl,rfl,h,by rw[r.length];exact hz,k _ (r.snoc q)⟩
     · cases e'
def qlr:List D->List D->Option (List D):=λxs as=>match as with
 |[.int 0,d]=>if xs.length<sizeLine then some (d::xs)else none
 |_=>none
def qaz(i:Nat)(fe fi:RhD):RhO:=λρ=>match fe ρ with
 |none=>none
 | some (d,ρ1)=>match fi ρ1 with
   | some (.int k,ρ2)=>match ρ2[i]? with
     | some (some (.lst xs))=>match ixN xs.length k with
       |some j=>some (.nx (ρ2.set i (some (.lst (xs.set j d)))))
       |none=>none
     |_=>none
   |_=>none
theorem qgl{i:Nat}(hi:i∈O)(he:ME c.K O te fe)(hx:ME c.K O ti fi)(hs:subO c O O'=true):MS c O O' (tAsg te (gSub (tVar i) ti qix)) (qaz i fe fi):=λZ E σ H R ρ o hP S e k=>by
 unfold qaz at e
 cases e1:fe ρ with
 |none=>rw[e1]at e;cases e
 | some p=>
   obtain⟨d,ρ1⟩:=p
   rw[e1]at e
   dsimp only at e
   cases e2:fi ρ1 with
   |none=>rw[e2]at e;cases e
   | some p=>
     obtain⟨x,ρ2⟩:=p
     rw[e2]at e
     refine he Z σ H R ρ d ρ1 _ S e1 λv H1 R1 S1 st1 r1=>?_
     obtain⟨l,vs,ds,h1,h2,h3,h4,h5⟩:=S1.own i hi
     refine⟨.ref l,h2,hx Z σ H1 R1 ρ1 x ρ2 _ S1 e2 λw H2 R2 S2 st2 r2=>?_⟩
     obtain⟨l',vs',ds',g1,g2,g3,g4,g5⟩:=S2.own i hi
     rw[h2]at g2
     cases g2
     cases r2 with
     | int j=>
       dsimp only at e
       rw[g1]at e
       cases g5 with
       |dct _=>cases e
       |dit _=>cases e
       |lst g5=>
       rename_i vs' ds'
       dsimp only at e
       cases e3:ixN ds'.length j with
       |none=>rw[e3]at e;cases e
       | some m=>
         rw[e3]at e
         cases e
         refine⟨l,vs',j,m,rfl,rfl,g3,by rw[g5.length];exact e3,?_⟩
         obtain⟨S3,s3⟩:=(S2.write hi h2 (.lst (g5.set (r1.mono st2.r) m))).sub' hP hs
         exact k σ _ _ S3 ((st1.r.trans st2.r).trans s3)
     |_=>cases e
def sAug(g:Int->Int->Int)(i:Nat)(fe:RhD):RhO:=λρ=>match ρ[i]? with
 | some (some (.int x))=>match fe ρ with
   |some (.int y,ρ1)=>some (.nx (ρ1.set i (some (.int (g x y)))))
   |_=>none
 |_=>none
theorem qk9{g:Int->Int->Int}{i:Nat}(hi:i∉O)(hi':i∉O')(he:ME c.K O te fe)(hs:subO c O O'=true):MS c O O' (tAug i te (ipI g)) (sAug g i fe):=λZ E σ H R ρ o hP S e k=>by
 unfold sAug at e
 cases e0:ρ[i]? with
 |none=>rw[e0]at e;cases e
 | some q=>
   rw[e0]at e
   cases q with
   |none=>cases e
   | some d=>
     obtain⟨v,h1,h2⟩:=S.env i d hi e0
     cases h2 with
     | int x=>
       dsimp only at e
       cases e1:fe ρ with
       |none=>rw[e1]at e;cases e
       | some p=>
         obtain⟨y,ρ1⟩:=p
         rw[e1]at e
         refine⟨.int x,h1,he Z σ H R ρ y ρ1 _ S e1 λw H1 R1 S1 st1 r1=>?_⟩
         cases r1 with
         | int j=>
           cases e
           obtain⟨S2,s2⟩:=S1.sub' hP hs
           exact⟨x,j,rfl,rfl,k _ H1 _ (S2.set hi' (.int _)) (st1.r.trans s2)⟩
         |_=>cases e
     |_=>cases e
end
def runP(fr:Bool)(n N:Nat)(f:RhO)(ds:List D):Option D:=if ds.length=n then match f (ds.map some++List.replicate (N-n) none)with
   |some (.rt d _)=>some d
   |some (.nx _)=>if fr=true then none else some .non
   |_=>none
 else none
def spP(K:PySem.W.Frag)(fr:Bool)(n:Nat)(f:List D->Option D):Sp:=λvs H Q _=>vs.length=n/\∃R ds d,(∀a o,R a=some o->H a=some o)/\Rps K R vs ds/\f ds=some d/\∀v H' R',Ext H R H' R'->Res K fr H v d H' R'->Q v H'
theorem q3m{N:List Str}{vs:List V}{i:Nat}{v:V}(h:vs[i]? =some v):(start N vs)[i]? =some (some v):=by
 unfold start
 have hi:i<vs.length:=(List.getElem?_eq_some_iff.mp h).1
 rw[v9 (by simpa using hi),ju,h]
 rfl
theorem q3n{ds:List D}{m i:Nat}{d:D}(h:(ds.map some++List.replicate m none)[i]? =some (some d)):ds[i]? =some d:=by
 by_cases hi:i<ds.length
 · rw[v9 (by simpa using hi),ju]at h
   cases q:ds[i]? with
   |none=>rw[q]at h;cases h
   |some e=>rw[q]at h;cases h;rfl
 · rw[ke (by simpa using hi),va]at h
   split at h<;>cases h
theorem q15{K:PySem.W.Frag}{fr:Bool}{n:Nat}{Nms:List Str}{O':List Nat}{t:TS}{f:RhO}{vs:List V}{H:Hp}{Q:VK}{E:XK}(hm:MS ⟨K,fr,[],[]⟩ [] O' t f)(h:spP K fr n (runP fr n Nms.length f) vs H Q E):t {nx:=λ_ H'=>Q .non H',rt:=Q} (start Nms vs) H:=by
 obtain⟨hn,R,ds,d,sub,r,e,k⟩:=h
 unfold runP at e
 split at e
 · rename_i hl
   have S:StR K ⟨H,R,λ_=>False,[]⟩ [] (start Nms vs) H R (ds.map some++List.replicate (Nms.length-n) none):=by
     refine⟨sub,?_,λi d _ q=>?_,λi hi=>absurd hi (by simp),λi j hi=>absurd hi (by simp),λa o q _=>q,Same.refl _,λa q=>.inl q,λa q=>.refl q,λi hi=>absurd hi (by simp),λi hi=>absurd hi (by simp)⟩
     · unfold start
       rw[jm,jm,j9,j9,xj,xj,hn,hl]
     · obtain⟨v,h1,h2⟩:=r.get (q3n q)
       exact⟨v,q3m h1,h2⟩
   have ext:∀{O1:List Nat} {σ':St} {H' R':Hp} {ρ':Rho},StR K ⟨H,R,λ_=>False,[]⟩ O1 σ' H' R' ρ'->Ext H R H' R':=λS'=>⟨λa o q=>S'.ah a o q (λz=>z),S'.ar,S'.sub,S'.an⟩
   cases e1:f (ds.map some++List.replicate (Nms.length-n) none)with
   |none=>rw[e1]at e;cases e
   | some o=>
     rw[e1]at e
     refine hm _ _ _ _ _ _ o rfl S e1 ?_
     cases o with
     | nx ρ'=>
       dsimp only at e
       split at e
       · cases e
       · rename_i hf
         cases e
         refine λσ' H' R' S' _=>k .non H' R' (ext S') ?_
         cases fr with
         |false=>exact .non
         |true=>exact absurd rfl hf
     |bk ρ'=>cases e
     |ct ρ'=>cases e
     | rt d' ρ'=>
       cases e
       exact λv σ' H' R' S' q=>k v H' R' (ext S') q
 · cases e
def runS(fr:Bool)(n N:Nat)(f:RhO)(xs ds:List D):Option (D×List D):=if ds.length+1=n then match f (some (.lst xs)::(ds.map some++List.replicate (N-n) none))with
   | some (.rt d ρ)=>(match (ρ[0]? :Option (Option D))with
     |some (some (D.lst ys))=>some (d,ys)
     |_=>none)
   | some (.nx ρ)=>if fr=true then none else(match (ρ[0]? :Option (Option D))with
     |some (some (D.lst ys))=>some (.non,ys)
     |_=>none)
   |_=>none
 else none
structure ExtS(l:Addr)(H R H' R':Hp):Prop where
 h:∀a o,a≠l->H a=some o->H' a=some o
 r:Same R R'
 s:∀a o,R' a=some o->H' a=some o
 n:∀a,R' a≠none->R a≠none∨Frh H a
 d:∀a,H a≠none->Liv H H' a
def spS(K:PySem.W.Frag)(fr:Bool)(n:Nat)(f:List D->List D->Option (D×List D)):Sp:=λvs H Q _=>vs.length=n/\∃l ws R us xs ds d ys,vs=.ref l::ws/\H l=some (.lst us)/\R l=none/\(∀a o,R a=some o->H a=some o)/\Rps K R us xs/\Rps K R ws ds/\f xs ds=some (d,ys)/\
 ∀v H' R' us',ExtS l H R H' R'->H' l=some (.lst us')->R' l=none->Rps K R' us' ys->Res K fr H v d H' R'->Q v H'
theorem q8i{K:PySem.W.Frag}{fr:Bool}{n:Nat}{Nms:List Str}{O':List Nat}{t:TS}{f:RhO}{vs:List V}{H:Hp}{Q:VK}{E:XK}(hm:MS ⟨K,fr,[0],[]⟩ [0] [0] t f)(h:spS K fr n (runS fr n Nms.length f) vs H Q E):t {nx:=λ_ H'=>Q .non H',rt:=Q} (start Nms vs) H:=by
 obtain⟨hn,l,ws,R,us,xs,ds,d,ys,rfl,hH,hR,sub,ru,r,e,k⟩:=h
 unfold runS at e
 split at e
 · rename_i hl
   have ln:ws.length+1=n:=by simpa using hn
   have S:StR K ⟨H,R,λa=>a=l,[0]⟩ [0] (start Nms (.ref l::ws)) H R (some (.lst xs)::(ds.map some++List.replicate (Nms.length-n) none)):=by
     have one:∀i,i∈[0]->i=0:=λi hi=>by simpa using hi
     refine⟨sub,?_,λi d hi q=>?_,λi hi=>?_,λi j hi hj z=>absurd ((one i hi).trans (one j hj).symm) z,λa o q _=>q,Same.refl _,λa q=>.inl q,λa q=>.refl q,λi hi z=>absurd hi z,λi hi _ a q=>?_⟩
     · unfold start
       simp only[List.map_cons,List.cons_append,List.length_cons,List.length_append,List.length_map,List.length_replicate]
       omega
     · cases i with
       |zero=>exact absurd (by simp) hi
       | succ i=>
         rw[List.getElem?_cons_succ]at q
         obtain⟨v,h1,h2⟩:=r.get (q3n q)
         exact⟨v,q3m (by rw[List.getElem?_cons_succ];exact h1),h2⟩
     · cases one i hi
       exact⟨l,.lst us,.lst xs,rfl,rfl,hH,hR,.lst ru⟩
     · cases one i hi
       have q':some (some (V.ref l))=some (some (V.ref a)):=q
       cases q'
       rfl
   have ext:∀{σ':St} {H' R':Hp} {ρ':Rho},StR K ⟨H,R,λa=>a=l,[0]⟩ [0] σ' H' R' ρ'->ExtS l H R H' R'/\∃us' zs,ρ'[0]? =some (some zs)/\H' l=some us'/\R' l=none/\Ob K R' us' zs:=λ{σ' H' R' ρ'} S'=>by
     refine⟨⟨λa o n q=>S'.ah a o q n,S'.ar,S'.sub,S'.an,S'.ad⟩,?_⟩
     obtain⟨l',us',zs,h1,h2,h3,h4,h5⟩:=S'.own 0 (by simp)
     have el:l'=l:=S'.ap 0 (by simp) (by simp) l' h2
     subst el
     exact⟨us',zs,h1,h3,h4,h5⟩
   cases e1:f (some (.lst xs)::(ds.map some++List.replicate (Nms.length-n) none))with
   |none=>rw[e1]at e;cases e
   | some o=>
     rw[e1]at e
     refine hm _ _ _ _ _ _ o rfl S e1 ?_
     cases o with
     | nx ρ'=>
       dsimp only at e
       split at e
       · cases e
       · rename_i hf
         refine λσ' H' R' S' _=>?_
         obtain⟨x,us',zs,q1,q2,q3,q4⟩:=ext S'
         rw[q1]at e
         cases q4 with
         |dct _=>cases e
         |dit _=>cases e
         |lst q4=>
         cases e
         refine k .non H' R' _ x q2 q3 q4 ?_
         cases fr with
         |false=>exact .non
         |true=>exact absurd rfl hf
     |bk ρ'=>cases e
     |ct ρ'=>cases e
     | rt d' ρ'=>
       dsimp only at e
       refine λv σ' H' R' S' q=>?_
       obtain⟨x,us',zs,q1,q2,q3,q4⟩:=ext S'
       rw[q1]at e
       cases q4 with
       |dct _=>cases e
       |dit _=>cases e
       |lst q4=>
       cases e
       exact k v H' R' _ x q2 q3 q4 q
 · cases e
section
variable{K:PySem.W.Frag}{O:List Nat}{tr:TA}{fs:RhL}{E:XK}{n:Nat}
def q12(f:List D->Option D)(fs:RhL):RhD:=q14 fs λds=>q1u (f ds)
def q1s(n:Nat)(f:List D->Option D):Prop:=∀ds d,f ds=some d->ds.length=n
theorem q2h{fr:Bool}{n N:Nat}{f:RhO}:q1s n (runP fr n N f):=λds d e=>by
 unfold runP at e
 split at e
 · assumption
 · cases e
theorem q1h{f:List D->Option D}(hf:q1s n f)(h:MA K O tr fs):ME K O (q4e (spP K false n f) [] E tr) (q12 f fs):=λZ σ H R ρ d ρ' Q S e k=>by
 obtain⟨ds,ρ1,e1,e⟩:=q08 e
 obtain⟨e2,rfl⟩:=q0d e
 refine h Z σ H R ρ ds _ _ S e1 λvs H1 R1 S1 st1 r1=>?_
 show spP K false n f (vs++[]) H1 Q E
 rw[List.append_nil]
 exact⟨by rw[r1.length];exact hf ds d e2,R1,ds,d,S1.sub,r1,e2,λv H2 R2 x q=>k v H2 R2 (S1.ext x) (st1.trans x.stp) q⟩
def qby(o:Option D):Option (List D):=match o with
 |some (.lst ds)=>some ds
 |_=>none
def q2m(f:List D->Option D)(fs:RhL):RhL:=q14 fs λds=>q1u (qby (f ds))
theorem q9z{o:Option D}{ds:List D}(h:qby o=some ds):o=some (.lst ds):=by
 unfold qby at h
 split at h
 · cases h;rfl
 · (first|obtain rfl:=h.isA rfl|cases h)
theorem q4n{f:List D->Option D}(hf:q1s n f)(h:MA K O tr fs):MN K O (q4e (spP K true n f) [] E tr) (q2m f fs):=λZ σ H R ρ d ρ' Q S e k=>by
 obtain⟨ds,ρ1,e1,e⟩:=q08 e
 obtain⟨e2,rfl⟩:=q0d e
 have e3:=q9z e2
 refine h Z σ H R ρ ds _ _ S e1 λvs H1 R1 S1 st1 r1=>?_
 show spP K true n f (vs++[]) H1 Q E
 rw[List.append_nil]
 refine⟨by rw[r1.length];exact hf ds _ e3,R1,ds,_,S1.sub,r1,e3,λv H2 R2 x q=>?_⟩
 obtain⟨l,us,gs,rfl,e4,h0,hH,hR,r⟩:=q
 cases e4
 exact k l us H2 R2 (S1.ext x) (st1.trans x.stp) (st1.new h0) hH hR r
def q0o(f:List D->List D->Option (D×List D))(i:Nat)(fs:RhL):RhD:=q14 fs λds ρ=>match ρ[i]? with
 | some (some (.lst xs))=>match f xs ds with
   |some (d,ys)=>some (d,ρ.set i (some (.lst ys)))
   |none=>none
 |_=>none
def qdj(n:Nat)(f:List D->List D->Option (D×List D)):Prop:=∀xs ds r,f xs ds=some r->ds.length+1=n
theorem qeu{fr:Bool}{n N:Nat}{f:RhO}:qdj n (runS fr n N f):=λxs ds r e=>by
 unfold runS at e
 split at e
 · assumption
 · cases e
theorem q1m{f:List D->List D->Option (D×List D)}{i:Nat}(hf:qdj n f)(hi:i∈O)(h:MA K O tr fs):ME K O (q4e (spS K false n f) [] E (q23 (tVar i) tr)) (q0o f i fs):=λZ σ H R ρ d ρ' Q S e k=>by
 obtain⟨ds,ρ1,e1,e⟩:=q08 e
 obtain⟨l,vs0,ds0,h1,h2,h3,h4,h5⟩:=S.own i hi
 refine⟨.ref l,h2,h Z σ H R ρ ds ρ1 _ S e1 λvs H1 R1 S1 st1 r1=>?_⟩
 obtain⟨l',us,xs,g1,g2,g3,g4,g5⟩:=S1.own i hi
 rw[h2]at g2
 cases g2
 rw[g1]at e
 cases g5 with
 |dct _=>cases e
 |dit _=>cases e
 |lst g5=>
 rename_i us xs
 dsimp only at e
 cases e2:f xs ds with
 |none=>rw[e2]at e;cases e
 | some p=>
   obtain⟨d',ys⟩:=p
   rw[e2]at e
   cases e
   show spS K false n f (.ref l::vs++[]) H1 Q E
   rw[List.append_nil]
   refine⟨by rw[jk,r1.length];exact hf _ _ _ e2,l,vs,R1,us,xs,ds,d,ys,rfl,g3,g4,S1.sub,g5,r1,e2,λv H2 R2 us' x hH hR ru q=>?_⟩
   have z5:i<ρ1.length:=(List.getElem?_eq_some_iff.mp g1).1
   have st2:Stp O σ H1 R1 H2 R2:=⟨x.r,λa o e n=>x.h a o (λz=>by subst z;exact n i hi h2) e,x.n,x.d⟩
   have other:∀j,j∈O->i≠j->∀m,σ[j]? =some (some (.ref m))->m≠l:=λj hj n m e z=>by
     subst z
     exact S1.dis i j hi hj n m h2 e
   refine k v H2 R2 ⟨x.s,by rw[x4];exact S1.len,λj e hj q=>?_,λj hj=>?_,S1.dis,λa o e n=>?_,S1.ar.trans x.r,λa h=>?_,λa h=>(S1.ad a h).trans (x.d a (S1.ad a h).1),S1.ao,S1.ap⟩ (st1.trans st2) q
   · have n:i≠j:=λz=>hj (z▸hi)
     rw[jd n]at q
     obtain⟨w,q1,q2⟩:=S1.env j e hj q
     exact⟨w,q1,q2.mono x.r⟩
   · by_cases n:i=j
     · subst n
       exact⟨l,.lst us',.lst ys,by rw[jv z5],h2,hH,hR,.lst ru⟩
     · obtain⟨m,vs',ds',q1,q2,q3,q4,q5⟩:=S1.own j hj
       refine⟨m,vs',ds',by rw[jd n];exact q1,q2,x.h _ _ (other j hj n m q2) q3,?_,q5.mono x.r⟩
       cases z:R2 m with
       |none=>rfl
       | some o=>
         rcases x.n m (by rw[z];exact λy=>nomatch y)with y|y
         · exact absurd q4 y
         · exact(q5.noF q3 y).elim
   · have ne:a≠l:=λz=>by
       subst z
       by_cases hp:i∈Z.P
       · exact n (S1.ap i hi hp a h2)
       · rw[S1.ao i hi hp a h2]at e;cases e
     exact x.h a o ne (S1.ah a o e n)
   · rcases x.n a h with z|z
     · exact S1.an a z
     · exact .inr (z.back (S1.ad a))
end
def qj3(K:PySem.W.Frag):R2:=λx y H Q=>∃l b xs zs,x=.ref l/\y=.ref b/\SqL K H l xs/\SqL K H b zs/\xs.length+zs.length<=sizeLine/\∀p,H p=none->Q (.ref p) (upd H p (.lst (xs++zs)))
def qj2(K:PySem.W.Frag):R2:=λx y H Q=>∃a b xs ys,x=.ref a/\y=.ref b/\SqT K H a xs/\SqT K H b ys/\xs.length+ys.length<=sizeLine/\
 (xs=[]->Q (.ref b) H)/\(xs≠[]->ys=[]->Q (.ref a) H)/\(xs≠[]->ys≠[]->∀p,H p=none->Q (.ref p) (upd H p (.tup (xs++ys))))
section
variable{X:Cx}{K:PySem.W.Frag}
theorem qgf(hK:X.K=K):OpR X (binaryOp .Add) (qj3 K):=by
 subst hK
 intro z4 s σ H x y v u Q I rx ry h
 obtain⟨l,b,xs,zs,rfl,rfl,hH,hB,hz,q⟩:=h
 (first|obtain rfl:=rx.isA rfl|cases rx)
 (first|obtain rfl:=ry.isA rfl|cases ry)
 obtain⟨its,r,pl,z⟩:=I.list hH
 obtain⟨its2,r2,pl2,z2⟩:=I.list hB
 obtain⟨⟨cls,dd,data,sl⟩,ho,hc,n,hd⟩:=pl.isList
 obtain⟨⟨cls2,dd2,data2,sl2⟩,ho2,hc2,n2,hd2⟩:=pl2.isList
 simp only at hc hd hc2 hd2
 subst hc hd hc2 hd2
 have e:its.toArray++its2.toArray=(its++its2).toArray:=by simp
 refine concat_meets ⟨_,ho,rfl⟩ ⟨_,ho2,rfl⟩ noFill_list_add seq_list_add PySem.F.slot_list_add PySem.F.entry_list_add (PySem.F.args_list_add_2 _ _) (list_addW l b its.toArray its2.toArray n n2 dd dd2 sl sl2 (by rw[jl,jl,<-r.length,<-r2.length];exact hz)) ⟨ho,ho2,?_⟩
 rw[e]
 exact⟨.ref _,_,I.lnew (t':=s.toks) (r.append r2) (by rw[jm];omega),rfl,q _ I.fresh⟩
theorem qge(hK:X.K=K):OpR X (binaryOp .Add) (qj2 K):=by
 subst hK
 intro z4 s σ H x y v u Q I rx ry h
 obtain⟨a,b,xs,ys,rfl,rfl,ha,hb,hz,q0,q1,q2⟩:=h
 (first|obtain rfl:=rx.isA rfl|cases rx)
 (first|obtain rfl:=ry.isA rfl|cases ry)
 obtain⟨its,r1,p1,_⟩:=I.tuple ha
 obtain⟨its2,r2,p2,_⟩:=I.tuple hb
 obtain⟨⟨cls,dd,data,sl⟩,ho,hc,n,hd⟩:=id p1
 obtain⟨⟨cls2,dd2,data2,sl2⟩,ho2,hc2,n2,hd2⟩:=id p2
 simp only at hc hd hc2 hd2
 subst hc hd hc2 hd2
 have e:its.toArray++its2.toArray=(its++its2).toArray:=by simp
 by_cases hv:its=[]
 · exact concat_meets ⟨_,ho,rfl⟩ ⟨_,ho2,rfl⟩ noFill_tuple_add seq_tuple_add PySem.F.slot_tuple_add PySem.F.entry_tuple_add (PySem.F.args_tuple_add_2 _ _)
     (tuple_addW0 a b its.toArray its2.toArray n n2 dd dd2 sl sl2 (by simp[hv])) ⟨ho,ho2,⟨.ref b,H,I,rfl,q0 (r1.nil_iff.mp hv)⟩⟩
 · have hx:xs≠[]:=λz=>hv (r1.nil_iff.mpr z)
   by_cases hw:its2=[]
   · exact concat_meets ⟨_,ho,rfl⟩ ⟨_,ho2,rfl⟩ noFill_tuple_add seq_tuple_add PySem.F.slot_tuple_add PySem.F.entry_tuple_add (PySem.F.args_tuple_add_2 _ _)
       (tuple_addW1 a b its.toArray its2.toArray n n2 dd dd2 sl sl2 (by simpa using hv) (by simp[hw])) ⟨ho,ho2,⟨.ref a,H,I,rfl,q1 hx (r2.nil_iff.mp hw)⟩⟩
   · refine concat_meets ⟨_,ho,rfl⟩ ⟨_,ho2,rfl⟩ noFill_tuple_add seq_tuple_add PySem.F.slot_tuple_add PySem.F.entry_tuple_add (PySem.F.args_tuple_add_2 _ _)
       (tuple_addW2 a b its.toArray its2.toArray n n2 dd dd2 sl sl2 (by simpa using hv) (by simpa using hw) (by rw[List.size_toArray,List.size_toArray,<-r1.length,<-r2.length];exact hz)) ⟨ho,ho2,?_⟩
     rw[e]
     refine⟨.ref s.heap.objs.size,_,I.laid (t':=s.toks) (o:=.tup (xs++ys)) (λb ob q=>ja _ q) (jc _) ?_,rfl,q2 hx (λw=>hw (r2.nil_iff.mpr w)) _ (I.hok.fresh (jc _))⟩
     exact⟨by rw[jm];exact hz,_,r1.append r2,TupN.new _ _⟩
def qj4(K:PySem.W.Frag):R2:=λx y H Q=>rI0 (λi j=>.int (i+j)) x y H Q∨qj3 K x y H Q∨qj2 K x y H Q∨∃i j,x=.str i/\y=.str j/\i.length+j.length<=sizeLine/\Q (.str (i++j)) H
theorem q2c(hK:X.K=K):OpR X (binaryOp .Add) (qj4 K):=op_add.or ((qgf hK).or ((qge hK).or q9r))
end
section
variable{K:PySem.W.Frag}{O:List Nat}
def dAdd:D->D->Option D
 |.int i,.int j=>some (.int (i+j))
 |.lst xs,.lst ys=>if xs.length+ys.length<=sizeLine then some (.lst (xs++ys))else none
 |.tup xs,.tup ys=>if xs.length+ys.length<=sizeLine then some (.tup (xs++ys))else none
 |.str x,.str y=>if x.length+y.length<=sizeLine then some (.str (x++y))else none
 |_,_=>none
theorem q39:OpG K (qj4 K) dAdd:=λH R x y d e u Q s rx ry q k=>by
 unfold dAdd at q
 split at q
 · rename_i i j
   (first|obtain rfl:=q.isA rfl|cases q)
   (first|obtain rfl:=rx.isA rfl|cases rx)
   (first|obtain rfl:=ry.isA rfl|cases ry)
   exact .inl ⟨i,j,rfl,rfl,k _ H R (Ext.refl s) (.int _)⟩
 · split at q
   · rename_i hz
     (first|obtain rfl:=q.isA rfl|cases q)
     obtain⟨a1,xs,rfl,h,r⟩:=rx.isL
     obtain⟨a2,ys,rfl,h2,r2⟩:=ry.isL
     refine .inr (.inl ⟨_,_,_,_,rfl,rfl,Same.sqL s h,Same.sqL s h2,by rw[r.length,r2.length];exact hz,λp np=>?_⟩)
     have x:=Ext.new (o:=.lst (xs++ys)) s np
     exact k _ _ _ x (.lst (SqL.of q0a) ((r.append r2).mono x.r))
   · (first|obtain rfl:=q.isA rfl|cases q)
 · split at q
   · rename_i hz
     (first|obtain rfl:=q.isA rfl|cases q)
     obtain⟨a1,xs,rfl,h,r⟩:=rx.isT
     obtain⟨a2,ys,rfl,h2,r2⟩:=ry.isT
     refine .inr (.inr (.inl ⟨_,_,_,_,rfl,rfl,SqT.of (s _ _ h),SqT.of (s _ _ h2),by rw[r.length,r2.length];exact hz,λz=>?_,λ_ z=>?_,λ_ _ p np=>?_⟩))
     · subst z
       (first|obtain rfl:=r.isA rfl|cases r)
       exact k _ H R (Ext.refl s) (.tup h2 r2)
     · subst z
       (first|obtain rfl:=r2.isA rfl|cases r2)
       rw[List.append_nil]at k
       exact k _ H R (Ext.refl s) (.tup h r)
     · have x:=Ext.new (o:=.tup (xs++ys)) s np
       exact k _ _ _ x (.tup q0a ((r.append r2).mono x.r))
   · (first|obtain rfl:=q.isA rfl|cases q)
 · rename_i i j
   split at q
   · rename_i hz
     (first|obtain rfl:=q.isA rfl|cases q)
     (first|obtain rfl:=rx.isA rfl|cases rx)
     (first|obtain rfl:=ry.isA rfl|cases ry)
     exact .inr (.inr (.inr ⟨i,j,rfl,rfl,hz,k _ H R (Ext.refl s) (.str _)⟩))
   · (first|obtain rfl:=q.isA rfl|cases q)
 · (first|obtain rfl:=q.isA rfl|cases q)
end
mutual
def D.toP:D->Option PyData
 |.non=>some .none
 |.bl b=>some (.bool b)
 |.int i=>some (.int i)
 |.str x=>some (.str x)
 |.lst xs=>(D.toPs xs).map PyData.list
 |.tup xs=>(D.toPs xs).map PyData.tuple
 |.obj _ _=>none
 |.dct _=>none
 |.exc _=>none
 |.fn _=>none
 |.tab _ _ _=>none
 |.dit _=>none
def D.toPs:List D->Option (List PyData)
 |[]=>some []
 | d::r=>match D.toP d,D.toPs r with
   |some p,some ps=>some (p::ps)
   |_,_=>none
end
section
variable{K:PySem.W.Frag}{O:List Nat}{R:Hp}
theorem qlc(p:PyData)(e:D.toP .non=some p):DV K R .non p:=by simp only[D.toP]at e;cases e;exact .non
theorem qmp(b:Bool)(p:PyData)(e:D.toP (.bl b)=some p):DV K R (.bl b) p:=by simp only[D.toP]at e;cases e;exact .bl b
theorem qle(b:Int)(p:PyData)(e:D.toP (.int b)=some p):DV K R (.int b) p:=by simp only[D.toP]at e;cases e;exact .int b
theorem qlb(b:Str)(p:PyData)(e:D.toP (.str b)=some p):DV K R (.str b) p:=by simp only[D.toP]at e;cases e;exact .str b
theorem qld{a:Addr}{xs:List V}{ds:List D}{p:PyData}(h:SqL K R a xs)(r:∀ps,D.toPs ds=some ps->DVs K R xs ps)(e:D.toP (.lst ds)=some p):DV K R (.ref a) p:=by
 simp only[D.toP]at e
 cases z:D.toPs ds with
 |none=>rw[z]at e;cases e
 |some ps=>rw[z]at e;cases e;exact .lst h (r _ z)
theorem qla{a:Addr}{xs:List V}{ds:List D}{p:PyData}(h:R a=some (.tup xs))(r:∀ps,D.toPs ds=some ps->DVs K R xs ps)(e:D.toP (.tup ds)=some p):DV K R (.ref a) p:=by
 simp only[D.toP]at e
 cases z:D.toPs ds with
 |none=>rw[z]at e;cases e
 |some ps=>rw[z]at e;cases e;exact .tup (SqT.of h) (r _ z)
theorem qhs(ps:List PyData)(e:D.toPs []=some ps):DVs K R [] ps:=by simp only[D.toPs]at e;cases e;exact .nil
theorem qek{x:V}{xs:List V}{d:D}{ds:List D}{ps:List PyData}(h:∀p,d.toP=some p->DV K R x p)(r:∀ps,D.toPs ds=some ps->DVs K R xs ps)(e:D.toPs (d::ds)=some ps):DVs K R (x::xs) ps:=by
 simp only[D.toPs]at e
 cases z:d.toP with
 |none=>rw[z]at e;cases e
 | some p=>
   cases w:D.toPs ds with
   |none=>rw[z,w]at e;cases e
   |some qs=>rw[z,w]at e;cases e;exact .cons (h _ z) (r _ w)
theorem Rp.dv{v:V}{d:D}{p:PyData}(h:Rp K R v d)(e:d.toP=some p):DV K R v p:=
 Rp.rec (motive_1:=λv d _=>∀p,d.toP=some p->DV K R v p) (motive_2:=λxs ds _=>∀ps,D.toPs ds=some ps->DVs K R xs ps) (motive_3:=λ_ _ _=>True) (motive_4:=λ_ _ _=>True) (motive_5:=λ_ _ _=>True)
   qlc qmp qle qlb (λh _ r _=>qld h r) (λh _ r _=>qla h r) (λ_ _ _ _ _ e=>by simp only[D.toP]at e;cases e) (λ_ _ _ _ e=>by simp only[D.toP]at e;cases e) (λ_ _ _ _ e=>by simp only[D.toP]at e;cases e) (λ_ _ _ _ e=>by simp only[D.toP]at e;cases e) (λ_ _ e=>by simp only[D.toP]at e;cases e) (λ_ _ e=>by simp only[D.toP]at e;cases e)
   qhs (λ_ _ h r _=>qek h r) trivial (λ_ _ _ _=>trivial) trivial (λ_ _ _ _=>trivial) trivial (λ_ _ _ _=>trivial) h _ e
def eqD(d e:D):Option Bool:=match d.toP,e.toP with
 |some p,some q=>if SeqAt.shaped p=true/\SeqAt.shaped q=true then some (PyData.eqv p q)else none
 |_,_=>none
def dEq(d e:D):Option D:=(eqD d e).map .bl
def dNe(d e:D):Option D:=(eqD d e).map λb=>.bl (!b)
theorem q97{d e:D}{b:Bool}(h:eqD d e=some b):∃p q,d.toP=some p/\e.toP=some q/\SeqAt.shaped p=true/\SeqAt.shaped q=true/\PyData.eqv p q=b:=by
 unfold eqD at h
 cases h1:d.toP with
 |none=>rw[h1]at h;cases h
 | some p=>
   cases h2:e.toP with
   |none=>rw[h1,h2]at h;cases h
   | some q=>
     rw[h1,h2]at h
     dsimp only at h
     split at h
     · rename_i z
       exact⟨p,q,rfl,rfl,z.1,z.2,jb h⟩
     · (first|obtain rfl:=h.isA rfl|cases h)
theorem os_eq:OpS K (rEqD K) dEq:=λH x y d e u Q rx ry q k=>by
 unfold dEq at q
 cases h:eqD d e with
 |none=>rw[h]at q;cases q
 | some b=>
   rw[h]at q
   (first|obtain rfl:=q.isA rfl|cases q)
   obtain⟨p,r,h1,h2,h3,h4,h5⟩:=q97 h
   refine⟨p,r,rx.dv h1,ry.dv h2,h3,h4,?_⟩
   rw[h5]
   exact k _ (.bl _)
theorem qji:OpS K (rNeD K) dNe:=λH x y d e u Q rx ry q k=>by
 unfold dNe at q
 cases h:eqD d e with
 |none=>rw[h]at q;cases q
 | some b=>
   rw[h]at q
   (first|obtain rfl:=q.isA rfl|cases q)
   obtain⟨p,r,h1,h2,h3,h4,h5⟩:=q97 h
   refine⟨p,r,rx.dv h1,ry.dv h2,h3,h4,?_⟩
   rw[h5]
   exact k _ (.bl _)
end
section
variable{K:PySem.W.Frag}{O:List Nat}{t ta tb tc:TE}{tr:TA}{fa fb fc:RhD}{fs:RhL}
def qlq(K:PySem.W.Frag)(r:List V->Hp->VK->Prop)(g:D->Option D):Prop:=∀(H R:Hp) (x:V) (d u:D) (Q:VK),(∀a o,R a=some o->H a=some o)->Rp K R x d->g d=some u->(∀v H' R',Ext H R H' R'->Rp K R' v u->Q v H')->r [x] H Q
theorem q32{r:List V->Hp->VK->Prop}{g:D->Option D}(h:qlq K r g)(ha:ME K O t fa):ME K O (tCB r (q23 t tNil)) (mOp1 g fa):=λZ σ H R ρ d ρ' Q S e k=>by
 obtain⟨x,ρ1,e1,e⟩:=q08 e
 obtain⟨e2,rfl⟩:=q0d e
 refine ha Z σ H R ρ x _ _ S e1 λv H1 R1 S1 st1 r1=>?_
 exact h H1 R1 v x d Q S1.sub r1 e2 λw H2 R2 x2 r2=>k w H2 R2 (S1.ext x2) (st1.trans x2.stp) r2
def dSeq:D->Option (List D)
 |.lst xs=>some xs
 |.tup xs=>some xs
 |_=>none
def q22:D->Option D
 |.lst xs=>some (.tup xs)
 |.tup xs=>some (.tup xs)
 |_=>none
theorem q34:qlq K (λxs H Q=>∃p ys,xs=[.ref p]/\((SqL K H p ys/\∀l,H l=none->Q (.ref l) (upd H l (.tup ys)))∨(SqT K H p ys/\Q (.ref p) H))) q22:=λH R x d u Q s r e k=>by
 cases r with
 | lst h q=>
   cases e
   refine⟨_,_,rfl,.inl ⟨Same.sqL s h,λl hl=>?_⟩⟩
   rename_i a xs ds
   have y:=Ext.new (o:=.tup xs) s hl
   exact k _ _ _ y (.tup q0a (q.mono y.r))
 |tup h q=>cases e;exact⟨_,_,rfl,.inr ⟨SqT.of (s _ _ h),k _ H R (Ext.refl s) (.tup h q)⟩⟩
 |_=>cases e
def MO(K:PySem.W.Frag)(O:List Nat)(t:TO)(f:Rho->Option (Option Int×Rho)):Prop:=∀(Z:Anc) (σ:St) (H R:Hp) (ρ:Rho) (o:Option Int) (ρ':Rho) (Q:Option Int->Hp->Prop),StR K Z O σ H R ρ->f ρ=some (o,ρ')->(∀H' R',StR K Z O σ H' R' ρ'->Stp O σ H R H' R'->Q o H')->t σ H Q
theorem q7w:MO K O qai (mRet none):=λZ σ H R ρ o ρ' Q S e k=>by
 cases e
 exact k H R S (Stp.refl _ _ _ _)
def q30(f:RhD):Rho->Option (Option Int×Rho):=q14 f λd=>q1u (match d with
 |.int i=>some (some i)
 |_=>none)
theorem q7v(h:ME K O t fa):MO K O (qih t) (q30 fa):=λZ σ H R ρ o ρ' Q S e k=>by
 obtain⟨x,ρ1,e1,e⟩:=q08 e
 obtain⟨e2,rfl⟩:=q0d e
 refine h Z σ H R ρ x _ _ S e1 λv H1 R1 S1 st1 r1=>?_
 (first|split at e2)
 · rename_i i
   obtain rfl:=r1.isA rfl
   cases e2
   exact⟨i,rfl,k H1 R1 S1 st1⟩
 · cases e2
def cutD(xs:List D)(lo hi:Option Int):List D:=(xs.drop (HT.sIx xs.length 0 lo)).take (HT.sIx xs.length xs.length hi-HT.sIx xs.length 0 lo)
theorem Rps.cut{R:Hp}{xs:List V}{ds:List D}(r:Rps K R xs ds)(lo hi:Option Int):Rps K R (cutV xs lo hi) (cutD ds lo hi):=by
 unfold cutV cutD
 rw[r.length]
 exact(r.drop _).take _
def rSlG(K:PySem.W.Frag):V->Option Int->Option Int->Hp->VK->Prop:=λx lo hi H Q=>rSlL K x lo hi H Q∨rSlT K x lo hi H Q
theorem q7m{X:Cx}(h:X.K=K):SlR X (rSlG K):=by
 subst h
 exact sl_list.or qim
def dSl(d:D)(lo hi:Option Int):Option D:=match d with
 |.lst xs=>some (.lst (cutD xs lo hi))
 |.tup xs=>if HT.sIx xs.length 0 lo=0/\HT.sIx xs.length xs.length hi=xs.length then none else some (.tup (cutD xs lo hi))
 |_=>none
def mSl(f:RhD)(fl fh:Rho->Option (Option Int×Rho)):RhD:=q14 f λd=>q14 fl λlo=>q14 fh λhi=>q1u (dSl d lo hi)
theorem q5z{tl th:TO}{fl fh:Rho->Option (Option Int×Rho)}(h:ME K O t fa)(hl:MO K O tl fl)(hh:MO K O th fh):ME K O (tSl (rSlG K) t tl th) (mSl fa fl fh):=λZ σ H R ρ d ρ' Q S e k=>by
 obtain⟨x,ρ1,e1,e⟩:=q08 e
 obtain⟨lo,ρ2,e2,e⟩:=q08 e
 obtain⟨hi,ρ3,e3,e⟩:=q08 e
 obtain⟨e4,rfl⟩:=q0d e
 refine h Z σ H R ρ x _ _ S e1 λv H1 R1 S1 st1 r1=>hl Z σ H1 R1 ρ1 lo _ _ S1 e2 λH2 R2 S2 st2=>hh Z σ H2 R2 ρ2 hi _ _ S2 e3 λH3 R3 S3 st3=>?_
 have r3:=(r1.mono st2.r).mono st3.r
 have st:=(st1.trans st2).trans st3
 cases r3 with
 | @lst a xs ds q r=>
   cases e4
   refine .inl ⟨a,xs,rfl,Same.sqL S3.same q,λp np=>?_⟩
   have y:=Ext.new (o:=.lst (cutV xs lo hi)) S3.sub np
   exact k _ _ _ (S3.ext y) (st.trans y.stp) (.lst (SqL.of q0a) ((r.cut lo hi).mono y.r))
 | @tup a xs ds q r=>
   have e5:(if HT.sIx ds.length 0 lo=0/\HT.sIx ds.length ds.length hi=ds.length then none else some (D.tup (cutD ds lo hi)))=some d:=e4
   split at e5
   · cases e5
   · rename_i hn
     cases e5
     refine .inr ⟨a,xs,rfl,SqT.of (S3.same _ _ q),by rw[r.length];exact hn,λp np=>?_⟩
     have y:=Ext.new (o:=.tup (cutV xs lo hi)) S3.sub np
     exact k _ _ _ (S3.ext y) (st.trans y.stp) (.tup q0a ((r.cut lo hi).mono y.r))
 |_=>cases e4
theorem qg9{g:Int->Int->Bool}:OpS K (rI0 λi j=>.bl (g i j)) (dB0 g):=λH x y d e u Q rx ry q k=>by
 unfold dB0 at q
 split at q
 · rename_i i j
   (first|obtain rfl:=q.isA rfl|cases q)
   (first|obtain rfl:=rx.isA rfl|cases rx)
   (first|obtain rfl:=ry.isA rfl|cases ry)
   exact⟨i,j,rfl,rfl,k _ (.bl _)⟩
 · (first|obtain rfl:=q.isA rfl|cases q)
def qmh(f:RhL):RhD:=q14 f λds=>q1u (match ds with
 |[.int i,.int j]=>if 0<j/\j<1073741824 then some (.tup [.int (i / j),.int (i % j)])else none
 |_=>none)
def qks(K:PySem.W.Frag)(ta:TA):TI:=λσ H R=>(iZip K true true ta σ H R∨iZip K true false ta σ H R)∨(iZip K false true ta σ H R∨iZip K false false ta σ H R)
theorem q7q{X:Cx}{a b:Expr}{ta:TA}{p pos:Pos}{zo:List Expr}{x1:Nat}{tp:Pos}(hK:X.K=K)(hg:Gl X "zip")(hm:X.mg "zip"=none)(ha:PA X [a,b] ta)(he:starEach [a,b] X.env=(false,eval a X.env)::starEach [b] X.env:=by rfl)(hpl:(backTo pos (starEach [b] X.env)).any (·.1)=false:=by rfl):
   PI X (.Tuple zo x1 tp) (.Call (.Name "zip" p) [a,b] [] pos) (qks K ta):=λz4 s σ H R I q=>by
 rcases q with(q|q)|(q|q)
 · exact q8p true true hK hg hm ha he hpl z4 s σ H R I q
 · exact q8p true false hK hg hm ha he hpl z4 s σ H R I q
 · exact q8p false true hK hg hm ha he hpl z4 s σ H R I q
 · exact q8p false false hK hg hm ha he hpl z4 s σ H R I q
def zipD(xs ys:List D):List D:=List.zipWith (λx y=>D.tup [x,y]) xs ys
def mZip(f:RhL):RhL:=q14 f λds=>q1u (match ds with
 | [x,y]=>match dSeq x,dSeq y with
   |some xs,some ys=>some (zipD xs ys)
   |_,_=>none
 |_=>none)
theorem SqB.inj_same{K:PySem.W.Frag}{b:Bool}{R H:Hp}{p:Addr}{xs:List V}(s:Same R H)(h:SqB K b R p xs):SqB K b H p xs:=by
 cases b
 · exact Same.tup s h
 · exact Same.sqL s h
theorem qkp{R:Hp}{b1 b2:Bool}{p1 p2:Addr}{xs ys:List V}{ds es:List D}(h1:SqB K b1 R p1 xs)(h2:SqB K b2 R p2 ys)(r1:Rps K R xs ds)(r2:Rps K R ys es):ItOk K (Itz K b1 b2 p1 p2) R (zipD ds es):=λH' R' s b i=>by
 have q1:=(SqB.inj_same s h1)
 have q2:=(SqB.inj_same s h2)
 have g1:=(SqB.inj_same b q1)
 have g2:=(SqB.inj_same b q2)
 have len:(zipD ds es).length=min ds.length es.length:=by simp[zipD]
 have l1:=r1.length
 have l2:=r2.length
 refine⟨λe=>⟨xs,ys,g1,g2,by omega⟩,λd e=>?_⟩
 unfold zipD at e
 rw[List.getElem?_zipWith]at e
 cases e1:ds[i]? with
 |none=>rw[e1]at e;cases e
 | some d1=>
   cases e2:es[i]? with
   |none=>rw[e1,e2]at e;cases e
   | some d2=>
     rw[e1,e2]at e
     cases e
     obtain⟨v1,a1,a2⟩:=r1.get e1
     obtain⟨v2,c1,c2⟩:=r2.get e2
     refine⟨⟨xs,ys,v1,v2,g1,g2,a1,c1⟩,λx H'' y=>?_⟩
     obtain⟨T,x1,y1,rfl,hT,rfl,z1,z2⟩:=y
     have w1:=z1 xs g1
     have w2:=z2 ys g2
     rw[a1]at w1
     rw[c1]at w2
     cases w1
     cases w2
     have y:=Ext.new (o:=.tup [v1,v2]) b hT
     exact⟨_,y,.tup q0a (.cons ((a2.mono s).mono y.r) (.cons ((c2.mono s).mono y.r) .nil))⟩
theorem q7b{x:D}{ds:List D}(h:dSeq x=some ds):x=.lst ds∨x=.tup ds:=by
 unfold dSeq at h
 split at h
 · cases h;exact .inl rfl
 · cases h;exact .inr rfl
 · (first|obtain rfl:=h.isA rfl|cases h)
theorem qbr(h:MA K O tr fs):MI K O (qks K tr) (mZip fs):=λZ σ H R ρ ds ρ' Q S e k=>by
 obtain⟨xs,ρ1,e1,e⟩:=q08 e
 obtain⟨e2,rfl⟩:=q0d e
 have go:∀(b1 b2:Bool) (x y:D) (as bs:List D),xs=[x,y]->ds=zipD as bs->(∀(R1:Hp) (v:V),Rp K R1 v x->∃p vs,v=.ref p/\SqB K b1 R1 p vs/\Rps K R1 vs as)->(∀(R1:Hp) (v:V),Rp K R1 v y->∃p vs,v=.ref p/\SqB K b2 R1 p vs/\Rps K R1 vs bs)->iZip K b1 b2 tr σ H Q:=λb1 b2 x y as bs hx hd g1 g2=>by
   subst hx hd
   refine h Z σ H R ρ _ _ _ S e1 λvs H1 R1 S1 st1 r1=>?_
   obtain⟨_,_,rfl,q,r⟩:=r1.isC
   obtain⟨_,_,rfl,q',r⟩:=r.isC
   (first|obtain rfl:=r.isA rfl|cases r)
   obtain⟨p1,us,rfl,s1,t1⟩:=g1 _ _ q
   obtain⟨p2,ws,rfl,s2,t2⟩:=g2 _ _ q'
   exact⟨p1,p2,rfl,⟨us,SqB.inj_same S1.same s1⟩,⟨ws,SqB.inj_same S1.same s2⟩,k _ H1 R1 S1 st1 (qkp s1 s2 t1 t2)⟩
 have gl:∀(as:List D) (R1:Hp) (v:V),Rp K R1 v (.lst as)->∃p vs,v=.ref p/\SqB K true R1 p vs/\Rps K R1 vs as:=λas R1 v r=>by
   obtain⟨_,_,rfl,h,q⟩:=r.isL
   exact⟨_,_,rfl,h,q⟩
 have gt:∀(as:List D) (R1:Hp) (v:V),Rp K R1 v (.tup as)->∃p vs,v=.ref p/\SqB K false R1 p vs/\Rps K R1 vs as:=λas R1 v r=>by
   obtain⟨_,_,rfl,h,q⟩:=r.isT
   exact⟨_,_,rfl,SqT.of h,q⟩
 split at e2
 · rename_i x y
   split at e2
   · rename_i as bs h1 h2
     cases e2
     rcases q7b h1 with rfl|rfl<;>rcases q7b h2 with rfl|rfl
     · exact .inl (.inl (go true true _ _ as bs rfl rfl (gl as) (gl bs)))
     · exact .inl (.inr (go true false _ _ as bs rfl rfl (gl as) (gt bs)))
     · exact .inr (.inl (go false true _ _ as bs rfl rfl (gt as) (gl bs)))
     · exact .inr (.inr (go false false _ _ as bs rfl rfl (gt as) (gt bs)))
   · cases e2
 · cases e2
end
inductive TyO(K:PySem.W.Frag)(H:Hp):V->Value->Prop where
 |of {x:V} {t:Value} (h:TyOf K H x t):TyO K H x t
 |sl {a:Addr} {xs:List V} (h:SqL K H a xs):TyO K H (.ref a) (.type "list")
 |st {a:Addr} {xs:List V} (h:SqT K H a xs):TyO K H (.ref a) (.type "tuple")
def rIsO(K:PySem.W.Frag):List V->Hp->VK->Prop:=λxs H Q=>∃x y t c b,xs=[x,y]/\clsV y=some c/\TyO K H x t/\PySem.W.kitOne K t c=some b/\Q (.bl b) H
section
variable{X:Cx}{K:PySem.W.Frag}{O:List Nat}{t:TE}{fa:RhD}
theorem q4q(hK:X.K=K):q48 X (.builtin "isinstance") (rIsO K):=by
 subst hK
 intro z4 s σ H xs us Q I r h
 obtain⟨x,y,t,c,b,rfl,hc,ty,e,q⟩:=h
 cases ty with
 |of h=>exact qeq rfl z4 s σ H [x,y] us Q I r ⟨x,y,t,c,b,rfl,hc,h,e,q⟩
 | sl h=>
   obtain⟨u,w,rfl,ru,rw'⟩:=vals2 r
   (first|obtain rfl:=ru.isA rfl|cases ru)
   have ew:w=c:=by
     cases y with
     |ref a=>exact(show w=Value.ref a from rw').trans (jb hc)
     |ty n=>exact(show w=Value.type n from rw').trans (jb hc)
     |_=>cases hc
   subst ew
   obtain⟨its,rv,pl,_⟩:=I.list h
   obtain⟨o,e1,c1,_⟩:=pl.isList
   exact PySem.W.kia_one PySem.W.kitx_list I.kIn ⟨o,e1,c1⟩ e (λz=>nomatch z) λtk=>⟨.bl b,H,I.tok tk,rfl,q⟩
 | st h=>
   obtain⟨u,w,rfl,ru,rw'⟩:=vals2 r
   (first|obtain rfl:=ru.isA rfl|cases ru)
   have ew:w=c:=by
     cases y with
     |ref a=>exact(show w=Value.ref a from rw').trans (jb hc)
     |ty n=>exact(show w=Value.type n from rw').trans (jb hc)
     |_=>cases hc
   subst ew
   obtain⟨its,rv,pl,_⟩:=I.tuple h
   obtain⟨o,e1,c1,_⟩:=pl
   exact PySem.W.kia_one PySem.W.kitx_tuple I.kIn ⟨o,e1,c1⟩ e (λz=>nomatch z) λtk=>⟨.bl b,H,I.tok tk,rfl,q⟩
def tyN:D->Option String
 |.non=>some "NoneType"
 |.bl _=>some "bool"
 |.int _=>some "int"
 |.str _=>some "str"
 |.lst _=>some "list"
 |.tup _=>some "tuple"
 |.dct _=>some "dict"
 |.exc _=>none
 |.fn _=>none
 |.tab _ _ _=>none
 |.dit _=>some "dict"
 |.obj _ _=>none
theorem qid{H:Hp}{v:V}{d:D}{n:String}(r:Rp K H v d)(e:tyN d=some n):TyO K H v (.type n):=by
 cases r with
 |non=>cases e;exact .of .non
 |bl b=>cases e;exact .of (.bl b)
 |int i=>cases e;exact .of (.int i)
 |str x=>cases e;exact .of (.str x)
 |lst h _=>cases e;exact .sl h
 |tup h _=>cases e;exact .st (SqT.of h)
 |dct h _=>cases e;exact .of (.dK h)
 |dit h _=>cases e;exact .of (.dT h)
 |obj _ _=>cases e
 |exc _ _ _=>cases e
 |fn _=>cases e
 |tab _=>cases e
def KitB(K:PySem.W.Frag)(Y:String)(f:String->Option Bool):Prop:=∀s b,f s=some b->PySem.W.kitOne K (.type s) (.type Y)=some b
def q24(Y:String):String->Option Bool:=λs=>
 if s="NoneType" then some (decide (Y="NoneType"))else if s="bool" then some (decide (Y="bool")||decide (Y="int"))else if s="int" then some (decide (Y="int"))else if s="str" then some (decide (Y="str"))
 else if s="list" then some (decide (Y="list"))else if s="tuple" then some (decide (Y="tuple"))else if s="dict" then some (decide (Y="dict"))else none
theorem q60{Y:String}(h1:PySem.W.kitOne K (.type "NoneType") (.type Y)=some (decide (Y="NoneType")))(h2:PySem.W.kitOne K (.type "bool") (.type Y)=some (decide (Y="bool")||decide (Y="int")))(h3:PySem.W.kitOne K (.type "int") (.type Y)=some (decide (Y="int")))
   (h4:PySem.W.kitOne K (.type "str") (.type Y)=some (decide (Y="str"))) (h5:PySem.W.kitOne K (.type "list") (.type Y)=some (decide (Y="list"))) (h6:PySem.W.kitOne K (.type "tuple") (.type Y)=some (decide (Y="tuple"))) (h7:PySem.W.kitOne K (.type "dict") (.type Y)=some (decide (Y="dict"))):KitB K Y (q24 Y):=λs b e=>by
 unfold q24 at e
 split at e
 · rename_i z;subst z;rw[<-e];exact h1
 split at e
 · rename_i z;subst z;rw[<-e];exact h2
 split at e
 · rename_i z;subst z;rw[<-e];exact h3
 split at e
 · rename_i z;subst z;rw[<-e];exact h4
 split at e
 · rename_i z;subst z;rw[<-e];exact h5
 split at e
 · rename_i z;subst z;rw[<-e];exact h6
 split at e
 · rename_i z;subst z;rw[<-e];exact h7
 · cases e
def dIsi(f:String->Option Bool)(d:D):Option D:=match tyN d with
 |some s=>(f s).map .bl
 |none=>none
theorem q91{Y:String}{f:String->Option Bool}(hk:KitB K Y f)(ha:MB K O t fa):ME K O (tCB (rIsO K) (q23 t (q23 (tC (.ty Y)) tNil))) (mOp1 (dIsi f) fa):=λZ σ H R ρ d ρ' Q S e k=>by
 obtain⟨x,ρ1,e1,e⟩:=q08 e
 obtain⟨e2,rfl⟩:=q0d e
 refine ha Z σ H R ρ x _ _ S e1 λv H1 R1 S1 st1 r1=>?_
 unfold dIsi at e2
 cases e3:tyN x with
 |none=>rw[e3]at e2;cases e2
 | some s=>
   rw[e3]at e2
   dsimp only at e2
   cases e4:f s with
   |none=>rw[e4]at e2;cases e2
   | some b=>
     rw[e4]at e2
     cases e2
     exact⟨v,.ty Y,.type s,.type Y,b,rfl,rfl,qid r1 e3,hk s b e4,k _ H1 R1 S1 st1 (.bl b)⟩
end
def mOf(f:RhL):RhD:=q14 f λds=>mRet (D.lst ds)
section
variable{K:PySem.W.Frag}{O O1 O':List Nat}{t:TE}{c:MC}{u:TS}{f:RhO}{fn:RhL}
theorem q28(h:MN K O t fn):ME K O t (mOf fn):=h.me
theorem q4x(h:MS c O O1 u f)(hs:subO c O1 O'=true):MS c O O' u f:=λZ E σ H R ρ o hP S e k=>by
 refine h Z E σ H R ρ o hP S e ?_
 cases o with
 | nx ρ'=>
   intro σ' H' R' S' s'
   obtain⟨S2,s2⟩:=S'.sub' hP hs
   exact k σ' H' _ S2 (s'.trans s2)
 |bk ρ'=>exact k
 |ct ρ'=>exact k
 |rt d ρ'=>exact k
theorem qbo{k n:Nat}{js:List Nat}{wi:TI}{g:TG}{tt:TT}{te:TE}(he:MN c.K O (qdg n js wi g tt te) fn)(hs:subO c O O'=true)(hi:k∉O'):MS c O O' (qir k n js wi g tt te) (sSet k (mOf fn)):=
 show MS c O O' (tAsg (qdg n js wi g tt te) (q36 k)) (sSet k (mOf fn))from q1g (q28 he) hs hi
end
def qgh(i j:Int):Bool:=(decide (-(2^64)<i)&&decide (i<2^64))||(decide (-(2^64)<j)&&decide (j<2^64))
def qgi(_ j:Int):Bool:=decide (0<j)&&decide (j<1073741824)
def qk0(_ j:Int):Bool:=decide (0<j)
def q9s(i j:Int):Bool:=decide (0<=j)&&decide (j<=1000000)&&decide (i.natAbs<2^64)
def qjz(_ j:Int):Bool:=decide (0<=j)
abbrev dDiv:D->D->Option D:=dI2 qgi λi j=>i / j
abbrev dMod:D->D->Option D:=dI2 qk0 λi j=>i % j
abbrev dPow:D->D->Option D:=dI2 q9s λi j=>i^j.toNat
abbrev dShl:D->D->Option D:=dI2 q9s λi j=>i*2^j.toNat
abbrev dShr:D->D->Option D:=dI2 qjz λi j=>i / 2^j.toNat
abbrev dSub:D->D->Option D:=dI0 λi j=>i-j
abbrev dAnd:D->D->Option D:=dI0 λi j=>Builtin.bitAnd i j
abbrev dXor:D->D->Option D:=dI0 λi j=>Builtin.bitXor i j
abbrev dGt:D->D->Option D:=dB0 λi j=>decide (j<i)
section
variable{K:PySem.W.Frag}
theorem qf5:OpG K (rI CDiv λi j=>.int (i / j)) dDiv:=op_i λi j h=>by
 unfold qgi at h
 simp only[Bool.and_eq_true,decide_eq_true_eq]at h
 exact h
theorem q3r:OpG K (rI (λ_ j=>0<j) λi j=>.int (i % j)) dMod:=op_i λi j h=>of_decide_eq_true h
theorem qf4:OpG K (rI CPow λi j=>.int (i^j.toNat)) dPow:=op_i λi j h=>by
 unfold q9s at h
 simp only[Bool.and_eq_true,decide_eq_true_eq]at h
 exact⟨h.1.1,h.1.2,h.2⟩
theorem q8u:OpG K (rI CPow λi j=>.int (i*2^j.toNat)) dShl:=op_i λi j h=>by
 unfold q9s at h
 simp only[Bool.and_eq_true,decide_eq_true_eq]at h
 exact⟨h.1.1,h.1.2,h.2⟩
theorem qf3:OpG K (rI (λ_ j=>0<=j) λi j=>.int (i / 2^j.toNat)) dShr:=op_i λi j h=>of_decide_eq_true h
theorem qk2:OpG K (rI0 λi j=>.int (i-j)) dSub:=qgc
theorem q8v:OpG K (rI0 λi j=>.int (Builtin.bitAnd i j)) dAnd:=qgc
theorem qk1:OpG K (rI0 λi j=>.int (Builtin.bitXor i j)) dXor:=qgc
end
section
variable{K:PySem.W.Frag}{O O':List Nat}{t ta tb:TE}{fa fb:RhD}{fn:RhL}{c:MC}
def dNeg:D->Option D
 |.int i=>some (.int (-i))
 |_=>none
theorem qkd(h:ME K O t fa):ME K O (tUn (rU λi=>.int (-i)) t) (mOp1 dNeg fa):=λZ σ H R ρ d ρ' Q S e k=>by
 obtain⟨x,ρ1,e1,e⟩:=q08 e
 obtain⟨e2,rfl⟩:=q0d e
 refine h Z σ H R ρ x _ _ S e1 λv H1 R1 S1 st1 r1=>?_
 (first|split at e2|(unfold dNeg at e2;split at e2))
 · rename_i i
   obtain rfl:=r1.isA rfl
   cases e2
   exact⟨i,rfl,k _ H1 R1 S1 st1 (.int _)⟩
 · cases e2
def dAny:D->Option D
 |.lst xs=>(q3e xs).map λbs=>.bl (bs.any id)
 |_=>none
def sExt(i:Nat)(fn:RhL):RhO:=λρ=>if isL ρ i=true then(match fn ρ with
 |none=>none
 | some (ys,ρ1)=>match ρ1[i]? with
   |some (some (.lst xs))=>if xs.length+ys.length<=sizeLine then some (.nx (ρ1.set i (some (.lst (xs++ys)))))else none
   |_=>none)else none
theorem qk8{i:Nat}(hi:i∈O)(ha:MN c.K O ta fn)(hs:subO c O O'=true):MS c O O' (qaj (tBM c.K "list" qb4 (tVar i) (q23 ta tNil))) (sExt i fn):=λZ E σ H R ρ o hP S e k=>by
 unfold sExt at e
 split at e
 case isFalse=>cases e
 rename_i hL
 cases e1:fn ρ with
 |none=>rw[e1]at e;cases e
 | some p=>
   obtain⟨ys,ρ1⟩:=p
   rw[e1]at e
   dsimp only at e
   obtain⟨l,vs,ds,h1,h2,h3,h4,h5⟩:=S.own i hi
   obtain⟨us,_,rfl,rfl,_⟩:=qf8 hL h1 h5
   refine⟨.ref l,h2,.inl ⟨rfl,us,SqL.of h3⟩,ha Z σ H R ρ ys ρ1 _ S e1 λb zs H1 R1 S1 st1 b0 bH bR r1=>?_⟩
   obtain⟨l',vs',ds',g1,g2,g3,g4,g5⟩:=S1.own i hi
   rw[h2]at g2
   cases g2
   rw[g1]at e
   cases g5 with
   |dct _=>cases e
   |dit _=>cases e
   |lst g5=>
   rename_i vs' ds'
   dsimp only at e
   split at e
   · rename_i hz
     cases e
     refine⟨l,b,vs',zs,rfl,rfl,g3,bH,by rw[g5.length,r1.length];exact hz,?_⟩
     obtain⟨S2,s2⟩:=(S1.write hi h2 (.lst (g5.append r1))).sub' hP hs
     exact k σ _ _ S2 (st1.r.trans s2)
   · cases e
theorem Rps.rep{R:Hp}{xs:List V}{ds:List D}(r:Rps K R xs ds):∀k:Nat,Rps K R (List.replicate k xs).flatten (List.replicate k ds).flatten
 |0=>.nil
 | k+1=>by
   rw[List.replicate_succ,List.replicate_succ,List.flatten_cons,List.flatten_cons]
   exact r.append (Rps.rep r k)
end
section
variable{M:Model}{A:Around}{E:Value->Shared->Prop}{s:Shared}
theorem q77{a b:Value}{Q:Value->Shared->Prop}(ha:s.TypeIs a "list")(hb:s.TypeIs b "list")(hc:wpAny M A (call (.builtin "list.__iadd__") [a,b]) Q E s):wpAny M A (inplaceOp .Add a b) Q E s:=by
 unfold inplaceOp
 refine jr ?_
 have hfi:fillsInplaceSlot (.type "list") "add" (Operator.Add==.Add)=pure false:=by
   unfold fillsInplaceSlot
   show(typeLookup (.type "list") (dunderI "add") >>= λfi=>pure (fi.isSome&& !isSeqSlot fi))=pure false
   rw[F.slot_list_iadd.lookup]
   rfl
 have hsi:seqSlot? (.type "list") (dunderI "add")=pure (some (.builtin "list.__iadd__")):=PySem.seqSlot_of F.slot_list_iadd.lookup (by decide+kernel)
 refine j6 (wpAny_typeOf ha (j6 (wpAny_of_eq hfi ?_)))
 show wpAny M A (if false=true then _ else _) Q E s
 rw[if_neg Bool.false_ne_true]
 refine j6 (wpAny_binaryOp1_none (nm:="add") ha hb noFill_list_add ?_)
 refine j6 (wpAny_of_eq hsi ?_)
 exact j6 (wpAny_rule hc)
end
def ipL:TIp:=λx y H Q=>∃l b xs zs,x=.ref l/\y=.ref b/\H l=some (.lst xs)/\H b=some (.lst zs)/\xs.length+zs.length<=sizeLine/\Q (.ref l) (upd H l (.lst (xs++zs)))
section
variable{X:Cx}{K:PySem.W.Frag}
theorem qh5:PIp X .Add ipL:=by
 intro z4 s σ H x y v u Q I r1 r2 h
 obtain⟨l,b,xs,zs,rfl,rfl,hH,hB,hz,q⟩:=h
 (first|obtain rfl:=r1.isA rfl|cases r1)
 (first|obtain rfl:=r2.isA rfl|cases r2)
 obtain⟨z,its,n,r,hl,e⟩:=I.lstM hH
 obtain⟨z2,its2,n2,r2,hl2,e2⟩:=I.lstM hB
 have hsz:its.toArray.size+its2.toArray.size<=sizeLine:=by rw[jl,jl];omega
 have hlong:¬(!its.toArray.isEmpty&&Builtin.List.listTooLong (its.toArray.size+its2.toArray.size))=true:=by
   rw[q8w hsz,Bool.and_false]
   exact Bool.false_ne_true
 refine q77 ⟨_,e,rfl⟩ ⟨_,e2,rfl⟩ (call_meets F.slot_list_iadd ⟨_,e,rfl⟩ F.entry_list_iadd (F.args_list_iadd_2 _ _)
   (AutoSeq1.list___iadd___list_list_0 l its.toArray n b its2.toArray n2 hlong (by rw[jl];omega) (by omega)) ⟨e,e2,?_⟩)
 refine⟨.ref l,_,I.lset (its':=its++its2) hH e (by simp) (r.append r2) ?_,rfl,q⟩
 rw[jm]
 omega
end
section
variable{c:MC}{O O':List Nat}{te:TE}{fn:RhL}
theorem qgm{i:Nat}(hi:i∈O)(he:MN c.K O te fn)(hs:subO c O O'=true):MS c O O' (tAug i te ipL) (sExt i fn):=λZ E σ H R ρ o hP S e k=>by
 unfold sExt at e
 split at e
 case isFalse=>cases e
 rename_i hL
 cases e1:fn ρ with
 |none=>rw[e1]at e;cases e
 | some p=>
   obtain⟨ys,ρ1⟩:=p
   rw[e1]at e
   dsimp only at e
   obtain⟨l,vs,ds,h1,h2,h3,h4,h5⟩:=S.own i hi
   refine⟨.ref l,h2,he Z σ H R ρ ys ρ1 _ S e1 λb zs H1 R1 S1 st1 b0 bH bR r1=>?_⟩
   obtain⟨l',vs',ds',g1,g2,g3,g4,g5⟩:=S1.own i hi
   rw[h2]at g2
   cases g2
   rw[g1]at e
   cases g5 with
   |dct _=>cases e
   |dit _=>cases e
   |lst g5=>
   rename_i vs' ds'
   dsimp only at e
   split at e
   · rename_i hz
     cases e
     refine⟨l,b,vs',zs,rfl,rfl,g3,bH,by rw[g5.length,r1.length];exact hz,?_⟩
     obtain⟨S2,s2⟩:=(S1.write hi h2 (.lst (g5.append r1))).sub' hP hs
     have same:σ.set i (some (.ref l))=σ:=by
       have z5:i<σ.length:=(List.getElem?_eq_some_iff.mp h2).1
       refine List.ext_getElem? λj=>?_
       by_cases hj:i=j
       · subst hj;rw[jv z5,h2]
       · rw[jd hj]
     show E.nx (σ.set i (some (.ref l))) _
     rw[same]
     exact k σ _ _ S2 (st1.r.trans s2)
   · cases e
end
theorem foldl_size{α:Type}(a:Array α):∀(k:Nat) (acc:Array α),(List.foldl (λx1 x2=>x1++x2) acc (List.replicate k a)).size=acc.size+k*a.size
 |0,acc=>by simp
 | k+1,acc=>by
   rw[List.replicate_succ,List.foldl_cons,foldl_size a k,Array.size_append,Nat.succ_mul]
   omega
theorem q4g:fillsNumberSlot (.type "tuple") "mul"=pure false:=
 PySem.fillsNumberSlot_seq (id:="tuple.__mul__") (r:=some (.builtin "tuple.__rmul__")) F.slot_tuple_mul.lookup (by decide+kernel) F.slot_tuple_rmul.lookup (by decide+kernel)
theorem q6k:seqRepeat? (.type "tuple")=pure (some (.builtin "tuple.__mul__")):=by
 unfold seqRepeat?
 rw[PySem.seqSlot_of (T:="tuple") (name:="__mul__") (id:="tuple.__mul__") F.slot_tuple_mul.lookup (by decide+kernel),PySem.seqSlot_of (T:="tuple") (name:="__rmul__") (id:="tuple.__rmul__") F.slot_tuple_rmul.lookup (by decide+kernel)]
 rfl
theorem q59(a:Int)(t:Tok)(l:Addr)(items:Array Value)(n:Nat)(dd:Option Addr)(sl:Array (Option Value)):
   Meets (Builtin.«int.__rmul__» ⟨[.int a t,.ref l],[]⟩) (λ_ R s=>s.heap.get? l=some {cls:=.type "tuple",dict:=dd,data:=.seq items n,slots:=sl}/\R (.ok (.ret Value.notImplemented)) s):=
 .of_wp λprog w A R s h=>by obtain⟨hp,g,d,tk,os⟩:=s;obtain⟨hl,h⟩:=h;wp_walk;exact⟨_,rfl,h⟩
theorem q9h(l:Addr)(items:Array Value)(n:Nat)(dd:Option Addr)(sl:Array (Option Value))(x:Int)(u:Tok)(h1:1<x)(h2:x<=1000)(he:items.isEmpty=false)(hz:items.size<=1000):
   Meets (Builtin.«tuple.__mul__» ⟨[.ref l,.int x u],[]⟩) (λ_ R s=>s.heap.get? l=some {cls:=.type "tuple",dict:=dd,data:=.seq items n,slots:=sl}/\R (.ok (.ret (Value.ref s.heap.objs.size))) {s with heap:=s.heap.push {cls:=Value.type "tuple",data:=Data.seq (List.foldl (λx1 x2=>x1++x2) #[] (List.replicate x.toNat items))},toks:=s.toks}):=
 .of_wp λprog w A R s h=>by
   obtain⟨hp,g,d,tk,os⟩:=s;obtain⟨hl,h⟩:=h
   have f1:=AutoSeq1.idx_int
   have f2:=AutoSeq1.sub_tuple_tuple
   have hc0:¬(decide (x< -2^63)||decide (x≥2^63))=true:=by
     simp only[Bool.or_eq_true,decide_eq_true_eq]
     omega
   have hc1:¬(items.isEmpty||x==1)=true:=by
     rw[he,Bool.false_or]
     simp
     omega
   have hc2:¬(decide (x<=0)||items.isEmpty)=true:=by
     rw[he,Bool.or_false]
     simp
     omega
   have hm:(items.size:Int)*x<=1000*1000:=Int.le_trans (Int.mul_le_mul_of_nonneg_left h2 (Int.natCast_nonneg _)) (Int.mul_le_mul_of_nonneg_right (by omega) (by decide))
   have hc3:¬(items.size:Int)*x>(2^63-1) / 8:=by omega
   have hc4:¬Builtin.Tuple.tupleTooMany ((items.size:Int)*x)=true:=by
     unfold Builtin.Tuple.tupleTooMany
     have:(sizeLine:Int)≥1000*1000:=by decide
     simp
     omega
   wp_walk using wpAny_loadPart' hl
   rw[if_neg hc0]
   wp_walk using wpAny_loadPart' hl
   rw[if_neg hc1]
   rw[if_neg hc2]
   rw[if_neg hc3]
   rw[if_neg hc4]
   wp_walk using wpAny_loadPart' hl
   have hc5:¬(List.foldl (λx1 x2=>x1++x2) #[] (List.replicate x.toNat items)).size>sizeLine:=by
     rw[foldl_size]
     have h7:x.toNat*items.size<=1000*1000:=Nat.mul_le_mul (by omega) hz
     have h8:(sizeLine:Nat)≥1000*1000:=by decide
     simp
     omega
   rw[if_neg hc5]
   wp_walk using wpAny_loadPart' hl
   exact⟨_,rfl,h⟩
def qiy(K:PySem.W.Frag):R2:=λx y H Q=>∃l k xs,x=.ref l/\y=.int k/\SqT K H l xs/\1<k/\k<=1000/\xs≠[]/\xs.length<=1000/\∀p,H p=none->Q (.ref p) (upd H p (.tup (List.replicate k.toNat xs).flatten))
section
variable{X:Cx}{K:PySem.W.Frag}
theorem qga(hK:X.K=K):OpR X (binaryOp .Mult) (qiy K):=by
 subst hK
 intro z4 s σ H x y v u Q I rx ry h
 obtain⟨l,k,xs,rfl,rfl,hH,h1,h2,hx,hz,q⟩:=h
 (first|obtain rfl:=rx.isA rfl|cases rx)
 obtain⟨t,rfl⟩:=ry
 obtain⟨its,r1,p1,_⟩:=I.tuple hH
 obtain⟨⟨cls,dd,data,sl⟩,ho,hc,n,hd⟩:=id p1
 simp only at hc hd
 subst hc hd
 have z5:=r1.length
 have he:its.toArray.isEmpty=false:=by
   cases its with
   |nil=>exact absurd (r1.nil_iff.mp rfl) hx
   |cons a r=>rfl
 have f0:List.foldl (λx1 x2=>x1++x2) #[] (List.replicate k.toNat its.toArray)=(List.replicate k.toNat its).flatten.toArray:=by
   have:=foldl_rep its k.toNat []
   rw[List.nil_append]at this
   exact this
 refine wpAny_binaryOp_repeat_ref (T:="tuple") (U:="int") (by decide) ⟨_,ho,rfl⟩ (λs'=>typeIs_int s' k t) q4g F.fills_int_mul F.slot_int_rmul q6k F.slot_int_index.lookup
   (call_meets F.slot_int_rmul (typeIs_int s k t) F.entry_int_rmul (F.args_int_rmul_2 _ _) (q59 k t l its.toArray n dd sl)
     ⟨ho,rfl,⟨_,ho,rfl⟩,call_meets F.slot_tuple_mul ⟨_,ho,rfl⟩ F.entry_tuple_mul (F.args_tuple_mul_2 _ _) (q9h l its.toArray n dd sl k t h1 h2 he (by rw[jl];omega)) ⟨ho,?_⟩⟩)
 rw[f0]
 have hsz:(List.replicate k.toNat xs).flatten.length<=sizeLine:=by
   rw[len_rep]
   exact jy (Nat.mul_le_mul (by omega:k.toNat<=1000) hz) (by decide)
 refine⟨.ref s.heap.objs.size,_,I.laid (t':=s.toks) (o:=.tup (List.replicate k.toNat xs).flatten) (λb ob q=>ja _ q) (jc _) ?_,rfl,q _ (I.hok.fresh (jc _))⟩
 exact⟨hsz,_,r1.rep k.toNat,TupN.new _ _⟩
def q8g(z:Str)(k:Int):Str:=if(k==1||z.length==0)=true then z else⟨List.foldl (λx1 x2=>x1++x2) #[] (List.replicate k.toNat z.cps)⟩
theorem qbe:OpR X (binaryOp .Mult) (λx y H Q=>∃z k,x=.str z/\y=.int k/\0<k/\k<=1000/\0<z.length/\z.length<=1000/\Q (.str (q8g z k)) H):=by
 intro z4 s σ H x y v u Q I rx ry h
 obtain⟨z,k,rfl,rfl,h1,h2,h3,h4,q⟩:=h
 obtain⟨t,rfl⟩:=rx
 obtain⟨t',rfl⟩:=ry
 have hm:z.length*k.toNat<=1000*1000:=Nat.mul_le_mul h4 (by omega)
 refine PySem.P.mul_str (by simp;omega) (λ_ _=>?_) (λ_ _=>?_) ?_
 · intro hgt
   have h5:((2:Int)^63-1) / 1000<=(2^63-1) / k:=by
     refine Int.le_ediv_of_mul_le h1 ?_
     have:((2:Int)^63-1) / 1000*k<=(2^63-1) / 1000*1000:=Int.mul_le_mul_of_nonneg_left h2 (by decide)
     exact Int.le_trans this (by decide)
   have h6:(1000:Int)<(2^63-1) / 1000:=by decide
   omega
 · unfold Builtin.Str.tooLong
   have:(sizeLine:Nat)≥1000*1000:=by decide
   simp
   omega
 · rw[if_neg (by omega)]
   unfold q8g at q
   split
   · rename_i hh
     rw[if_pos hh]at q
     exact⟨.str z,H,I,⟨t,rfl⟩,q⟩
   · rename_i hh
     rw[if_neg hh]at q
     refine⟨?_,⟨.str _,H,I.tok _,⟨_,rfl⟩,q⟩⟩
     show(List.foldl (λx1 x2=>x1++x2) #[] (List.replicate k.toNat z.cps)).size<=sizeLine
     rw[foldl_size]
     have h7:k.toNat*z.cps.size<=1000*1000:=Nat.mul_le_mul (by omega) h4
     have h8:(sizeLine:Nat)≥1000*1000:=by decide
     simp
     omega
def CMul2(i j:Int):Prop:=CMul i j∨(i.natAbs<2^250/\j.natAbs<2^250)
theorem qd0{k:Int}(h:k.natAbs<2^250):Builtin.Int.intBits k<=250:=by
 unfold Builtin.Int.intBits
 split
 · exact Nat.zero_le _
 · rename_i h0
   have hk:k.natAbs≠0:=λz=>h0 (by simpa using z)
   have:k.natAbs.log2<250:=(Nat.log2_lt hk).mpr h
   omega
theorem CMul2.ok{i j:Int}(h:CMul2 i j):IntMulOk i j:=by
 rcases h with h|⟨h1,h2⟩
 · exact h.ok
 · exact IntMulOk.of_le (qd0 h1) (qd0 h2) (by decide)
theorem op_mul2:OpR X (binaryOp .Mult) (rI CMul2 λi j=>.int (i*j)):=opI λ_ _ _ _ _ _ _ hc q=>mul_int q hc.ok
def bigM(i:Int):Bool:=decide (i.natAbs<2^250)
def q8t(i j:Int):Bool:=qgh i j||(bigM i&&bigM j)
theorem qbi{i j:Int}(h:q8t i j=true):CMul2 i j:=by
 unfold q8t qgh bigM at h
 simp only[Bool.or_eq_true,Bool.and_eq_true,decide_eq_true_eq]at h
 rcases h with h|h
 · exact .inl h
 · exact .inr h
def qj0(K:PySem.W.Frag):R2:=λx y H Q=>rI CMul2 (λi j=>.int (i*j)) x y H Q∨qiy K x y H Q∨∃z k,x=.str z/\y=.int k/\0<k/\k<=1000/\0<z.length/\z.length<=1000/\Q (.str (q8g z k)) H
theorem q4u(hK:X.K=K):OpR X (binaryOp .Mult) (qj0 K):=op_mul2.or ((qga hK).or qbe)
end
def q3x:D->D->Option D
 |.int i,.int j=>if q8t i j=true then some (.int (i*j))else none
 |.tup xs,.int k=>if 1<k/\k<=1000/\xs≠[]/\xs.length<=1000 then some (.tup (List.replicate k.toNat xs).flatten)else none
 |.str z,.int k=>if 0<k/\k<=1000/\0<z.length/\z.length<=1000 then some (.str (q8g z k))else none
 |_,_=>none
theorem q4v{K:PySem.W.Frag}:OpG K (qj0 K) q3x:=λH R x y d e u Q s rx ry q k=>by
 unfold q3x at q
 split at q
 · rename_i i j
   split at q
   · rename_i h
     (first|obtain rfl:=q.isA rfl|cases q)
     (first|obtain rfl:=rx.isA rfl|cases rx)
     (first|obtain rfl:=ry.isA rfl|cases ry)
     exact .inl ⟨i,j,rfl,rfl,qbi h,k _ H R (Ext.refl s) (.int _)⟩
   · (first|obtain rfl:=q.isA rfl|cases q)
 · rename_i ds j
   split at q
   · rename_i hc
     (first|obtain rfl:=q.isA rfl|cases q)
     (first|obtain rfl:=ry.isA rfl|cases ry)
     obtain⟨a,xs,rfl,h,r⟩:=rx.isT
     refine .inr (.inl ⟨a,j,xs,rfl,rfl,SqT.of (s _ _ h),hc.1,hc.2.1,λz=>?_,by rw[r.length];exact hc.2.2.2,λp np=>?_⟩)
     · subst z
       (first|obtain rfl:=r.isA rfl|cases r)
       exact hc.2.2.1 rfl
     · have y:=Ext.new (o:=.tup (List.replicate j.toNat xs).flatten) s np
       exact k _ _ _ y (.tup q0a ((r.rep _).mono y.r))
   · (first|obtain rfl:=q.isA rfl|cases q)
 · rename_i z j
   split at q
   · rename_i hc
     (first|obtain rfl:=q.isA rfl|cases q)
     (first|obtain rfl:=ry.isA rfl|cases ry)
     (first|obtain rfl:=rx.isA rfl|cases rx)
     exact .inr (.inr ⟨z,j,rfl,rfl,hc.1,hc.2.1,hc.2.2.1,hc.2.2.2,k _ H R (Ext.refl s) (.str _)⟩)
   · (first|obtain rfl:=q.isA rfl|cases q)
 · (first|obtain rfl:=q.isA rfl|cases q)
section
variable{X:Cx}{K:PySem.W.Frag}{O:List Nat}{pos:Pos}
end
inductive TyX(K:PySem.W.Frag)(H:Hp):V->Value->Prop where
 |exc {a C:Addr} (h:H a=some (excO a (.ref C))) (k:ExcK K C):TyX K H (.ref a) (.ref C)
 |non:TyX K H .non (.type "NoneType")
section
variable{X:Cx}{K:PySem.W.Frag}{O:List Nat}{t:TE}{fa:RhD}
structure KitE(K:PySem.W.Frag)(c:Value)(sub:Str->Option Bool):Prop where
 exc:∀x C b,PySem.W.nsIn K mainGlobals x=some (some (.ref C))->sub x=some b->PySem.W.kitOne K (.ref C) c=some b
 non:PySem.W.kitOne K (.type "NoneType") c=some false
structure qms(K:PySem.W.Frag)(cs:List Value)(sub:Str->Option Bool):Prop where
 exc:∀x C b,PySem.W.nsIn K mainGlobals x=some (some (.ref C))->sub x=some b->PySem.W.kitAny K (.ref C) cs=some b
 non:PySem.W.kitAny K (.type "NoneType") cs=some false
end
abbrev Xr:=Rho->Option (Str×Rho)
def ExE(K:PySem.W.Frag)(E:XK)(C:Str)(H:Hp):Prop:=∀v,PySem.W.nsIn K mainGlobals C=some (some v)->E v none H
section
variable(K:PySem.W.Frag)(O:List Nat)
end
section
variable{K:PySem.W.Frag}{O:List Nat}{E:XK}{t ta tb:TE}{tr:TA}{tt:TT}{fa fb:RhD}{fs:RhL}{xa xb xs:Xr}
end
def MSX(c:MC)(O:List Nat)(t:TS)(E:XK)(fx:Xr):Prop:=∀(Z:Anc) (D:Ends) (σ:St) (H R:Hp) (ρ:Rho) (C:Str) (ρ':Rho),Z.P=c.P->StR c.K Z O σ H R ρ->fx ρ=some (C,ρ')->(∀O' σ' H' R',StR c.K Z O' σ' H' R' ρ'->ExE c.K E C H')->t D σ H
def MSXa(c:MC)(O:List Nat)(t:TS)(E:XK)(fx:Xr):Prop:=∀(Z:Anc) (D:Ends) (σ:St) (H R:Hp) (ρ:Rho) (C:Str) (ρ':Rho),Z.P=c.P->StR c.K Z O σ H R ρ->fx ρ=some (C,ρ')->(∀H' R',StR c.K Z O σ H' R' ρ'->Same R R'->ExE c.K E C H')->t D σ H
theorem MSXa.g{c:MC}{O:List Nat}{t:TS}{E:XK}{fx:Xr}(h:MSXa c O t E fx):MSX c O t E fx:=λZ D σ H R ρ C ρ' hP S e k=>h Z D σ H R ρ C ρ' hP S e λH' R' S' _=>k O σ H' R' S'
section
variable{c:MC}{O O' O1:List Nat}{t u:TS}{te:TE}{tt:TT}{tr:TA}{g:TG}{f h:RhO}{fe:RhD}{fs:RhL}{ft:RhB}{E:XK}{xe xt fx hx:Xr}
end
section
variable{c:MC}{O O':List Nat}{cv:Value}{i:Nat}{sub:Str->Bool}{tb:XK->TS}{ts:TS}{fb fh:RhO}{xb:Xr}
end
section
variable{K:PySem.W.Frag}{O:List Nat}{tr:TA}{fs:RhL}{E:XK}{n:Nat}
end
section
variable{K:PySem.W.Frag}
end
section
variable(K:PySem.W.Frag)(O:List Nat)
end
section
variable{K:PySem.W.Frag}{O:List Nat}{ta:TE}{tr:TA}{fa:RhD}{fs:RhL}{E:XK}{n:Nat}
end
theorem q95{α:Type}{o:Option (α×Rho)}{x:α}(h:o.map (·.1)=some x):∃ρ,o=some (x,ρ):=by
 cases o with
 |none=>cases h
 |some p=>cases h;exact⟨p.2,rfl⟩
theorem q5p{n:Nat}{js:List Nat}{fg:RhG}{fe:RhD}{ρ:Rho}(g:D->D):∀(xs:List D),(∀x∈xs,∃ρ1,fg x (q47 n js ρ)=some ρ1/\(fe ρ1).map (·.1)=some (g x))->q0q n js none fg (mRet true) fe xs ρ=some (xs.map g,ρ)
 |[],_=>rfl
 | x::xs,h=>by
   obtain⟨ρ1,h1,h2⟩:=h x jf
   obtain⟨ρ2,h2⟩:=q95 h2
   have ih:=q5p (n:=n) (js:=js) (fg:=fg) (fe:=fe) (ρ:=ρ) g xs λy hy=>h y (jj _ hy)
   simp only[q0q,h1,mRet,h2,q3y]
   rw[ih]
   rfl
theorem q7d{n:Nat}{js:List Nat}{fg:RhG}{ft:RhB}{fe:RhD}{ρ:Rho}(p:D->Bool)(g:D->D):∀(xs:List D),(∀x∈xs,∃ρ1,fg x (q47 n js ρ)=some ρ1/\ft ρ1=some (p x,ρ1)/\(p x=true->(fe ρ1).map (·.1)=some (g x)))->q0q n js none fg ft fe xs ρ=some ((xs.filter p).map g,ρ)
 |[],_=>rfl
 | x::xs,h=>by
   obtain⟨ρ1,h1,h2,h3⟩:=h x jf
   have ih:=q7d (n:=n) (js:=js) (fg:=fg) (ft:=ft) (fe:=fe) (ρ:=ρ) p g xs λy hy=>h y (jj _ hy)
   cases hp:p x with
   | false=>
     rw[hp]at h2
     simp only[q0q,h1,h2,q3y]
     rw[ih,List.filter_cons_of_neg (by rw[hp];exact Bool.false_ne_true)]
   | true=>
     rw[hp]at h2
     obtain⟨ρ3,h4⟩:=q95 (h3 hp)
     simp only[q0q,h1,h2,h4,q3y]
     rw[ih,List.filter_cons_of_pos hp]
     rfl
theorem q66{n p q:Nat}{js:List Nat}{fg:RhG}{fe:RhD}{S:Type}(ρ:S->Rho)(G:D->Prop):∀(xs:List D),(∀x∈xs,∀s,∃ρ1 ρ2 y s',fg x (q47 n js (ρ s))=some ρ1/\fe ρ1=some (y,ρ2)/\q3y (some (p,q)) (ρ s) ρ2=ρ s'/\G y)->∀s,∃ys s',q0q n js (some (p,q)) fg (mRet true) fe xs (ρ s)=some (ys,ρ s')/\ys.length=xs.length/\∀y∈ys,G y
 |[],_,s=>⟨[],s,rfl,rfl,λ_ h=>nomatch h⟩
 | x::xs,h,s=>by
   obtain⟨ρ1,ρ2,y,s1,h1,h2,h3,h4⟩:=h x jf s
   obtain⟨ys,s2,g1,g2,g3⟩:=q66 ρ G xs (λy hy=>h y (jj _ hy)) s1
   refine⟨y::ys,s2,?_,by rw[jk,jk,g2],λz hz=>?_⟩
   · simp only[q0q,h1,mRet,h2,h3]
     rw[g1]
   · rcases List.mem_cons.mp hz with rfl|hz
     · exact h4
     · exact g3 z hz
theorem q52{fg:RhG}{fb:RhO}(I:Nat->Rho->Prop):∀(xs:List D) (k:Nat) (ρ:Rho),I k ρ->(∀i x ρ,xs[i]? =some x->I (k+i) ρ->∃ρ1 ρ2,fg x ρ=some ρ1/\(fb ρ1=some (.nx ρ2)∨fb ρ1=some (.ct ρ2))/\I (k+i+1) ρ2)->∃ρ',q0r fg fb xs ρ=some (.nx ρ')/\I (k+xs.length) ρ'
 |[],k,ρ,h0,_=>⟨ρ,rfl,h0⟩
 | x::xs,k,ρ,h0,hs=>by
   obtain⟨ρ1,ρ2,h1,h2,h3⟩:=hs 0 x ρ rfl h0
   obtain⟨ρ',g1,g2⟩:=q52 I xs (k+1) ρ2 h3 λi y ρ e hi=>by
     have e1:k+1+i=k+(i+1):=by omega
     rw[e1]at hi ⊢
     exact hs (i+1) y ρ (by simpa using e) hi
   refine ⟨ρ', ?_, by rw[jk];have e1:k+(xs.length+1)=k+1+xs.length:=by omega
                      rw[e1];exact g2⟩
   simp only[q0r,h1]
   rcases h2 with h2|h2
   · rw[h2];exact g1
   · rw[h2];exact g1
theorem qcg{fg:RhG}{fb:RhO}(I:Rho->Prop):∀(xs:List D) (ρ:Rho),I ρ->(∀x ρ,x∈xs->I ρ->∃ρ1 ρ2,fg x ρ=some ρ1/\(fb ρ1=some (.nx ρ2)∨fb ρ1=some (.ct ρ2))/\I ρ2)->∃ρ',q0r fg fb xs ρ=some (.nx ρ')/\I ρ':=λxs ρ h0 hs=>by
 obtain⟨ρ',h1,h2⟩:=q52 (fg:=fg) (fb:=fb) (λ_=>I) xs 0 ρ h0 λi x ρ e hi=>hs x ρ (k8 e) hi
 exact⟨ρ',h1,h2⟩
theorem at0{α:Type}(x:α)(xs:List α):atI (x::xs) 0=some x:=by
 unfold atI ixN
 simp
theorem at1{α:Type}(x y:α)(xs:List α):atI (x::y::xs) 1=some y:=qd3 (j:=1) rfl
theorem at2{α:Type}(x y z:α)(xs:List α):atI (x::y::z::xs) 2=some z:=qd3 (j:=2) rfl
theorem qlm{α:Type}{xs:List α}{i:Int}(h0:0<=i)(h:i<xs.length):atI xs i=xs[i.toNat]? :=by
 unfold atI ixN
 rw[if_pos h0,if_pos h]
 rfl
theorem q2e{n:Nat}(h:n<=1000000):n<=sizeLine:=jy h (by decide)
theorem q1j(lo:Int)(n:Nat):(q0w lo n).length=n:=by simp[q0w]
theorem q2i{lo:Int}{n i:Nat}{d:D}(h:(q0w lo n)[i]? =some d):i<n/\d=.int (lo+(i:Int)):=by
 have hi:i<n:=by
   have:=(List.getElem?_eq_some_iff.mp h).1
   rwa [q1j]at this
 refine⟨hi,?_⟩
 unfold q0w at h
 rw[ju,List.getElem?_range hi]at h
 exact(jb h).symm
def nx(s:Int):Int:=(s*1181783497276652981+12345678910987) % (2^61-1)
theorem qhr(i j:Int):eqD (.int i) (.int j)=some (i==j):=by
 simp[eqD,D.toP,SeqAt.shaped,PyData.canLay0,PyData.depth,PyData.eqv]
section
variable{α β:Type}{a:Rho->Option (α×Rho)}{k:α->Rho->Option (β×Rho)}{ρ:Rho}{fa fb fc:RhD}{ga gb:RhB}{fs:RhL}{g g':D->D->Option D}{g1:D->Option D}{gl:D->Option (List D)}{g2:D->D->Option (List D)}{fl fh:Rho->Option (Option Int×Rho)}
theorem q0n:q14 a k ρ=(a ρ).bind λp=>k p.1 p.2:=by
 unfold q14
 cases a ρ<;>rfl
theorem qfc{x:α}:mRet x ρ=some (x,ρ):=rfl
theorem q1d{o:Option α}:q1u o ρ=o.map λx=>(x,ρ):=by cases o<;>rfl
theorem qci{i:Nat}:mVar i ρ=(ρ[i]?).join.map λd=>(d,ρ):=by
 unfold mVar
 cases h:ρ[i]? with
 |none=>rfl
 |some o=>cases o<;>rfl
theorem ql4:mOp2 g fa fb ρ=(fa ρ).bind λp=>(fb p.2).bind λq=>(g p.1 q.1).map λx=>(x,q.2):=by
 unfold mOp2
 rw[q0n]
 congr 1;funext p
 rw[q0n]
 congr 1;funext q
 rw[q1d]
theorem ql5:mOp1 g1 fa ρ=(fa ρ).bind λp=>(g1 p.1).map λx=>(x,p.2):=by
 unfold mOp1
 rw[q0n]
 congr 1;funext p
 rw[q1d]
def ixO:D->D->Option D
 |.lst xs,.int j=>atI xs j
 |_,_=>none
theorem ql9{i:Nat}:mIxO i fb ρ=(fb ρ).bind λq=>((q.2[i]?).join).bind λx=>(ixO x q.1).map λz=>(z,q.2):=by
 unfold mIxO
 rw[q0n]
 congr 1;funext q
 rw[q0n,qci]
 cases(q.2[i]?).join with
 |none=>rfl
 |some x=>show q1u _ _=_;rw[q1d];first|rfl|(cases x<;>(cases q.1<;>rfl))
def blO:D->Option Bool
 |.bl b=>some b
 |_=>none
theorem qhb:q0l fa ρ=(fa ρ).bind λp=>(blO p.1).map λx=>(x,p.2):=by
 unfold q0l
 rw[q0n]
 congr 1;funext p
 rw[q1d]
 first|rfl|(cases p.1<;>rfl)
theorem ql6:mNot ga ρ=(ga ρ).map λp=>(!p.1,p.2):=by
 unfold mNot
 rw[q0n]
 cases ga ρ<;>rfl
theorem qmn:mOr ga gb ρ=(ga ρ).bind λp=>if p.1=true then some (true,p.2)else gb p.2:=by
 unfold mOr
 rw[q0n]
 congr 1;funext p
 split<;>rfl
theorem qhq:q81 fa fb ρ=(q0l fa ρ).bind λp=>if p.1=true then fb p.2 else some (.bl false,p.2):=by
 unfold q81
 rw[q0n]
 congr 1;funext p
 split<;>rfl
theorem qhl:q80 fa ρ=(q0l fa ρ).map λp=>(.bl (!p.1),p.2):=by
 unfold q80
 rw[q0n]
 cases q0l fa ρ<;>rfl
theorem ql7:mNil ρ=some ([],ρ):=rfl
theorem qhn:q00 fa fs ρ=(fa ρ).bind λp=>(fs p.2).map λq=>(p.1::q.1,q.2):=by
 unfold q00
 rw[q0n]
 congr 1;funext p
 rw[q0n]
 cases fs p.2<;>rfl
theorem ql1:mTup fs ρ=(fs ρ).bind λp=>if p.1.length<=sizeLine then some (.tup p.1,p.2)else none:=by
 unfold mTup
 rw[q0n]
 congr 1;funext p
 rw[q1d]
 split<;>rfl
theorem ql8:mLst fs ρ=(fs ρ).bind λp=>if p.1.length<=sizeLine then some (p.1,p.2)else none:=by
 unfold mLst
 rw[q0n]
 congr 1;funext p
 rw[q1d]
 split<;>rfl
theorem qmo:mOf fs ρ=(fs ρ).map λp=>(.lst p.1,p.2):=by
 unfold mOf
 rw[q0n]
 cases fs ρ<;>rfl
theorem qhp{f:List D->Option D}:q12 f fs ρ=(fs ρ).bind λp=>(f p.1).map λx=>(x,p.2):=by
 unfold q12
 rw[q0n]
 congr 1;funext p
 rw[q1d]
theorem qej{f:List D->Option D}:q2m f fs ρ=(fs ρ).bind λp=>(qby (f p.1)).map λx=>(x,p.2):=by
 unfold q2m
 rw[q0n]
 congr 1;funext p
 rw[q1d]
def lsO:D->Option (List D)
 |.lst xs=>some xs
 |_=>none
theorem qei{f:List D->List D->Option (D×List D)}{i:Nat}:q0o f i fs ρ=(fs ρ).bind λp=>((p.2[i]?).join.bind lsO).bind λxs=>(f xs p.1).map λr=>(r.1,p.2.set i (some (.lst r.2))):=by
 unfold q0o
 rw[q0n]
 congr 1;funext p
 cases h:p.2[i]? with
 |none=>rfl
 | some o=>
   cases o with
   |none=>rfl
   | some d=>
     cases d with
     | lst xs=>
       show(match f xs p.1 with|some (d,ys)=>some (d,p.2.set i (some (.lst ys)))|none=>none)=_
       show _=(f xs p.1).map _
       cases f xs p.1<;>rfl
     |_=>rfl
theorem qho{n:Nat}{js:List Nat}{bw:Option (Nat×Nat)}{fg:RhG}:q1c n js bw fs fg ga fa ρ=(fs ρ).bind λp=>if p.1.length<=sizeLine then q0q n js bw fg ga fa p.1 p.2 else none:=by
 unfold q1c
 rw[q0n]
theorem qfb:mSeq fa ρ=(fa ρ).bind λp=>(dSeq p.1).map λx=>(x,p.2):=by
 unfold mSeq
 rw[q0n]
 congr 1;funext p
 rw[q1d]
 cases p.1<;>rfl
def rng1:List D->Option (List D)
 |[.int j]=>if big j=true then some (q0w 0 j.toNat)else none
 |_=>none
theorem qcl:q3j fs ρ=(fs ρ).bind λp=>(rng1 p.1).map λx=>(x,p.2):=by
 unfold q3j
 rw[q0n]
 congr 1;funext p
 rw[q1d]
 rfl
def rng2:List D->Option (List D)
 |[.int i,.int j]=>if(big i&&big j)=true then some (q0w i (j-i).toNat)else none
 |_=>none
theorem qck:q6z fs ρ=(fs ρ).bind λp=>(rng2 p.1).map λx=>(x,p.2):=by
 unfold q6z
 rw[q0n]
 congr 1;funext p
 rw[q1d]
 rfl
def zip2:List D->Option (List D)
 | [x,y]=>match dSeq x,dSeq y with
   |some xs,some ys=>some (zipD xs ys)
   |_,_=>none
 |_=>none
theorem ql0:mZip fs ρ=(fs ρ).bind λp=>(zip2 p.1).map λx=>(x,p.2):=by
 unfold mZip
 rw[q0n]
 congr 1;funext p
 rw[q1d]
 rfl
def inO:D->Option (Option Int)
 |.int i=>some (some i)
 |_=>none
theorem qcm:q30 fa ρ=(fa ρ).bind λp=>(inO p.1).map λx=>(x,p.2):=by
 unfold q30
 rw[q0n]
 congr 1;funext p
 rw[q1d]
 cases p.1<;>rfl
theorem ql2:mSl fa fl fh ρ=(fa ρ).bind λp=>(fl p.2).bind λq=>(fh q.2).bind λr=>(dSl p.1 q.1 r.1).map λx=>(x,r.2):=by
 unfold mSl
 rw[q0n]
 congr 1;funext p
 rw[q0n]
 congr 1;funext q
 rw[q0n]
 congr 1;funext r
 rw[q1d]
theorem qcj{f h:RhO}:sSeq f h ρ=(f ρ).bind λo=>match o with
   |.nx ρ1=>h ρ1
   |o=>some o:=by
 unfold sSeq
 cases f ρ with
 |none=>rfl
 |some o=>cases o<;>rfl
theorem qhc{i:Nat}:sSet i fa ρ=(fa ρ).map λp=>.nx (p.2.set i (some p.1)):=by
 unfold sSet
 cases fa ρ<;>rfl
theorem qhe{i:Nat}:sOwn i fs ρ=(fs ρ).bind λp=>if i<p.2.length then some (.nx (p.2.set i (some (.lst p.1))))else none:=by
 unfold sOwn
 cases fs ρ<;>rfl
theorem qhk{fg:RhG}:sAsg fa fg ρ=(fa ρ).bind λp=>(fg p.1 p.2).map .nx:=by
 unfold sAsg
 cases fa ρ with
 |none=>rfl
 | some p=>
   obtain⟨d,ρ1⟩:=p
   show(match fg d ρ1 with|none=>none|some ρ2=>some (Out.nx ρ2))=(fg d ρ1).map _
   cases fg d ρ1<;>rfl
theorem ql3{f h:RhO}:sIf ga f h ρ=(ga ρ).bind λp=>if p.1=true then f p.2 else h p.2:=by
 unfold sIf
 cases ga ρ<;>rfl
theorem qhd:sRet fa ρ=(fa ρ).map λp=>.rt p.1 p.2:=by
 unfold sRet
 cases fa ρ<;>rfl
theorem qee{i:Nat}:q4s i ρ=((ρ[i]?).join.bind lsO).map λd=>.rt (.lst d) (ρ.set i none):=by
 unfold q4s
 cases h:ρ[i]? with
 |none=>rfl
 | some o=>
   cases o with
   |none=>rfl
   |some d=>cases d<;>rfl
theorem q94{α:Type}(i:Nat)(x:Option α):(if isL ρ i=true then x else none)=((ρ[i]?).join.bind lsO).bind λ_=>x:=by
 unfold isL
 cases h:ρ[i]? with
 |none=>rfl
 | some o=>
   cases o with
   |none=>rfl
   |some d=>cases d<;>rfl
theorem qhf:sNil ρ=some (.nx ρ):=rfl
theorem qhg{gm:List D->List D->Option (List D)}{i:Nat}:sMut gm i fs ρ=((ρ[i]?).join.bind lsO).bind λ_=>(fs ρ).bind λp=>((p.2[i]?).join.bind lsO).bind λxs=>(gm xs p.1).map λys=>.nx (p.2.set i (some (.lst ys))):=by
 refine Eq.trans ?_ (q94 _ _)
 unfold sMut
 congr 1
 cases fs ρ with
 |none=>rfl
 | some p=>
   show(match p.2[i]? with|some (some (.lst xs))=>_|_=>none)=_
   show _=((p.2[i]?).join.bind lsO).bind _
   cases h:p.2[i]? with
   |none=>rfl
   | some o=>
     cases o with
     |none=>rfl
     | some d=>
       cases d with
       | lst xs=>
         show(match gm xs p.1 with|some ys=>some (Out.nx _)|none=>none)=(gm xs p.1).map _
         cases gm xs p.1<;>rfl
       |_=>rfl
theorem qhi{i:Nat}:sExt i fs ρ=((ρ[i]?).join.bind lsO).bind λ_=>(fs ρ).bind λp=>((p.2[i]?).join.bind lsO).bind λxs=>if xs.length+p.1.length<=sizeLine then some (.nx (p.2.set i (some (.lst (xs++p.1)))))else none:=by
 refine Eq.trans ?_ (q94 _ _)
 unfold sExt
 congr 1
 cases fs ρ with
 |none=>rfl
 | some p=>
   show(match p.2[i]? with|some (some (.lst xs))=>_|_=>none)=_
   show _=((p.2[i]?).join.bind lsO).bind _
   cases h:p.2[i]? with
   |none=>rfl
   | some o=>
     cases o with
     |none=>rfl
     |some d=>cases d<;>rfl
def setI(x d k:D):Option D:=match x,k with
 |.lst xs,.int j=>(ixN xs.length j).map λm=>.lst (xs.set m d)
 |_,_=>none
theorem qed{i:Nat}:qaz i fa fb ρ=(fa ρ).bind λp=>(fb p.2).bind λq=>((q.2[i]?).join).bind λx=>(setI x p.1 q.1).map λy=>.nx (q.2.set i (some y)):=by
 unfold qaz
 cases fa ρ with
 |none=>rfl
 | some p=>
   show(match fb p.2 with|some (.int k,ρ2)=>_|_=>none)=(fb p.2).bind _
   cases fb p.2 with
   |none=>rfl
   | some q=>
     obtain⟨y,ρ2⟩:=q
     cases y with
     | int j=>
       show(match ρ2[i]? with|some (some (.lst xs))=>_|_=>none)=((ρ2[i]?).join).bind _
       cases h:ρ2[i]? with
       |none=>rfl
       | some o=>
         cases o with
         |none=>rfl
         | some d=>
           cases d with
           | lst xs=>
             show(match ixN xs.length j with|some m=>some (Out.nx _)|none=>none)=((ixN xs.length j).map _).map _
             cases ixN xs.length j<;>rfl
           |_=>rfl
     | _=>
       show none=((ρ2[i]?).join).bind _
       cases h:(ρ2[i]?).join with
       |none=>rfl
       |some x=>cases x<;>rfl
theorem qhh{fg:RhG}{f:RhO}:sFor fs fg f ρ=(fs ρ).bind λp=>q0r fg f p.1 p.2:=by
 unfold sFor
 cases fs ρ<;>rfl
theorem qhm{i:Nat}{d:D}:gSet i d ρ=some (ρ.set i (some d)):=rfl
theorem qhj{gi:Int->Int->Int}{i:Nat}:sAug gi i fa ρ=((ρ[i]?).join).bind λx=>(fa ρ).bind λp=>(dI0 gi x p.1).map λz=>.nx (p.2.set i (some z)):=by
 unfold sAug
 cases h:ρ[i]? with
 |none=>rfl
 | some o=>
   cases o with
   |none=>rfl
   | some d=>
     cases d with
     | int x=>
       show(match fa ρ with|some (.int y,ρ1)=>some (Out.nx _)|_=>none)=(fa ρ).bind _
       cases fa ρ with
       |none=>rfl
       | some p=>
         obtain⟨y,ρ1⟩:=p
         cases y<;>rfl
     | _=>
       show none=(fa ρ).bind _
       cases fa ρ with
       |none=>rfl
       | some p=>
         obtain⟨y,ρ1⟩:=p
         cases y<;>rfl
end
theorem qfv{n d:Nat}{k:Int}(h:0<=k):HT.sIx n d (some k)=min k.toNat n:=by
 show(if k<0 then(k+(n:Int)).toNat else min k.toNat n)=_
 rw[if_neg (by omega)]
theorem qhw(xs:List D){k:Int}(h:0<=k):cutD xs none (some k)=xs.take k.toNat:=by
 unfold cutD
 rw[qfv h,HT.sIx_none,List.drop_zero,Nat.sub_zero]
 exact List.take_eq_take_min.symm
theorem qcp{xs:List D}{k:Int}(h0:0<=k):dSl (.lst xs) none (some k)=some (.lst (xs.take k.toNat)):=by
 show some (D.lst (cutD xs none (some k)))=_
 rw[qhw xs h0]
section
variable{X:Cx}{a:Expr}{ta:TE}{p pos:Pos}{zo:List Expr}{x1:Nat}{tp:Pos}
end
section
variable{K:PySem.W.Frag}{O:List Nat}{t:TE}{fa:RhD}
end
section
variable{X:Cx}{K:PySem.W.Frag}{c:MC}{O O':List Nat}{t:TE}{fa:RhD}
end
section
variable{ρ:Rho}{fa fb:RhD}{fs:RhL}
theorem q6b(xs ys:List Int):zipD (xs.map D.int) (ys.map D.int)=(xs.zip ys).map λq=>D.tup [.int q.1,.int q.2]:=by
 unfold zipD
 rw[List.zipWith_map,List.zip,List.map_zipWith]
end
section
variable{prog:Program}{w:World}{A:Around}{E:Value->Shared->Prop}{s:Shared}{a₀:Array Keyed}
end
section
variable{X:Cx}{K:PySem.W.Frag}
end
section
variable{K:PySem.W.Frag}{O:List Nat}{t tb:TE}{fa fb:RhD}
end
section
variable{X:Cx}
end
section
variable{X:Cx}
end
section
variable{K:PySem.W.Frag}{O:List Nat}{t tb:TE}{fa fb:RhD}
end
section
variable{c:MC}{O O':List Nat}{te:TE}{fe:RhD}
end
section
variable{K:PySem.W.Frag}{O:List Nat}{tr:TA}{fs:RhL}{E:XK}{n:Nat}
end
section
variable{X:Cx}{K:PySem.W.Frag}{o e:Expr}{es:List Expr}{to:TE}{t:TA}{name:Str}{zl zd:Pos}{T id:String}{r:V->List V->Hp->VK->Prop}
end
end L2
namespace L2
open PySem PySem.NumText
end L2
namespace L2
open PySem PySem.NumText
end L2
namespace L2
open PySem PySem.Spec
section
variable{fa:RhD}{fl fh:Rho->Option (Option Int×Rho)}{ρ:Rho}
end
end L2
namespace L2
open PySem PySem.Spec PyProof.Rows
section
variable{X:Cx}
end
section
variable{K:PySem.W.Frag}{O:List Nat}{t tb:TE}{fa fb:RhD}
end
end L2
namespace L2
open PySem PySem.Spec
end L2
namespace L2
open PySem PySem.Spec PyProof.Rows
section
variable{X:Cx}
end
section
variable{K:PySem.W.Frag}{O:List Nat}{t tb:TE}{fa fb:RhD}
end
section
variable{X:Cx}{z4:List (Addr×Obj)}{σ:St}{CX:CXT}{k:Nat}{f:Addr}{fd:FuncData}{ps:List Str}{sp:Sp}{dvs:List V}{ds:List Value}{E:XK}{x:Str}{p pos:Pos}{e:Expr}{es:List Expr}{t:TA}{i:Nat}
end
section
variable{K:PySem.W.Frag}{O:List Nat}{tr:TA}{fs:RhL}{E:XK}{n:Nat}
end
section
variable{prog:Program}{w:World}{A:Around}{E:Value->Shared->Prop}{s:Shared}
end
section
variable{X:Cx}{a b:Expr}{ta:TA}{p pos:Pos}{zo:List Expr}{x1:Nat}{tp:Pos}
end
section
variable{K:PySem.W.Frag}{O:List Nat}{tr:TA}{fs:RhL}
end
end L2
namespace L2
def parF:Nat->Nat->Nat
 |0,_=>0
 |f+1,n=>(n % 2+parF f (n / 2)) % 2
theorem q6r:∀f,parF f 0=0
 |0=>rfl
 |f+1=>by unfold parF;rw[show(0:Nat) / 2=0 from rfl,q6r f]
theorem qbb:∀f n,parF f n<2
 |0,_=>Nat.zero_lt_two
 |f+1,n=>Nat.mod_lt _ (by decide)
def sgn(win tap:Int):Int:=(parF 5 (win.toNat &&& tap.toNat):Nat)
theorem qfs(a t:Int):sgn a t=0∨sgn a t=1:=by
 have:=qbb 5 (a.toNat &&& t.toNat)
 unfold sgn
 omega
def q57(row:List Int)(signs:List Int):List Int:=((signs.zip row).filter λq=>q.2==1).map (·.1)
theorem q6o(row taps:List Int)(g:Int->Int):q57 row (taps.map g)=((taps.zip row).filter λq=>q.2==1).map λq=>g q.1:=by
 unfold q57
 rw[List.zip_map_left,List.filter_map,jx]
 rfl
def rowAt(rows:List (List Int))(k:Nat):List Int:=(rows[k % rows.length]?).getD []
theorem q78{α:Type}(f:Nat->List α)(k:Nat):(List.range (k+1)).flatMap f=(List.range k).flatMap f++f k:=by
 rw[List.range_succ,List.flatMap_append]
 simp
theorem q96{α:Type}(f:Nat->List α)(m:Nat)(h:∀k,(f k).length<=m):∀n,((List.range n).flatMap f).length<=n*m
 |0=>by simp
 | n+1=>by
   rw[q78,jm]
   have:=q96 f m h n
   have:=h n
   rw[Nat.succ_mul]
   omega
end L2
namespace L2
open PySem
def rowD(row:List Int):D:=.tup (row.map D.int)
def schD(r:Int)(taps:List Int)(rows:List (List Int))(e:Str):D:=.tup [.int r,.tup (taps.map D.int),.tup (rows.map rowD),.str e]
structure q1w(r:Int)(taps:List Int)(rows:List (List Int))(e:Str):Prop where
 r0:0<=r
 r4:r<=4
 t1:1<=taps.length
 t4:taps.length<=4
 tb:∀t∈taps,0<=t/\t<2*2^r.toNat
 m1:1<=rows.length
 m6:rows.length<=6
 rw:∀row∈rows,row.length=taps.length/\∀b∈row,b=0∨b=1
 en:e="open"∨e="ended"∨e="ring"
theorem q84{P:Int->Prop}:∀{ys:List D},(∀y∈ys,∃t,y=.int t/\P t)->∃ts:List Int,ys=ts.map D.int/\∀t∈ts,P t
 |[],_=>⟨[],rfl,λ_ h=>nomatch h⟩
 | y::ys,h=>by
   obtain⟨t,rfl,ht⟩:=h y jf
   obtain⟨ts,rfl,hs⟩:=q84 (P:=P) λz hz=>h z (jj _ hz)
   refine⟨t::ts,rfl,λu hu=>?_⟩
   rcases List.mem_cons.mp hu with rfl|hu
   · exact ht
   · exact hs u hu
theorem qd6{x:Int}(h:0<=x):Builtin.bitAnd x 1=x % 2:=by
 unfold Builtin.bitAnd
 rw[decide_eq_true h,decide_eq_true (by decide:(0:Int)<=1)]
 show((x.toNat &&& 1:Nat):Int)=x % 2
 rw[Nat.and_one_is_mod]
 omega
theorem qd7{x y:Int}(h:0<=x)(g:0<=y):Builtin.bitAnd x y=((x.toNat &&& y.toNat:Nat):Int):=by
 unfold Builtin.bitAnd
 rw[decide_eq_true h,decide_eq_true g]
theorem qda{x y:Int}(h:x=0∨x=1)(g:y=0∨y=1):Builtin.bitXor x y=(x+y) % 2:=by
 rcases h with rfl|rfl<;>rcases g with rfl|rfl<;>decide
theorem q4t{r:Int}(r0:0<=r)(r4:r<=4):(1:Int)<=2^r.toNat/\(2:Int)^r.toNat<=16:=by
 rcases(by omega:r=0∨r=1∨r=2∨r=3∨r=4)with rfl|rfl|rfl|rfl|rfl<;>decide
end L2
namespace L2
open PySem PySem.Spec
def DOk(n:Nat)(d:D):Prop:=∃p,d.toP=some p/\p.canLay0=true/\p.depth<=n
def DOks(n:Nat)(ds:List D):Prop:=∃ps,D.toPs ds=some ps/\PyData.canLayAll0 ps=true/\PyData.depthAll ps<=n
theorem DOk.int(n:Nat)(i:Int):DOk n (.int i):=⟨.int i,by simp only[D.toP],by simp only[PyData.canLay0],by simp only[PyData.depth];exact Nat.zero_le _⟩
theorem DOk.bl(n:Nat)(i:Bool):DOk n (.bl i):=⟨.bool i,by simp only[D.toP],by simp only[PyData.canLay0],by simp only[PyData.depth];exact Nat.zero_le _⟩
theorem DOk.str(n:Nat){x:Str}(h:PyData.strOk x=true):DOk n (.str x):=⟨.str x,by simp only[D.toP],by simp only[PyData.canLay0];exact h,by simp only[PyData.depth];exact Nat.zero_le _⟩
theorem DOks.nil(n:Nat):DOks n []:=⟨[],by simp only[D.toPs],by simp only[PyData.canLayAll0],by simp only[PyData.depthAll];exact Nat.zero_le _⟩
theorem DOks.cons{n:Nat}{d:D}{ds:List D}(h:DOk n d)(r:DOks n ds):DOks n (d::ds):=by
 obtain⟨p,h1,h2,h3⟩:=h
 obtain⟨ps,g1,g2,g3⟩:=r
 refine⟨p::ps,by simp only[D.toPs,h1,g1],by simp only[PyData.canLayAll0,h2,g2];rfl,?_⟩
 simp only[PyData.depthAll]
 exact Nat.max_le.mpr ⟨h3,g3⟩
theorem DOks.all{n:Nat}:∀{ds:List D},(∀d∈ds,DOk n d)->DOks n ds
 |[],_=>DOks.nil n
 |d::ds,h=>DOks.cons (h d jf) (DOks.all λx hx=>h x (jj _ hx))
theorem DOks.lst{n:Nat}{ds:List D}(h:DOks n ds):DOk (n+1) (.lst ds):=by
 obtain⟨ps,g1,g2,g3⟩:=h
 exact⟨.list ps,by simp only[D.toP,g1];rfl,by simp only[PyData.canLay0];exact g2,by simp only[PyData.depth];omega⟩
theorem DOks.tup{n:Nat}{ds:List D}(h:DOks n ds):DOk (n+1) (.tup ds):=by
 obtain⟨ps,g1,g2,g3⟩:=h
 exact⟨.tuple ps,by simp only[D.toP,g1];rfl,by simp only[PyData.canLay0];exact g2,by simp only[PyData.depth];omega⟩
end L2
namespace L2
open PySem PySem.Spec
end L2
namespace L2
open PySem PySem.Spec PySem.NumText
section
variable{K:PySem.W.Frag}{O:List Nat}{E:XK}
end
end L2
namespace L2
open PySem PySem.Spec PyProof.Rows
section
variable{c:MC}{O O':List Nat}{te:TE}{fa:RhD}
end
section
variable{M:Model}{A:Around}{E:Value->Shared->Prop}{s:Shared}{B:Heap}{env:Env}{outer l:List Env}{L e:Addr}{cls fl:Value}{Q:Unit->Shared->Prop}
end
section
variable{X:Cx}{z4:List (Addr×Obj)}{σ:St}{H H':Hp}{s:Shared}
end
section
variable{P:Program}{w:World}{K:PySem.W.Frag}{mg:Str->Option Value}{base:Heap}{N:List Str}{qual:Str}{scope:Scope}{f:Addr}{cd:Value}{A:Around}{outer:List Env}{s₀:Shared}{H₀:Hp}{E:XK}
end
section
variable{X:Cx}{tg elt z9:Expr}{ifs:List Expr}{scope:Scope}{pos:Pos}{N N0:List Str}{n:Nat}{js:List Nat}{sc:Scope}{wi:TI}{g:TG}{tt:TT}{te:TE}
end
section
variable{X:Cx}{tg elt z9:Expr}{ifs:List Expr}{scope:Scope}{pos:Pos}{N N0:List Str}{n:Nat}{js:List Nat}{sc:Scope}{wi:TI}{g:TG}{tt:TT}{te:TE}
end
@[irreducible] def QSs(X:Cx)(st:List Stmt)(t:TS):Prop:=PSs X st t
section
variable{X:Cx}{st:Stmt}{sts a b:List Stmt}{t u:TS}{tc:TT}{c tg z9:Expr}{wi:TI}{g:TG}{pos:Pos}
end
inductive Inn(K:PySem.W.Frag)(H R:Hp):List Addr->List (List D)->Prop
 |nil:Inn K H R [] []
 |cons {a:Addr} {as:List Addr} {vs:List V} {ds:List D} {dss:List (List D)}:H a=some (.lst vs)->R a=none->Rps K R vs ds->Inn K H R as dss->Inn K H R (a::as) (ds::dss)
structure Deep(K:PySem.W.Frag)(H R:Hp)(l:Addr)(as:List Addr)(dss:List (List D)):Prop where
 top:H l=some (.lst (as.map V.ref))
 rl:R l=none
 inn:Inn K H R as dss
 nd:(l::as).Nodup
theorem StR.put{K:PySem.W.Frag}{Z:Anc}{O:List Nat}{σ:St}{H R:Hp}{ρ:Rho}{a:Addr}{o:HO}(S:StR K Z O σ H R ρ)(hr:R a=none)(n:∀i,i∈O->σ[i]? ≠some (some (.ref a)))(z:Z.H0 a=none):StR K Z O σ (upd H a o) R ρ:=by
 have ne:∀b u,Z.H0 b=some u->b≠a:=λb u e q=>by rw[q,z]at e;cases e
 refine⟨λb u e=>?_,S.len,S.env,λi hi=>?_,S.dis,λb u e nl=>?_,S.ar,S.an,λb h=>?_,S.ao,S.ap⟩
 · have q:b≠a:=λq=>by rw[q,hr]at e;cases e
   rw[q05 q]
   exact S.sub b u e
 · obtain⟨l,vs,ds,h1,h2,h3,h4,h5⟩:=S.own i hi
   have q:l≠a:=λq=>n i hi (by rw[h2,q])
   exact⟨l,vs,ds,h1,h2,by rw[q05 q];exact h3,h4,h5⟩
 · rw[q05 (ne b u e)]
   exact S.ah b u e nl
 · have q:b≠a:=λq=>h (by rw[q];exact z)
   have l:=S.ad b h
   unfold Liv at l ⊢
   rw[q05 q]
   exact l
theorem Inn.has{K:PySem.W.Frag}{H R:Hp}{as:List Addr}{dss:List (List D)}(h:Inn K H R as dss):∀a∈as,∃vs,H a=some (.lst vs):=by
 induction h with
 |nil=>exact λ_ h=>nomatch h
 | cons h1 _ _ _ ih=>
   intro a ha
   rcases List.mem_cons.mp ha with rfl|ha
   · exact⟨_,h1⟩
   · exact ih a ha
theorem Inn.len{K:PySem.W.Frag}{H R:Hp}{as:List Addr}{dss:List (List D)}(h:Inn K H R as dss):as.length=dss.length:=by
 induction h with
 |nil=>rfl
 |cons _ _ _ _ ih=>rw[jk,jk,ih]
theorem Inn.at{K:PySem.W.Frag}{H R:Hp}{as:List Addr}{dss:List (List D)}(h:Inn K H R as dss):∀{k:Nat} {a:Addr},as[k]? =some a->∃vs ds,dss[k]? =some ds/\H a=some (.lst vs)/\R a=none/\Rps K R vs ds:=by
 induction h with
 |nil=>intro k a e;simp at e
 | cons h1 h2 h3 _ ih=>
   intro k a e
   cases k with
   | zero=>
     cases e
     exact⟨_,_,rfl,h1,h2,h3⟩
   |succ k=>exact ih e
theorem Inn.other{K:PySem.W.Frag}{H R:Hp}{as:List Addr}{dss:List (List D)}{b:Addr}{o:HO}(h:Inn K H R as dss)(n:b∉as)(hb:R b=none):Inn K H (upd R b o) as dss:=by
 have s:Same R (upd R b o):=λa u e=>by
   have q:a≠b:=λq=>by rw[q,hb]at e;cases e
   rw[q05 q]
   exact e
 induction h with
 |nil=>exact .nil
 | cons h1 h2 h3 _ ih=>
   exact .cons h1 (by rw[q05 λq=>n (by rw[q];exact jf)];exact h2) (h3.mono s) (ih λq=>n (jj _ q))
theorem Inn.same{K:PySem.W.Frag}{H R H':Hp}{as:List Addr}{dss:List (List D)}(h:Inn K H R as dss)(s:Same H H'):Inn K H' R as dss:=by
 induction h with
 |nil=>exact .nil
 |cons h1 h2 h3 _ ih=>exact .cons (s _ _ h1) h2 h3 ih
structure StD(K:PySem.W.Frag)(Z:Anc)(O:List Nat)(i:Nat)(σ:St)(H R:Hp)(ρ:Rho)(l:Addr)(as:List Addr)(dss:List (List D)):Prop where
 st:StR K Z O σ H R ρ
 hi:i∉O
 no:ρ[i]? =some none
 at':σ[i]? =some (some (.ref l))
 dp:Deep K H R l as dss
 z0:∀a∈l::as,Z.H0 a=none
 ow:∀a∈l::as,∀j,j∈O->σ[j]? ≠some (some (.ref a))
section
variable{K:PySem.W.Frag}{Z:Anc}{O:List Nat}{i j:Nat}{σ:St}{H R H' R':Hp}{ρ ρ':Rho}{l:Addr}{as:List Addr}{dss:List (List D)}
theorem StD.set(S:StD K Z O i σ H R ρ l as dss){v:V}{d:D}(hj:j∉O)(ij:j≠i)(r:Rp K R v d):StD K Z O i (σ.set j (some v)) H R (ρ.set j (some d)) l as dss:=
 ⟨S.st.set hj r,S.hi,by rw[jd ij];exact S.no,by rw[jd ij];exact S.at',S.dp,S.z0,λa ha k hk=>by
   rw[jd λ(q:j=k)=>hj (q▸hk)]
   exact S.ow a ha k hk⟩
theorem StR.blind{v:V}(S:StR K Z O σ H R ρ)(hj:j∉O):StR K Z O (σ.set j (some v)) H R (ρ.set j none):=by
 have ne:∀k,k∈O->j≠k:=λk hk z=>hj (z▸hk)
 refine⟨S.sub,by rw[x4,x4];exact S.len,λk e hk q=>?_,λk hk=>?_,λk m hk hm n l e=>?_,S.ah,S.ar,S.an,S.ad,λk hk hp l e=>?_,λk hk hp l e=>?_⟩
 · by_cases hij:j=k
   · subst hij
     have hl:j<ρ.length:=by
       have:=(List.getElem?_eq_some_iff.mp q).1
       rwa [x4]at this
     rw[jv hl]at q
     cases q
   · rw[jd hij]at q ⊢
     exact S.env k e hk q
 · rw[jd (ne k hk),jd (ne k hk)]
   exact S.own k hk
 · rw[jd (ne k hk)]at e
   rw[jd (ne m hm)]
   exact S.dis k m hk hm n l e
 · rw[jd (ne k hk)]at e
   exact S.ao k hk hp l e
 · rw[jd (ne k hk)]at e
   exact S.ap k hk hp l e
end
section
variable{K:PySem.W.Frag}{O:List Nat}{i j:Nat}{t u:TS}{te:TE}{tt:TT}{tr:TA}{f h:Fd}{fe:RhD}{fs:RhL}{ft:RhB}
end
theorem qcv{X:Cx}{K:PySem.W.Frag}(hK:X.K=K)(hc:X.calm=true):q48 X (.builtin "sum") (λxs H Q=>∃(p:Addr) (ns:List Int),xs=[.ref p]/\SqT K H p (ns.map V.int)/\Q (.int ns.sum) H):=by
 subst hK
 intro z4 s σ H xs us Q I r h
 obtain⟨p,ns,rfl,hq,q⟩:=h
 obtain⟨u,rfl,ru⟩:=vals1 r
 cases ru
 obtain⟨its,rv,pl,hz⟩:=I.tuple hq
 have hh:X.A.in1.handled=none:=I.ok.hd hc
 have hl:s.heap.IsTuple p its.toArray:=pl
 have hlt:p<s.heap.objs.size:=by obtain⟨_,e,_⟩:=hl;exact j8 e
 refine call_sum_walkG (wpAny_pyIter_tuple hl ?_)
 refine⟨_,_,_,_,_,_,λi=>ns.getD i 0,rfl,Walks.tuple hh s.heap.objs.size p (jh hlt) its.toArray,⟨⟨_,je _ rfl,rfl,rfl⟩,hl.push _⟩,λb hb=>?_,λi v hP=>q17 rv (by simpa using hP),λh' tk t' hk=>?_⟩
 · show b<(s.heap.push _).objs.size
   rw[xk]
   rcases List.mem_cons.mp hb with rfl|hb
   · exact Nat.lt_succ_self _
   · rw[List.mem_singleton.mp hb];exact Nat.lt_succ_of_lt hlt
 · have len:its.toArray.size=ns.length:=by have:=rv.length;simp at this;simp;omega
   refine⟨.int ns.sum,H,I.kept (t':=tk) λb o e=>hk b o (λz=>?_) (ja _ e),⟨t',?_⟩,q⟩
   · have:=j8 e
     rw[List.mem_singleton.mp z]at this
     exact x9 _ this
   · rw[len,q3i ns _ (jc _),List.take_length]
def qa5:D->Option D
 |.tup xs=>(q1v xs).map λns=>.int ns.sum
 |_=>none
theorem qhx{K:PySem.W.Frag}:q89 K (λxs H Q=>∃(p:Addr) (ns:List Int),xs=[.ref p]/\SqT K H p (ns.map V.int)/\Q (.int ns.sum) H) qa5:=λH x d u Q r e k=>by
 unfold qa5 at e
 split at e
 · rename_i ds
   obtain⟨a,xs,rfl,h,q⟩:=r.isT
   cases z:q1v ds with
   |none=>rw[z]at e;cases e
   | some ns=>
     rw[z]at e
     cases e
     have ex:=q2o q z
     subst ex
     exact⟨_,ns,rfl,SqT.of h,k _ (.int _)⟩
 · cases e
section
variable{K:PySem.W.Frag}{O T:List Nat}{i:Nat}{t:TS}{te:TE}{tr:TA}{g:TG}{f:Fd}{fe:RhD}{fs:RhL}{fg:RhG}
end
section
variable{X:Cx}{K:PySem.W.Frag}{a tg:Expr}{ta:TE}{p pos:Pos}
end
section
variable{X:Cx}{K:PySem.W.Frag}{O:List Nat}{a:Expr}{ta:TE}{p p2 pos pos2:Pos}{fa:RhD}
end
structure Kp(I S:Addr)(s0 s:Shared):Prop where
 heap:∀b o,b≠I->b≠S->s0.heap.get? b=some o->s.heap.get? b=some o
 gens:s.gens=s0.gens
 drawn:s.drawn=s0.drawn
 os:s.os=s0.os
structure Kq(s s':Shared):Prop where
 heap:∀b o,s.heap.get? b=some o->s'.heap.get? b=some o
 gens:s'.gens=s.gens
 drawn:s'.drawn=s.drawn
 os:s'.os=s.os
theorem Kp.on{I S:Addr}{s0 s s':Shared}(x:Kp I S s0 s)(heap:∀b o,b≠I->b≠S->s.heap.get? b=some o->s'.heap.get? b=some o)(g:s'.gens=s.gens)(d:s'.drawn=s.drawn)(o:s'.os=s.os):Kp I S s0 s':=
 ⟨λb u h1 h2 e=>heap b u h1 h2 (x.heap b u h1 h2 e),g.trans x.gens,d.trans x.drawn,o.trans x.os⟩
def CmpK(prog:Program)(w:World)(A:Around)(I S:Addr)(s0:Shared)(its:Array Value)(bt:Nat->Nat->Bool):Prop:=
 ∀(i j:Nat) (vi vj:Value) (s:Shared) (Q:Value->Shared->Prop) (E:Value->Shared->Prop),its[i]? =some vi->its[j]? =some vj->Kp I S s0 s->(∀s',Kq s s'->Q (.bool (bt i j)) s')->wpAny (model prog w) A (richCompare .Lt vi vj) Q E s
section
variable{prog:Program}{w:World}{A:Around}{R:Result->Shared->Prop}{I S l:Addr}{its:Array Value}{s0:Shared}{bt:Nat->Nat->Bool}{kw:List (Str×Value)}
abbrev StL(I l:Addr)(its:Array Value)(i:Nat)(h:Heap):Prop:=h.IsListIter I l i/\h.IsList l its
theorem StL.keep{i:Nat}{h h':Heap}(st:StL I l its i h)(k:∀b o,b=I∨b=l->h.get? b=some o->h'.get? b=some o):StL I l its i h':=by
 obtain⟨⟨o,e,c⟩,⟨o2,e2,c2⟩⟩:=st
 exact⟨⟨o,k I o (.inl rfl) e,c⟩,⟨o2,k l o2 (.inr rfl) e2,c2⟩⟩
theorem qbq(hh:A.in1.handled=none)(lI:l≠I)(SI:S≠I)(Sl:S≠l)(zw:CmpK prog w A.in1 I S s0 its bt)(hR:∀v s',its[argBest bt (its.size-1)]? =some v->Kp I S s0 s'->R (.ok (.ret v)) s'):
   ∀(k j:Nat) (s:Shared) (vb:Value) (c:Nat),its.size-(j+1)=k->j+1<=its.size->StL I l its (j+1) s.heap->its[argBest bt j]? =some vb->s.heap.get? S=some {cls:=.type "list",data:=.seq #[vb,vb] c}->Kp I S s0 s->
     codeAny (model prog w) A (.builtin "min.loop" ⟨[.ref I,.none,.ref S],kw⟩) R s:=by
 intro k
 induction k with
 | zero=>
   intro j s vb c hk hj st hb hS K
   have en:j+1=its.size:=by omega
   refine ki kj ?_
   rw[kl x8]
   show wpAny _ _ (seqItems? (.ref S) >>= _) _ _ s
   refine j6 (x6 hS rfl ?_)
   refine j6 (xp ?_)
   refine wpAny_pyNext_list_end hh st.1 st.2 (Array.getElem?_eq_none (by omega)) λh' eb=>?_
   have hS2:h'.get? S=some {cls:=.type "list",data:=.seq #[vb,vb] c}:=eb S _ SI hS
   show wpAny _ _ (updateSeq S (λ_=>#[]) >>= _) _ _ {s with heap:=h'}
   refine j6 (km (s:={s with heap:=h'}) hS2 rfl ?_ (by simp[sizeLine_eq]) (by simp[sizeLine_eq]))
   refine j6 (xi ?_)
   refine j7 ?_
   have ej:its.size-1=j:=by omega
   refine hR vb _ (by rw[ej];exact hb) (K.on (λb o h1 h2 e=>?_) rfl rfl rfl)
   exact(xg h' _ (Ne.symm h2)).trans (eb b o h1 e)
 | succ k ih=>
   intro j s vb c hk hj st hb hS K
   have lt:j+1<its.size:=by omega
   refine ki kj ?_
   rw[kl x8]
   show wpAny _ _ (seqItems? (.ref S) >>= _) _ _ s
   refine j6 (x6 hS rfl ?_)
   refine j6 (xp ?_)
   have hx:its[j+1]? =some its[j+1]:=Array.getElem?_eq_getElem lt
   refine kr st.1 st.2 (x:=its[j+1]) hx λh' st' sb=>?_
   have kI:∀b o,b≠I->s.heap.get? b=some o->h'.get? b=some o:=λb o hb e=>(sb.2 b hb).trans e
   have hS2:h'.get? S=some {cls:=.type "list",data:=.seq #[vb,vb] c}:=kI S _ SI hS
   have L2:h'.IsList l its:=by obtain⟨o,e,q⟩:=st.2;exact⟨o,kI l o lI e,q⟩
   have K2:Kp I S s0 {s with heap:=h'}:=K.on (λb o h1 _ e=>kI b o h1 e) rfl rfl rfl
   show wpAny _ _ (pure its[j+1] >>= _) _ _ {s with heap:=h'}
   refine j6 (j7 ?_)
   show wpAny _ _ (Sem.tryCatch _ _ >>= _) _ _ {s with heap:=h'}
   refine j6 (xp (jr ?_))
   refine j6 (zw (j+1) (argBest bt j) _ vb _ _ _ hx hb K2 λs3 q3=>?_)
   refine j6 (jr (xw ?_))
   refine j6 (xi ?_)
   refine j7 ?_
   have hS3:=q3.heap S _ hS2
   have st3:StL I l its (j+1+1) s3.heap:=StL.keep ⟨st',L2⟩ λb o _ e=>q3.heap b o e
   have K3:Kp I S s0 s3:=K2.on (λb o _ _ e=>q3.heap b o e) q3.gens q3.drawn q3.os
   have eb:argBest bt (j+1)=if bt (j+1) (argBest bt j)=true then j+1 else argBest bt j:=by rw[argBest]
   cases q:bt (j+1) (argBest bt j)with
   | true=>
     rw[q,if_pos rfl]at eb
     show wpAny _ _ (updateSeq S _ >>= _) _ _ s3
     refine j6 (km hS3 rfl ?_ (by simp[sizeLine_eq]) (by simp[sizeLine_eq]))
     refine j6 (xi ?_)
     refine j7 ⟨xr x8 _,?_⟩
     have hS4:=xo (Obj.mapSeq λ_=>#[its[j+1],its[j+1]]) hS3 rfl
     refine ih (j+1) _ its[j+1] _ (by omega) lt (st3.keep λb o hb e=>?_) (by rw[eb];exact hx) hS4 (K3.on (λb o h1 h2 e=>(xg s3.heap _ (Ne.symm h2)).trans e) rfl rfl rfl)
     refine(xg s3.heap _ ?_).trans e
     rcases hb with rfl|rfl
     · exact SI
     · exact Sl
   | false=>
     rw[q,if_neg (by decide)]at eb
     show wpAny _ _ (letGo _ >>= _) _ _ s3
     refine j6 (xi ?_)
     refine j7 ⟨xr x8 _,?_⟩
     exact ih (j+1) s3 vb c (by omega) lt st3 (by rw[eb];exact hb) hS3 K3
theorem q9w(hh:A.in1.handled=none)(lI:l≠I)(SI:S≠I)(Sl:S≠l)(zw:CmpK prog w A.in1 I S s0 its bt)(hR:∀v s',its[argBest bt (its.size-1)]? =some v->Kp I S s0 s'->R (.ok (.ret v)) s')
   (hD:its.size=0->∃x d r,kw=(x,d)::r/\∀s',Kp I S s0 s'->R (.ok (.ret d)) s')
   {s:Shared} {c:Nat} (st:StL I l its 0 s.heap) (hS:s.heap.get? S=some {cls:=.type "list",data:=.seq #[] c}) (K:Kp I S s0 s):codeAny (model prog w) A (.builtin "min.loop" ⟨[.ref I,.none,.ref S],kw⟩) R s:=by
 refine ki kj ?_
 rw[kl x8]
 show wpAny _ _ (seqItems? (.ref S) >>= _) _ _ s
 refine j6 (x6 hS rfl ?_)
 refine j6 (xp ?_)
 by_cases h0:its.size=0
 · obtain⟨x,d,r,rfl,hE⟩:=hD h0
   refine wpAny_pyNext_list_end hh st.1 st.2 (Array.getElem?_eq_none (by omega)) λh' eb=>?_
   show wpAny _ _ (rule _ >>= _) _ _ {s with heap:=h'}
   refine j6 (wpAny_rule ?_)
   refine j7 ?_
   exact hE _ (K.on (λb o h1 h2 e=>eb b o h1 e) rfl rfl rfl)
 · have lt:0<its.size:=by omega
   have hx:its[0]? =some its[0]:=Array.getElem?_eq_getElem lt
   refine kr st.1 st.2 (x:=its[0]) hx λh' st' sb=>?_
   have kI:∀b o,b≠I->s.heap.get? b=some o->h'.get? b=some o:=λb o hb e=>(sb.2 b hb).trans e
   have hS2:h'.get? S=some {cls:=.type "list",data:=.seq #[] c}:=kI S _ SI hS
   have L2:h'.IsList l its:=by obtain⟨o,e,q⟩:=st.2;exact⟨o,kI l o lI e,q⟩
   show wpAny _ _ (pure its[0] >>= _) _ _ {s with heap:=h'}
   refine j6 (j7 ?_)
   show wpAny _ _ (updateSeq S _ >>= _) _ _ {s with heap:=h'}
   refine j6 (km (s:={s with heap:=h'}) hS2 rfl ?_ (by simp[sizeLine_eq]) (by simp[sizeLine_eq]))
   refine j7 ⟨xr x8 _,?_⟩
   have hS4:=xo (Obj.mapSeq λ_=>#[its[0],its[0]]) hS2 rfl
   refine qbq hh lI SI Sl zw hR (its.size-1) 0 _ its[0] _ rfl lt (StL.keep ⟨st',L2⟩ λb o hb e=>?_) hx hS4 (K.on (λb o h1 h2 e=>(xg h' _ (Ne.symm h2)).trans (kI b o h1 e)) rfl rfl rfl)
   refine(xg h' _ ?_).trans e
   rcases hb with rfl|rfl
   · exact SI
   · exact Sl
end
section
open PySem.SeqAt PySem.MeetsSeq PySem.MeetsSeq2 PySem.MeetsSeq3
end
section
variable{prog:Program}{w:World}{A:Around}{E:Value->Shared->Prop}{s:Shared}
end
inductive Cmps(A:Around)(s:Shared):List Value->List Value->Bool->Prop
 |nil:Cmps A s [] [] false
 |eq {x y:Value} {vs ws:List Value} {r:Bool}:SeqAt.EqAt A s x y true->Cmps A s vs ws r->Cmps A s (x::vs) (y::ws) r
 |ne {x y:Value} {vs ws:List Value} {r:Bool}:SeqAt.EqAt A s x y false->(∀(prog:Program) (w:World) (E Q:Value->Shared->Prop),Q (.bool r) s->wpAny (model prog w) A (richCompare .Lt x y) Q E s)->vs.length=ws.length->Cmps A s (x::vs) (y::ws) r
theorem Cmps.len{A:Around}{s:Shared}{vs ws:List Value}{r:Bool}(h:Cmps A s vs ws r):vs.length=ws.length:=by
 induction h with
 |nil=>rfl
 |eq _ _ ih=>rw[jk,jk,ih]
 |ne _ _ e=>rw[jk,jk,e]
section
open PySem.SeqAt
open PySem.AutoSeq1 (wpAny_loadPart')
open PySem.MeetsSeq PySem.MeetsSeq2 PySem.MeetsSeq3
end
section
variable{prog:Program}{w:World}{A:Around}{E:Value->Shared->Prop}{s:Shared}
end
section
variable{prog:Program}{w:World}{A:Around}{E:Value->Shared->Prop}{s:Shared}{Q:Value->Shared->Prop}{p:Addr}{its:Array Value}{bt:Nat->Nat->Bool}
theorem qkb(hh:A.in1.handled=none)(hl:s.heap.IsList p its){kw:List (Str×Value)}{dflt:Option Value}(hk:kw=dflt.toList.map λd=>(Str.ofString "default",d))
   (zw:CmpK prog w A.in1 s.heap.objs.size (s.heap.objs.size+1) s its bt)
   (hD:its.size=0->∃d,dflt=some d/\∀s',Kq s s'->Q d s') (hQ:∀v s',its[argBest bt (its.size-1)]? =some v->Kq s s'->Q v s'):
   wpAny (model prog w) A.in1 (do let it <-pyIter (.ref p);let b <-newList [];again (.builtin "min.loop" ⟨[it,.none,b],kw⟩)) (λfin s'=>match fin with
     | .done f=>(match (Except.ok f:Result)with
       |.ok (.ret v)=>Q v s'
       |.ok _=>False
       |.error e=>E e s')
     | .again c'=>c'.quiet=true/\codeAny (model prog w) A c' (λr s'=>match r with
       |.ok (.ret v)=>Q v s'
       |.ok _=>False
       |.error e=>E e s') s') E s:=by
 have lp:p<s.heap.objs.size:=by obtain⟨o,e,_⟩:=hl;exact j8 e
 refine j6 (kc hl ?_)
 refine j6 (jq ?_ (by first|exact Nat.zero_le _|(show(0:Nat)<=sizeLine;exact Nat.zero_le _)))
 refine j7 ⟨xr x8 _,?_⟩
 have push2:∀b o,s.heap.get? b=some o->((s.heap.push {cls:=.type "list_iterator",data:=.fields #[.ref p,.int 0 0]}).push {cls:=.type "list",data:=.seq #[]}).get? b=some o:=λb o e=>ja _ (ja _ e)
 have sz:(s.heap.push {cls:=.type "list_iterator",data:=.fields #[.ref p,.int 0 0]}).objs.size=s.heap.objs.size+1:=xk _ _
 have kq:∀s',Kp s.heap.objs.size (s.heap.objs.size+1) s s'->Kq s s':=λs' k=>⟨λb o e=>k.heap b o (jh (j8 e)) (jh (Nat.lt_succ_of_lt (j8 e))) e,k.gens,k.drawn,k.os⟩
 dsimp only
 rw[sz]
 refine q9w (s0:=s) hh (jh lp) (Nat.ne_of_gt (Nat.lt_succ_self _)) (Nat.ne_of_gt (Nat.lt_succ_of_lt lp)) zw (λv s' e k=>hQ v s' e (kq s' k)) (λh0=>?_) (c:=0) ⟨⟨_,ja _ (je _ rfl),rfl,rfl⟩,?_⟩ ?_ ⟨λb o _ _ e=>push2 b o e,rfl,rfl,rfl⟩
 · obtain⟨d,e,k⟩:=hD h0
   subst e
   exact⟨_,d,[],by rw[hk];rfl,λs' k'=>k s' (kq s' k')⟩
 · obtain⟨o,e,c⟩:=hl
   exact⟨o,push2 p o e,c⟩
 · have:=je (s.heap.push {cls:=.type "list_iterator",data:=.fields #[.ref p,.int 0 0]}) (o:={cls:=.type "list",data:=.seq #[]}) rfl
   rw[sz]at this
   exact this
theorem qcx(hh:A.in1.handled=none)(hl:s.heap.IsList p its)(h0:0<its.size)(zw:CmpK prog w A.in1 s.heap.objs.size (s.heap.objs.size+1) s its bt)
   (hQ:∀v s',its[argBest bt (its.size-1)]? =some v->Kq s s'->Q v s'):wpAny (model prog w) A (call (.builtin "min") [.ref p]) Q E s:=by
 refine kmk_tree F.kind_min F.plain_min F.entry_min (F.args_min1 _) ?_
 show wpAny _ _ (Builtin.Builtins.bindParams "min" ["key","default"] 0 ⟨[],[]⟩ >>= _) _ _ s
 refine j6 (wpAny_of_eq (show _=pure [none,none]from by rfl) ?_)
 show wpAny _ _ (pure (Value.ref p) >>= _) _ _ s
 refine j6 (j7 ?_)
 dsimp only
 rw[show(toString "min"++toString ".loop")="min.loop" from by decide]
 exact qkb hh hl (dflt:=none) rfl zw (λh=>absurd h (by omega)) hQ
end
theorem qa8{α:Type}{lt:α->α->Bool}{f:Nat->α}(h1:∀a,lt a a=false)(h2:∀a b c,lt a b=true->lt c b=false->lt c a=false)(n:Nat):argBest (λi j=>lt (f i) (f j)) n<=n/\∀i,i<=n->lt (f i) (f (argBest (λi j=>lt (f i) (f j)) n))=false:=by
 induction n with
 | zero=>
   rw[argBest]
   exact⟨jc _,λi hi=>by rw[Nat.le_zero.mp hi];exact h1 _⟩
 | succ n ih=>
   obtain⟨h3,h4⟩:=ih
   rw[argBest]
   cases q:lt (f (n+1)) (f (argBest (λi j=>lt (f i) (f j)) n))with
   | true=>
     rw[if_pos rfl]
     refine⟨jc _,λi hi=>?_⟩
     rcases Nat.lt_or_ge i (n+1)with z|z
     · exact h2 _ _ _ q (h4 i (by omega))
     · have e:i=n+1:=by omega
       rw[e];exact h1 _
   | false=>
     rw[if_neg (by decide)]
     refine⟨by omega,λi hi=>?_⟩
     rcases Nat.lt_or_ge i (n+1)with z|z
     · exact h4 i (by omega)
     · have e:i=n+1:=by omega
       rw[e];exact q
theorem qkh{X:Cx}{z4:List (Addr×Obj)}{σ:St}{H:Hp}{s s':Shared}(I:Inv X z4 σ H s)(k:Kq s s'):Inv X z4 σ H s':=by
 have es:s'={s with heap:=s'.heap,toks:=s'.toks}:=by
   obtain⟨h2,g2,d2,t2,o2⟩:=s'
   obtain⟨_,eg,ed,eo⟩:=k
   cases eg;cases ed;cases eo
   rfl
 rw[es]
 exact I.kept k.heap
def btI(ns:List Int):Nat->Nat->Bool:=λi j=>decide (ns.getD i 0<ns.getD j 0)
def minI(ns:List Int):Option Int:=match ns with
 |[]=>none
 |_=>some (ns.getD (argBest (btI ns) (ns.length-1)) 0)
section
variable{X:Cx}{K:PySem.W.Frag}{O:List Nat}{e:Expr}{d:Expr}{te:TE}{p kp pos:Pos}{fe:RhD}
end
section
variable{X:Cx}{K:PySem.W.Frag}{O:List Nat}
def PrV(K:PySem.W.Frag)(H:Hp)(v:V)(q:Int×List Int):Prop:=∃a b,v=.ref a/\SqT K H a [.int q.1,.ref b]/\SqL K H b (q.2.map V.int)
theorem PrV.mono{H R:Hp}{v:V}{q:Int×List Int}(s:Same R H)(h:PrV K R v q):PrV K H v q:=by
 obtain⟨a,b,e,h1,h2⟩:=h
 exact⟨a,b,e,Same.tup s h1,Same.sqL s h2⟩
end
section
variable{prog:Program}{w:World}{K:Type}[DecidableEq K]{knd:HeapKind prog w K}{A:Around}{E:Value->Shared->Prop}{s:Shared}
def DictE(knd:HeapKind prog w K)(h:Heap)(d:Addr)(xs:List (K×Addr×Value)):Prop:=
 ∃o es,h.get? d=some o/\o.ExactDict/\o.data=.dict es xs.length/\es.toList=xs.map (entryOfKey knd)/\(∀x∈xs,knd.is h x.1 x.2.1)/\(xs.map (·.1)).Nodup
theorem DictE.of{h:Heap}{d:Addr}{xs:List (K×Addr×Value)}(x:DictE knd h d xs):h.DictOfH knd d xs:=let ⟨o,es,r⟩:=x;⟨o,es,xs.length,r⟩
theorem qlz{d b:Addr}{xs:List (K×Addr×Value)}{k:K}{v:Value}{Q:Unit->Shared->Prop}(hu:knd.room A)(kb:knd.is s.heap k b)(hm:DictE knd s.heap d xs)(hz:xs.length<=sizeLine)
   (q:∀h',DictE knd h' d (storedH xs k b v)->Heap.SameBut d s.heap h'->Q () {s with heap:=h',toks:=s.toks+knd.draws k}):wpAny (model prog w) A (dictSet d (.ref b) v) Q E s:=by
 obtain⟨o,es,g0,cx,dt,ee,al,nd⟩:=hm
 unfold dictSet
 (try with_reducible refine jr ?_);refine j6 (knd.pyHash hu kb ?_)
 unfold dictSetHashed
 (try with_reducible refine jr ?_);refine j6 (wpAny_dictFind_heap (s:={s with toks:=s.toks+knd.draws k}) hu kb g0 dt ee al nd (λno=>?_) (λj p hj=>?_))
 · have e1:=storedH_new (atKey_none_of_get no) b v
   have z1:es.size=xs.length:=size_of_entries ee
   refine j6 (wpAny_rule (wpAny_updateDictKeys (hz:=by omega) (s:={s with toks:=s.toks+knd.draws k}) g0 dt (q _ ?_ (xh ..))))
   rw[e1]
   refine⟨_,_,xo _ g0 (Obj.isFreed_of_dict (Obj.data_mapDictKeys dt _)),cx.mapDictKeys _,by rw[jm];exact Obj.data_mapDictKeys dt _,by simp[ee,entryOfKey],λx hx=>?_,?_⟩
   · rcases List.mem_append.mp hx with hx|hx
     · exact knd.keeps (al x hx) g0 dt (xh ..)
     · rw[List.mem_singleton.mp hx]
       exact knd.keeps kb g0 dt (xh ..)
   · rw[ka,List.nodup_append]
     refine⟨nd,by simp,λx hx y hy z=>?_⟩
     have ey:y=k:=by simpa using hy
     subst ey
     exact not_mem_keys_of_get no (z▸hx)
 · have e1:=storedH_old (atKey_of_get nd hj) b v
   refine j6 (wpAny_rule (j6 (wpAny_updateDict (s:={s with toks:=s.toks+knd.draws k}) g0 dt (wpAny_point (q _ ?_ (xh ..))))))
   rw[e1]
   refine⟨_,_,xo _ g0 (Obj.isFreed_of_dict (Obj.data_mapDict dt _)),cx.mapDict _,by rw[j9];exact Obj.data_mapDict dt _,?_,λx hx=>?_,by rw[keys_map_putAt];exact nd⟩
   · have m:=modify_map_putAt (entryOfKey knd) (λe:DictEntry=>{e with val:=v}) k v (λ_ _=>rfl) nd hj
     rw[<-ee]at m
     obtain⟨l⟩:=es
     simpa using m
   · obtain⟨y,hy,rfl⟩:=List.mem_map.mp hx
     unfold putAt
     split<;>exact knd.keeps (al y hy) g0 dt (xh ..)
theorem qin{d b:Addr}{xs:List (K×Addr×Value)}{k:K}{v:Value}{Q:Unit->Shared->Prop}(hu:knd.room A.in1)(kb:knd.is s.heap k b)(hm:DictE knd s.heap d xs)(hz:xs.length<=sizeLine)
   (q:∀h',DictE knd h' d (storedH xs k b v)->Heap.SameBut d s.heap h'->Q () {s with heap:=h',toks:=s.toks+knd.draws k}):wpAny (model prog w) A (setItem (.ref d) (.ref b) v) Q E s:=by
 have ty:=hm.of.typeIs (s:=s)
 unfold setItem
 (try with_reducible refine jr ?_);refine j6 (wpAny_sequenceKey ty (by decide) (j6 ?_))
 refine xf (name:=Str.ofString "__setitem__") ty slot_dict_setitem (jo slot_dict_setitem ty entry_dict_setitem ?_ (args_dict_setitem _ _ _))
 show wpAny _ _ (Builtin.Dict.notOrdered "__setitem__" ⟨[.ref d,.ref b,v],[]⟩ >>= _) _ _ s
 refine j6 (ko ty ?_)
 show wpAny _ _ (dictSet d (.ref b) v >>= _) _ _ s
 exact j6 (qlz hu kb hm hz λh' m' t'=>j7 ⟨.none,rfl,j7 (q h' m' t')⟩)
end
section
variable{κ:Type}[DecidableEq κ]
def valV(kvs:List (κ×V))(k:κ):Option V:=(kvs.find? λkv=>decide (kv.1=k)).map (·.2)
def putK(kvs:List (κ×V))(k:κ)(v:V):List (κ×V):=
 if(kvs.any λkv=>decide (kv.1=k))=true then kvs.map (λkv=>if kv.1=k then(kv.1,v)else kv)else kvs++[(k,v)]
theorem q4j{p:κ×V}{r:List (κ×V)}{k:κ}(e:p.1=k):valV (p::r) k=some p.2:=by simp[valV,List.find?_cons,e]
theorem q4k{p:κ×V}{r:List (κ×V)}{k:κ}(e:¬p.1=k):valV (p::r) k=valV r k:=by simp[valV,List.find?_cons,e]
theorem q8c(k:κ):∀kvs:List (κ×V),(kvs.any λkv=>decide (kv.1=k))=(valV kvs k).isSome
 |[]=>rfl
 | p::r=>by
   rw[List.any_cons]
   by_cases e:p.1=k
   · simp only[q4j e,decide_eq_true e,Bool.true_or,Option.isSome_some]
   · rw[q4k e,decide_eq_false e,Bool.false_or];exact q8c k r
theorem q82(kvs:List (κ×V))(k:κ)(v:V):(putK kvs k v).length<=kvs.length+1:=by
 unfold putK
 split
 · rw[j9];omega
 · rw[jm,jk,List.length_nil];omega
theorem RelO.isSome_eq{o:Option V}{u:Option Value}(r:RelO o u):o.isSome=u.isSome:=by
 cases o with
 | none=>cases u with
   |none=>rfl
   |some _=>exact(show False from r).elim
 | some _=>cases u with
   |none=>exact(show False from r).elim
   |some _=>rfl
theorem KV.val{kvs:List (κ×V)}{vs:List (κ×Value)}(r:KV kvs vs)(k:κ):RelO (valV kvs k) (valueAt vs k):=by
 unfold KV at r
 induction r with
 |nil=>exact True.intro
 | @cons p q ps qs h t ih=>
   obtain⟨h1,h2⟩:=h
   by_cases e:p.1=k
   · have e':q.1=k:=h1.symm.trans e
     have b:valueAt (q::qs) k=some q.2:=by simp[valueAt,List.find?_cons,e']
     rw[q4j e,b];exact h2
   · have e':¬q.1=k:=λz=>e (h1.trans z)
     have b:valueAt (q::qs) k=valueAt qs k:=by simp[valueAt,List.find?_cons,e']
     rw[q4k e,b];exact ih
theorem KV.any{kvs:List (κ×V)}{vs:List (κ×Value)}(r:KV kvs vs)(k:κ):(kvs.any λkv=>decide (kv.1=k))=vs.any λkv=>decide (kv.1=k):=by
 unfold KV at r
 induction r with
 |nil=>rfl
 |cons h t ih=>rw[List.any_cons,List.any_cons,ih,h.1]
theorem KV.length{kvs:List (κ×V)}{vs:List (κ×Value)}(r:KV kvs vs):kvs.length=vs.length:=xn r
end
theorem qkm{P:Program}{w:World}{k:Key}{u:Value}(r:RelV (kV k) u):(q10 P w).is k u=true:=by
 cases k with
 |inl i=>obtain⟨t,e⟩:=(show∃t,u=Value.int i t from r);subst e;exact q7y P w i t
 |inr x=>obtain⟨t,e⟩:=(show∃t,u=Value.str x t from r);subst e;exact q7x P w x t
theorem q76{P:Program}{w:World}:∀{ks:List Key} {us:List Value},Vals (ks.map kV) us->ItemsAre (q10 P w) ks us
 |[],_,r=>by rw[List.map_nil]at r;cases r;exact .nil
 | k::ks,_,r=>by
   rw[jg]at r
   cases r with
   |cons h t=>exact .cons (qkm h) (q76 t)
abbrev KT(H:Hp):List (List Key×V)->List (List Key×Addr×Value)->Prop:=Paired λp q=>p.1=q.1/\H q.2.1=some (.tup (p.1.map kV))/\RelV p.2 q.2.2
theorem KT.val{H:Hp}{kvs:List (List Key×V)}{xs:List (List Key×Addr×Value)}(r:KT H kvs xs)(k:List Key):RelO (valV kvs k) ((atKey xs k).map (·.2)):=by
 induction r with
 |nil=>exact True.intro
 | @cons p q ps qs h t ih=>
   obtain⟨h1,_,h2⟩:=h
   by_cases e:p.1=k
   · have e':q.1=k:=h1.symm.trans e
     have b:atKey (q::qs) k=some q.2:=by simp[atKey,List.find?_cons,e']
     rw[q4j e,b];exact h2
   · have e':¬q.1=k:=λz=>e (h1.trans z)
     have b:atKey (q::qs) k=atKey qs k:=by simp[atKey,List.find?_cons,e']
     rw[q4k e,b];exact ih
theorem KT.repl{H:Hp}{kvs:List (List Key×V)}{xs:List (List Key×Addr×Value)}(r:KT H kvs xs)(k:List Key){y:V}{u:Value}(ry:RelV y u):
   KT H (kvs.map λkv=>if kv.1=k then(kv.1,y)else kv) (xs.map (putAt k u)):=by
 induction r with
 |nil=>exact .nil
 | @cons p q ps qs h t ih=>
   rw[jg,jg]
   refine .cons ?_ ih
   obtain⟨h1,h2,h3⟩:=h
   unfold putAt
   by_cases e:p.1=k
   · rw[if_pos e,if_pos (h1.symm.trans e)];exact⟨h1,h2,ry⟩
   · rw[if_neg e,if_neg (λz=>e (h1.trans z))];exact⟨h1,h2,h3⟩
theorem KT.put{H:Hp}{kvs:List (List Key×V)}{xs:List (List Key×Addr×Value)}(r:KT H kvs xs)(k:List Key){b:Addr}{y:V}{u:Value}(hb:H b=some (.tup (k.map kV)))(ry:RelV y u):
   KT H (putK kvs k y) (storedH xs k b u):=by
 have e:(kvs.any λkv=>decide (kv.1=k))=(atKey xs k).isSome:=by
   rw[q8c,(r.val k).isSome_eq,Option.isSome_map]
 unfold putK storedH
 rw[e]
 by_cases q:(atKey xs k).isSome=true
 · rw[if_pos q,if_pos q];exact r.repl k ry
 · rw[if_neg q,if_neg q];exact Paired.snoc r ⟨rfl,hb,ry⟩
theorem KT.keeps{H H':Hp}{kvs:List (List Key×V)}{xs:List (List Key×Addr×Value)}(r:KT H kvs xs)(ht:∀b ys,H b=some (.tup ys)->H' b=some (.tup ys)):KT H' kvs xs:=
 Paired.mapP r λ_ _ z=>⟨z.1,ht _ _ z.2.1,z.2.2⟩
section
variable{P:Program}{w:World}{H:Hp}{h:Heap}{a:Addr}
theorem qiw{u:HO}(ok:HOk P w H h)(e:Rd H a u):ObjOk P w H h a u:=e.ok ok
theorem qlf{kvs:List (Key×V)}(ok:HOk P w H h)(e:Rd H a (.dK kvs)):kvs.length<=sizeLine/\(a==sysModules)=false/\∃vs,KV kvs vs/\h.DictOf (q10 P w) a vs:=
 let ⟨z,y,vs,r,d⟩:=(show ObjOk P w H h a (.dK kvs)from qiw ok e);⟨z,y,vs,r,d.of⟩
theorem qc3{ks:List Key}(ok:HOk P w H h)(e:H a=some (.tup (ks.map kV))):(tupleKind (q10 P w)).is h ks a:=by
 obtain⟨_,its,r,o,h1,⟨h2,n,h3⟩,_⟩:=(show ObjOk P w H h a (.tup (ks.map kV))from ok a _ e)
 exact⟨o,its.toArray,n,h1,h2,h3,by simpa using q76 r⟩
theorem qht{kvs:List (List Key×V)}(ok:HOk P w H h)(e:Rd H a (.dT kvs)):kvs.length<=sizeLine/\(a==sysModules)=false/\
   ∃xs,KT H kvs xs/\DictE (tupleKind (q10 P w)) h a xs:=by
 obtain⟨z,y,xs,r,o,es,ep,h1,h2,h3,h4,h5,h6⟩:=(show ObjOk P w H h a (.dT kvs)from qiw ok e)
 have lx:xs.length=kvs.length:=(xn r).symm
 refine⟨z,y,xs,r,o,es,h1,h2,by rw[lx,<-h6];exact h3,h4,λx hx=>?_,h5⟩
 have all:∀{l:List (List Key×V)} {m:List (List Key×Addr×Value)},KT H l m->∀x∈m,(tupleKind (q10 P w)).is h x.1 x.2.1:=by
   intro l m q
   induction q with
   |nil=>intro x hx;exact nomatch hx
   | @cons p q ps qs hq t ih=>
     intro x hx
     rcases List.mem_cons.mp hx with e|hx
     · subst e
       exact qc3 ok (by rw[<-hq.1];exact hq.2.1)
     · exact ih x hx
 exact all r x hx
theorem qhu{kvs:List (List Key×V)}(ok:HOk P w H h)(e:H a=some (.dT kvs)):kvs.length<=sizeLine/\(a==sysModules)=false/\
   ∃xs,KT H kvs xs/\DictE (tupleKind (q10 P w)) h a xs:=qht ok (.inl e)
end
def DGet(H:Hp)(a:Addr)(y:V)(r:Option V):Prop:=
 (∃kvs k,Rd H a (.dK kvs)/\y=kV k/\r=valV kvs k)∨∃kvs k b,Rd H a (.dT kvs)/\y=.ref b/\H b=some (.tup (k.map kV))/\r=valV kvs k
def DPut(H:Hp)(a:Addr)(y v:V)(H':Hp):Prop:=
 (∃kvs k,False/\H a=some (.dK kvs)/\y=kV k/\kvs.length<sizeLine/\H'=upd H a (.dK (putK kvs k v)))∨
 ∃kvs k b,H a=some (.dT kvs)/\y=.ref b/\H b=some (.tup (k.map kV))/\kvs.length<sizeLine/\H'=upd H a (.dT (putK kvs k v))
theorem DGet.k{H:Hp}{a:Addr}{kvs:List (Key×V)}{k:Key}(e:H a=some (.dK kvs)):DGet H a (kV k) (valV kvs k):=.inl ⟨kvs,k,.inl e,rfl,rfl⟩
theorem DGet.t{H:Hp}{a b:Addr}{kvs:List (List Key×V)}{k:List Key}(e:H a=some (.dT kvs))(eb:H b=some (.tup (k.map kV))):DGet H a (.ref b) (valV kvs k):=.inr ⟨kvs,k,b,.inl e,rfl,eb,rfl⟩
theorem DPut.t{H:Hp}{a b:Addr}{kvs:List (List Key×V)}{k:List Key}{v:V}(e:H a=some (.dT kvs))(eb:H b=some (.tup (k.map kV)))(hl:kvs.length<sizeLine):
   DPut H a (.ref b) v (upd H a (.dT (putK kvs k v))):=.inr ⟨kvs,k,b,e,rfl,eb,hl,rfl⟩
section
variable{X:Cx}{z4:List (Addr×Obj)}{σ:St}{H:Hp}{s:Shared}{a:Addr}{y v:V}{u r:Value}{o:Option V}{A:Around}{E:Value->Shared->Prop}
theorem Inv.big(I:Inv X z4 σ H s):sysModules<s.heap.objs.size:=by
 have h:mainGlobals<s.heap.objs.size:=(I.mod.glob.keeps I.bk).lt
 exact Nat.lt_trans (by decide) h
theorem qco{Q:Value->Shared->Prop}(hu:A.units+1<cLine)(I:Inv X z4 σ H s)(g:DGet H a y (some v))(ry:RelV y u)(h:∀w' s',Inv X z4 σ H s'->RelV v w'->Q w' s'):
   wpAny (model X.prog X.w) A (getItem (.ref a) u) Q E s:=by
 rcases g with⟨kvs,k,e,ey,l⟩|⟨kvs,k,b,e,ey,eb,l⟩
 · subst ey
   obtain⟨z,hd,vs,rel,dd⟩:=qlf I.hok e
   obtain⟨w',hw,rw'⟩:=RelO.some_of (v:=v) (o:=valueAt vs k) (by rw[l];exact rel.val k)
   exact wpAny_getItem_of (qkm ry) dd.mapOf hw (h w' _ (I.tok _) rw')
 · subst ey
   cases(show u=Value.ref b from ry)
   obtain⟨z,hd,xs,rel,dd⟩:=qht I.hok e
   obtain⟨w',hw,rw'⟩:=RelO.some_of (v:=v) (o:=(atKey xs k).map (·.2)) (by rw[l];exact rel.val k)
   obtain⟨p,hp,hp2⟩:=Option.map_eq_some_iff.mp hw
   refine wpAny_getItem_heap (tupleKind_room_in1 hu) (qc3 I.hok eb) dd.of hp ?_
   rw[hp2]
   exact h w' _ (I.tok _) rw'
theorem qhv{h':Heap}{t':Nat}{ob:HO}(I:Inv X z4 σ H s)(mu:Mut (H a))(hs:Heap.SameBut a s.heap h')(he:∃q,h'.get? a=some q)(new:ObjOk X.prog X.w (upd H a ob) h' a ob):
   Inv X z4 σ (upd H a ob) {s with heap:=h',toks:=t'}:=
 I.write (x:=a) (e:=a) mu (.inl rfl) (λb q hb z=>(hs.2 b hb).trans z) he new
theorem qcn{H':Hp}{Q:Unit->Shared->Prop}(hu:A.units+1<cLine)(I:Inv X z4 σ H s)(g:DPut H a y v H')(ry:RelV y u)(rv:RelV v r)(h:∀s',Inv X z4 σ H' s'->Q () s'):
   wpAny (model X.prog X.w) A (setItem (.ref a) u r) Q E s:=by
 rcases g with⟨kvs,k,e,_⟩|⟨kvs,k,b,e,ey,eb,l,eH⟩
 · exact e.elim
 · subst ey eH
   cases(show u=Value.ref b from ry)
   obtain⟨z,hd,xs,rel,dd⟩:=qhu I.hok e
   have hz:xs.length<=sizeLine:=by rw[<-xn rel];exact z
   have hl:(putK kvs k v).length<=sizeLine:=by have:=q82 kvs k v;omega
   refine qin (tupleKind_room_in1 hu) (qc3 I.hok eb) dd hz λh' dd' hs=>h _ ?_
   obtain⟨q,es,hq,h2,h3,h4,_,h5⟩:=dd'
   refine qhv I (by rw[e];exact True.intro) hs ⟨q,hq⟩ ⟨hl,hd,_,(rel.put k eb rv).keeps λc ys ec=>?_,q,es,_,hq,h2,h3,h4,h5,(xn (rel.put k eb rv)).symm⟩
   rw[q05 (qmb ec e (λz=>nomatch z))]
   exact ec
end
def NoSl(i:Expr):Prop:=∀ov iv,subscripted i false ov iv=operate [ov,iv] (getItem ov iv)
theorem qfp{prog:Program}{w:World}{A:Around}{E:Value->Shared->Prop}{s:Shared}{env:Env}{value za:Expr}{pos:Pos}{T id:String}{Q:Value->Shared->Prop}
   (hl:typeLookup (.type T) "__getitem__"=pure (some (.builtin id))) (hs:NoSl za)
   (h:wpAny (model prog w) A (eval value env) (λo s₁=>wpAny (model prog w) A (eval za env) (λi s₂=>s₂.TypeIs o T/\wpAny (model prog w) A (getItem o i) Q E s₂) E s₁) E s):
   wpAny (model prog w) A (eval (.Subscript value za pos) env) Q E s:=by
 refine Subscript_ (jz h (λo s₁ h₁=>jz h₁ (λi s₂ h₂=>?_) λ_ _ x=>x) λ_ _ x=>x)
 obtain⟨hT,h₂⟩:=h₂
 unfold subscriptTail
 refine j6 ?_
 rw[getitemInPython_of_ne hT.not_modules]
 refine j6 (wpAny_specialOf hT hl ?_)
 have fin:wpAny (model prog w) A (subscripted za false o i) (λr s₃=>wpAny (model prog w) A (letTemporaryGo value o r >>= λ_=>pure r) Q E s₃) E s₂:=by
   rw[hs o i]
   exact wpAny_operating (jz h₂ (λr s₃ h₃=>j6 (wpAny_letTemporaryGo (j7 h₃))) λ_ _ x=>x)
 first
   |exact j7 (j6 fin)
   |exact j6 (j7 (j6 fin))
   |exact j6 fin
theorem q86{X:Cx}{z4:List (Addr×Obj)}{σ:St}{H:Hp}{s:Shared}{a:Addr}{y:V}{o:Option V}(I:Inv X z4 σ H s)(g:DGet H a y o):s.TypeIs (.ref a) "dict":=by
 rcases g with⟨kvs,k,e,_,_⟩|⟨kvs,k,b,e,_,_,_⟩
 · obtain⟨_,_,vs,_,dd⟩:=qlf I.hok e
   exact dd.typeIs
 · obtain⟨_,_,xs,_,dd⟩:=qht I.hok e
   exact dd.of.typeIs
def qik(td ty:TE):TE:=λσ H Q=>td σ H λx H1=>ty σ H1 λy H2=>∃a v,x=.ref a/\DGet H2 a y (some v)/\Q v H2
def qfw(td ty tv:TE):TS:=λD σ H=>tv σ H λv H1=>td σ H1 λx H2=>ty σ H2 λy H3=>∃a H4,x=.ref a/\DPut H3 a y v H4/\D.nx σ H4
section
variable{X:Cx}{o i e value:Expr}{pos zq tpos:Pos}{td ty tv:TE}
theorem q7r(hu:X.A.units+1<cLine)(ho:PE X o td)(hi:PE X i ty)(hs:NoSl i):PE X (.Subscript o i pos) (qik td ty):=by
 intro z4 s σ H Q I h
 refine qfp PySem.F.slot_dict_getitem.lookup hs (thn (ho z4 s σ H _ I h) λu s1 ⟨x,H1,I1,rx,q1⟩=>thn (hi z4 s1 σ H1 _ I1 q1) λiv s2 ⟨y,H2,I2,ry,a,v,ex,g,q2⟩=>?_)
 subst ex
 obtain rfl:u=Value.ref a:=rx
 exact⟨q86 I2 g,qco hu I2 g ry λw' s3 I3 rw'=>⟨v,H2,I3,rw',q2⟩⟩
theorem q3h(hu:X.A.units+1<cLine)(ho:PE X o td)(hi:PE X i ty)(hv:PE X value tv)(hs:swapsWith value (some (.Subscript o i zq)) pos.line X.env=pure false):
   PS X (.Assign [.Subscript o i zq] value pos) (qfw td ty tv):=by
 intro z4 s σ H D I h
 refine wpAny_Assign_Subscript (thn (hv z4 s σ H _ I h) λr s1 ⟨v,H1,I1,rv,q1⟩=>thn (ho z4 s1 σ H1 _ I1 q1) λu s2 ⟨x,H2,I2,rx,q2⟩=>thn (hi z4 s2 σ H2 _ I2 q2) λiv s3 ⟨y,H3,I3,ry,a,H4,ex,g,q3⟩=>?_) hs
 subst ex
 obtain rfl:u=Value.ref a:=rx
 exact qcn hu I3 g ry rv λs4 I4=>⟨σ,H4,I4,q3⟩
end
theorem qel{P:Program}{w:World}{H:Hp}(h:Heap)(hb:sysModules<h.objs.size):ObjOk P w H (h.push {cls:=.type "dict",data:=.dict #[]}) h.objs.size (.dT []):=
 ⟨Nat.zero_le _,beq_eq_false_iff_ne.mpr (Ne.symm (jh hb)),[],.nil,_,#[],0,je _ rfl,⟨rfl,rfl,rfl⟩,rfl,rfl,List.nodup_nil,rfl⟩
def qak:TE:=λ_ H Q=>∀p,H p=none->Q (.ref p) (upd H p (.dT []))
section
variable{X:Cx}{pos:Pos}
theorem q2s:PE X (.Dict [] [] pos) qak:=λz4 s σ H Q I h=>
 wpAny_Dict_empty ⟨.ref s.heap.objs.size,_,I.laid (a:=s.heap.objs.size) (o:=.dT []) (t':=s.toks) (λ_ _ q=>ja _ q) (jc _) (qel s.heap I.big),rfl,h _ (I.hok.fresh (jc _))⟩
end
def DRaw(h:Heap)(d:Addr)(es:Array DictEntry)(ep:Nat):Prop:=∃o,h.get? d=some o/\o.ExactDict/\o.data=.dict es ep
theorem DRaw.ty{s:Shared}{d:Addr}{es:Array DictEntry}{ep:Nat}(x:DRaw s.heap d es ep):s.TypeIs (.ref d) "dict":=let ⟨o,e,c,_⟩:=x;⟨o,e,c.1⟩
theorem DRaw.at_{h h':Heap}{d:Addr}{es:Array DictEntry}{ep:Nat}(x:DRaw h d es ep)(k:∀o,h.get? d=some o->h'.get? d=some o):DRaw h' d es ep:=let ⟨o,e,r⟩:=x;⟨o,k o e,r⟩
section
variable{prog:Program}{w:World}{A:Around}{E:Value->Shared->Prop}{s:Shared}
theorem qe1{d:Addr}{es:Array DictEntry}{ep:Nat}{Q:Value->Shared->Prop}(nd:(d==sysModules)=false)(x:DRaw s.heap d es ep)
   (q:Q (.ref s.heap.objs.size) {s with heap:=s.heap.push {cls:=.type "dict_keyiterator",data:=.fields #[.ref d,.int 0 0,.int es.size 0,.int ep 0]}}):wpAny (model prog w) A (pyIter (.ref d)) Q E s:=by
 obtain⟨o,e,c,dt⟩:=id x
 refine wpAny_pyIter_slot x.ty F.slot_dict_iter (jo F.slot_dict_iter x.ty F.entry_dict_iter ?_ (F.args_dict_iter_1 _))
 unfold Builtin.«dict.__iter__» Builtin.Dict.dictSlotNone
 refine j6 (j6 (ko x.ty ?_))
 show wpAny _ _ (pure (Value.ref d)) _ _ s
 refine j7 ?_
 unfold Builtin.Dict.showsAll
 show wpAny _ _ ((if(d==sysModules)=true then _ else _) >>= _) _ _ s
 rw[if_neg (by rw[nd];decide)]
 exact j6 (j7 (j6 (xc e dt (j6 (xm e dt (j6 (jq (j7 ⟨_,rfl,"dict_keyiterator",_,⟨_,je _ rfl,rfl⟩,F.slot_dict_keyiterator_next.lookup,q⟩))))))))
theorem qe3{it d:Addr}{i ep:Nat}{es:Array DictEntry}{Q:Option Value->Shared->Prop}(g:s.heap.IsKeyIter it d i es.size ep)(x:DRaw s.heap d es ep)(hi:i<es.size)
   (q:∀h',h'.IsKeyIter it d (i+1) es.size ep->Heap.SameBut it s.heap h'->Q (some es[i].key) {s with heap:=h'}):wpAny (model prog w) A (pyNext (.ref it)) Q E s:=by
 obtain⟨oi,ei,ci,fi⟩:=id g
 obtain⟨o,e,c,dt⟩:=id x
 have own0:Builtin.Dict_items.ownsTuple "dict_keyiterator"=false:=by decide
 unfold pyNext
 refine j6 (xq (xf (name:=Str.ofString "__next__") g.typeIs vd (jo vd g.typeIs F.entry_dict_keyiterator_next (j6 (j7 (j6 ?_))) (F.args_dict_keyiterator_next_1 _))))
 refine j6 (j6 (ve g.typeIs (j7 (j6 (wpAny_fieldsOf ei fi ?_)))))
 simp only[own0,Bool.false_eq_true,if_false]
 show wpAny _ _ (if(Value.ref d==Value.none)=true then _ else _) _ _ s
 have nn:(Value.ref d==Value.none)=false:=rfl
 rw[if_neg (by rw[nn];decide)]
 refine j6 (j7 (j6 (xc e dt ?_)))
 rw[if_neg (by simp)]
 refine j6 (j7 (j6 (xm e dt ?_)))
 rw[if_neg (by simp)]
 refine j7 ?_
 have n0:¬((i:Int)<0):=by omega
 simp only[n0,if_false,Int.toNat_natCast,Array.getElem?_eq_getElem hi]
 refine j6 (j6 (ve g.typeIs (j7 (j6 (wpAny_isOneOf_keyiter g.typeIs ?_)))))
 show wpAny _ _ (setField (.ref it) 1 (rawInt ((i:Int)+1)) >>= _) _ _ s
 have g':(s.heap.update it (Obj.mapFields (·.setIfInBounds 1 (rawInt ((i:Int)+1))))).IsKeyIter it d (i+1) es.size ep:=
   ⟨_,xo _ ei (Obj.isFreed_of_fields (kg fi _)),(Obj.cls_mapFields ..).trans ci,by rw[kg fi];simp[rawInt]⟩
 refine j6 (k9 ei fi (by simp) (j6 (jr (j6 (wpAny_isOneOf_keyiter (s:={s with heap:=s.heap.update it (Obj.mapFields (·.setIfInBounds 1 (rawInt ((i:Int)+1))))}) g'.typeIs ?_)))))
 show wpAny _ _ (pure es[i].key) _ _ _
 exact j7 (j7 ⟨_,rfl,j7 (q _ g' (xh ..))⟩)
theorem qgy{it d:Addr}{i ep:Nat}{es:Array DictEntry}{Q:Option Value->Shared->Prop}(hh:A.handled=none)(g:s.heap.IsKeyIter it d i es.size ep)(x:DRaw s.heap d es ep)(hi:es.size<=i)
   (q:∀h',Heap.ExtBut it s.heap h'->Q none {s with heap:=h'}):wpAny (model prog w) A (pyNext (.ref it)) Q E s:=by
 obtain⟨oi,ei,ci,fi⟩:=id g
 obtain⟨o,e,c,dt⟩:=id x
 have own0:Builtin.Dict_items.ownsTuple "dict_keyiterator"=false:=by decide
 unfold pyNext
 refine j6 (xq (xf (name:=Str.ofString "__next__") g.typeIs vd (jo vd g.typeIs F.entry_dict_keyiterator_next (j6 (j7 (j6 ?_))) (F.args_dict_keyiterator_next_1 _))))
 refine j6 (j6 (ve g.typeIs (j7 (j6 (wpAny_fieldsOf ei fi ?_)))))
 simp only[own0,Bool.false_eq_true,if_false]
 show wpAny _ _ (if(Value.ref d==Value.none)=true then _ else _) _ _ s
 have nn:(Value.ref d==Value.none)=false:=rfl
 rw[if_neg (by rw[nn];decide)]
 refine j6 (j7 (j6 (xc e dt ?_)))
 rw[if_neg (by simp)]
 refine j6 (j7 (j6 (xm e dt ?_)))
 rw[if_neg (by simp)]
 refine j7 ?_
 have n0:¬((i:Int)<0):=by omega
 simp only[n0,if_false,Int.toNat_natCast,Array.getElem?_eq_none hi]
 refine j6 (j6 (ve g.typeIs (j7 ?_)))
 show wpAny _ _ (setField (.ref it) 0 .none >>= _) _ _ s
 refine j6 (k9 ei fi (by simp) ?_)
 show wpAny _ _ (newExc (.type "StopIteration") [] >>= _) _ _ _
 simp only[newExc,newTuple,raiseNew]
 refine j6 (j6 (jq (j6 (m:=firstArgMember _ _) (wpAny_of_eq (a:=Value.none) (by first|rfl|(simp only[firstArgMember];rfl)) (jq ?_ (by size_fits)))) (by size_fits)))
 refine j6 (wpAny_handled ?_)
 rw[show A.in1.handled=none from hh]
 refine j6 (j7 (wpAny_throw ?_))
 exact j6 (kh (T:="StopIteration") (b:=true) ⟨_,je _ rfl,rfl⟩ isSubtype_stop (j7 (q _ (((xh ..).extBut.push _).push _))))
end
def Itk(a:Addr)(n:Nat):It:=
 ⟨λi H=>∃kvs p,H a=some (.dT kvs)/\kvs.length=n/\kvs[i]? =some p,
  λi H v H'=>H'=H/\∃b,v=.ref b/\∀kvs p,H a=some (.dT kvs)->kvs[i]? =some p->H b=some (.tup (p.1.map kV)),
  λi H=>∃kvs,H a=some (.dT kvs)/\kvs.length=n/\n<=i⟩
theorem q3p{X:Cx}{z4:List (Addr×Obj)}{σ:St}{H:Hp}{s:Shared}{a:Addr}{kvs:List (List Key×V)}(I:Inv X z4 σ H s)(e:H a=some (.dT kvs)):
   (a==sysModules)=false/\∃es,es.size=kvs.length/\DRaw s.heap a es kvs.length/\∀i p,kvs[i]? =some p->∃b u,H b=some (.tup (p.1.map kV))/\RelV p.2 u/\∃hi:i<es.size,es[i].key=.ref b/\es[i].val=u:=by
 obtain⟨_,y,xs,r,o,es,ep,h1,h2,h3,h4,_,h6⟩:=(show ObjOk X.prog X.w H s.heap a (.dT kvs)from I.hok a _ e)
 have z:es.size=kvs.length:=by
   have:=congrArg List.length h4
   rw[j9,<-xn r]at this
   simpa using this
 refine⟨y,es,z,⟨o,h1,h2,by rw[h3,h6]⟩,λi p hp=>?_⟩
 have g:∀{ks:List (List Key×V)} {ys:List (List Key×Addr×Value)} {i:Nat} {p:List Key×V},KT H ks ys->ks[i]? =some p->∃q,ys[i]? =some q/\p.1=q.1/\H q.2.1=some (.tup (p.1.map kV))/\RelV p.2 q.2.2:=by
   intro ks ys i p t
   induction t generalizing i with
   |nil=>intro e;simp at e
   | cons h _ ih=>
     cases i with
     |zero=>intro e;simp at e;subst e;exact⟨_,rfl,h⟩
     |succ i=>intro e;exact ih (by simpa using e)
 obtain⟨q,q1,_,q2,q3⟩:=g r hp
 have hi:i<es.size:=by rw[z];exact(List.getElem?_eq_some_iff.mp hp).1
 refine⟨q.2.1,q.2.2,q2,q3,hi,?_⟩
 have ee:es[i]? =some (entryOfKey (tupleKind (q10 X.prog X.w)) q):=by rw[entry_at h4,q1];rfl
 rw[Array.getElem?_eq_getElem hi]at ee
 rw[jb ee]
 exact⟨rfl,rfl⟩
theorem qag{P:Program}{w:World}{K:PySem.W.Frag}{tg:Expr}(a it:Addr)(n:Nat):Turn P w K tg (Itk a n) [it] it (λi h=>h.IsKeyIter it a i n n) where
 mem:=by simp
 obj:=λi h st b hb=>by
   obtain⟨o,e,c,d⟩:=st
   rw[List.mem_singleton.mp hb]
   exact⟨o,e,λv z=>by rw[d]at z;cases z⟩
 keep:=λi h h' st k=>st.at λo e=>k it (by simp) o e
 item:=by
   intro X hP hw hK hc i z4 s σ H E I hf st hg
   subst hP hw hK
   obtain⟨kvs,p,e,rfl,hp⟩:=hg
   obtain⟨_,es,z,dr,al⟩:=q3p I e
   obtain⟨b,u,q1,q2,hi,k1,_⟩:=al i p hp
   obtain⟨f0,f1,f2,f3,f4,f5⟩:=hf it (by simp)
   rw[<-z]at st dr
   refine qe3 st dr hi λh' st' sb=>?_
   have I1:Inv X z4 σ H {s with heap:=h'}:=I.turned (t':=s.toks) (λb o hb e=>(sb.2 b hb).trans e) f0 f1 f3 f4 f5
   obtain⟨o,e1,c1,d1⟩:=id st'
   refine⟨_,rfl,qcf (s:={s with heap:=h'}) e1 c1 d1 (by decide) ⟨.ref b,H,I1,by rw[k1];rfl,⟨rfl,b,rfl,λkvs' p' e' hp'=>?_⟩,by rw[<-z];exact st',λb hb=>(hf b hb).1⟩⟩
   rw[e]at e'
   cases e'
   rw[hp]at hp'
   cases hp'
   exact q1
 done:=by
   intro X hP hw hK hc i z4 s σ H E I hf st hg
   subst hP hw hK
   obtain⟨kvs,e,rfl,hp⟩:=hg
   obtain⟨_,es,z,dr,_⟩:=q3p I e
   obtain⟨f0,f1,f2,f3,f4,f5⟩:=hf it (by simp)
   rw[<-z]at st dr hp
   exact qgy (I.ok.hd hc) st dr hp λh' eb=>⟨rfl,I.turned (t':=s.toks) (λb o hb e=>eb b o hb e) f0 f1 f3 f4 f5⟩
 self:=λ_ _ _ _ _ st h=>wpAny_pyIter_keyiter st h
def qkw(td:TE):TI:=λσ H R=>td σ H λx H1=>∃a kvs,x=.ref a/\H1 a=some (.dT kvs)/\R (Itk a kvs.length) H1
theorem qb7{X:Cx}{tg l:Expr}{td:TE}(hl:PE X l td):PI X tg l (qkw td):=by
 intro z4 s σ H R I h
 refine thn (hl z4 s σ H _ I h) λv s1 ⟨x,H1,I1,rx,a,kvs,ex,e,q⟩=>?_
 subst ex
 obtain rfl:v=Value.ref a:=rx
 obtain⟨y,es,z,dr,_⟩:=q3p I1 e
 refine qe1 y dr ?_
 refine⟨s1.heap.objs.size,[s1.heap.objs.size],_,_,H1,rfl,I1.kept (t':=s1.toks) λb o e=>ja _ e,qag a _ kvs.length,⟨_,je _ rfl,rfl,by rw[z];rfl⟩,λb hb=>?_,q⟩
 rw[List.mem_singleton.mp hb]
 exact I1.fpOk (jc _) (I1.hok.fresh (jc _))
def keyD:Key->D
 |.inl n=>.int n
 |.inr x=>.str x
def keyO:D->Option Key
 |.int n=>some (.inl n)
 |.str x=>some (.inr x)
 |_=>none
def q61:List D->Option (List Key)
 |[]=>some []
 | d::ds=>match keyO d,q61 ds with
   |some k,some ks=>some (k::ks)
   |_,_=>none
def keyT:D->Option (List Key)
 |.tup ds=>q61 ds
 |_=>none
section
variable{K:PySem.W.Frag}{R:Hp}
theorem qgz{v:V}{d:D}{k:Key}(r:Rp K R v d)(e:keyO d=some k):v=kV k:=by
 cases r<;>cases e<;>rfl
theorem q73:∀{vs:List V} {ds:List D} {ks:List Key},Rps K R vs ds->q61 ds=some ks->vs=ks.map kV
 |_,_,_,.nil,e=>by cases e;rfl
 | _,_,ks,.cons (d:=d) (ds:=ds) r t,e=>by
   cases e1:keyO d with
   |none=>simp only[q61,e1]at e;cases e
   | some k=>
     cases e2:q61 ds with
     |none=>simp only[q61,e1,e2]at e;cases e
     | some ks'=>
       simp only[q61,e1,e2,Option.some.injEq]at e
       subst e
       rw[qgz r e1,q73 t e2]
       rfl
theorem qc4{v:V}{d:D}{ks:List Key}(r:Rp K R v d)(e:keyT d=some ks):∃b,v=.ref b/\R b=some (.tup (ks.map kV)):=by
 cases r with
 |@tup a xs ds h q=>exact⟨a,rfl,by rw[h,q73 q e]⟩
 |_=>cases e
theorem qh0(k:Key):Rp K R (kV k) (keyD k):=by
 cases k with
 |inl n=>exact .int n
 |inr x=>exact .str x
theorem q4p:∀ks:List Key,Rps K R (ks.map kV) (ks.map keyD)
 |[]=>.nil
 |k::ks=>.cons (qh0 k) (q4p ks)
def valD(gs:List (List Key×D))(k:List Key):Option D:=(gs.find? λg=>decide (g.1=k)).map (·.2)
def putD(gs:List (List Key×D))(k:List Key)(d:D):List (List Key×D):=
 if(gs.any λg=>decide (g.1=k))=true then gs.map (λg=>if g.1=k then(g.1,d)else g)else gs++[(k,d)]
theorem Rkt.length:∀{kvs:List (List Key×V)} {gs:List (List Key×D)},Rkt K R kvs gs->kvs.length=gs.length
 |_,_,.nil=>rfl
 |_,_,.cons _ r=>by rw[jk,jk,Rkt.length r]
theorem Rkt.val{k:List Key}{d:D}:∀{kvs:List (List Key×V)} {gs:List (List Key×D)},Rkt K R kvs gs->valD gs k=some d->∃v,valV kvs k=some v/\Rp K R v d
 |_,_,.nil,e=>by cases e
 | _,_,.cons (f:=f) (x:=x) (xs:=xs) (d:=d') (ds:=ds) r t,e=>by
   by_cases h:f=k
   · have e':valD ((f,d')::ds) k=some d':=by simp[valD,List.find?_cons,h]
     rw[e']at e
     cases e
     exact⟨x,q4j h,r⟩
   · have e':valD ((f,d')::ds) k=valD ds k:=by simp[valD,List.find?_cons,h]
     rw[e']at e
     obtain⟨v,h1,h2⟩:=Rkt.val t e
     exact⟨v,by rw[q4k (p:=(f,x)) h];exact h1,h2⟩
theorem Rkt.any{k:List Key}:∀{kvs:List (List Key×V)} {gs:List (List Key×D)},Rkt K R kvs gs->(kvs.any λg=>decide (g.1=k))=gs.any λg=>decide (g.1=k)
 |_,_,.nil=>rfl
 |_,_,.cons _ t=>by rw[List.any_cons,List.any_cons,Rkt.any t]
theorem Rkt.repl{k:List Key}{v:V}{d:D}(r:Rp K R v d):∀{kvs:List (List Key×V)} {gs:List (List Key×D)},Rkt K R kvs gs->Rkt K R (kvs.map λg=>if g.1=k then(g.1,v)else g) (gs.map λg=>if g.1=k then(g.1,d)else g)
 |_,_,.nil=>.nil
 | _,_,.cons (f:=f) q t=>by
   rw[jg,jg]
   by_cases h:f=k
   · rw[if_pos h,if_pos h];exact .cons r (Rkt.repl r t)
   · rw[if_neg h,if_neg h];exact .cons q (Rkt.repl r t)
theorem Rkt.snoc{k:List Key}{v:V}{d:D}(r:Rp K R v d):∀{kvs:List (List Key×V)} {gs:List (List Key×D)},Rkt K R kvs gs->Rkt K R (kvs++[(k,v)]) (gs++[(k,d)])
 |_,_,.nil=>.cons r .nil
 |_,_,.cons q t=>.cons q (Rkt.snoc r t)
theorem Rkt.put{k:List Key}{v:V}{d:D}{kvs:List (List Key×V)}{gs:List (List Key×D)}(h:Rkt K R kvs gs)(r:Rp K R v d):Rkt K R (putK kvs k v) (putD gs k d):=by
 unfold putK putD
 rw[h.any]
 split
 · exact h.repl r
 · exact h.snoc r
theorem Rkt.get:∀{kvs:List (List Key×V)} {gs:List (List Key×D)} {i:Nat} {g:List Key×D},Rkt K R kvs gs->gs[i]? =some g->∃v,kvs[i]? =some (g.1,v)/\Rp K R v g.2
 |_,_,_,_,.nil,e=>by simp at e
 |_,_,0,_,.cons r _,e=>by simp at e;subst e;exact⟨_,rfl,r⟩
 | _,_,i+1,g,.cons _ t,e=>by
   obtain⟨v,h1,h2⟩:=Rkt.get (i:=i) (g:=g) t (by simpa using e)
   exact⟨v,by simpa using h1,h2⟩
end
def q2g(x y:D):Option D:=match x with
 | .dit gs=>match keyT y with
   |some k=>valD gs k
   |none=>none
 |_=>none
section
variable{K:PySem.W.Frag}{O:List Nat}{td ty:TE}{fd fk:RhD}
theorem q7z(hd:ME K O td fd)(hk:ME K O ty fk):ME K O (qik td ty) (mOp2 q2g fd fk):=λZ σ H R ρ d ρ' Q S e k=>by
 obtain⟨x,ρ1,e1,e⟩:=q08 e
 obtain⟨y,ρ2,e2,e⟩:=q08 e
 obtain⟨e3,rfl⟩:=q0d e
 refine hd Z σ H R ρ x ρ1 _ S e1 λv H1 R1 S1 st1 r1=>hk Z σ H1 R1 ρ1 y _ _ S1 e2 λu H2 R2 S2 st2 r2=>?_
 cases r1 with
 | @dit a kvs gs h r=>
   unfold q2g at e3
   dsimp only at e3
   cases z:keyT y with
   |none=>rw[z]at e3;cases e3
   | some ks=>
     rw[z]at e3
     obtain⟨b,rfl,hb⟩:=qc4 r2 z
     obtain⟨w,h1,h2⟩:=(r.mono st2.r).val e3
     exact⟨a,w,rfl,by rw[<-h1];exact DGet.t (S2.sub _ _ (st2.r _ _ h)) (S2.sub _ _ hb),k w H2 R2 S2 (st1.trans st2) h2⟩
 |_=>cases e3
def q70(f:RhD):RhL:=q14 f λd=>q1u (match d with
 |.dit gs=>some (gs.map λg=>.tup (g.1.map keyD))
 |_=>none)
theorem qh3{R:Hp}{a:Addr}{kvs:List (List Key×V)}{gs:List (List Key×D)}(h:R a=some (.dT kvs))(r:Rkt K R kvs gs):ItOk K (Itk a kvs.length) R (gs.map λg=>.tup (g.1.map keyD)):=λH' R' s b i=>by
 have q:H' a=some (.dT kvs):=b _ _ (s _ _ h)
 refine⟨λe=>⟨kvs,q,rfl,by rw[j9]at e;rw[r.length];omega⟩,λd e=>?_⟩
 rw[ju]at e
 cases g0:gs[i]? with
 |none=>rw[g0]at e;cases e
 | some g=>
   rw[g0]at e
   cases e
   obtain⟨v,h1,_⟩:=r.get g0
   refine⟨⟨kvs,_,q,rfl,h1⟩,λx H'' y=>?_⟩
   obtain⟨rfl,c,rfl,y⟩:=y
   have hc:=y kvs _ q h1
   cases z:R' c with
   | some o=>
     have:=b _ _ z
     rw[hc]at this
     cases this
     exact⟨R',Ext.refl b,.tup z (q4p _)⟩
   | none=>
     refine⟨upd R' c (.tup (g.1.map kV)),⟨Same.refl _,Same.new z,λa2 o e2=>?_,λa2 e2=>?_⟩,.tup q0a (q4p _)⟩
     · by_cases hb:a2=c
       · subst hb;rw[q0a]at e2;rw[hc,e2]
       · rw[q05 hb]at e2;exact b _ _ e2
     · by_cases hb:a2=c
       · subst hb;exact .inr (.inr ⟨_,hc⟩)
       · rw[q05 hb]at e2;exact .inl e2
theorem qbs(h:ME K O td fd):MI K O (qkw td) (q70 fd):=λZ σ H R ρ ds ρ' Q S e k=>by
 obtain⟨d,ρ1,e1,e⟩:=q08 e
 obtain⟨e2,rfl⟩:=q0d e
 refine h Z σ H R ρ d _ _ S e1 λv H1 R1 S1 st1 r1=>?_
 cases r1 with
 | @dit a kvs gs q r=>
   cases e2
   exact⟨a,kvs,rfl,S1.sub _ _ q,k _ H1 R1 S1 st1 (qh3 q r)⟩
 |_=>cases e2
end
section
variable{c:MC}{O O':List Nat}{te tk:TE}{fe fk:RhD}
def q35(i:Nat):RhO:=λρ=>if i<ρ.length then some (.nx (ρ.set i (some (.dit []))))else none
theorem q44{i:Nat}(hs:ownO c i O O'=true):MS c O O' (tAsg qak (q36 i)) (q35 i):=λZ E σ H R ρ o hP S e k=>by
 unfold q35 at e
 unfold ownO at hs
 simp only[Bool.and_eq_true]at hs
 split at e
 · rename_i z5
   cases e
   intro l hl
   have S1:=S.ext (Ext.hid (o:=.dT []) S.sub hl)
   obtain⟨S2,s2⟩:=S1.sub' hP hs.1.1
   have notown:∀j,j∈O->σ[j]? ≠some (some (.ref l)):=S.notnew hl
   have hO':∀j,j∈O'.filter (λj=>decide (j≠i))->j∈O:=λj hj=>by
     have z:=hs.1.1
     unfold subO at z
     simp only[Bool.and_eq_true,List.all_eq_true]at z
     simpa using z.1 j hj
   refine k _ _ _ (S2.take (i:=i) (l:=l) (vs:=.dT []) (ds:=.dit []) (by simp) (by simpa using hs.1.2) (λj hj=>?_) (by rw[hP];simpa using hs.2) z5 (S.new0 hl) q0a ?_ (λj hj=>notown j (hO' j hj)) (λj hj=>(List.mem_filter.mp hj).1) (.dit .nil)) s2
   · by_cases z:j=i
     · exact .inl z
     · exact .inr (List.mem_filter.mpr ⟨hj,by simpa using z⟩)
   · unfold frzR
     rw[if_neg ?_]
     · exact S.out hl
     · rintro⟨j,hj,_,z⟩
       exact notown j hj z
 · cases e
def q1x(i:Nat)(fe fk:RhD):RhO:=λρ=>match fe ρ with
 |none=>none
 | some (d,ρ1)=>match fk ρ1 with
   |none=>none
   | some (y,ρ2)=>match keyT y,ρ2[i]? with
     |some ks,some (some (.dit gs))=>if gs.length<sizeLine then some (.nx (ρ2.set i (some (.dit (putD gs ks d)))))else none
     |_,_=>none
theorem q43{i:Nat}(hi:i∈O)(he:ME c.K O te fe)(hk:ME c.K O tk fk)(hs:subO c O O'=true):MS c O O' (qfw (tVar i) tk te) (q1x i fe fk):=λZ E σ H R ρ o hP S e k=>by
 unfold q1x at e
 cases e1:fe ρ with
 |none=>rw[e1]at e;cases e
 | some p=>
   obtain⟨d,ρ1⟩:=p
   rw[e1]at e
   dsimp only at e
   cases e2:fk ρ1 with
   |none=>rw[e2]at e;cases e
   | some p=>
     obtain⟨y,ρ2⟩:=p
     rw[e2]at e
     dsimp only at e
     refine he Z σ H R ρ d ρ1 _ S e1 λv H1 R1 S1 st1 r1=>?_
     obtain⟨l,vs,ds,h1,h2,h3,h4,h5⟩:=S1.own i hi
     refine⟨.ref l,h2,hk Z σ H1 R1 ρ1 y ρ2 _ S1 e2 λu H2 R2 S2 st2 r2=>?_⟩
     obtain⟨l',vs',ds',g1,g2,g3,g4,g5⟩:=S2.own i hi
     rw[h2]at g2
     cases g2
     cases z:keyT y with
     |none=>rw[z]at e;cases e
     | some ks=>
       rw[z,g1]at e
       obtain⟨b,rfl,hb⟩:=qc4 r2 z
       cases g5 with
       |lst _=>cases e
       |dct _=>cases e
       |dit g5=>
       rename_i kvs gs
       dsimp only at e
       split at e
       · rename_i hz
         cases e
         refine⟨l,_,rfl,DPut.t g3 (S2.sub _ _ hb) (by rw[g5.length];exact hz),?_⟩
         obtain⟨S3,s3⟩:=(S2.write hi h2 (.dit (g5.put (r1.mono st2.r)))).sub' hP hs
         exact k σ _ _ S3 ((st1.r.trans st2.r).trans s3)
       · cases e
end
section
variable{prog:Program}{w:World}{A:Around}{E:Value->Shared->Prop}{s:Shared}
theorem qa2{d:Addr}{es:Array DictEntry}{ep:Nat}{Q:Value->Shared->Prop}(nd:(d==sysModules)=false)(x:DRaw s.heap d es ep)
   (q:Q (.ref s.heap.objs.size) {s with heap:=s.heap.push {cls:=.type "dict_items",data:=.fields #[.ref d]}}):wpAny (model prog w) A (call (.builtin "dict.items") [.ref d]) Q E s:=by
 refine jo F.slot_dict_items x.ty F.entry_dict_items ?_ (F.args_dict_items_1 _)
 unfold Builtin.«dict.items» Builtin.Dict.noArgs
 refine j6 (j6 (ko x.ty ?_))
 show wpAny _ _ (pure d) _ _ s
 refine j7 ?_
 unfold Builtin.Dict.showsAll
 show wpAny _ _ ((if(d==sysModules)=true then _ else _) >>= _) _ _ s
 rw[if_neg (by rw[nd];decide)]
 exact j6 (j7 (j6 (jq (j7 ⟨_,rfl,q⟩))))
theorem qa1{v d:Addr}{es:Array DictEntry}{ep:Nat}{Q:Value->Shared->Prop}(g:s.heap.IsItemsView v d)(x:DRaw s.heap d es ep)
   (q:Q (.ref s.heap.objs.size) {s with heap:=s.heap.push {cls:=.type "dict_itemiterator",data:=.fields #[.none,.bool false,.ref d,.int 0 0,.int es.size 0,.int ep 0,.none,.none]}}):wpAny (model prog w) A (pyIter (.ref v)) Q E s:=by
 obtain⟨ov,ev,cv,fv⟩:=id g
 obtain⟨o,e,c,dt⟩:=id x
 have own1:Builtin.Dict_items.ownsTuple "dict_itemiterator"=true:=by decide
 refine wpAny_pyIter_slot g.typeIs F.slot_dict_items_iter (jo F.slot_dict_items_iter g.typeIs F.entry_dict_items_iter ?_ (F.args_dict_items_iter_1 _))
 unfold Builtin.«dict_items.__iter__» Builtin.Dict_items.dictOf Builtin.Dict_items.newIterator
 refine j6 (j7 (j6 (j6 (jn ev fv (x:=.ref d) rfl (j7 (j6 (j6 (xc e dt (j6 (xm e dt ?_))))))))))
 simp only[own1,if_true]
 refine jq (j7 ⟨_,rfl,"dict_itemiterator",_,⟨_,je _ rfl,rfl⟩,F.slot_dict_itemiterator_next.lookup,?_⟩) (by simp[sizeOk,Builtin.Dict_items.ownedTupleFields,sizeLine_eq])
 simpa[rawInt,Builtin.Dict_items.ownedTupleFields]using q
theorem qcb{it d:Addr}{i ep:Nat}{es:Array DictEntry}{ok ov:Value}{Q:Option Value->Shared->Prop}(g:IsItemIter s.heap it d i es.size ep ok ov)(x:DRaw s.heap d es ep)(hi:i<es.size)
   (q:∀h',IsItemIterOut h' it d (i+1) es.size ep es[i].key es[i].val s.heap.objs.size->h'.get? s.heap.objs.size=some {cls:=.type "tuple",data:=.seq #[es[i].key,es[i].val]}->
     (∀b o,b≠it->s.heap.get? b=some o->h'.get? b=some o)->Q (some (.ref s.heap.objs.size)) {s with heap:=h'}):wpAny (model prog w) A (pyNext (.ref it)) Q E s:=by
 obtain⟨o,e,c,dt⟩:=id x
 have ty:s.TypeIs (.ref it) "dict_itemiterator":=⟨_,g,rfl⟩
 have own1:Builtin.Dict_items.ownsTuple "dict_itemiterator"=true:=by decide
 unfold pyNext
 refine j6 (xq (xf (name:=Str.ofString "__next__") ty vf (jo vf ty F.entry_dict_itemiterator_next (j6 (j7 (j6 ?_))) (F.args_dict_itemiterator_next_1 _))))
 refine j6 (j6 (vg ty (j7 (j6 (wpAny_fieldsOf g rfl ?_)))))
 simp only[own1,if_true]
 show wpAny _ _ (if(Value.ref d==Value.none)=true then _ else _) _ _ s
 have nn:(Value.ref d==Value.none)=false:=rfl
 rw[if_neg (by rw[nn];decide)]
 refine j6 (j7 (j6 (xc e dt ?_)))
 rw[if_neg (by simp)]
 refine j6 (j7 (j6 (xm e dt ?_)))
 rw[if_neg (by simp)]
 refine j7 ?_
 have n0:¬((i:Int)<0):=by omega
 simp only[n0,if_false,Int.toNat_natCast,Array.getElem?_eq_getElem hi]
 refine j6 (j6 (vg ty (j7 (j6 (wpAny_isOneOf_itemiter ty ?_)))))
 show wpAny _ _ (setField (.ref it) 3 (rawInt ((i:Int)+1)) >>= _) _ _ s
 refine j6 (xl g (by simp) λh1 g1 t1=>?_)
 have g1':IsItemIter h1 it d (i+1) es.size ep ok ov:=by
   have e:((i+1:Nat):Int)=(i:Int)+1:=by omega
   unfold IsItemIter;rw[e];simpa[rawInt]using g1
 have ty1:Shared.TypeIs {s with heap:=h1} (.ref it) "dict_itemiterator":=⟨_,g1',rfl⟩
 refine j6 (jr (j6 (wpAny_isOneOf_itemiter ty1 (j6 (wpAny_isOneOf_itemiter ty1 ?_)))))
 show wpAny _ _ (Builtin.Dict_items.pairFromOwner (.ref it) 6 es[i].key es[i].val) _ _ {s with heap:=h1}
 unfold Builtin.Dict_items.pairFromOwner Builtin.Dict_items.ownedTupleIsFree
 refine j6 (wpAny_newTuple ?_)
 have z1:h1.objs.size=s.heap.objs.size:=t1.1
 have lt:it<s.heap.objs.size:=j8 g
 generalize e2:h1.push {cls:=.type "tuple",data:=.seq [es[i].key,es[i].val].toArray}=h2
 have g2:IsItemIter h2 it d (i+1) es.size ep ok ov:=by rw[<-e2];exact ja _ g1'
 have p2:h2.get? s.heap.objs.size=some {cls:=.type "tuple",data:=.seq #[es[i].key,es[i].val]}:=by rw[<-e2,<-z1];exact je _ rfl
 have k2:∀b o,b≠it->s.heap.get? b=some o->h2.get? b=some o:=λb o hb q=>by rw[<-e2];exact ja _ (t1.extBut b o hb q)
 show wpAny _ _ _ _ _ {s with heap:=h2}
 rw[z1]
 refine j6 (j6 (jn g2 rfl (x:=.none) rfl (j7 ?_)))
 simp only[if_true]
 refine j6 (jn g2 rfl (x:=ok) rfl (j6 (jn g2 rfl (x:=ov) rfl (j6 (xl g2 (by simp) λh3 g3 t3=>?_)))))
 have g3':IsItemIter h3 it d (i+1) es.size ep es[i].key ov:=g3
 refine j6 (xl g3' (by simp) λh4 g4 t4=>?_)
 have g4':IsItemIter h4 it d (i+1) es.size ep es[i].key es[i].val:=g4
 refine j6 (xl g4' (by simp) λh5 g5 t5=>?_)
 have g5':IsItemIterOut h5 it d (i+1) es.size ep es[i].key es[i].val s.heap.objs.size:=g5
 refine j6 (xl g5' (by simp) λh6 g6 t6=>?_)
 have k6:∀b o,b≠it->h2.get? b=some o->h6.get? b=some o:=λb o hb q=>t6.extBut b o hb (t5.extBut b o hb (t4.extBut b o hb (t3.extBut b o hb q)))
 exact j6 (xi (j7 (j7 ⟨_,rfl,j7 (q h6 g6 (k6 _ _ (Nat.ne_of_gt lt) p2) λb o hb r=>k6 b o hb (k2 b o hb r))⟩)))
theorem qe5{it d:Addr}{i ep:Nat}{es:Array DictEntry}{ok ov:Value}{Q:Option Value->Shared->Prop}(hh:A.handled=none)(g:IsItemIter s.heap it d i es.size ep ok ov)(x:DRaw s.heap d es ep)(hi:es.size<=i)
   (q:∀h',Heap.ExtBut it s.heap h'->Q none {s with heap:=h'}):wpAny (model prog w) A (pyNext (.ref it)) Q E s:=by
 obtain⟨o,e,c,dt⟩:=id x
 have ty:s.TypeIs (.ref it) "dict_itemiterator":=⟨_,g,rfl⟩
 have own1:Builtin.Dict_items.ownsTuple "dict_itemiterator"=true:=by decide
 unfold pyNext
 refine j6 (xq (xf (name:=Str.ofString "__next__") ty vf (jo vf ty F.entry_dict_itemiterator_next (j6 (j7 (j6 ?_))) (F.args_dict_itemiterator_next_1 _))))
 refine j6 (j6 (vg ty (j7 (j6 (wpAny_fieldsOf g rfl ?_)))))
 simp only[own1,if_true]
 show wpAny _ _ (if(Value.ref d==Value.none)=true then _ else _) _ _ s
 have nn:(Value.ref d==Value.none)=false:=rfl
 rw[if_neg (by rw[nn];decide)]
 refine j6 (j7 (j6 (xc e dt ?_)))
 rw[if_neg (by simp)]
 refine j6 (j7 (j6 (xm e dt ?_)))
 rw[if_neg (by simp)]
 refine j7 ?_
 have n0:¬((i:Int)<0):=by omega
 simp only[n0,if_false,Int.toNat_natCast,Array.getElem?_eq_none hi]
 refine j6 (j6 (vg ty (j7 ?_)))
 show wpAny _ _ (setField (.ref it) 2 .none >>= _) _ _ s
 refine j6 (k9 g rfl (by simp) ?_)
 show wpAny _ _ (newExc (.type "StopIteration") [] >>= _) _ _ _
 simp only[newExc,newTuple,raiseNew]
 refine j6 (j6 (jq (j6 (m:=firstArgMember _ _) (wpAny_of_eq (a:=Value.none) (by first|rfl|(simp only[firstArgMember];rfl)) (jq ?_ (by size_fits)))) (by size_fits)))
 refine j6 (wpAny_handled ?_)
 rw[show A.in1.handled=none from hh]
 refine j6 (j7 (wpAny_throw ?_))
 exact j6 (kh (T:="StopIteration") (b:=true) ⟨_,je _ rfl,rfl⟩ isSubtype_stop (j7 (q _ (((xh ..).extBut.push _).push _))))
end
theorem qa4:entryFor table "dict_itemiterator.__iter__"=some Builtin.«dict_keyiterator.__iter__»:=entryFor_alias (id':="dict_keyiterator.__iter__") (by kernel_rfl) rfl (by decide+kernel) (by kernel_rfl)
def Iti(a:Addr)(n:Nat):It:=
 ⟨λi H=>∃kvs p,H a=some (.dT kvs)/\kvs.length=n/\kvs[i]? =some p,
  λi H v H'=>∃T b x,v=.ref T/\H T=none/\H'=upd H T (.tup [.ref b,x])/\∀kvs p,H a=some (.dT kvs)->kvs[i]? =some p->H b=some (.tup (p.1.map kV))/\x=p.2,
  λi H=>∃kvs,H a=some (.dT kvs)/\kvs.length=n/\n<=i⟩
theorem q9g{P:Program}{w:World}{K:PySem.W.Frag}{zo:List Expr}{x1:Nat}{pos:Pos}(a it:Addr)(n:Nat):
   Turn P w K (.Tuple zo x1 pos) (Iti a n) [it] it (λi h=>∃ok ov,IsItemIter h it a i n n ok ov) where
 mem:=by simp
 obj:=λi h st b hb=>by
   obtain⟨ok,ov,e⟩:=st
   rw[List.mem_singleton.mp hb]
   exact⟨_,e,λv z=>by cases z⟩
 keep:=λi h h' st k=>by
   obtain⟨ok,ov,e⟩:=st
   exact⟨ok,ov,k it (by simp) _ e⟩
 item:=by
   intro X hP hw hK hc i z4 s σ H E I hf st hg
   subst hP hw hK
   obtain⟨kvs,p,e,rfl,hp⟩:=hg
   obtain⟨_,es,z,dr,al⟩:=q3p I e
   obtain⟨b,u,q1,q2,hi,k1,k2⟩:=al i p hp
   obtain⟨ok,ov,st⟩:=st
   rw[<-z]at st dr
   refine qcb st dr hi λh' st' tp kk=>⟨_,rfl,wpAny_letOwnedTupleGo_items st' λh'' st'' sb=>?_⟩
   rw[k1,k2]at tp st' st''
   have fresh:H s.heap.objs.size=none:=I.hok.fresh (jc _)
   have lt:it<s.heap.objs.size:=j8 st
   have keep:∀c o,c∉[it]->s.heap.get? c=some o->h''.get? c=some o:=λc o hc q=>by
     have nc:c≠it:=by simpa using hc
     exact sb.extBut c o nc (kk c o nc q)
   have tp':h''.get? s.heap.objs.size=some {cls:=.type "tuple",data:=.seq #[.ref b,u]}:=sb.extBut _ _ (Nat.ne_of_gt lt) tp
   have I':Inv X z4 σ (upd H s.heap.objs.size (.tup [.ref b,p.2])) {s with heap:=h'',toks:=s.toks}:=by
     refine I.step (g':=s.gens) (d':=s.drawn) (ch:=[it]) (λc hc=>?_) (λc o _ _ hc e _=>keep c o hc e) (λc o _ _ hc e _=>⟨o.slots,keep c o hc e⟩) (λc o _ e n=>?_) (λc o hc e=>⟨o,keep c o hc e⟩)
       (λc zs e=>?_) (λc o w' e=>?_) (λc ps e=>⟨#[],?_⟩) (λm hm=>?_) (λc o e=>?_) I.bare
     · obtain⟨_,f1,f2,f3,f4,f5⟩:=hf c hc
       exact⟨f3,f1,f4,f5⟩
     · rw[q05 (jh (j8 e))];exact n
     · rw[q05 (q0k e fresh)];exact e
     · rw[q05 (q0k e fresh)];exact e
     · rw[q05 (q0k e fresh),e];simp
     · obtain⟨o,es,ep,ho,r⟩:=hm
       exact⟨o,es,ep,keep _ o (λq=>(hf _ q).2.1 rfl) ho,r⟩
     · by_cases hb:c=s.heap.objs.size
       · subst hb
         rw[q0a]at e
         cases e
         exact⟨by show 2<=sizeLine;decide,[.ref b,u],.cons rfl (.cons q2 .nil),⟨_,tp',⟨rfl,_,rfl⟩,rfl⟩⟩
       · rw[q05 hb]at e
         refine(I.hok c o e).stay (λd w' hd q=>keep d w' (λm=>?_) q) (λd q=>?_) λd zs q=>?_
         · have n:=(hf d m).1
           rcases hd with rfl|hd
           · rw[n]at e;cases e
           · rw[n]at hd;cases hd
         · rw[q05 (q0k q fresh)];exact q
         · rw[q05 (q0k q fresh)];exact q
   refine⟨.ref s.heap.objs.size,_,I',rfl,⟨_,b,p.2,rfl,fresh,rfl,λkvs' p' e' hp'=>?_⟩,⟨_,_,by rw[<-z];exact st''⟩,λc hc=>?_⟩
   · rw[e]at e'
     cases e'
     rw[hp]at hp'
     cases hp'
     exact⟨q1,rfl⟩
   · rw[List.mem_singleton.mp hc,q05 (jh lt)]
     exact(hf it (by simp)).1
 done:=by
   intro X hP hw hK hc i z4 s σ H E I hf st hg
   subst hP hw hK
   obtain⟨kvs,e,rfl,hp⟩:=hg
   obtain⟨_,es,z,dr,_⟩:=q3p I e
   obtain⟨ok,ov,st⟩:=st
   obtain⟨f0,f1,f2,f3,f4,f5⟩:=hf it (by simp)
   rw[<-z]at st dr hp
   exact qe5 (I.ok.hd hc) st dr hp λh' eb=>⟨rfl,I.turned (t':=s.toks) (λb o hb e=>eb b o hb e) f0 f1 f3 f4 f5⟩
 self:=λ_ _ _ _ _ st h=>by
   obtain⟨ok,ov,e⟩:=st
   refine wpAny_pyIter_slot (T:="dict_itemiterator") ⟨_,e,rfl⟩ F.slot_dict_itemiterator_iter (jo F.slot_dict_itemiterator_iter ⟨_,e,rfl⟩ qa4 ?_ (F.args_dict_itemiterator_iter_1 _))
   exact j7 ⟨_,rfl,"dict_itemiterator",_,⟨_,e,rfl⟩,F.slot_dict_itemiterator_next.lookup,h⟩
def qfa(td:TE):TI:=λσ H R=>td σ H λx H1=>∃a kvs,x=.ref a/\H1 a=some (.dT kvs)/\R (Iti a kvs.length) H1
theorem qdm{X:Cx}{o:Expr}{td:TE}{zl zd:Pos}{zo:List Expr}{x1:Nat}{tp:Pos}(ho:PE X o td)(zt:attributeBase o "items" X.env (eval o X.env)=eval o X.env:=by rfl)(zr:(zl.endLine==zd.line)=true:=by rfl):
   PI X (.Tuple zo x1 tp) (.Call (.Attribute o "items" zl) [] [] zd) (qfa td):=by
 intro z4 s σ H R I h
 refine wpAny_Call_method0_late zt zr (thn (ho z4 s σ H _ I h) λv s1 ⟨x,H1,I1,rx,a,kvs,ex,e,q⟩=>?_)
 subst ex
 obtain rfl:v=Value.ref a:=rx
 obtain⟨h1,h2⟩:=qad (T:="dict") (x:=.ref a) I1 rfl (.inr (.inr (.inl ⟨rfl,.inr ⟨kvs,e⟩⟩)))
 obtain⟨y,es,z,dr,_⟩:=q3p I1 e
 refine⟨"dict","dict.items",PySem.F.plainAttrs_dict,PySem.F.slot_dict_items,PySem.F.type_dict_items,h1,h2,Calls.callWith_builtin rfl (PySem.evalArgs_none (qa2 y dr ?_))⟩
 have kp:∀b o,s1.heap.get? b=some o->(s1.heap.push {cls:=.type "dict_items",data:=.fields #[.ref a]}).get? b=some o:=λb o e=>ja _ e
 refine qa1 (s:={s1 with heap:=s1.heap.push {cls:=.type "dict_items",data:=.fields #[.ref a]}}) (v:=s1.heap.objs.size) ⟨_,je _ rfl,rfl,rfl⟩ (dr.at_ λo e=>kp a o e) ?_
 have sz:(s1.heap.push {cls:=.type "dict_items",data:=.fields #[.ref a]}).objs.size=s1.heap.objs.size+1:=xk ..
 refine⟨_,[(s1.heap.push {cls:=.type "dict_items",data:=.fields #[.ref a]}).objs.size],_,_,H1,rfl,I1.kept (t':=s1.toks) λb o e=>ja _ (kp b o e),q9g a _ kvs.length,⟨.none,.none,by rw[<-z];exact je _ rfl⟩,λb hb=>?_,q⟩
 rw[List.mem_singleton.mp hb,sz]
 exact I1.fpOk (Nat.le_succ _) (I1.hok.fresh (Nat.le_succ _))
section
variable{K:PySem.W.Frag}{O:List Nat}{td:TE}{fd:RhD}
def q4c(gs:List (List Key×D)):List D:=gs.map λg=>.tup [.tup (g.1.map keyD),g.2]
def q71(f:RhD):RhL:=q14 f λd=>q1u (match d with
 |.dit gs=>some (q4c gs)
 |_=>none)
theorem qe6{R:Hp}{a:Addr}{kvs:List (List Key×V)}{gs:List (List Key×D)}(h:R a=some (.dT kvs))(r:Rkt K R kvs gs):ItOk K (Iti a kvs.length) R (q4c gs):=λH' R' s b i=>by
 have q:H' a=some (.dT kvs):=b _ _ (s _ _ h)
 refine⟨λe=>⟨kvs,q,rfl,by unfold q4c at e;rw[j9]at e;rw[r.length];omega⟩,λd e=>?_⟩
 unfold q4c at e
 rw[ju]at e
 cases g0:gs[i]? with
 |none=>rw[g0]at e;cases e
 | some g=>
   rw[g0]at e
   cases e
   obtain⟨v,h1,h2⟩:=r.get g0
   refine⟨⟨kvs,_,q,rfl,h1⟩,λx H'' y=>?_⟩
   obtain⟨T,c,x,rfl,hT,rfl,y⟩:=y
   obtain⟨hc,ex⟩:=y kvs _ q h1
   dsimp only at ex hc
   subst ex
   -- the key becomes known first,then the pair
   have kn:∃R1,Ext H' R' H' R1/\R1 c=some (.tup (g.1.map kV)):=by
     cases z:R' c with
     | some o=>
       have:=b _ _ z
       rw[hc]at this
       cases this
       exact⟨R',Ext.refl b,z⟩
     | none=>
       refine⟨upd R' c (.tup (g.1.map kV)),⟨Same.refl _,Same.new z,λa2 o e2=>?_,λa2 e2=>?_⟩,q0a⟩
       · by_cases hb:a2=c
         · subst hb;rw[q0a]at e2;rw[hc,e2]
         · rw[q05 hb]at e2;exact b _ _ e2
       · by_cases hb:a2=c
         · subst hb;exact .inr (.inr ⟨_,hc⟩)
         · rw[q05 hb]at e2;exact .inl e2
   obtain⟨R1,x1,k1⟩:=kn
   have x2:=Ext.new (o:=.tup [.ref c,x]) x1.s hT
   exact⟨_,x1.trans x2,.tup q0a (.cons (.tup (x2.r _ _ k1) (q4p _)) (.cons ((h2.mono s).mono (x1.r.trans x2.r)) .nil))⟩
theorem qdv(h:ME K O td fd):MI K O (qfa td) (q71 fd):=λZ σ H R ρ ds ρ' Q S e k=>by
 obtain⟨d,ρ1,e1,e⟩:=q08 e
 obtain⟨e2,rfl⟩:=q0d e
 refine h Z σ H R ρ d _ _ S e1 λv H1 R1 S1 st1 r1=>?_
 cases r1 with
 | @dit a kvs gs q r=>
   cases e2
   exact⟨a,kvs,rfl,S1.sub _ _ q,k _ H1 R1 S1 st1 (qe6 q r)⟩
 |_=>cases e2
end
theorem qdq{K:PySem.W.Frag}{n i j k:Nat}(hi:i<n)(hj:j<n)(hk:k<n):Own n (gTup K 3 (q85 (q36 i) (q85 (q36 j) (q85 (q36 k) gNil)))):=λv σ H Q q=>by
 obtain⟨a,xs,e,h,hl,x,r,e1,y,r2,e2,z,r3,e3,e4,q⟩:=q
 exact⟨a,xs,e,h,hl,x,r,e1,y,r2,e2,z,r3,e3,e4,q,by simp,λm hm=>by rw[List.getElem?_set_ne (by omega),List.getElem?_set_ne (by omega),List.getElem?_set_ne (by omega)]⟩
section
variable{X:Cx}{K:PySem.W.Frag}{O:List Nat}
def PrT(K:PySem.W.Frag)(H:Hp)(v:V)(q:Int×List Int):Prop:=∃a b,v=.ref a/\SqT K H a [.int q.1,.ref b]/\SqT K H b (q.2.map V.int)
theorem PrT.mono{H R:Hp}{v:V}{q:Int×List Int}(s:Same R H)(h:PrT K R v q):PrT K H v q:=by
 obtain⟨a,b,e,h1,h2⟩:=h
 exact⟨a,b,e,Same.tup s h1,Same.tup s h2⟩
end
def TsV(K:PySem.W.Frag)(H:Hp)(v:V)(ns:List Int):Prop:=∃a,v=.ref a/\SqT K H a (ns.map V.int)
inductive Tss(K:PySem.W.Frag)(H:Hp):List V->List (List Int)->Prop
 |nil:Tss K H [] []
 |cons {v:V} {vs:List V} {n:List Int} {ns:List (List Int)}:TsV K H v n->Tss K H vs ns->Tss K H (v::vs) (n::ns)
section
variable{X:Cx}{K:PySem.W.Frag}
end
section
variable{K:PySem.W.Frag}{R:Hp}
end
section
variable{prog:Program}{w:World}{A:Around}{E:Value->Shared->Prop}{s:Shared}
end
section
variable{X:Cx}{K:PySem.W.Frag}
end
structure ItS(prog:Program)(w:World)(I S:Addr)(its:Array Value)(St:Nat->Heap->Prop):Prop where
 keep:∀{i:Nat} {h h':Heap},St i h->(∀b o,b≠S->h.get? b=some o->h'.get? b=some o)->St i h'
 item:∀{A:Around} {i:Nat} {s:Shared} {Q:Option Value->Shared->Prop} {E:Value->Shared->Prop},A.handled=none->St i s.heap->(hi:i<its.size)->(∀h',St (i+1) h'->(∀b o,b≠I->s.heap.get? b=some o->h'.get? b=some o)->Q (some its[i]) {s with heap:=h'})->wpAny (model prog w) A (pyNext (.ref I)) Q E s
 done:∀{A:Around} {i:Nat} {s:Shared} {Q:Option Value->Shared->Prop} {E:Value->Shared->Prop},A.handled=none->St i s.heap->its.size<=i->(∀h',(∀b o,b≠I->s.heap.get? b=some o->h'.get? b=some o)->Q none {s with heap:=h'})->wpAny (model prog w) A (pyNext (.ref I)) Q E s
section
variable{prog:Program}{w:World}{A:Around}{R:Result->Shared->Prop}{I S:Addr}{its:Array Value}{s0:Shared}{bt:Nat->Nat->Bool}{kw:List (Str×Value)}{St:Nat->Heap->Prop}
end
section
variable{prog:Program}{w:World}{A:Around}{E:Value->Shared->Prop}{s:Shared}
theorem qdb{it d:Addr}{i ep:Nat}{es:Array DictEntry}{Q:Option Value->Shared->Prop}(g:s.heap.IsValIter it d i es.size ep)(x:DRaw s.heap d es ep)(hi:i<es.size)
   (q:∀h',h'.IsValIter it d (i+1) es.size ep->Heap.SameBut it s.heap h'->Q (some es[i].val) {s with heap:=h'}):wpAny (model prog w) A (pyNext (.ref it)) Q E s:=by
 obtain⟨oi,ei,ci,fi⟩:=id g
 obtain⟨o,e,c,dt⟩:=id x
 have own0:Builtin.Dict_items.ownsTuple "dict_valueiterator"=false:=by decide
 unfold pyNext
 refine j6 (xq (xf (name:=Str.ofString "__next__") g.typeIs vh (jo vh g.typeIs F.entry_dict_valueiterator_next (j6 (j7 (j6 ?_))) (F.args_dict_valueiterator_next_1 _))))
 refine j6 (j6 (vk g.typeIs (j7 (j6 (wpAny_fieldsOf ei fi ?_)))))
 simp only[own0,Bool.false_eq_true,if_false]
 show wpAny _ _ (if(Value.ref d==Value.none)=true then _ else _) _ _ s
 have nn:(Value.ref d==Value.none)=false:=rfl
 rw[if_neg (by rw[nn];decide)]
 refine j6 (j7 (j6 (xc e dt ?_)))
 rw[if_neg (by simp)]
 refine j6 (j7 (j6 (xm e dt ?_)))
 rw[if_neg (by simp)]
 refine j7 ?_
 have n0:¬((i:Int)<0):=by omega
 simp only[n0,if_false,Int.toNat_natCast,Array.getElem?_eq_getElem hi]
 refine j6 (j6 (vk g.typeIs (j7 (j6 (wpAny_isOneOf_valiter g.typeIs ?_)))))
 show wpAny _ _ (setField (.ref it) 1 (rawInt ((i:Int)+1)) >>= _) _ _ s
 have g':(s.heap.update it (Obj.mapFields (·.setIfInBounds 1 (rawInt ((i:Int)+1))))).IsValIter it d (i+1) es.size ep:=
   ⟨_,xo _ ei (Obj.isFreed_of_fields (kg fi _)),(Obj.cls_mapFields ..).trans ci,by rw[kg fi];simp[rawInt]⟩
 refine j6 (k9 ei fi (by simp) (j6 (jr (j6 (wpAny_isOneOf_valiter (s:={s with heap:=s.heap.update it (Obj.mapFields (·.setIfInBounds 1 (rawInt ((i:Int)+1))))}) g'.typeIs (j6 (wpAny_isOneOf_valiter (s:={s with heap:=s.heap.update it (Obj.mapFields (·.setIfInBounds 1 (rawInt ((i:Int)+1))))}) g'.typeIs ?_)))))))
 show wpAny _ _ (pure es[i].val) _ _ _
 exact j7 (j7 ⟨_,rfl,j7 (q _ g' (xh ..))⟩)
theorem qfj{it d:Addr}{i ep:Nat}{es:Array DictEntry}{Q:Option Value->Shared->Prop}(hh:A.handled=none)(g:s.heap.IsValIter it d i es.size ep)(x:DRaw s.heap d es ep)(hi:es.size<=i)
   (q:∀h',Heap.ExtBut it s.heap h'->Q none {s with heap:=h'}):wpAny (model prog w) A (pyNext (.ref it)) Q E s:=by
 obtain⟨oi,ei,ci,fi⟩:=id g
 obtain⟨o,e,c,dt⟩:=id x
 have own0:Builtin.Dict_items.ownsTuple "dict_valueiterator"=false:=by decide
 unfold pyNext
 refine j6 (xq (xf (name:=Str.ofString "__next__") g.typeIs vh (jo vh g.typeIs F.entry_dict_valueiterator_next (j6 (j7 (j6 ?_))) (F.args_dict_valueiterator_next_1 _))))
 refine j6 (j6 (vk g.typeIs (j7 (j6 (wpAny_fieldsOf ei fi ?_)))))
 simp only[own0,Bool.false_eq_true,if_false]
 show wpAny _ _ (if(Value.ref d==Value.none)=true then _ else _) _ _ s
 have nn:(Value.ref d==Value.none)=false:=rfl
 rw[if_neg (by rw[nn];decide)]
 refine j6 (j7 (j6 (xc e dt ?_)))
 rw[if_neg (by simp)]
 refine j6 (j7 (j6 (xm e dt ?_)))
 rw[if_neg (by simp)]
 refine j7 ?_
 have n0:¬((i:Int)<0):=by omega
 simp only[n0,if_false,Int.toNat_natCast,Array.getElem?_eq_none hi]
 refine j6 (j6 (vk g.typeIs (j7 ?_)))
 show wpAny _ _ (setField (.ref it) 0 .none >>= _) _ _ s
 refine j6 (k9 ei fi (by simp) ?_)
 show wpAny _ _ (newExc (.type "StopIteration") [] >>= _) _ _ _
 simp only[newExc,newTuple,raiseNew]
 refine j6 (j6 (jq (j6 (m:=firstArgMember _ _) (wpAny_of_eq (a:=Value.none) (by first|rfl|(simp only[firstArgMember];rfl)) (jq ?_ (by size_fits)))) (by size_fits)))
 refine j6 (wpAny_handled ?_)
 rw[show A.in1.handled=none from hh]
 refine j6 (j7 (wpAny_throw ?_))
 exact j6 (kh (T:="StopIteration") (b:=true) ⟨_,je _ rfl,rfl⟩ isSubtype_stop (j7 (q _ (((xh ..).extBut.push _).push _))))
end
section
variable{prog:Program}{w:World}{A:Around}{E:Value->Shared->Prop}{s:Shared}
theorem q7k{d:Addr}{es:Array DictEntry}{ep:Nat}{Q:Value->Shared->Prop}(nd:(d==sysModules)=false)(x:DRaw s.heap d es ep)
   (q:Q (.ref s.heap.objs.size) {s with heap:=s.heap.push {cls:=.type "dict_values",data:=.fields #[.ref d]}}):wpAny (model prog w) A (call (.builtin "dict.values") [.ref d]) Q E s:=by
 refine jo F.slot_dict_values x.ty F.entry_dict_values ?_ (F.args_dict_values_1 _)
 show wpAny _ _ (Builtin.Dict.noArgs "values" ⟨[.ref d],[]⟩ >>= _) _ _ s
 unfold Builtin.Dict.noArgs
 refine j6 (j6 (ko x.ty ?_))
 show wpAny _ _ (pure d) _ _ s
 refine j7 ?_
 unfold Builtin.Dict.showsAll
 show wpAny _ _ ((if(d==sysModules)=true then _ else _) >>= _) _ _ s
 rw[if_neg (by rw[nd];decide)]
 exact j6 (j7 (j6 (jq (j7 ⟨_,rfl,q⟩))))
theorem q7j{v d:Addr}{es:Array DictEntry}{ep:Nat}{Q:Value->Shared->Prop}(g:s.heap.IsValuesView v d)(x:DRaw s.heap d es ep)
   (q:Q (.ref s.heap.objs.size) {s with heap:=s.heap.push {cls:=.type "dict_valueiterator",data:=.fields #[.ref d,.int 0 0,.int es.size 0,.int ep 0]}}):wpAny (model prog w) A (pyIter (.ref v)) Q E s:=by
 obtain⟨ov,ev,cv,fv⟩:=id g
 obtain⟨o,e,c,dt⟩:=id x
 have own1:Builtin.Dict_items.ownsTuple "dict_valueiterator"=false:=by decide
 refine wpAny_pyIter_slot g.typeIs F.slot_dict_values_iter (jo F.slot_dict_values_iter g.typeIs F.entry_dict_values_iter ?_ (F.args_dict_values_iter_1 _))
 unfold Builtin.«dict_values.__iter__» Builtin.Dict_items.dictOf Builtin.Dict_items.newIterator
 refine j6 (j7 (j6 (j6 (jn ev fv (x:=.ref d) rfl (j7 (j6 (j6 (xc e dt (j6 (xm e dt ?_))))))))))
 simp only[own1,Bool.false_eq_true,if_false]
 refine jq (j7 ⟨_,rfl,"dict_valueiterator",_,⟨_,je _ rfl,rfl⟩,F.slot_dict_valueiterator_next.lookup,?_⟩) (by simp[sizeOk,sizeLine_eq])
 simpa[rawInt]using q
end
section
variable{X:Cx}{K:PySem.W.Frag}{O:List Nat}{o:Expr}{td:TE}{p pos zl zd:Pos}{fe:RhD}
theorem Rkt.vals{R:Hp}:∀{kvs:List (List Key×V)} {gs:List (List Key×D)},Rkt K R kvs gs->Rps K R (kvs.map (·.2)) (gs.map (·.2))
 |_,_,.nil=>.nil
 |_,_,.cons r t=>.cons r (Rkt.vals t)
end
section
variable{X:Cx}{z4:List (Addr×Obj)}{σ:St}{H:Hp}{s:Shared}
theorem qe0{P c:Addr}{params:Arguments}{body:Expr}{scope:Scope}{zu:List (Str×Addr)}{pos:Pos}{Q:Value->Shared->Prop}{E:Value->Shared->Prop}(I:Inv X z4 σ H s)(hH:H P=some (.lam pos (X.env.qual++"<lambda>")))(hdef:defaultsOf params X.env=([],[]))(hcl:closureFor scope X.env=pure zu)(hge0:X.env.globals=mainGlobals)(zy:X.env.code=.ref c)(C:PySem.W.CodeHd X.base c P)(hb:X.base.BuiltinsAt X.mg P)
   (k:∀(f c':Addr) (ctv:Value) (H':Hp) (s':Shared),Inv X z4 σ H' s'->(∀a o,H a=some o->H' a=some o)->(∀a,H' a≠none->H a≠none∨s.heap.objs.size<=a)->s'.heap.get? f=some (PySem.W.kla_obj "<lambda>" (X.env.qual++"<lambda>") params body scope zu ((X.mg "__name__").getD .none) c' ctv)->H' f=none->s.heap.objs.size<=f->s'.heap.CodeRec (.ref c') (X.env.qual++"<lambda>")->H' c'=some (.own P)->(∃ps:Array Value,s'.heap.get? P=some {cls:=.none,data:=.fields ps}/\TriplesOk ps.toList/\codeAmong pos ps.toList=some (.ref c'))->Q (.ref f) s'):
   wpAny (model X.prog X.w) X.A (eval (.Lambda params body scope pos) X.env) Q E s:=by
 obtain⟨ps,e,t,r⟩:=I.hok P _ hH
 have hgs:s.heap.Ns mainGlobals X.mg:=I.mod.glob.keeps I.bk
 have hgP:mainGlobals≠P:=λq=>by
   obtain⟨o,es,ep,e1,hd,_⟩:=I.mod.glob
   have:=(I.bs _ _ e1).2
   rw[q,hH]at this
   cases this
 obtain⟨bm,ob,b1,b2,b3,b4,b5,b6⟩:=hb
 have hb':s.heap.BuiltinsAt X.mg P:=⟨bm,ob,b1,b2,b3,b4,I.bk _ _ b5,b6⟩
 have nP:∀b,H b=none->b≠P:=λb h q=>by rw[q,hH]at h;cases h
 refine PySem.W.kla_eval hdef ?_
 rcases r with hnf|⟨c',hf,hc,hcd⟩
 · refine PySem.W.kla_makeFunction (mg:=X.mg) hcl hge0 hgs zy (C.keeps I.bk) e t hnf hgP hb' λc' ctv h' tk hx hge hlt hrec htb=>?_
   have hc0:H c'=none:=I.hok.fresh hge
   have up:∀b o,b≠P->s.heap.get? b=some o->(h'.push (PySem.W.kla_obj "<lambda>" (X.env.qual++"<lambda>") params body scope zu ((X.mg "__name__").getD .none) c' ctv)).get? b=some o:=λb o hb e=>ja _ (hx b o hb e)
   have hne:∀b o,H b=some o->b≠c':=λb o h q=>by rw[q,hc0]at h;cases h
   have hpc:P≠c':=hne P _ hH
   have hrec2:=hrec.push (PySem.W.kla_obj "<lambda>" (X.env.qual++"<lambda>") params body scope zu ((X.mg "__name__").getD .none) c' ctv)
   have hok:HOk X.prog X.w (upd H c' (.own P)) (h'.push (PySem.W.kla_obj "<lambda>" (X.env.qual++"<lambda>") params body scope zu ((X.mg "__name__").getD .none) c' ctv)):=λb o hb=>by
     by_cases q:b=c'
     · subst q
       rw[q0a]at hb
       cases hb
       obtain⟨c2,oc,vs,tq,hc2,hoc,_⟩:=hrec2
       cases hc2
       exact⟨oc,hoc⟩
     · rw[q05 q]at hb
       by_cases q2:b=P
       · subst q2
         rw[hH]at hb
         cases hb
         refine⟨ps++#[rawInt pos.line,rawInt pos.col,.ref c'],ja _ htb,?_,.inr ⟨c',?_,q0a,hrec2⟩⟩
         · rw[Array.toList_append]
           exact TriplesOk_snoc _ _ _ _ t
         · rw[Array.toList_append]
           exact codeAmong_snoc _ t hnf
       · refine(I.hok b o hb).stay (λd u hd e1=>up d u ?_ e1) (λd hd=>by rw[q05 (hne d _ hd)];exact hd) λd xs hd=>by rw[q05 (hne d _ hd)];exact hd
         rcases hd with rfl|hd
         · exact q2
         · exact λz=>by rw[z,hH]at hd;cases hd
   have I2:Inv X z4 σ (upd H c' (.own P)) {s with heap:=h'.push (PySem.W.kla_obj "<lambda>" (X.env.qual++"<lambda>") params body scope zu ((X.mg "__name__").getD .none) c' ctv),toks:=tk}:=
     I.step (g':=s.gens) (d':=s.drawn) (ch:=[]) (λ_ z=>nomatch z) (λb o _ _ _ e1 n=>up b o (nP b n) e1) (λb o _ _ _ e1 n=>⟨o.slots,up b o (nP b n) e1⟩)
       (λb o _ e1 n=>by rw[q05 (jh (ji (j8 e1) hge))];exact n)
       (λb o _ e1=>by
         by_cases q:b=P
         · rw[q];exact⟨_,ja _ htb⟩
         · exact⟨o,up b o q e1⟩)
       (λb xs h=>by rw[q05 (hne b _ h)];exact h) (λb o u h=>by rw[q05 (hne b _ h)];exact h) (λb ps h=>⟨#[],by rw[q05 (hne b _ h),h];simp⟩)
       (λm hn=>(hn.extBut hx (nP _ I.free)).push _) hok I.bare
   have hfs:s.heap.objs.size<=h'.objs.size:=jy hge (Nat.le_of_lt hlt)
   refine k h'.objs.size c' ctv _ _ I2 (λa o h=>by rw[q05 (hne a o h)];exact h) (λa h=>?_) (je _ rfl) ?_ hfs hrec2 q0a ⟨ps++#[rawInt pos.line,rawInt pos.col,.ref c'],ja _ htb,by rw[Array.toList_append];exact TriplesOk_snoc _ _ _ _ t,by rw[Array.toList_append];exact codeAmong_snoc _ t hnf⟩
   · by_cases q:a=c'
     · rw[q];exact .inr hge
     · rw[q05 q]at h;exact .inl h
   · rw[q05 (Nat.ne_of_gt hlt)]
     exact I.hok.fresh hfs
 · refine PySem.W.kla_makeFunctionHit (mg:=X.mg) hcl hge0 hgs zy (C.keeps I.bk) e t hf hb' λctv h' tk hk hsz=>?_
   have up:∀b o,s.heap.get? b=some o->(h'.push (PySem.W.kla_obj "<lambda>" (X.env.qual++"<lambda>") params body scope zu ((X.mg "__name__").getD .none) c' ctv)).get? b=some o:=λb o e=>ja _ (hk b o e)
   have I2:Inv X z4 σ H {s with heap:=h'.push (PySem.W.kla_obj "<lambda>" (X.env.qual++"<lambda>") params body scope zu ((X.mg "__name__").getD .none) c' ctv),toks:=tk}:=
     I.step (g':=s.gens) (d':=s.drawn) (ch:=[]) (λ_ z=>nomatch z) (λb o _ _ _ e1 n=>up b o e1) (λb o _ _ _ e1 n=>⟨o.slots,up b o e1⟩) (λb o _ e1 n=>n) (λb o _ e1=>⟨o,up b o e1⟩) (λb xs h=>h) (λb o u h=>h) (λb ps h=>⟨#[],by rw[h];simp⟩)
       (λm hn=>hn.keeps up) (I.hok.kept up) I.bare
   exact k h'.objs.size c' ctv _ _ I2 (λa o h=>h) (λa h=>.inl h) (je _ rfl) (I.hok.fresh hsz) hsz (hcd.keeps up) hc ⟨ps,up _ _ e,t,hf⟩
end
def cxL(P:Program)(w:World)(K:PySem.W.Frag)(mg:Str->Option Value)(base:Heap)(N:List Str)(qual:Str)(scope:Scope)(f:Addr)(cd:Value)(cl:List (Str×Addr))(A:Around)(outer:List Env)(s:Shared)(H:Hp):Cx where
 prog:=P
 w:=w
 K:=K
 mg:=mg
 base:=base
 A:=A.deeper (PySem.W.envX qual scope s.heap.objs.size f cd cl)
 N:=N
 s₀:=s
 H₀:=H
 env:=PySem.W.envX qual scope s.heap.objs.size f cd cl
 outer:=outer
 stack:=PySem.W.envX qual scope s.heap.objs.size f cd cl::outer
 ex:=[]
 calm:=true
 fn:=λy=>(cl.lookup y).isNone
 pn:=[]
 xe:=λ_ _=>False
section
variable{P:Program}{w:World}{K:PySem.W.Frag}{mg:Str->Option Value}{base:Heap}{N:List Str}{qual:Str}{scope:Scope}{f:Addr}{cd:Value}{cl:List (Str×Addr)}{A:Around}{outer:List Env}{s:Shared}{H:Hp}
structure Holds(cl:List (Str×Addr))(scope:Scope)(H:Hp)(h:Heap):Prop where
 free:∀x,scope.names.lookup x=some .free->∃c,cl.lookup x=some c
 inj:∀x y c,cl.lookup x=some c->cl.lookup y=some c->x=y
 cell:∀x c,cl.lookup x=some c->∃u,h.IsCell c u
 hid:∀x c,cl.lookup x=some c->H c=none
theorem qh6{σ:St}{binds:List (Str×Value)}{h₁:Heap}{tk:Nat}(zj:scope.kind=.function)(zb:∀x∈scope.names,x.2≠.cell)(hc:Holds cl scope H s.heap)(e0:Env0 P w K mg base A outer s H)(hd:A.handled=none)
   (hloc:∀(i:Nat) (x:Str) (v:V),N[i]? =some x->σ[i]? =some (some v)->∃u,RelV v u/\((scope.names.lookup x=some .local/\binds.reverse.lookup x=some u)∨(scope.names.lookup x=some .free/\∃c,cl.lookup x=some c/\s.heap.IsCell c (some u)))) (len:σ.length=N.length)
   (hns:h₁.Ns s.heap.objs.size (λx=>binds.reverse.lookup x)) (hk:∀b o,s.heap.get? b=some o->h₁.get? b=some o):Inv (cxL P w K mg base N qual scope f cd cl A outer s H) [] σ H {s with heap:=h₁,toks:=tk}:=by
 have noA:∀b:Addr,b∉(cxL P w K mg base N qual scope f cd cl A outer s H).ex:=λb z=>absurd (show b∈([]:List Addr)from z) (by simp)
 have ck:∀{c:Addr} {v:Option Value},s.heap.IsCell c v->h₁.IsCell c v:=λz=>by obtain⟨o,e,d⟩:=z;exact⟨o,hk _ _ e,d⟩
 refine⟨⟨e0.mod,zj,rfl,rfl,jc _,hc.inj,λy hy=>?_,λy c hy h=>?_,λ_=>hd,Around.frames_deeper e0.frames,.inr ⟨rfl,rfl⟩,λb z=>absurd z (noA b),e0.bs,e0.bsz,λb _ _=>noA b,λb z=>absurd z (noA b),e0.funs,e0.frf⟩,
   rfl,e0.bare,Un.kept hk,⟨_,hns,λi y v h1 h2 h3=>?_⟩,λy c h=>?_,e0.hok.fresh (jc _),hc.hid,λp hp=>absurd (show p∈([]:List (Addr×Obj))from hp) (by simp),e0.hok.kept hk,len⟩
 · have hy:scope.names.lookup y=some .cell∨scope.names.lookup y=some .free:=hy
   rcases hy with hy|hy
   · exact absurd rfl (zb _ (PySem.mem_of_lookup hy))
   · exact hc.free y hy
 · have hy:(cl.lookup y).isNone=true:=hy
   have h:cl.lookup y=some c:=h
   rw[h]at hy
   cases hy
 · obtain⟨u,r,l⟩:=hloc i y v h1 h2
   refine⟨u,r,?_⟩
   rcases l with⟨k,e⟩|⟨k,c,e,z⟩
   · exact .inl ⟨k,e⟩
   · exact .inr ⟨.inr k,c,e,ck z⟩
 · obtain⟨u,z⟩:=hc.cell y c h
   exact⟨u,ck z⟩
theorem qdz{c':Addr}{name:Str}{params:Arguments}{body:Expr}{pm ctv:Value}{te:TE}{σ:St}{binds:List (Str×Value)}{args:Args}{Q:VK}{E:XK}(hco:scope.isCoroutine=false)(hgen:scope.isGenerator=false)(zj:scope.kind=.function)(zb:∀x∈scope.names,x.2≠.cell)
   (hbl:∀y∈binds,scope.names.lookup y.1=some .local) (ho:s.heap.get? f=some (PySem.W.kla_obj name qual params body scope cl pm c' ctv)) (hcd:s.heap.CodeRec (.ref c') qual) (hb:bindArgs (PySem.W.kla_fn name qual params body scope cl pm (.ref c') ctv) args=pure binds)
   (hc:Holds cl scope H s.heap) (hr:A.depth<recursionLimit) (hd:A.handled=none) (e0:Env0 P w K mg base A outer s H)
   (hloc:∀(i:Nat) (x:Str) (v:V),N[i]? =some x->σ[i]? =some (some v)->∃u,RelV v u/\((scope.names.lookup x=some .local/\binds.reverse.lookup x=some u)∨(scope.names.lookup x=some .free/\∃c,cl.lookup x=some c/\s.heap.IsCell c (some u)))) (len:σ.length=N.length)
   (zc:PE (cxL P w K mg base N qual scope f (.ref c') cl A outer s H) body te) (hte:te σ H Q):codeAny (model P w) A (.call (.ref f) args) (CR CX0 outer P w H s Q E) s:=by
 have lim:s.heap.NoLimit:=e0.mod.nolimit.keeps λb o e=>(e0.bs b o e).1
 refine PySem.W.kla_callFunE hr ho rfl hco hgen rfl hcd ?_
 rw[hb]
 refine j7 (wpAny_newFunctionEnv zb hbl (λh₁ hns hsb=>⟨lim.fresh _ hsb,PySem.W.kla_codeExpr ?_⟩) zj)
 have hk₁:∀b o,s.heap.get? b=some o->h₁.get? b=some o:=λb o e=>hsb.extBut b o (jh (j8 e)) (ja _ e)
 have I:=qh6 (K:=K) (mg:=mg) (base:=base) (N:=N) (qual:=qual) (f:=f) (cd:=.ref c') (tk:=s.toks+binds.length) zj zb hc e0 hd hloc len hns hk₁
 refine jz (zc [] _ σ H _ I hte) (λu s' hs=>?_) λe s' hs=>hs.elim
 obtain⟨v,H',J,rv,q⟩:=hs
 exact⟨v,H',J.os,J.bare,J.base,J.hok,rv,q⟩
end
structure Betw(I S l:Addr)(xs:List V)(J Je:Shared->Prop):Prop where
 lst:∀s,J s->∃its:List Value,Vals xs its/\s.heap.IsList l its.toArray
 turn:∀(s:Shared) (h':Heap),J s->(∀b o,b≠I->b≠S->s.heap.get? b=some o->h'.get? b=some o)->(∃o,h'.get? I=some o)->(∃o,h'.get? S=some o)->J {s with heap:=h'}
 stop:∀(s:Shared) (h':Heap),J s->(∀b o,b≠I->b≠S->s.heap.get? b=some o->h'.get? b=some o)->Je {s with heap:=h'}
def KeyC(prog:Program)(w:World)(A:Around)(f:Value)(I S:Addr)(xs:List V)(kz:Nat->Int)(J:Shared->Prop):Prop:=
 ∀(i:Nat) (x:V) (vi:Value) (s:Shared) (Q:Value->Shared->Prop) (E:Value->Shared->Prop),xs[i]? =some x->RelV x vi->J s->(∀t s',J s'->(∀b o,b=I∨b=S->s.heap.get? b=some o->s'.heap.get? b=some o)->Q (.int (kz i) t) s')->wpAny (model prog w) A (call f [vi]) Q E s
def q37(kz:Nat->Int)(i j:Nat):Bool:=decide (kz i<kz j)
section
variable{prog:Program}{w:World}{A:Around}{R:Result->Shared->Prop}{I S l f:Addr}{xs:List V}{kz:Nat->Int}{J Je:Shared->Prop}
theorem q62{i:Nat}{h h':Heap}(st:h.IsListIter I l i)(k:∀o,h.get? I=some o->h'.get? I=some o):h'.IsListIter I l i:=by
 obtain⟨o,e,c⟩:=st
 exact⟨o,k o e,c⟩
theorem qab{its:List Value}{i:Nat}{v:Value}(r:Vals xs its)(h:its.toArray[i]? =some v):∃x,xs[i]? =some x/\RelV x v:=by
 have h:its[i]? =some v:=by simpa using h
 have hi:i<xs.length:=by rw[r.length];exact(List.getElem?_eq_some_iff.mp h).1
 obtain⟨u,e,ru⟩:=r.get (jw hi)
 rw[h]at e
 cases e
 exact⟨_,jw hi,ru⟩
theorem qbp(hh:A.in1.handled=none)(lI:l≠I)(SI:S≠I)(Sl:S≠l)(hk:KeyC prog w A.in1 (.ref f) I S xs kz J)(hJ:Betw I S l xs J Je)(hR:∀x v s',xs[argBest (q37 kz) (xs.length-1)]? =some x->RelV x v->Je s'->R (.ok (.ret v)) s'):
   ∀(k j:Nat) (s:Shared) (xb:V) (vb:Value) (tb:Tok) (c:Nat),xs.length-(j+1)=k->j+1<=xs.length->s.heap.IsListIter I l (j+1)->xs[argBest (q37 kz) j]? =some xb->RelV xb vb->s.heap.get? S=some {cls:=.type "list",data:=.seq #[vb,.int (kz (argBest (q37 kz) j)) tb] c}->J s->
     codeAny (model prog w) A (.builtin "min.loop" ⟨[.ref I,.ref f,.ref S],[]⟩) R s:=by
 intro k
 induction k with
 | zero=>
   intro j s xb vb tb c hkz hj st hb rb hS hJs
   have en:j+1=xs.length:=by omega
   obtain⟨its,rv,il⟩:=hJ.lst s hJs
   have ln:=rv.length
   refine ki kj ?_
   rw[kl x8]
   show wpAny _ _ (seqItems? (.ref S) >>= _) _ _ s
   refine j6 (x6 hS rfl ?_)
   refine j6 (xp ?_)
   refine wpAny_pyNext_list_end hh st il (Array.getElem?_eq_none (by rw[jl];omega)) λh' eb=>?_
   have hS2:=eb S _ SI hS
   show wpAny _ _ (updateSeq S (λ_=>#[]) >>= _) _ _ {s with heap:=h'}
   refine j6 (km (s:={s with heap:=h'}) hS2 rfl ?_ (by simp[sizeLine_eq]) (by simp[sizeLine_eq]))
   refine j6 (xi ?_)
   refine j7 ?_
   have ej:xs.length-1=j:=by omega
   exact hR xb vb _ (by rw[ej];exact hb) rb (hJ.stop s _ hJs λb o h1 h2 e=>(xg h' _ (Ne.symm h2)).trans (eb b o h1 e))
 | succ k ih=>
   intro j s xb vb tb c hkz hj st hb rb hS hJs
   have lt:j+1<xs.length:=by omega
   obtain⟨its,rv,il⟩:=hJ.lst s hJs
   have ln:=rv.length
   refine ki kj ?_
   rw[kl x8]
   show wpAny _ _ (seqItems? (.ref S) >>= _) _ _ s
   refine j6 (x6 hS rfl ?_)
   refine j6 (xp ?_)
   have hlt:j+1<its.toArray.size:=by rw[jl];omega
   have hx:its.toArray[j+1]? =some its.toArray[j+1]:=Array.getElem?_eq_getElem hlt
   generalize its.toArray[j+1]=vi at hx
   obtain⟨x,ex,rx⟩:=qab rv hx
   refine kr st il (x:=vi) hx λh' st' sb=>?_
   have kI:∀b o,b≠I->s.heap.get? b=some o->h'.get? b=some o:=λb o hb e=>(sb.2 b hb).trans e
   have hS2:=kI S _ SI hS
   have J2:J {s with heap:=h'}:=hJ.turn s h' hJs (λb o h1 _ e=>kI b o h1 e) (let ⟨o,e,_⟩:=st';⟨o,e⟩) ⟨_,hS2⟩
   show wpAny _ _ (Sem.tryCatch _ _ >>= _) _ _ {s with heap:=h'}
   refine j6 (xp (jr ?_))
   refine hk (j+1) x vi _ _ _ ex rx J2 λtv s3 J3 kk=>?_
   have hS3:=kk S _ (.inr rfl) hS2
   have st3:s3.heap.IsListIter I l (j+1+1):=q62 st' λo e=>kk I o (.inl rfl) e
   show wpAny _ _ (Sem.tryCatch _ _ >>= _) _ _ s3
   refine j6 (xp (jr ?_))
   refine j6 (HT.rcLt_int _ s3 _ tv _ tb _ _ _ _ ?_)
   refine j6 (jr (xw ?_))
   refine j6 (xi ?_)
   refine j7 ?_
   have eb:argBest (q37 kz) (j+1)=if q37 kz (j+1) (argBest (q37 kz) j)=true then j+1 else argBest (q37 kz) j:=by rw[argBest]
   cases q:q37 kz (j+1) (argBest (q37 kz) j)with
   | true=>
     rw[q,if_pos rfl]at eb
     have q':decide (kz (j+1)<kz (argBest (q37 kz) j))=true:=q
     rw[q']
     show wpAny _ _ (updateSeq S _ >>= _) _ _ s3
     refine j6 (km hS3 rfl ?_ (by simp[sizeLine_eq]) (by simp[sizeLine_eq]))
     refine j6 (xi ?_)
     refine j7 ⟨xr x8 _,?_⟩
     have hS4:=xo (Obj.mapSeq λ_=>#[vi,.int (kz (j+1)) tv]) hS3 rfl
     have st4:(s3.heap.update S (Obj.mapSeq λ_=>#[vi,.int (kz (j+1)) tv])).IsListIter I l (j+1+1):=q62 st3 λo e=>(xg s3.heap _ SI).trans e
     exact ih (j+1) _ x vi tv _ (by omega) lt st4 (by rw[eb];exact ex) rx (by rw[eb];exact hS4) (hJ.turn s3 _ J3 (λb o h1 h2 e=>(xg s3.heap _ (Ne.symm h2)).trans e) (let ⟨o,e,_⟩:=st4;⟨o,e⟩) ⟨_,hS4⟩)
   | false=>
     rw[q,if_neg (by decide)]at eb
     have q':decide (kz (j+1)<kz (argBest (q37 kz) j))=false:=q
     rw[q']
     show wpAny _ _ (letGo _ >>= _) _ _ s3
     refine j6 (xi ?_)
     refine j7 ⟨xr x8 _,?_⟩
     exact ih (j+1) s3 xb vb tb c (by omega) lt st3 (by rw[eb];exact hb) rb (by rw[eb];exact hS3) J3
theorem q9v(hh:A.in1.handled=none)(lI:l≠I)(SI:S≠I)(Sl:S≠l)(hk:KeyC prog w A.in1 (.ref f) I S xs kz J)(hJ:Betw I S l xs J Je)(hR:∀x v s',xs[argBest (q37 kz) (xs.length-1)]? =some x->RelV x v->Je s'->R (.ok (.ret v)) s')(lt:0<xs.length)
   {s:Shared} {c:Nat} (st:s.heap.IsListIter I l 0) (hS:s.heap.get? S=some {cls:=.type "list",data:=.seq #[] c}) (hJs:J s):codeAny (model prog w) A (.builtin "min.loop" ⟨[.ref I,.ref f,.ref S],[]⟩) R s:=by
 obtain⟨its,rv,il⟩:=hJ.lst s hJs
 have ln:=rv.length
 refine ki kj ?_
 rw[kl x8]
 show wpAny _ _ (seqItems? (.ref S) >>= _) _ _ s
 refine j6 (x6 hS rfl ?_)
 refine j6 (xp ?_)
 have hlt:0<its.toArray.size:=by rw[jl];omega
 have hx:its.toArray[0]? =some its.toArray[0]:=Array.getElem?_eq_getElem hlt
 generalize its.toArray[0]=vi at hx
 obtain⟨x,ex,rx⟩:=qab rv hx
 refine kr st il (x:=vi) hx λh' st' sb=>?_
 have kI:∀b o,b≠I->s.heap.get? b=some o->h'.get? b=some o:=λb o hb e=>(sb.2 b hb).trans e
 have hS2:=kI S _ SI hS
 have J2:J {s with heap:=h'}:=hJ.turn s h' hJs (λb o h1 _ e=>kI b o h1 e) (let ⟨o,e,_⟩:=st';⟨o,e⟩) ⟨_,hS2⟩
 show wpAny _ _ (Sem.tryCatch _ _ >>= _) _ _ {s with heap:=h'}
 refine j6 (xp (jr ?_))
 refine hk 0 x vi _ _ _ ex rx J2 λtv s3 J3 kk=>?_
 have hS3:=kk S _ (.inr rfl) hS2
 have st3:s3.heap.IsListIter I l (0+1):=q62 st' λo e=>kk I o (.inl rfl) e
 show wpAny _ _ (updateSeq S _ >>= _) _ _ s3
 refine j6 (km hS3 rfl ?_ (by simp[sizeLine_eq]) (by simp[sizeLine_eq]))
 refine j7 ⟨xr x8 _,?_⟩
 have hS4:=xo (Obj.mapSeq λ_=>#[vi,.int (kz 0) tv]) hS3 rfl
 have st4:(s3.heap.update S (Obj.mapSeq λ_=>#[vi,.int (kz 0) tv])).IsListIter I l (0+1):=q62 st3 λo e=>(xg s3.heap _ SI).trans e
 exact qbp hh lI SI Sl hk hJ hR (xs.length-1) 0 _ x vi tv _ (by omega) lt st4 ex rx hS4 (hJ.turn s3 _ J3 (λb o h1 h2 e=>(xg s3.heap _ (Ne.symm h2)).trans e) (let ⟨o,e,_⟩:=st4;⟨o,e⟩) ⟨_,hS4⟩)
theorem qd4(a d:Value):argsOk "min" ⟨[a],[(Str.ofString "key",d)]⟩:=by kernel_rfl
theorem qcw{s:Shared}{Q:Value->Shared->Prop}{E:Value->Shared->Prop}{its:List Value}(hh:A.in1.handled=none)(hl:s.heap.IsList l its.toArray)(lt:0<xs.length)(hk:KeyC prog w A.in1 (.ref f) s.heap.objs.size (s.heap.objs.size+1) xs kz J)(hJ:Betw s.heap.objs.size (s.heap.objs.size+1) l xs J Je)
   (j0:∀h',(∀b o,s.heap.get? b=some o->h'.get? b=some o)->(∃o,h'.get? s.heap.objs.size=some o)->(∃o,h'.get? (s.heap.objs.size+1)=some o)->J {s with heap:=h'}) (hQ:∀x v s',xs[argBest (q37 kz) (xs.length-1)]? =some x->RelV x v->Je s'->Q v s'):wpAny (model prog w) A (call (.builtin "min") [.ref l] [(Str.ofString "key",.ref f)]) Q E s:=by
 have lp:l<s.heap.objs.size:=by obtain⟨o,e,_⟩:=hl;exact j8 e
 refine kmk_tree F.kind_min F.plain_min F.entry_min (qd4 _ _) ?_
 show wpAny _ _ (Builtin.Builtins.bindParams "min" ["key","default"] 0 ⟨[],[(Str.ofString "key",.ref f)]⟩ >>= _) _ _ s
 refine j6 (wpAny_of_eq (show _=pure [some (.ref f),none]from by rfl) ?_)
 show wpAny _ _ (pure (Value.ref l) >>= _) _ _ s
 refine j6 (j7 ?_)
 dsimp only
 rw[show(toString "min"++toString ".loop")="min.loop" from by decide]
 refine j6 (kc hl ?_)
 refine j6 (jq ?_ (by first|exact Nat.zero_le _|(show(0:Nat)<=sizeLine;exact Nat.zero_le _)))
 refine j7 ⟨xr x8 _,?_⟩
 have push2:∀b o,s.heap.get? b=some o->((s.heap.push {cls:=.type "list_iterator",data:=.fields #[.ref l,.int 0 0]}).push {cls:=.type "list",data:=.seq #[]}).get? b=some o:=λb o e=>ja _ (ja _ e)
 have sz:(s.heap.push {cls:=.type "list_iterator",data:=.fields #[.ref l,.int 0 0]}).objs.size=s.heap.objs.size+1:=xk _ _
 have g1:((s.heap.push {cls:=.type "list_iterator",data:=.fields #[.ref l,.int 0 0]}).push {cls:=.type "list",data:=.seq #[]}).get? s.heap.objs.size=some {cls:=.type "list_iterator",data:=.fields #[.ref l,.int 0 0]}:=ja _ (je _ rfl)
 have g2:=je (s.heap.push {cls:=.type "list_iterator",data:=.fields #[.ref l,.int 0 0]}) (o:={cls:=.type "list",data:=.seq #[]}) rfl
 rw[sz]at g2
 dsimp only
 rw[sz]
 exact q9v hh (jh lp) (Nat.ne_of_gt (Nat.lt_succ_self _)) (Nat.ne_of_gt (Nat.lt_succ_of_lt lp)) hk hJ hQ lt (c:=0) ⟨_,g1,rfl,rfl⟩ g2 (j0 _ push2 ⟨_,g1⟩ ⟨_,g2⟩)
end
section
variable{X:Cx}{z4:List (Addr×Obj)}{σ:St}{H H3:Hp}{s s3:Shared}{P:Addr}{pos:Pos}{q:Str}{o:Obj}
theorem Inv.freeze(I:Inv X z4 σ H s)(hP:H P=some (.lam pos q))(eP:s.heap.get? P=some o):Inv X z4 σ (upd H P (.frz o (.lam pos q))) s:=by
 have ne:∀{b:Addr} {u:HO},H b=some u->u≠.lam pos q->b≠P:=λh n z=>by rw[z,hP]at h;exact n (jb h).symm
 have nn:∀{b:Addr},H b=none->upd H P (.frz o (.lam pos q)) b=none:=λh=>by rw[q05 (λz=>by rw[z,hP]at h;cases h)];exact h
 refine⟨I.ok,I.os,I.bare,⟨I.base.keep,I.base.slot,λb u e n hx=>nn (I.base.free b u e n hx),I.base.there,λb xs e=>?_,λb ob u e=>?_,λb ps e=>?_⟩,I.loc,I.cell,nn I.free,λx c h=>nn (I.freeC x c h),λp hp=>?_,λa u h=>?_,I.len⟩
 · have:=I.base.tups b xs e
   rw[q05 (ne this (λz=>nomatch z))]
   exact this
 · have:=I.base.frzs b ob u e
   rw[q05 (ne this (λz=>nomatch z))]
   exact this
 · obtain⟨more,this⟩:=I.base.tbls b ps e
   refine⟨more,?_⟩
   rw[q05 (ne this (λz=>nomatch z))]
   exact this
 · obtain⟨a1,a2,a3⟩:=I.pin p hp
   exact⟨a1,nn a2,a3⟩
 · have st:∀{a:Addr} {u:HO},ObjOk X.prog X.w H s.heap a u->ObjOk X.prog X.w (upd H P (.frz o (.lam pos q))) s.heap a u:=λx=>x.stay (λb u _ e=>e) (λb hb=>by rw[q05 (ne hb (λz=>nomatch z))];exact hb) λb xs hb=>by rw[q05 (ne hb (λz=>nomatch z))];exact hb
   by_cases z:a=P
   · subst z
     rw[q0a]at h
     cases h
     exact⟨eP,st (I.hok a _ hP)⟩
   · rw[q05 z]at h
     exact st (I.hok a u h)
theorem Inv.thaw(I:Inv X z4 σ H s)(hP:H P=some (.lam pos q))(J:Inv X z4 σ H3 s3)(h3:H3 P=some (.frz o (.lam pos q))):Inv X z4 σ (upd H3 P (.lam pos q)) s3:=by
 have ne:∀{b:Addr} {u:HO},H3 b=some u->u≠.frz o (.lam pos q)->b≠P:=λh n z=>by rw[z,h3]at h;exact n (jb h).symm
 have nn:∀{b:Addr},H3 b=none->upd H3 P (.lam pos q) b=none:=λh=>by rw[q05 (λz=>by rw[z,h3]at h;cases h)];exact h
 refine⟨J.ok,J.os,J.bare,⟨J.base.keep,J.base.slot,λb u e n hx=>nn (J.base.free b u e n hx),J.base.there,λb xs e=>?_,λb ob u e=>?_,λb ps e=>?_⟩,J.loc,J.cell,nn J.free,λx c h=>nn (J.freeC x c h),λp hp=>?_,λa u h=>?_,J.len⟩
 · have:=J.base.tups b xs e
   rw[q05 (ne this (λz=>nomatch z))]
   exact this
 · have this:=J.base.frzs b ob u e
   have nb:b≠P:=λz=>by
     have:=I.base.frzs b ob u e
     rw[z,hP]at this
     cases this
   rw[q05 nb]
   exact this
 · obtain⟨more,this⟩:=J.base.tbls b ps e
   refine⟨more,?_⟩
   rw[q05 (ne this (λz=>nomatch z))]
   exact this
 · obtain⟨a1,a2,a3⟩:=J.pin p hp
   exact⟨a1,nn a2,a3⟩
 · have st:∀{a:Addr} {u:HO},ObjOk X.prog X.w H3 s3.heap a u->ObjOk X.prog X.w (upd H3 P (.lam pos q)) s3.heap a u:=λx=>x.stay (λb u _ e=>e) (λb hb=>by rw[q05 (ne hb (λz=>nomatch z))];exact hb) λb xs hb=>by rw[q05 (ne hb (λz=>nomatch z))];exact hb
   by_cases z:a=P
   · subst z
     rw[q0a]at h
     cases h
     exact st (J.hok a _ h3).2
   · rw[q05 z]at h
     exact st (J.hok a u h)
theorem Inv.codeOf(J:Inv X z4 σ H3 s3){ps:Array Value}{c':Addr}(h3:H3 P=some (.frz {cls:=.none,data:=.fields ps} (.lam pos q)))(hf:codeAmong pos ps.toList=some (.ref c')):s3.heap.CodeRec (.ref c') q:=by
 obtain⟨e,ps2,e2,_,r⟩:=J.hok P _ h3
 rw[e]at e2
 cases e2
 rcases r with r|⟨c2,r1,_,r3⟩
 · rw[hf]at r;cases r
 · rw[hf]at r1
   cases r1
   exact r3
end
def qi7(P:Addr)(lp:Pos)(q:Str)(H H':Hp):Prop:=(∀a o,a≠P->H a=some o->H' a=some o)/\∃ob,H' P=some (.frz ob (.lam lp q))
def qij(K:PySem.W.Frag)(P:Addr)(lp:Pos)(q:Str)(ib:Nat)(te tb:TE):TE:=λσ H Q=>te σ H λv H1=>∃(l:Addr) (xs:List V) (vb:V) (kz:Nat->Int),[v]=[V.ref l]/\H1 P=some (.lam lp q)/\σ[ib]? =some (some vb)/\SqL K H1 l xs/\0<xs.length/\
 (∀(i:Nat) (x:V),xs[i]? =some x->∀H2,qi7 P lp q H1 H2->tb [some x,some vb] H2 λy H3=>y=.int (kz i)/\Same H2 H3)/\∀H3 x,Same H1 H3->xs[argBest (q37 kz) (xs.length-1)]? =some x->Q x H3
theorem SqL.keepX{K:PySem.W.Frag}{H H':Hp}{a:Addr}{xs:List V}(s:Same H H')(h:SqL K H a xs):SqL K H' a xs:=by
 rcases h with h|h
 · rcases h with h|⟨o,h⟩
   · exact .inl (.inl (s _ _ h))
   · exact .inl (.inr ⟨o,s _ _ h⟩)
 · exact .inr h
section
variable{X:Cx}{z4:List (Addr×Obj)}{σ:St}{H:Hp}{s:Shared}{I S:Addr}
theorem Inv.turn(J:Inv X z4 σ H s){h':Heap}(hI:H I=none)(hS:H S=none)(c1:X.s₀.heap.objs.size<=I/\I≠X.env.locals/\(∀x c,X.env.cells.lookup x=some c->c≠I)/\∀p∈X.pn++z4,p.1≠I)(c2:X.s₀.heap.objs.size<=S/\S≠X.env.locals/\(∀x c,X.env.cells.lookup x=some c->c≠S)/\∀p∈X.pn++z4,p.1≠S)
   (k:∀b o,b≠I->b≠S->s.heap.get? b=some o->h'.get? b=some o):Inv X z4 σ H {s with heap:=h'}:=by
 have nc:∀{b:Addr},b∉[I,S]->b≠I/\b≠S:=λh=>⟨λz=>h (by rw[z];simp),λz=>h (by rw[z];simp)⟩
 refine J.step (g':=s.gens) (d':=s.drawn) (t':=s.toks) (ch:=[I,S]) (λb hb=>?_) (λb o _ _ hb e _=>k b o (nc hb).1 (nc hb).2 e) (λb o _ _ hb e _=>⟨o.slots,k b o (nc hb).1 (nc hb).2 e⟩) (λb o _ _ n=>n) (λb o hb e=>⟨o,k b o (nc hb).1 (nc hb).2 e⟩) (λb xs h=>h) (λb o u h=>h) (λb ps h=>⟨#[],by rw[h];simp⟩) (λm hn=>?_) (λa o h=>?_) J.bare
 · rcases List.mem_cons.mp hb with rfl|hb
   · exact⟨.inr c1.1,c1.2⟩
   · rw[List.mem_singleton.mp hb];exact⟨.inr c2.1,c2.2⟩
 · obtain⟨o,es,ep,e,r⟩:=hn
   exact⟨o,es,ep,k _ _ c1.2.1.symm c2.2.1.symm e,r⟩
 · refine(J.hok a o h).stay (λb u hb e=>k b u ?_ ?_ e) (λb hb=>hb) λb xs hb=>hb
   · rcases hb with rfl|hb
     · exact λz=>by rw[z,hI]at h;cases h
     · exact λz=>by rw[z,hI]at hb;cases hb
   · rcases hb with rfl|hb
     · exact λz=>by rw[z,hS]at h;cases h
     · exact λz=>by rw[z,hS]at hb;cases hb
end
section
variable{X:Cx}{K:PySem.W.Frag}{e:Expr}{te tb:TE}{p kp pos lp:Pos}{params:Arguments}{body:Expr}{scope:Scope}{x y:Str}{cb c P:Addr}{ib k:Nat}
theorem qba(hK:X.K=K)(hc:X.calm=true)(hr:Room (k+2) X.A)(hg:Gl X "min")(hm:X.mg "min"=none)(ha:PE X e te)
   (hdef:defaultsOf params X.env=([],[])) (hcl:closureFor scope X.env=pure [(y,cb)]) (hcb:X.env.cells.lookup y=some cb) (hkb:X.env.kindOf y=some .cell) (hib:X.N[ib]? =some y) (hge0:X.env.globals=mainGlobals) (zy:X.env.code=.ref c) (C:∀h:Heap,X.K.In h->PySem.W.CodeHd h c P) (hbt:∀h:Heap,X.K.In h->h.BuiltinsAt X.mg P)
   (xy:x≠y) (sx:scope.names.lookup x=some .local) (sy:scope.names.lookup y=some .free) (sf:∀z,scope.names.lookup z=some .free->z=y) (hco:scope.isCoroutine=false) (hgen:scope.isGenerator=false) (zj:scope.kind=.function) (zb:∀z∈scope.names,z.2≠.cell)
   (j4:∀(pm cdv ctv v:Value),bindArgs (PySem.W.kla_fn "<lambda>" (X.env.qual++"<lambda>") params body scope [(y,cb)] pm cdv ctv) ⟨[v],[]⟩=pure [(x,v)])
   (zc:∀(f c':Addr) (A:Around) (outer:List Env) (s:Shared) (H:Hp),Room k (A.deeper (PySem.W.envX (X.env.qual++"<lambda>") scope s.heap.objs.size f (.ref c') [(y,cb)]))->PE (cxL X.prog X.w X.K X.mg X.base [x,y] (X.env.qual++"<lambda>") scope f (.ref c') [(y,cb)] A outer s H) body tb)
   (he:starEach [e] X.env=(false,eval e X.env)::starEach [] X.env:=by rfl)
   (h1:backTo pos (starEach [e] X.env)=(false,eval e X.env)::backTo pos (starEach [] X.env):=by rfl) (h2:(backTo pos (starEach [e] X.env)).any (·.1)=false:=by rfl)
   (h3:(backToKw pos (keywordEach [⟨some "key",.Lambda params body scope lp,kp⟩] X.env)).all (λx=>x.1.isSome)=true:=by rfl) (h4:(backToKw pos (keywordEach [⟨some "key",.Lambda params body scope lp,kp⟩] X.env)).any (λx=>x.1.isNone)=false:=by rfl)
   (h5:(backToKw pos (keywordEach [⟨some "key",.Lambda params body scope lp,kp⟩] X.env)).filterMap (·.1)=[Str.ofString "key"]:=by rfl):
   PE X (.Call (.Name "min" p) [e] [⟨some "key",.Lambda params body scope lp,kp⟩] pos) (qij K P lp (X.env.qual++"<lambda>") ib te tb):=by
 subst hK
 intro z4 s σ H Q I h
 refine ku (q50 I hg hm (u:=.builtin "min") (by rfl) ?_)
 refine callWith_kw (thn ((q01 ha q07 he) pos z4 s σ H (λvs H1=>∃(l:Addr) (xs:List V) (vb:V) (kz:Nat->Int),vs=[V.ref l]/\H1 P=some (.lam lp (X.env.qual++"<lambda>"))/\σ[ib]? =some (some vb)/\SqL X.K H1 l xs/\0<xs.length/\
   (∀(i:Nat) (x:V),xs[i]? =some x->∀H2,qi7 P lp (X.env.qual++"<lambda>") H1 H2->tb [some x,some vb] H2 λy H3=>y=.int (kz i)/\Same H2 H3)/\∀H3 x,Same H1 H3->xs[argBest (q37 kz) (xs.length-1)]? =some x->Q x H3) I h) λus s1 hh1=>?_) h1 h2 h3 h4
 obtain⟨vs,H1,I1,r1,l,xs,vb,kz,rfl,hP,hb,q1,l0,keys,fin⟩:=hh1
 obtain⟨u,rfl,ru⟩:=vals1 r1
 cases(show u=Value.ref l from ru)
 refine kws_cons (qe0 I1 hP hdef hcl hge0 zy (C _ I1.mod.kin) (hbt _ I1.mod.kin) λf c' ctv H2 s2 I2 sm new ef nf szf hcd hcH tab=>?_)
 refine kws_nil ?_
 rw[h5]
 show wpAny _ _ (call (.builtin "min") [.ref l] [(Str.ofString "key",.ref f)]) _ _ s2
 obtain⟨ps,eP,tOk,hf⟩:=tab
 have hP2:=sm _ _ hP
 have fL:f≠X.env.locals:=Nat.ne_of_gt (ji I1.lt szf)
 have ffs:f∉X.fs:=I1.nofs szf
 have fP:f≠P:=λz=>by rw[z,hP2]at nf;cases nf
 have I3:=(I2.freeze hP2 eP).pins_of (pins':=(f,_)::z4) λp hp=>by
   rcases List.mem_cons.mp hp with rfl|hp
   · exact⟨ef,by rw[q05 fP];exact nf,fL,ffs,λv=>by simp⟩
   · exact(I2.freeze hP2 eP).pin _ (jt _ hp)
 have q3:SqL X.K (upd H2 P (.frz {cls:=.none,data:=.fields ps} (.lam lp (X.env.qual++"<lambda>")))) l xs:=by
   rcases q1.keepX sm with q|q
   · rcases q with q|⟨o,q⟩
     · exact .inl (.inl (by rw[q05 (λz=>by rw[z,hP2]at q;cases q)];exact q))
     · exact .inl (.inr ⟨o,by rw[q05 (λz=>by rw[z,hP2]at q;cases q)];exact q⟩)
   · exact .inr q
 obtain⟨its,rv,pl,hz⟩:=I3.list q3
 have fr0:∀a,s2.heap.objs.size<=a->upd H2 P (.frz {cls:=.none,data:=.fields ps} (.lam lp (X.env.qual++"<lambda>"))) a=none:=λa ha=>I3.hok.fresh ha
 have hF:upd H2 P (.frz {cls:=.none,data:=.fields ps} (.lam lp (X.env.qual++"<lambda>"))) P=some (.frz {cls:=.none,data:=.fields ps} (.lam lp (X.env.qual++"<lambda>"))):=q0a
 have hU:∀a o,a≠P->H2 a=some o->upd H2 P (.frz {cls:=.none,data:=.fields ps} (.lam lp (X.env.qual++"<lambda>"))) a=some o:=λa o na h=>by rw[q05 na];exact h
 generalize upd H2 P (.frz {cls:=.none,data:=.fields ps} (.lam lp (X.env.qual++"<lambda>")))=HF at I3 q3 fr0 hF hU
 generalize hpins:((f,PySem.W.kla_obj "<lambda>" (X.env.qual++"<lambda>") params body scope [(y,cb)] ((X.mg "__name__").getD .none) c' ctv)::z4)=pins' at I3
 have inF:(f,PySem.W.kla_obj "<lambda>" (X.env.qual++"<lambda>") params body scope [(y,cb)] ((X.mg "__name__").getD .none) c' ctv)∈pins':=by rw[<-hpins];exact jf
 have cond:∀a,s2.heap.objs.size<=a->X.s₀.heap.objs.size<=a/\a≠X.env.locals/\(∀x c,X.env.cells.lookup x=some c->c≠a)/\∀p∈X.pn++pins',p.1≠a:=λa ha=>
   ⟨jy I3.sz ha,Nat.ne_of_gt (ji I3.lt ha),λx c h=>(by obtain⟨v,o,eo,_⟩:=I3.cell x c h;exact jh (ji (j8 eo) ha)),λp hp=>jh (ji (j8 (I3.pin p hp).1) ha)⟩
 have c1:=cond _ (jc _)
 have c2:=cond _ (Nat.le_succ _)
 have hh:X.A.in1.handled=none:=I2.ok.hd hc
 have nfs:∀a,s2.heap.objs.size<=a->a∉frs X.stack:=λa ha z=>by
   rcases List.mem_cons.mp (I3.stkSub a z)with q|q
   · exact(cond a ha).2.1 q
   · exact I3.nofs ha q
 refine qcw (kz:=kz) (J:=λs3=>∃H3,Inv X pins' σ H3 s3/\Same HF H3/\H3 s2.heap.objs.size=none/\H3 (s2.heap.objs.size+1)=none/\(∃o,s3.heap.get? s2.heap.objs.size=some o)/\∃o,s3.heap.get? (s2.heap.objs.size+1)=some o)
   (Je:=λs3=>∃H3,Inv X pins' σ H3 s3/\Same HF H3) hh pl.isList l0 (λi xv vi s3 Q3 E3 exv rxv hJ cont=>?_) ⟨λs3 hJ=>?_,λs3 h' hJ kp e1 e2=>?_,λs3 h' hJ kp=>?_⟩ (λh' kp e1 e2=>?_) λxv v s4 exv rxv hJ=>?_
 · obtain⟨H3,J3,sm3,nI,nS,⟨oI,eI⟩,oS,eS⟩:=hJ
   obtain⟨m,hn,hl'⟩:=J3.loc
   obtain⟨ub,rb,lb⟩:=hl' ib y vb hib hb (.inr (.inl hkb))
   obtain⟨cz,ez,zz⟩:∃c0,X.env.cells.lookup y=some c0/\s3.heap.IsCell c0 (some ub):=by
     rcases lb with⟨q,_⟩|⟨_,q⟩
     · rw[hkb]at q;cases q
     · exact q
   rw[hcb]at ez
   cases ez
   have one:∀{z:Str} {d:Addr},([(y,cb)]:List (Str×Addr)).lookup z=some d->z=y/\d=cb:=λ{z d} hz=>by
     simp only[List.lookup]at hz
     split at hz
     · rename_i q
       exact⟨by simpa using q,(jb hz).symm⟩
     · cases hz
   have self:([(y,cb)]:List (Str×Addr)).lookup y=some cb:=by simp[List.lookup]
   have hold:Holds [(y,cb)] scope H3 s3.heap:=⟨λz hz=>⟨cb,by rw[sf z hz];exact self⟩,λz z' d h1 h2=>(one h1).1.trans (one h2).1.symm,λz d hz=>⟨some ub,by rw[(one hz).2];exact zz⟩,λz d hz=>by rw[(one hz).2];exact J3.freeC y cb hcb⟩
   have ho:=(J3.pin _ (jt _ inF)).1
   have hcd3:s3.heap.CodeRec (.ref c') (X.env.qual++"<lambda>"):=J3.codeOf (sm3 _ _ hF) hf
   have room:Room k (X.A.in1.deeper (PySem.W.envX (X.env.qual++"<lambda>") scope s3.heap.objs.size f (.ref c') [(y,cb)])):=(hr.in1).deeper _
   have dep:X.A.in1.depth<recursionLimit:=by have:=hr.dp;show X.A.depth<_;omega
   have sx2:qi7 P lp (X.env.qual++"<lambda>") H1 H3:=⟨λa o na h=>sm3 _ _ (hU _ _ na (sm _ _ h)),_,sm3 _ _ hF⟩
   refine wpAny_call (codeAny_mono (qdz (K:=X.K) (mg:=X.mg) (base:=X.base) (N:=[x,y]) (σ:=[some xv,some vb]) (binds:=[(x,vi)]) (outer:=X.stack) (Q:=λy H4=>y=.int (kz i)/\Same H3 H4) (E:=E0) hco hgen zj zb (λz hz=>by rw[List.mem_singleton.mp hz];exact sx) ho hcd3 (j4 _ _ _ _) hold dep hh J3.env0.in1 (λj z v hj hv=>?_) rfl (zc f c' X.A.in1 X.stack s3 H3 room) (keys i xv exv H3 sx2)) λr s4 hq=>?_)
   · match j,hj,hv with
     | 0,hj,hv=>
       cases hj
       cases hv
       exact⟨vi,rxv,.inl ⟨sx,by simp⟩⟩
     | 1,hj,hv=>
       cases hj
       cases hv
       exact⟨ub,rb,.inr ⟨sy,cb,self,zz⟩⟩
     |j+2,hj,hv=>cases hj
   · cases r with
     |error e=>exact hq.elim
     | ok fl=>
       cases fl with
       | ret u=>
         obtain⟨v0,H4,os,bare,un,hok,rv0,rfl,sm4⟩:=hq
         obtain⟨tv,rfl⟩:=rv0
         obtain⟨hp4,g4,d4,t4,os4⟩:=s4
         obtain rfl:os4=s3.os:=os
         have J4:Inv X pins' σ H4 {heap:=hp4,gens:=g4,drawn:=d4,toks:=t4,os:=s3.os}:=J3.call (ch:=[]) un hok bare λ_ z=>nomatch z
         have kI:=un.keep _ _ eI nI (nfs _ (jc _)) (by simp)
         have kS:=un.keep _ _ eS nS (nfs _ (Nat.le_succ _)) (by simp)
         refine cont tv _ ⟨H4,J4,sm3.trans sm4,un.free _ _ eI nI (by simp),un.free _ _ eS nS (by simp),⟨_,kI⟩,_,kS⟩ λb o hb e=>?_
         rcases hb with rfl|rfl
         · exact un.keep _ _ e nI (nfs _ (jc _)) (by simp)
         · exact un.keep _ _ e nS (nfs _ (Nat.le_succ _)) (by simp)
       |next=>exact hq.elim
       |brk=>exact hq.elim
       |cont=>exact hq.elim
 · obtain⟨H3,J3,sm3,_⟩:=hJ
   obtain⟨its3,rv3,pl3,_⟩:=J3.list (q3.keepX sm3)
   exact⟨its3,rv3,pl3.isList⟩
 · obtain⟨H3,J3,sm3,nI,nS,_⟩:=hJ
   exact⟨H3,J3.turn nI nS c1 c2 kp,sm3,nI,nS,e1,e2⟩
 · obtain⟨H3,J3,sm3,nI,nS,_⟩:=hJ
   exact⟨H3,J3.turn nI nS c1 c2 kp,sm3⟩
 · exact⟨_,I3.turn (fr0 _ (jc _)) (fr0 _ (Nat.le_succ _)) c1 c2 λb o _ _ e=>kp b o e,Same.refl _,fr0 _ (jc _),fr0 _ (Nat.le_succ _),e1,e2⟩
 · obtain⟨H3,J3,sm3⟩:=hJ
   have J5:=J3.pins_of (pins':=z4) λp hp=>J3.pin p (jt _ (by rw[<-hpins];exact jj _ hp))
   have J6:=I2.thaw hP2 J5 (sm3 _ _ hF)
   refine⟨xv,_,J6,rxv,fin _ xv (λa o h=>?_) exv⟩
   have h2:=sm _ _ h
   by_cases z:a=P
   · subst z
     rw[hP2]at h2
     rw[q0a,h2]
   · rw[q05 z]
     exact sm3 _ _ (hU _ _ z h2)
end
mutual
def q1r:D->Bool
 |.non=>true
 |.bl _=>true
 |.int _=>true
 |.str _=>true
 |.lst xs=>noTabs xs
 |.tup xs=>noTabs xs
 |.obj _ fs=>q8z fs
 |.dct kvs=>q8y kvs
 |.dit kvs=>q4w kvs
 |.exc _=>true
 |.fn _=>true
 |.tab _ _ _=>false
def noTabs:List D->Bool
 |[]=>true
 |d::r=>q1r d&&noTabs r
def q8z:List (Str×D)->Bool
 |[]=>true
 |d::r=>q1r d.2&&q8z r
def q8y:List (Key×D)->Bool
 |[]=>true
 |d::r=>q1r d.2&&q8y r
def q4w:List (List Key×D)->Bool
 |[]=>true
 |d::r=>q1r d.2&&q4w r
end
section
variable{K:PySem.W.Frag}{R R2:Hp}
theorem SqL.carry(g:∀a o,(∀p q,o≠.lam p q)->R a=some o->R2 a=some o){a:Addr}{xs:List V}(q:SqL K R a xs):SqL K R2 a xs:=by
 rcases q with(q|⟨o,q⟩)|q
 · exact .inl (.inl (g _ _ (λ_ _ z=>nomatch z) q))
 · exact .inl (.inr ⟨o,g _ _ (λ_ _ z=>nomatch z) q⟩)
 · exact .inr q
theorem Rp.carry(g:∀a o,(∀p q,o≠.lam p q)->R a=some o->R2 a=some o){v:V}{d:D}(h:Rp K R v d):q1r d=true->Rp K R2 v d:=by
 refine Rp.rec (motive_1:=λv d _=>q1r d=true->Rp K R2 v d) (motive_2:=λxs ds _=>noTabs ds=true->Rps K R2 xs ds) (motive_3:=λxs ds _=>q8z ds=true->Rfs K R2 xs ds) (motive_4:=λxs ds _=>q8y ds=true->Rkk K R2 xs ds) (motive_5:=λxs ds _=>q4w ds=true->Rkt K R2 xs ds)
   ?_ ?_ ?_ ?_ ?_ ?_ ?_ ?_ ?_ ?_ ?_ ?_ ?_ ?_ ?_ ?_ ?_ ?_ ?_ ?_ h
 · intro _;exact .non
 · intro b _;exact .bl b
 · intro i _;exact .int i
 · intro x _;exact .str x
 · intro a xs ds h _ r e
   rw[q1r]at e
   exact .lst (h.carry g) (r e)
 · intro a xs ds h _ r e
   rw[q1r]at e
   exact .tup (g _ _ (by intro p q z;cases z) h) (r e)
 · intro a C dx x fs gs n h _ r e
   rw[q1r]at e
   exact .obj n (g _ _ (by intro p q z;cases z) h) (r e)
 · intro a kvs gs h _ r e
   rw[q1r]at e
   exact .dct (g _ _ (by intro p q z;cases z) h) (r e)
 · intro a kvs gs h _ r e
   rw[q1r]at e
   exact .dit (g _ _ (by intro p q z;cases z) h) (r e)
 · intro a C x n k h _
   exact .exc n k (g _ _ (by intro p q z;cases z) h)
 · intro l x n _;exact .fn n
 · intro P pos q h e
   rw[q1r]at e
   cases e
 · intro _;exact .nil
 · intro x xs d ds _ _ h r e
   rw[noTabs,Bool.and_eq_true]at e
   exact .cons (h e.1) (r e.2)
 · intro _;exact .nil
 · intro f x xs d ds _ _ h r e
   rw[q8z,Bool.and_eq_true]at e
   exact .cons (h e.1) (r e.2)
 · intro _;exact .nil
 · intro f x xs d ds _ _ h r e
   rw[q8y,Bool.and_eq_true]at e
   exact .cons (h e.1) (r e.2)
 · intro _;exact .nil
 · intro f x xs d ds _ _ h r e
   rw[q4w,Bool.and_eq_true]at e
   exact .cons (h e.1) (r e.2)
theorem q5g:∀{ds:List D} {i:Nat} {d:D},noTabs ds=true->ds[i]? =some d->q1r d=true
 |[],_,_,_,h=>by cases h
 | x::r,0,d,e,h=>by
   simp only[noTabs,Bool.and_eq_true]at e
   cases h
   exact e.1
 | x::r,i+1,d,e,h=>by
   simp only[noTabs,Bool.and_eq_true]at e
   exact q5g (i:=i) e.2 h
end
def q83(f:List D->Option D)(b:D):List D->Option (List Int)
 |[]=>some []
 | d::r=>match f [d,b],q83 f b r with
   |some (.int k),some ks=>some (k::ks)
   |_,_=>none
theorem q75{f:List D->Option D}{b:D}:∀{ds:List D} {ks:List Int} {i:Nat} {d:D},q83 f b ds=some ks->ds[i]? =some d->f [d,b]=some (.int (ks.getD i 0))
 |[],_,_,_,_,h=>by cases h
 | x::r,ks,i,d,e,h=>by
   unfold q83 at e
   split at e
   · rename_i k ks' e1 e2
     cases e
     cases i with
     |zero=>cases h;exact e1
     |succ i=>exact q75 (i:=i) e2 h
   · cases e
def qa3(f:List D->Option D)(ds:List D):Option D:=match ds with
 | [.lst xs,b]=>if noTabs xs=true/\q1r b=true/\0<xs.length then(match q83 f b xs with
   |some ks=>xs[argBest (q37 λi=>ks.getD i 0) (xs.length-1)]?
   |none=>none)else none
 |_=>none
def spPL(K:PySem.W.Frag)(P:Addr)(lp:Pos)(q:Str)(n:Nat)(f:List D->Option D):Sp:=λvs H Q _=>vs.length=n/\∃R ds d,(∀a o,R a=some o->H a=some o)/\R P=some (.lam lp q)/\Rps K R vs ds/\f ds=some d/\∀v H' R',Ext H R H' R'->Rp K R' v d->Q v H'
theorem qaq{K:PySem.W.Frag}{P:Addr}{lp:Pos}{q:Str}{f:List D->Option D}{Nms:List Str}{vs:List V}{H:Hp}{Q:VK}{E E1:XK}(hN:Nms.length=2)(hf:q1s 2 f)(h:spPL K P lp q 2 (qa3 f) vs H Q E):
   (tRet (qij K P lp q 1 (tVar 0) (q4e (spP K false 2 f) [] E1 (q23 (tVar 0) (q23 (tVar 1) tNil))))) {nx:=λ_ H'=>Q .non H',rt:=Q} (start Nms vs) H:=by
 obtain⟨hn,R,ds,d,sub,rP,r,e,k⟩:=h
 unfold qa3 at e
 split at e
 · rename_i xs b
   split at e
   · rename_i z
     obtain⟨z1,z2,z3⟩:=z
     cases e1:q83 f b xs with
     |none=>rw[e1]at e;cases e
     | some ks=>
       rw[e1]at e
       cases r with
       | cons r0 r=>
         cases r with
         | cons rb r=>
           cases r
           cases r0 with
           | lst hq rs=>
             rename_i v1 a vxs
             have es:start Nms [V.ref a,v1]=[some (.ref a),some v1]:=by
               unfold start
               show [some (V.ref a),some v1]++List.replicate (Nms.length-2) none=_
               rw[hN]
               rfl
             rw[es]
             have hqH:SqL K H a vxs:=hq.keepX sub
             have ln:=rs.length
             refine⟨.ref a,rfl,a,vxs,v1,λi=>ks.getD i 0,rfl,sub _ _ rP,rfl,hqH,by rw[ln];exact z3,λi x hx H2 hs=>?_,λH3 x sm hx=>?_⟩
             · obtain⟨s1,ob,hob⟩:=hs
               have hi:i<xs.length:=by rw[<-ln];exact(List.getElem?_eq_some_iff.mp hx).1
               have rx:Rp K R x xs[i]:=by
                 obtain⟨w,ew,rw'⟩:=rs.get (jw hi)
                 rw[hx]at ew
                 cases ew
                 exact rw'
               have g:∀a o,(∀p q,o≠.lam p q)->R a=some o->upd R P (.frz ob (.lam lp q)) a=some o:=λa o n h=>by
                 rw[q05 (λz=>by rw[z,rP]at h;exact n _ _ (jb h).symm)]
                 exact h
               refine⟨x,rfl,v1,rfl,rfl,upd R P (.frz ob (.lam lp q)),[xs[i],b],.int (ks.getD i 0),λa o h=>?_,.cons (rx.carry g (q5g z1 (jw hi))) (.cons (rb.carry g z2) .nil),q75 e1 (jw hi),λv H' R' ext res=>?_⟩
               · by_cases z:a=P
                 · subst z
                   rw[q0a]at h
                   cases h
                   exact hob
                 · rw[q05 z]at h
                   exact s1 _ _ z (sub _ _ h)
               · cases res
                 exact⟨rfl,ext.h⟩
             · obtain⟨w,ew,rw'⟩:=rs.get e
               rw[ln]at hx
               rw[hx]at ew
               cases ew
               exact k x H3 R ⟨sm,Same.refl _,λa o h=>sm _ _ (sub _ _ h),λ_ h=>.inl h⟩ rw'
   · cases e
 · cases e
def q29(j:Nat)(P:Addr)(lp:Pos)(q:Str)(f:List D->Option D)(fs:RhL):RhD:=λρ=>match fs ρ with
 | some (ds,ρ1)=>(match ρ1[j]? with
   |some (some (.tab P' lp' q'))=>if P'=P/\lp'=lp/\q'=q then(f ds).map λd=>(d,ρ1)else none
   |_=>none)
 |none=>none
theorem qbv{K:PySem.W.Frag}{O:List Nat}{P:Addr}{lp:Pos}{q:Str}{n j:Nat}{f:List D->Option D}{tr:TA}{fs:RhL}{E:XK}(hj:j∉O)(hf:q1s n f)(h:MA K O tr fs):ME K O (q4e (spPL K P lp q n f) [] E tr) (q29 j P lp q f fs):=λZ σ H R ρ d ρ' Q S e k=>by
 unfold q29 at e
 split at e
 · rename_i ds ρ1 e1
   split at e
   · rename_i P' lp' q' e2
     split at e
     · rename_i z
       obtain⟨rfl,rfl,rfl⟩:=z
       cases e3:f ds with
       |none=>rw[e3]at e;cases e
       | some d'=>
         rw[e3]at e
         cases e
         refine h Z σ H R ρ ds _ _ S e1 λvs H1 R1 S1 st1 r1=>?_
         show spPL K P' lp' q' n f (vs++[]) H1 Q E
         rw[List.append_nil]
         obtain⟨v,_,rt⟩:=S1.env j _ hj e2
         cases rt with
         |tab hP=>exact⟨by rw[r1.length];exact hf ds d e3,R1,ds,d,S1.sub,hP,r1,e3,λv H2 R2 x q=>k v H2 R2 (S1.ext x) (st1.trans x.stp) q⟩
     · cases e
   · cases e
 · cases e
theorem Inv.phantom{X:Cx}{z4:List (Addr×Obj)}{σ:St}{H:Hp}{s:Shared}(I:Inv X z4 σ H s){j:Nat}{z:Str}{v:V}(hN:X.N[j]? =some z)(hz:¬Vis X.env.scope z):Inv X z4 (σ.set j (some v)) H s:=by
 obtain⟨m,hn,hl⟩:=I.loc
 refine⟨I.ok,I.os,I.bare,I.base,⟨m,hn,λi x u h1 h2 h3=>?_⟩,I.cell,I.free,I.freeC,I.pin,I.hok,by rw[x4];exact I.len⟩
 by_cases q:j=i
 · subst q
   rw[hN]at h1
   cases h1
   exact absurd h3 hz
 · rw[jd q]at h2
   exact hl i x u h1 h2 h3
theorem Fun.okT{P:Program}{w:World}{K:PySem.W.Frag}{mg:Str->Option Value}{base:Heap}{x qual:Str}{st:Stmt}{f:Addr}{fd:FuncData}{N ps:List Str}{k j:Nat}{z:Str}{sp:Sp}{u:V}(F:Fun K x qual st f fd)(S:q0s N ps (q04 st))(hz:N[j]? =some z)(nv:¬Vis (q04 st) z)(len:∀vs H Q E,sp vs H Q E->vs.length=ps.length)
   (zc:∀(cdv:Value) (A:Around) (outer:List Env) (s:Shared) (H:Hp) (vs:List V) (Q:VK) (E:XK),Room k (A.deeper (envOfC qual (q04 st) s.heap.objs.size f cdv))->sp vs H Q E->
     ∃t,PSs (cxOf CX0 P w K mg base N qual (q04 st) f cdv A outer s H E).nox (q0p st) t/\t {nx:=λ_ H'=>Q .non H',rt:=Q} ((start N vs).set j (some u)) H):FnOk P w K mg base CX0 (k+1) f fd ps sp:=by
 refine F.ok S len λcdv A outer s H vs Q E hr hsp=>?_
 obtain⟨t,ht,hq⟩:=zc cdv A outer s H vs Q E hr hsp
 refine⟨λD σ H=>t D (σ.set j (some u)) H,λz4 s1 σ H1 D I h=>?_,hq⟩
 exact ht z4 s1 _ H1 D (I.phantom hz nv) h
theorem Fun.okL{P:Program}{w:World}{K:PySem.W.Frag}{mg:Str->Option Value}{base:Heap}{x qual:Str}{st:Stmt}{f:Addr}{fd:FuncData}{N ps:List Str}{k:Nat}{sp:Sp}(F:Fun K x qual st f fd)(S:q0s N ps (q04 st))(len:∀vs H Q E,sp vs H Q E->vs.length=ps.length)
   (zc:∀(A:Around) (outer:List Env) (s:Shared) (H:Hp) (vs:List V) (Q:VK) (E:XK),Room k (A.deeper (envOfC qual (q04 st) s.heap.objs.size f fd.code))->sp vs H Q E->
     ∃t,PSs (cxOf CX0 P w K mg base N qual (q04 st) f fd.code A outer s H E).nox (q0p st) t/\t {nx:=λ_ H'=>Q .non H',rt:=Q} (start N vs) H):FnOk P w K mg base CX0 (k+1) f fd ps sp:=by
 obtain⟨oc,od,kV,doc,pm,an,cdv,ct,osl,rfl,lk,hcd⟩:=F.ex
 refine qky lk hcd S len λA outer s H vs Q E hr hsp=>?_
 obtain⟨t,h,q⟩:=zc A outer s H vs Q E hr hsp
 exact⟨t,h.nox,q⟩
def qb0(fr:Bool)(n N j:Nat)(d:D)(f:RhO)(ds:List D):Option D:=if ds.length=n/\n<=j then match f ((ds.map some++List.replicate (N-n) none).set j (some d))with
   |some (.rt d _)=>some d
   |some (.nx _)=>if fr=true then none else some .non
   |_=>none
 else none
theorem qam{K:PySem.W.Frag}{P:Addr}{lp:Pos}{q:Str}{n j:Nat}{Nms:List Str}{O':List Nat}{t:TS}{f:RhO}{vs:List V}{H:Hp}{Q:VK}{E:XK}(hj:j<Nms.length)(hm:MS ⟨K,false,[],[]⟩ [] O' t f)(h:spPL K P lp q n (qb0 false n Nms.length j (.tab P lp q) f) vs H Q E):t {nx:=λ_ H'=>Q .non H',rt:=Q} ((start Nms vs).set j (some (.ref P))) H:=by
 obtain⟨hn,R,ds,d,sub,rP,r,e,k⟩:=h
 unfold qb0 at e
 split at e
 · rename_i hl
   obtain⟨hl,hjn⟩:=hl
   have S0:StR K ⟨H,R,λ_=>False,[]⟩ [] (start Nms vs) H R (ds.map some++List.replicate (Nms.length-n) none):=by
     refine⟨sub,?_,λi d _ q=>?_,λi hi=>(nomatch hi),λi j hi=>(nomatch hi),λa o q _=>q,Same.refl _,λa q=>.inl q,λa q=>.refl q,λi hi=>(nomatch hi),λi hi=>(nomatch hi)⟩
     · unfold start
       rw[jm,jm,j9,j9,xj,xj,hn,hl]
     · obtain⟨v,h1,h2⟩:=r.get (q3n q)
       exact⟨v,q3m h1,h2⟩
   have S:=S0.set (i:=j) (v:=.ref P) (d:=.tab P lp q) (λh=>nomatch h) (.tab rP)
   have ext:∀{O1:List Nat} {σ':St} {H' R':Hp} {ρ':Rho},StR K ⟨H,R,λ_=>False,[]⟩ O1 σ' H' R' ρ'->Ext H R H' R':=λS'=>⟨λa o q=>S'.ah a o q (λz=>z),S'.ar,S'.sub,S'.an⟩
   cases e1:f ((ds.map some++List.replicate (Nms.length-n) none).set j (some (.tab P lp q)))with
   |none=>rw[e1]at e;cases e
   | some o=>
     rw[e1]at e
     refine hm _ _ _ _ _ _ o rfl S e1 ?_
     cases o with
     | nx ρ'=>
       dsimp only at e
       rw[if_neg (by decide)]at e
       cases e
       exact λσ' H' R' S' _=>k .non H' R' (ext S') .non
     |bk ρ'=>cases e
     |ct ρ'=>cases e
     | rt d' ρ'=>
       cases e
       exact λv σ' H' R' S' q=>k v H' R' (ext S') q
 · cases e
theorem q7c{K:PySem.W.Frag}{c P:Addr}{o:Obj}{vs:Array Value}{file:Str}{tf:Tok}{flags:Int}{tg:Tok}{inF:Bool}{text:Int}{tt:Tok}(h:K.lookup c=some o)(h1:o.cls=.type "code")(h2:o.data=.fields vs)(h3:vs[11]? =some (.ref P))(h4:vs.getD 11 .none=.ref P)(h5:vs.getD 18 .none=.str file tf)(h6:vs.getD 7 .none=.int flags tg)(h7:vs.getD 9 .none=.bool inF)(h8:vs.getD 10 .none=.int text tt)(h9:c≠P):∀h:Heap,K.In h->PySem.W.CodeHd h c P:=
 λ_ X=>⟨o,vs,file,tf,flags,tg,inF,text,tt,X _ _ h,h1,h2,h3,h4,h5,h6,h7,h8,h9⟩
theorem q69{K:PySem.W.Frag}{mg:Str->Option Value}{P bm:Addr}(hm:mg "__builtins__"=some (.ref bm))(h:K.lookup bm=some {cls:=.type "module",dict:=some builtinsNs,data:=.plain})(n1:bm≠builtinsNs)(n2:bm≠mainGlobals)(n3:bm≠P):∀h:Heap,K.In h->h.BuiltinsAt mg P:=
 λ_ X=>⟨bm,_,hm,n1,n2,n3,X _ _ h,rfl,rfl,rfl⟩
def q8j(K:PySem.W.Frag)(P:Addr)(lp:Pos)(q:Str)(n:Nat):Sp:=λvs H Q _=>∃(b:Addr) (ns:List Int),vs=[.ref b]/\SqL K H b (ns.map V.int)/\ns.length<=n/\H P=some (.lam lp q)/\∀H',H' P=some (.lam lp q)->Q (.bl true) H'
theorem qgw{P:Program}{w:World}{K:PySem.W.Frag}{mg:Str->Option Value}{base:Heap}{CX:CXT}{k n:Nat}{fa:Addr}{fd:FuncData}{x:Str}{P0:Addr}{lp:Pos}{q:Str}{f:List D->Option D}(F:FnOk P w K mg base CX k fa fd [x] (spPL K P0 lp q 1 f))(h:∀ns:List Int,ns.length<=n->f [.lst (ns.map D.int)]=some (.bl true)):FnOk P w K mg base CX k fa fd [x] (q8j K P0 lp q n):=
 F.imp λvs H Q E h0=>by
   obtain⟨b,ns,rfl,hb,hl,hP,k⟩:=h0
   refine⟨rfl,H,[.lst (ns.map D.int)],.bl true,λ_ _ e=>e,hP,.cons (.lst hb (Rps.ints ns)) .nil,h ns hl,λv H' R' x r=>?_⟩
   have r':Rp K R' v (.bl true):=r
   cases r'
   exact k H' (x.s _ _ (x.r _ _ hP))
theorem qc2{P:Program}{w:World}{K:PySem.W.Frag}{mg mb:Str->Option Value}{k n:Nat}{fa a c P0:Addr}{lp:Pos}{q:Str}{fd:FuncData}{x:Str}{s₁:Shared}{vs:List Value}{ns:List Int}
   (KX:K.In s₁.heap) (hns:s₁.heap.Ns mainGlobals mg) (hb:s₁.heap.Ns builtinsNs mb) (hbb:∀x:Str,x≠"__name__"->mb x=bootBuiltins x) (hlim:s₁.heap.NoLimit) (hg:s₁.gens=#[])
   (ha:s₁.heap.get? a=some {cls:=.type "list",data:=.seq vs.toArray}) (hi:IntsAre vs ns) (hl:ns.length<=sizeLine) (hn:ns.length<=n) (hr:Room k callerA)
   (hP:s₁.heap.get? P0=some {cls:=.none,data:=.fields #[]}) (hKP:K.lookup P0=none) (hcd:PySem.W.CodeHd s₁.heap c P0)
   (F:∀base:Heap,K.In base->base.Ns mainGlobals mg->FnOk P w K mg base CX0 k fa fd [x] (q8j K P0 lp q n)) (j4:∀(s:Shared) (u:Value),BindsTo s fd ⟨[u],[]⟩ [(x,u)]):
   codeAny (model P w) callerA (.call (.ref fa) ⟨[.ref a],[]⟩) (λr s'=>r=.ok (.ret (.bool true))/\OldK s₁.heap s'.heap/\s'.os=s₁.os/\AllBare s'.gens) s₁:=by
 have rv:=q6c hi
 have lenV:=hi.length
 have naP:a≠P0:=λz=>by rw[z,hP]at ha;cases ha
 have core:∀H:Hp,(∀b,H b=none∨(b=P0/\H b=some (.lam lp q))∨∃o xs,H b=some (.frz o (.lst xs)))->H P0=some (.lam lp q)->SqL K H a (ns.map V.int)->HOk P w H s₁.heap->(∀b,H b≠none->b=a∨b=P0)->(H a≠none->K.lookup a=none)->
     codeAny (model P w) callerA (.call (.ref fa) ⟨[.ref a],[]⟩) (λr s'=>r=.ok (.ret (.bool true))/\OldK s₁.heap s'.heap/\s'.os=s₁.os/\AllBare s'.gens) s₁:=by
   intro H hO hH hS hok hA hK
   have base_of:∀{b:Addr} {o:Obj},s₁.heap.get? b=some o->H b=none->(hidT s₁.heap H).get? b=some o:=λe n=>qea e n
   have noA:∀{b:Addr} {o:Obj} {es:Array DictEntry} {ep:Nat},s₁.heap.get? b=some o->o.data=.dict es ep->H b=none:=λ{b o es ep} e d=>by
     cases z:H b with
     |none=>rfl
     | some u=>
       rcases hA b (by rw[z];simp)with e'|e'
       · subst e'
         rw[ha]at e;cases e
         have d':Data.seq vs.toArray _=Data.dict es ep:=d
         cases d'
       · subst e'
         rw[hP]at e;cases e
         have d':Data.fields _=Data.dict es ep:=d
         cases d'
   have nsK:∀{b:Addr} {m:Str->Option Value},s₁.heap.Ns b m->(hidT s₁.heap H).Ns b m:=λ{b m} ⟨o,es,ep,e,d,r⟩=>⟨o,es,ep,base_of e (noA e d),d,r⟩
   have hKb:K.In (hidT s₁.heap H):=λb o e=>base_of (KX b o e) (by
     cases z:H b with
     |none=>rfl
     | some u=>
       rcases hA b (by rw[z];simp)with e'|e'
       · subst e'
         rw[hK (by rw[z];simp)]at e;cases e
       · subst e'
         rw[hKP]at e;cases e)
   have hM:Mod K mg (hidT s₁.heap H):=⟨hKb,nsK hns,⟨mb,nsK hb,hbb⟩,let ⟨mc,h1,h2⟩:=hlim;⟨mc,nsK h1,h2⟩⟩
   have e0:Env0 P w K mg (hidT s₁.heap H) callerA [] s₁ H:=⟨rfl,hM,λb o e=>qgj e,Nat.le_of_eq (qce _ _),trivial,λb hb=>absurd (show b∈([]:List Addr)from hb) (by simp),hok,.of_eq hg⟩
   refine codeAny_mono ((F _ hKb (nsK hns)).run callerA [] s₁ H ⟨[.ref a],[]⟩ [.ref a] [.ref a] (λv H'=>v=.bl true/\H' P0=some (.lam lp q)) (λ_ _ _=>False) hr e0 (j4 s₁ (.ref a)) (.cons rfl .nil) ⟨a,ns,rfl,hS,hn,hH,λH' h=>⟨rfl,h⟩⟩) λr s' h=>?_
   cases r with
   |error e=>exact h.elim
   | ok fl=>
     cases fl with
     |next=>exact False.elim h
     |brk=>exact False.elim h
     |cont=>exact False.elim h
     | ret u=>
       obtain⟨v,H',os,bare,un,hok',r',q',hP'⟩:=h
       subst q'
       obtain rfl:u=Value.bool true:=r'
       have keep:∀b o,b≠P0->s₁.heap.get? b=some o->s'.heap.get? b=some o:=λb o nb e=>by
         cases z:H b with
         |none=>exact un.keep b o e z (by intro z;exact absurd (show b∈([]:List Addr)from z) (by simp)) (by simp)
         | some u=>
           rcases hO b with z2|⟨z2,_⟩|⟨ob,xs,z2⟩
           · rw[z]at z2;cases z2
           · exact absurd z2 nb
           · have z3:=un.frzs b ob _ z2
             obtain⟨e1,_⟩:=hok b _ z2
             obtain⟨e2,_⟩:=hok' b _ z3
             rw[e]at e1;cases e1
             exact e2
       obtain⟨ps,e1,_⟩:=hok' P0 _ hP'
       refine⟨rfl,⟨λb o e=>?_,λb o e=>?_⟩,os,bare⟩
       · by_cases z:b=P0
         · subst z
           rw[hP]at e
           cases e
           obtain⟨oc,cs,_,_,_,_,_,_,_,k1,k2,k3,k4,_⟩:=hcd
           exact .inr (.inl ⟨⟨c,oc,cs,k1,k2,k3,k4⟩,rfl,#[],ps,rfl,by rw[Array.empty_append];exact e1⟩)
         · exact .inl (keep b o z e)
       · by_cases z:b=P0
         · rw[z];exact⟨_,e1⟩
         · exact⟨o,keep b o z e⟩
 have okP:∀H:Hp,ObjOk P w H s₁.heap P0 (.lam lp q):=λH=>⟨#[],hP,by unfold TriplesOk;trivial,.inl (by rfl)⟩
 cases hk:K.lookup a with
 | some o=>
   have e:=KX a o hk
   rw[ha]at e
   cases e
   refine core (λb=>if b=P0 then some (.lam lp q)else none) (λb=>?_) (if_pos rfl) (.inr ⟨_,vs.toArray,_,hk,rfl,rfl,rfl,by rw[jl,lenV];exact hl,by simpa using rv⟩) (λb u z=>?_) (λb z=>?_) λz=>absurd (if_neg naP) z
   · by_cases hb:b=P0
     · exact .inr (.inl ⟨hb,if_pos hb⟩)
     · exact .inl (if_neg hb)
   · by_cases hb:b=P0
     · have z':=(if_pos hb).symm.trans z
       cases z'
       subst hb
       exact okP _
     · have z':=(if_neg hb).symm.trans z
       cases z'
   · by_cases hb:b=P0
     · exact .inr hb
     · exact absurd (if_neg hb) z
 | none=>
   have hHa:(λb=>if b=P0 then some (HO.lam lp q)else if b=a then some (.frz {cls:=.type "list",data:=.seq vs.toArray} (.lst (ns.map V.int)))else none) a=some (.frz {cls:=.type "list",data:=.seq vs.toArray} (.lst (ns.map V.int))):=by
     dsimp only
     rw[if_neg naP,if_pos rfl]
   refine core (λb=>if b=P0 then some (.lam lp q)else if b=a then some (.frz {cls:=.type "list",data:=.seq vs.toArray} (.lst (ns.map V.int)))else none) (λb=>?_) (if_pos rfl) (.inl (.inr ⟨{cls:=.type "list",data:=.seq vs.toArray},hHa⟩)) (λb u z=>?_) (λb z=>?_) λ_=>hk
   · by_cases hb:b=P0
     · exact .inr (.inl ⟨hb,if_pos hb⟩)
     · by_cases hb2:b=a
       · exact .inr (.inr ⟨_,_,by rw[hb2];exact hHa⟩)
       · exact .inl (by rw[if_neg hb,if_neg hb2])
   · by_cases hb:b=P0
     · have z':=(if_pos hb).symm.trans z
       cases z'
       subst hb
       exact okP _
     · by_cases hb2:b=a
       · subst hb2
         rw[hHa]at z
         cases z
         exact⟨ha,by rw[j9];exact hl,vs,_,rv,ha⟩
       · dsimp only at z
         rw[if_neg hb,if_neg hb2]at z
         cases z
   · by_cases hb:b=P0
     · exact .inr hb
     · by_cases hb2:b=a
       · exact .inl hb2
       · rw[if_neg hb,if_neg hb2]at z
         exact absurd rfl z
theorem walk_ofL{l:PySem.W.OpenLaw}{n k:Nat}{q:Program}{loose:List Str}{XP:(Str->Option Value)->Heap->Prop}{YP:World->Heap->Prop}{d:DefRec}{K:Params->PySem.W.Frag}{P0 c:Addr}{lp:Pos}{qn:Str}{x:Str}
   (hn:l.most=some n) (hn2:n<=sizeLine) (hdf:d.params.defaults=[]) (hr:Room k callerA)
   (hY:∀(w:World) (h:Heap),YP w h->(K w.params).In h/\h.get? P0=some {cls:=.none,data:=.fields #[]}) (hKP:∀P,(K P).lookup P0=none) (hcd:∀P (h:Heap),(K P).In h->PySem.W.CodeHd h c P0)
   (F:∀(w:World) (mg:Str->Option Value) (fa:Addr) (h:Heap),(K w.params).In h->h.Ns mainGlobals mg->mg d.name=some (.ref fa)->
     ∃fd:FuncData,(∀(s:Shared) (u:Value),BindsTo s fd ⟨[u],[]⟩ [(x,u)])/\
       ∀base:Heap,(K w.params).In base->base.Ns mainGlobals mg->FnOk l.prog w (K w.params) mg base CX0 k fa fd [x] (q8j (K w.params) P0 lp qn n)):
   PySem.W.WalkO q loose XP YP l.row.toRowW d [] (λf vs=>PySem.call f vs):=by
 refine Att.attach_call hn hdf λw s₀ s₁ mg mb fa o pm cd doc a vs ns G Y ho hd hcd' hmg hobj j3 z5 hg=>?_
 obtain⟨KX,hP⟩:=hY w _ Y
 obtain⟨fd,hb,hF⟩:=F w mg fa _ KX G.T.g hmg
 exact qc2 KX G.T.g G.T.b G.T.builtins G.T.nolimit hg hobj j3 (jy z5 hn2) z5 hr hP (hKP _) (hcd _ _ KX) hF hb
section
variable{X:Cx}{K:PySem.W.Frag}
def qj1(K:PySem.W.Frag):List V->Hp->VK->Prop:=λxs H Q=>∃(p:Addr) (ns:List Int),xs=[.ref p]/\SqL K H p (ns.map V.int)/\ns≠[]/\Q (.int ((minI ns).getD 0)) H
theorem qa7(hK:X.K=K)(hc:X.calm=true):q48 X (.builtin "min") (qj1 K):=by
 subst hK
 intro z4 s σ H xs us Q I r h
 obtain⟨p,ns,rfl,hq,hn,k⟩:=h
 obtain⟨u,rfl,ru⟩:=vals1 r
 cases ru
 obtain⟨its,rv,pl,hz⟩:=I.list hq
 have ln:its.length=ns.length:=by have:=rv.length;simp at this;omega
 have hh:X.A.in1.handled=none:=I.ok.hd hc
 have n0:0<ns.length:=List.length_pos_iff.mpr hn
 refine qcx (its:=its.toArray) (bt:=btI ns) hh pl.isList (by simp;omega) (λi j vi vj s Q E hi hj _ q=>?_) λv s' ev k'=>?_
 · obtain⟨t,rfl⟩:=q17 rv (by simpa using hi)
   obtain⟨t',rfl⟩:=q17 rv (by simpa using hj)
   exact HT.rcLt_int _ s _ t _ t' _ _ _ _ (q s ⟨λ_ _ e=>e,rfl,rfl,rfl⟩)
 · rw[jl,ln]at ev
   obtain⟨t,rfl⟩:=q17 rv (by simpa using ev)
   refine⟨_,_,qkh I k',?_,k⟩
   cases ns with
   |nil=>exact absurd rfl hn
   |cons a r=>exact⟨t,rfl⟩
def q53:D->Option D
 | .lst xs=>match q1v xs with
   |some ns=>if ns≠[]then some (.int ((minI ns).getD 0))else none
   |none=>none
 |_=>none
theorem qhy:q89 K (qj1 K) q53:=λH x d u Q r e k=>by
 unfold q53 at e
 split at e
 · obtain⟨p,vs,rfl,h,rs⟩:=r.isL
   split at e
   · rename_i ns z
     split at e
     · rename_i hn
       cases e
       have ex:=q2o rs z
       subst ex
       exact⟨p,ns,rfl,h,hn,k _ (.int _)⟩
     · cases e
   · cases e
 · cases e
theorem qha{f:List D->Option D}:q1s 2 (qa3 f):=λds d h=>by
 unfold qa3 at h
 split at h
 · rfl
 · cases h
end
section
variable{K:PySem.W.Frag}{R:Hp}{O:List Nat}{t ta:TE}{tr:TA}{fa fb:RhD}{fs:RhL}{E:XK}{C:Addr}{x m f:Str}
theorem Rfs.zip:∀{names:List Str} {vs:List V} {ds:List D},Rps K R vs ds->Rfs K R (names.zip vs) (names.zip ds)
 |[],_,_,_=>.nil
 |_::_,_,_,.nil=>.nil
 |_::_,_,_,.cons h r=>.cons h (Rfs.zip r)
theorem Rfs.lookup:∀{fs:List (Str×V)} {gs:List (Str×D)} {d:D},Rfs K R fs gs->gs.lookup f=some d->∃v,fs.lookup f=some v/\Rp K R v d
 |_,_,_,.nil,e=>by cases e
 | _,_,d,.cons (f:=g) (x:=v) (d:=d') h r,e=>by
   rw[List.lookup_cons]at e ⊢
   cases q:f==g with
   | true=>
     rw[q]at e
     cases e
     exact⟨v,rfl,h⟩
   | false=>
     rw[q]at e
     exact Rfs.lookup r e
end
end L2
namespace L2
open PySem
end L2
namespace L2
open PySem
section
variable{ρ:Rho}{fa fk:RhD}{fs:RhL}
def tabO:D->Option (Addr×Pos×Str)
 |.tab P lp q=>some (P,lp,q)
 |_=>none
theorem qeh{j:Nat}{P:Addr}{lp:Pos}{q:Str}{f:List D->Option D}:q29 j P lp q f fs ρ=(fs ρ).bind λp=>((p.2[j]?).join.bind tabO).bind λt=>if t.1=P/\t.2.1=lp/\t.2.2=q then(f p.1).map λd=>(d,p.2)else none:=by
 unfold q29
 cases fs ρ with
 |none=>rfl
 | some p=>
   obtain⟨ds,ρ1⟩:=p
   dsimp only[Option.bind]
   cases h:ρ1[j]? with
   |none=>rfl
   | some o=>
     cases o with
     |none=>rfl
     |some d2=>cases d2<;>rfl
theorem qeg{i:Nat}:q35 i ρ=if i<ρ.length then some (.nx (ρ.set i (some (.dit []))))else none:=rfl
def ditO:D->Option (List (List Key×D))
 |.dit gs=>some gs
 |_=>none
theorem qef{i:Nat}:q1x i fa fk ρ=(fa ρ).bind λp=>(fk p.2).bind λy=>(keyT y.1).bind λks=>((y.2[i]?).join.bind ditO).bind λgs=>if gs.length<sizeLine then some (.nx (y.2.set i (some (.dit (putD gs ks p.1)))))else none:=by
 unfold q1x
 cases fa ρ with
 |none=>rfl
 | some p=>
   obtain⟨d,ρ1⟩:=p
   dsimp only[Option.bind]
   cases fk ρ1 with
   |none=>rfl
   | some p=>
     obtain⟨y,ρ2⟩:=p
     dsimp only[Option.bind]
     cases keyT y with
     |none=>rfl
     | some ks=>
       dsimp only
       cases h:ρ2[i]? with
       |none=>rfl
       | some o=>
         cases o with
         |none=>rfl
         |some d2=>cases d2<;>rfl
theorem q64:q70 fa ρ=(fa ρ).bind λp=>(ditO p.1).map λgs=>(gs.map λg=>D.tup (g.1.map keyD),p.2):=by
 unfold q70 q14 q1u
 cases fa ρ with
 |none=>rfl
 | some p=>
   obtain⟨d,ρ1⟩:=p
   cases d<;>rfl
theorem q79:q71 fa ρ=(fa ρ).bind λp=>(ditO p.1).map λgs=>(q4c gs,p.2):=by
 unfold q71 q14 q1u
 cases fa ρ with
 |none=>rfl
 | some p=>
   obtain⟨d,ρ1⟩:=p
   cases d<;>rfl
end
def ky(n:List Int):List Key:=n.map Sum.inl
theorem qf7{a b:List Int}(h:ky a=ky b):a=b:=by
 induction a generalizing b with
 | nil=>cases b with
   |nil=>rfl
   |cons y ys=>cases h
 | cons x xs ih=>cases b with
   |nil=>cases h
   | cons y ys=>
     injection h with h1 h2
     injection h1 with h1
     rw[h1,ih h2]
theorem qc7(n:List Int):(ky n).map keyD=n.map D.int:=by
 unfold ky
 rw[jx]
 rfl
theorem q74:∀n:List Int,q61 (n.map D.int)=some (ky n)
 |[]=>rfl
 | x::xs=>by
   show(match keyO (D.int x),q61 (xs.map D.int)with
     |some k,some ks=>some (k::ks)
     |_,_=>none)=_
   rw[q74 xs]
   rfl
theorem q33(n:List Int):keyT (.tup (n.map D.int))=some (ky n):=q74 n
def tupD(n:List Int):D:=.tup (n.map D.int)
def dctD(f:List Int->D)(ns:List (List Int)):D:=.dit (ns.map λn=>(ky n,f n))
theorem qac(f:List Int->D):∀{ns:List (List Int)} {n:List Int},n∈ns->valD (ns.map λn=>(ky n,f n)) (ky n)=some (f n)
 |[],_,h=>nomatch h
 | m::ns,n,h=>by
   unfold valD
   rw[jg,List.find?_cons]
   by_cases z:ky m=ky n
   · have e:=qf7 z
     subst e
     simp
   · rw[decide_eq_false z]
     have hn:n∈ns:=by
       rcases List.mem_cons.mp h with e|h
       · rw[e]at z;exact absurd rfl z
       · exact h
     exact qac f hn
theorem q7n(f:List Int->D){ns:List (List Int)}{n:List Int}(h:n∉ns):putD (ns.map λn=>(ky n,f n)) (ky n) (f n)=(ns++[n]).map λn=>(ky n,f n):=by
 unfold putD
 rw[if_neg,ka]
 · rfl
 · intro z
   obtain⟨g,hg,e⟩:=List.any_eq_true.mp z
   obtain⟨m,hm,rfl⟩:=List.mem_map.mp hg
   have e2:=qf7 (of_decide_eq_true e)
   exact h (e2▸hm)
theorem q65(f:List Int->D){ns:List (List Int)}{n:List Int}(h:n∈ns):q2g (dctD f ns) (tupD n)=some (f n):=by
 show(match keyT (tupD n)with
   |some k=>valD (ns.map λn=>(ky n,f n)) k
   |none=>none)=_
 unfold tupD
 rw[q33]
 exact qac f h
theorem q92(f:List Int->D)(ns:List (List Int)):(ns.map λn=>(ky n,f n)).map (λg=>D.tup (g.1.map keyD))=ns.map tupD:=by
 rw[jx]
 refine List.map_congr_left λn _=>?_
 show D.tup ((ky n).map keyD)=tupD n
 rw[qc7]
 rfl
theorem qc9(f:List Int->D)(ns:List (List Int)):q4c (ns.map λn=>(ky n,f n))=ns.map λn=>.tup [tupD n,f n]:=by
 unfold q4c
 rw[jx]
 refine List.map_congr_left λn _=>?_
 show D.tup [.tup ((ky n).map keyD),f n]=_
 rw[qc7]
 rfl
theorem q63{fg:RhG}{fb:RhO}(f:List Int->D)(R:Option D->D->Rho)(item:List Int->D)(ns:List (List Int))(nd:ns.Nodup)(hl:ns.length<=1000)
   (turn:∀n∈ns,∀v gs,gs.length<sizeLine->∃ρ1,fg (item n) (R v (.dit gs))=some ρ1/\∃v',fb ρ1=some (.nx (R v' (.dit (putD gs (ky n) (f n)))))):
   ∀v,∃v',q0r fg fb (ns.map item) (R v (.dit []))=some (.nx (R v' (dctD f ns))):=by
 have go:∀(zf done:List (List Int)),(done++zf).Nodup->(done++zf).length<=1000->(∀n∈zf,n∈ns)->∀v,∃v',q0r fg fb (zf.map item) (R v (dctD f done))=some (.nx (R v' (dctD f (done++zf)))):=by
   intro zf
   induction zf with
   |nil=>intro done _ _ _ v;exact⟨v,by rw[List.append_nil];rfl⟩
   | cons n r ih=>
     intro done hd hle hm v
     have nn:n∉done:=λz=>by
       rw[List.nodup_append]at hd
       exact hd.2.2 n z n jf rfl
     have e:done++n::r=(done++[n])++r:=by simp
     have le:(done.map λn=>(ky n,f n)).length<sizeLine:=by
       rw[j9]
       rw[jm,jk]at hle
       exact ji (by omega:done.length<1001) (by decide)
     obtain⟨ρ1,h1,v1,h2⟩:=turn n (hm n jf) v (done.map λn=>(ky n,f n)) le
     rw[q7n f nn]at h2
     rw[e]at hd hle ⊢
     obtain⟨v2,h3⟩:=ih (done++[n]) hd hle (λm hm'=>hm m (jj _ hm')) v1
     refine⟨v2,?_⟩
     rw[jg]
     unfold dctD at h3 ⊢
     unfold q0r
     rw[h1]
     dsimp only
     rw[h2]
     exact h3
 intro v
 obtain⟨v',h⟩:=go ns [] (by simpa using nd) (by simpa using hl) (λn h=>h) v
 exact⟨v',h⟩
end L2
namespace L2
open PySem PySem.Spec PyProof.Rows
section
variable{X:Cx}{K:PySem.W.Frag}{O:List Nat}
end
section
variable{prog:Program}{w:World}{A:Around}{R:Result->Shared->Prop}{I S l:Addr}{its:Array Value}{s0:Shared}{bt:Nat->Nat->Bool}{kw:List (Str×Value)}
end
section
variable{prog:Program}{w:World}{A:Around}{E:Value->Shared->Prop}{s:Shared}{Q:Value->Shared->Prop}{p:Addr}{its:Array Value}{bt:Nat->Nat->Bool}
end
section
variable{prog:Program}{w:World}{A:Around}{E:Value->Shared->Prop}{s:Shared}{Q:Value->Shared->Prop}
end
section
variable{X:Cx}{K:PySem.W.Frag}{O:List Nat}{e:Expr}{d:Expr}{te:TE}{p kp pos:Pos}{fe:RhD}{n:Int}
end
theorem Tss.length{K:PySem.W.Frag}{H:Hp}{xs:List V}{nss:List (List Int)}(h:Tss K H xs nss):xs.length=nss.length:=by
 induction h with
 |nil=>rfl
 |cons _ _ ih=>rw[jk,jk,ih]
section
variable{X:Cx}{K:PySem.W.Frag}
end
section
variable{prog:Program}{w:World}{K:Type}[DecidableEq K]{knd:HeapKind prog w K}{A:Around}{E:Value->Shared->Prop}{s:Shared}
theorem q5e{nm:String}{a b:Addr}{xs ys:List (K×Addr×Value)}{Q:Bool->Shared->Prop}(hu:knd.room A)(na:(a==sysModules)=false)(nb:(b==sysModules)=false)(da:DictE knd s.heap a xs)(db:DictE knd s.heap b ys)(hl:xs.length=ys.length)
   (hit:∀p∈xs,∃q∈ys,q.1=p.1) (val:∀p∈xs,∀q∈ys,p.1=q.1->SeqAt.EqAt A s p.2.2 q.2.2 true) (h:Q true s):wpAny (model prog w) A (Builtin.Dict.samePairs nm a b) Q E s:=by
 obtain⟨oa,es,hoa,_,hda,ea,ia,_⟩:=da
 obtain⟨ob,es',hob,_,hdb,eb,ib,nd⟩:=db
 have hla:es.size=xs.length:=size_of_entries ea
 have hlb:es'.size=ys.length:=size_of_entries eb
 unfold Builtin.Dict.samePairs Builtin.Dict.showsAll
 rw[if_neg (show¬(a==sysModules)=true by rw[na];exact Bool.false_ne_true),if_neg (show¬(b==sysModules)=true by rw[nb];exact Bool.false_ne_true)]
 refine j6 (j7 (j6 (j7 ?_)))
 refine j6 (xc hoa hda ?_)
 dsimp only
 refine j6 (xc hob hdb ?_)
 have hsz:es.size=es'.size:=by omega
 rw[if_neg (by rw[hsz];simp)]
 refine j6 (xm hoa hda ?_)
 refine j6 ?_
 rw[Std.Legacy.Range.forIn_eq_forIn_range']
 simp only[Std.Legacy.Range.size,Nat.sub_zero,Nat.add_sub_cancel,Nat.div_one]
 refine wpAny_forIn_list _ (λzm q s'=>s'=s/\q=(none,())/\∃i,zm=List.range' i (es.size-i)/\i<=es.size) _ ?_ ?_ _ _ ⟨rfl,rfl,0,by simp,Nat.zero_le _⟩
 · rintro x zm q s' ⟨rfl,rfl,i,hr,hi⟩
   have hlt:i<es.size:=by
     rcases Nat.lt_or_ge i es.size with h|h
     · exact h
     · rw[Nat.sub_eq_zero_of_le h]at hr;simp at hr
   obtain⟨rfl,hrest⟩:x=i/\zm=List.range' (i+1) (es.size-(i+1)):=by
     have e:es.size-i=(es.size-(i+1))+1:=by omega
     rw[e,List.range'_succ]at hr
     injection hr with h1 h2
     exact⟨h1,h2⟩
   refine j6 (xc hoa hda ?_)
   have hx:x<xs.length:=by omega
   have ee:es[x]? =some (entryOfKey knd xs[x]):=by rw[entry_at ea,jw hx];rfl
   rw[ee]
   have mx:xs[x]∈xs:=List.getElem_mem hx
   generalize xs[x]=p at mx
   show wpAny _ _ (holding [_,_] _ >>= _) _ _ _
   refine j6 (jr (j6 (wpAny_dictFind_heap (knd:=knd) (k:=p.1) hu (ia p mx) hob hdb eb ib nd (λno=>?_) (λj q hj=>?_))))
   · obtain⟨q,hq,eq⟩:=hit p mx
     obtain⟨j,hj⟩:=List.getElem?_of_mem hq
     exact absurd (by rw[hj,<-eq]) (no j q.2)
   · have e2:es'[j]? =some (entryOfKey knd (p.1,q)):=by rw[entry_at eb,hj];rfl
     refine j6 (xc hob hdb ?_)
     rw[e2]
     refine jr (val p mx (p.1,q) (k8 hj) rfl prog w _ _ ?_)
     show wpAny _ _ (if(!true)=true then _ else _) _ _ _
     rw[if_neg (by decide)]
     refine j6 (xm hoa hda ?_)
     rw[if_neg (by simp)]
     exact j7 ⟨rfl,rfl,x+1,hrest,hlt⟩
 · rintro q s' ⟨rfl,rfl,i,hr,hi⟩
   exact j7 h
theorem qfu{a b:Addr}{xs ys:List (K×Addr×Value)}{Q:Value->Shared->Prop}(hu:A.units<cLine)(hu1:knd.room A.in1)(na:(a==sysModules)=false)(nb:(b==sysModules)=false)(da:DictE knd s.heap a xs)(db:DictE knd s.heap b ys)(hl:xs.length=ys.length)
   (hit:∀p∈xs,∃q∈ys,q.1=p.1) (val:∀p∈xs,∀q∈ys,p.1=q.1->SeqAt.EqAt A.in1 s p.2.2 q.2.2 true) (h:Q (.bool false) s):wpAny (model prog w) A (compareOp .NotEq (.ref a) (.ref b)) Q E s:=by
 have ta:=da.of.typeIs (s:=s)
 have tb:=db.of.typeIs (s:=s)
 refine wpAny_richCompare_same_room (op:=.NotEq) ta tb PySem.F.slot_dict_ne (jo PySem.F.slot_dict_ne ta PySem.F.entry_dict_ne ?_ (PySem.F.args_dict_ne_2 _ _)) hu
 show wpAny _ _ (Builtin.Dict.dictSlotArgs "__ne__" ⟨[.ref a,.ref b],[]⟩ >>= _) _ _ s
 refine j6 ?_
 unfold Builtin.Dict.dictSlotArgs
 refine j6 (ko ta ?_)
 show wpAny _ _ (pure (Value.ref a,Value.ref b)) _ _ s
 refine j7 ?_
 refine j6 (kh (T:="dict") tb PySem.F.sub_dict_dict ?_)
 simp only[Bool.not_true,Bool.false_eq_true,if_false]
 refine j6 (j7 (j6 (j7 ?_)))
 refine j6 (q5e hu1 na nb da db hl hit val ?_)
 exact j7 ⟨_,rfl,⟨λx=>(nomatch x),h⟩⟩
theorem qft{a b:Addr}{xs ys:List (K×Addr×Value)}{Q:Value->Shared->Prop}(hu:A.units<cLine)(hu1:knd.room A.in1)(na:(a==sysModules)=false)(nb:(b==sysModules)=false)(da:DictE knd s.heap a xs)(db:DictE knd s.heap b ys)(hl:xs.length=ys.length)
   (hit:∀p∈xs,∃q∈ys,q.1=p.1) (val:∀p∈xs,∀q∈ys,p.1=q.1->SeqAt.EqAt A.in1 s p.2.2 q.2.2 true) (h:Q (.bool true) s):wpAny (model prog w) A (richCompare .Eq (.ref a) (.ref b)) Q E s:=by
 have ta:=da.of.typeIs (s:=s)
 have tb:=db.of.typeIs (s:=s)
 refine wpAny_richCompare_same_room (op:=.Eq) ta tb PySem.F.slot_dict_eq (jo PySem.F.slot_dict_eq ta PySem.F.entry_dict_eq ?_ (PySem.F.args_dict_eq_2 _ _)) hu
 show wpAny _ _ (Builtin.Dict.dictSlotArgs "__eq__" ⟨[.ref a,.ref b],[]⟩ >>= _) _ _ s
 refine j6 ?_
 unfold Builtin.Dict.dictSlotArgs
 refine j6 (ko ta ?_)
 show wpAny _ _ (pure (Value.ref a,Value.ref b)) _ _ s
 refine j7 ?_
 refine j6 (kh (T:="dict") tb PySem.F.sub_dict_dict ?_)
 simp only[Bool.not_true,Bool.false_eq_true,if_false]
 refine j6 (j7 (j6 (j7 ?_)))
 refine j6 (q5e hu1 na nb da db hl hit val ?_)
 exact j7 ⟨_,rfl,⟨λx=>(nomatch x),h⟩⟩
end
theorem qca{P P':Program}{w w':World}{ks:List Key}{vs:List Value}(h:ItemsAre (q10 P w) ks vs):ItemsAre (q10 P' w') ks vs:=by
 induction h with
 |nil=>exact .nil
 |cons h _ ih=>exact .cons h ih
theorem q7a{P P':Program}{w w':World}{h:Heap}{a:Addr}{xs:List (List Key×Addr×Value)}(x:DictE (tupleKind (q10 P w)) h a xs)(hk:∀p∈xs,∀c∈p.1,c.isLeft=true):DictE (tupleKind (q10 P' w')) h a xs:=by
 obtain⟨o,es,h1,h2,h3,h4,h5,h6⟩:=x
 refine⟨o,es,h1,h2,h3,?_,λp hp=>?_,h6⟩
 · rw[h4]
   refine List.map_congr_left λp hp=>?_
   have e:p.1.map (keyH w)=p.1.map (keyH w'):=List.map_congr_left λc hc=>by
     have:=hk p hp c hc
     cases c with
     |inl i=>rfl
     |inr x=>cases this
   show DictEntry.mk (reduceHash (Builtin.Tuple.tupleHashOf (p.1.map (keyH w)))) _ _=DictEntry.mk (reduceHash (Builtin.Tuple.tupleHashOf (p.1.map (keyH w')))) _ _
   rw[e]
 · obtain⟨o,its,n,e1,e2,e3,e4⟩:=h5 p hp
   exact⟨o,its,n,e1,e2,e3,qca e4⟩
def SmT(H:Hp)(x y:V):Prop:=∃(a b:Addr) (kvs:List (List Key×V)) (ns:List Int),x=.ref a/\y=.ref b/\H a=some (.dT kvs)/\(∃kws:List (List Key×V),H b=some (.dT kws)/\kws.map (·.1)=kvs.map (·.1)/\kws.map (·.2)=ns.map V.int)/\kvs.map (·.2)=ns.map V.int/\∀p∈kvs,∀c∈p.1,c.isLeft=true
theorem kt_at{H:Hp}{kvs:List (List Key×V)}{xs:List (List Key×Addr×Value)}(t:KT H kvs xs){i:Nat}{q:List Key×Addr×Value}(e:xs[i]? =some q):∃p,kvs[i]? =some p/\p.1=q.1/\RelV p.2 q.2.2:=by
 induction t generalizing i with
 |nil=>simp at e
 | cons h _ ih=>
   cases i with
   |zero=>simp at e;subst e;exact⟨_,rfl,h.1,h.2.2⟩
   |succ i=>exact ih (by simpa using e)
section
variable{X:Cx}{K:PySem.W.Frag}{z4:List (Addr×Obj)}{σ:St}{H:Hp}{s:Shared}
theorem q6d{A:Around}{a b:Addr}{kvs kws:List (List Key×V)}{ns:List Int}(I:Inv X z4 σ H s)(ha:H a=some (.dT kvs))(hb:H b=some (.dT kws))(hk:kws.map (·.1)=kvs.map (·.1))(hv:kvs.map (·.2)=ns.map V.int)(hw:kws.map (·.2)=ns.map V.int)(hi:∀p∈kvs,∀c∈p.1,c.isLeft=true):
   (a==sysModules)=false/\(b==sysModules)=false/\∃xs ys,DictE (tupleKind (q10 X.prog X.w)) s.heap a xs/\DictE (tupleKind (q10 X.prog X.w)) s.heap b ys/\xs.length=ys.length/\(∀p∈xs,∃q∈ys,q.1=p.1)/\(∀p∈xs,∀q∈ys,p.1=q.1->SeqAt.EqAt A s p.2.2 q.2.2 true)/\(∀p∈xs,∀c∈p.1,c.isLeft=true)/\∀p∈ys,∀c∈p.1,c.isLeft=true:=by
 obtain⟨_,na,xs,rx,da⟩:=qhu I.hok ha
 obtain⟨_,nb,ys,ry,db⟩:=qhu I.hok hb
 have lx:kvs.length=xs.length:=xn rx
 have ly:kws.length=ys.length:=xn ry
 have lk:kws.length=kvs.length:=by have:=congrArg List.length hk;simpa using this
 have ln:kvs.length=ns.length:=by have:=congrArg List.length hv;simpa using this
 have kat:∀(i:Nat) (p q:List Key×Addr×Value),xs[i]? =some p->ys[i]? =some q->p.1=q.1/\∃n t u,p.2.2=Value.int n t/\q.2.2=Value.int n u:=λi p q hp hq=>by
   obtain⟨p',e1,e2,e3⟩:=kt_at rx hp
   obtain⟨q',f1,f2,f3⟩:=kt_at ry hq
   have g1:=congrArg (λl=>l[i]?) hk
   have g2:=congrArg (λl=>l[i]?) hv
   have g3:=congrArg (λl=>l[i]?) hw
   simp only[List.getElem?_map,e1,f1,Option.map_some]at g1 g2 g3
   refine⟨e2.symm.trans ((jb g1).symm.trans f2),?_⟩
   cases en:ns[i]? with
   |none=>rw[en]at g2;cases g2
   | some n=>
     rw[en]at g2 g3
     rw[jb g2]at e3
     rw[jb g3]at f3
     obtain⟨t,et⟩:=e3
     obtain⟨u,eu⟩:=f3
     exact⟨n,t,u,et,eu⟩
 obtain⟨_,_,_,_,_,_,_,ndy⟩:=id db
 refine⟨na,nb,xs,ys,da,db,by omega,λp hp=>?_,λp hp q hq e=>?_,λp hp c hc=>?_,λp hp c hc=>?_⟩
 · obtain⟨i,hi⟩:=List.getElem?_of_mem hp
   have hi':i<ys.length:=by have:=(List.getElem?_eq_some_iff.mp hi).1;omega
   exact⟨ys[i],List.getElem_mem hi',(kat i p _ hi (jw hi')).1.symm⟩
 · obtain⟨i,hi⟩:=List.getElem?_of_mem hp
   obtain⟨j,hj⟩:=List.getElem?_of_mem hq
   have hi':i<ys.length:=by have:=(List.getElem?_eq_some_iff.mp hi).1;omega
   have hj':j<ys.length:=(List.getElem?_eq_some_iff.mp hj).1
   have ei:=(kat i p _ hi (jw hi')).1
   have eij:i=j:=by
     have h1:(ys.map (·.1))[i]'(by rw[j9];exact hi')=(ys.map (·.1))[j]'(by rw[j9];exact hj'):=by
       rw[List.getElem_map,List.getElem_map,<-ei,e,(List.getElem?_eq_some_iff.mp hj).2]
     have pw:=List.pairwise_iff_getElem.mp ndy
     rcases Nat.lt_trichotomy i j with z|z|z
     · exact absurd h1 (pw i j _ _ z)
     · exact z
     · exact absurd h1.symm (pw j i _ _ z)
   subst eij
   obtain⟨_,n,t,u,e1,e2⟩:=kat i p q hi hj
   rw[e1,e2]
   have:=SeqAt.EqAt.int_int (A:=A) (s:=s) n t n u
   simpa using this
 · obtain⟨i,hx⟩:=List.getElem?_of_mem hp
   obtain⟨p',e1,e2,_⟩:=kt_at rx hx
   rw[<-e2]at hc
   exact hi p' (k8 e1) c hc
 · obtain⟨i,hx⟩:=List.getElem?_of_mem hp
   obtain⟨q',e1,e2,_⟩:=kt_at ry hx
   have g1:=congrArg (λl=>l[i]?) hk
   simp only[List.getElem?_map,e1,Option.map_some]at g1
   cases en:kvs[i]? with
   |none=>rw[en]at g1;cases g1
   | some p'=>
     rw[en]at g1
     have g2:q'.1=p'.1:=jb g1
     rw[<-e2,g2]at hc
     exact hi p' (k8 en) c hc
theorem qdh{A:Around}{x y:V}{u v:Value}(hu:A.units+1<cLine)(I:Inv X z4 σ H s)(h:SmT H x y)(rx:RelV x u)(ry:RelV y v):SeqAt.EqAt A s u v true:=by
 obtain⟨a,b,kvs,ns,rfl,rfl,ha,⟨kws,hb,hk,hw⟩,hv,hc⟩:=h
 cases rx
 cases ry
 by_cases q:a=b
 · subst q
   exact SeqAt.EqAt.same _
 · refine SeqAt.EqAt.of_refs q λprog w E Q hq=>?_
   obtain⟨na,nb,xs,ys,da,db,hl,hit,val,cx,cy⟩:=q6d (A:=A.in1) I ha hb hk hv hw hc
   have da':DictE (tupleKind (q10 prog w)) s.heap a xs:=q7a da cx
   have db':DictE (tupleKind (q10 prog w)) s.heap b ys:=q7a db cy
   exact qft (by omega) (tupleKind_room_in1 hu) na nb da' db' hl hit val hq
def rNeT(x y:V)(H:Hp)(Q:VK):Prop:=SmT H x y/\Q (.bl false) H
theorem qjl(hu:X.A.units+64<cLine):OpR X (compareOp .NotEq) rNeT:=by
 intro z4 s σ H x y v u Q I rx ry h
 obtain⟨⟨a,b,kvs,ns,rfl,rfl,ha,⟨kws,hb,hk,hw⟩,hv,hc⟩,q⟩:=h
 cases rx
 cases ry
 obtain⟨na,nb,xs,ys,da,db,hl,hit,val,_,_⟩:=q6d (A:=X.A.in1) I ha hb hk hv hw hc
 exact qfu (by omega) (tupleKind_room_in1 (by omega)) na nb da db hl hit val ⟨.bl false,H,I,rfl,q⟩
inductive SmL(H:Hp):List V->List V->Prop
 |nil:SmL H [] []
 |cons {x y:V} {xs ys:List V}:SmT H x y->SmL H xs ys->SmL H (x::xs) (y::ys)
theorem SmL.get{H:Hp}{xs ys:List V}(h:SmL H xs ys):xs.length=ys.length/\∀(i:Nat) (x y:V),xs[i]? =some x->ys[i]? =some y->SmT H x y:=by
 induction h with
 |nil=>exact⟨rfl,λi x y e=>by simp at e⟩
 | cons h _ ih=>
   refine⟨by rw[jk,jk,ih.1],λi x y e f=>?_⟩
   cases i with
   |zero=>simp at e f;subst e f;exact h
   |succ i=>exact ih.2 i x y (by simpa using e) (by simpa using f)
def qiz(K:PySem.W.Frag)(x y:V)(H:Hp)(Q:VK):Prop:=∃p q xs ys,x=.ref p/\y=.ref q/\SqL K H p xs/\SqL K H q ys/\SmL H xs ys/\Q (.bl false) H
theorem q8b:∀{xs:List V} {us:List Value},Vals xs us->∀(i:Nat) (u:Value),us[i]? =some u->∃x,xs[i]? =some x/\RelV x u:=by
 intro xs us h
 induction h with
 |nil=>intro i u e;simp at e
 | cons h _ ih=>
   intro i u e
   cases i with
   |zero=>simp at e;subst e;exact⟨_,rfl,h⟩
   |succ i=>exact ih i u (by simpa using e)
theorem qgb(hK:X.K=K)(hu:X.A.units+64<cLine):OpR X (compareOp .NotEq) (qiz K):=by
 subst hK
 intro z4 s σ H x y v u Q I rx ry h
 obtain⟨p,q,xs,ys,rfl,rfl,hp,hq,sm,k⟩:=h
 cases rx
 cases ry
 obtain⟨us,ru,pl,_⟩:=I.list hp
 obtain⟨vs,rv,ql,_⟩:=I.list hq
 obtain⟨hl,hs⟩:=sm.get
 have l1:us.length=xs.length:=(xn ru).symm
 have l2:vs.length=ys.length:=(xn rv).symm
 have:=SeqAt.RcNeAt.lists (A:=X.A) (s:=s) (e:=λ_=>true) pl.isList ql.isList (by simp;omega) (by omega) (λj h1 h2=>by
   have e1:us[j]? =some (us.toArray[j]):=by simp at h1 ⊢
   have e2:vs[j]? =some (vs.toArray[j]):=by simp at h2 ⊢
   obtain⟨x,ex,rx⟩:=q8b ru j _ e1
   obtain⟨y,ey,ry⟩:=q8b rv j _ e2
   exact qdh (A:=X.A.in1) (show X.A.units+1+1<cLine by omega) I (hs j x y ex ey) rx ry)
 refine this X.prog X.w X.xe _ ?_
 rw[show(!(List.range us.toArray.size).all λ_=>true)=false by simp]
 exact⟨.bl false,H,I,rfl,k⟩
end
def q9k(x y:D):Bool:=match x,y with
 | .dit gs,.dit hs=>(match q1v (gs.map (·.2)),q1v (hs.map (·.2))with
   |some ns,some ms=>decide (ns=ms)&&decide (gs.map (·.1)=hs.map (·.1))&&gs.all λg=>g.1.all λc=>c.isLeft
   |_,_=>false)
 |_,_=>false
def q9j:List D->List D->Bool
 |[],[]=>true
 |x::xs,y::ys=>q9k x y&&q9j xs ys
 |_,_=>false
def dNeT(x y:D):Option D:=if q9k x y=true then some (.bl false)else none
def q4i(x y:D):Option D:=match x,y with
 |.lst xs,.lst ys=>if q9j xs ys=true then some (.bl false)else none
 |_,_=>none
section
variable{K:PySem.W.Frag}{R:Hp}
theorem Rkt.keys1:∀{kvs:List (List Key×V)} {gs:List (List Key×D)},Rkt K R kvs gs->kvs.map (·.1)=gs.map (·.1)
 |_,_,.nil=>rfl
 |_,_,.cons _ t=>by rw[jg,jg,Rkt.keys1 t]
theorem q8k{v u:V}{x y:D}(rv:Rp K R v x)(ru:Rp K R u y)(e:q9k x y=true):SmT R v u:=by
 unfold q9k at e
 split at e
 · rename_i gs hs
   split at e
   · rename_i ns ms e1 e2
     rw[Bool.and_eq_true,Bool.and_eq_true,decide_eq_true_eq,decide_eq_true_eq]at e
     obtain⟨⟨rfl,ek⟩,al⟩:=e
     cases rv with
     | @dit a kvs _ h r=>
       cases ru with
       | @dit b kws _ h2 r2=>exact⟨a,b,kvs,ns,rfl,rfl,h,⟨kws,h2,by rw[r.keys1,r2.keys1,ek],q2o r2.vals e2⟩,q2o r.vals e1,λp hp c hc=>by
         have:p.1∈gs.map (·.1):=by rw[<-r.keys1];exact List.mem_map.mpr ⟨p,hp,rfl⟩
         obtain⟨g,hg,eg⟩:=List.mem_map.mp this
         rw[<-eg]at hc
         exact List.all_eq_true.mp (List.all_eq_true.mp al g hg) c hc⟩
   · cases e
 · cases e
theorem q6f:∀{vs us:List V} {xs ys:List D},Rps K R vs xs->Rps K R us ys->q9j xs ys=true->SmL R vs us
 |_,_,[],[],.nil,.nil,_=>.nil
 | _,_,x::xs,y::ys,.cons r t,.cons r2 t2,e=>by
   unfold q9j at e
   rw[Bool.and_eq_true]at e
   exact .cons (q8k r r2 e.1) (q6f t t2 e.2)
theorem qjh:OpS K rNeT dNeT:=λH x y d e u Q rx ry q k=>by
 unfold dNeT at q
 split at q
 · rename_i z
   cases q
   exact⟨q8k rx ry z,k _ (.bl _)⟩
 · cases q
theorem qg8:OpS K (qiz K) q4i:=λH x y d e u Q rx ry q k=>by
 unfold q4i at q
 split at q
 · split at q
   · rename_i z
     cases q
     obtain⟨a,xs,rfl,h,r⟩:=rx.isL
     obtain⟨b,ys,rfl,h2,r2⟩:=ry.isL
     exact⟨a,b,xs,ys,rfl,rfl,h,h2,q6f r r2 z,k _ (.bl _)⟩
   · cases q
 · cases q
end
def Itw(a:Addr)(n:Nat):It:=
 ⟨λi H=>∃kvs p,H a=some (.dT kvs)/\kvs.length=n/\kvs[i]? =some p,
  λi H v H'=>H'=H/\∀kvs p,H a=some (.dT kvs)->kvs[i]? =some p->v=p.2,
  λi H=>∃kvs,H a=some (.dT kvs)/\kvs.length=n/\n<=i⟩
theorem qae{P:Program}{w:World}{K:PySem.W.Frag}{tg:Expr}(a it:Addr)(n:Nat):Turn P w K tg (Itw a n) [it] it (λi h=>h.IsValIter it a i n n) where
 mem:=by simp
 obj:=λi h st b hb=>by
   obtain⟨o,e,c,d⟩:=st
   rw[List.mem_singleton.mp hb]
   exact⟨o,e,λv z=>by rw[d]at z;cases z⟩
 keep:=λi h h' st k=>by
   obtain⟨o,e,c⟩:=st
   exact⟨o,k it (by simp) o e,c⟩
 item:=by
   intro X hP hw hK hc i z4 s σ H E I hf st hg
   subst hP hw hK
   obtain⟨kvs,p,e,rfl,hp⟩:=hg
   obtain⟨_,es,z,dr,al⟩:=q3p I e
   obtain⟨b,u,q1,q2,hi,_,k2⟩:=al i p hp
   obtain⟨f0,f1,f2,f3,f4,f5⟩:=hf it (by simp)
   rw[<-z]at st dr
   refine qdb st dr hi λh' st' sb=>?_
   have I1:Inv X z4 σ H {s with heap:=h'}:=I.turned (t':=s.toks) (λb o hb e=>(sb.2 b hb).trans e) f0 f1 f3 f4 f5
   obtain⟨o,e1,c1,d1⟩:=id st'
   refine⟨_,rfl,qcf (s:={s with heap:=h'}) e1 c1 d1 (by decide) ⟨p.2,H,I1,by rw[k2];exact q2,⟨rfl,λkvs' p' e' hp'=>?_⟩,by rw[<-z];exact st',λb hb=>(hf b hb).1⟩⟩
   rw[e]at e'
   cases e'
   rw[hp]at hp'
   cases hp'
   rfl
 done:=by
   intro X hP hw hK hc i z4 s σ H E I hf st hg
   subst hP hw hK
   obtain⟨kvs,e,rfl,hp⟩:=hg
   obtain⟨_,es,z,dr,_⟩:=q3p I e
   obtain⟨f0,f1,f2,f3,f4,f5⟩:=hf it (by simp)
   rw[<-z]at st dr hp
   exact qfj (I.ok.hd hc) st dr hp λh' eb=>⟨rfl,I.turned (t':=s.toks) (λb o hb e=>eb b o hb e) f0 f1 f3 f4 f5⟩
 self:=λ_ _ _ _ _ st h=>wpAny_pyIter_valiter st h
def qkt(td:TE):TI:=λσ H R=>td σ H λx H1=>∃a kvs,x=.ref a/\H1 a=some (.dT kvs)/\R (Itw a kvs.length) H1
theorem qg1{X:Cx}{o tg:Expr}{td:TE}{zl zd:Pos}(ho:PE X o td)(zt:attributeBase o "values" X.env (eval o X.env)=eval o X.env:=by rfl)(zr:(zl.endLine==zd.line)=true:=by rfl):
   PI X tg (.Call (.Attribute o "values" zl) [] [] zd) (qkt td):=by
 intro z4 s σ H R I h
 refine wpAny_Call_method0_late zt zr (thn (ho z4 s σ H _ I h) λv s1 ⟨x,H1,I1,rx,a,kvs,ex,e,q⟩=>?_)
 subst ex
 obtain rfl:v=Value.ref a:=rx
 obtain⟨h1,h2⟩:=qad (T:="dict") (x:=.ref a) I1 rfl (.inr (.inr (.inl ⟨rfl,.inr ⟨kvs,e⟩⟩)))
 obtain⟨y,es,z,dr,_⟩:=q3p I1 e
 refine⟨"dict","dict.values",PySem.F.plainAttrs_dict,PySem.F.slot_dict_values,PySem.F.type_dict_values,h1,h2,Calls.callWith_builtin rfl (PySem.evalArgs_none (q7k y dr ?_))⟩
 have kp:∀b o,s1.heap.get? b=some o->(s1.heap.push {cls:=.type "dict_values",data:=.fields #[.ref a]}).get? b=some o:=λb o e=>ja _ e
 refine q7j (s:={s1 with heap:=s1.heap.push {cls:=.type "dict_values",data:=.fields #[.ref a]}}) (v:=s1.heap.objs.size) ⟨_,je _ rfl,rfl,rfl⟩ (dr.at_ λo e=>kp a o e) ?_
 have sz:(s1.heap.push {cls:=.type "dict_values",data:=.fields #[.ref a]}).objs.size=s1.heap.objs.size+1:=xk ..
 refine⟨_,[(s1.heap.push {cls:=.type "dict_values",data:=.fields #[.ref a]}).objs.size],_,_,H1,rfl,I1.kept (t':=s1.toks) λb o e=>ja _ (kp b o e),qae a _ kvs.length,⟨_,je _ rfl,rfl,by rw[z];rfl⟩,λb hb=>?_,q⟩
 rw[List.mem_singleton.mp hb,sz]
 exact I1.fpOk (Nat.le_succ _) (I1.hok.fresh (Nat.le_succ _))
section
variable{K:PySem.W.Frag}{O:List Nat}{td:TE}{fd:RhD}
def qdw(f:RhD):RhL:=q14 f λd=>q1u (match d with
 |.dit gs=>some (gs.map (·.2))
 |_=>none)
theorem qh1{R:Hp}{a:Addr}{kvs:List (List Key×V)}{gs:List (List Key×D)}(h:R a=some (.dT kvs))(r:Rkt K R kvs gs):ItOk K (Itw a kvs.length) R (gs.map (·.2)):=λH' R' s b i=>by
 have q:H' a=some (.dT kvs):=b _ _ (s _ _ h)
 refine⟨λe=>⟨kvs,q,rfl,by rw[j9]at e;rw[r.length];omega⟩,λd e=>?_⟩
 rw[ju]at e
 cases g0:gs[i]? with
 |none=>rw[g0]at e;cases e
 | some g=>
   rw[g0]at e
   cases e
   obtain⟨v,h1,h2⟩:=r.get g0
   refine⟨⟨kvs,_,q,rfl,h1⟩,λx H'' y=>?_⟩
   obtain⟨rfl,y⟩:=y
   have ex:=y kvs _ q h1
   dsimp only at ex
   subst ex
   exact⟨R',Ext.refl b,h2.mono s⟩
theorem qgn(h:ME K O td fd):MI K O (qkt td) (qdw fd):=λZ σ H R ρ ds ρ' Q S e k=>by
 obtain⟨d,ρ1,e1,e⟩:=q08 e
 obtain⟨e2,rfl⟩:=q0d e
 refine h Z σ H R ρ d _ _ S e1 λv H1 R1 S1 st1 r1=>?_
 cases r1 with
 | @dit a kvs gs q r=>
   cases e2
   exact⟨a,kvs,rfl,S1.sub _ _ q,k _ H1 R1 S1 st1 (qh1 q r)⟩
 |_=>cases e2
end
mutual
def onT:D->Bool
 |.non=>true
 |.bl _=>true
 |.int _=>true
 |.str _=>true
 |.tup xs=>onTs xs
 |_=>false
def onTs:List D->Bool
 |[]=>true
 |d::r=>onT d&&onTs r
end
def tupR(R:Hp):Hp:=λa=>match R a with
 |some (.tup xs)=>some (.tup xs)
 |some (.lam p q)=>some (.lam p q)
 |_=>none
theorem qdd{R:Hp}{a:Addr}{o:HO}(h:tupR R a=some o):R a=some o/\((∃xs,o=.tup xs)∨∃p q,o=.lam p q):=by
 unfold tupR at h
 split at h
 · rename_i e;cases h;exact⟨e,.inl ⟨_,rfl⟩⟩
 · rename_i e;cases h;exact⟨e,.inr ⟨_,_,rfl⟩⟩
 · cases h
theorem qif{R:Hp}{a:Addr}{xs:List V}(h:R a=some (.tup xs)):tupR R a=some (.tup xs):=by unfold tupR;rw[h]
theorem qig{R:Hp}{a:Addr}{p:Pos}{q:Str}(h:R a=some (.lam p q)):tupR R a=some (.lam p q):=by unfold tupR;rw[h]
section
variable{K:PySem.W.Frag}{R:Hp}
theorem Rp.tups{v:V}{d:D}(h:Rp K R v d):onT d=true->Rp K (tupR R) v d:=by
 refine Rp.rec (motive_1:=λv d _=>onT d=true->Rp K (tupR R) v d) (motive_2:=λxs ds _=>onTs ds=true->Rps K (tupR R) xs ds) (motive_3:=λ_ _ _=>True) (motive_4:=λ_ _ _=>True) (motive_5:=λ_ _ _=>True) ?_ ?_ ?_ ?_ ?_ ?_ ?_ ?_ ?_ ?_ ?_ ?_ ?_ ?_ ?_ ?_ ?_ ?_ ?_ ?_ h
 · intro _;exact .non
 · intro b _;exact .bl b
 · intro i _;exact .int i
 · intro x _;exact .str x
 · intro a xs ds _ _ _ e;cases e
 · intro a xs ds h _ r e
   rw[onT]at e
   exact .tup (qif h) (r e)
 · intro a C dx x fs gs _ _ _ _ e;cases e
 · intro a kvs gs _ _ _ e;cases e
 · intro a kvs gs _ _ _ e;cases e
 · intro a C x _ _ _ e;cases e
 · intro l x _ e;cases e
 · intro P pos q _ e;cases e
 · intro _;exact .nil
 · intro x xs d ds _ _ h r e
   rw[onTs,Bool.and_eq_true]at e
   exact .cons (h e.1) (r e.2)
 · trivial
 · intros;trivial
 · trivial
 · intros;trivial
 · trivial
 · intros;trivial
theorem Rps.tups:∀{vs:List V} {ds:List D},Rps K R vs ds->onTs ds=true->Rps K (tupR R) vs ds
 |_,_,.nil,_=>.nil
 | _,_,.cons r t,e=>by
   rw[onTs,Bool.and_eq_true]at e
   exact .cons (r.tups e.1) (Rps.tups t e.2)
end
def spFD(K:PySem.W.Frag)(n:Nat)(f:List D->Option D):Sp:=λvs H Q _=>vs.length=n/\∃R ds d,(∀a o,R a=some o->H a=some o)/\Rps K R vs ds/\f ds=some d/\∀p H' R',Ext H R H' R'->Rp K R' (.ref p) d->H p=none->H' p≠none->Q (.ref p) H'
def qfr(K:PySem.W.Frag)(P:Addr)(lp:Pos)(q:Str)(n:Nat)(f:List D->Option D):Sp:=λvs H Q _=>vs.length=n/\∃R ds d,(∀a o,R a=some o->H a=some o)/\R P=some (.lam lp q)/\Rps K R vs ds/\f ds=some d/\∀p H' R',Ext H R H' R'->Rp K R' (.ref p) d->H p=none->H' p≠none->Q (.ref p) H'
def goFD(k:Nat)(f1 f2:RhO)(ρ:Rho):Option D:=match f1 ρ with
 | some (.nx ρ1)=>(match f2 ρ1 with
   | some (.nx ρ2)=>(match ρ2[k]? with
     |some (some d)=>some d
     |_=>none)
   |_=>none)
 |_=>none
def qb1(n N k:Nat)(f1 f2:RhO)(ds:List D):Option D:=if ds.length=n then goFD k f1 f2 (ds.map some++List.replicate (N-n) none)else none
def q6h(n N k j:Nat)(d:D)(f1 f2:RhO)(ds:List D):Option D:=if ds.length=n/\n<=j then goFD k f1 f2 ((ds.map some++List.replicate (N-n) none).set j (some d))else none
section
variable{K:PySem.W.Frag}
theorem q8h{H R:Hp}{n:Nat}{Nms:List Str}{vs:List V}{ds:List D}(sub:∀a o,R a=some o->H a=some o)(hn:vs.length=n)(hl:ds.length=n)(r:Rps K R vs ds):StR K ⟨H,R,λ_=>False,[]⟩ [] (start Nms vs) H R (ds.map some++List.replicate (Nms.length-n) none):=by
 refine⟨sub,?_,λi d _ q=>?_,λi hi=>(nomatch hi),λi j hi=>(nomatch hi),λa o q _=>q,Same.refl _,λa q=>.inl q,λa q=>.refl q,λi hi=>(nomatch hi),λi hi=>(nomatch hi)⟩
 · unfold start
   rw[jm,jm,j9,j9,xj,xj,hn,hl]
 · obtain⟨v,h1,h2⟩:=r.get (q3n q)
   exact⟨v,q3m h1,h2⟩
theorem StR.toExt{H R H' R':Hp}{O:List Nat}{σ:St}{ρ:Rho}(S:StR K ⟨H,R,λ_=>False,[]⟩ O σ H' R' ρ):Ext H R H' R':=⟨λa o q=>S.ah a o q (λz=>z),S.ar,S.sub,S.an⟩
theorem qch{H R:Hp}{k:Nat}{σ:St}{ρ:Rho}{t1 t2:TS}{f1 f2:RhO}{d:D}{Q:VK}{X:St->Hp->Prop}(h1:MS ⟨K,false,[],[]⟩ [] [k] t1 f1)(h2:MS ⟨K,false,[],[]⟩ [k] [k] t2 f2)(S:StR K ⟨H,R,λ_=>False,[]⟩ [] σ H R ρ)(e:goFD k f1 f2 ρ=some d)
   (q:∀p H' R',Ext H R H' R'->Rp K R' (.ref p) d->H p=none->H' p≠none->Q (.ref p) H'):(tSeq t1 (tSeq t2 (tRet (tVar k)))) {nx:=X,rt:=Q} σ H:=by
 unfold goFD at e
 split at e
 · rename_i ρ1 e1
   split at e
   · rename_i ρ2 e2
     split at e
     · rename_i d' e3
       cases e
       refine h1 _ _ σ H R ρ (.nx ρ1) rfl S e1 λσ1 H1 R1 S1 s1=>?_
       refine h2 _ _ σ1 H1 R1 ρ1 (.nx ρ2) rfl S1 e2 λσ2 H2 R2 S2 s2=>?_
       obtain⟨l,vs,ds,g1,g2,g3,g4,g5⟩:=S2.own k (by simp)
       have l0:H l=none:=S2.ao k (by simp) (by simp) l g2
       obtain⟨S3,s3⟩:=S2.freeze (O':=[]) (λi hi=>(nomatch hi)) (λi hi=>(nomatch hi))
       obtain⟨v,q1,q2⟩:=S3.env k d (by simp) e3
       rw[g2]at q1
       cases q1
       exact⟨.ref l,g2,q l H2 _ S3.toExt q2 l0 (by rw[g3];exact λz=>nomatch z)⟩
     · cases e
   · cases e
 · cases e
theorem qao{n k:Nat}{Nms:List Str}{t1 t2:TS}{f1 f2:RhO}{vs:List V}{H:Hp}{Q:VK}{E:XK}(h1:MS ⟨K,false,[],[]⟩ [] [k] t1 f1)(h2:MS ⟨K,false,[],[]⟩ [k] [k] t2 f2)(h:spFD K n (qb1 n Nms.length k f1 f2) vs H Q E):(tSeq t1 (tSeq t2 (tRet (tVar k)))) {nx:=λ_ H'=>Q .non H',rt:=Q} (start Nms vs) H:=by
 obtain⟨hn,R,ds,d,sub,r,e,q⟩:=h
 unfold qb1 at e
 split at e
 · rename_i hl
   exact qch h1 h2 (q8h sub hn hl r) e q
 · cases e
theorem q9i{P:Addr}{lp:Pos}{qq:Str}{n k j:Nat}{Nms:List Str}{t1 t2:TS}{f1 f2:RhO}{vs:List V}{H:Hp}{Q:VK}{E:XK}(h1:MS ⟨K,false,[],[]⟩ [] [k] t1 f1)(h2:MS ⟨K,false,[],[]⟩ [k] [k] t2 f2)(h:qfr K P lp qq n (q6h n Nms.length k j (.tab P lp qq) f1 f2) vs H Q E):(tSeq t1 (tSeq t2 (tRet (tVar k)))) {nx:=λ_ H'=>Q .non H',rt:=Q} ((start Nms vs).set j (some (.ref P))) H:=by
 obtain⟨hn,R,ds,d,sub,rP,r,e,q⟩:=h
 unfold q6h at e
 split at e
 · rename_i hl
   exact qch h1 h2 ((q8h sub hn hl.1 r).set (i:=j) (v:=.ref P) (d:=.tab P lp qq) (λh=>nomatch h) (.tab rP)) e q
 · cases e
end
def q3f(f:List D->Option D)(x:D):Nat->List D->Option (List D)
 |0,es=>some es
 | n+1,es=>match atI es (-1)with
   | some b=>(match f [x,b]with
     |some d=>q3f f x n (es++[d])
     |none=>none)
   |none=>none
def gBy(fNo zp:List D->Option D)(ds:List D):Option D:=match ds with
 | [x,.int k]=>if 0<=k/\k.toNat+2<=sizeLine then(match fNo [x]with
   |some d0=>(q3f zp x k.toNat [d0]).map D.lst
   |none=>none)else none
 |_=>none
def spFB(K:PySem.W.Frag)(P:Addr)(lp:Pos)(q:Str)(n:Nat)(f:List D->Option D):Sp:=λvs H Q _=>vs.length=n/\∃R ds es,(∀a o,R a=some o->H a=some o)/\R P=some (.lam lp q)/\Rps K R vs ds/\f ds=some (.lst es)/\
 ∀(l:Addr) (ps:List Addr) (H' R':Hp),Ext H R H' R'->H l=none->H' l=some (.lst (ps.map V.ref))->R' l=none->Rps K R' (ps.map V.ref) es->ps.Nodup->(∀p∈ps,H p=none)->(∀p∈ps,p≠l)->Q (.ref l) H'
theorem Ext.wrt{H R H' R':Hp}{l:Addr}{o:HO}(x:Ext H R H' R')(h:H l=none)(hr:R' l=none):Ext H R (upd H' l o) R':=by
 refine⟨λa u e=>?_,x.r,λa u e=>?_,x.n⟩
 · rw[q05 λz=>by rw[z,h]at e;cases e]
   exact x.h a u e
 · rw[q05 λz=>by rw[z,hr]at e;cases e]
   exact x.s a u e
theorem Ext.off{H R H' R':Hp}{l:Addr}{xs:List V}(x:Ext H R H' R')(h:H l=some (.lst xs))(hr:R l=none):R' l=none:=by
 cases q:R' l with
 |none=>rfl
 | some o=>
   rcases x.n l (by rw[q];exact λz=>nomatch z)with z|z|⟨ys,z⟩
   · exact absurd hr z
   · rw[h]at z;cases z
   · rw[h]at z;cases z
theorem Same.none{H H':Hp}(s:Same H H'){a:Addr}(h:H' a=none):H a=none:=by
 cases q:H a with
 |none=>rfl
 |some o=>rw[s a o q]at h;cases h
section
variable{K:PySem.W.Frag}{P:Addr}{lp:Pos}{qq:Str}
theorem qap{fNo zp:List D->Option D}{Nms:List Str}{vs:List V}{H:Hp}{Q:VK}{E E1 E2:XK}(hN:Nms.length=4)(h:spFB K P lp qq 2 (gBy fNo zp) vs H Q E):
   (tSeq (tAsg (tLst (q23 (q4e (spFD K 1 fNo) [] E1 (q23 (tVar 0) tNil)) tNil)) (q36 2))
     (tSeq (qah (qfo (tOp (rI0 λi j=>.bl (decide (i<=j))) (tCB (λxs H Q=>∃p ys,xs=[.ref p]/\(SqL K H p ys∨SqT K H p ys)/\Q (.int ys.length) H) (q23 (tVar 2) tNil)) (tVar 1)))
       (qaj (tBM K "list" q5t (tVar 2) (q23 (q4e (qfr K P lp qq 2 zp) [] E2 (q23 (tVar 0) (q23 (tOp (rIx K) (tVar 2) (tUn (rU λi=>.int (-i)) (tC (.int 1)))) tNil))) tNil))))
     (tRet (tVar 2)))) {nx:=λ_ H'=>Q .non H',rt:=Q} (start Nms vs) H:=by
 obtain⟨hn,R,ds,es,sub,rP,r,e,k⟩:=h
 unfold gBy at e
 split at e
 · rename_i x n
   split at e
   · rename_i z
     obtain⟨n0,nz⟩:=z
     cases e1:fNo [x]with
     |none=>rw[e1]at e;cases e
     | some d0=>
       rw[e1]at e
       dsimp only at e
       cases e2:q3f zp x n.toNat [d0]with
       |none=>rw[e2]at e;cases e
       | some es'=>
         rw[e2]at e
         have ee:es'=es:=by cases e;rfl
         subst ee
         clear e
         cases r with
         |cons r0 r=>
         cases r with
         |cons r1 r=>
         cases r
         obtain rfl:=r1.isI
         rename_i v0
         have es0:start Nms [v0,V.int n]=[some v0,some (.int n),none,none]:=by
           unfold start
           show [some v0,some (V.int n)]++List.replicate (Nms.length-2) none=_
           rw[hN]
           rfl
         rw[es0]
         refine⟨v0,rfl,rfl,R,[x],d0,sub,.cons r0 .nil,e1,λp H1 R1 x1 rp hp lp1=>?_⟩
         refine⟨show 1<=sizeLine by omega,λl hl=>?_⟩
         have l1:R1 l=none:=by
           cases q:R1 l with
           |none=>rfl
           |some o=>rw[x1.s l o q]at hl;cases hl
         refine⟨λm σ' H'=>∃R' es2 ps l,Ext H R H' R'/\σ'=[some v0,some (.int n),some (.ref l),none]/\H l=none/\H' l=some (.lst (ps.map V.ref))/\R' l=none/\Rps K R' (ps.map V.ref) es2/\ps.Nodup/\(∀p∈ps,H p=none)/\(∀p∈ps,H' p≠none)/\(∀p∈ps,p≠l)/\(es2.length:Int)+m=n+1/\q3f zp x m es2=some es',⟨n.toNat,R1,[d0],[p],l,x1.trans (Ext.hid x1.s hl),rfl,x1.h.none hl,q0a,l1,.cons rp .nil,by simp,λb hb=>by rw[List.mem_singleton.mp hb];exact hp,λb hb=>by rw[List.mem_singleton.mp hb,q05 λz=>lp1 (by rw[z];exact hl)];exact lp1,λb hb z=>by rw[List.mem_singleton.mp hb]at z;exact lp1 (by rw[z];exact hl),by simp;omega,e2⟩,?_⟩
         rintro m σ' H' ⟨R',es2,ps,l,x',rfl,hl0,hl',lr',rs',nd,f0,f1,f3,ln,st⟩
         have lps:ps.length=es2.length:=by have:=rs'.length;simpa using this
         refine⟨.ref l,rfl,l,_,rfl,.inl (SqL.of hl'),.int n,rfl,_,_,rfl,rfl,_,rfl,?_⟩
         rw[j9,lps]
         cases m with
         | zero=>
           rw[decide_eq_false (by omega)]
           refine iteF ⟨.ref l,rfl,?_⟩
           cases st
           exact k l ps H' R' x' hl0 hl' lr' rs' nd f0 f3
         | succ m=>
           rw[decide_eq_true (by omega)]
           unfold q3f at st
           cases q1:atI es2 (-1)with
           |none=>rw[q1]at st;cases st
           | some b=>
             rw[q1]at st
             dsimp only at st
             cases q2:zp [x,b]with
             |none=>rw[q2]at st;cases st
             | some d=>
               rw[q2]at st
               obtain⟨vb,g1,g2⟩:=q6a rs' q1
               refine iteT ⟨_,λσ3 H3 w=>⟨m,Nat.lt_succ_self _,w⟩,.ref l,rfl,.inl ⟨rfl,_,SqL.of hl'⟩,v0,rfl,.ref l,rfl,1,rfl,.inl ⟨l,_,_,vb,rfl,rfl,SqL.of hl',g1,rfl,R',[x,b],d,x'.s,x'.r _ _ rP,.cons (r0.mono x'.r) (.cons g2 .nil),q2,λp2 H2 R2 x2 rp2 hp2 np2=>?_⟩⟩
               have hl2:=x2.h _ _ hl'
               have lr2:=x2.off hl' lr'
               have f2:∀p∈ps,H2 p≠none:=λp hp=>x2.h.some (f1 p hp)
               refine⟨l,_,.ref p2,rfl,rfl,hl2,by rw[j9,lps];omega,?_⟩
               have pl:p2≠l:=λz=>by rw[z,hl']at hp2;cases hp2
               refine⟨R2,es2++[d],ps++[p2],l,(x'.trans x2).wrt hl0 lr2,rfl,hl0,by rw[q0a,ka];rfl,lr2,by rw[ka];exact(rs'.mono x2.r).snoc rp2,?_,λp hp=>?_,λp hp=>?_,λp hp=>?_,by rw[jm,jk,List.length_nil];omega,st⟩
               · rw[List.nodup_append]
                 refine⟨nd,by simp,λa ha b hb z=>?_⟩
                 rw[List.mem_singleton.mp hb]at z
                 subst z
                 exact f1 _ ha hp2
               · rcases List.mem_append.mp hp with hp|hp
                 · exact f0 p hp
                 · rw[List.mem_singleton.mp hp];exact x'.h.none hp2
               · have nl:p≠l:=by
                   rcases List.mem_append.mp hp with hp|hp
                   · exact f3 p hp
                   · rw[List.mem_singleton.mp hp];exact pl
                 rw[q05 nl]
                 rcases List.mem_append.mp hp with hp|hp
                 · exact f2 p hp
                 · rw[List.mem_singleton.mp hp];exact np2
               · rcases List.mem_append.mp hp with hp|hp
                 · exact f3 p hp
                 · rw[List.mem_singleton.mp hp];exact pl
   · cases e
 · cases e
def gFe(fPo fBy:List D->Option D)(ds:List D):Option D:=match ds with
 | [s,y]=>(match fPo [s]with
   |some x=>fBy [x,y]
   |none=>none)
 |_=>none
theorem qan{fPo fBy:List D->Option D}{Nms:List Str}{vs:List V}{H:Hp}{Q:VK}{E E1 E2:XK}(hN:2<=Nms.length)(h:spFB K P lp qq 2 (gFe fPo fBy) vs H Q E):
   (tRet (q4e (spFB K P lp qq 2 fBy) [] E1 (q23 (q4e (spP K false 1 fPo) [] E2 (q23 (tVar 0) tNil)) (q23 (tVar 1) tNil)))) {nx:=λ_ H'=>Q .non H',rt:=Q} (start Nms vs) H:=by
 obtain⟨hn,R,ds,es,sub,rP,r,e,k⟩:=h
 unfold gFe at e
 split at e
 · rename_i s y
   cases e1:fPo [s]with
   |none=>rw[e1]at e;cases e
   | some x=>
     rw[e1]at e
     dsimp only at e
     cases r with
     |cons r0 r=>
     cases r with
     |cons r1 r=>
     cases r
     rename_i v0 v1
     refine⟨v0,rfl,rfl,R,[s],x,sub,.cons r0 .nil,e1,λv H1 R1 x1 rv=>?_⟩
     refine⟨v1,rfl,rfl,R1,[x,y],es,x1.s,x1.r _ _ rP,.cons rv (.cons (r1.mono x1.r) .nil),e,λl ps H' R' x2 hl hl' lr rs nd f0 f3=>?_⟩
     exact k l ps H' R' (x1.trans x2) (x1.h.none hl) hl' lr rs nd (λp hp=>x1.h.none (f0 p hp)) f3
 · cases e
end
theorem qmj{fPo fBy:List D->Option D}:q1s 2 (gFe fPo fBy):=λds d h=>by
 unfold gFe at h
 split at h
 · rfl
 · cases h
theorem qmk{fPo fNo zp:List D->Option D}(ds:List D)(d:D)(h:gFe fPo (gBy fNo zp) ds=some d):∃es,d=.lst es:=by
 unfold gFe at h
 split at h
 · split at h
   · unfold gBy at h
     split at h
     · split at h
       · split at h
         · obtain⟨es,_,e⟩:=Option.map_eq_some_iff.mp h
           exact⟨es,e.symm⟩
         · cases h
       · cases h
     · cases h
   · cases h
 · cases h
theorem qbw{K:PySem.W.Frag}{O:List Nat}{P:Addr}{lp:Pos}{q:Str}{j:Nat}{f:List D->Option D}{tr:TA}{fs:RhL}{E:XK}(hj:j∉O)(hf:q1s 2 f)(hl:∀ds d,f ds=some d->∃es,d=.lst es)(h:MA K O tr fs):ME K O (q4e (spFB K P lp q 2 f) [] E tr) (q29 j P lp q f fs):=λZ σ H R ρ d ρ' Q S e k=>by
 unfold q29 at e
 split at e
 · rename_i ds ρ1 e1
   split at e
   · rename_i P' lp' q' e2
     split at e
     · rename_i z
       obtain⟨rfl,rfl,rfl⟩:=z
       cases e3:f ds with
       |none=>rw[e3]at e;cases e
       | some d'=>
         rw[e3]at e
         cases e
         obtain⟨es,rfl⟩:=hl ds _ e3
         refine h Z σ H R ρ ds _ _ S e1 λvs H1 R1 S1 st1 r1=>?_
         show spFB K P' lp' q' 2 f (vs++[]) H1 Q E
         rw[List.append_nil]
         obtain⟨v,_,rt⟩:=S1.env j _ hj e2
         cases rt with
         |tab hP=>exact⟨by rw[r1.length];exact hf ds _ e3,R1,ds,es,S1.sub,hP,r1,e3,λl ps H2 R2 x h0 h2 lr rs nd f0 f3=>k (.ref l) H2 _ (S1.ext (x.know h0 h2 lr)) (st1.trans (x.know h0 h2 lr).stp) (.lst (SqL.of q0a) (rs.mono (Same.new lr)))⟩
     · cases e
   · cases e
 · cases e
section
variable{K:PySem.W.Frag}{Z:Anc}{i j q:Nat}{σ:St}{H R H' R':Hp}{ρ ρ':Rho}
theorem StR.whole(S:StR K Z [] σ H R ρ):StR K ⟨H,H,λ_=>False,[]⟩ [] σ H H ρ:=
 ⟨λ_ _ z=>z,S.len,λj d hj z=>by
   obtain⟨v,h1,h2⟩:=S.env j d hj z
   exact⟨v,h1,h2.mono S.sub⟩,λi hi=>(nomatch hi),λi j hi _=>(nomatch hi),λ_ _ z _=>z,Same.refl _,λ_ z=>.inl z,λ_ z=>.refl z,λi hi _=>(nomatch hi),λi hi _=>(nomatch hi)⟩
theorem StR.lend{v:V}{d:D}(S:StR K Z [] σ H R ρ)(e:σ[j]? =some (some v))(r:Rp K R v d):StR K Z [] σ H R (ρ.set j (some d)):=
 ⟨S.sub,by rw[x4];exact S.len,λk d' hk z=>by
   by_cases q:j=k
   · subst q
     have hl:j<ρ.length:=by rw[<-S.len];exact(List.getElem?_eq_some_iff.mp e).1
     rw[jv hl]at z
     cases z
     exact⟨v,e,r⟩
   · rw[jd q]at z
     exact S.env k d' hk z,λi hi=>(nomatch hi),λi j hi _=>(nomatch hi),S.ah,S.ar,S.an,S.ad,λi hi _=>(nomatch hi),λi hi _=>(nomatch hi)⟩
theorem qgg{c:MC}{Z:Anc}{O':List Nat}{R R1:Hp}{E:Ends}{o:Out}(s:Same R R1)(k:E.ok c Z O' R o):E.ok c Z O' R1 o:=by
 cases o with
 |nx ρ'=>exact λσ2 H2 R2 S2 s2=>k σ2 H2 R2 S2 (s.trans s2)
 |bk ρ'=>exact λσ2 H2 R2 S2 s2=>k σ2 H2 R2 S2 (s.trans s2)
 |ct ρ'=>exact λσ2 H2 R2 S2 s2=>k σ2 H2 R2 S2 (s.trans s2)
 |rt d ρ'=>exact k
theorem qf6{tt:TT}{f:RhB}{b:Bool}{Q:Bool->Hp->Prop}{v:V}{d:D}(S:StR K Z [] σ H R ρ)(h:MT K [] tt f)(at':σ[i]? =some (some v))(r:Rp K H v d)(e:(f (ρ.set i (some d))).map (·.1)=some b)(k:∀H',Same H H'->StR K Z [] σ H' R ρ->Q b H'):tt σ H Q:=by
 cases z:f (ρ.set i (some d))with
 |none=>rw[z]at e;cases e
 | some p=>
   rw[z]at e
   have e':p=(b,p.2):=by rw[<-jb e]
   rw[e']at z
   refine h _ σ H H _ b p.2 Q (S.whole.lend at' r) z λH' R' S' st=>?_
   have sm:Same H H':=λa o z=>st.h a o z λi hi=>(nomatch hi)
   exact k H' sm (S.ext ⟨sm,Same.refl _,λa o z=>sm _ _ (S.sub _ _ z),λ_ z=>.inl z⟩)
def isDI:D->Bool
 |.dit gs=>(q1v (gs.map (·.2))).isSome
 |_=>false
theorem q5s{R R':Hp}:∀{kvs:List (List Key×V)} {gs:List (List Key×D)} {ns:List Int},Rkt K R kvs gs->q1v (gs.map (·.2))=some ns->Rkt K R' kvs gs
 |_,_,_,.nil,_=>.nil
 | _,(f,d)::gs,ns,.cons r t,e=>by
   rw[jg]at e
   dsimp only at e
   cases d with
   | int n=>
     obtain rfl:=r.isI
     unfold q1v at e
     obtain⟨ms,e2,_⟩:=Option.map_eq_some_iff.mp e
     exact .cons (.int _) (q5s t e2)
   |_=>cases e
theorem qlg{R R':Hp}{ds:List D}:∀{ps:List Addr},Rps K R (ps.map V.ref) ds->(ds.all isDI)=true->(∀p∈ps,∀kvs,R p=some (.dT kvs)->R' p=some (.dT kvs))->Rps K R' (ps.map V.ref) ds:=by
 induction ds with
 | nil=>
   intro ps r _ _
   cases ps with
   |nil=>exact .nil
   |cons p ps=>cases r
 | cons d ds ih=>
   intro ps r e k
   cases ps with
   |nil=>cases r
   | cons p ps=>
     rw[List.all_cons,Bool.and_eq_true]at e
     cases r with
     | cons r t=>
       refine .cons ?_ (ih t e.2 λp hp=>k p (jj _ hp))
       cases r with
       | dit h r=>
         obtain⟨ns,hn⟩:=Option.isSome_iff_exists.mp (show(q1v _).isSome=true from e.1)
         exact .dit (k p jf _ h) (q5s r hn)
       |_=>cases e.1
def k99:List Key:=[.inl 9,.inl 9]
def q2v(i j q:Nat)(P:Addr)(lp:Pos)(qq:Str)(g:List D->Option D)(fs:RhL)(fe:RhD)(ft1 ft2:RhB)(fr:RhO):RhO:=λρ=>match fs ρ with
 | some (ds,ρ1)=>(match ρ1[q]? with
   | some (some (.tab P' lp' q'))=>if P'=P/\lp'=lp/\q'=qq/\onTs ds=true/\i<ρ1.length then(match g ds with
     | some (.lst (.dit g0::es))=>(match fe (ρ1.set i none)with
       |some (d2,ρ2)=>if(isDI (.dit g0)&&es.all isDI)=true/\g0.length<sizeLine/\es.length+1<sizeLine/\(ft1 ((ρ2.set j (some d2)).set i (some (.lst (.dit g0::es))))).map (·.1)=some false/\
           (ft2 ((ρ2.set j (some d2)).set i (some (.lst (.dit (putD g0 k99 (.int 1))::es))))).map (·.1)=some false then fr (ρ2.set j (some d2))else none
       |none=>none)
     |_=>none)else none
   |_=>none)
 |none=>none
theorem qbn{c:MC}{O':List Nat}{P:Addr}{lp:Pos}{qq:Str}{g:List D->Option D}{fs:RhL}{fe:RhD}{ft1 ft2:RhB}{fr:RhO}{tr:TA}{te:TE}{tt1 tt2:TT}{tf tf2 tu:TS}{EX:XK}(hg:q1s 2 g)(ha:MA c.K [] tr fs)(ij:i≠j)(he:ME c.K [] te fe)(h1:MT c.K [] tt1 ft1)(h2:MT c.K [] tt2 ft2)(hr:MS c [] O' tu fr):
   MS c [] O' (tSeq (tAsg (q4e (spFB c.K P lp qq 2 g) [] EX tr) (q36 i)) (tSeq (tAsg te (q36 j)) (tSeq (tIfS tt1 tf qdf) (tSeq (qfw (tOp (rIx c.K) (tVar i) (tC (.int 0))) (tTup (q23 (tC (.int 9)) (q23 (tC (.int 9)) tNil))) (tC (.int 1))) (tSeq (tIfS tt2 tf2 qdf)
     (tSeq (qaj (tBM c.K "list" q5t (tVar i) (q23 qak tNil))) tu)))))) (q2v i j q P lp qq g fs fe ft1 ft2 fr):=λZ E σ H R ρ o hP S e k=>by
 unfold q2v at e
 split at e
 · rename_i ds ρ1 e0
   split at e
   · rename_i P' lp' q' eq
     split at e
     · rename_i z
       obtain⟨rfl,rfl,rfl,hT,il⟩:=z
       split at e
       · rename_i g0 es eg
         split at e
         · rename_i d2 ρ2 e2
           split at e
           · rename_i z
             obtain⟨zi,zg,ze,z1,z2⟩:=z
             rw[Bool.and_eq_true]at zi
             refine ha Z σ H R ρ ds ρ1 _ S e0 λvs H1 R1 S1 st1 r1=>?_
             obtain⟨_,_,rt⟩:=S1.env q _ (λh=>nomatch h) eq
             cases rt with
             |tab hP1=>
             show spFB c.K P' lp' q' 2 g (vs++[]) H1 _ EX
             rw[List.append_nil]
             refine⟨by rw[r1.length];exact hg ds _ eg,tupR R1,ds,_,λa o h=>S1.sub _ _ (qdd h).1,qig hP1,r1.tups hT,eg,λl ps H2 R2 x hl hl' lr rs nd f0 f3=>?_⟩
             cases ps with
             |nil=>cases rs
             |cons p0 ps=>
             have rs0:=rs
             cases rs with
             |cons rp0 rs=>
             cases rp0 with
             |@dit _ kvs0 _ h0 rk0=>
             have p0n:H1 p0=none:=f0 p0 jf
             have s2:Same H1 H2:=x.h
             have S2:StR c.K Z [] (σ.set i (some (.ref l))) H2 R1 (ρ1.set i none):=(S1.ext (H':=H2) (R':=R1) ⟨s2,Same.refl _,λa o h=>s2 _ _ (S1.sub _ _ h),λ_ h=>.inl h⟩).blind (λh=>nomatch h)
             have isg:(σ.set i (some (V.ref l)))[i]? =some (some (.ref l)):=jv (by rw[S1.len];exact il)
             refine he Z _ H2 R1 _ d2 ρ2 _ S2 e2 λv2 H3 R3 S3 st3 r3=>?_
             have s3:Same H2 H3:=λa o h=>st3.h a o h λi hi=>(nomatch hi)
             have off:∀a o,H2 a=some o->(∀xs,o≠.tup xs)->H1 a=none->R3 a=none:=λa o h nt n1=>by
               cases w:R3 a with
               |none=>rfl
               | some u=>
                 rcases st3.n a (by rw[w];exact λz=>nomatch z)with w2|w2|⟨xs,w2⟩
                 · exact absurd (S1.out n1) w2
                 · rw[h]at w2;cases w2
                 · rw[h]at w2;exact absurd (jb w2) (nt xs)
             have hp2:H2 p0=some (.dT kvs0):=x.s _ _ h0
             have R3l:=off l _ hl' (λxs z=>nomatch z) hl
             have R3p:=off p0 _ hp2 (λxs z=>nomatch z) p0n
             have Zl:=S1.new0 hl
             have Zp:=S1.new0 p0n
             have S4:=S3.set (i:=j) (v:=v2) (d:=d2) (λh=>nomatch h) r3
             have jsg:((σ.set i (some (V.ref l))).set j (some v2))[i]? =some (some (.ref l)):=by rw[jd (Ne.symm ij)];exact isg
             have rA:Rp c.K H3 (.ref l) (.lst (.dit g0::es)):=.lst (SqL.of (s3 _ _ hl')) (rs0.mono λa o h=>s3 _ _ (x.s _ _ h))
             refine qf6 S4 h1 jsg rA z1 λH4 s4 S4=>iteF ?_
             have hl4:=s4 _ _ (s3 _ _ hl')
             have hp4:=s4 _ _ (s3 _ _ hp2)
             refine⟨.ref l,jsg,.inl ⟨l,_,0,.ref p0,rfl,rfl,SqL.of hl4,(by simp[atI,ixN]),show 2<=sizeLine by omega,λt ht=>⟨p0,_,rfl,DPut.t (k:=k99) (by rw[q05 λz=>by rw[z,ht]at hp4;cases hp4];exact hp4) q0a (by rw[rk0.length];exact zg),?_⟩⟩⟩
             have pt:p0≠t:=λz=>by rw[z,ht]at hp4;cases hp4
             have lt:l≠t:=λz=>by rw[z,ht]at hl4;cases hl4
             have pl:p0≠l:=f3 p0 jf
             have S5:=(S4.ext (Ext.hid (o:=.tup [V.int 9,V.int 9]) S4.sub ht)).put (o:=.dT (putK kvs0 k99 (.int 1))) R3p (λi hi=>nomatch hi) Zp
             have nin:p0∉ps:=(List.nodup_cons.mp nd).1
             have rB:Rp c.K (upd (upd H4 t (.tup [V.int 9,V.int 9])) p0 (.dT (putK kvs0 k99 (.int 1)))) (.ref l) (.lst (.dit (putD g0 k99 (.int 1))::es)):=by
               refine .lst (SqL.of (xs:=.ref p0::ps.map V.ref) (by rw[q05 (Ne.symm pl),q05 lt];exact hl4)) (.cons (.dit q0a ?_) ?_)
               · obtain⟨ns,hn⟩:=Option.isSome_iff_exists.mp (show(q1v _).isSome=true from zi.1)
                 exact(q5s rk0 hn).put (.int 1)
               · refine qlg rs zi.2 λp hp kvs h=>?_
                 have h4:=s4 _ _ (s3 _ _ (x.s _ _ h))
                 rw[q05 (show p≠p0 from λz=>nin (by rw[<-z];exact hp)),q05 (show p≠t from λz=>by rw[z,ht]at h4;cases h4)]
                 exact h4
             refine qf6 S5 h2 jsg rB z2 λH6 s6 S6=>iteF ?_
             have hl6:H6 l=some (.lst (.ref p0::ps.map V.ref)):=s6 _ _ (by rw[q05 (Ne.symm pl),q05 lt];exact hl4)
             refine⟨.ref l,jsg,.inl ⟨rfl,_,SqL.of hl6⟩,λt2 ht2=>?_⟩
             have l2:l≠t2:=λz=>by rw[z,ht2]at hl6;cases hl6
             have lps:=rs.length
             refine⟨l,_,.ref t2,rfl,rfl,by rw[q05 l2];exact hl6,by rw[jk,lps];exact ze,?_⟩
             have S7:=(S6.ext (Ext.hid (o:=.dT []) S6.sub ht2)).put (o:=.lst (.ref p0::ps.map V.ref++[.ref t2])) R3l (λi hi=>nomatch hi) Zl
             exact hr Z E _ _ R3 _ o hP S7 e (qgg (st1.r.trans st3.r) k)
           · cases e
         · cases e
       · cases e
     · cases e
   · cases e
 · cases e
end
section
variable{X:Cx}{tg elt z9:Expr}{ifs:List Expr}{scope:Scope}{pos:Pos}{N N0:List Str}{js:List Nat}{sc:Scope}{wi:TI}{g:TG}{tt:TT}{te:TE}
end
end L2
namespace L2
open PySem
def q0t(r:Int)(N:Nat):List (List Int):=(List.range N).flatMap λ(p:Nat)=>(List.range (2^r.toNat-1:Int).toNat).map λ(q:Nat)=>[(p:Int),1+(q:Int)]
def qbh(taps:List Int)(rows:List (List Int))(p w:Int):Int:=(q57 (rowAt rows p.toNat) (taps.map (sgn w))).sum
def q58(r:Int)(taps:List Int)(rows:List (List Int))(p q b:Int):Int×Int×List Int:=(b,qbh taps rows p (2*q+b),[(p+1) % (rows.length:Nat),(2*q+b) % 2^r.toNat])
def q0z(r:Int)(taps:List Int)(rows:List (List Int))(n:List Int):List (Int×Int×List Int):=([0,1].filter λb=>decide ((2*n.getD 1 0+b) % 2^r.toNat≠0)).map (q58 r taps rows (n.getD 0 0) (n.getD 1 0))
def q1q(p:Int×Int×List Int):D:=.tup [.int p.1,.int p.2.1,tupD p.2.2]
def rowF(r:Int)(taps:List Int)(rows:List (List Int)):Nat->List Int->Int
 |0,_=>0
 |k+1,n=>(minI ((q0z r taps rows n).map λp=>p.2.1+rowF r taps rows k p.2.2)).getD 0
def q2n(r:Int)(taps:List Int)(rows:List (List Int))(k:Nat)(n:List Int):List Int:=(q0z r taps rows n).map λp=>p.2.1+rowF r taps rows k p.2.2
def q87(r:Int)(taps:List Int)(rows:List (List Int))(k:Nat)(n:List Int):Int×Int×List Int:=(q0z r taps rows n).getD (argBest (btI (q2n r taps rows k n)) ((q0z r taps rows n).length-1)) (0,0,[])
section
variable{r:Int}{taps:List Int}{rows:List (List Int)}{e:Str}
theorem mem_nodes{N:Nat}{n:List Int}:n∈q0t r N↔∃p q:Int,n=[p,q]/\0<=p/\p<(N:Int)/\1<=q/\q<2^r.toNat:=by
 unfold q0t
 rw[List.mem_flatMap]
 constructor
 · rintro⟨p,hp,h⟩
   obtain⟨q,hq,rfl⟩:=List.mem_map.mp h
   rw[List.mem_range]at hp hq
   exact⟨_,_,rfl,by omega,by omega,by omega,by omega⟩
 · rintro⟨p,q,rfl,p0,p1,q0,q1⟩
   refine⟨p.toNat,List.mem_range.mpr (by omega),List.mem_map.mpr ⟨(q-1).toNat,List.mem_range.mpr (by omega),?_⟩⟩
   congr 1
   · omega
   · congr 1;omega
theorem q20(N:Nat):(q0t r N).Nodup:=by
 unfold q0t
 refine List.pairwise_flatMap.mpr ⟨λp _=>?_,?_⟩
 · refine List.pairwise_map.mpr (List.Pairwise.imp ?_ (List.nodup_range (n:=(2^r.toNat-1:Int).toNat)))
   intro a b hab h
   injection h with _ h
   injection h with h _
   exact hab (by omega)
 · refine List.Pairwise.imp ?_ (List.nodup_range (n:=N))
   intro a b hab
   intro x hx y hy hxy
   subst hxy
   obtain⟨_,_,rfl⟩:=List.mem_map.mp hx
   obtain⟨_,_,h⟩:=List.mem_map.mp hy
   injection h with h _
   exact hab (by omega)
theorem q21(r0:0<=r)(r4:r<=4){N:Nat}(h:N<=6):(q0t r N).length<=1000:=by
 have p16:=q4t r0 r4
 have:=q96 (λ(p:Nat)=>(List.range (2^r.toNat-1:Int).toNat).map λ(q:Nat)=>[(p:Int),1+(q:Int)]) 16 (λk=>by rw[j9,List.length_range];omega) N
 unfold q0t
 omega
theorem q5w(ok:q1w r taps rows e){n:List Int}(hn:n∈q0t r rows.length){p:Int×Int×List Int}(h:p∈q0z r taps rows n):p.2.2∈q0t r rows.length/\(p.1=0∨p.1=1)/\p=q58 r taps rows (n.getD 0 0) (n.getD 1 0) p.1/\(2*n.getD 1 0+p.1) % 2^r.toNat≠0:=by
 obtain⟨b,hb,rfl⟩:=List.mem_map.mp h
 rw[List.mem_filter]at hb
 obtain⟨h1,h2⟩:=hb
 have h2:=of_decide_eq_true h2
 have m0:(0:Int)<2^r.toNat:=Int.pow_pos (by decide)
 have n0:(0:Int)<(rows.length:Nat):=by have:=ok.m1;omega
 refine⟨mem_nodes.mpr ⟨_,_,rfl,Int.emod_nonneg _ (by omega),Int.emod_lt_of_pos _ n0,?_,Int.emod_lt_of_pos _ m0⟩,by simpa[q58]using h1,rfl,h2⟩
 have:=Int.emod_nonneg (2*n.getD 1 0+b) (show(2:Int)^r.toNat≠0 by omega)
 omega
theorem q7t(r0:0<=r){N:Nat}{n:List Int}(hn:n∈q0t r N):q0z r taps rows n≠[]:=by
 obtain⟨p,q,rfl,_,_,h1,h2⟩:=mem_nodes.mp hn
 intro z
 have:q58 r taps rows p q 1∈q0z r taps rows [p,q]:=by
   refine List.mem_map.mpr ⟨1,List.mem_filter.mpr ⟨by simp,decide_eq_true ?_⟩,rfl⟩
   show(2*q+1) % 2^r.toNat≠0
   cases hk:r.toNat with
   |zero=>rw[hk]at h2;simp at h2;omega
   | succ k=>
     intro h
     have e2:(2:Int)^(k+1)=2^k*2:=Int.pow_succ ..
     have e3:(2:Int) ∣ 2^k*2:=Int.dvd_mul_left _ _
     have:=Int.emod_emod_of_dvd (2*q+1) e3
     rw[<-e2,h]at this
     omega
 rw[z]at this
 exact nomatch this
theorem qd1(r0:0<=r){N:Nat}{n:List Int}(hn:n∈q0t r N)(k:Nat):q87 r taps rows k n∈q0z r taps rows n/\(q87 r taps rows k n).2.1+rowF r taps rows k (q87 r taps rows k n).2.2=rowF r taps rows (k+1) n/\(q0z r taps rows n)[argBest (btI (q2n r taps rows k n)) ((q0z r taps rows n).length-1)]? =some (q87 r taps rows k n):=by
 have hne:=q7t (taps:=taps) (rows:=rows) r0 hn
 have hp:0<(q0z r taps rows n).length:=List.length_pos_iff.mpr hne
 have hk:(q2n r taps rows k n).length=(q0z r taps rows n).length:=by unfold q2n;rw[j9]
 obtain⟨h1,_⟩:=qa8 (lt:=λ(x y:Int)=>decide (x<y)) (f:=λi=>(q2n r taps rows k n).getD i 0) (λa=>by simp) (λa b c=>by simp;omega) ((q0z r taps rows n).length-1)
 have h1:argBest (btI (q2n r taps rows k n)) ((q0z r taps rows n).length-1)<=(q0z r taps rows n).length-1:=h1
 have hb:argBest (btI (q2n r taps rows k n)) ((q0z r taps rows n).length-1)<(q0z r taps rows n).length:=by omega
 have e1:q87 r taps rows k n=(q0z r taps rows n)[argBest (btI (q2n r taps rows k n)) ((q0z r taps rows n).length-1)]:=by
   unfold q87
   rw[kf,jw hb]
   rfl
 refine⟨by rw[e1];exact List.getElem_mem hb,?_,by rw[e1];exact jw hb⟩
 have e2:rowF r taps rows (k+1) n=(minI (q2n r taps rows k n)).getD 0:=rfl
 have e3:minI (q2n r taps rows k n)=some ((q2n r taps rows k n).getD (argBest (btI (q2n r taps rows k n)) ((q2n r taps rows k n).length-1)) 0):=by
   cases hq:q2n r taps rows k n with
   |nil=>rw[hq]at hk;simp at hk;omega
   |cons a b=>rfl
 rw[e2,e3,hk]
 show _=(q2n r taps rows k n).getD (argBest (btI (q2n r taps rows k n)) ((q0z r taps rows n).length-1)) 0
 generalize argBest (btI (q2n r taps rows k n)) ((q0z r taps rows n).length-1)=i at hb e1 ⊢
 have e4:(q2n r taps rows k n)[i]? =some ((q0z r taps rows n)[i].2.1+rowF r taps rows k (q0z r taps rows n)[i].2.2):=by
   unfold q2n
   rw[ju,jw hb]
   rfl
 rw[kf,e4,e1]
 rfl
theorem q41{α:Type}{f:α->D}:∀{xs:List α},(∀x∈xs,q1r (f x)=true)->noTabs (xs.map f)=true
 |[],_=>by rw[List.map_nil,noTabs]
 | x::r,h=>by
   rw[jg,noTabs,h x jf,q41 λy hy=>h y (jj _ hy)]
   rfl
theorem q3s(i:Int):q1r (.int i)=true:=by rw[q1r]
theorem qbk(n:List Int):q1r (tupD n)=true:=by
 unfold tupD
 rw[q1r]
 exact q41 λx _=>q3s x
theorem q9u(p:Int×Int×List Int):q1r (q1q p)=true:=by
 unfold q1q
 rw[q1r,noTabs,noTabs,noTabs,noTabs,q3s,q3s,qbk]
 rfl
theorem q5h{f:List Int->D}:∀{ns:List (List Int)},(∀n∈ns,q1r (f n)=true)->q4w (ns.map λn=>(ky n,f n))=true
 |[],_=>by rw[List.map_nil,q4w]
 | n::r,h=>by
   rw[jg,q4w,h n jf,q5h λy hy=>h y (jj _ hy)]
   rfl
theorem qbl{f:List Int->D}{ns:List (List Int)}(h:∀n∈ns,q1r (f n)=true):q1r (dctD f ns)=true:=by
 unfold dctD
 rw[q1r]
 exact q5h h
theorem q8f(g:Int->Int):∀(taps row:List Int),(∀b∈row,b=0∨b=1)->(q57 row (taps.map g)).sum=((taps.zip row).map λq=>g q.1*q.2).sum
 |[],_,_=>rfl
 |t::ts,[],_=>by rw[q6o];rfl
 | t::ts,b::bs,h=>by
   have ih:=q8f g ts bs λx hx=>h x (jj _ hx)
   rw[q6o]at ih ⊢
   rw[List.zip_cons_cons,jg,List.sum_cons,<-ih,List.filter_cons]
   rcases h b jf with rfl|rfl
   · rw[if_neg (show¬((0:Int)==1)=true from by decide)];simp
   · rw[if_pos (show((1:Int)==1)=true from by decide),jg,List.sum_cons];simp
end
end L2
namespace K32
open PySem L2
local macro_rules|`(tactic|walk_at "ev")=>`(tactic|simp[runS,runP,qb0,q0n,qfc,q1d,qci,ql4,ql5,ql9,qhb,ql6,qmn,qhq,qhl,ql7,qhn,ql1,ql8,qmo,qhp,qej,qei,qho,qfb,qcl,qck,ql0,qcm,ql2,qcj,qhc,qhe,qhk,ql3,qhd,qee,qhf,qhg,qhi,qed,qhh,qhm,qhj,q0r,ixO,blO,lsO,qby,rng1,rng2,zip2,inO,setI,q2p,q0g,q2f,dI2,dI0,dB0,dAdd,q3x,dIx,dLen,dInt,dSum,dAll,q22,dSeq,qcp,dNeg,dIsi,tyN,q24,q1e,qgh,q8t,qk0,qgi,q9s,qjz,at0,at1,at2,ixN,dEq,dNe,qhr,qeh,qeg,qef,q64,q79,tabO,ditO,q2g,q53,qa5,qb1,q6h,goFD, *])
local macro_rules|`(tactic|walk_at "sc")=>`(tactic|exact⟨rfl,rfl,rfl,by decide+kernel,rfl,by decide+kernel,by decide+kernel⟩)
local macro_rules|`(tactic|walk_at "lr")=>`(tactic|first|exact Or.inl rfl|exact Or.inr rfl)
def top(i:Nat):Stmt:=PySem.Challenge.pw_trellisway_k32_fewest_walked.main.body.getD i (.Pass ⟨0,0,0,0⟩)
abbrev s_y0:Stmt:=top 1
theorem qly:q0s ["reach"] ["reach"] (q04 s_y0):=by walk_at "sc"
abbrev s_y1:Stmt:=top 2
theorem qlx:q0s ["scheme"] ["scheme"] (q04 s_y1):=by walk_at "sc"
abbrev s_y2:Stmt:=top 3
theorem sc_y2:q0s ["number","left","odd"] ["number"] (q04 s_y2):=by walk_at "sc"
abbrev s_y3:Stmt:=top 4
theorem sc_y3:q0s ["scheme","room","bit","window","signs"] ["scheme","room","bit"] (q04 s_y3):=by walk_at "sc"
abbrev s_y4:Stmt:=top 5
theorem sc_y4:q0s ["scheme","number","signs","rows","row"] ["scheme","number","signs"] (q04 s_y4):=by walk_at "sc"
abbrev s_y5:Stmt:=top 7
theorem sc_y5:q0s ["scheme","found","phase"] ["scheme"] (q04 s_y5):=by walk_at "sc"
abbrev s_y6:Stmt:=top 8
theorem sc_y6:q0s ["scheme","node","phase","found","bit","led","ones"] ["scheme","node"] (q04 s_y6):=by walk_at "sc"
abbrev s_y7:Stmt:=top 9
theorem sc_y7:q0s ["scheme","found","node"] ["scheme"] (q04 s_y7):=by walk_at "sc"
abbrev s_y8:Stmt:=top 11
theorem qlw:q0s ["pace","behind"] ["pace","behind"] (q04 s_y8):=by walk_at "sc"
abbrev s_y9:Stmt:=top 12
theorem qlv:q0s ["paces","behind"] ["paces","behind"] (q04 s_y9):=by walk_at "sc"
abbrev qax:Stmt:=top 13
theorem sc_y10:q0s ["paces_by_node","found","node"] ["paces_by_node"] (q04 qax):=by walk_at "sc"
abbrev qaw:Stmt:=top 14
theorem sc_y11:q0s ["paces_by_node","behind","found","node","paces","@t"] ["paces_by_node","behind"] (q04 qaw):=by walk_at "sc"
abbrev qav:Stmt:=top 15
theorem sc_y12:q0s ["paces_by_node","steps","found","@t"] ["paces_by_node","steps"] (q04 qav):=by walk_at "sc"
abbrev qau:Stmt:=top 16
theorem qip:q0s ["scheme","steps","@t"] ["scheme","steps"] (q04 qau):=by walk_at "sc"
abbrev qat:Stmt:=top 18
theorem qio:q0s ["_law_state","_law_many"] ["_law_state","_law_many"] (q04 qat):=by walk_at "sc"
abbrev q6g:Stmt:=top 19
theorem sc_y15:q0s ["_law_state","_law_most","_law_ending","_law_reach","_law_taps","_law_rows_here","_law_k"] ["_law_state","_law_most","_law_ending"] (q04 q6g):=by walk_at "sc"
abbrev q9o:Stmt:=top 20
theorem sc_y16:q0s ["_law_scheme_here","_law_room","_law_bit","_law_phase","_law_shifted","_law_ones","_law_tap","_law_keeps","_law_odd"] ["_law_scheme_here","_law_room","_law_bit","_law_phase"] (q04 q9o):=by walk_at "sc"
abbrev q9n:Stmt:=top 21
theorem sc_y17:q0s ["_law_scheme_here","_law_some","_law_phase"] ["_law_scheme_here"] (q04 q9n):=by walk_at "sc"
abbrev qas:Stmt:=top 22
theorem sc_y18:q0s ["_law_scheme_here","_law_node","_law_some","_law_bit","_law_room","_law_ones"] ["_law_scheme_here","_law_node"] (q04 qas):=by walk_at "sc"
abbrev q9m:Stmt:=top 23
theorem sc_y19:q0s ["_law_scheme_here","_law_many","_law_ways_here","_law_row","_law_node","_law_some","_law_k"] ["_law_scheme_here","_law_many"] (q04 q9m):=by walk_at "sc"
abbrev q9l:Stmt:=top 24
theorem sc_y20:q0s ["_law_told","_law_due","_law_one","_law_other"] ["_law_told","_law_due"] (q04 q9l):=by walk_at "sc"
abbrev qay:Stmt:=top 25
theorem sc_law:q0s ["_law_script","_law_cell","_law_state","_law_scheme_here","_law_many","_law_told","_law_due","@t"] ["_law_script"] (q04 qay):=by walk_at "sc"
structure Ad where
 f_y0:Addr
 fd_y0:FuncData
 f_y1:Addr
 fd_y1:FuncData
 f_y2:Addr
 fd_y2:FuncData
 f_y3:Addr
 fd_y3:FuncData
 f_y4:Addr
 fd_y4:FuncData
 f_y5:Addr
 fd_y5:FuncData
 f_y6:Addr
 fd_y6:FuncData
 f_y7:Addr
 fd_y7:FuncData
 f_y8:Addr
 fd_y8:FuncData
 f_y9:Addr
 fd_y9:FuncData
 f_y10:Addr
 fd_y10:FuncData
 f_y11:Addr
 fd_y11:FuncData
 f_y12:Addr
 fd_y12:FuncData
 f_y13:Addr
 fd_y13:FuncData
 f_y14:Addr
 fd_y14:FuncData
 f_y15:Addr
 fd_y15:FuncData
 f_y16:Addr
 fd_y16:FuncData
 f_y17:Addr
 fd_y17:FuncData
 f_y18:Addr
 fd_y18:FuncData
 f_y19:Addr
 fd_y19:FuncData
 f_y20:Addr
 fd_y20:FuncData
 f_law:Addr
 fd_law:FuncData
 t_y9:Addr
 c_y9:Addr
structure Txt(K:PySem.W.Frag)(mg:Str->Option Value)(a:Ad):Prop where
 F_y0:Fun K "rooms_at" "rooms_at" s_y0 a.f_y0 a.fd_y0
 B_y0:Binds K a.fd_y0 ["reach"] []
 mg_y0:mg "rooms_at"=some (.ref a.f_y0)
 kp_y0:PySem.W.keepIn K (.ref a.f_y0)=true
 F_y1:Fun K "rooms" "rooms" s_y1 a.f_y1 a.fd_y1
 B_y1:Binds K a.fd_y1 ["scheme"] []
 mg_y1:mg "rooms"=some (.ref a.f_y1)
 kp_y1:PySem.W.keepIn K (.ref a.f_y1)=true
 F_y2:Fun K "parity" "parity" s_y2 a.f_y2 a.fd_y2
 B_y2:Binds K a.fd_y2 ["number"] []
 mg_y2:mg "parity"=some (.ref a.f_y2)
 kp_y2:PySem.W.keepIn K (.ref a.f_y2)=true
 F_y3:Fun K "step" "step" s_y3 a.f_y3 a.fd_y3
 B_y3:Binds K a.fd_y3 ["scheme","room","bit"] []
 mg_y3:mg "step"=some (.ref a.f_y3)
 kp_y3:PySem.W.keepIn K (.ref a.f_y3)=true
 F_y4:Fun K "sent_at" "sent_at" s_y4 a.f_y4 a.fd_y4
 B_y4:Binds K a.fd_y4 ["scheme","number","signs"] []
 mg_y4:mg "sent_at"=some (.ref a.f_y4)
 kp_y4:PySem.W.keepIn K (.ref a.f_y4)=true
 F_y5:Fun K "nodes_of" "nodes_of" s_y5 a.f_y5 a.fd_y5
 B_y5:Binds K a.fd_y5 ["scheme"] []
 mg_y5:mg "nodes_of"=some (.ref a.f_y5)
 kp_y5:PySem.W.keepIn K (.ref a.f_y5)=true
 F_y6:Fun K "paces_from" "paces_from" s_y6 a.f_y6 a.fd_y6
 B_y6:Binds K a.fd_y6 ["scheme","node"] []
 mg_y6:mg "paces_from"=some (.ref a.f_y6)
 kp_y6:PySem.W.keepIn K (.ref a.f_y6)=true
 F_y7:Fun K "paces_of" "paces_of" s_y7 a.f_y7 a.fd_y7
 B_y7:Binds K a.fd_y7 ["scheme"] []
 mg_y7:mg "paces_of"=some (.ref a.f_y7)
 kp_y7:PySem.W.keepIn K (.ref a.f_y7)=true
 F_y8:Fun K "ones_by" "ones_by" s_y8 a.f_y8 a.fd_y8
 B_y8:Binds K a.fd_y8 ["pace","behind"] []
 mg_y8:mg "ones_by"=some (.ref a.f_y8)
 kp_y8:PySem.W.keepIn K (.ref a.f_y8)=true
 F_y9:Fun K "best_pace" "best_pace" s_y9 a.f_y9 a.fd_y9
 B_y9:Binds K a.fd_y9 ["paces","behind"] []
 mg_y9:mg "best_pace"=some (.ref a.f_y9)
 kp_y9:PySem.W.keepIn K (.ref a.f_y9)=true
 F_y10:Fun K "no_ones" "no_ones" qax a.f_y10 a.fd_y10
 B_y10:Binds K a.fd_y10 ["paces_by_node"] []
 mg_y10:mg "no_ones"=some (.ref a.f_y10)
 kp_y10:PySem.W.keepIn K (.ref a.f_y10)=true
 F_y11:Fun K "fewest_before" "fewest_before" qaw a.f_y11 a.fd_y11
 B_y11:Binds K a.fd_y11 ["paces_by_node","behind"] []
 mg_y11:mg "fewest_before"=some (.ref a.f_y11)
 kp_y11:PySem.W.keepIn K (.ref a.f_y11)=true
 F_y12:Fun K "fewest_by" "fewest_by" qav a.f_y12 a.fd_y12
 B_y12:Binds K a.fd_y12 ["paces_by_node","steps"] []
 mg_y12:mg "fewest_by"=some (.ref a.f_y12)
 kp_y12:PySem.W.keepIn K (.ref a.f_y12)=true
 F_y13:Fun K "fewest" "fewest" qau a.f_y13 a.fd_y13
 B_y13:Binds K a.fd_y13 ["scheme","steps"] []
 mg_y13:mg "fewest"=some (.ref a.f_y13)
 kp_y13:PySem.W.keepIn K (.ref a.f_y13)=true
 F_y14:Fun K "_law_next" "_law_next" qat a.f_y14 a.fd_y14
 B_y14:Binds K a.fd_y14 ["_law_state","_law_many"] []
 mg_y14:mg "_law_next"=some (.ref a.f_y14)
 kp_y14:PySem.W.keepIn K (.ref a.f_y14)=true
 F_y15:Fun K "_law_scheme" "_law_scheme" q6g a.f_y15 a.fd_y15
 B_y15:Binds K a.fd_y15 ["_law_state","_law_most","_law_ending"] []
 mg_y15:mg "_law_scheme"=some (.ref a.f_y15)
 kp_y15:PySem.W.keepIn K (.ref a.f_y15)=true
 F_y16:Fun K "_law_led" "_law_led" q9o a.f_y16 a.fd_y16
 B_y16:Binds K a.fd_y16 ["_law_scheme_here","_law_room","_law_bit","_law_phase"] []
 mg_y16:mg "_law_led"=some (.ref a.f_y16)
 kp_y16:PySem.W.keepIn K (.ref a.f_y16)=true
 F_y17:Fun K "_law_nodes" "_law_nodes" q9n a.f_y17 a.fd_y17
 B_y17:Binds K a.fd_y17 ["_law_scheme_here"] []
 mg_y17:mg "_law_nodes"=some (.ref a.f_y17)
 kp_y17:PySem.W.keepIn K (.ref a.f_y17)=true
 F_y18:Fun K "_law_ways" "_law_ways" qas a.f_y18 a.fd_y18
 B_y18:Binds K a.fd_y18 ["_law_scheme_here","_law_node"] []
 mg_y18:mg "_law_ways"=some (.ref a.f_y18)
 kp_y18:PySem.W.keepIn K (.ref a.f_y18)=true
 F_y19:Fun K "_law_rows" "_law_rows" q9m a.f_y19 a.fd_y19
 B_y19:Binds K a.fd_y19 ["_law_scheme_here","_law_many"] []
 mg_y19:mg "_law_rows"=some (.ref a.f_y19)
 kp_y19:PySem.W.keepIn K (.ref a.f_y19)=true
 F_y20:Fun K "_law_right" "_law_right" q9l a.f_y20 a.fd_y20
 B_y20:Binds K a.fd_y20 ["_law_told","_law_due"] []
 mg_y20:mg "_law_right"=some (.ref a.f_y20)
 kp_y20:PySem.W.keepIn K (.ref a.f_y20)=true
 F_law:Fun K "law" "law" qay a.f_law a.fd_law
 B_law:Binds K a.fd_law ["_law_script"] []
 mg_law:mg "law"=some (.ref a.f_law)
 kp_law:PySem.W.keepIn K (.ref a.f_law)=true
 cd_y9:a.fd_y9.code=.ref a.c_y9
 ch_y9:∀h:Heap,K.In h->PySem.W.CodeHd h a.c_y9 a.t_y9
 bt_y9:∀h:Heap,K.In h->h.BuiltinsAt mg a.t_y9
 z_all:mg "all"=none
 z_bool:mg "bool"=none
 z_dict:mg "dict"=none
 z_int:mg "int"=none
 z_isinstance:mg "isinstance"=none
 z_len:mg "len"=none
 z_list:mg "list"=none
 z_min:mg "min"=none
 z_range:mg "range"=none
 z_sum:mg "sum"=none
 z_tuple:mg "tuple"=none
 z_zip:mg "zip"=none
 kit_ty_NoneType_ty_bool:PySem.W.kitOne K (.type "NoneType") (.type "bool")=some false
 kit_ty_bool_ty_bool:PySem.W.kitOne K (.type "bool") (.type "bool")=some true
 kit_ty_int_ty_bool:PySem.W.kitOne K (.type "int") (.type "bool")=some false
 kit_ty_str_ty_bool:PySem.W.kitOne K (.type "str") (.type "bool")=some false
 kit_ty_list_ty_bool:PySem.W.kitOne K (.type "list") (.type "bool")=some false
 kit_ty_tuple_ty_bool:PySem.W.kitOne K (.type "tuple") (.type "bool")=some false
 kit_ty_dict_ty_bool:PySem.W.kitOne K (.type "dict") (.type "bool")=some false
 kit_ty_NoneType_ty_dict:PySem.W.kitOne K (.type "NoneType") (.type "dict")=some false
 kit_ty_bool_ty_dict:PySem.W.kitOne K (.type "bool") (.type "dict")=some false
 kit_ty_int_ty_dict:PySem.W.kitOne K (.type "int") (.type "dict")=some false
 kit_ty_str_ty_dict:PySem.W.kitOne K (.type "str") (.type "dict")=some false
 kit_ty_list_ty_dict:PySem.W.kitOne K (.type "list") (.type "dict")=some false
 kit_ty_tuple_ty_dict:PySem.W.kitOne K (.type "tuple") (.type "dict")=some false
 kit_ty_dict_ty_dict:PySem.W.kitOne K (.type "dict") (.type "dict")=some true
 kit_ty_NoneType_ty_int:PySem.W.kitOne K (.type "NoneType") (.type "int")=some false
 kit_ty_bool_ty_int:PySem.W.kitOne K (.type "bool") (.type "int")=some true
 kit_ty_int_ty_int:PySem.W.kitOne K (.type "int") (.type "int")=some true
 kit_ty_str_ty_int:PySem.W.kitOne K (.type "str") (.type "int")=some false
 kit_ty_list_ty_int:PySem.W.kitOne K (.type "list") (.type "int")=some false
 kit_ty_tuple_ty_int:PySem.W.kitOne K (.type "tuple") (.type "int")=some false
 kit_ty_dict_ty_int:PySem.W.kitOne K (.type "dict") (.type "int")=some false
 kit_ty_NoneType_ty_list:PySem.W.kitOne K (.type "NoneType") (.type "list")=some false
 kit_ty_bool_ty_list:PySem.W.kitOne K (.type "bool") (.type "list")=some false
 kit_ty_int_ty_list:PySem.W.kitOne K (.type "int") (.type "list")=some false
 kit_ty_str_ty_list:PySem.W.kitOne K (.type "str") (.type "list")=some false
 kit_ty_list_ty_list:PySem.W.kitOne K (.type "list") (.type "list")=some true
 kit_ty_tuple_ty_list:PySem.W.kitOne K (.type "tuple") (.type "list")=some false
 kit_ty_dict_ty_list:PySem.W.kitOne K (.type "dict") (.type "list")=some false
theorem qe9{K:PySem.W.Frag}{mg:Str->Option Value}{a:Ad}(T:Txt K mg a):KitB K "bool" (q24 "bool"):=q60 T.kit_ty_NoneType_ty_bool T.kit_ty_bool_ty_bool T.kit_ty_int_ty_bool T.kit_ty_str_ty_bool T.kit_ty_list_ty_bool T.kit_ty_tuple_ty_bool T.kit_ty_dict_ty_bool
theorem qe8{K:PySem.W.Frag}{mg:Str->Option Value}{a:Ad}(T:Txt K mg a):KitB K "dict" (q24 "dict"):=q60 T.kit_ty_NoneType_ty_dict T.kit_ty_bool_ty_dict T.kit_ty_int_ty_dict T.kit_ty_str_ty_dict T.kit_ty_list_ty_dict T.kit_ty_tuple_ty_dict T.kit_ty_dict_ty_dict
theorem qh4{K:PySem.W.Frag}{mg:Str->Option Value}{a:Ad}(T:Txt K mg a):KitB K "int" (q24 "int"):=q60 T.kit_ty_NoneType_ty_int T.kit_ty_bool_ty_int T.kit_ty_int_ty_int T.kit_ty_str_ty_int T.kit_ty_list_ty_int T.kit_ty_tuple_ty_int T.kit_ty_dict_ty_int
theorem qe7{K:PySem.W.Frag}{mg:Str->Option Value}{a:Ad}(T:Txt K mg a):KitB K "list" (q24 "list"):=q60 T.kit_ty_NoneType_ty_list T.kit_ty_bool_ty_list T.kit_ty_int_ty_list T.kit_ty_str_ty_list T.kit_ty_list_ty_list T.kit_ty_tuple_ty_list T.kit_ty_dict_ty_list
section
variable{P:Program}{w:World}{K:PySem.W.Frag}{mg:Str->Option Value}{base:Heap}{a:Ad}
def b_y0:RhO:=
 (sRet (mOp2 dShl (mRet (.int 1)) (mVar 0)))
def f_y0:List D->Option D:=runP false 1 1 b_y0
theorem n_y0:q1s 1 f_y0:=q2h
theorem qma(T:Txt K mg a):FnOk P w K mg base CX0 1 a.f_y0 a.fd_y0 ["reach"] (spP K false 1 f_y0):=by
 refine T.F_y0.ok qly (λ_ _ _ _ h=>h.1) (λcdv A outer s H vs Q E hr h=>?_)
 · refine⟨_,(q0b (q0x (q11 q8r q09 (pv 0)))),?_⟩
   exact q15 (O':=[]) (Nms:=["reach"]) (f:=b_y0) (by
     unfold b_y0
     exact(q1n rfl (q0j q8u me_int (q03 (i:=0))) rfl)) h
def b_y1:RhO:=
 (sRet (q12 f_y0 (q00 (mOp2 dIx (mVar 0) (mRet (.int 0))) mNil)))
def f_y1:List D->Option D:=runP false 1 1 b_y1
theorem n_y1:q1s 1 f_y1:=q2h
theorem qjx(T:Txt K mg a):FnOk P w K mg base CX0 2 a.f_y1 a.fd_y1 ["scheme"] (spP K false 1 f_y1):=by
 have G_y0:=qma (P:=P) (w:=w) (base:=base) T
 refine T.F_y1.ok qlx (λ_ _ _ _ h=>h.1) (λcdv A outer s H vs Q E hr h=>?_)
 · refine⟨_,(q0b (q0x (q0f G_y0 hr.m (by rfl) T.mg_y0 T.kp_y0 T.B_y0 .nil q1a (q01 (q1f (q0m (K:=K) rfl) (pv 0) q09) q07)))),?_⟩
   exact q15 (O':=[]) (Nms:=["scheme"]) (f:=b_y1) (by
     unfold b_y1
     exact(q1n rfl (q1h n_y0 (q02 (q0j q1t (q03 (i:=0)) me_int) q0c)) rfl)) h
def b_y2:RhO:=
 (sSeq (sSet 1 (mVar 0))
 (sSeq (sSet 2 (mRet (.int 0)))
 (sSeq (q1l (q0l (mOp2 dGt (mVar 1) (mRet (.int 0))))
   (sSeq (sSet 2 (mOp2 dXor (mVar 2) (mOp2 dAnd (mVar 1) (mRet (.int 1)))))
 (sSet 1 (mOp2 dDiv (mVar 1) (mRet (.int 2))))) 1000)
 (sRet (mVar 2)))))
def f_y2:List D->Option D:=runP false 1 3 b_y2
theorem n_y2:q1s 1 f_y2:=q2h
theorem qm9(T:Txt K mg a):FnOk P w K mg base CX0 1 a.f_y2 a.fd_y2 ["number"] (spP K false 1 f_y2):=by
 refine T.F_y2.ok sc_y2 (λ_ _ _ _ h=>h.1) (λcdv A outer s H vs Q E hr h=>?_)
 · refine⟨_,(q06 (q0u (i:=1) sc_y2.nd rfl (by walk_at "lr") (pv 0)) (q06 (q0u (i:=2) sc_y2.nd rfl (by walk_at "lr") q09) (q06 (q8o x5 (q2a qgd (pv 1) q09 (q2z _)) (q06 (q0u (i:=2) sc_y2.nd rfl (by walk_at "lr") (q11 qjj (pv 2) (q11 q8s (pv 1) q09))) (q0b (q0u (i:=1) sc_y2.nd rfl (by walk_at "lr") (q11 qbf (pv 1) q09))))) (q0b (q0x (pv 2)))))),?_⟩
   exact q15 (O':=[]) (Nms:=["number","left","odd"]) (f:=b_y2) (by
     unfold b_y2
     exact(q0e (O1:=[]) (q1g (q03 (i:=0))) (q0e (O1:=[]) (q1g me_int) (q0e (O1:=[]) (qdt (O':=[]) (q2t (q3d qg9 (q03 (i:=1)) me_int.mb)) rfl (q0e (O1:=[]) (q1g (q0j qk1 (q03 (i:=2)) (q0j q8v (q03 (i:=1)) me_int))) (q1g (q0j qf5 (q03 (i:=1)) me_int)))) (q1n rfl (q03 (i:=2)) rfl))))) h
def b_y3:RhO:=
 (sSeq (sSet 3 (mOp2 dAdd (mOp2 q3x (mRet (.int 2)) (mVar 1)) (mVar 2)))
 (sSeq (sSet 4 (mOf (q1c 1 [3] none (mSeq (mOp2 dIx (mVar 0) (mRet (.int 1)))) (gSet 0) (mRet true) (q12 f_y2 (q00 (mOp2 dAnd (mVar 1) (mVar 0)) mNil)))))
 (sRet (mTup (q00 (mOp2 dMod (mVar 3) (q12 f_y1 (q00 (mVar 0) mNil))) (q00 (mOp1 q22 (mVar 4)) mNil))))))
def f_y3:List D->Option D:=runP false 3 5 b_y3
theorem n_y3:q1s 3 f_y3:=q2h
theorem qm8(T:Txt K mg a):FnOk P w K mg base CX0 3 a.f_y3 a.fd_y3 ["scheme","room","bit"] (spP K false 3 f_y3):=by
 have G_y2:=qm9 (P:=P) (w:=w) (base:=base) T
 have G_y1:=qjx (P:=P) (w:=w) (base:=base) T
 refine T.F_y3.ok sc_y3 (λ_ _ _ _ h=>h.1) (λcdv A outer s H vs Q E hr h=>?_)
 · refine⟨_,(q06 (q0u (i:=3) sc_y3.nd rfl (by walk_at "lr") (q11 (q2c (K:=K) rfl) (q11 (q4u (K:=K) rfl) q09 (pv 1)) (pv 2))) (q06 (qb5 (k:=4) (sc:=q04 s_y3) (N0:=["scheme","room","bit","window","signs"]) rfl rfl rfl (show q1i _ _ ["tap","window"] 1 [3] _=true by decide+kernel) sc_y3.nd rfl (Or.inl rfl) (q2r (K:=K) rfl (q1f (q0m (K:=K) rfl) (pv 0) q09)) (λ_ _ _ _ _=>(q0h (i:=0) (show List.Nodup (["tap","window"]:List Str)from(by decide+kernel)) rfl (Or.inl rfl))) (q26 (by decide)) (λ_ _ _ _ _=>q2q) (λ_ _ _ _ _=>(q0f G_y2 hr.m (by rfl) T.mg_y2 T.kp_y2 T.B_y2 .nil q1a (q01 (q11 q8s (pv 1) (pv 0)) q07)))) (q0b (q0x (q2w (q01 (q11 q3q (pv 3) (q0f G_y1 hr.m (by rfl) T.mg_y1 T.kp_y1 T.B_y1 .nil q1a (q01 (pv 0) q07))) (q01 (q1y (q1k (K:=K) rfl) (by rfl) T.z_tuple (by rfl) (q01 (pv 4) q07)) q07))))))),?_⟩
   exact q15 (O':=[]) (Nms:=["scheme","room","bit","window","signs"]) (f:=b_y3) (by
     unfold b_y3
     exact(q0e (O1:=[]) (q1g (q0j q39 (q0j q4v me_int (q03 (i:=1))) (q03 (i:=2)))) (q0e (O1:=[]) (qbo (q2d (bw:=none) (q3v (q0j q1t (q03 (i:=0)) me_int)) (q0i (i:=0)) q3u (q1h n_y2 (q02 (q0j q8v (q03 (i:=1)) (q03 (i:=0))) q0c))) rfl (by decide)) (q1n rfl (q3c (q02 (q0j q3r (q03 (i:=3)) (q1h n_y1 (q02 (q03 (i:=0)) q0c))) (q02 (q32 q34 (q03 (i:=4))) q0c))) rfl)))) h
def b_y4:RhO:=
 (sSeq (sSet 3 (mOp2 dIx (mVar 0) (mRet (.int 2))))
 (sSeq (sSet 4 (mOp2 dIx (mVar 3) (mOp2 dMod (mVar 1) (mOp1 dLen (mVar 3)))))
 (sRet (mOp1 q22 (mOf (q1c 2 [] none (mZip (q00 (mVar 2) (q00 (mVar 4) mNil))) (q2f 2 (q0g (gSet 0) (q0g (gSet 1) q2p))) (q0l (mOp2 dEq (mVar 1) (mRet (.int 1)))) (mVar 0)))))))
def f_y4:List D->Option D:=runP false 3 5 b_y4
theorem n_y4:q1s 3 f_y4:=q2h
theorem qm7(T:Txt K mg a):FnOk P w K mg base CX0 1 a.f_y4 a.fd_y4 ["scheme","number","signs"] (spP K false 3 f_y4):=by
 refine T.F_y4.ok sc_y4 (λ_ _ _ _ h=>h.1) (λcdv A outer s H vs Q E hr h=>?_)
 · refine⟨_,(q06 (q0u (i:=3) sc_y4.nd rfl (by walk_at "lr") (q1f (q0m (K:=K) rfl) (pv 0) q09)) (q06 (q0u (i:=4) sc_y4.nd rfl (by walk_at "lr") (q1f (q0m (K:=K) rfl) (pv 3) (q11 q3q (pv 1) (q0y (q1p (K:=K) rfl) (by rfl) T.z_len (by rfl) (q01 (pv 3) q07))))) (q0b (q0x (q1y (q1k (K:=K) rfl) (by rfl) T.z_tuple (by rfl) (q01 (q2y (sc:=q04 s_y4) (N0:=["scheme","number","signs","rows","row"]) rfl rfl rfl (show q1i _ _ ["sign","chosen"] 2 [] _=true by decide+kernel) (q7q (K:=K) rfl (by rfl) T.z_zip (q01 (pv 2) (q01 (pv 4) q07))) (λ_ _ _ _ _=>(q40 (K:=K) rfl rfl (q18 (q0h (i:=0) (show List.Nodup (["sign","chosen"]:List Str)from(by decide+kernel)) rfl (Or.inl rfl)) (q18 (q0h (i:=1) (show List.Nodup (["sign","chosen"]:List Str)from(by decide+kernel)) rfl (Or.inl rfl)) q3z)))) (qdr (by decide) (by decide)) (λ_ _ _ _ _=>(qg0 (q2a (qbg (K:=K) rfl hr.units) (pv 1) q09 (q2z _)))) (λ_ _ _ _ _=>(pv 0))) q07)))))),?_⟩
   exact q15 (O':=[]) (Nms:=["scheme","number","signs","rows","row"]) (f:=b_y4) (by
     unfold b_y4
     exact(q0e (O1:=[]) (q1g (q0j q1t (q03 (i:=0)) me_int)) (q0e (O1:=[]) (q1g (q0j q1t (q03 (i:=3)) (q0j q3r (q03 (i:=1)) (q1b q55 q4b)))) (q1n rfl (q32 q34 (q28 (q2d (bw:=none) (qbr (q02 (q03 (i:=2)) (q02 (q03 (i:=4)) q0c))) (q5i (q19 (q0i (i:=0)) (q19 (q0i (i:=1)) q45))) (q2t (q3d os_eq (q03 (i:=1)) me_int.mb)) (q03 (i:=0))))) rfl)))) h
def b_y5:RhO:=
 (sSeq (sOwn 1 (mLst mNil))
 (sSeq (sFor (q3j (q00 (mOp1 dLen (mOp2 dIx (mVar 0) (mRet (.int 2)))) mNil)) (gSet 2)
   (sExt 1 (q1c 1 [2] none (q6z (q00 (mRet (.int 1)) (q00 (q12 f_y1 (q00 (mVar 0) mNil)) mNil))) (gSet 0) (mRet true) (mTup (q00 (mVar 1) (q00 (mVar 0) mNil))))))
 (q4s 1)))
def f_y5:List D->Option D:=runP true 1 3 b_y5
theorem n_y5:q1s 1 f_y5:=q2h
theorem qm6(T:Txt K mg a):FnOk P w K mg base CX0 3 a.f_y5 a.fd_y5 ["scheme"] (spP K true 1 f_y5):=by
 have G_y1:=qjx (P:=P) (w:=w) (base:=base) T
 refine T.F_y5.ok sc_y5 (λ_ _ _ _ h=>h.1) (λcdv A outer s H vs Q E hr h=>?_)
 · refine⟨_,(q06 (q0u (i:=1) sc_y5.nd rfl (by walk_at "lr") (q2x q07)) (q06 (q25 x5 rfl (q2j (by rfl) T.z_range (q01 (q0y (q1p (K:=K) rfl) (by rfl) T.z_len (by rfl) (q01 (q1f (q0m (K:=K) rfl) (pv 0) q09) q07)) q07)) (q0h (i:=2) sc_y5.nd rfl (by walk_at "lr")) (q0b (q3g (q7s PySem.F.plainAttrs_list PySem.F.slot_list_extend PySem.F.type_list_extend qbm (pv 1) (q01 (q2y (sc:=q04 s_y5) (N0:=["scheme","found","phase"]) rfl rfl rfl (show q1i _ _ ["room","phase"] 1 [2] _=true by decide+kernel) (q6p (by rfl) T.z_range (q01 q09 (q01 (q0f G_y1 hr.m (by rfl) T.mg_y1 T.kp_y1 T.B_y1 .nil q1a (q01 (pv 0) q07)) q07))) (λ_ _ _ _ _=>(q0h (i:=0) (show List.Nodup (["room","phase"]:List Str)from(by decide+kernel)) rfl (Or.inl rfl))) (q26 (by decide)) (λ_ _ _ _ _=>q2q) (λ_ _ _ _ _=>(q2w (q01 (pv 1) (q01 (pv 0) q07))))) q07))))) (q0b (q0x (pv 1))))),?_⟩
   exact q15 (O':=[]) (Nms:=["scheme","found","phase"]) (f:=b_y5) (by
     unfold b_y5
     exact(q0e (O1:=[1]) (q4y (q3b q0c) rfl) (q0e (O1:=[1]) (q27 (O':=[1]) (q2l (q02 (q1b q55 (q0j q1t (q03 (i:=0)) me_int).mb) q0c)) rfl (q0i (i:=2)) (qk8 (by decide) (q2d (bw:=none) (q6y (q02 me_int (q02 (q1h n_y1 (q02 (q03 (i:=0)) q0c)) q0c))) (q0i (i:=0)) q3u (q3c (q02 (q03 (i:=1)) (q02 (q03 (i:=0)) q0c)))) rfl)) (q5y rfl (by first|decide|simp) rfl (by first|decide|simp))))) h
def b_y6:RhO:=
 (sSeq (sSet 2 (mOp2 dIx (mVar 1) (mRet (.int 0))))
 (sSeq (sOwn 3 (mLst mNil))
 (sSeq (sFor (mSeq (mTup (q00 (mRet (.int 0)) (q00 (mRet (.int 1)) mNil)))) (gSet 4)
   (sSeq (sSet 5 (q12 f_y3 (q00 (mVar 0) (q00 (mOp2 dIx (mVar 1) (mRet (.int 1))) (q00 (mVar 4) mNil)))))
 (sIf (q0l (mOp2 dNe (mOp2 dIx (mVar 5) (mRet (.int 0))) (mRet (.int 0))))
   (sSeq (sSet 6 (mOp1 qa5 (q12 f_y4 (q00 (mVar 0) (q00 (mVar 2) (q00 (mOp2 dIx (mVar 5) (mRet (.int 1))) mNil))))))
 (sMut q1e 3 (q00 (mTup (q00 (mVar 4) (q00 (mVar 6) (q00 (mTup (q00 (mOp2 dMod (mOp2 dAdd (mVar 2) (mRet (.int 1))) (mOp1 dLen (mOp2 dIx (mVar 0) (mRet (.int 2))))) (q00 (mOp2 dIx (mVar 5) (mRet (.int 0))) mNil))) mNil)))) mNil)))
   sNil)))
 (q4s 3))))
def f_y6:List D->Option D:=runP true 2 7 b_y6
theorem n_y6:q1s 2 f_y6:=q2h
theorem qm5(T:Txt K mg a):FnOk P w K mg base CX0 4 a.f_y6 a.fd_y6 ["scheme","node"] (spP K true 2 f_y6):=by
 have G_y3:=qm8 (P:=P) (w:=w) (base:=base) T
 have G_y4:=qm7 (P:=P) (w:=w) (base:=base) T
 refine T.F_y6.ok sc_y6 (λ_ _ _ _ h=>h.1) (λcdv A outer s H vs Q E hr h=>?_)
 · refine⟨_,(q06 (q0u (i:=2) sc_y6.nd rfl (by walk_at "lr") (q1f (q0m (K:=K) rfl) (pv 1) q09)) (q06 (q0u (i:=3) sc_y6.nd rfl (by walk_at "lr") (q2x q07)) (q06 (q25 x5 rfl (q2r (K:=K) rfl (q2w (q01 q09 (q01 q09 q07)))) (q0h (i:=4) sc_y6.nd rfl (by walk_at "lr")) (q06 (q0u (i:=5) sc_y6.nd rfl (by walk_at "lr") (q0f G_y3 hr.m (by rfl) T.mg_y3 T.kp_y3 T.B_y3 .nil q1a (q01 (pv 0) (q01 (q1f (q0m (K:=K) rfl) (pv 1) q09) (q01 (pv 4) q07))))) (q0b (q56 (q2a (qf1 (K:=K) rfl hr.units) (q1f (q0m (K:=K) rfl) (pv 5) q09) q09 (q2z _)) (q06 (q0u (i:=6) sc_y6.nd rfl (by walk_at "lr") (q0y (qcv (K:=K) rfl rfl) (by rfl) T.z_sum (by rfl) (q01 (q0f G_y4 hr.m (by rfl) T.mg_y4 T.kp_y4 T.B_y4 .nil q1a (q01 (pv 0) (q01 (pv 2) (q01 (q1f (q0m (K:=K) rfl) (pv 5) q09) q07)))) q07))) (q0b (q3g (q7s PySem.F.plainAttrs_list PySem.F.slot_list_append PySem.F.type_list_append q2k (pv 3) (q01 (q2w (q01 (pv 4) (q01 (pv 6) (q01 (q2w (q01 (q11 q3q (q11 (q2c (K:=K) rfl) (pv 2) q09) (q0y (q1p (K:=K) rfl) (by rfl) T.z_len (by rfl) (q01 (q1f (q0m (K:=K) rfl) (pv 0) q09) q07))) (q01 (q1f (q0m (K:=K) rfl) (pv 5) q09) q07))) q07)))) q07))))) q2b)))) (q0b (q0x (pv 3)))))),?_⟩
   exact q15 (O':=[]) (Nms:=["scheme","node","phase","found","bit","led","ones"]) (f:=b_y6) (by
     unfold b_y6
     exact(q0e (O1:=[]) (q1g (q0j q1t (q03 (i:=1)) me_int)) (q0e (O1:=[3]) (q4y (q3b q0c) rfl) (q0e (O1:=[3]) (q27 (O':=[3]) (q3v (q3c (q02 me_int (q02 me_int q0c)))) rfl (q0i (i:=4)) (q0e (O1:=[3]) (q1g (q1h n_y3 (q02 (q03 (i:=0)) (q02 (q0j q1t (q03 (i:=1)) me_int) (q02 (q03 (i:=4)) q0c))))) (q6x (q2t (q3d qji (q0j q1t (q03 (i:=5)) me_int) me_int.mb)) (q0e (O1:=[3]) (q1g (q1b qhx (q1h n_y4 (q02 (q03 (i:=0)) (q02 (q03 (i:=2)) (q02 (q0j q1t (q03 (i:=5)) me_int) q0c)))).mb)) (q90 q3t (by decide) (q02 (q3c (q02 (q03 (i:=4)) (q02 (q03 (i:=6)) (q02 (q3c (q02 (q0j q3r (q0j q39 (q03 (i:=2)) me_int) (q1b q55 (q0j q1t (q03 (i:=0)) me_int).mb)) (q02 (q0j q1t (q03 (i:=5)) me_int) q0c))) q0c)))) q0c) rfl)) (q4a rfl)))) (q5y rfl (by first|decide|simp) rfl (by first|decide|simp)))))) h
def b_y7:RhO:=
 (sSeq (q35 1)
 (sSeq (sFor (mSeq (mOf (q2m f_y5 (q00 (mVar 0) mNil)))) (gSet 2)
   (q1x 1 (mOf (q2m f_y6 (q00 (mVar 0) (q00 (mVar 2) mNil)))) (mVar 2)))
 (sRet (mVar 1))))
def f_y7:List D->Option D:=runP false 1 3 b_y7
theorem qm4(T:Txt K mg a):FnOk P w K mg base CX0 5 a.f_y7 a.fd_y7 ["scheme"] (spP K false 1 f_y7):=by
 have G_y5:=qm6 (P:=P) (w:=w) (base:=base) T
 have G_y6:=qm5 (P:=P) (w:=w) (base:=base) T
 refine T.F_y7.ok sc_y7 (λ_ _ _ _ h=>h.1) (λcdv A outer s H vs Q E hr h=>?_)
 · refine⟨_,(q06 (q0u (i:=1) sc_y7.nd rfl (by walk_at "lr") q2s) (q06 (q25 x5 rfl (q2r (K:=K) rfl (q0f G_y5 hr.m (by rfl) T.mg_y5 T.kp_y5 T.B_y5 .nil q1a (q01 (pv 0) q07))) (q0h (i:=2) sc_y7.nd rfl (by walk_at "lr")) (q0b (q3h (q5a hr) (pv 1) (pv 2) (q0f G_y6 hr.m (by rfl) T.mg_y6 T.kp_y6 T.B_y6 .nil q1a (q01 (pv 0) (q01 (pv 2) q07))) rfl))) (q0b (q0x (pv 1))))),?_⟩
   exact q15 (O':=[]) (Nms:=["scheme","found","node"]) (f:=b_y7) (by
     unfold b_y7
     exact(q0e (O1:=[1]) (q44 rfl) (q0e (O1:=[]) (q4x (q27 (O':=[1]) (q3v (q28 (q4n n_y5 (q02 (q03 (i:=0)) q0c)))) rfl (q0i (i:=2)) (q43 (by decide) (q28 (q4n n_y6 (q02 (q03 (i:=0)) (q02 (q03 (i:=2)) q0c)))) (q03 (i:=2)) rfl)) rfl) (q1n rfl (q03 (i:=1)) rfl)))) h
def b_y8:RhO:=
 (sRet (mOp2 dAdd (mOp2 dIx (mVar 0) (mRet (.int 1))) (mOp2 q2g (mVar 1) (mOp2 dIx (mVar 0) (mRet (.int 2))))))
def f_y8:List D->Option D:=runP false 2 2 b_y8
theorem n_y8:q1s 2 f_y8:=q2h
theorem qjm(T:Txt K mg a):FnOk P w K mg base CX0 1 a.f_y8 a.fd_y8 ["pace","behind"] (spP K false 2 f_y8):=by
 refine T.F_y8.ok qlw (λ_ _ _ _ h=>h.1) (λcdv A outer s H vs Q E hr h=>?_)
 · refine⟨_,(q0b (q0x (q11 (q2c (K:=K) rfl) (q1f (q0m (K:=K) rfl) (pv 0) q09) (q7r (q5a hr) (pv 1) (q1f (q0m (K:=K) rfl) (pv 0) q09) (λ_ o=>rfl))))),?_⟩
   exact q15 (O':=[]) (Nms:=["pace","behind"]) (f:=b_y8) (by
     unfold b_y8
     exact(q1n rfl (q0j q39 (q0j q1t (q03 (i:=0)) me_int) (q7z (q03 (i:=1)) (q0j q1t (q03 (i:=0)) me_int))) rfl)) h
abbrev lp0:Pos:=⟨45,26,45,60⟩
abbrev lq0:Str:=(("best_pace"++".<locals>.":Str)++"<lambda>")
def f_y9:List D->Option D:=qa3 f_y8
theorem n_y9:q1s 2 f_y9:=qha
theorem qm3(T:Txt K mg a):FnOk P w K mg base CX0 5 a.f_y9 a.fd_y9 ["paces","behind"] (spPL K a.t_y9 lp0 lq0 2 f_y9):=by
 have G_y8:=qjm (P:=P) (w:=w) (base:=base) T
 refine T.F_y9.okL qlv (λvs H Q E h=>h.1) λA outer s H vs Q E hr h=>?_
 refine⟨_,q0b (q0x (qba (x:="pace") (y:="behind") (cb:=s.heap.objs.size+1) (c:=a.c_y9) (P:=a.t_y9) (ib:=1) (k:=2) rfl rfl hr.m (by rfl) T.z_min (pv 0) rfl rfl rfl rfl rfl rfl T.cd_y9 T.ch_y9 T.bt_y9 (by decide+kernel) rfl rfl ?_ rfl rfl rfl (by decide+kernel) (λ_ _ _ _=>rfl) (λf c1 A outer s H hr=>q0f G_y8 hr.m (by rfl) T.mg_y8 T.kp_y8 T.B_y8 .nil q1a (q01 (pv 0) (q01 (pv 1) q07))))),?_⟩
 · intro z hz
   have h1:=PySem.mem_of_lookup hz
   revert h1
   generalize hl:(Scope.names _)=l
   intro h1
   have h2:∀p∈l,p.2=NameKind.free->p.1=("behind":Str):=by
     rw[<-hl]
     decide+kernel
   exact h2 _ h1 rfl
 · exact qaq rfl n_y8 h
def qfg:RhO:=
 (q35 1)
def qfe:RhO:=
 (sFor (q70 (mVar 0)) (gSet 2)
   (q1x 1 (mRet (.int 0)) (mVar 2)))
def f_y10:List D->Option D:=qb1 1 3 1 qfg qfe
theorem qjw(T:Txt K mg a):FnOk P w K mg base CX0 1 a.f_y10 a.fd_y10 ["paces_by_node"] (spFD K 1 f_y10):=by
 refine T.F_y10.ok sc_y10 (λvs H Q E h=>h.1) (λcdv A outer s H vs Q E hr h=>?_)
 refine⟨_,(q06 (q0u (i:=1) sc_y10.nd rfl (by walk_at "lr") q2s) (q06 (q25 x5 rfl (qb7 (pv 0)) (q0h (i:=2) sc_y10.nd rfl (by walk_at "lr")) (q0b (q3h (q5a hr) (pv 1) (pv 2) q09 rfl))) (q0b (q0x (pv 1))))),?_⟩
 exact qao (Nms:=["paces_by_node","found","node"]) (by
     unfold qfg
     exact(q44 rfl)) (by
     unfold qfe
     exact(q27 (O':=[1]) (qbs (q03 (i:=0))) rfl (q0i (i:=2)) (q43 (by decide) me_int (q03 (i:=2)) rfl))) h
def qff(P0:Addr):RhO:=
 (q35 2)
def qfd(P0:Addr):RhO:=
 (sFor (q71 (mVar 0)) (q2f 2 (q0g (gSet 3) (q0g (gSet 4) q2p)))
   (q1x 2 (q12 f_y8 (q00 (q29 5 P0 lp0 lq0 f_y9 (q00 (mVar 4) (q00 (mVar 1) mNil))) (q00 (mVar 1) mNil))) (mVar 3)))
def f_y11(P0:Addr):List D->Option D:=q6h 2 6 2 5 (.tab P0 lp0 lq0) (qff P0) (qfd P0)
theorem qjv(T:Txt K mg a):FnOk P w K mg base CX0 6 a.f_y11 a.fd_y11 ["paces_by_node","behind"] (qfr K a.t_y9 lp0 lq0 2 (f_y11 a.t_y9)):=by
 have G_y9:=qm3 (P:=P) (w:=w) (base:=base) T
 have G_y8:=qjm (P:=P) (w:=w) (base:=base) T
 refine T.F_y11.okT (z:="@t") (j:=5) (u:=.ref a.t_y9) sc_y11 rfl (by unfold Vis;decide+kernel) (λvs H Q E h=>h.1) (λcdv A outer s H vs Q E hr h=>?_)
 refine⟨_,(q06 (q0u (i:=2) sc_y11.nd rfl (by walk_at "lr") q2s) (q06 (q25 x5 rfl (qdm (pv 0)) (q40 (K:=K) rfl rfl (q18 (q0h (i:=3) sc_y11.nd rfl (by walk_at "lr")) (q18 (q0h (i:=4) sc_y11.nd rfl (by walk_at "lr")) q3z))) (q0b (q3h (q5a hr) (pv 2) (pv 3) (q0f G_y8 hr.m (by rfl) T.mg_y8 T.kp_y8 T.B_y8 .nil q1a (q01 (q0f G_y9 hr.m (by rfl) T.mg_y9 T.kp_y9 T.B_y9 .nil q1a (q01 (pv 4) (q01 (pv 1) q07))) (q01 (pv 1) q07))) rfl))) (q0b (q0x (pv 2))))),?_⟩
 exact q9i (Nms:=["paces_by_node","behind","found","node","paces","@t"]) (by
     unfold qff
     exact(q44 rfl)) (by
     unfold qfd
     exact(q27 (O':=[2]) (qdv (q03 (i:=0))) rfl (q5i (q19 (q0i (i:=3)) (q19 (q0i (i:=4)) q45))) (q43 (by decide) (q1h n_y8 (q02 (qbv (by decide) n_y9 (q02 (q03 (i:=4)) (q02 (q03 (i:=1)) q0c))) (q02 (q03 (i:=1)) q0c))) (q03 (i:=3)) rfl))) h
def f_y12(P0:Addr):List D->Option D:=gBy f_y10 (f_y11 P0)
theorem qju(T:Txt K mg a):FnOk P w K mg base CX0 7 a.f_y12 a.fd_y12 ["paces_by_node","steps"] (spFB K a.t_y9 lp0 lq0 2 (f_y12 a.t_y9)):=by
 have G_y10:=qjw (P:=P) (w:=w) (base:=base) T
 have G_y11:=qjv (P:=P) (w:=w) (base:=base) T
 refine T.F_y12.ok sc_y12 (λvs H Q E h=>h.1) (λcdv A outer s H vs Q E hr h=>?_)
 refine⟨_,(q06 (q0u (i:=2) sc_y12.nd rfl (by walk_at "lr") (q2x (q01 (q0f G_y10 hr.m (by rfl) T.mg_y10 T.kp_y10 T.B_y10 .nil q1a (q01 (pv 0) q07)) q07))) (q06 (q8o x5 (q2a qm2 (q0y (q1p (K:=K) rfl) (by rfl) T.z_len (by rfl) (q01 (pv 2) q07)) (pv 1) (q2z _)) (q0b (q3g (q7s PySem.F.plainAttrs_list PySem.F.slot_list_append PySem.F.type_list_append q2k (pv 2) (q01 (q0f G_y11 hr.m (by rfl) T.mg_y11 T.kp_y11 T.B_y11 .nil q1a (q01 (pv 0) (q01 (q1f (q0m (K:=K) rfl) (pv 2) (qjc qet q09)) q07))) q07))))) (q0b (q0x (pv 2))))),?_⟩
 exact qap rfl h
def f_y13(P0:Addr):List D->Option D:=gFe f_y7 (f_y12 P0)
theorem qk6{P0:Addr}:q1s 2 (f_y13 P0):=qmj
theorem qmi{P0:Addr}(ds:List D)(d:D)(h:f_y13 P0 ds=some d):∃es,d=.lst es:=qmk ds d h
theorem qjt(T:Txt K mg a):FnOk P w K mg base CX0 8 a.f_y13 a.fd_y13 ["scheme","steps"] (spFB K a.t_y9 lp0 lq0 2 (f_y13 a.t_y9)):=by
 have G_y7:=qm4 (P:=P) (w:=w) (base:=base) T
 have G_y12:=qju (P:=P) (w:=w) (base:=base) T
 refine T.F_y13.ok qip (λvs H Q E h=>h.1) (λcdv A outer s H vs Q E hr h=>?_)
 refine⟨_,(q0b (q0x (q0f G_y12 hr.m (by rfl) T.mg_y12 T.kp_y12 T.B_y12 .nil q1a (q01 (q0f G_y7 hr.m (by rfl) T.mg_y7 T.kp_y7 T.B_y7 .nil q1a (q01 (pv 0) q07)) (q01 (pv 1) q07))))),?_⟩
 exact qan (by decide) h
def qes:RhO:=
 (sSeq (qaz 0 (mOp2 dMod (mOp2 dAdd (mOp2 q3x (mIxO 0 (mRet (.int 0))) (mRet (.int 1181783497276652981))) (mRet (.int 12345678910987))) (mOp2 dSub (mOp2 dPow (mRet (.int 2)) (mRet (.int 61))) (mRet (.int 1)))) (mRet (.int 0)))
 (sRet (mOp2 dMod (mOp2 dDiv (mIxO 0 (mRet (.int 0))) (mRet (.int 65537))) (mVar 1))))
def f_y14:List D->List D->Option (D×List D):=runS false 2 2 qes
theorem q5x:qdj 2 f_y14:=qeu
theorem qf2(T:Txt K mg a):FnOk P w K mg base CX0 1 a.f_y14 a.fd_y14 ["_law_state","_law_many"] (spS K false 2 f_y14):=by
 refine T.F_y14.ok qio (λ_ _ _ _ h=>h.1) (λcdv A outer s H vs Q E hr h=>?_)
 · refine⟨_,(q06 (qey (q11 q3q (q11 (q2c (K:=K) rfl) (q11 (q4u (K:=K) rfl) (q1f (q0m (K:=K) rfl) (pv 0) q09) q09) q09) (q11 qjk (q11 qf0 q09 q09) q09)) (qj8 (pv 0) q09 set_list)) (q0b (q0x (q11 q3q (q11 qbf (q1f (q0m (K:=K) rfl) (pv 0) q09) q09) (pv 1))))),?_⟩
   exact q8i (O':=[]) (Nms:=["_law_state","_law_many"]) (f:=qes) (by
     unfold qes
     exact(q0e (O1:=[0]) (qgl (by decide) (q0j q3r (q0j q39 (q0j q4v (qbu (i:=0) (by decide) me_int) me_int) me_int) (q0j qk2 (q0j qf4 me_int me_int) me_int)) me_int rfl) (q1n rfl (q0j q3r (q0j qf5 (qbu (i:=0) (by decide) me_int) me_int) (q03 (i:=1))) rfl))) h
def qd2:RhO:=
 (sSeq (sSet 3 (q0o f_y14 0 (q00 (mVar 1) mNil)))
 (sSeq (sIf (q0l (mOp2 dEq (q0o f_y14 0 (q00 (mRet (.int 9)) mNil)) (mRet (.int 0))))
   (sSet 3 (mRet (.int 4)))
   sNil)
 (sSeq (sSet 4 (mOf (q1c 1 [0,3] (some (0,1)) (q3j (q00 (mOp2 dAdd (mRet (.int 1)) (q0o f_y14 0 (q00 (mRet (.int 4)) mNil))) mNil)) (gSet 0) (mRet true) (q0o f_y14 1 (q00 (mOp2 dShl (mRet (.int 2)) (mVar 2)) mNil)))))
 (sSeq (sOwn 5 (mLst mNil))
 (sSeq (sFor (q3j (q00 (mOp2 dAdd (mRet (.int 1)) (q0o f_y14 0 (q00 (mRet (.int 6)) mNil))) mNil)) (gSet 6)
   (sMut q1e 5 (q00 (mOp1 q22 (mOf (q1c 1 [0] (some (0,1)) (mSeq (mVar 4)) (gSet 0) (mRet true) (mOp1 dInt (mOp2 dGt (q0o f_y14 1 (q00 (mRet (.int 4)) mNil)) (mRet (.int 0))))))) mNil)))
 (sSeq (sIf (q0l (mOp2 dEq (q0o f_y14 0 (q00 (mRet (.int 12)) mNil)) (mRet (.int 0))))
   (sSet 5 (mOf (mLst (q00 (mOp1 q22 (mOf (q1c 1 [] none (mSeq (mVar 4)) (gSet 0) (mRet true) (mRet (.int 0))))) mNil))))
   sNil)
 (sRet (mTup (q00 (mVar 3) (q00 (mOp1 q22 (mVar 4)) (q00 (mOp1 q22 (mVar 5)) (q00 (mVar 2) mNil))))))))))))
def f_y15:List D->List D->Option (D×List D):=runS false 3 7 qd2
theorem qmg:qdj 3 f_y15:=qeu
theorem qjs(T:Txt K mg a):FnOk P w K mg base CX0 2 a.f_y15 a.fd_y15 ["_law_state","_law_most","_law_ending"] (spS K false 3 f_y15):=by
 have G_y14:=qf2 (P:=P) (w:=w) (base:=base) T
 refine T.F_y15.ok sc_y15 (λ_ _ _ _ h=>h.1) (λcdv A outer s H vs Q E hr h=>?_)
 · refine⟨_,(q06 (q0u (i:=3) sc_y15.nd rfl (by walk_at "lr") (q0f G_y14 hr.m (by rfl) T.mg_y14 T.kp_y14 T.B_y14 .nil q1a (q01 (pv 0) (q01 (pv 1) q07)))) (q06 (q56 (q2a (qbg (K:=K) rfl hr.units) (q0f G_y14 hr.m (by rfl) T.mg_y14 T.kp_y14 T.B_y14 .nil q1a (q01 (pv 0) (q01 q09 q07))) q09 (q2z _)) (q0b (q0u (i:=3) sc_y15.nd rfl (by walk_at "lr") q09)) q2b) (q06 (qb5 (k:=4) (sc:=q04 q6g) (N0:=["_law_state","_law_most","_law_ending","_law_reach","_law_taps","_law_rows_here","_law_k"]) rfl rfl rfl (show q1i _ _ ["_law_k","_law_state","_law_reach"] 1 [0,3] _=true by decide+kernel) sc_y15.nd rfl (Or.inl rfl) (q2j (by rfl) T.z_range (q01 (q11 (q2c (K:=K) rfl) q09 (q0f G_y14 hr.m (by rfl) T.mg_y14 T.kp_y14 T.B_y14 .nil q1a (q01 (pv 0) (q01 q09 q07)))) q07)) (λ_ _ _ _ _=>(q0h (i:=0) (show List.Nodup (["_law_k","_law_state","_law_reach"]:List Str)from(by decide+kernel)) rfl (Or.inl rfl))) (q26 (by decide)) (λ_ _ _ _ _=>q2q) (λ_ _ _ _ _=>(q0f G_y14 hr.m (by rfl) T.mg_y14 T.kp_y14 T.B_y14 .nil q1a (q01 (pv 1) (q01 (q11 q8r q09 (pv 2)) q07))))) (q06 (q0u (i:=5) sc_y15.nd rfl (by walk_at "lr") (q2x q07)) (q06 (q25 x5 rfl (q2j (by rfl) T.z_range (q01 (q11 (q2c (K:=K) rfl) q09 (q0f G_y14 hr.m (by rfl) T.mg_y14 T.kp_y14 T.B_y14 .nil q1a (q01 (pv 0) (q01 q09 q07)))) q07)) (q0h (i:=6) sc_y15.nd rfl (by walk_at "lr")) (q0b (q3g (q7s PySem.F.plainAttrs_list PySem.F.slot_list_append PySem.F.type_list_append q2k (pv 5) (q01 (q1y (q1k (K:=K) rfl) (by rfl) T.z_tuple (by rfl) (q01 (q2y (sc:=q04 q6g) (N0:=["_law_state","_law_most","_law_ending","_law_reach","_law_taps","_law_rows_here","_law_k"]) rfl rfl rfl (show q1i _ _ ["_law_tap","_law_state"] 1 [0] _=true by decide+kernel) (q2r (K:=K) rfl (pv 4)) (λ_ _ _ _ _=>(q0h (i:=0) (show List.Nodup (["_law_tap","_law_state"]:List Str)from(by decide+kernel)) rfl (Or.inl rfl))) (q26 (by decide)) (λ_ _ _ _ _=>q2q) (λ_ _ _ _ _=>(q1y qcy (by rfl) T.z_int (by rfl) (q01 (qg4 qgd (q0f G_y14 hr.m (by rfl) T.mg_y14 T.kp_y14 T.B_y14 .nil q1a (q01 (pv 1) (q01 q09 q07))) q09 (q2z _)) q07)))) q07)) q07))))) (q06 (q56 (q2a (qbg (K:=K) rfl hr.units) (q0f G_y14 hr.m (by rfl) T.mg_y14 T.kp_y14 T.B_y14 .nil q1a (q01 (pv 0) (q01 q09 q07))) q09 (q2z _)) (q0b (q0u (i:=5) sc_y15.nd rfl (by walk_at "lr") (q2x (q01 (q1y (q1k (K:=K) rfl) (by rfl) T.z_tuple (by rfl) (q01 (q2y (sc:=q04 q6g) (N0:=["_law_state","_law_most","_law_ending","_law_reach","_law_taps","_law_rows_here","_law_k"]) rfl rfl rfl (show q1i _ _ ["_law_tap"] 1 [] _=true by decide+kernel) (q2r (K:=K) rfl (pv 4)) (λ_ _ _ _ _=>(q0h (i:=0) (show List.Nodup (["_law_tap"]:List Str)from(by decide+kernel)) rfl (Or.inl rfl))) (q26 (by decide)) (λ_ _ _ _ _=>q2q) (λ_ _ _ _ _=>q09)) q07)) q07)))) q2b) (q0b (q0x (q2w (q01 (pv 3) (q01 (q1y (q1k (K:=K) rfl) (by rfl) T.z_tuple (by rfl) (q01 (pv 4) q07)) (q01 (q1y (q1k (K:=K) rfl) (by rfl) T.z_tuple (by rfl) (q01 (pv 5) q07)) (q01 (pv 2) q07))))))))))))),?_⟩
   exact q8i (O':=[]) (Nms:=["_law_state","_law_most","_law_ending","_law_reach","_law_taps","_law_rows_here","_law_k"]) (f:=qd2) (by
     unfold qd2
     exact(q0e (O1:=[0]) (q1g (q1m (i:=0) q5x (by decide) (q02 (q03 (i:=1)) q0c))) (q0e (O1:=[0]) (q6x (q2t (q3d os_eq (q1m (i:=0) q5x (by decide) (q02 me_int q0c)) me_int.mb)) (q1g me_int) (q4a rfl)) (q0e (O1:=[0]) (qbo (q2d (bw:=(some (0,1))) (q2l (q02 (q0j q39 me_int (q1m (i:=0) q5x (by decide) (q02 me_int q0c))) q0c)) (q0i (i:=0)) q3u (q1m (i:=1) q5x (by decide) (q02 (q0j q8u me_int (q03 (i:=2))) q0c))) rfl (by decide)) (q0e (O1:=[0,5]) (q4y (q3b q0c) rfl) (q0e (O1:=[0]) (q4x (q27 (O':=[0,5]) (q2l (q02 (q0j q39 me_int (q1m (i:=0) q5x (by decide) (q02 me_int q0c))) q0c)) rfl (q0i (i:=6)) (q90 q3t (by decide) (q02 (q32 q34 (q28 (q2d (bw:=(some (0,1))) (q3v (q03 (i:=4))) (q0i (i:=0)) q3u (q1b qlj (q3d qg9 (q1m (i:=1) q5x (by decide) (q02 me_int q0c)) me_int.mb).mb)))) q0c) rfl)) rfl) (q0e (O1:=[0]) (q6x (q2t (q3d os_eq (q1m (i:=0) q5x (by decide) (q02 me_int q0c)) me_int.mb)) (q1g (q28 (q3b (q02 (q32 q34 (q28 (q2d (bw:=none) (q3v (q03 (i:=4))) (q0i (i:=0)) q3u me_int))) q0c)))) (q4a rfl)) (q1n rfl (q3c (q02 (q03 (i:=3)) (q02 (q32 q34 (q03 (i:=4))) (q02 (q32 q34 (q03 (i:=5))) (q02 (q03 (i:=2)) q0c))))) rfl)))))))) h
def qi4:RhO:=
 (sSeq (sSet 4 (mOp2 dAdd (mOp2 q3x (mRet (.int 2)) (mVar 1)) (mVar 2)))
 (sSeq (sSet 5 (mRet (.int 0)))
 (sSeq (sFor (mZip (q00 (mOp2 dIx (mVar 0) (mRet (.int 1))) (q00 (mOp2 dIx (mOp2 dIx (mVar 0) (mRet (.int 2))) (mVar 3)) mNil))) (q2f 2 (q0g (gSet 6) (q0g (gSet 7) q2p)))
   (sSeq (sSet 8 (mOp2 dMod (mOp1 dSum (mOf (q1c 1 [4,6] none (q3j (q00 (mRet (.int 5)) mNil)) (gSet 0) (mRet true) (mOp2 dAnd (mOp2 dAnd (mOp2 dShr (mVar 1) (mVar 0)) (mOp2 dShr (mVar 2) (mVar 0))) (mRet (.int 1)))))) (mRet (.int 2))))
 (sAug (λi j=>i+j) 5 (mOp2 q3x (mVar 8) (mVar 7)))))
 (sRet (mTup (q00 (mOp2 dMod (mVar 4) (mOp2 dShl (mRet (.int 1)) (mOp2 dIx (mVar 0) (mRet (.int 0))))) (q00 (mVar 5) mNil)))))))
def f_y16:List D->Option D:=runP false 4 9 qi4
theorem qmf:q1s 4 f_y16:=q2h
theorem qjr(T:Txt K mg a):FnOk P w K mg base CX0 1 a.f_y16 a.fd_y16 ["_law_scheme_here","_law_room","_law_bit","_law_phase"] (spP K false 4 f_y16):=by
 refine T.F_y16.ok sc_y16 (λ_ _ _ _ h=>h.1) (λcdv A outer s H vs Q E hr h=>?_)
 · refine⟨_,(q06 (q0u (i:=4) sc_y16.nd rfl (by walk_at "lr") (q11 (q2c (K:=K) rfl) (q11 (q4u (K:=K) rfl) q09 (pv 1)) (pv 2))) (q06 (q0u (i:=5) sc_y16.nd rfl (by walk_at "lr") q09) (q06 (q25 x5 rfl (q7q (K:=K) rfl (by rfl) T.z_zip (q01 (q1f (q0m (K:=K) rfl) (pv 0) q09) (q01 (q1f (q0m (K:=K) rfl) (q1f (q0m (K:=K) rfl) (pv 0) q09) (pv 3)) q07))) (q40 (K:=K) rfl rfl (q18 (q0h (i:=6) sc_y16.nd rfl (by walk_at "lr")) (q18 (q0h (i:=7) sc_y16.nd rfl (by walk_at "lr")) q3z))) (q06 (q0u (i:=8) sc_y16.nd rfl (by walk_at "lr") (q11 q3q (q0y (qep (K:=K) rfl rfl) (by rfl) T.z_sum (by rfl) (q01 (q2y (sc:=q04 q9o) (N0:=["_law_scheme_here","_law_room","_law_bit","_law_phase","_law_shifted","_law_ones","_law_tap","_law_keeps","_law_odd"]) rfl rfl rfl (show q1i _ _ ["_law_k","_law_shifted","_law_tap"] 1 [4,6] _=true by decide+kernel) (q2j (by rfl) T.z_range (q01 q09 q07)) (λ_ _ _ _ _=>(q0h (i:=0) (show List.Nodup (["_law_k","_law_shifted","_law_tap"]:List Str)from(by decide+kernel)) rfl (Or.inl rfl))) (q26 (by decide)) (λ_ _ _ _ _=>q2q) (λ_ _ _ _ _=>(q11 q8s (q11 q8s (q11 qez (pv 1) (pv 0)) (q11 qez (pv 2) (pv 0))) q09))) q07)) q09)) (q0b (qex (i:=5) sc_y16.nd rfl (by walk_at "lr") (q11 (q4u (K:=K) rfl) (pv 8) (pv 7)) qkr)))) (q0b (q0x (q2w (q01 (q11 q3q (pv 4) (q11 q8r q09 (q1f (q0m (K:=K) rfl) (pv 0) q09))) (q01 (pv 5) q07)))))))),?_⟩
   exact q15 (O':=[]) (Nms:=["_law_scheme_here","_law_room","_law_bit","_law_phase","_law_shifted","_law_ones","_law_tap","_law_keeps","_law_odd"]) (f:=qi4) (by
     unfold qi4
     exact(q0e (O1:=[]) (q1g (q0j q39 (q0j q4v me_int (q03 (i:=1))) (q03 (i:=2)))) (q0e (O1:=[]) (q1g me_int) (q0e (O1:=[]) (q27 (O':=[]) (qbr (q02 (q0j q1t (q03 (i:=0)) me_int) (q02 (q0j q1t (q0j q1t (q03 (i:=0)) me_int) (q03 (i:=3))) q0c))) rfl (q5i (q19 (q0i (i:=6)) (q19 (q0i (i:=7)) q45))) (q0e (O1:=[]) (q1g (q0j q3r (q1b qli (q28 (q2d (bw:=none) (q2l (q02 me_int q0c)) (q0i (i:=0)) q3u (q0j q8v (q0j q8v (q0j qf3 (q03 (i:=1)) (q03 (i:=0))) (q0j qf3 (q03 (i:=2)) (q03 (i:=0)))) me_int))).mb) me_int)) (qk9 (by decide) (by decide) (q0j q4v (q03 (i:=8)) (q03 (i:=7))) rfl))) (q1n rfl (q3c (q02 (q0j q3r (q03 (i:=4)) (q0j q8u me_int (q0j q1t (q03 (i:=0)) me_int))) (q02 (q03 (i:=5)) q0c))) rfl))))) h
def qi3:RhO:=
 (sSeq (sOwn 1 (mLst mNil))
 (sSeq (sFor (q3j (q00 (mOp1 dLen (mOp2 dIx (mVar 0) (mRet (.int 2)))) mNil)) (gSet 2)
   (sExt 1 (q1c 1 [2] none (q6z (q00 (mRet (.int 1)) (q00 (mOp2 dShl (mRet (.int 1)) (mOp2 dIx (mVar 0) (mRet (.int 0)))) mNil))) (gSet 0) (mRet true) (mTup (q00 (mVar 1) (q00 (mVar 0) mNil))))))
 (q4s 1)))
def f_y17:List D->Option D:=runP true 1 3 qi3
theorem qme:q1s 1 f_y17:=q2h
theorem qjq(T:Txt K mg a):FnOk P w K mg base CX0 1 a.f_y17 a.fd_y17 ["_law_scheme_here"] (spP K true 1 f_y17):=by
 refine T.F_y17.ok sc_y17 (λ_ _ _ _ h=>h.1) (λcdv A outer s H vs Q E hr h=>?_)
 · refine⟨_,(q06 (q0u (i:=1) sc_y17.nd rfl (by walk_at "lr") (q2x q07)) (q06 (q25 x5 rfl (q2j (by rfl) T.z_range (q01 (q0y (q1p (K:=K) rfl) (by rfl) T.z_len (by rfl) (q01 (q1f (q0m (K:=K) rfl) (pv 0) q09) q07)) q07)) (q0h (i:=2) sc_y17.nd rfl (by walk_at "lr")) (q0b (qex (i:=1) sc_y17.nd rfl (by walk_at "lr") (q2y (sc:=q04 q9n) (N0:=["_law_scheme_here","_law_some","_law_phase"]) rfl rfl rfl (show q1i _ _ ["_law_room","_law_phase"] 1 [2] _=true by decide+kernel) (q6p (by rfl) T.z_range (q01 q09 (q01 (q11 q8r q09 (q1f (q0m (K:=K) rfl) (pv 0) q09)) q07))) (λ_ _ _ _ _=>(q0h (i:=0) (show List.Nodup (["_law_room","_law_phase"]:List Str)from(by decide+kernel)) rfl (Or.inl rfl))) (q26 (by decide)) (λ_ _ _ _ _=>q2q) (λ_ _ _ _ _=>(q2w (q01 (pv 1) (q01 (pv 0) q07))))) qh5))) (q0b (q0x (pv 1))))),?_⟩
   exact q15 (O':=[]) (Nms:=["_law_scheme_here","_law_some","_law_phase"]) (f:=qi3) (by
     unfold qi3
     exact(q0e (O1:=[1]) (q4y (q3b q0c) rfl) (q0e (O1:=[1]) (q27 (O':=[1]) (q2l (q02 (q1b q55 (q0j q1t (q03 (i:=0)) me_int).mb) q0c)) rfl (q0i (i:=2)) (qgm (i:=1) (by decide) (q2d (bw:=none) (q6y (q02 me_int (q02 (q0j q8u me_int (q0j q1t (q03 (i:=0)) me_int)) q0c))) (q0i (i:=0)) q3u (q3c (q02 (q03 (i:=1)) (q02 (q03 (i:=0)) q0c)))) rfl)) (q5y rfl (by first|decide|simp) rfl (by first|decide|simp))))) h
def qi2:RhO:=
 (sSeq (sOwn 2 (mLst mNil))
 (sSeq (sFor (mSeq (mOf (mLst (q00 (mRet (.int 0)) (q00 (mRet (.int 1)) mNil))))) (gSet 3)
   (sSeq (sAsg (q12 f_y16 (q00 (mVar 0) (q00 (mOp2 dIx (mVar 1) (mRet (.int 1))) (q00 (mVar 3) (q00 (mOp2 dIx (mVar 1) (mRet (.int 0))) mNil))))) (q2f 2 (q0g (gSet 4) (q0g (gSet 5) q2p))))
 (sIf (q0l (mOp2 dGt (mVar 4) (mRet (.int 0))))
   (sMut q1e 2 (q00 (mTup (q00 (mVar 3) (q00 (mVar 5) (q00 (mTup (q00 (mOp2 dMod (mOp2 dAdd (mOp2 dIx (mVar 1) (mRet (.int 0))) (mRet (.int 1))) (mOp1 dLen (mOp2 dIx (mVar 0) (mRet (.int 2))))) (q00 (mVar 4) mNil))) mNil)))) mNil))
   sNil)))
 (q4s 2)))
def f_y18:List D->Option D:=runP true 2 6 qi2
theorem qmd:q1s 2 f_y18:=q2h
theorem qjp(T:Txt K mg a):FnOk P w K mg base CX0 2 a.f_y18 a.fd_y18 ["_law_scheme_here","_law_node"] (spP K true 2 f_y18):=by
 have G_y16:=qjr (P:=P) (w:=w) (base:=base) T
 refine T.F_y18.ok sc_y18 (λ_ _ _ _ h=>h.1) (λcdv A outer s H vs Q E hr h=>?_)
 · refine⟨_,(q06 (q0u (i:=2) sc_y18.nd rfl (by walk_at "lr") (q2x q07)) (q06 (q25 x5 rfl (q2r (K:=K) rfl (q2x (q01 q09 (q01 q09 q07)))) (q0h (i:=3) sc_y18.nd rfl (by walk_at "lr")) (q06 (qey (q0f G_y16 hr.m (by rfl) T.mg_y16 T.kp_y16 T.B_y16 .nil q1a (q01 (pv 0) (q01 (q1f (q0m (K:=K) rfl) (pv 1) q09) (q01 (pv 3) (q01 (q1f (q0m (K:=K) rfl) (pv 1) q09) q07))))) (q40 (K:=K) rfl rfl (q18 (q0h (i:=4) sc_y18.nd rfl (by walk_at "lr")) (q18 (q0h (i:=5) sc_y18.nd rfl (by walk_at "lr")) q3z)))) (q0b (q56 (q2a qgd (pv 4) q09 (q2z _)) (q0b (q3g (q7s PySem.F.plainAttrs_list PySem.F.slot_list_append PySem.F.type_list_append q2k (pv 2) (q01 (q2w (q01 (pv 3) (q01 (pv 5) (q01 (q2w (q01 (q11 q3q (q11 (q2c (K:=K) rfl) (q1f (q0m (K:=K) rfl) (pv 1) q09) q09) (q0y (q1p (K:=K) rfl) (by rfl) T.z_len (by rfl) (q01 (q1f (q0m (K:=K) rfl) (pv 0) q09) q07))) (q01 (pv 4) q07))) q07)))) q07)))) q2b)))) (q0b (q0x (pv 2))))),?_⟩
   exact q15 (O':=[]) (Nms:=["_law_scheme_here","_law_node","_law_some","_law_bit","_law_room","_law_ones"]) (f:=qi2) (by
     unfold qi2
     exact(q0e (O1:=[2]) (q4y (q3b q0c) rfl) (q0e (O1:=[2]) (q27 (O':=[2]) (q3v (q28 (q3b (q02 me_int (q02 me_int q0c))))) rfl (q0i (i:=3)) (q0e (O1:=[2]) (qka (q1h qmf (q02 (q03 (i:=0)) (q02 (q0j q1t (q03 (i:=1)) me_int) (q02 (q03 (i:=3)) (q02 (q0j q1t (q03 (i:=1)) me_int) q0c))))) rfl (q5i (q19 (q0i (i:=4)) (q19 (q0i (i:=5)) q45)))) (q6x (q2t (q3d qg9 (q03 (i:=4)) me_int.mb)) (q90 q3t (by decide) (q02 (q3c (q02 (q03 (i:=3)) (q02 (q03 (i:=5)) (q02 (q3c (q02 (q0j q3r (q0j q39 (q0j q1t (q03 (i:=1)) me_int) me_int) (q1b q55 (q0j q1t (q03 (i:=0)) me_int).mb)) (q02 (q03 (i:=4)) q0c))) q0c)))) q0c) rfl) (q4a rfl)))) (q5y rfl (by first|decide|simp) rfl (by first|decide|simp))))) h
def qi1:RhO:=
 (sSeq (q35 2)
 (sSeq (q35 3)
 (sSeq (sFor (mSeq (mOf (q2m f_y17 (q00 (mVar 0) mNil)))) (gSet 4)
   (sSeq (q1x 2 (mOf (q2m f_y18 (q00 (mVar 0) (q00 (mVar 4) mNil)))) (mVar 4))
 (q1x 3 (mRet (.int 0)) (mVar 4))))
 (sSeq (sOwn 5 (mLst (q00 (mVar 3) mNil)))
 (sSeq (sFor (q3j (q00 (mVar 1) mNil)) (gSet 6)
   (sSeq (q35 3)
 (sSeq (sFor (q70 (mVar 2)) (gSet 4)
   (q1x 3 (mOp1 q53 (mOf (q1c 3 [5] (some (5,3)) (mSeq (mOp2 q2g (mVar 2) (mVar 4))) (q2f 3 (q0g (gSet 0) (q0g (gSet 1) (q0g (gSet 2) q2p)))) (mRet true) (mOp2 dAdd (mVar 1) (mOp2 q2g (mIxO 3 (mOp1 dNeg (mRet (.int 1)))) (mVar 2)))))) (mVar 4)))
 (sMut q1e 5 (q00 (mVar 3) mNil)))))
 (sRet (mVar 5)))))))
def f_y19:List D->Option D:=runP false 2 7 qi1
theorem qmc:q1s 2 f_y19:=q2h
theorem qjo(T:Txt K mg a):FnOk P w K mg base CX0 3 a.f_y19 a.fd_y19 ["_law_scheme_here","_law_many"] (spP K false 2 f_y19):=by
 have G_y17:=qjq (P:=P) (w:=w) (base:=base) T
 have G_y18:=qjp (P:=P) (w:=w) (base:=base) T
 refine T.F_y19.ok sc_y19 (λ_ _ _ _ h=>h.1) (λcdv A outer s H vs Q E hr h=>?_)
 · refine⟨_,(q06 (q0u (i:=2) sc_y19.nd rfl (by walk_at "lr") q2s) (q06 (q0u (i:=3) sc_y19.nd rfl (by walk_at "lr") q2s) (q06 (q25 x5 rfl (q2r (K:=K) rfl (q0f G_y17 hr.m (by rfl) T.mg_y17 T.kp_y17 T.B_y17 .nil q1a (q01 (pv 0) q07))) (q0h (i:=4) sc_y19.nd rfl (by walk_at "lr")) (q06 (q3h (q5a hr) (pv 2) (pv 4) (q0f G_y18 hr.m (by rfl) T.mg_y18 T.kp_y18 T.B_y18 .nil q1a (q01 (pv 0) (q01 (pv 4) q07))) rfl) (q0b (q3h (q5a hr) (pv 3) (pv 4) q09 rfl)))) (q06 (q0u (i:=5) sc_y19.nd rfl (by walk_at "lr") (q2x (q01 (pv 3) q07))) (q06 (q25 x5 rfl (q2j (by rfl) T.z_range (q01 (pv 1) q07)) (q0h (i:=6) sc_y19.nd rfl (by walk_at "lr")) (q06 (q0u (i:=3) sc_y19.nd rfl (by walk_at "lr") q2s) (q06 (q25 x5 rfl (qb7 (pv 2)) (q0h (i:=4) sc_y19.nd rfl (by walk_at "lr")) (q0b (q3h (q5a hr) (pv 3) (pv 4) (q0y (qa7 (K:=K) rfl rfl) (by rfl) T.z_min (by rfl) (q01 (q2y (sc:=q04 q9m) (N0:=["_law_scheme_here","_law_many","_law_ways_here","_law_row","_law_node","_law_some","_law_k"]) rfl rfl rfl (show q1i _ _ ["_law_bit","_law_ones","_law_other","_law_some"] 3 [5] _=true by decide+kernel) (q2r (K:=K) rfl (q7r (q5a hr) (pv 2) (pv 4) (λ_ o=>rfl))) (λ_ _ _ _ _=>(q40 (K:=K) rfl rfl (q18 (q0h (i:=0) (show List.Nodup (["_law_bit","_law_ones","_law_other","_law_some"]:List Str)from(by decide+kernel)) rfl (Or.inl rfl)) (q18 (q0h (i:=1) (show List.Nodup (["_law_bit","_law_ones","_law_other","_law_some"]:List Str)from(by decide+kernel)) rfl (Or.inl rfl)) (q18 (q0h (i:=2) (show List.Nodup (["_law_bit","_law_ones","_law_other","_law_some"]:List Str)from(by decide+kernel)) rfl (Or.inl rfl)) q3z))))) (qdq (by decide) (by decide) (by decide)) (λ_ _ _ _ _=>q2q) (λ_ _ _ _ _=>(q11 (q2c (K:=K) rfl) (pv 1) (q7r (q5a hr) (q1f (q0m (K:=K) rfl) (pv 3) (qjc qet q09)) (pv 2) (λ_ o=>rfl))))) q07)) rfl))) (q0b (q3g (q7s PySem.F.plainAttrs_list PySem.F.slot_list_append PySem.F.type_list_append q2k (pv 5) (q01 (pv 3) q07))))))) (q0b (q0x (pv 5)))))))),?_⟩
   exact q15 (O':=[]) (Nms:=["_law_scheme_here","_law_many","_law_ways_here","_law_row","_law_node","_law_some","_law_k"]) (f:=qi1) (by
     unfold qi1
     exact(q0e (O1:=[2]) (q44 rfl) (q0e (O1:=[2,3]) (q44 rfl) (q0e (O1:=[]) (q4x (q27 (O':=[2,3]) (q3v (q28 (q4n qme (q02 (q03 (i:=0)) q0c)))) rfl (q0i (i:=4)) (q0e (O1:=[2,3]) (q43 (by decide) (q28 (q4n qmd (q02 (q03 (i:=0)) (q02 (q03 (i:=4)) q0c)))) (q03 (i:=4)) rfl) (q43 (by decide) me_int (q03 (i:=4)) rfl))) rfl) (q0e (O1:=[5]) (q4y (q3b (q02 (q03 (i:=3)) q0c)) rfl) (q0e (O1:=[]) (q4x (q27 (O':=[5]) (q2l (q02 (q03 (i:=1)) q0c)) rfl (q0i (i:=6)) (q0e (O1:=[5,3]) (q44 rfl) (q0e (O1:=[5]) (q4x (q27 (O':=[5,3]) (qbs (q03 (i:=2))) rfl (q0i (i:=4)) (q43 (by decide) (q1b qhy (q28 (q2d (bw:=(some (5,3))) (q3v (q7z (q03 (i:=2)) (q03 (i:=4)))) (q5i (q19 (q0i (i:=0)) (q19 (q0i (i:=1)) (q19 (q0i (i:=2)) q45)))) q3u (q0j q39 (q03 (i:=1)) (q7z (qbu (i:=3) (by decide) (qkd me_int)) (q03 (i:=2)))))).mb) (q03 (i:=4)) rfl)) rfl) (q90 q3t (by decide) (q02 (q03 (i:=3)) q0c) rfl)))) rfl) (q1n rfl (q03 (i:=5)) rfl))))))) h
def qi0:RhO:=
 (sSeq (sIf (mOr (mNot (q0l (mOp1 (dIsi (q24 "list")) (mVar 0)))) (q0l (mOp2 dNe (mOp1 dLen (mVar 0)) (mOp1 dLen (mVar 1)))))
   (sRet (mRet (.bl false)))
   sNil)
 (sSeq (sFor (mZip (q00 (mVar 0) (q00 (mVar 1) mNil))) (q2f 2 (q0g (gSet 2) (q0g (gSet 3) q2p)))
   (sSeq (sIf (mOr (mNot (q0l (mOp1 (dIsi (q24 "dict")) (mVar 2)))) (q0l (mOp2 dNeT (mVar 2) (mVar 3))))
   (sRet (mRet (.bl false)))
   sNil)
 (sIf (mNot (q0l (mOp1 dAll (mOf (q1c 1 [] none (qdw (mVar 2)) (gSet 0) (mRet true) (q81 (mOp1 (dIsi (q24 "int")) (mVar 0)) (q80 (mOp1 (dIsi (q24 "bool")) (mVar 0)))))))))
   (sRet (mRet (.bl false)))
   sNil)))
 (sRet (mRet (.bl true)))))
def f_y20:List D->Option D:=runP false 2 4 qi0
theorem qk5:q1s 2 f_y20:=q2h
theorem qjn(T:Txt K mg a):FnOk P w K mg base CX0 1 a.f_y20 a.fd_y20 ["_law_told","_law_due"] (spP K false 2 f_y20):=by
 refine T.F_y20.ok sc_y20 (λ_ _ _ _ h=>h.1) (λcdv A outer s H vs Q E hr h=>?_)
 · refine⟨_,(q06 (q56 (PW.pt (pw_or (q6m (q6l (q0y (q4q (K:=K) rfl) (by rfl) T.z_isinstance (by rfl) (q01 (pv 0) (q01 (q5v (v:=.ty "list") (by rfl) T.z_list (by rfl) rfl) q07))))) (pw_or1 (q2a (qf1 (K:=K) rfl hr.units) (q0y (q1p (K:=K) rfl) (by rfl) T.z_len (by rfl) (q01 (pv 0) q07)) (q0y (q1p (K:=K) rfl) (by rfl) T.z_len (by rfl) (q01 (pv 1) q07)) (q2z _))))) (q0b (q0x q6q)) q2b) (q06 (q25 x5 rfl (q7q (K:=K) rfl (by rfl) T.z_zip (q01 (pv 0) (q01 (pv 1) q07))) (q40 (K:=K) rfl rfl (q18 (q0h (i:=2) sc_y20.nd rfl (by walk_at "lr")) (q18 (q0h (i:=3) sc_y20.nd rfl (by walk_at "lr")) q3z))) (q06 (q56 (PW.pt (pw_or (q6m (q6l (q0y (q4q (K:=K) rfl) (by rfl) T.z_isinstance (by rfl) (q01 (pv 2) (q01 (q5v (v:=.ty "dict") (by rfl) T.z_dict (by rfl) rfl) q07))))) (pw_or1 (q2a (qjl hr.units) (pv 2) (pv 3) (q2z _))))) (q0b (q0x q6q)) q2b) (q0b (q56 (q6m (q6l (q0y (qer (K:=K) rfl rfl) (by rfl) T.z_all (by rfl) (q01 (q2y (sc:=q04 q9l) (N0:=["_law_told","_law_due","_law_one","_law_other"]) rfl rfl rfl (show q1i _ _ ["_law_number"] 1 [] _=true by decide+kernel) (qg1 (pv 2)) (λ_ _ _ _ _=>(q0h (i:=0) (show List.Nodup (["_law_number"]:List Str)from(by decide+kernel)) rfl (Or.inl rfl))) (q26 (by decide)) (λ_ _ _ _ _=>q2q) (λ_ _ _ _ _=>(qjf (q0y (q4q (K:=K) rfl) (by rfl) T.z_isinstance (by rfl) (q01 (pv 0) (q01 (q5v (v:=.ty "int") (by rfl) T.z_int (by rfl) rfl) q07))) (qjd (qje (q0y (q4q (K:=K) rfl) (by rfl) T.z_isinstance (by rfl) (q01 (pv 0) (q01 (q5v (v:=.ty "bool") (by rfl) T.z_bool (by rfl) rfl) q07)))))))) q07)))) (q0b (q0x q6q)) q2b)))) (q0b (q0x q6q)))),?_⟩
   exact q15 (O':=[]) (Nms:=["_law_told","_law_due","_law_one","_law_other"]) (f:=qi0) (by
     unfold qi0
     exact(q0e (O1:=[]) (q6x (qk7 (q6w (q6v (q91 (qe7 T) q4b))) (q2t (q3d qji (q1b q55 q4b) (q1b q55 q4b).mb))) (q1n rfl q9x rfl) (q4a rfl)) (q0e (O1:=[]) (q27 (O':=[]) (qbr (q02 (q03 (i:=0)) (q02 (q03 (i:=1)) q0c))) rfl (q5i (q19 (q0i (i:=2)) (q19 (q0i (i:=3)) q45))) (q0e (O1:=[]) (q6x (qk7 (q6w (q6v (q91 (qe8 T) q4b))) (q2t (q3d qjh (q03 (i:=2)) q4b))) (q1n rfl q9x rfl) (q4a rfl)) (q6x (q6w (q6v (q1b qlk (q28 (q2d (bw:=none) (qgn (q03 (i:=2))) (q0i (i:=0)) q3u (qke (q91 (qh4 T) q4b) (qkc (q91 (qe9 T) q4b))))).mb))) (q1n rfl q9x rfl) (q4a rfl)))) (q1n rfl q9x rfl)))) h
def qll(P0:Addr):RhO:=
 (sSeq (sFor (mSeq (mSl (mVar 0) (mRet none) (q30 (mRet (.int 6))))) (gSet 1)
   (sSeq (sOwn 2 (mLst (q00 (mOp2 dAdd (mOp2 q3x (mOp2 dMod (mVar 1) (mOp2 dPow (mRet (.int 10)) (mRet (.int 30)))) (mRet (.int 7368787))) (mRet (.int 1000003))) mNil)))
 (sSeq (sSet 3 (q0o f_y15 2 (q00 (mRet (.int 4)) (q00 (mOp2 dIx (mOf (mLst (q00 (mRet (.str "open")) (q00 (mRet (.str "ended")) (q00 (mRet (.str "ring")) mNil))))) (q0o f_y14 2 (q00 (mRet (.int 3)) mNil))) mNil))))
 (sSeq (sSet 4 (q0o f_y14 2 (q00 (mRet (.int 8)) mNil)))
 (q2v 5 6 7 P0 lp0 lq0 (f_y13 P0) (q00 (mVar 3) (q00 (mVar 4) mNil)) (q12 f_y19 (q00 (mVar 3) (q00 (mVar 4) mNil))) (mNot (q0l (q12 f_y20 (q00 (mVar 5) (q00 (mVar 6) mNil))))) (q0l (mOp2 q4i (mSl (mVar 5) (q30 (mRet (.int 1))) (mRet none)) (mSl (mVar 6) (q30 (mRet (.int 1))) (mRet none))))
 (sIf (mNot (q0l (q12 f_y20 (q00 (q29 7 P0 lp0 lq0 (f_y13 P0) (q00 (mVar 3) (q00 (mVar 4) mNil))) (q00 (mVar 6) mNil)))))
   (sRet (mRet (.bl false)))
   sNil))))))
 (sRet (mRet (.bl true))))
def f_law(P0:Addr):List D->Option D:=qb0 false 1 8 7 (.tab P0 lp0 lq0) (qll P0)
theorem qjy(T:Txt K mg a):FnOk P w K mg base CX0 9 a.f_law a.fd_law ["_law_script"] (spPL K a.t_y9 lp0 lq0 1 (f_law a.t_y9)):=by
 have G_y14:=qf2 (P:=P) (w:=w) (base:=base) T
 have G_y15:=qjs (P:=P) (w:=w) (base:=base) T
 have G_y13:=qjt (P:=P) (w:=w) (base:=base) T
 have G_y19:=qjo (P:=P) (w:=w) (base:=base) T
 have G_y20:=qjn (P:=P) (w:=w) (base:=base) T
 refine T.F_law.okT (z:="@t") (j:=7) (u:=.ref a.t_y9) sc_law rfl (by unfold Vis;decide+kernel) (λvs H Q E h=>h.1) (λcdv A outer s H vs Q E hr h=>?_)
 refine⟨_,(q06 (q25 x5 rfl (q2r (K:=K) rfl (q5u (q7m (K:=K) rfl) (pv 0) q7p (q7o q09))) (q0h (i:=1) sc_law.nd rfl (by walk_at "lr")) (q06 (q0u (i:=2) sc_law.nd rfl (by walk_at "lr") (q2x (q01 (q11 (q2c (K:=K) rfl) (q11 (q4u (K:=K) rfl) (q11 q3q (pv 1) (q11 qf0 q09 q09)) q09) q09) q07))) (q06 (q0u (i:=3) sc_law.nd rfl (by walk_at "lr") (q0f G_y15 hr.m (by rfl) T.mg_y15 T.kp_y15 T.B_y15 .nil q1a (q01 (pv 2) (q01 q09 (q01 (q1f (q0m (K:=K) rfl) (q2x (q01 qb9 (q01 qb9 (q01 qb9 q07)))) (q0f G_y14 hr.m (by rfl) T.mg_y14 T.kp_y14 T.B_y14 .nil q1a (q01 (pv 2) (q01 q09 q07)))) q07))))) (q06 (q0u (i:=4) sc_law.nd rfl (by walk_at "lr") (q0f G_y14 hr.m (by rfl) T.mg_y14 T.kp_y14 T.B_y14 .nil q1a (q01 (pv 2) (q01 q09 q07)))) (q06 (q0u (i:=5) sc_law.nd rfl (by walk_at "lr") (q0f G_y13 hr.m (by rfl) T.mg_y13 T.kp_y13 T.B_y13 .nil q1a (q01 (pv 3) (q01 (pv 4) q07)))) (q06 (q0u (i:=6) sc_law.nd rfl (by walk_at "lr") (q0f G_y19 hr.m (by rfl) T.mg_y19 T.kp_y19 T.B_y19 .nil q1a (q01 (pv 3) (q01 (pv 4) q07)))) (q06 (q56 (q6m (q6l (q0f G_y20 hr.m (by rfl) T.mg_y20 T.kp_y20 T.B_y20 .nil q1a (q01 (pv 5) (q01 (pv 6) q07))))) (q0b (q0x q6q)) q2b) (q06 (q3h (q5a hr) (q1f (q0m (K:=K) rfl) (pv 5) q09) (q2w (q01 q09 (q01 q09 q07))) q09 rfl) (q06 (q56 (q2a (qgb (K:=K) rfl hr.units) (q5u (q7m (K:=K) rfl) (pv 5) (q7o q09) q7p) (q5u (q7m (K:=K) rfl) (pv 6) (q7o q09) q7p) (q2z _)) (q0b (q0x q6q)) q2b) (q06 (q3g (q7s PySem.F.plainAttrs_list PySem.F.slot_list_append PySem.F.type_list_append q2k (pv 5) (q01 q2s q07))) (q0b (q56 (q6m (q6l (q0f G_y20 hr.m (by rfl) T.mg_y20 T.kp_y20 T.B_y20 .nil q1a (q01 (q0f G_y13 hr.m (by rfl) T.mg_y13 T.kp_y13 T.B_y13 .nil q1a (q01 (pv 3) (q01 (pv 4) q07))) (q01 (pv 6) q07))))) (q0b (q0x q6q)) q2b)))))))))))) (q0b (q0x q6q))),?_⟩
 exact qam (O':=[]) (Nms:=["_law_script","_law_cell","_law_state","_law_scheme_here","_law_many","_law_told","_law_due","@t"]) (by decide) (by
     unfold qll
     exact(q0e (O1:=[]) (q27 (O':=[]) (q3v (q5z (q03 (i:=0)) q7w (q7v me_int))) rfl (q0i (i:=1)) (q0e (O1:=[2]) (q4y (q3b (q02 (q0j q39 (q0j q4v (q0j q3r (q03 (i:=1)) (q0j qf4 me_int me_int)) me_int) me_int) q0c)) rfl) (q0e (O1:=[2]) (q1g (q1m (i:=2) qmg (by decide) (q02 me_int (q02 (q0j q1t (q28 (q3b (q02 qbt (q02 qbt (q02 qbt q0c))))) (q1m (i:=2) q5x (by decide) (q02 me_int q0c))) q0c)))) (q0e (O1:=[]) (q1g (q1m (i:=2) q5x (by decide) (q02 me_int q0c))) (qbn qk6 (q02 (q03 (i:=3)) (q02 (q03 (i:=4)) q0c)) (by decide) (q1h qmc (q02 (q03 (i:=3)) (q02 (q03 (i:=4)) q0c))) (q6w (q6v (q1h qk5 (q02 (q03 (i:=5)) (q02 (q03 (i:=6)) q0c))))) (q2t (q3d qg8 (q5z (q03 (i:=5)) (q7v me_int) q7w) (q5z (q03 (i:=6)) (q7v me_int) q7w).mb)) (q6x (q6w (q6v (q1h qk5 (q02 (qbw (by decide) qk6 qmi (q02 (q03 (i:=3)) (q02 (q03 (i:=4)) q0c))) (q02 (q03 (i:=6)) q0c))))) (q1n rfl q9x rfl) (q4a rfl))))))) (q1n rfl q9x rfl))) h
end
section
variable{r:Int}{taps:List Int}{rows:List (List Int)}{e:Str}
theorem p_y1(ok:q1w r taps rows e):f_y1 [schD r taps rows e]=some (.int (2^r.toNat)):=by
 have r0:=ok.r0
 have r4:=ok.r4
 have r6:r<=1000000:=by omega
 have hr:f_y0 [.int r]=some (.int (2^r.toNat)):=by
   unfold f_y0 b_y0
   clear ok
   walk_at "ev"
 unfold f_y1 b_y1 schD
 clear ok
 walk_at "ev"
theorem qbc(n:D):∀(f j5:Nat) (l o:Int),0<=l->l.toNat<2^f->(o=0∨o=1)->f<j5->∃l':Int,q1l (q0l (mOp2 dGt (mVar 1) (mRet (.int 0))))
   (sSeq (sSet 2 (mOp2 dXor (mVar 2) (mOp2 dAnd (mVar 1) (mRet (.int 1)))))
 (sSet 1 (mOp2 dDiv (mVar 1) (mRet (.int 2))))) j5 [some n,some (.int l),some (.int o)]=some (.nx [some n,some (.int l'),some (.int ((o+(parF f l.toNat:Nat)) % 2))])
 |_,0,_,_,_,_,_,h=>absurd h (Nat.not_lt_zero _)
 | f,j5+1,l,o,l0,lf,ho,hf=>by
   have ht:(q0l (mOp2 dGt (mVar 1) (mRet (.int 0)))) [some n,some (.int l),some (.int o)]=some (decide (0<l),[some n,some (.int l),some (.int o)]):=by
     walk_at "ev"
   by_cases hl:0<l
   · cases f with
     |zero=>exact absurd lf (by omega)
     | succ f=>
       have hb:(sSeq (sSet 2 (mOp2 dXor (mVar 2) (mOp2 dAnd (mVar 1) (mRet (.int 1))))) (sSet 1 (mOp2 dDiv (mVar 1) (mRet (.int 2))))) [some n,some (.int l),some (.int o)]=some (.nx [some n,some (.int (l / 2)),some (.int (Builtin.bitXor o (Builtin.bitAnd l 1)))]):=by
         clear ht
         walk_at "ev"
       have ex:Builtin.bitXor o (Builtin.bitAnd l 1)=(o+l % 2) % 2:=by rw[qd6 l0];exact qda ho (by omega)
       have e2:(l / 2).toNat=l.toNat / 2:=by omega
       have lt2:(l / 2).toNat<2^f:=by rw[e2];rw[Nat.pow_succ]at lf;omega
       obtain⟨l',ih⟩:=qbc n f j5 (l / 2) (Builtin.bitXor o (Builtin.bitAnd l 1)) (by omega) lt2 (by rw[ex];omega) (by omega)
       refine⟨l',?_⟩
       rw[decide_eq_true hl]at ht
       unfold q1l
       rw[ht]
       dsimp only
       rw[hb]
       dsimp only
       rw[ih,ex,e2]
       have u:parF (f+1) l.toNat=(l.toNat % 2+parF f (l.toNat / 2)) % 2:=rfl
       rw[u]
       have ev:((o+l % 2) % 2+(parF f (l.toNat / 2):Nat)) % 2=(o+(((l.toNat % 2+parF f (l.toNat / 2)) % 2:Nat):Int)) % 2:=by omega
       rw[ev]
   · rw[decide_eq_false hl]at ht
     refine⟨l,?_⟩
     unfold q1l
     rw[ht]
     dsimp only
     have e0:l=0:=by omega
     subst e0
     rw[show((0:Int)).toNat=0 from rfl,q6r]
     have ev:(o+((0:Nat):Int)) % 2=o:=by omega
     rw[ev]
theorem p_y2(n:Int)(h0:0<=n)(h:n<32):f_y2 [.int n]=some (.int (parF 5 n.toNat:Nat)):=by
 obtain⟨l',hw⟩:=qbc (.int n) 5 1000 n 0 h0 (by omega) (.inl rfl) (by decide)
 have e1:((0:Int)+(parF 5 n.toNat:Nat)) % 2=(parF 5 n.toNat:Nat):=by
   have:=qbb 5 n.toNat
   omega
 rw[e1]at hw
 generalize parF 5 n.toNat=p at hw ⊢
 unfold f_y2 b_y2
 generalize (1000:Nat)=j5 at hw ⊢
 clear h0 h e1
 walk_at "ev"
theorem p_y3(ok:q1w r taps rows e)(room bit:Int)(a0:0<=room)(a1:room<2^r.toNat)(hb:bit=0∨bit=1):
   f_y3 [schD r taps rows e,.int room,.int bit]=some (.tup [.int ((2*room+bit) % 2^r.toNat),.tup ((taps.map (sgn (2*room+bit))).map D.int)]):=by
 have p16:=q4t ok.r0 ok.r4
 have hr:=p_y1 ok
 have hp:=p_y2
 have m0:(0:Int)<2^r.toNat:=by omega
 have cm:=q5p (n:=1) (js:=[3]) (fg:=gSet 0) (fe:=q12 f_y2 (q00 (mOp2 dAnd (mVar 1) (mVar 0)) mNil)) (ρ:=[some (schD r taps rows e),some (.int room),some (.int bit),some (.int (2*room+bit)),none]) (λd=>match d with|.int t=>.int (sgn (2*room+bit) t)|d=>d) (taps.map D.int) (λx hx=>by
       obtain⟨t,ht,rfl⟩:=List.mem_map.mp hx
       refine⟨[some (.int t),some (.int (2*room+bit))],rfl,?_⟩
       have tb:=ok.tb t ht
       have w0:0<=2*room+bit:=by omega
       have ea:=qd7 w0 tb.1
       have lt:(2*room+bit).toNat &&& t.toNat<32:=Nat.lt_of_le_of_lt Nat.and_le_left (by omega)
       have hq:=p_y2 (((2*room+bit).toNat &&& t.toNat:Nat):Int) (by omega) (by omega)
       rw[xu,<-ea]at hq
       show _=some (D.int (sgn (2*room+bit) t))
       unfold sgn
       generalize 2*room+bit=W at hq ⊢
       generalize parF 5 (W.toNat &&& t.toNat)=z at hq ⊢
       clear hx ht tb w0 ea lt hr hp hb a0 a1 m0 p16
       walk_at "ev")
 have e2:(taps.map D.int).map (λd=>match d with|.int t=>D.int (sgn (2*room+bit) t)|d=>d)=(taps.map (sgn (2*room+bit))).map D.int:=by
   rw[jx,jx]
   rfl
 rw[e2]at cm
 have ll:(taps.map D.int).length<=sizeLine:=by rw[j9];exact q2e (by have:=ok.t4;omega)
 unfold f_y3 b_y3
 unfold schD at cm hr ⊢
 generalize (taps.map (sgn (2*room+bit))).map D.int=S at cm ⊢
 generalize taps.map D.int=TS at cm hr ll ⊢
 generalize (2:Int)^r.toNat=m at hr m0 a1 p16 ⊢
 have two:2<=sizeLine:=by decide
 clear ok hp hb a0 a1 p16 e2
 walk_at "ev"
theorem qew(ok:q1w r taps rows e)(k:Nat):atI (rows.map rowD) ((k:Int) % ((rows.map rowD).length:Nat))=some (.tup ((rowAt rows k).map D.int)):=by
 have m1:=ok.m1
 have hk:k % rows.length<rows.length:=Nat.mod_lt _ (by omega)
 have e1:((k:Int) % ((rows.map rowD).length:Nat))=((k % rows.length:Nat):Int):=by rw[j9];exact(Int.natCast_emod k rows.length).symm
 rw[e1,qlm (by omega) (by rw[j9];omega),xu,ju]
 unfold rowAt
 rw[jw hk]
 rfl
theorem qdn(ok:q1w r taps rows e)(k:Nat)(signs:List Int)(hl:signs.length<=1000):
   f_y4 [schD r taps rows e,.int k,.tup (signs.map D.int)]=some (.tup ((q57 (rowAt rows k) signs).map D.int)):=by
 have hr:=qew ok k
 have z5:0<(rows.map rowD).length:=by have:=ok.m1;rw[j9];omega
 have hz:zipD (signs.map D.int) ((rowAt rows k).map D.int)=(signs.zip (rowAt rows k)).map λq=>D.tup [.int q.1,.int q.2]:=q6b _ _
 have cm:∀ρ:Rho,q0q 2 [] none (q2f 2 (q0g (gSet 0) (q0g (gSet 1) q2p))) (q0l (mOp2 dEq (mVar 1) (mRet (.int 1)))) (mVar 0) ((signs.zip (rowAt rows k)).map λq=>D.tup [.int q.1,.int q.2]) ρ=some ((q57 (rowAt rows k) signs).map D.int,ρ):=λρ=>by
   have:=q7d (n:=2) (js:=[]) (fg:=q2f 2 (q0g (gSet 0) (q0g (gSet 1) q2p))) (ft:=q0l (mOp2 dEq (mVar 1) (mRet (.int 1)))) (fe:=mVar 0) (ρ:=ρ) (λd=>match d with|.tup [_,.int b]=>b==1|_=>false) (λd=>match d with|.tup [x,_]=>x|d=>d) ((signs.zip (rowAt rows k)).map λq=>D.tup [.int q.1,.int q.2]) (λx hx=>by
       obtain⟨q,_,rfl⟩:=List.mem_map.mp hx
       refine⟨[some (.int q.1),some (.int q.2)],rfl,?_,λ_=>rfl⟩
       clear hr hz hx
       walk_at "ev")
   rw[this,List.filter_map,jx]
   unfold q57
   rw[jx]
   rfl
 have ll:((signs.zip (rowAt rows k)).map λq=>D.tup [.int q.1,.int q.2]).length<=sizeLine:=by
   rw[j9,List.length_zip]
   exact q2e (by have:=Nat.min_le_left signs.length (rowAt rows k).length;omega)
 unfold f_y4 b_y4 schD
 generalize (signs.zip (rowAt rows k)).map (λq=>D.tup [.int q.1,.int q.2])=Z at hz cm ll
 generalize (q57 (rowAt rows k) signs).map D.int=Y at cm ⊢
 generalize (rowAt rows k).map D.int=R at hr hz
 generalize rows.map rowD=RS at hr z5 ⊢
 generalize signs.map D.int=S at hz ⊢
 clear ok hl
 walk_at "ev"
theorem q6j{ρ ρ1:Rho}{fs:RhL}{n:Int}(h:fs ρ=some ([.int n],ρ1))(bg:big n=true):q3j fs ρ=some (q0w 0 n.toNat,ρ1):=by
 rw[qcl,h]
 show((if big n=true then some (q0w 0 n.toNat)else none).map λx=>(x,ρ1))=_
 rw[if_pos bg]
 rfl
theorem q3o{f g:RhO}{ρ ρ1:Rho}(h:f ρ=some (.nx ρ1)):sSeq f g ρ=g ρ1:=by
 rw[qcj,h]
 rfl
theorem qg5(N:Nat):((N:Int) / 2^(0:Int).toNat % 2+((N:Int) / 2^(1:Int).toNat % 2+((N:Int) / 2^(2:Int).toNat % 2+((N:Int) / 2^(3:Int).toNat % 2+((N:Int) / 2^(4:Int).toNat % 2+0))))) % 2=(parF 5 N:Nat):=by
 have e0:(2:Int)^(0:Int).toNat=1:=rfl
 have e1:(2:Int)^(1:Int).toNat=2:=rfl
 have e2:(2:Int)^(2:Int).toNat=4:=rfl
 have e3:(2:Int)^(3:Int).toNat=8:=rfl
 have e4:(2:Int)^(4:Int).toNat=16:=rfl
 rw[e0,e1,e2,e3,e4]
 have f1:(N:Int) / 2=((N / 2:Nat):Int):=by omega
 have f2:(N:Int) / 4=((N / 2 / 2:Nat):Int):=by omega
 have f3:(N:Int) / 8=((N / 2 / 2 / 2:Nat):Int):=by omega
 have f4:(N:Int) / 16=((N / 2 / 2 / 2 / 2:Nat):Int):=by omega
 have f0:(N:Int) / 1=(N:Int):=by omega
 rw[f0,f1,f2,f3,f4]
 have u:parF 5 N=(N % 2+(N / 2 % 2+(N / 2 / 2 % 2+(N / 2 / 2 / 2 % 2+(N / 2 / 2 / 2 / 2 % 2+0) % 2) % 2) % 2) % 2) % 2:=rfl
 rw[u]
 generalize N / 2 / 2 / 2 / 2=a4
 generalize N / 2 / 2 / 2=a3
 generalize N / 2 / 2=a2
 generalize N / 2=a1
 omega
def nxK(s:Int):Int:=(s*1181783497276652981+12345678910987) % 2305843009213693951
def drK(s m:Int):Int:=nxK s / 65537 % m
theorem q5l(s:Int){m:Int}(h:0<m):0<=drK s m:=Int.emod_nonneg _ (by omega)
theorem q5m(s:Int){m:Int}(h:0<m):drK s m<m:=Int.emod_lt_of_pos _ h
theorem q38(s m:Int)(h:0<m):f_y14 [.int s] [.int m]=some (.int (drK s m),[.int (nxK s)]):=by
 unfold f_y14 qes
 walk_at "ev"
 simp[nxK,drK]
theorem s1e(x s m:Int)(r:Int)(hm:dShl (.int 2) (.int r)=some (.int m))(h0:0<m):(q0o f_y14 1 (q00 (mOp2 dShl (mRet (.int 2)) (mVar 2)) mNil)) [some (.int x),some (.lst [.int s]),some (.int r)]=some (.int (drK s m),[some (.int x),some (.lst [.int (nxK s)]),some (.int r)]):=by
 have h:=q38 s m h0
 generalize dShl=SH at hm ⊢
 walk_at "ev"
theorem s1r(s:Int)(v1 v2 v3 v4 v5 v6:Option D):(q00 (mOp2 dAdd (mRet (.int 1)) (q0o f_y14 0 (q00 (mRet (.int 4)) mNil))) mNil) [some (.lst [.int s]),v1,v2,v3,v4,v5,v6]=some ([.int (1+drK s 4)],[some (.lst [.int (nxK s)]),v1,v2,v3,v4,v5,v6]):=by
 have h:=q38 s 4 (by decide)
 walk_at "ev"
theorem s1x(s s1 s2 r:Int)(E:D)(X Y:List D)(FI:RhL)(FE:RhD)(lx:X.length<=sizeLine)
   (hI:FI [some (.lst [.int s]),some (.int 4),some E,some (.int r),none,none,none]=some (X,[some (.lst [.int s1]),some (.int 4),some E,some (.int r),none,none,none]))
   (cm:q0q 1 [0,3] (some (0,1)) (gSet 0) (mRet true) FE X [some (.lst [.int s1]),some (.int 4),some E,some (.int r),none,none,none]=some (Y,[some (.lst [.int s2]),some (.int 4),some E,some (.int r),none,none,none])):
   (sSet 4 (mOf (q1c 1 [0,3] (some (0,1)) FI (gSet 0) (mRet true) FE))) [some (.lst [.int s]),some (.int 4),some E,some (.int r),none,none,none]=some (.nx [some (.lst [.int s2]),some (.int 4),some E,some (.int r),some (.lst Y),none,none]):=by
 walk_at "ev"
theorem qb2{ρ ρ1:Rho}{fs:RhL}{n:Int}(h:fs ρ=some ([.int n],ρ1))(n0:0<=n)(n1:n<=1000):q3j fs ρ=some (q0w 0 n.toNat,ρ1):=by
 refine q6j h ?_
 unfold big
 simp
 omega
theorem s1(s r:Int)(E:D)(r0:0<=r)(r4:r<=4):∃(ts:List Int) (s':Int),(sSet 4 (mOf (q1c 1 [0,3] (some (0,1)) (q3j (q00 (mOp2 dAdd (mRet (.int 1)) (q0o f_y14 0 (q00 (mRet (.int 4)) mNil))) mNil)) (gSet 0) (mRet true) (q0o f_y14 1 (q00 (mOp2 dShl (mRet (.int 2)) (mVar 2)) mNil))))) [some (.lst [.int s]),some (.int 4),some E,some (.int r),none,none,none]=some (.nx [some (.lst [.int s']),some (.int 4),some E,some (.int r),some (.lst (ts.map D.int)),none,none])
   /\1<=ts.length/\ts.length<=4/\∀t∈ts,0<=t/\t<2*2^r.toNat:=by
 have d0:=q5l s (m:=4) (by decide)
 have d3:=q5m s (m:=4) (by decide)
 have pos2:(0:Int)<2*2^r.toNat:=Int.mul_pos (by decide) (Int.pow_pos (by decide))
 have hsh:dShl (.int 2) (.int r)=some (.int (2*2^r.toNat)):=by
   have r6:r<=1000000:=by omega
   simp[dShl,dI2,q9s,r0,r6]
 obtain⟨ys,s2,c1,c2,c3⟩:=q66 (n:=1) (p:=0) (q:=1) (js:=[0,3]) (fg:=gSet 0) (fe:=q0o f_y14 1 (q00 (mOp2 dShl (mRet (.int 2)) (mVar 2)) mNil))
   (λs:Int=>[some (.lst [.int s]),some (.int 4),some E,some (.int r),none,none,none]) (λy=>∃t:Int,y=.int t/\0<=t/\t<2*2^r.toNat) (q0w 0 (1+drK s 4).toNat) (λx hx s=>by
     obtain⟨k,hk⟩:=List.mem_iff_getElem?.mp hx
     obtain⟨_,rfl⟩:=q2i hk
     exact⟨[some (.int (0+(k:Int))),some (.lst [.int s]),some (.int r)],[some (.int (0+(k:Int))),some (.lst [.int (nxK s)]),some (.int r)],.int (drK s (2*2^r.toNat)),nxK s,rfl,s1e _ _ _ _ hsh pos2,rfl,_,rfl,q5l s pos2,q5m s pos2⟩) (nxK s)
 obtain⟨ts,rfl,tb⟩:=q84 c3
 rw[j9,q1j]at c2
 exact⟨ts,s2,s1x _ _ _ _ _ _ _ _ _ (by rw[q1j];exact q2e (by omega)) (qb2 (s1r _ _ _ _ _ _ _) (by omega) (by omega)) c1,by omega,by omega,tb⟩
theorem s4e(x s:Int)(h:(0:Int)<4):(mOp1 dInt (mOp2 dGt (q0o f_y14 1 (q00 (mRet (.int 4)) mNil)) (mRet (.int 0)))) [some (.int x),some (.lst [.int s])]=some (.int (if drK s 4>0 then 1 else 0),[some (.int x),some (.lst [.int (nxK s)])]):=by
 have h4:=q38 s 4 h
 walk_at "ev"
theorem s4r(s:Int)(v1 v2 v3 v4 v5 v6:Option D):(q00 (mOp2 dAdd (mRet (.int 1)) (q0o f_y14 0 (q00 (mRet (.int 6)) mNil))) mNil) [some (.lst [.int s]),v1,v2,v3,v4,v5,v6]=some ([.int (1+drK s 6)],[some (.lst [.int (nxK s)]),v1,v2,v3,v4,v5,v6]):=by
 have h:=q38 s 6 (by decide)
 walk_at "ev"
theorem s4t(s s' r:Int)(E k:D)(TS RS RW:List D)(FE:RhD)(l3:TS.length<=sizeLine)(l6:RS.length<sizeLine)
   (g1:q0q 1 [0] (some (0,1)) (gSet 0) (mRet true) FE TS [some (.lst [.int s]),some (.int 4),some E,some (.int r),some (.lst TS),some (.lst RS),some k]=some (RW,[some (.lst [.int s']),some (.int 4),some E,some (.int r),some (.lst TS),some (.lst RS),some k])):
   (sMut q1e 5 (q00 (mOp1 q22 (mOf (q1c 1 [0] (some (0,1)) (mSeq (mVar 4)) (gSet 0) (mRet true) FE))) mNil)) [some (.lst [.int s]),some (.int 4),some E,some (.int r),some (.lst TS),some (.lst RS),some k]=some (.nx [some (.lst [.int s']),some (.int 4),some E,some (.int r),some (.lst TS),some (.lst (RS++[.tup RW])),some k]):=by
 walk_at "ev"
theorem s4f(s s1:Int)(s' r:Int)(E:D)(v:Option D)(X TS RS:List D)(FI:RhL)(FB:RhO)
   (hI:FI [some (.lst [.int s]),some (.int 4),some E,some (.int r),some (.lst TS),some (.lst []),none]=some (X,[some (.lst [.int s1]),some (.int 4),some E,some (.int r),some (.lst TS),some (.lst []),none]))
   (f1:q0r (gSet 6) FB X [some (.lst [.int s1]),some (.int 4),some E,some (.int r),some (.lst TS),some (.lst []),none]=some (.nx [some (.lst [.int s']),some (.int 4),some E,some (.int r),some (.lst TS),some (.lst RS),v])):
   (sFor FI (gSet 6) FB) [some (.lst [.int s]),some (.int 4),some E,some (.int r),some (.lst TS),some (.lst []),none]=some (.nx [some (.lst [.int s']),some (.int 4),some E,some (.int r),some (.lst TS),some (.lst RS),v]):=by
 walk_at "ev"
theorem s4(s r:Int)(E:D)(taps:List Int)(h1:1<=taps.length)(h4:taps.length<=4):∃(rows:List (List Int)) (s':Int) (v:Option D),(sFor (q3j (q00 (mOp2 dAdd (mRet (.int 1)) (q0o f_y14 0 (q00 (mRet (.int 6)) mNil))) mNil)) (gSet 6)
   (sMut q1e 5 (q00 (mOp1 q22 (mOf (q1c 1 [0] (some (0,1)) (mSeq (mVar 4)) (gSet 0) (mRet true) (mOp1 dInt (mOp2 dGt (q0o f_y14 1 (q00 (mRet (.int 4)) mNil)) (mRet (.int 0))))))) mNil))) [some (.lst [.int s]),some (.int 4),some E,some (.int r),some (.lst (taps.map D.int)),some (.lst []),none]=some (.nx [some (.lst [.int s']),some (.int 4),some E,some (.int r),some (.lst (taps.map D.int)),some (.lst (rows.map rowD)),v])
   /\1<=rows.length/\rows.length<=6/\∀row∈rows,row.length=taps.length/\∀b∈row,b=0∨b=1:=by
 have d0:=q5l s (m:=6) (by decide)
 have d6:=q5m s (m:=6) (by decide)
 obtain⟨ρ',f1,rows,s3,v,rfl,lr,zk⟩:=q52 (fg:=gSet 6) (fb:=(sMut q1e 5 (q00 (mOp1 q22 (mOf (q1c 1 [0] (some (0,1)) (mSeq (mVar 4)) (gSet 0) (mRet true) (mOp1 dInt (mOp2 dGt (q0o f_y14 1 (q00 (mRet (.int 4)) mNil)) (mRet (.int 0))))))) mNil)))
   (λi ρ=>∃(rows:List (List Int)) (s:Int) (v:Option D),ρ=[some (.lst [.int s]),some (.int 4),some E,some (.int r),some (.lst (taps.map D.int)),some (.lst (rows.map rowD)),v]/\rows.length=i/\∀row∈rows,row.length=taps.length/\∀b∈row,b=0∨b=1)
   (q0w 0 (1+drK s 6).toNat) 0 [some (.lst [.int (nxK s)]),some (.int 4),some E,some (.int r),some (.lst (taps.map D.int)),some (.lst []),none] ⟨[],_,none,rfl,rfl,λ_ h=>nomatch h⟩ (by
     rintro i x ρ hx ⟨rows,s,v,rfl,lr,zk⟩
     obtain⟨hi,rfl⟩:=q2i hx
     obtain⟨bs,s4,g1,g2,g3⟩:=q66 (n:=1) (p:=0) (q:=1) (js:=[0]) (fg:=gSet 0) (fe:=mOp1 dInt (mOp2 dGt (q0o f_y14 1 (q00 (mRet (.int 4)) mNil)) (mRet (.int 0))))
       (λs':Int=>[some (.lst [.int s']),some (.int 4),some E,some (.int r),some (.lst (taps.map D.int)),some (.lst (rows.map rowD)),some (.int (0+(i:Int)))]) (λy=>∃t:Int,y=.int t/\(t=0∨t=1)) (taps.map D.int) (λx hx s'=>by
         obtain⟨z,_,rfl⟩:=List.mem_map.mp hx
         refine⟨[some (.int z),some (.lst [.int s'])],[some (.int z),some (.lst [.int (nxK s')])],_,nxK s',rfl,s4e z s' (by decide),rfl,_,rfl,?_⟩
         split
         · exact .inr rfl
         · exact .inl rfl) s
     obtain⟨row,rfl,hb⟩:=q84 g3
     rw[j9,j9]at g2
     refine⟨_,[some (.lst [.int s4]),some (.int 4),some E,some (.int r),some (.lst (taps.map D.int)),some (.lst ((rows++[row]).map rowD)),some (.int (0+(i:Int)))],rfl,.inl ?_,rows++[row],s4,_,rfl,by rw[jm,lr];simp,λz hz=>?_⟩
     · have e6:(rows++[row]).map rowD=rows.map rowD++[.tup (row.map D.int)]:=by rw[ka];rfl
       rw[e6]
       exact s4t _ _ _ _ _ _ _ _ _ (by rw[j9];exact q2e (by omega)) (by rw[j9];exact ji (by omega:rows.length<1000) (by decide)) g1
     · rcases List.mem_append.mp hz with hz|hz
       · exact zk z hz
       · rw[List.mem_singleton.mp hz]
         exact⟨g2,hb⟩)
 rw[q1j]at lr
 exact⟨rows,s3,v,s4f _ _ _ _ _ _ _ _ _ _ _ (qb2 (s4r _ _ _ _ _ _ _) (by omega) (by omega)) f1,by omega,by omega,zk⟩
theorem s3(s r:Int)(E T:D)(z0:0<=sizeLine):(sOwn 5 (mLst mNil)) [some (.lst [.int s]),some (.int 4),some E,some (.int r),some T,none,none]=some (.nx [some (.lst [.int s]),some (.int 4),some E,some (.int r),some T,some (.lst []),none]):=by
 walk_at "ev"
end
section
variable{r:Int}{taps:List Int}{rows:List (List Int)}{e:Str}
theorem qb3{ρ ρ1:Rho}{fs:RhL}{a b:Int}(h:fs ρ=some ([.int a,.int b],ρ1))(h1:big a=true)(h2:big b=true):q6z fs ρ=some (q0w a (b-a).toNat,ρ1):=by
 rw[qck,h]
 show((if(big a&&big b)=true then some (q0w a (b-a).toNat)else none).map λx=>(x,ρ1))=_
 rw[h1,h2]
 rfl
theorem q5k{fg:RhG}{fb:RhO}{x:D}{xs:List D}{ρ ρ1 ρ2:Rho}(h1:fg x ρ=some ρ1)(h2:fb ρ1=some (.nx ρ2)):q0r fg fb (x::xs) ρ=q0r fg fb xs ρ2:=by
 rw[q0r,h1]
 dsimp only
 rw[h2]
theorem qec(S:D)(F X Y:List D)(i:Int)(FI:RhL)(FE:RhD)(lx:X.length<=sizeLine)(ly:F.length+Y.length<=sizeLine)(hI:FI [some S,some (.lst F),some (.int i)]=some (X,[some S,some (.lst F),some (.int i)]))
   (cm:q0q 1 [2] none (gSet 0) (mRet true) FE X [some S,some (.lst F),some (.int i)]=some (Y,[some S,some (.lst F),some (.int i)])):(sExt 1 (q1c 1 [2] none FI (gSet 0) (mRet true) FE)) [some S,some (.lst F),some (.int i)]=some (.nx [some S,some (.lst (F++Y)),some (.int i)]):=by
 walk_at "ev"
theorem q9t(i:Nat):q0t r (i+1)=q0t r i++(List.range (2^r.toNat-1:Int).toNat).map λ(q:Nat)=>[(i:Int),1+(q:Int)]:=q78 _ _
theorem q6t(S:D)(FI:RhL)(r0:0<=r)(r4:r<=4)(N:Nat)(hN:N<=6)(hI:∀(F:List D) (i:Int),FI [some S,some (.lst F),some (.int i)]=some (q0w 1 (2^r.toNat-1:Int).toNat,[some S,some (.lst F),some (.int i)])):
   ∃v,q0r (gSet 2) (sExt 1 (q1c 1 [2] none FI (gSet 0) (mRet true) (mTup (q00 (mVar 1) (q00 (mVar 0) mNil))))) (q0w 0 N) [some S,some (.lst []),none]=some (.nx [some S,some (.lst ((q0t r N).map tupD)),v]):=by
 have p16:=q4t r0 r4
 obtain⟨ρ',f1,v,rfl⟩:=q52 (fg:=gSet 2) (fb:=sExt 1 (q1c 1 [2] none FI (gSet 0) (mRet true) (mTup (q00 (mVar 1) (q00 (mVar 0) mNil)))))
   (λi ρ=>∃v,ρ=[some S,some (.lst ((q0t r i).map tupD)),v]) (q0w 0 N) 0 [some S,some (.lst []),none] ⟨none,rfl⟩ (by
     rintro i x ρ hx ⟨v,rfl⟩
     obtain⟨hi,rfl⟩:=q2i hx
     rw[Nat.zero_add]at*
     rw[Int.zero_add]
     have cm:=q5p (n:=1) (js:=[2]) (fg:=gSet 0) (fe:=mTup (q00 (mVar 1) (q00 (mVar 0) mNil))) (ρ:=[some S,some (.lst ((q0t r i).map tupD)),some (.int (i:Int))])
       (λd=>.tup [.int (i:Int),d]) (q0w 1 (2^r.toNat-1:Int).toNat) (λy hy=>by
         refine⟨[some y,some (.int (i:Int))],rfl,?_⟩
         have two:2<=sizeLine:=by decide
         clear hy hI hx
         walk_at "ev")
     have e2:(q0w 1 (2^r.toNat-1:Int).toNat).map (λd=>D.tup [.int (i:Int),d])=((List.range (2^r.toNat-1:Int).toNat).map λ(q:Nat)=>[(i:Int),1+(q:Int)]).map tupD:=by
       unfold q0w
       rw[jx,jx]
       rfl
     rw[e2]at cm
     have hl:=q21 (N:=i) r0 r4 (by omega)
     refine⟨_,_,rfl,.inl (qec S _ _ _ (i:Int) FI _ (by rw[q1j];exact q2e (by omega)) ?_ (hI _ _) cm),some (.int (i:Int)),?_⟩
     · rw[j9,j9,j9,List.length_range]
       exact q2e (by omega)
     · rw[q9t,ka])
 rw[q1j,Nat.zero_add]at f1
 exact⟨v,f1⟩
theorem q6s(S:D)(N:Nat)(v:Option D)(F:List D)(FI:RhL)(FB:RhO)(z0:0<=sizeLine)(hI:FI [some S,some (.lst []),none]=some (q0w 0 N,[some S,some (.lst []),none]))(hf:q0r (gSet 2) FB (q0w 0 N) [some S,some (.lst []),none]=some (.nx [some S,some (.lst F),v])):
   runP true 1 3 (sSeq (sOwn 1 (mLst mNil)) (sSeq (sFor FI (gSet 2) FB) (q4s 1))) [S]=some (.lst F):=by
 walk_at "ev"
theorem q8l(A B E:D)(RS:List D)(v1 v2:Option D):(q00 (mOp1 dLen (mOp2 dIx (mVar 0) (mRet (.int 2)))) mNil) [some (.tup [A,B,.tup RS,E]),v1,v2]=some ([.int (RS.length:Nat)],[some (.tup [A,B,.tup RS,E]),v1,v2]):=by
 walk_at "ev"
theorem q9p(S:D)(m:Int)(h:f_y1 [S]=some (.int m))(v1 v2:Option D):(q00 (mRet (.int 1)) (q00 (q12 f_y1 (q00 (mVar 0) mNil)) mNil)) [some S,v1,v2]=some ([.int 1,.int m],[some S,v1,v2]):=by
 walk_at "ev"
theorem qg7(ok:q1w r taps rows e):f_y5 [schD r taps rows e]=some (.lst ((q0t r rows.length).map tupD)):=by
 have p16:=q4t ok.r0 ok.r4
 have m6:=ok.m6
 have hr:=p_y1 ok
 obtain⟨v,hf⟩:=q6t (schD r taps rows e) (q6z (q00 (mRet (.int 1)) (q00 (q12 f_y1 (q00 (mVar 0) mNil)) mNil))) ok.r0 ok.r4 rows.length m6 (λF i=>qb3 (q9p _ _ hr _ _) (by decide) (by unfold big;simp;omega))
 have h1:=q6j (q8l (.int r) (.tup (taps.map D.int)) (.str e) (rows.map rowD) (some (.lst [])) none) (by unfold big;rw[j9];simp;omega)
 rw[j9,xu]at h1
 exact q6s _ _ _ _ _ _ (by decide) h1 hf
theorem qj9(S:D)(p q b L m o:Int)(SG PK:List D)(zs:List Int)(F:List D)(A B E:D)(RS:List D)(v5 v6:Option D)(hS:S=.tup [A,B,.tup RS,E])(hl:0<RS.length)(lF:F.length<sizeLine)(two:2<=sizeLine)(zx:3<=sizeLine)
   (hs:f_y3 [S,.int q,.int b]=some (.tup [.int L,.tup SG])) (ht:f_y4 [S,.int p,.tup SG]=some (.tup PK)) (hi:q1v PK=some zs) (hL:(L==0)=false):
   (sSeq (sSet 5 (q12 f_y3 (q00 (mVar 0) (q00 (mOp2 dIx (mVar 1) (mRet (.int 1))) (q00 (mVar 4) mNil)))))
 (sIf (q0l (mOp2 dNe (mOp2 dIx (mVar 5) (mRet (.int 0))) (mRet (.int 0))))
   (sSeq (sSet 6 (mOp1 qa5 (q12 f_y4 (q00 (mVar 0) (q00 (mVar 2) (q00 (mOp2 dIx (mVar 5) (mRet (.int 1))) mNil))))))
 (sMut q1e 3 (q00 (mTup (q00 (mVar 4) (q00 (mVar 6) (q00 (mTup (q00 (mOp2 dMod (mOp2 dAdd (mVar 2) (mRet (.int 1))) (mOp1 dLen (mOp2 dIx (mVar 0) (mRet (.int 2))))) (q00 (mOp2 dIx (mVar 5) (mRet (.int 0))) mNil))) mNil)))) mNil)))
   sNil)) [some S,some (.tup [.int p,.int q]),some (.int p),some (.lst F),some (.int b),v5,v6]=some (.nx [some S,some (.tup [.int p,.int q]),some (.int p),some (.lst (F++[.tup [.int b,.int zs.sum,.tup [.int ((p+1) % (RS.length:Nat)),.int L]]])),some (.int b),some (.tup [.int L,.tup SG]),some (.int zs.sum)]):=by
 subst hS
 walk_at "ev"
theorem qm0(S:D)(p q b:Int)(SG:List D)(F:List D)(v5 v6:Option D)
   (hs:f_y3 [S,.int q,.int b]=some (.tup [.int 0,.tup SG])) (FA:RhO):
   (sSeq (sSet 5 (q12 f_y3 (q00 (mVar 0) (q00 (mOp2 dIx (mVar 1) (mRet (.int 1))) (q00 (mVar 4) mNil)))))
 (sIf (q0l (mOp2 dNe (mOp2 dIx (mVar 5) (mRet (.int 0))) (mRet (.int 0)))) FA
   sNil)) [some S,some (.tup [.int p,.int q]),some (.int p),some (.lst F),some (.int b),v5,v6]=some (.nx [some S,some (.tup [.int p,.int q]),some (.int p),some (.lst F),some (.int b),some (.tup [.int 0,.tup SG]),v6]):=by
 walk_at "ev"
theorem qb8(ok:q1w r taps rows e)(p q:Int)(p0:0<=p)(q0:1<=q)(q1:q<2^r.toNat):∀(bs:List Int),(∀b∈bs,b=0∨b=1)->∀(F:List D) (v4 v5 v6:Option D),F.length+bs.length<=1000->∃v4' v5' v6',
   q0r (gSet 4) (sSeq (sSet 5 (q12 f_y3 (q00 (mVar 0) (q00 (mOp2 dIx (mVar 1) (mRet (.int 1))) (q00 (mVar 4) mNil)))))
 (sIf (q0l (mOp2 dNe (mOp2 dIx (mVar 5) (mRet (.int 0))) (mRet (.int 0))))
   (sSeq (sSet 6 (mOp1 qa5 (q12 f_y4 (q00 (mVar 0) (q00 (mVar 2) (q00 (mOp2 dIx (mVar 5) (mRet (.int 1))) mNil))))))
 (sMut q1e 3 (q00 (mTup (q00 (mVar 4) (q00 (mVar 6) (q00 (mTup (q00 (mOp2 dMod (mOp2 dAdd (mVar 2) (mRet (.int 1))) (mOp1 dLen (mOp2 dIx (mVar 0) (mRet (.int 2))))) (q00 (mOp2 dIx (mVar 5) (mRet (.int 0))) mNil))) mNil)))) mNil)))
   sNil)) (bs.map D.int) [some (schD r taps rows e),some (.tup [.int p,.int q]),some (.int p),some (.lst F),v4,v5,v6]=some (.nx [some (schD r taps rows e),some (.tup [.int p,.int q]),some (.int p),some (.lst (F++((bs.filter λb=>decide ((2*q+b) % 2^r.toNat≠0)).map (q58 r taps rows p q)).map q1q)),v4',v5',v6'])
 |[],_,F,v4,v5,v6,_=>⟨v4,v5,v6,by rw[List.filter_nil,List.map_nil,List.map_nil,List.map_nil,List.append_nil];rfl⟩
 | b::bs,hb,F,v4,v5,v6,hl=>by
   have b01:=hb b jf
   have hs:=p_y3 ok q b (by omega) q1 b01
   have t4:=ok.t4
   have ht:=qdn ok p.toNat (taps.map (sgn (2*q+b))) (by rw[j9];omega)
   rw[Int.toNat_of_nonneg p0]at ht
   have hl0:0<(rows.map rowD).length:=by have:=ok.m1;rw[j9];omega
   rw[jk]at hl
   have lF:F.length<sizeLine:=ji (by omega:F.length<1001) (by decide)
   rw[jg]
   by_cases z:(2*q+b) % 2^r.toNat=0
   · rw[z]at hs
     have hh:=λFA=>qm0 _ p q b _ F v5 v6 hs FA
     obtain⟨w4,w5,w6,ih⟩:=qb8 ok p q p0 q0 q1 bs (λx hx=>hb x (jj _ hx)) F (some (.int b)) _ v6 (by omega)
     refine⟨w4,w5,w6,?_⟩
     rw[q5k (ρ1:=[some (schD r taps rows e),some (.tup [.int p,.int q]),some (.int p),some (.lst F),some (.int b),v5,v6]) rfl (hh _),ih,List.filter_cons_of_neg (by simpa using z)]
   · have hL:((2*q+b) % 2^r.toNat==0)=false:=beq_eq_false_iff_ne.mpr z
     have hh:=qj9 (schD r taps rows e) p q b _ 0 0 _ _ _ F _ _ _ _ v5 v6 rfl hl0 lF (by decide) (by decide) hs ht (q1o _) hL
     obtain⟨w4,w5,w6,ih⟩:=qb8 ok p q p0 q0 q1 bs (λx hx=>hb x (jj _ hx)) (F++[q1q (q58 r taps rows p q b)]) (some (.int b)) (some (.tup [.int ((2*q+b) % 2^r.toNat),.tup ((taps.map (sgn (2*q+b))).map D.int)])) (some (.int (q57 (rowAt rows p.toNat) (taps.map (sgn (2*q+b)))).sum)) (by rw[jm];simp;omega)
     refine⟨w4,w5,w6,?_⟩
     have e1:D.tup [.int b,.int (q57 (rowAt rows p.toNat) (taps.map (sgn (2*q+b)))).sum,.tup [.int ((p+1) % ((rows.map rowD).length:Nat)),.int ((2*q+b) % 2^r.toNat)]]=q1q (q58 r taps rows p q b):=by
       rw[j9]
       rfl
     rw[e1]at hh
     rw[q5k (ρ1:=[some (schD r taps rows e),some (.tup [.int p,.int q]),some (.int p),some (.lst F),some (.int b),v5,v6]) rfl hh,ih,List.filter_cons_of_pos (by simpa using z),jg,jg,List.append_assoc]
     rfl
theorem qja(S:D)(p q:Int)(F X:List D)(v4 v5 v6:Option D)(FI:RhL)(FB:RhO)(z0:0<=sizeLine)(hI:FI [some S,some (.tup [.int p,.int q]),some (.int p),some (.lst []),none,none,none]=some (X,[some S,some (.tup [.int p,.int q]),some (.int p),some (.lst []),none,none,none]))(hf:q0r (gSet 4) FB X [some S,some (.tup [.int p,.int q]),some (.int p),some (.lst []),none,none,none]=some (.nx [some S,some (.tup [.int p,.int q]),some (.int p),some (.lst F),v4,v5,v6])):
   runP true 2 7 (sSeq (sSet 2 (mOp2 dIx (mVar 1) (mRet (.int 0))))
 (sSeq (sOwn 3 (mLst mNil))
 (sSeq (sFor FI (gSet 4) FB) (q4s 3)))) [S,.tup [.int p,.int q]]=some (.lst F):=by
 walk_at "ev"
theorem qie(ρ:Rho)(two:2<=sizeLine):(mSeq (mTup (q00 (mRet (.int 0)) (q00 (mRet (.int 1)) mNil)))) ρ=some ([.int 0,.int 1],ρ):=by
 walk_at "ev"
theorem q7u(ok:q1w r taps rows e){n:List Int}(hn:n∈q0t r rows.length):f_y6 [schD r taps rows e,tupD n]=some (.lst ((q0z r taps rows n).map q1q)):=by
 obtain⟨p,q,rfl,p0,p1,q0,q1⟩:=mem_nodes.mp hn
 obtain⟨v4,v5,v6,hf⟩:=qb8 ok p q p0 q0 q1 [0,1] (by simp) [] none none none (by decide)
 exact qja _ _ _ _ _ _ _ _ _ _ (by decide) (qie _ (by decide)) hf
theorem qfz(S V N:D)(v:Option D)(ks:List Key)(gs:List (List Key×D))(L:List D)(hv:V=.lst L)(lg:gs.length<sizeLine)(hk:keyT N=some ks)(hp:f_y6 [S,N]=some (.lst L)):
   (q1x 1 (mOf (q2m f_y6 (q00 (mVar 0) (q00 (mVar 2) mNil)))) (mVar 2)) [some S,some (.dit gs),some N]=some (.nx [some S,some (.dit (putD gs ks V)),some N]):=by
 subst hv
 walk_at "ev"
theorem qj5(S G:D)(v:Option D)(NL:List D)(FB:RhO)(hn:f_y5 [S]=some (.lst NL))(hf:q0r (gSet 2) FB NL [some S,some (.dit []),none]=some (.nx [some S,some G,v])):
   runP false 1 3 (sSeq (q35 1)
 (sSeq (sFor (mSeq (mOf (q2m f_y5 (q00 (mVar 0) mNil)))) (gSet 2) FB)
 (sRet (mVar 1)))) [S]=some G:=by
 walk_at "ev"
theorem qbd(ok:q1w r taps rows e):f_y7 [schD r taps rows e]=some (dctD (λn=>.lst ((q0z r taps rows n).map q1q)) (q0t r rows.length)):=by
 obtain⟨v,hf⟩:=q63 (fg:=gSet 2) (fb:=q1x 1 (mOf (q2m f_y6 (q00 (mVar 0) (q00 (mVar 2) mNil)))) (mVar 2)) (λn=>.lst ((q0z r taps rows n).map q1q)) (λv G=>[some (schD r taps rows e),some G,v]) tupD (q0t r rows.length) (q20 _) (q21 ok.r0 ok.r4 ok.m6)
   (λn hn v gs lg=>⟨[some (schD r taps rows e),some (.dit gs),some (tupD n)],rfl,some (tupD n),qfz _ _ _ v _ _ _ rfl lg (q33 n) (q7u ok hn)⟩) none
 exact qj5 _ _ _ _ _ (qg7 ok) hf
end
section
variable{r:Int}{taps:List Int}{rows:List (List Int)}{e:Str}{P0:Addr}
def rowK(r:Int)(taps:List Int)(rows:List (List Int))(k:Nat):D:=dctD (λn=>.int (rowF r taps rows k n)) (q0t r rows.length)
def q1z(r:Int)(taps:List Int)(rows:List (List Int)):D:=dctD (λn=>.lst ((q0z r taps rows n).map q1q)) (q0t r rows.length)
theorem qk3(b o x:Int)(N G:D)(h:q2g G N=some (.int x)):f_y8 [.tup [.int b,.int o,N],G]=some (.int (o+x)):=by
 unfold f_y8 b_y8
 generalize q2g=GG at h ⊢
 walk_at "ev"
theorem q8q{p:Int×Int×List Int}(k:Nat)(h:p.2.2∈q0t r rows.length):f_y8 [q1q p,rowK r taps rows k]=some (.int (p.2.1+rowF r taps rows k p.2.2)):=qk3 _ _ _ _ _ (q65 (λn=>.int (rowF r taps rows k n)) h)
theorem q5j(k:Nat):∀(ps:List (Int×Int×List Int)),(∀p∈ps,p.2.2∈q0t r rows.length)->q83 f_y8 (rowK r taps rows k) (ps.map q1q)=some (ps.map λp=>p.2.1+rowF r taps rows k p.2.2)
 |[],_=>rfl
 | p::ps,h=>by
   rw[jg,q83,q8q k (h p jf),q5j k ps λx hx=>h x (jj _ hx)]
   rfl
theorem qjg(ok:q1w r taps rows e){n:List Int}(hn:n∈q0t r rows.length)(k:Nat):f_y9 [.lst ((q0z r taps rows n).map q1q),rowK r taps rows k]=some (q1q (q87 r taps rows k n)):=by
 obtain⟨h1,h2,h3⟩:=qd1 (taps:=taps) (rows:=rows) ok.r0 hn k
 have hne:=q7t (taps:=taps) (rows:=rows) ok.r0 hn
 have hp:0<(q0z r taps rows n).length:=List.length_pos_iff.mpr hne
 have hk:=q5j (taps:=taps) k (q0z r taps rows n) λp hp=>(q5w ok hn hp).1
 unfold f_y9 qa3
 dsimp only
 rw[if_pos ⟨q41 λx _=>q9u x,qbl λn _=>q3s _,by rw[j9];exact hp⟩,hk]
 dsimp only
 rw[j9,ju]
 show Option.map q1q (q0z r taps rows n)[argBest (btI (q2n r taps rows k n)) ((q0z r taps rows n).length-1)]? =_
 rw[h3]
 rfl
theorem qgk(S N:D)(ks:List Key)(gs:List (List Key×D))(lg:gs.length<sizeLine)(hk:keyT N=some ks):
   (q1x 1 (mRet (.int 0)) (mVar 2)) [some S,some (.dit gs),some N]=some (.nx [some S,some (.dit (putD gs ks (.int 0))),some N]):=by
 walk_at "ev"
theorem qk4(S G:D)(v:Option D)(NL:List D)(FB:RhO)(FI:RhL)(hI:FI [some S,some (.dit []),none]=some (NL,[some S,some (.dit []),none]))(hf:q0r (gSet 2) FB NL [some S,some (.dit []),none]=some (.nx [some S,some G,v])):
   qb1 1 3 1 (q35 1) (sFor FI (gSet 2) FB) [S]=some G:=by
 walk_at "ev"
theorem qgx(f:List Int->D)(ns:List (List Int))(v1 v2:Option D):(q70 (mVar 0)) [some (dctD f ns),v1,v2]=some (ns.map tupD,[some (dctD f ns),v1,v2]):=by
 rw[q64]
 show some ((ns.map λn=>(ky n,f n)).map (λg=>D.tup (g.1.map keyD)),_)=_
 rw[q92]
theorem qdo(ok:q1w r taps rows e):f_y10 [q1z r taps rows]=some (rowK r taps rows 0):=by
 obtain⟨v,hf⟩:=q63 (fg:=gSet 2) (fb:=q1x 1 (mRet (.int 0)) (mVar 2)) (λn=>.int (rowF r taps rows 0 n)) (λv G=>[some (q1z r taps rows),some G,v]) tupD (q0t r rows.length) (q20 _) (q21 ok.r0 ok.r4 ok.m6)
   (λn hn v gs lg=>⟨[some (q1z r taps rows),some (.dit gs),some (tupD n)],rfl,some (tupD n),qgk _ _ _ _ lg (q33 n)⟩) none
 exact qk4 _ _ _ _ _ _ (qgx _ _ _ _) hf
theorem qh9(S B N L PC:D)(o:Int)(ks:List Key)(gs:List (List Key×D))(v3 v4:Option D)(lg:gs.length<sizeLine)(hk:keyT N=some ks)(hb:f_y9 [L,B]=some PC)(ho:f_y8 [PC,B]=some (.int o)):
   (q1x 2 (q12 f_y8 (q00 (q29 5 P0 lp0 lq0 f_y9 (q00 (mVar 4) (q00 (mVar 1) mNil))) (q00 (mVar 1) mNil))) (mVar 3)) [some S,some B,some (.dit gs),some N,some L,some (.tab P0 lp0 lq0)]=some (.nx [some S,some B,some (.dit (putD gs ks (.int o))),some N,some L,some (.tab P0 lp0 lq0)]):=by
 generalize lp0=lp
 generalize lq0=lq
 walk_at "ev"
theorem qkz(S B G:D)(v3 v4:Option D)(NL:List D)(FB:RhO)(FI:RhL)(T:D)(hI:FI [some S,some B,some (.dit []),none,none,some T]=some (NL,[some S,some B,some (.dit []),none,none,some T]))(FG:RhG)(hf:q0r FG FB NL [some S,some B,some (.dit []),none,none,some T]=some (.nx [some S,some B,some G,v3,v4,some T])):
   q6h 2 6 2 5 T (q35 2) (sFor FI FG FB) [S,B]=some G:=by
 walk_at "ev"
theorem qe4(f:List Int->D)(ns:List (List Int))(ρ:Rho):(q71 (mVar 0)) (some (dctD f ns)::ρ)=some (ns.map λn=>.tup [tupD n,f n],some (dctD f ns)::ρ):=by
 rw[q79]
 show some (q4c (ns.map λn=>(ky n,f n)),_)=_
 rw[qc9]
theorem qdp(ok:q1w r taps rows e)(k:Nat):f_y11 P0 [q1z r taps rows,rowK r taps rows k]=some (rowK r taps rows (k+1)):=by
 obtain⟨v,hf⟩:=q63 (fg:=q2f 2 (q0g (gSet 3) (q0g (gSet 4) q2p))) (fb:=q1x 2 (q12 f_y8 (q00 (q29 5 P0 lp0 lq0 f_y9 (q00 (mVar 4) (q00 (mVar 1) mNil))) (q00 (mVar 1) mNil))) (mVar 3)) (λn=>.int (rowF r taps rows (k+1) n))
   (λv G=>[some (q1z r taps rows),some (rowK r taps rows k),some G,v.bind λd=>(match d with|.tup [a,b]=>some a|_=>none),v.bind λd=>(match d with|.tup [a,b]=>some b|_=>none),some (.tab P0 lp0 lq0)]) (λn=>.tup [tupD n,.lst ((q0z r taps rows n).map q1q)]) (q0t r rows.length) (q20 _) (q21 ok.r0 ok.r4 ok.m6)
   (λn hn v gs lg=>by
     obtain⟨h1,h2,h3⟩:=qd1 (taps:=taps) (rows:=rows) ok.r0 hn k
     have ho:=q8q (taps:=taps) (rows:=rows) k (q5w ok hn h1).1
     rw[h2]at ho
     exact⟨[some (q1z r taps rows),some (rowK r taps rows k),some (.dit gs),some (tupD n),some (.lst ((q0z r taps rows n).map q1q)),some (.tab P0 lp0 lq0)],rfl,some (.tup [tupD n,.lst ((q0z r taps rows n).map q1q)]),qh9 _ _ _ _ _ _ _ _ none none lg (q33 n) (qjg ok hn k) ho⟩) none
 exact qkz _ _ _ _ _ _ _ _ _ (qe4 _ _ _) _ hf
def tabK(r:Int)(taps:List Int)(rows:List (List Int))(k:Nat):List D:=(List.range k).map (rowK r taps rows)
theorem q8e(k:Nat):atI (tabK r taps rows (k+1)) (-1)=some (rowK r taps rows k):=by
 have e1:(tabK r taps rows (k+1)).length=k+1:=by unfold tabK;rw[j9,List.length_range]
 unfold atI
 rw[e1]
 have e2:ixN (k+1) (-1)=some k:=by
   unfold ixN
   rw[if_neg (by decide),if_pos (by omega)]
   congr 1
   omega
 rw[e2]
 show(tabK r taps rows (k+1))[k]? =_
 unfold tabK
 rw[ju,List.getElem?_range (by omega)]
 rfl
theorem qfn(k:Nat):(tabK r taps rows k).length=k:=by unfold tabK;rw[j9,List.length_range]
theorem q8d(k:Nat):tabK r taps rows (k+1)=tabK r taps rows k++[rowK r taps rows k]:=by
 unfold tabK
 rw[List.range_succ,ka]
 rfl
theorem q9c(ok:q1w r taps rows e):∀(m j:Nat),q3f (f_y11 P0) (q1z r taps rows) m (tabK r taps rows (j+1))=some (tabK r taps rows (j+1+m))
 |0,j=>rfl
 | m+1,j=>by
   rw[q3f,q8e j]
   dsimp only
   rw[qdp ok j]
   dsimp only
   rw[<-q8d,q9c ok m (j+1)]
   have e1:j+1+1+m=j+1+(m+1):=by omega
   rw[e1]
theorem p_by(ok:q1w r taps rows e)(s:Nat)(hs:s<=100):f_y12 P0 [q1z r taps rows,.int (s:Int)]=some (.lst (tabK r taps rows (s+1))):=by
 have hz:(s:Int).toNat+2<=sizeLine:=q2e (by omega)
 have h0:(0:Int)<=(s:Int):=by omega
 have hb:=q9c (P0:=P0) ok s 0
 have e1:tabK r taps rows (0+1)=[rowK r taps rows 0]:=rfl
 rw[e1,Nat.add_comm (0+1) s]at hb
 unfold f_y12 gBy
 dsimp only
 rw[if_pos ⟨h0,hz⟩,qdo ok]
 dsimp only
 rw[xu,hb]
 rfl
theorem qmm{S y G R:D}{fPo fBy:List D->Option D}(h1:fPo [S]=some G)(h2:fBy [G,y]=some R):gFe fPo fBy [S,y]=some R:=by
 unfold gFe
 dsimp only
 rw[h1]
 exact h2
theorem qg6(ok:q1w r taps rows e):f_y7 [schD r taps rows e]=some (q1z r taps rows):=by
 unfold q1z
 exact qbd ok
theorem qm1(ok:q1w r taps rows e)(s:Nat)(hs:s<=100):f_y13 P0 [schD r taps rows e,.int (s:Int)]=some (.lst (tabK r taps rows (s+1))):=by
 unfold f_y13
 exact qmm (qg6 ok) (p_by ok s hs)
end
section
variable{r:Int}{taps:List Int}{rows:List (List Int)}{e:Str}
theorem qd5(a b k:Nat):(a / 2^k) &&& (b / 2^k)=(a &&& b) / 2^k:=by
 apply Nat.eq_of_testBit_eq
 intro i
 rw[Nat.testBit_and,Nat.testBit_div_two_pow,Nat.testBit_div_two_pow,Nat.testBit_div_two_pow,Nat.testBit_and]
theorem qgt(W t:Int)(hW:0<=W)(ht:0<=t)(k:Nat):Builtin.bitAnd (Builtin.bitAnd (W / 2^k) (t / 2^k)) 1=((W.toNat &&& t.toNat:Nat):Int) / 2^k % 2:=by
 have p0:(0:Int)<2^k:=Int.pow_pos (by decide)
 have w1:0<=W / 2^k:=Int.ediv_nonneg hW (Int.le_of_lt p0)
 have t1:0<=t / 2^k:=Int.ediv_nonneg ht (Int.le_of_lt p0)
 have ea:=qd7 w1 t1
 have half:∀x:Int,0<=x->(x / 2^k).toNat=x.toNat / 2^k:=λx hx=>by
   obtain⟨n,rfl⟩:=Int.eq_ofNat_of_zero_le hx
   have:(((n:Nat):Int) / 2^k)=((n / 2^k:Nat):Int):=by simp
   rw[this,xu]
   rfl
 rw[ea,half W hW,half t ht,qd5,qd6 (Int.natCast_nonneg _)]
 simp
theorem qgs(k W t:Int)(k0:0<=k):(mOp2 dAnd (mOp2 dAnd (mOp2 dShr (mVar 1) (mVar 0)) (mOp2 dShr (mVar 2) (mVar 0))) (mRet (.int 1))) [some (.int k),some (.int W),some (.int t)]=some (.int (Builtin.bitAnd (Builtin.bitAnd (W / 2^k.toNat) (t / 2^k.toNat)) 1),[some (.int k),some (.int W),some (.int t)]):=by
 walk_at "ev"
theorem qgp(ρ:Rho)(R5 YD:List D)(Y:List Int)(FI:RhL)(FE:RhD)(l5:R5.length<=sizeLine)(hFI:FI ρ=some (R5,ρ))(ci:q0q 1 [4,6] none (gSet 0) (mRet true) FE R5 ρ=some (YD,ρ))(hi:q1v YD=some Y):
   (mOp2 dMod (mOp1 dSum (mOf (q1c 1 [4,6] none FI (gSet 0) (mRet true) FE))) (mRet (.int 2))) ρ=some (.int (Y.sum % 2),ρ):=by
 walk_at "ev"
theorem qgr(S A B C:Option D)(W t tot kp:Int)(v8:Option D)(hW:0<=W)(ht:0<=t):(mOp2 dMod (mOp1 dSum (mOf (q1c 1 [4,6] none (q3j (q00 (mRet (.int 5)) mNil)) (gSet 0) (mRet true) (mOp2 dAnd (mOp2 dAnd (mOp2 dShr (mVar 1) (mVar 0)) (mOp2 dShr (mVar 2) (mVar 0))) (mRet (.int 1)))))) (mRet (.int 2))) [S,A,B,C,some (.int W),some (.int tot),some (.int t),some (.int kp),v8]=some (.int (sgn W t),[S,A,B,C,some (.int W),some (.int tot),some (.int t),some (.int kp),v8]):=by
 generalize hN:W.toNat &&& t.toNat=N
 have ci:=q5p (n:=1) (js:=[4,6]) (fg:=gSet 0) (fe:=mOp2 dAnd (mOp2 dAnd (mOp2 dShr (mVar 1) (mVar 0)) (mOp2 dShr (mVar 2) (mVar 0))) (mRet (.int 1))) (ρ:=[S,A,B,C,some (.int W),some (.int tot),some (.int t),some (.int kp),v8])
   (λd=>match d with|.int k=>.int ((N:Int) / 2^k.toNat % 2)|d=>d) (q0w 0 5) (λy hy=>by
     obtain⟨k,hk⟩:=List.mem_iff_getElem?.mp hy
     obtain⟨hk1,rfl⟩:=q2i hk
     rw[Int.zero_add]
     refine⟨[some (.int (k:Int)),some (.int W),some (.int t)],rfl,?_⟩
     rw[qgs _ _ _ (by omega),xu,qgt W t hW ht k,hN]
     rfl)
 have er:(q0w 0 5).map (λd=>match d with|.int k=>D.int ((N:Int) / 2^k.toNat % 2)|d=>d)=[(N:Int) / 2^(0:Int).toNat % 2,(N:Int) / 2^(1:Int).toNat % 2,(N:Int) / 2^(2:Int).toNat % 2,(N:Int) / 2^(3:Int).toNat % 2,(N:Int) / 2^(4:Int).toNat % 2].map D.int:=rfl
 rw[er]at ci
 have hp:=qg5 N
 have es:[(N:Int) / 2^(0:Int).toNat % 2,(N:Int) / 2^(1:Int).toNat % 2,(N:Int) / 2^(2:Int).toNat % 2,(N:Int) / 2^(3:Int).toNat % 2,(N:Int) / 2^(4:Int).toNat % 2].sum=((N:Int) / 2^(0:Int).toNat % 2+((N:Int) / 2^(1:Int).toNat % 2+((N:Int) / 2^(2:Int).toNat % 2+((N:Int) / 2^(3:Int).toNat % 2+((N:Int) / 2^(4:Int).toNat % 2+0))))):=rfl
 rw[<-es]at hp
 have e0:sgn W t=(parF 5 N:Nat):=by unfold sgn;rw[hN]
 rw[e0,<-hp]
 exact qgp _ _ _ _ _ _ (by decide) (q6j rfl (by decide)) ci (q1o _)
theorem qdx(S A B C:Option D)(W t tot kp o:Int)(v8:Option D)(FO:RhD)(ho:o=0∨o=1)(hk:kp=0∨kp=1)(hf:FO [S,A,B,C,some (.int W),some (.int tot),some (.int t),some (.int kp),v8]=some (.int o,[S,A,B,C,some (.int W),some (.int tot),some (.int t),some (.int kp),v8])):
   (sSeq (sSet 8 FO) (sAug (λi j=>i+j) 5 (mOp2 q3x (mVar 8) (mVar 7)))) [S,A,B,C,some (.int W),some (.int tot),some (.int t),some (.int kp),v8]=some (.nx [S,A,B,C,some (.int W),some (.int (tot+o*kp)),some (.int t),some (.int kp),some (.int o)]):=by
 rcases ho with rfl|rfl<;>rcases hk with rfl|rfl<;>walk_at "ev"
theorem qc1(S A B C:Option D)(W:Int)(hW:0<=W):∀(ps:List (Int×Int)),(∀q∈ps,0<=q.1/\(q.2=0∨q.2=1))->∀(tot:Int) (v6 v7 v8:Option D),∃v6' v7' v8',q0r (q2f 2 (q0g (gSet 6) (q0g (gSet 7) q2p)))
   (sSeq (sSet 8 (mOp2 dMod (mOp1 dSum (mOf (q1c 1 [4,6] none (q3j (q00 (mRet (.int 5)) mNil)) (gSet 0) (mRet true) (mOp2 dAnd (mOp2 dAnd (mOp2 dShr (mVar 1) (mVar 0)) (mOp2 dShr (mVar 2) (mVar 0))) (mRet (.int 1)))))) (mRet (.int 2))))
 (sAug (λi j=>i+j) 5 (mOp2 q3x (mVar 8) (mVar 7)))) (ps.map λq=>D.tup [.int q.1,.int q.2]) [S,A,B,C,some (.int W),some (.int tot),v6,v7,v8]=some (.nx [S,A,B,C,some (.int W),some (.int (tot+(ps.map λq=>sgn W q.1*q.2).sum)),v6',v7',v8'])
 |[],_,tot,v6,v7,v8=>⟨v6,v7,v8,by rw[List.map_nil,List.map_nil,List.sum_nil,Int.add_zero];rfl⟩
 | q::ps,h,tot,v6,v7,v8=>by
   obtain⟨t0,hk⟩:=h q jf
   obtain⟨w6,w7,w8,ih⟩:=qc1 S A B C W hW ps (λx hx=>h x (jj _ hx)) (tot+sgn W q.1*q.2) (some (.int q.1)) (some (.int q.2)) (some (.int (sgn W q.1)))
   refine⟨w6,w7,w8,?_⟩
   rw[jg,q5k (ρ1:=[S,A,B,C,some (.int W),some (.int tot),some (.int q.1),some (.int q.2),v8]) rfl (qdx S A B C W q.1 tot q.2 _ v8 _ (qfs _ _) hk (qgr S A B C W q.1 tot q.2 v8 hW t0)),ih,jg,List.sum_cons,Int.add_assoc]
theorem qgo(A E:D)(TS RS R Z:List D)(p:Int)(v1 v2 v4 v5 v6 v7 v8:Option D)(hr:atI RS p=some (.tup R))(hz:zipD TS R=Z):
   (mZip (q00 (mOp2 dIx (mVar 0) (mRet (.int 1))) (q00 (mOp2 dIx (mOp2 dIx (mVar 0) (mRet (.int 2))) (mVar 3)) mNil))) [some (.tup [A,.tup TS,.tup RS,E]),v1,v2,some (.int p),v4,v5,v6,v7,v8]=some (Z,[some (.tup [A,.tup TS,.tup RS,E]),v1,v2,some (.int p),v4,v5,v6,v7,v8]):=by
 walk_at "ev"
theorem qgq(r q b p tot m:Int)(T RS E:D)(Z:List D)(v6 v7 v8:Option D)(FI:RhL)(FG:RhG)(FB:RhO)(two:2<=sizeLine)(r0:0<=r)(r6:r<=1000000)(hm:2^r.toNat=m)(m0:0<m)
   (hI:FI [some (.tup [.int r,T,RS,E]),some (.int q),some (.int b),some (.int p),some (.int (2*q+b)),some (.int 0),none,none,none]=some (Z,[some (.tup [.int r,T,RS,E]),some (.int q),some (.int b),some (.int p),some (.int (2*q+b)),some (.int 0),none,none,none]))
   (hf:q0r FG FB Z [some (.tup [.int r,T,RS,E]),some (.int q),some (.int b),some (.int p),some (.int (2*q+b)),some (.int 0),none,none,none]=some (.nx [some (.tup [.int r,T,RS,E]),some (.int q),some (.int b),some (.int p),some (.int (2*q+b)),some (.int tot),v6,v7,v8])):
   runP false 4 9 (sSeq (sSet 4 (mOp2 dAdd (mOp2 q3x (mRet (.int 2)) (mVar 1)) (mVar 2)))
 (sSeq (sSet 5 (mRet (.int 0)))
 (sSeq (sFor FI FG FB)
 (sRet (mTup (q00 (mOp2 dMod (mVar 4) (mOp2 dShl (mRet (.int 1)) (mOp2 dIx (mVar 0) (mRet (.int 0))))) (q00 (mVar 5) mNil))))))) [.tup [.int r,T,RS,E],.int q,.int b,.int p]=some (.tup [.int ((2*q+b) % m),.int tot]):=by
 subst hm
 walk_at "ev"
theorem qlu(ok:q1w r taps rows e)(p q b:Int)(p0:0<=p)(p1:p<(rows.length:Nat))(q0:0<=q)(hb:b=0∨b=1):f_y16 [schD r taps rows e,.int q,.int b,.int p]=some (.tup [.int ((2*q+b) % 2^r.toNat),.int (qbh taps rows p (2*q+b))]):=by
 have r4:=ok.r4
 have hr:=qew ok p.toNat
 rw[j9,Int.toNat_of_nonneg p0,Int.emod_eq_of_lt p0 p1]at hr
 have hz:zipD (taps.map D.int) ((rowAt rows p.toNat).map D.int)=(taps.zip (rowAt rows p.toNat)).map λq=>D.tup [.int q.1,.int q.2]:=q6b _ _
 have zk:∀b∈rowAt rows p.toNat,b=0∨b=1:=by
   unfold rowAt
   have hk:p.toNat % rows.length<rows.length:=Nat.mod_lt _ (by have:=ok.m1;omega)
   rw[jw hk]
   exact(ok.rw _ (List.getElem_mem hk)).2
 obtain⟨v6,v7,v8,hf⟩:=qc1 (some (schD r taps rows e)) (some (.int q)) (some (.int b)) (some (.int p)) (2*q+b) (by omega) (taps.zip (rowAt rows p.toNat)) (λx hx=>⟨(ok.tb _ (List.of_mem_zip hx).1).1,zk _ (List.of_mem_zip hx).2⟩) 0 none none none
 rw[Int.zero_add,<-q8f (sgn (2*q+b)) taps _ zk]at hf
 exact qgq r q b p _ _ _ _ _ _ _ _ _ _ _ _ (by decide) ok.r0 (by omega) rfl (Int.pow_pos (by decide)) (qgo _ _ _ _ _ _ _ _ _ _ _ _ _ _ hr hz) hf
theorem qdi(r m:Int)(T RS E:D)(r0:0<=r)(r6:r<=1000000)(hm:1*2^r.toNat=m)(v1 v2:Option D):(q00 (mRet (.int 1)) (q00 (mOp2 dShl (mRet (.int 1)) (mOp2 dIx (mVar 0) (mRet (.int 0)))) mNil)) [some (.tup [.int r,T,RS,E]),v1,v2]=some ([.int 1,.int m],[some (.tup [.int r,T,RS,E]),v1,v2]):=by
 subst hm
 walk_at "ev"
theorem qfl(ok:q1w r taps rows e):f_y17 [schD r taps rows e]=some (.lst ((q0t r rows.length).map tupD)):=by
 have p16:=q4t ok.r0 ok.r4
 have m6:=ok.m6
 have r4:=ok.r4
 obtain⟨v,hf⟩:=q6t (schD r taps rows e) (q6z (q00 (mRet (.int 1)) (q00 (mOp2 dShl (mRet (.int 1)) (mOp2 dIx (mVar 0) (mRet (.int 0)))) mNil))) ok.r0 ok.r4 rows.length m6 (λF i=>qb3 (qdi r (2^r.toNat) _ _ _ ok.r0 (by omega) (Int.one_mul _) _ _) (by decide) (by unfold big;simp;omega))
 have h1:=q6j (q8l (.int r) (.tup (taps.map D.int)) (.str e) (rows.map rowD) (some (.lst [])) none) (by unfold big;rw[j9];simp;omega)
 rw[j9,xu]at h1
 exact q6s _ _ _ _ _ _ (by decide) h1 hf
theorem qi9(S:D)(p q b L o:Int)(F:List D)(A B E:D)(RS:List D)(v4 v5:Option D)(hS:S=.tup [A,B,.tup RS,E])(hl:0<RS.length)(lF:F.length<sizeLine)(two:2<=sizeLine)(zx:3<=sizeLine)
   (hs:f_y16 [S,.int q,.int b,.int p]=some (.tup [.int L,.int o])) (hL:0<L):
   (sSeq (sAsg (q12 f_y16 (q00 (mVar 0) (q00 (mOp2 dIx (mVar 1) (mRet (.int 1))) (q00 (mVar 3) (q00 (mOp2 dIx (mVar 1) (mRet (.int 0))) mNil))))) (q2f 2 (q0g (gSet 4) (q0g (gSet 5) q2p))))
 (sIf (q0l (mOp2 dGt (mVar 4) (mRet (.int 0))))
   (sMut q1e 2 (q00 (mTup (q00 (mVar 3) (q00 (mVar 5) (q00 (mTup (q00 (mOp2 dMod (mOp2 dAdd (mOp2 dIx (mVar 1) (mRet (.int 0))) (mRet (.int 1))) (mOp1 dLen (mOp2 dIx (mVar 0) (mRet (.int 2))))) (q00 (mVar 4) mNil))) mNil)))) mNil))
   sNil)) [some S,some (.tup [.int p,.int q]),some (.lst F),some (.int b),v4,v5]=some (.nx [some S,some (.tup [.int p,.int q]),some (.lst (F++[.tup [.int b,.int o,.tup [.int ((p+1) % (RS.length:Nat)),.int L]]])),some (.int b),some (.int L),some (.int o)]):=by
 subst hS
 walk_at "ev"
theorem qlt(S:D)(p q b L o:Int)(F:List D)(v4 v5:Option D)(hs:f_y16 [S,.int q,.int b,.int p]=some (.tup [.int L,.int o]))(hL:¬0<L)(FA:RhO):
   (sSeq (sAsg (q12 f_y16 (q00 (mVar 0) (q00 (mOp2 dIx (mVar 1) (mRet (.int 1))) (q00 (mVar 3) (q00 (mOp2 dIx (mVar 1) (mRet (.int 0))) mNil))))) (q2f 2 (q0g (gSet 4) (q0g (gSet 5) q2p))))
 (sIf (q0l (mOp2 dGt (mVar 4) (mRet (.int 0)))) FA sNil)) [some S,some (.tup [.int p,.int q]),some (.lst F),some (.int b),v4,v5]=some (.nx [some S,some (.tup [.int p,.int q]),some (.lst F),some (.int b),some (.int L),some (.int o)]):=by
 walk_at "ev"
theorem qaa(ok:q1w r taps rows e)(p q:Int)(p0:0<=p)(p1:p<(rows.length:Nat))(q0:1<=q):∀(bs:List Int),(∀b∈bs,b=0∨b=1)->∀(F:List D) (v3 v4 v5:Option D),F.length+bs.length<=1000->∃v3' v4' v5',
   q0r (gSet 3) (sSeq (sAsg (q12 f_y16 (q00 (mVar 0) (q00 (mOp2 dIx (mVar 1) (mRet (.int 1))) (q00 (mVar 3) (q00 (mOp2 dIx (mVar 1) (mRet (.int 0))) mNil))))) (q2f 2 (q0g (gSet 4) (q0g (gSet 5) q2p))))
 (sIf (q0l (mOp2 dGt (mVar 4) (mRet (.int 0))))
   (sMut q1e 2 (q00 (mTup (q00 (mVar 3) (q00 (mVar 5) (q00 (mTup (q00 (mOp2 dMod (mOp2 dAdd (mOp2 dIx (mVar 1) (mRet (.int 0))) (mRet (.int 1))) (mOp1 dLen (mOp2 dIx (mVar 0) (mRet (.int 2))))) (q00 (mVar 4) mNil))) mNil)))) mNil))
   sNil)) (bs.map D.int) [some (schD r taps rows e),some (.tup [.int p,.int q]),some (.lst F),v3,v4,v5]=some (.nx [some (schD r taps rows e),some (.tup [.int p,.int q]),some (.lst (F++((bs.filter λb=>decide ((2*q+b) % 2^r.toNat≠0)).map (q58 r taps rows p q)).map q1q)),v3',v4',v5'])
 |[],_,F,v4,v5,v6,_=>⟨v4,v5,v6,by rw[List.filter_nil,List.map_nil,List.map_nil,List.map_nil,List.append_nil];rfl⟩
 | b::bs,hb,F,v3,v4,v5,hl=>by
   have b01:=hb b jf
   have hs:=qlu ok p q b p0 p1 (by omega) b01
   have hl0:0<(rows.map rowD).length:=by have:=ok.m1;rw[j9];omega
   rw[jk]at hl
   have lF:F.length<sizeLine:=ji (by omega:F.length<1001) (by decide)
   have m0:(0:Int)<2^r.toNat:=Int.pow_pos (by decide)
   have w0:=Int.emod_nonneg (2*q+b) (show(2:Int)^r.toNat≠0 by omega)
   rw[jg]
   by_cases z:(2*q+b) % 2^r.toNat=0
   · have hh:=λFA=>qlt _ p q b _ _ F v4 v5 hs (by omega) FA
     obtain⟨w3,w4,w5,ih⟩:=qaa ok p q p0 p1 q0 bs (λx hx=>hb x (jj _ hx)) F (some (.int b)) (some (.int ((2*q+b) % 2^r.toNat))) (some (.int (qbh taps rows p (2*q+b)))) (by omega)
     refine⟨w3,w4,w5,?_⟩
     rw[q5k (ρ1:=[some (schD r taps rows e),some (.tup [.int p,.int q]),some (.lst F),some (.int b),v4,v5]) rfl (hh _),ih,List.filter_cons_of_neg (by simpa using z)]
   · have hh:=qi9 (schD r taps rows e) p q b _ _ F _ _ _ _ v4 v5 rfl hl0 lF (by decide) (by decide) hs (by omega)
     obtain⟨w3,w4,w5,ih⟩:=qaa ok p q p0 p1 q0 bs (λx hx=>hb x (jj _ hx)) (F++[q1q (q58 r taps rows p q b)]) (some (.int b)) (some (.int ((2*q+b) % 2^r.toNat))) (some (.int (qbh taps rows p (2*q+b)))) (by rw[jm];simp;omega)
     refine⟨w3,w4,w5,?_⟩
     have e1:D.tup [.int b,.int (qbh taps rows p (2*q+b)),.tup [.int ((p+1) % ((rows.map rowD).length:Nat)),.int ((2*q+b) % 2^r.toNat)]]=q1q (q58 r taps rows p q b):=by
       rw[j9]
       rfl
     rw[e1]at hh
     rw[q5k (ρ1:=[some (schD r taps rows e),some (.tup [.int p,.int q]),some (.lst F),some (.int b),v4,v5]) rfl hh,ih,List.filter_cons_of_pos (by simpa using z),jg,jg,List.append_assoc]
     rfl
theorem qia(S N:D)(F X:List D)(v3 v4 v5:Option D)(FI:RhL)(FB:RhO)(z0:0<=sizeLine)(hI:FI [some S,some N,some (.lst []),none,none,none]=some (X,[some S,some N,some (.lst []),none,none,none]))(hf:q0r (gSet 3) FB X [some S,some N,some (.lst []),none,none,none]=some (.nx [some S,some N,some (.lst F),v3,v4,v5])):
   runP true 2 6 (sSeq (sOwn 2 (mLst mNil)) (sSeq (sFor FI (gSet 3) FB) (q4s 2))) [S,N]=some (.lst F):=by
 walk_at "ev"
theorem qfm(ρ:Rho)(two:2<=sizeLine):(mSeq (mOf (mLst (q00 (mRet (.int 0)) (q00 (mRet (.int 1)) mNil))))) ρ=some ([.int 0,.int 1],ρ):=by
 walk_at "ev"
theorem qib(ok:q1w r taps rows e){n:List Int}(hn:n∈q0t r rows.length):f_y18 [schD r taps rows e,tupD n]=some (.lst ((q0z r taps rows n).map q1q)):=by
 obtain⟨p,q,rfl,p0,p1,q0,q1⟩:=mem_nodes.mp hn
 obtain⟨v4,v5,v6,hf⟩:=qaa ok p q p0 p1 q0 [0,1] (by simp) [] none none none (by decide)
 exact qia _ _ _ _ _ _ _ _ _ (by decide) (qfm _ (by decide)) hf
end
theorem qeb{fg:RhG}{fb:RhO}(f g:List Int->D)(R:Option D->D->D->Rho)(item:List Int->D)(ns:List (List Int))(nd:ns.Nodup)(hl:ns.length<=1000)
   (turn:∀n∈ns,∀v gs hs,gs.length<sizeLine->hs.length<sizeLine->∃ρ1,fg (item n) (R v (.dit gs) (.dit hs))=some ρ1/\∃v',fb ρ1=some (.nx (R v' (.dit (putD gs (ky n) (f n))) (.dit (putD hs (ky n) (g n)))))):
   ∀v,∃v',q0r fg fb (ns.map item) (R v (.dit []) (.dit []))=some (.nx (R v' (dctD f ns) (dctD g ns))):=by
 have go:∀(zf done:List (List Int)),(done++zf).Nodup->(done++zf).length<=1000->(∀n∈zf,n∈ns)->∀v,∃v',q0r fg fb (zf.map item) (R v (dctD f done) (dctD g done))=some (.nx (R v' (dctD f (done++zf)) (dctD g (done++zf)))):=by
   intro zf
   induction zf with
   |nil=>intro done _ _ _ v;exact⟨v,by rw[List.append_nil];rfl⟩
   | cons n r ih=>
     intro done hd hle hm v
     have nn:n∉done:=λz=>by
       rw[List.nodup_append]at hd
       exact hd.2.2 n z n jf rfl
     have e:done++n::r=(done++[n])++r:=by simp
     have le:∀h:List Int->D,(done.map λn=>(ky n,h n)).length<sizeLine:=λh=>by
       rw[j9]
       rw[jm,jk]at hle
       exact ji (by omega:done.length<1001) (by decide)
     obtain⟨ρ1,h1,v1,h2⟩:=turn n (hm n jf) v (done.map λn=>(ky n,f n)) (done.map λn=>(ky n,g n)) (le f) (le g)
     rw[q7n f nn,q7n g nn]at h2
     rw[e]at hd hle ⊢
     obtain⟨v2,h3⟩:=ih (done++[n]) hd hle (λm hm'=>hm m (jj _ hm')) v1
     refine⟨v2,?_⟩
     rw[jg]
     unfold dctD at h3 ⊢
     rw[q5k h1 h2]
     exact h3
 intro v
 obtain⟨v',h⟩:=go ns [] (by simpa using nd) (by simpa using hl) (λn h=>h) v
 exact⟨v',h⟩
theorem qcr{n p q:Nat}{js:List Nat}{fg:RhG}{fe:RhD}{ρ:Rho}(g:D->D):∀(xs:List D),(∀x∈xs,∃ρ1 ρ2,fg x (q47 n js ρ)=some ρ1/\fe ρ1=some (g x,ρ2)/\q3y (some (p,q)) ρ ρ2=ρ)->q0q n js (some (p,q)) fg (mRet true) fe xs ρ=some (xs.map g,ρ)
 |[],_=>rfl
 | x::xs,h=>by
   obtain⟨ρ1,ρ2,h1,h2,h3⟩:=h x jf
   have ih:=qcr (n:=n) (p:=p) (q:=q) (js:=js) (fg:=fg) (fe:=fe) (ρ:=ρ) g xs λy hy=>h y (jj _ hy)
   simp only[q0q,h1,mRet,h2,h3]
   rw[ih]
   rfl
section
variable{r:Int}{taps:List Int}{rows:List (List Int)}{e:Str}
theorem rw_turn1(S M N:D)(ks:List Key)(gs hs:List (List Key×D))(L:List D)(V:D)(hV:V=.lst L)(lg:gs.length<sizeLine)(lh:hs.length<sizeLine)(hk:keyT N=some ks)(hp:f_y18 [S,N]=some (.lst L)):
   (sSeq (q1x 2 (mOf (q2m f_y18 (q00 (mVar 0) (q00 (mVar 4) mNil)))) (mVar 4)) (q1x 3 (mRet (.int 0)) (mVar 4))) [some S,some M,some (.dit gs),some (.dit hs),some N,none,none]=some (.nx [some S,some M,some (.dit (putD gs ks V)),some (.dit (putD hs ks (.int 0))),some N,none,none]):=by
 subst hV
 walk_at "ev"
theorem rw_elt(b o x:Int)(N G:D)(F:List D)(hl:atI F (-1)=some G)(hg:q2g G N=some (.int x)):
   (mOp2 dAdd (mVar 1) (mOp2 q2g (mIxO 3 (mOp1 dNeg (mRet (.int 1)))) (mVar 2))) [some (.int b),some (.int o),some N,some (.lst F)]=some (.int (o+x),[some (.int b),some (.int o),some N,some (.lst F)]):=by
 generalize q2g=GG at hg ⊢
 walk_at "ev"
theorem rw_comp(S M W R N K:Option D)(k:Nat):∀(ps:List (Int×Int×List Int)),(∀p∈ps,p.2.2∈q0t r rows.length)->
   q0q 3 [5] (some (5,3)) (q2f 3 (q0g (gSet 0) (q0g (gSet 1) (q0g (gSet 2) q2p)))) (mRet true) (mOp2 dAdd (mVar 1) (mOp2 q2g (mIxO 3 (mOp1 dNeg (mRet (.int 1)))) (mVar 2))) (ps.map q1q) [S,M,W,R,N,some (.lst (tabK r taps rows (k+1))),K]=some ((ps.map λp=>p.2.1+rowF r taps rows k p.2.2).map D.int,[S,M,W,R,N,some (.lst (tabK r taps rows (k+1))),K]):=λps h=>by
 have cm:=qcr (n:=3) (p:=5) (q:=3) (js:=[5]) (fg:=q2f 3 (q0g (gSet 0) (q0g (gSet 1) (q0g (gSet 2) q2p)))) (fe:=mOp2 dAdd (mVar 1) (mOp2 q2g (mIxO 3 (mOp1 dNeg (mRet (.int 1)))) (mVar 2))) (ρ:=[S,M,W,R,N,some (.lst (tabK r taps rows (k+1))),K])
   (λd=>match d with|.tup [_,.int o,.tup m]=>(match q1v m with|some m=>.int (o+rowF r taps rows k m)|none=>.non)|_=>.non) (ps.map q1q) (λx hx=>by
     obtain⟨p,hp,rfl⟩:=List.mem_map.mp hx
     refine⟨[some (.int p.1),some (.int p.2.1),some (tupD p.2.2),some (.lst (tabK r taps rows (k+1)))],[some (.int p.1),some (.int p.2.1),some (tupD p.2.2),some (.lst (tabK r taps rows (k+1)))],rfl,?_,rfl⟩
     rw[rw_elt _ _ _ _ _ _ (q8e k) (q65 (λn=>.int (rowF r taps rows k n)) (h p hp))]
     show _=some ((match q1v (p.2.2.map D.int)with|some m=>D.int (p.2.1+rowF r taps rows k m)|none=>.non),_)
     rw[q1o])
 rw[cm,jx,jx]
 congr 2
 refine List.map_congr_left λp _=>?_
 show(match q1v (p.2.2.map D.int)with|some m=>D.int (p.2.1+rowF r taps rows k m)|none=>.non)=_
 rw[q1o]
 rfl
theorem rw_turn2(S M W N K:D)(x:Int)(ks:List Key)(gs:List (List Key×D))(F L Y:List D)(FG:RhG)(FE:RhD)(lg:gs.length<sizeLine)(ll:L.length<=sizeLine)(hk:keyT N=some ks)(hw:q2g W N=some (.lst L))
   (cm:q0q 3 [5] (some (5,3)) FG (mRet true) FE L [some S,some M,some W,some (.dit gs),some N,some (.lst F),some K]=some (Y,[some S,some M,some W,some (.dit gs),some N,some (.lst F),some K])) (hm:q53 (.lst Y)=some (.int x)):
   (q1x 3 (mOp1 q53 (mOf (q1c 3 [5] (some (5,3)) (mSeq (mOp2 q2g (mVar 2) (mVar 4))) FG (mRet true) FE))) (mVar 4)) [some S,some M,some W,some (.dit gs),some N,some (.lst F),some K]=some (.nx [some S,some M,some W,some (.dit (putD gs ks (.int x))),some N,some (.lst F),some K]):=by
 generalize q2g=GG at hw ⊢
 generalize q53=MM at hm ⊢
 walk_at "ev"
theorem qdu{n:List Int}(r0:0<=r){N:Nat}(hn:n∈q0t r N)(k:Nat):q53 (.lst (((q0z r taps rows n).map λp=>p.2.1+rowF r taps rows k p.2.2).map D.int))=some (.int (rowF r taps rows (k+1) n)):=by
 have hne:=q7t (taps:=taps) (rows:=rows) r0 hn
 unfold q53
 dsimp only
 rw[q1o]
 dsimp only
 rw[if_pos (λz=>hne (List.map_eq_nil_iff.mp z))]
 rfl
theorem rw_in(S M W K:D)(F NL:List D)(G:D)(v3 v4 v4':Option D)(FI:RhL)(FB:RhO)(lF:F.length<sizeLine)(hI:FI [some S,some M,some W,some (.dit []),v4,some (.lst F),some K]=some (NL,[some S,some M,some W,some (.dit []),v4,some (.lst F),some K]))
   (hf:q0r (gSet 4) FB NL [some S,some M,some W,some (.dit []),v4,some (.lst F),some K]=some (.nx [some S,some M,some W,some G,v4',some (.lst F),some K])):
   (sSeq (q35 3) (sSeq (sFor FI (gSet 4) FB) (sMut q1e 5 (q00 (mVar 3) mNil)))) [some S,some M,some W,v3,v4,some (.lst F),some K]=some (.nx [some S,some M,some W,some G,v4',some (.lst (F++[G])),some K]):=by
 walk_at "ev"
theorem qe2(S M:Option D)(f:List Int->D)(ns:List (List Int))(v3 v4 v5 v6:Option D):(q70 (mVar 2)) [S,M,some (dctD f ns),v3,v4,v5,v6]=some (ns.map tupD,[S,M,some (dctD f ns),v3,v4,v5,v6]):=by
 rw[q64]
 show some ((ns.map λn=>(ky n,f n)).map (λg=>D.tup (g.1.map keyD)),_)=_
 rw[q92]
theorem rw_run(S M W R0:D)(NL F KS:List D)(v4 v4' v3 v6:Option D)(FB1 FB2:RhO)(FI1 FI2:RhL)(one:1<=sizeLine)(hI1:FI1 [some S,some M,some (.dit []),some (.dit []),none,none,none]=some (NL,[some S,some M,some (.dit []),some (.dit []),none,none,none]))
   (h1:q0r (gSet 4) FB1 NL [some S,some M,some (.dit []),some (.dit []),none,none,none]=some (.nx [some S,some M,some W,some R0,v4,none,none]))
   (hI2:FI2 [some S,some M,some W,some R0,v4,some (.lst [R0]),none]=some (KS,[some S,some M,some W,some R0,v4,some (.lst [R0]),none]))
   (h2:q0r (gSet 6) FB2 KS [some S,some M,some W,some R0,v4,some (.lst [R0]),none]=some (.nx [some S,some M,some W,v3,v4',some (.lst F),v6])):
   runP false 2 7 (sSeq (q35 2) (sSeq (q35 3) (sSeq (sFor FI1 (gSet 4) FB1) (sSeq (sOwn 5 (mLst (q00 (mVar 3) mNil))) (sSeq (sFor FI2 (gSet 6) FB2) (sRet (mVar 5))))))) [S,M]=some (.lst F):=by
 walk_at "ev"
theorem qds(S M:D)(NL:List D)(v2 v3 v4 v5 v6:Option D)(h:f_y17 [S]=some (.lst NL)):(mSeq (mOf (q2m f_y17 (q00 (mVar 0) mNil)))) [some S,some M,v2,v3,v4,v5,v6]=some (NL,[some S,some M,v2,v3,v4,v5,v6]):=by
 walk_at "ev"
theorem qbx(S:D)(m:Int)(v2 v3 v4 v5 v6:Option D):(q00 (mVar 1) mNil) [some S,some (.int m),v2,v3,v4,v5,v6]=some ([.int m],[some S,some (.int m),v2,v3,v4,v5,v6]):=by
 walk_at "ev"
theorem qic(ok:q1w r taps rows e)(s:Nat)(hs:s<=100):f_y19 [schD r taps rows e,.int (s:Int)]=some (.lst (tabK r taps rows (s+1))):=by
 have z5:=q21 ok.r0 ok.r4 ok.m6
 obtain⟨v4,h1⟩:=qeb (fg:=gSet 4) (fb:=sSeq (q1x 2 (mOf (q2m f_y18 (q00 (mVar 0) (q00 (mVar 4) mNil)))) (mVar 4)) (q1x 3 (mRet (.int 0)) (mVar 4))) (λn=>.lst ((q0z r taps rows n).map q1q)) (λn=>.int (rowF r taps rows 0 n))
   (λv G G2=>[some (schD r taps rows e),some (.int (s:Int)),some G,some G2,v,none,none]) tupD (q0t r rows.length) (q20 _) z5
   (λn hn v gs hs lg lh=>⟨[some (schD r taps rows e),some (.int _),some (.dit gs),some (.dit hs),some (tupD n),none,none],rfl,some (tupD n),rw_turn1 _ _ _ _ _ _ _ _ rfl lg lh (q33 n) (qib ok hn)⟩) none
 obtain⟨ρ',f2,v3,w4,v6,rfl⟩:=q52 (fg:=gSet 6) (fb:=sSeq (q35 3)
 (sSeq (sFor (q70 (mVar 2)) (gSet 4)
   (q1x 3 (mOp1 q53 (mOf (q1c 3 [5] (some (5,3)) (mSeq (mOp2 q2g (mVar 2) (mVar 4))) (q2f 3 (q0g (gSet 0) (q0g (gSet 1) (q0g (gSet 2) q2p)))) (mRet true) (mOp2 dAdd (mVar 1) (mOp2 q2g (mIxO 3 (mOp1 dNeg (mRet (.int 1)))) (mVar 2)))))) (mVar 4)))
 (sMut q1e 5 (q00 (mVar 3) mNil))))
   (λi ρ=>∃v3 v4 v6,ρ=[some (schD r taps rows e),some (.int (s:Int)),some (q1z r taps rows),v3,v4,some (.lst (tabK r taps rows (i+1))),v6]) (q0w 0 s) 0
   [some (schD r taps rows e),some (.int (s:Int)),some (q1z r taps rows),some (rowK r taps rows 0),v4,some (.lst [rowK r taps rows 0]),none] ⟨_,_,_,rfl⟩ (by
     rintro i x ρ hx ⟨v3,v4,v6,rfl⟩
     obtain⟨hi,rfl⟩:=q2i hx
     rw[Nat.zero_add]at*
     obtain⟨w4,hf⟩:=q63 (fg:=gSet 4) (fb:=q1x 3 (mOp1 q53 (mOf (q1c 3 [5] (some (5,3)) (mSeq (mOp2 q2g (mVar 2) (mVar 4))) (q2f 3 (q0g (gSet 0) (q0g (gSet 1) (q0g (gSet 2) q2p)))) (mRet true) (mOp2 dAdd (mVar 1) (mOp2 q2g (mIxO 3 (mOp1 dNeg (mRet (.int 1)))) (mVar 2)))))) (mVar 4)) (λn=>.int (rowF r taps rows (i+1) n))
       (λv G=>[some (schD r taps rows e),some (.int (s:Int)),some (q1z r taps rows),some G,v,some (.lst (tabK r taps rows (i+1))),some (.int (0+(i:Int)))]) tupD (q0t r rows.length) (q20 _) z5
       (λn hn v gs lg=>⟨[some (schD r taps rows e),some (.int (s:Int)),some (q1z r taps rows),some (.dit gs),some (tupD n),some (.lst (tabK r taps rows (i+1))),some (.int (0+(i:Int)))],rfl,some (tupD n),
         rw_turn2 _ _ _ _ _ _ _ _ _ _ _ _ _ lg (by
           have:(q0z r taps rows n).length<=2:=by unfold q0z;rw[j9];exact List.length_filter_le _ _
           rw[j9];exact q2e (by omega)) (q33 n) (q65 (λn=>.lst ((q0z r taps rows n).map q1q)) hn) (rw_comp _ _ _ _ _ _ i _ λp hp=>(q5w ok hn hp).1) (qdu ok.r0 hn i)⟩) v4
     refine⟨_,_,rfl,.inl (rw_in _ _ _ _ _ _ _ v3 v4 w4 _ _ (by rw[qfn];exact ji (by omega:i+1<1000) (by decide)) (qe2 _ _ _ _ _ _ _ _) hf),some (rowK r taps rows (i+1)),w4,some (.int (0+(i:Int))),?_⟩
     rw[q8d (i+1)]
     rfl)
 rw[q1j,Nat.zero_add]at f2
 have hrng:=q6j (qbx (schD r taps rows e) (s:Int) (some (q1z r taps rows)) (some (rowK r taps rows 0)) v4 (some (.lst [rowK r taps rows 0])) none) (by unfold big;simp;omega)
 rw[xu]at hrng
 exact rw_run _ _ _ _ _ _ _ _ _ _ _ _ _ _ _ (by decide) (qds _ _ _ _ _ _ _ _ (qfl ok)) h1 hrng f2
theorem q4m(k:Nat):∃(gs:List (List Key×D)) (ns:List Int),rowK r taps rows k=.dit gs/\gs.map (·.2)=(ns.map D.int)/\(gs.all λg=>g.1.all λc=>c.isLeft)=true/\gs.length=(q0t r rows.length).length:=by
 refine⟨_,(q0t r rows.length).map (rowF r taps rows k),rfl,?_,?_,j9 _⟩
 · rw[jx,jx]
   rfl
 · refine List.all_eq_true.mpr λg hg=>?_
   obtain⟨n,_,rfl⟩:=List.mem_map.mp hg
   refine List.all_eq_true.mpr λc hc=>?_
   obtain⟨i,_,rfl⟩:=List.mem_map.mp hc
   rfl
theorem q8m(k:Nat):q9k (rowK r taps rows k) (rowK r taps rows k)=true:=by
 obtain⟨gs,ns,e1,e2,e3,_⟩:=q4m (r:=r) (taps:=taps) (rows:=rows) k
 rw[e1]
 unfold q9k
 dsimp only
 rw[e2,q1o]
 dsimp only
 rw[e3,decide_eq_true rfl,decide_eq_true rfl]
 rfl
theorem qev(k:Nat):isDI (rowK r taps rows k)=true:=by
 obtain⟨gs,ns,e1,e2,_,_⟩:=q4m (r:=r) (taps:=taps) (rows:=rows) k
 rw[e1]
 unfold isDI
 dsimp only
 rw[e2,q1o]
 rfl
theorem q6i:∀ks:List Nat,q9j (ks.map (rowK r taps rows)) (ks.map (rowK r taps rows))=true
 |[]=>rfl
 |k::ks=>by rw[jg,q9j,q8m,q6i ks];rfl
theorem qiu(n:Int):(q81 (mOp1 (dIsi (q24 "int")) (mVar 0)) (q80 (mOp1 (dIsi (q24 "bool")) (mVar 0)))) [some (.int n)]=some (.bl true,[some (.int n)]):=by
 walk_at "ev"
theorem all_true:∀ns:List Int,q3e (ns.map λ_=>D.bl true)=some (ns.map λ_=>true)
 |[]=>rfl
 |n::ns=>by rw[jg,q3e,all_true ns];rfl
theorem qiv(ns:List Int):dAll (.lst (ns.map λ_=>D.bl true))=some (.bl true):=by
 unfold dAll
 simp[all_true]
theorem qfx(A B G:D)(X YD:List D)(FI:RhL)(FE:RhD)(lx:X.length<=sizeLine)(hG:dIsi (q24 "dict") G=some (.bl true))(hne:dNeT G G=some (.bl false))(hI:FI [some A,some B,some G,some G]=some (X,[some A,some B,some G,some G]))
   (cm:q0q 1 [] none (gSet 0) (mRet true) FE X [some A,some B,some G,some G]=some (YD,[some A,some B,some G,some G])) (ha:dAll (.lst YD)=some (.bl true)):
   (sSeq (sIf (mOr (mNot (q0l (mOp1 (dIsi (q24 "dict")) (mVar 2)))) (q0l (mOp2 dNeT (mVar 2) (mVar 3))))
   (sRet (mRet (.bl false)))
   sNil)
 (sIf (mNot (q0l (mOp1 dAll (mOf (q1c 1 [] none FI (gSet 0) (mRet true) FE)))))
   (sRet (mRet (.bl false)))
   sNil)) [some A,some B,some G,some G]=some (.nx [some A,some B,some G,some G]):=by
 generalize dIsi (q24 "dict")=IS at hG ⊢
 generalize dNeT=NE at hne ⊢
 generalize dAll=AL at ha ⊢
 walk_at "ev"
theorem qit(A B:List D)(Z:List D)(v2 v3:Option D)(FB:RhO)(FG:RhG)(hl:A.length=B.length)(hz:zipD A B=Z)(hf:q0r FG FB Z [some (.lst A),some (.lst B),none,none]=some (.nx [some (.lst A),some (.lst B),v2,v3])):
   runP false 2 4 (sSeq (sIf (mOr (mNot (q0l (mOp1 (dIsi (q24 "list")) (mVar 0)))) (q0l (mOp2 dNe (mOp1 dLen (mVar 0)) (mOp1 dLen (mVar 1)))))
   (sRet (mRet (.bl false)))
   sNil)
 (sSeq (sFor (mZip (q00 (mVar 0) (q00 (mVar 1) mNil))) FG FB)
 (sRet (mRet (.bl true))))) [.lst A,.lst B]=some (.bl true):=by
 have hl2:(B.length:Int)=(A.length:Int):=by omega
 walk_at "ev"
theorem q8a:∀A:List D,zipD A A=A.map λd=>.tup [d,d]
 |[]=>rfl
 | d::A=>by
   have ih:=q8a A
   unfold zipD at ih ⊢
   rw[List.zipWith_cons_cons,ih]
   rfl
theorem qfk(ok:q1w r taps rows e)(ks:List Nat):f_y20 [.lst (ks.map (rowK r taps rows)),.lst (ks.map (rowK r taps rows))]=some (.bl true):=by
 have z5:=q21 (N:=rows.length) ok.r0 ok.r4 ok.m6
 obtain⟨ρ',hf,v2,v3,rfl⟩:=qcg (fg:=q2f 2 (q0g (gSet 2) (q0g (gSet 3) q2p))) (fb:=(sSeq (sIf (mOr (mNot (q0l (mOp1 (dIsi (q24 "dict")) (mVar 2)))) (q0l (mOp2 dNeT (mVar 2) (mVar 3))))
   (sRet (mRet (.bl false)))
   sNil)
 (sIf (mNot (q0l (mOp1 dAll (mOf (q1c 1 [] none (qdw (mVar 2)) (gSet 0) (mRet true) (q81 (mOp1 (dIsi (q24 "int")) (mVar 0)) (q80 (mOp1 (dIsi (q24 "bool")) (mVar 0)))))))))
   (sRet (mRet (.bl false)))
   sNil)))
   (λρ=>∃v2 v3,ρ=[some (.lst (ks.map (rowK r taps rows))),some (.lst (ks.map (rowK r taps rows))),v2,v3]) ((ks.map (rowK r taps rows)).map λd=>.tup [d,d]) [some (.lst (ks.map (rowK r taps rows))),some (.lst (ks.map (rowK r taps rows))),none,none] ⟨_,_,rfl⟩ (by
     rintro x ρ hx ⟨v2,v3,rfl⟩
     obtain⟨d,hd,rfl⟩:=List.mem_map.mp hx
     obtain⟨k,_,rfl⟩:=List.mem_map.mp hd
     have hs:=q8m (r:=r) (taps:=taps) (rows:=rows) k
     have hne:dNeT (rowK r taps rows k) (rowK r taps rows k)=some (.bl false):=by unfold dNeT;rw[if_pos hs]
     obtain⟨gs,ns,e1,e2,_,e4⟩:=q4m (r:=r) (taps:=taps) (rows:=rows) k
     generalize hL:ks.map (rowK r taps rows)=L
     generalize rowK r taps rows k=G at hne e1
     have cm:=q5p (n:=1) (js:=[]) (fg:=gSet 0) (fe:=(q81 (mOp1 (dIsi (q24 "int")) (mVar 0)) (q80 (mOp1 (dIsi (q24 "bool")) (mVar 0))))) (ρ:=[some (.lst L),some (.lst L),some G,some G]) (λ_=>.bl true) (ns.map D.int) (λy hy=>by
       obtain⟨n,_,rfl⟩:=List.mem_map.mp hy
       exact⟨[some (.int n)],rfl,by rw[qiu n];rfl⟩)
     have e5:(ns.map D.int).map (λ_=>D.bl true)=ns.map λ_=>D.bl true:=by rw[jx];rfl
     rw[e5]at cm
     have hI:(qdw (mVar 2)) [some (.lst L),some (.lst L),some G,some G]=some (ns.map D.int,[some (.lst L),some (.lst L),some G,some G]):=by
       rw[<-e2,e1]
       rfl
     have hln:(ns.map D.int).length<=sizeLine:=by
       rw[<-e2,j9,e4]
       exact q2e (by omega)
     exact⟨[some (.lst L),some (.lst L),some G,some G],_,rfl,.inl (qfx _ _ _ _ _ _ _ hln (by rw[e1];rfl) hne hI cm (qiv ns)),_,_,rfl⟩)
 exact qit _ _ _ _ _ _ _ rfl (q8a _) hf
end
section
variable{r:Int}{taps:List Int}{rows:List (List Int)}{e:Str}{P0:Addr}
theorem z0a(s:Int)(E:D):(sSet 3 (q0o f_y14 0 (q00 (mVar 1) mNil))) [some (.lst [.int s]),some (.int 4),some E,none,none,none,none]=some (.nx [some (.lst [.int (nxK s)]),some (.int 4),some E,some (.int (drK s 4)),none,none,none]):=by
 have h:=q38 s 4 (by decide)
 walk_at "ev"
theorem z0b(s x:Int)(E:D)(v4 v5 v6:Option D):(sIf (q0l (mOp2 dEq (q0o f_y14 0 (q00 (mRet (.int 9)) mNil)) (mRet (.int 0)))) (sSet 3 (mRet (.int 4))) sNil) [some (.lst [.int s]),some (.int 4),some E,some (.int x),v4,v5,v6]=some (.nx [some (.lst [.int (nxK s)]),some (.int 4),some E,some (.int (if(drK s 9==0)=true then 4 else x)),v4,v5,v6]):=by
 have h:=q38 s 9 (by decide)
 generalize drK s 9=d at h ⊢
 cases z:(d==0)<;>walk_at "ev"
theorem z5n(s:Int)(E X T R:D)(v6:Option D)(hd:(drK s 12==0)=false)(FA:RhO):(sIf (q0l (mOp2 dEq (q0o f_y14 0 (q00 (mRet (.int 12)) mNil)) (mRet (.int 0)))) FA sNil) [some (.lst [.int s]),some (.int 4),some E,some X,some T,some R,v6]=some (.nx [some (.lst [.int (nxK s)]),some (.int 4),some E,some X,some T,some R,v6]):=by
 have h:=q38 s 12 (by decide)
 generalize drK s 12=d at h hd
 walk_at "ev"
theorem z5y(s:Int)(E X R:D)(TS Z:List D)(v6:Option D)(hd:(drK s 12==0)=true)(one:1<=sizeLine)(lt:TS.length<=sizeLine)(cm:q0q 1 [] none (gSet 0) (mRet true) (mRet (.int 0)) TS [some (.lst [.int (nxK s)]),some (.int 4),some E,some X,some (.lst TS),some R,v6]=some (Z,[some (.lst [.int (nxK s)]),some (.int 4),some E,some X,some (.lst TS),some R,v6])):
   (sIf (q0l (mOp2 dEq (q0o f_y14 0 (q00 (mRet (.int 12)) mNil)) (mRet (.int 0)))) (sSet 5 (mOf (mLst (q00 (mOp1 q22 (mOf (q1c 1 [] none (mSeq (mVar 4)) (gSet 0) (mRet true) (mRet (.int 0))))) mNil)))) sNil) [some (.lst [.int s]),some (.int 4),some E,some X,some (.lst TS),some R,v6]=some (.nx [some (.lst [.int (nxK s)]),some (.int 4),some E,some X,some (.lst TS),some (.lst [.tup Z]),v6]):=by
 have h:=q38 s 12 (by decide)
 generalize drK s 12=d at h hd
 walk_at "ev"
theorem z6(s r:Int)(E:D)(TS RS:List D)(v:Option D)(four:4<=sizeLine):(sRet (mTup (q00 (mVar 3) (q00 (mOp1 q22 (mVar 4)) (q00 (mOp1 q22 (mVar 5)) (q00 (mVar 2) mNil)))))) [some (.lst [.int s]),some (.int 4),some E,some (.int r),some (.lst TS),some (.lst RS),v]=some (.rt (.tup [.int r,.tup TS,.tup RS,E]) [some (.lst [.int s]),some (.int 4),some E,some (.int r),some (.lst TS),some (.lst RS),v]):=by
 walk_at "ev"
theorem q7l(s:Int)(e:Str)(he:e="open"∨e="ended"∨e="ring"):∃r taps rows s',f_y15 [.int s] [.int 4,.str e]=some (schD r taps rows e,[.int s'])/\q1w r taps rows e:=by
 have d0:=q5l s (m:=4) (by decide)
 have d4:=q5m s (m:=4) (by decide)
 have a0:=z0a s (.str e)
 have a0b:=z0b (nxK s) (drK s 4) (.str e) none none none
 obtain⟨r,hr⟩:∃r,(if(drK (nxK s) 9==0)=true then 4 else drK s 4)=r:=⟨_,rfl⟩
 have r0:0<=r/\r<=4:=by split at hr<;>omega
 rw[hr]at a0b
 obtain⟨taps,s1',a1,b1,b4,tb⟩:=s1 (nxK (nxK s)) r (.str e) r0.1 r0.2
 have a3:=s3 s1' r (.str e) (.lst (taps.map D.int)) (by decide)
 obtain⟨rows,s4',v,a4,m1,m6,zk⟩:=s4 s1' r (.str e) taps b1 b4
 obtain⟨rows',a5,m1',m6',hrow'⟩:∃rows':List (List Int),(sIf (q0l (mOp2 dEq (q0o f_y14 0 (q00 (mRet (.int 12)) mNil)) (mRet (.int 0)))) (sSet 5 (mOf (mLst (q00 (mOp1 q22 (mOf (q1c 1 [] none (mSeq (mVar 4)) (gSet 0) (mRet true) (mRet (.int 0))))) mNil)))) sNil) [some (.lst [.int s4']),some (.int 4),some (.str e),some (.int r),some (.lst (taps.map D.int)),some (.lst (rows.map rowD)),v]=some (.nx [some (.lst [.int (nxK s4')]),some (.int 4),some (.str e),some (.int r),some (.lst (taps.map D.int)),some (.lst (rows'.map rowD)),v])/\1<=rows'.length/\rows'.length<=6/\∀row∈rows',row.length=taps.length/\∀b∈row,b=0∨b=1:=by
   cases hd:(drK s4' 12==0)with
   |false=>exact⟨rows,z5n _ _ _ _ _ _ hd _,m1,m6,zk⟩
   | true=>
     have cm:=q5p (n:=1) (js:=[]) (fg:=gSet 0) (fe:=mRet (.int 0)) (ρ:=[some (.lst [.int (nxK s4')]),some (.int 4),some (.str e),some (.int r),some (.lst (taps.map D.int)),some (.lst (rows.map rowD)),v]) (λ_=>.int 0) (taps.map D.int) (λx _=>⟨[some x],rfl,rfl⟩)
     have e2:(taps.map D.int).map (λ_=>D.int 0)=(taps.map λ_=>(0:Int)).map D.int:=by rw[jx,jx];rfl
     rw[e2]at cm
     refine⟨[taps.map λ_=>0],z5y _ _ _ _ _ _ _ hd (by decide) (by rw[j9];exact q2e (by omega)) cm,by simp,by simp,λrow zk=>?_⟩
     rw[List.mem_singleton.mp zk]
     refine⟨j9 _,λb hb=>?_⟩
     obtain⟨_,_,rfl⟩:=List.mem_map.mp hb
     exact .inl rfl
 have a6:=z6 (nxK s4') r (.str e) (taps.map D.int) (rows'.map rowD) v (by decide)
 refine⟨r,taps,rows',nxK s4',?_,⟨r0.1,r0.2,b1,b4,tb,m1',m6',hrow',he⟩⟩
 have body:=(q3o a0).trans<|(q3o a0b).trans<|(q3o a1).trans<|(q3o a3).trans<|(q3o a4).trans<|(q3o a5).trans a6
 unfold f_y15 runS
 rw[if_pos (show [D.int 4,D.str e].length+1=3 from rfl)]
 show(match qd2 [some (.lst [.int s]),some (.int 4),some (.str e),none,none,none,none]with
   | some (.rt d ρ)=>(match (ρ[0]? :Option (Option D))with
     |some (some (D.lst ys))=>some (d,ys)
     |_=>none)
   | some (.nx ρ)=>if false=true then none else(match (ρ[0]? :Option (Option D))with
     |some (some (D.lst ys))=>some (.non,ys)
     |_=>none)
   |_=>none)=_
 unfold qd2
 rw[body]
 rfl
theorem l0(A T:D)(c:Int)(v2 v3 v4 v5 v6:Option D)(one:1<=sizeLine):∃y:Int,(sOwn 2 (mLst (q00 (mOp2 dAdd (mOp2 q3x (mOp2 dMod (mVar 1) (mOp2 dPow (mRet (.int 10)) (mRet (.int 30)))) (mRet (.int 7368787))) (mRet (.int 1000003))) mNil))) [some A,some (.int c),v2,v3,v4,v5,v6,some T]=some (.nx [some A,some (.int c),some (.lst [.int y]),v3,v4,v5,v6,some T]):=by
 refine⟨c % 10^30*7368787+1000003,?_⟩
 walk_at "ev"
theorem qfq(ρ:Rho)(zx:3<=sizeLine):(mOf (mLst (q00 (mRet (.str "open")) (q00 (mRet (.str "ended")) (q00 (mRet (.str "ring")) mNil))))) ρ=some (.lst [.str "open",.str "ended",.str "ring"],ρ):=by
 walk_at "ev"
theorem l1(A C T S:D)(y s' d:Int)(X:D)(v3 v4 v5 v6:Option D)(zx:3<=sizeLine)(hd:drK y 3=d)(hx:atI [D.str "open",D.str "ended",D.str "ring"] d=some X)(hs:f_y15 [.int (nxK y)] [.int 4,X]=some (S,[.int s'])):
   (sSet 3 (q0o f_y15 2 (q00 (mRet (.int 4)) (q00 (mOp2 dIx (mOf (mLst (q00 (mRet (.str "open")) (q00 (mRet (.str "ended")) (q00 (mRet (.str "ring")) mNil))))) (q0o f_y14 2 (q00 (mRet (.int 3)) mNil))) mNil)))) [some A,some C,some (.lst [.int y]),v3,v4,v5,v6,some T]=some (.nx [some A,some C,some (.lst [.int s']),some S,v4,v5,v6,some T]):=by
 have h:=q38 y 3 (by decide)
 rw[hd]at h
 generalize hL:[D.str "open",D.str "ended",D.str "ring"]=L at hx
 have hl:(mOf (mLst (q00 (mRet (.str "open")) (q00 (mRet (.str "ended")) (q00 (mRet (.str "ring")) mNil))))) [some A,some C,some (.lst [.int y]),v3,v4,v5,v6,some T]=some (.lst L,[some A,some C,some (.lst [.int y]),v3,v4,v5,v6,some T]):=by
   rw[<-hL]
   exact qfq _ zx
 generalize (mOf (mLst (q00 (mRet (.str "open")) (q00 (mRet (.str "ended")) (q00 (mRet (.str "ring")) mNil)))))=FL at hl ⊢
 clear hL
 walk_at "ev"
theorem l2(A C S T:D)(y:Int)(v4 v5 v6:Option D):(sSet 4 (q0o f_y14 2 (q00 (mRet (.int 8)) mNil))) [some A,some C,some (.lst [.int y]),some S,v4,v5,v6,some T]=some (.nx [some A,some C,some (.lst [.int (nxK y)]),some S,some (.int (drK y 8)),v5,v6,some T]):=by
 have h:=q38 y 8 (by decide)
 walk_at "ev"
theorem tail_at{i j q:Nat}{P:Addr}{lp:Pos}{qq:Str}{g:List D->Option D}{fs:RhL}{fe:RhD}{ft1 ft2:RhB}{fr:RhO}{ρ ρ1 ρ2:Rho}{ds es:List D}{G0 d2:D}{g0:List (List Key×D)}{o:Out}(hG:G0=.dit g0)
   (h1:fs ρ=some (ds,ρ1)) (h2:ρ1[q]? =some (some (.tab P lp qq))) (hT:onTs ds=true) (il:i<ρ1.length) (hg:g ds=some (.lst (G0::es))) (he:fe (ρ1.set i none)=some (d2,ρ2)) (zi:(isDI G0&&es.all isDI)=true) (z1:g0.length<sizeLine) (z2:es.length+1<sizeLine)
   (t1:(ft1 ((ρ2.set j (some d2)).set i (some (.lst (G0::es))))).map (·.1)=some false) (t2:(ft2 ((ρ2.set j (some d2)).set i (some (.lst (.dit (putD g0 k99 (.int 1))::es))))).map (·.1)=some false) (hr:fr (ρ2.set j (some d2))=some o):q2v i j q P lp qq g fs fe ft1 ft2 fr ρ=some o:=by
 subst hG
 unfold q2v
 rw[h1]
 dsimp only
 rw[h2]
 dsimp only
 rw[if_pos ⟨rfl,rfl,rfl,hT,il⟩,hg]
 dsimp only
 rw[he]
 dsimp only
 rw[if_pos ⟨zi,z1,z2,t1,t2⟩]
 exact hr
theorem qlo(A C Y S M T:D)(v5 v6:Option D):(q00 (mVar 3) (q00 (mVar 4) mNil)) [some A,some C,some Y,some S,some M,v5,v6,some T]=some ([S,M],[some A,some C,some Y,some S,some M,v5,v6,some T]):=by
 walk_at "ev"
theorem qln(A C Y S M T R:D)(v5 v6:Option D)(h:f_y19 [S,M]=some R):(q12 f_y19 (q00 (mVar 3) (q00 (mVar 4) mNil))) [some A,some C,some Y,some S,some M,v5,v6,some T]=some (R,[some A,some C,some Y,some S,some M,v5,v6,some T]):=by
 walk_at "ev"
theorem qi5(A C Y S M T X R:D)(h:f_y20 [X,R]=some (.bl true)):(mNot (q0l (q12 f_y20 (q00 (mVar 5) (q00 (mVar 6) mNil))))) [some A,some C,some Y,some S,some M,some X,some R,some T]=some (false,[some A,some C,some Y,some S,some M,some X,some R,some T]):=by
 walk_at "ev"
theorem a_ne(A C Y S M T X R X2 R2:D)(h1:dSl X (some 1) none=some X2)(h2:dSl R (some 1) none=some R2)(h:q4i X2 R2=some (.bl false)):(q0l (mOp2 q4i (mSl (mVar 5) (q30 (mRet (.int 1))) (mRet none)) (mSl (mVar 6) (q30 (mRet (.int 1))) (mRet none)))) [some A,some C,some Y,some S,some M,some X,some R,some T]=some (false,[some A,some C,some Y,some S,some M,some X,some R,some T]):=by
 generalize q4i=NN at h ⊢
 walk_at "ev"
theorem qi6(A C Y S M X R:D)(v5:Option D)(hf:f_y13 P0 [S,M]=some X)(h:f_y20 [X,R]=some (.bl true)):(sIf (mNot (q0l (q12 f_y20 (q00 (q29 7 P0 lp0 lq0 (f_y13 P0) (q00 (mVar 3) (q00 (mVar 4) mNil))) (q00 (mVar 6) mNil)))))
   (sRet (mRet (.bl false)))
   sNil) [some A,some C,some Y,some S,some M,v5,some R,some (.tab P0 lp0 lq0)]=some (.nx [some A,some C,some Y,some S,some M,v5,some R,some (.tab P0 lp0 lq0)]):=by
 generalize lp0=lp
 generalize lq0=lq
 generalize f_y13 P0=FF at hf ⊢
 walk_at "ev"
theorem cut1(d:D)(es:List D):dSl (.lst (d::es)) (some 1) none=some (.lst es):=by
 show some (D.lst (cutD (d::es) (some 1) none))=_
 unfold cutD
 have e1:HT.sIx (d::es).length 0 (some 1)=1:=by
   unfold HT.sIx
   simp
   try omega
 have e2:HT.sIx (d::es).length (d::es).length none=(d::es).length:=rfl
 rw[e1,e2]
 simp
theorem qde(k:Nat):tabK r taps rows (k+1)=rowK r taps rows 0::((List.range k).map Nat.succ).map (rowK r taps rows):=by
 unfold tabK
 rw[List.range_succ_eq_map,jg]
theorem qkg(ok:q1w r taps rows e)(A C Y:D)(k:Nat)(hk:k<=100)(v5 v6:Option D):(q2v 5 6 7 P0 lp0 lq0 (f_y13 P0) (q00 (mVar 3) (q00 (mVar 4) mNil)) (q12 f_y19 (q00 (mVar 3) (q00 (mVar 4) mNil))) (mNot (q0l (q12 f_y20 (q00 (mVar 5) (q00 (mVar 6) mNil))))) (q0l (mOp2 q4i (mSl (mVar 5) (q30 (mRet (.int 1))) (mRet none)) (mSl (mVar 6) (q30 (mRet (.int 1))) (mRet none))))
 (sIf (mNot (q0l (q12 f_y20 (q00 (q29 7 P0 lp0 lq0 (f_y13 P0) (q00 (mVar 3) (q00 (mVar 4) mNil))) (q00 (mVar 6) mNil)))))
   (sRet (mRet (.bl false)))
   sNil)) [some A,some C,some Y,some (schD r taps rows e),some (.int (k:Int)),v5,v6,some (.tab P0 lp0 lq0)]=some (.nx [some A,some C,some Y,some (schD r taps rows e),some (.int (k:Int)),none,some (.lst (tabK r taps rows (k+1))),some (.tab P0 lp0 lq0)]):=by
 have z5:=q21 (N:=rows.length) ok.r0 ok.r4 ok.m6
 have hf:=qm1 (P0:=P0) ok k hk
 have zk:=qic ok k hk
 have hright:=qfk (taps:=taps) ok (List.range (k+1))
 have hsame:=q6i (r:=r) (taps:=taps) (rows:=rows) ((List.range k).map Nat.succ)
 have hall:((((List.range k).map Nat.succ).map (rowK r taps rows)).all isDI)=true:=List.all_eq_true.mpr λd hd=>by
   obtain⟨j,_,rfl⟩:=List.mem_map.mp hd
   exact qev j
 have hdi:=qev (r:=r) (taps:=taps) (rows:=rows) 0
 have hz2:(((List.range k).map Nat.succ).map (rowK r taps rows)).length+1<sizeLine:=by
   rw[j9,j9,List.length_range]
   exact ji (by omega:k+1<1000) (by decide)
 obtain⟨gs,_,e1,_,_,e4⟩:=q4m (r:=r) (taps:=taps) (rows:=rows) 0
 have hz1:gs.length<sizeLine:=by
   rw[e4]
   exact ji (by omega:(q0t r rows.length).length<100000) (by decide)
 have ec:=qde (r:=r) (taps:=taps) (rows:=rows) k
 change f_y20 [.lst (tabK r taps rows (k+1)),.lst (tabK r taps rows (k+1))]=some (.bl true)at hright
 have hT:onTs [schD r taps rows e,.int (k:Int)]=true:=by
   have h1:∀ns:List Int,onTs (ns.map D.int)=true:=λns=>by
     induction ns with
     |nil=>rfl
     |cons n ns ih=>rw[jg,onTs,ih];rfl
   have h2:∀rs:List (List Int),onTs (rs.map rowD)=true:=λrs=>by
     induction rs with
     |nil=>rfl
     | cons n ns ih=>
       rw[jg,onTs,ih]
       show(onTs (n.map D.int)&&true)=true
       rw[h1]
       rfl
   show(onT (.tup [.int r,.tup (taps.map D.int),.tup (rows.map rowD),.str e])&&true)=true
   simp[onT,onTs,h1,h2]
 have hg:=hf
 rw[ec]at hg
 generalize hes:((List.range k).map Nat.succ).map (rowK r taps rows)=es at hg hall hz2 hsame ec
 have hne:q4i (.lst es) (.lst es)=some (.bl false):=by
   unfold q4i
   dsimp only
   rw[if_pos hsame]
 have c2:dSl (.lst (tabK r taps rows (k+1))) (some 1) none=some (.lst es):=by rw[ec];exact cut1 _ _
 have hr1:=hright
 rw[show f_y20 [.lst (tabK r taps rows (k+1)),.lst (tabK r taps rows (k+1))]=f_y20 [.lst (rowK r taps rows 0::es),.lst (tabK r taps rows (k+1))]by rw[<-ec]]at hr1
 refine tail_at e1 (qlo A C Y _ _ _ v5 v6) rfl hT (by decide:5<8) hg (qln A C Y _ _ _ _ none v6 zk) (by rw[hdi,hall];rfl) hz1 hz2 ?_ ?_ (qi6 A C Y _ _ _ _ none hf hright)
 · show(Option.map _ ((mNot (q0l (q12 f_y20 (q00 (mVar 5) (q00 (mVar 6) mNil))))) [some A,some C,some Y,some (schD r taps rows e),some (.int (k:Int)),some (.lst (rowK r taps rows 0::es)),some (.lst (tabK r taps rows (k+1))),some (.tab P0 lp0 lq0)]))=_
   rw[qi5 A C Y _ _ _ _ _ hr1]
   rfl
 · show(Option.map _ ((q0l (mOp2 q4i (mSl (mVar 5) (q30 (mRet (.int 1))) (mRet none)) (mSl (mVar 6) (q30 (mRet (.int 1))) (mRet none)))) [some A,some C,some Y,some (schD r taps rows e),some (.int (k:Int)),some (.lst (.dit (putD gs k99 (.int 1))::es)),some (.lst (tabK r taps rows (k+1))),some (.tab P0 lp0 lq0)]))=_
   rw[a_ne A C Y _ _ _ _ _ _ _ (cut1 _ _) c2 hne]
   rfl
theorem qdy(A:D)(c:Int)(v2 v3 v4 v5 v6:Option D):∃w2 w3 w4 w5 w6,(sSeq (sOwn 2 (mLst (q00 (mOp2 dAdd (mOp2 q3x (mOp2 dMod (mVar 1) (mOp2 dPow (mRet (.int 10)) (mRet (.int 30)))) (mRet (.int 7368787))) (mRet (.int 1000003))) mNil)))
 (sSeq (sSet 3 (q0o f_y15 2 (q00 (mRet (.int 4)) (q00 (mOp2 dIx (mOf (mLst (q00 (mRet (.str "open")) (q00 (mRet (.str "ended")) (q00 (mRet (.str "ring")) mNil))))) (q0o f_y14 2 (q00 (mRet (.int 3)) mNil))) mNil))))
 (sSeq (sSet 4 (q0o f_y14 2 (q00 (mRet (.int 8)) mNil)))
 (q2v 5 6 7 P0 lp0 lq0 (f_y13 P0) (q00 (mVar 3) (q00 (mVar 4) mNil)) (q12 f_y19 (q00 (mVar 3) (q00 (mVar 4) mNil))) (mNot (q0l (q12 f_y20 (q00 (mVar 5) (q00 (mVar 6) mNil))))) (q0l (mOp2 q4i (mSl (mVar 5) (q30 (mRet (.int 1))) (mRet none)) (mSl (mVar 6) (q30 (mRet (.int 1))) (mRet none))))
 (sIf (mNot (q0l (q12 f_y20 (q00 (q29 7 P0 lp0 lq0 (f_y13 P0) (q00 (mVar 3) (q00 (mVar 4) mNil))) (q00 (mVar 6) mNil)))))
   (sRet (mRet (.bl false)))
   sNil))))) [some A,some (.int c),v2,v3,v4,v5,v6,some (.tab P0 lp0 lq0)]=some (.nx [some A,some (.int c),w2,w3,w4,w5,w6,some (.tab P0 lp0 lq0)]):=by
 obtain⟨y,a0⟩:=l0 A (.tab P0 lp0 lq0) c v2 v3 v4 v5 v6 (by decide)
 have d0:=q5l y (m:=3) (by decide)
 have d3:=q5m y (m:=3) (by decide)
 obtain⟨e,hx,he⟩:∃e:Str,atI [D.str "open",D.str "ended",D.str "ring"] (drK y 3)=some (.str e)/\(e="open"∨e="ended"∨e="ring"):=by
   rcases(by omega:drK y 3=0∨drK y 3=1∨drK y 3=2)with q|q|q
   · rw[q];exact⟨_,rfl,.inl rfl⟩
   · rw[q];exact⟨_,rfl,.inr (.inl rfl)⟩
   · rw[q];exact⟨_,rfl,.inr (.inr rfl)⟩
 obtain⟨r,taps,rows,s',hs,ok⟩:=q7l (nxK y) e he
 have a1:=l1 A (.int c) (.tab P0 lp0 lq0) (schD r taps rows e) y s' _ _ v3 v4 v5 v6 (by decide) rfl hx hs
 have a2:=l2 A (.int c) (schD r taps rows e) (.tab P0 lp0 lq0) s' v4 v5 v6
 have k0:=q5l s' (m:=8) (by decide)
 have k7:=q5m s' (m:=8) (by decide)
 obtain⟨k,hk⟩:∃k:Nat,drK s' 8=(k:Int):=⟨(drK s' 8).toNat,by omega⟩
 rw[hk]at a2 k7
 have a3:=qkg (P0:=P0) ok A (.int c) (.lst [.int (nxK s')]) k (by omega) v5 v6
 exact⟨_,_,_,_,_,(q3o a0).trans<|(q3o a1).trans<|(q3o a2).trans a3⟩
theorem qgv(A T:D)(X:List D)(w1 w2 w3 w4 w5 w6:Option D)(FI:RhL)(FB:RhO)(hI:FI [some A,none,none,none,none,none,none,some T]=some (X,[some A,none,none,none,none,none,none,some T]))(hf:q0r (gSet 1) FB X [some A,none,none,none,none,none,none,some T]=some (.nx [some A,w1,w2,w3,w4,w5,w6,some T])):
   qb0 false 1 8 7 T (sSeq (sFor FI (gSet 1) FB) (sRet (mRet (.bl true)))) [A]=some (.bl true):=by
 walk_at "ev"
theorem qlh(A:List D)(X:List D)(v1 v2 v3 v4 v5 v6 v7:Option D)(h:dSl (.lst A) none (some 6)=some (.lst X)):(mSeq (mSl (mVar 0) (mRet none) (q30 (mRet (.int 6))))) [some (.lst A),v1,v2,v3,v4,v5,v6,v7]=some (X,[some (.lst A),v1,v2,v3,v4,v5,v6,v7]):=by
 simp[qfb,ql2,qci,qfc,qcm,inO,h,q0n,dSeq]
theorem law_true(ns:List Int)(hn:ns.length<=63):f_law P0 [.lst (ns.map D.int)]=some (.bl true):=by
 have hs:dSl (.lst (ns.map D.int)) none (some 6)=some (.lst ((ns.take 6).map D.int)):=by
   rw[qcp (by decide),List.map_take]
   rfl
 obtain⟨ρ',hf,w1,w2,w3,w4,w5,w6,rfl⟩:=qcg (fg:=gSet 1) (fb:=(sSeq (sOwn 2 (mLst (q00 (mOp2 dAdd (mOp2 q3x (mOp2 dMod (mVar 1) (mOp2 dPow (mRet (.int 10)) (mRet (.int 30)))) (mRet (.int 7368787))) (mRet (.int 1000003))) mNil)))
 (sSeq (sSet 3 (q0o f_y15 2 (q00 (mRet (.int 4)) (q00 (mOp2 dIx (mOf (mLst (q00 (mRet (.str "open")) (q00 (mRet (.str "ended")) (q00 (mRet (.str "ring")) mNil))))) (q0o f_y14 2 (q00 (mRet (.int 3)) mNil))) mNil))))
 (sSeq (sSet 4 (q0o f_y14 2 (q00 (mRet (.int 8)) mNil)))
 (q2v 5 6 7 P0 lp0 lq0 (f_y13 P0) (q00 (mVar 3) (q00 (mVar 4) mNil)) (q12 f_y19 (q00 (mVar 3) (q00 (mVar 4) mNil))) (mNot (q0l (q12 f_y20 (q00 (mVar 5) (q00 (mVar 6) mNil))))) (q0l (mOp2 q4i (mSl (mVar 5) (q30 (mRet (.int 1))) (mRet none)) (mSl (mVar 6) (q30 (mRet (.int 1))) (mRet none))))
 (sIf (mNot (q0l (q12 f_y20 (q00 (q29 7 P0 lp0 lq0 (f_y13 P0) (q00 (mVar 3) (q00 (mVar 4) mNil))) (q00 (mVar 6) mNil)))))
   (sRet (mRet (.bl false)))
   sNil))))))
   (λρ=>∃w1 w2 w3 w4 w5 w6,ρ=[some (.lst (ns.map D.int)),w1,w2,w3,w4,w5,w6,some (.tab P0 lp0 lq0)]) ((ns.take 6).map D.int) [some (.lst (ns.map D.int)),none,none,none,none,none,none,some (.tab P0 lp0 lq0)] ⟨_,_,_,_,_,_,rfl⟩ (by
     rintro x ρ hx ⟨w1,w2,w3,w4,w5,w6,rfl⟩
     obtain⟨c,_,rfl⟩:=List.mem_map.mp hx
     obtain⟨u2,u3,u4,u5,u6,ht⟩:=qdy (P0:=P0) (.lst (ns.map D.int)) c w2 w3 w4 w5 w6
     exact⟨[some (.lst (ns.map D.int)),some (.int c),w2,w3,w4,w5,w6,some (.tab P0 lp0 lq0)],_,rfl,.inl ht,_,_,_,_,_,_,rfl⟩)
 exact qgv _ _ _ _ _ _ _ _ _ _ _ (qlh _ _ _ _ _ _ _ _ _ hs) hf
end
theorem qkf{P:Program}{w:World}{K mg a base}(T:Txt K mg a):FnOk P w K mg base CX0 9 a.f_law a.fd_law ["_law_script"] (q8j K a.t_y9 lp0 lq0 63):=qgw (qjy T) law_true
local macro_rules|`(tactic|walk_at "k")=>`(tactic|as_aux_lemma=>kernel_rfl)
local macro_rules|`(tactic|walk_at "f")=>`(tactic|exact qkx (oc:=.type "function") (od:=none) (osl:=#[]) (by walk_at "k") (by walk_at "k") (by walk_at "k"))
noncomputable def ad:Ad:=⟨21,(PySem.W.fnOf "rooms_at" "rooms_at" (q0v s_y0) (q0p s_y0) (q04 s_y0) .none (.none) (.none) (.str "trellisway.schemes" 187) none (.ref 20) (.none)),28,(PySem.W.fnOf "rooms" "rooms" (q0v s_y1) (q0p s_y1) (q04 s_y1) .none (.none) (.none) (.str "trellisway.schemes" 187) none (.ref 27) (.none)),35,(PySem.W.fnOf "parity" "parity" (q0v s_y2) (q0p s_y2) (q04 s_y2) .none (.none) (.none) (.str "trellisway.schemes" 187) none (.ref 34) (.none)),40,(PySem.W.fnOf "step" "step" (q0v s_y3) (q0p s_y3) (q04 s_y3) .none (.none) (.none) (.str "trellisway.schemes" 187) none (.ref 39) (.none)),45,(PySem.W.fnOf "sent_at" "sent_at" (q0v s_y4) (q0p s_y4) (q04 s_y4) .none (.none) (.none) (.str "trellisway.schemes" 187) none (.ref 44) (.none)),50,(PySem.W.fnOf "nodes_of" "nodes_of" (q0v s_y5) (q0p s_y5) (q04 s_y5) .none (.none) (.none) (.str "trellisway.quiet" 224) none (.ref 49) (.none)),57,(PySem.W.fnOf "paces_from" "paces_from" (q0v s_y6) (q0p s_y6) (q04 s_y6) .none (.none) (.none) (.str "trellisway.quiet" 224) none (.ref 56) (.none)),64,(PySem.W.fnOf "paces_of" "paces_of" (q0v s_y7) (q0p s_y7) (q04 s_y7) .none (.none) (.none) (.str "trellisway.quiet" 224) none (.ref 63) (.none)),71,(PySem.W.fnOf "ones_by" "ones_by" (q0v s_y8) (q0p s_y8) (q04 s_y8) .none (.none) (.none) (.str "trellisway.rest" 254) none (.ref 70) (.none)),78,(PySem.W.fnOf "best_pace" "best_pace" (q0v s_y9) (q0p s_y9) (q04 s_y9) .none (.none) (.none) (.str "trellisway.rest" 254) none (.ref 77) (.none)),85,(PySem.W.fnOf "no_ones" "no_ones" (q0v qax) (q0p qax) (q04 qax) .none (.none) (.none) (.str "trellisway.rest" 254) none (.ref 84) (.none)),92,(PySem.W.fnOf "fewest_before" "fewest_before" (q0v qaw) (q0p qaw) (q04 qaw) .none (.none) (.none) (.str "trellisway.rest" 254) none (.ref 91) (.none)),99,(PySem.W.fnOf "fewest_by" "fewest_by" (q0v qav) (q0p qav) (q04 qav) .none (.none) (.none) (.str "trellisway.rest" 254) none (.ref 98) (.none)),106,(PySem.W.fnOf "fewest" "fewest" (q0v qau) (q0p qau) (q04 qau) .none (.none) (.none) (.str "trellisway.rest" 254) none (.ref 105) (.none)),113,(PySem.W.fnOf "_law_next" "_law_next" (q0v qat) (q0p qat) (q04 qat) .none (.none) (.none) (.str "law_trellisway_k32_fewest_walked" 310) none (.ref 112) (.none)),118,(PySem.W.fnOf "_law_scheme" "_law_scheme" (q0v q6g) (q0p q6g) (q04 q6g) .none (.none) (.none) (.str "law_trellisway_k32_fewest_walked" 310) none (.ref 117) (.none)),123,(PySem.W.fnOf "_law_led" "_law_led" (q0v q9o) (q0p q9o) (q04 q9o) .none (.none) (.none) (.str "law_trellisway_k32_fewest_walked" 310) none (.ref 122) (.none)),128,(PySem.W.fnOf "_law_nodes" "_law_nodes" (q0v q9n) (q0p q9n) (q04 q9n) .none (.none) (.none) (.str "law_trellisway_k32_fewest_walked" 310) none (.ref 127) (.none)),135,(PySem.W.fnOf "_law_ways" "_law_ways" (q0v qas) (q0p qas) (q04 qas) .none (.none) (.none) (.str "law_trellisway_k32_fewest_walked" 310) none (.ref 134) (.none)),140,(PySem.W.fnOf "_law_rows" "_law_rows" (q0v q9m) (q0p q9m) (q04 q9m) .none (.none) (.none) (.str "law_trellisway_k32_fewest_walked" 310) none (.ref 139) (.none)),145,(PySem.W.fnOf "_law_right" "_law_right" (q0v q9l) (q0p q9l) (q04 q9l) .none (.none) (.none) (.str "law_trellisway_k32_fewest_walked" 310) none (.ref 144) (.none)),152,(PySem.W.fnOf "law" "law" (q0v qay) (q0p qay) (q04 qay) .none (.none) (.none) (.str "law_trellisway_k32_fewest_walked" 310) none (.ref 151) (.none)),73,77⟩
theorem txt{P:Params}{h:Heap}{mg:Str->Option Value}{fa:Addr}(X:(H32.KH P).In h)(G:h.Ns mainGlobals mg)(hfa:mg "law"=some (.ref fa)):∃a:Ad,Txt (H32.KH P) mg a/\a.f_law=fa/\a.t_y9=73/\∀(s:Shared) (v:Value),BindsTo s a.fd_law ⟨[v],[]⟩ [("_law_script",v)]:=by
 have e0:152=fa:=Value.ref.inj (jb ((PySem.W.mg_of X G (show PySem.W.nsIn (H32.KH P) mainGlobals "law"=some (some (.ref 152))from by walk_at "k")).symm.trans hfa))
 subst e0
 have g {x:Str} {v:Value} (h:PySem.W.nsIn (H32.KH P) mainGlobals x=some (some v)):mg x=some v:=PySem.W.mg_of X G h
 refine⟨ad,⟨(by walk_at "f"),.all λus hl=>match us,hl with|[_],_=>rfl,g ?_,?_,(by walk_at "f"),.all λus hl=>match us,hl with|[_],_=>rfl,g ?_,?_,(by walk_at "f"),.all λus hl=>match us,hl with|[_],_=>rfl,g ?_,?_,(by walk_at "f"),.all λus hl=>match us,hl with|[_,_,_],_=>rfl,g ?_,?_,(by walk_at "f"),.all λus hl=>match us,hl with|[_,_,_],_=>rfl,g ?_,?_,(by walk_at "f"),.all λus hl=>match us,hl with|[_],_=>rfl,g ?_,?_,(by walk_at "f"),.all λus hl=>match us,hl with|[_,_],_=>rfl,g ?_,?_,(by walk_at "f"),.all λus hl=>match us,hl with|[_],_=>rfl,g ?_,?_,(by walk_at "f"),.all λus hl=>match us,hl with|[_,_],_=>rfl,g ?_,?_,(by walk_at "f"),.all λus hl=>match us,hl with|[_,_],_=>rfl,g ?_,?_,(by walk_at "f"),.all λus hl=>match us,hl with|[_],_=>rfl,g ?_,?_,(by walk_at "f"),.all λus hl=>match us,hl with|[_,_],_=>rfl,g ?_,?_,(by walk_at "f"),.all λus hl=>match us,hl with|[_,_],_=>rfl,g ?_,?_,(by walk_at "f"),.all λus hl=>match us,hl with|[_,_],_=>rfl,g ?_,?_,(by walk_at "f"),.all λus hl=>match us,hl with|[_,_],_=>rfl,g ?_,?_,(by walk_at "f"),.all λus hl=>match us,hl with|[_,_,_],_=>rfl,g ?_,?_,(by walk_at "f"),.all λus hl=>match us,hl with|[_,_,_,_],_=>rfl,g ?_,?_,(by walk_at "f"),.all λus hl=>match us,hl with|[_],_=>rfl,g ?_,?_,(by walk_at "f"),.all λus hl=>match us,hl with|[_,_],_=>rfl,g ?_,?_,(by walk_at "f"),.all λus hl=>match us,hl with|[_,_],_=>rfl,g ?_,?_,(by walk_at "f"),.all λus hl=>match us,hl with|[_,_],_=>rfl,g ?_,?_,(by walk_at "f"),.all λus hl=>match us,hl with|[_],_=>rfl,g ?_,?_,rfl,(show∀h:Heap,(H32.KH P).In h->PySem.W.CodeHd h 77 73 from q7c (o:=H32.cO "best_pace" 264 "best_pace" 265 266 44 2 3 72 181 73 74 75 76 270 44 271) ?_ rfl rfl rfl rfl rfl rfl rfl rfl (by decide)),(show∀h:Heap,(H32.KH P).In h->h.BuiltinsAt mg 73 from q69 (bm:=4) (g ?_) ?_ (by decide) (by decide) (by decide)),PySem.W.mg_none_of X G ?_,PySem.W.mg_none_of X G ?_,PySem.W.mg_none_of X G ?_,PySem.W.mg_none_of X G ?_,PySem.W.mg_none_of X G ?_,PySem.W.mg_none_of X G ?_,PySem.W.mg_none_of X G ?_,PySem.W.mg_none_of X G ?_,PySem.W.mg_none_of X G ?_,PySem.W.mg_none_of X G ?_,PySem.W.mg_none_of X G ?_,PySem.W.mg_none_of X G ?_,q16 (by decide+kernel) ?_ (by decide+kernel),q4o,q16 (by decide+kernel) ?_ (by decide+kernel),q16 (by decide+kernel) ?_ (by decide+kernel),q16 (by decide+kernel) ?_ (by decide+kernel),q16 (by decide+kernel) ?_ (by decide+kernel),q16 (by decide+kernel) ?_ (by decide+kernel),q16 (by decide+kernel) ?_ (by decide+kernel),q16 (by decide+kernel) ?_ (by decide+kernel),q16 (by decide+kernel) ?_ (by decide+kernel),q16 (by decide+kernel) ?_ (by decide+kernel),q16 (by decide+kernel) ?_ (by decide+kernel),q16 (by decide+kernel) ?_ (by decide+kernel),q4o,q16 (by decide+kernel) ?_ (by decide+kernel),q16 (by decide+kernel) ?_ (by decide+kernel),q4o,q16 (by decide+kernel) ?_ (by decide+kernel),q16 (by decide+kernel) ?_ (by decide+kernel),q16 (by decide+kernel) ?_ (by decide+kernel),q16 (by decide+kernel) ?_ (by decide+kernel),q16 (by decide+kernel) ?_ (by decide+kernel),q16 (by decide+kernel) ?_ (by decide+kernel),q16 (by decide+kernel) ?_ (by decide+kernel),q16 (by decide+kernel) ?_ (by decide+kernel),q4o,q16 (by decide+kernel) ?_ (by decide+kernel),q16 (by decide+kernel) ?_ (by decide+kernel)⟩,rfl,rfl,λs v=>.of_eq rfl⟩<;>walk_at "k"
theorem two_of{P:Params}{h:Heap}(Y:(H32.KHP P).In h):(H32.KH P).In h/\h.get? 73=some {cls:=.none,data:=.fields #[]}:=⟨λa o e=>Y a o (by
 show(H32.KH P++_).lookup a=_
 rw[List.lookup_append,e]
 rfl),Y _ _ (show(H32.KHP P).lookup 73=some ⟨.none,none,.fields #[],#[]⟩from by walk_at "k")⟩
theorem no_table:∀P,(H32.KH P).lookup 73=none:=λP=>by walk_at "k"
theorem head_at:∀P (h:Heap),(H32.KH P).In h->PySem.W.CodeHd h 77 73:=λP=>q7c (o:=H32.cO "best_pace" 264 "best_pace" 265 266 44 2 3 72 181 73 74 75 76 270 44 271) (by walk_at "k") rfl rfl rfl rfl rfl rfl rfl rfl (by decide)
theorem walk{l:PySem.W.OpenLaw}{q:Program}{loose:List Str}{XP:(Str->Option Value)->Heap->Prop}{YP:World->Heap->Prop}{d:DefRec}{K:Params->PySem.W.Frag}{P0 c:Addr}(hn:l.most=some 63)(hdf:d.params.defaults=[])(hd:d.name="law")
   (hY:∀(w:World) (h:Heap),YP w h->(K w.params).In h/\h.get? P0=some {cls:=.none,data:=.fields #[]}) (hKP:∀P,(K P).lookup P0=none) (hcd:∀P (h:Heap),(K P).In h->PySem.W.CodeHd h c P0)
   (F:∀(w:World) (mg:Str->Option Value) (fa:Addr) (h:Heap),(K w.params).In h->h.Ns mainGlobals mg->mg "law"=some (.ref fa)->∃a:Ad,Txt (K w.params) mg a/\a.f_law=fa/\a.t_y9=P0/\∀(s:Shared) (v:Value),BindsTo s a.fd_law ⟨[v],[]⟩ [("_law_script",v)]):
   PySem.W.WalkO q loose XP YP l.row.toRowW d [] (λf vs=>PySem.call f vs):=
 L2.walk_ofL (n:=63) (k:=9) (x:="_law_script") (lp:=lp0) (qn:=lq0) hn (by decide) hdf ⟨rfl,by decide,by decide⟩ hY hKP hcd
   (λw mg fa h KX G hm=>by
     rw[hd]at hm
     obtain⟨a,T,e,e2,b⟩:=F w mg fa h KX G hm
     subst e e2
     exact⟨a.fd_law,b,λbase _ _=>qkf T⟩)
end K32
open PySem PySem.W PyProof.Rows
set_option maxRecDepth 100000 in
set_option maxHeartbeats 0 in
theorem PySem.Challenge.cw_trellisway_k32_fewest_walked_holds : PySem.Challenge.rw_trellisway_k32_fewest_walked.Holds := by
 w_on;o_law
 refine holds_open (r:=PySem.Challenge.rw_trellisway_k32_fewest_walked.row) (q:=H32.V) (loose:=[]) (Xt:=(λs=>xlAt H32.V [] s&&recOk (RowW.records (OpenRow.toRowW PySem.Challenge.rw_trellisway_k32_fewest_walked.row)) s)) (XP:=XL H32.V []) (Yf:=Hook.obs (kHook H32.KHP H32.KA H32.ka_eq)) (Ya:=Hook.val (kHook H32.KHP H32.KA H32.ka_eq)) (YP:=Hook.says (kHook H32.KHP H32.KA H32.ka_eq)) (N:=1494) H32.leftR (Hook.of (kHook H32.KHP H32.KA H32.ka_eq)) (Hook.keeps (kHook H32.KHP H32.KA H32.ka_eq)) (λs e=>xl_of s (Bool.and_eq_true_iff.mp e).1) XL.keeps (by rfl) (by rfl) (by rfl) (λs e=>recFacts_of (Bool.and_eq_true_iff.mp e).2) (by rfl) (by first|assumption|decide+kernel) (by decide+kernel) ⟨rfl,rfl,rfl,rfl,rfl,by decide+kernel⟩ ?hw ?hc
 case hw=>w_witness2
 case hc=>exact K32.walk (l:=PySem.Challenge.rw_trellisway_k32_fewest_walked) rfl rfl rfl (λw h Y=>K32.two_of (PySem.W.kIn_of Y)) K32.no_table K32.head_at λw mg fa h KX G hmg=>K32.txt KX G hmg
