import PyProof.Rows.All
import Wide.All
import OpenK.AllK
import Wide.FinOn
import Lean
import KE.KTryMore
import KE.KSortTup
import KE.KSetInts
import KE.KRevIter
import KE.KMinKey
import KE.KLam
import KE.KIntText
import PyProof.EqAt
import PyProof.EqKinds
import PyProof.TupleCall
import PySem.Challenge.RW_trellisway_k31_quiet_or_ranked
set_option Elab.async false
set_option linter.all false
set_option maxRecDepth 100000
set_option maxHeartbeats 4000000
noncomputable section
namespace H31
open PySem PySem.W
def q50(tb:String->Option Builtin)(p:Program)(w:World)(n₀:Nat)(ann:Option Value):Nat->SharedT->Thread->Option SharedT
 |0,_,_=>none
 | n+1,s,t=>match through t with
   |true=>some s
   | false=>match stepOk n₀ ann t with
     |false=>none
     | true=>match stepT (denote tb) p w s t with
       |some (s',t')=>q50 tb p w n₀ ann n s' t'
       |none=>none
theorem q5s{tb:String->Option Builtin}{p:Program}{w:World}{n₀:Nat}{ann:Option Value}:∀{n:Nat} {s s':SharedT} {t:Thread},q50 tb p w n₀ ann n s t=some s'->topRun tb p w n₀ ann n s.abs t=some s'.abs
 |0,_,_,_,h=>by cases h
 | n+1,s,s',t,h=>by
   unfold q50 at h
   unfold topRun
   split at h
   · rename_i q
     rw[q]
     cases h
     rfl
   · rename_i q
     rw[q]
     split at h
     · cases h
     · rename_i q2
       dsimp only
       rw[q2]
       split at h
       · rename_i s1 t1 q3
         dsimp only
         rw[stepT_spec q3]
         exact q5s h
       · cases h
def qi1:List Obj->Nat->BT->BT
 |[],_,t=>t
 |o::r,n,t=>qi1 r (n+1) (t.ins n o)
def qle(P:Params)(os:OsState):SharedT:=⟨qi1 (boot_heap P).objs.toList 0 .nil,(boot_heap P).objs.size,(boot_heap P).life,Array.mk [],boot_drawn,boot_toks,os⟩
theorem qer(P:Params)(os:OsState):(qle P os).abs=⟨boot_heap P,Array.mk [],boot_drawn,boot_toks,os⟩:=by kernel_rfl
theorem qdn{p q:Program}{loose:List Str}{Xt:Shared->Bool}{α:Type}{Yf:Shared->α}{Ya:World->α}{N m₀:Nat}{ann:Option Value}(e:opening p=plainProg p.main.scope.names)(hN:Nat.ble 600 N=true)(f:∀s,fenceModules? p s=some s)
   (size:∀P:Params,((boot_heap P).isNs mainGlobals,(boot_heap P).objs.size,(boot_heap P).nsMap mainGlobals "__annotations__")=(true,m₀,ann))
   (run:∀(w:World) (os:OsState),(q50 treeTable p w m₀ ann N (qle w.params os) (topStub p)).map (λs=>(staticsOk (importedModules p.main.body) (boot_heap w.params) s.abs.heap&&namesBound p s.abs.heap&&gensDone s.abs&&laidKept (boot_heap w.params) s.abs.heap,
       openSeen q loose (importedModules p.main.body) Xt true s.abs,Yf s.abs))=some (true,openGood q loose,Ya w)):LeftO p q loose Xt Yf Ya N:=λw=>by
 obtain⟨⟨h,gs,d,k,os⟩,e,e'⟩:=Option.map_eq_some_iff.mp (boot_open e hN f w)
 obtain⟨rfl,rfl,rfl,rfl⟩:h=boot_heap w.params/\gs=Array.mk []/\d=boot_drawn/\k=boot_toks:=by simpa using e'
 obtain⟨z1,z2,z3⟩:_/\_/\_:=by simpa only[Prod.mk.injEq]using size w.params
 obtain⟨s,r,l⟩:=Option.map_eq_some_iff.mp (run w os)
 obtain⟨l1,l2,l3⟩:_/\_/\_:=by simpa only[Prod.mk.injEq]using l
 have r:=q5s r
 rw[qer]at r
 have t:topFrom treeTable p w N ⟨boot_heap w.params,Array.mk [],boot_drawn,boot_toks,os⟩=some s.abs:=by
   unfold topFrom
   dsimp only
   rw[z1,z2,z3,r]
   show(match staticsOk (importedModules p.main.body) (boot_heap w.params) s.abs.heap&&namesBound p s.abs.heap&&gensDone s.abs&&laidKept (boot_heap w.params) s.abs.heap with|true=>_|false=>_)=_
   rw[l1]
 unfold openEnds
 rw[e]
 show(topFrom treeTable p w N _).map _=_
 rw[t]
 exact congrArg some (Prod.ext l2 l3)
def tp(i:Nat):Stmt:=PySem.Challenge.pw_trellisway_k31_quiet_or_ranked.main.body.getD i (.Pass ⟨0,0,0,0⟩)
def dA(s:Stmt):Arguments:=match s with
 |.FunctionDef _ a _ _ _ _ _ _ _ _=>a
 |_=>{posonlyargs:=[],args:=[],vararg:=none,kwonlyargs:=[],kw_defaults:=[],kwarg:=none,defaults:=[]}
def dB(s:Stmt):List Stmt:=match s with
 |.FunctionDef _ _ b _ _ _ _ _ _ _=>b
 |_=>[]
def dS(s:Stmt):Scope:=match s with
 |.FunctionDef _ _ _ _ _ _ sc _ _ _=>sc
 |_=>{kind:=.function,names:=[],isGenerator:=false,isCoroutine:=false}
def V:Program:={PySem.Challenge.pw_trellisway_k31_quiet_or_ranked with main:={PySem.Challenge.pw_trellisway_k31_quiet_or_ranked.main with body:=[tp 1,tp 2,tp 3,tp 4,tp 5,tp 7,tp 8,tp 9,tp 10,tp 11,tp 12,tp 13,tp 14,tp 15,tp 16,tp 18,tp 19,tp 20,tp 21,tp 22,tp 23,tp 24,tp 25,tp 26]}}
def eS(P:Params)(x:Str)(t:Nat)(v:Value):DictEntry:=⟨PyData.keyHash P x,.str x t,v⟩
def fO(x:Str)(s:Stmt)(pm:Value)(cd:Nat):Obj:=⟨.type "function",none,.func (W.fnOf x x (dA s) (dB s) (dS s) .none .none .none pm none (.ref cd) .none),#[]⟩
def cO(x:Str)(t:Nat)(y:Str)(u a2 a3 a4 a7 a8 a10 a11 a13 a14 a15 a16 a17 a18:Nat):Obj:=⟨.type "code",none,.fields #[.str x t,.str y u,.str "/claim/cut.py" a2,.int a3 0,.int a4 0,.int 0 0,.int 0 0,.int a7 0,.ref a8,.bool true,.int a10 0,.ref a11,.none,.ref a13,.ref a14,.ref a15,.int a16 0,.int a17 0,.str "/claim/cut.py" a18],#[]⟩
def KH(P:Params):W.Frag:=[(3,⟨.type "dict",none,.dict #[eS P "__name__" 165 (.str "law_trellisway_k31_quiet_or_ranked" 299),eS P "__doc__" 166 (.none),eS P "__package__" 167 (.none),eS P "__loader__" 168 (.builtin "__main__.__loader__#opaque"),eS P "__spec__" 169 (.none),eS P "__annotations__" 170 (.ref 6),eS P "__builtins__" 171 (.ref 4),eS P "__file__" 173 (.str "/claim/cut.py" 172),eS P "__cached__" 174 (.none),eS P "rooms_at" 195 (.ref 21),eS P "rooms" 202 (.ref 28),eS P "parity" 211 (.ref 35),eS P "step" 217 (.ref 40),eS P "sent_at" 223 (.ref 45),eS P "nodes_of" 231 (.ref 50),eS P "paces_from" 244 (.ref 57),eS P "paces_of" 253 (.ref 64),eS P "quiet_leads" 259 (.ref 69),eS P "all_ranked" 265 (.ref 74),eS P "ready_nodes" 271 (.ref 79),eS P "ranks_by" 277 (.ref 84),eS P "ranks" 286 (.ref 91),eS P "ring_from" 292 (.ref 96),eS P "quiet" 298 (.ref 101),eS P "_law_next" 308 (.ref 108),eS P "_law_scheme" 314 (.ref 113),eS P "_law_led" 320 (.ref 118),eS P "_law_nodes" 326 (.ref 123),eS P "_law_ways" 338 (.ref 130),eS P "_law_quiet" 344 (.ref 135),eS P "_law_ring" 353 (.ref 142),eS P "_law_ranked" 359 (.ref 147),eS P "law" 371 (.ref 154)] 33,#[]⟩),
 (20,cO "rooms_at" 189 "rooms_at" 190 191 2 1 3 15 181 16 17 18 19 193 2 194),
 (21,fO "rooms_at" (tp 1) (.str "trellisway.schemes" 187) 20),
 (27,cO "rooms" 196 "rooms" 197 198 4 1 3 22 181 23 24 25 26 200 4 201),
 (28,fO "rooms" (tp 2) (.str "trellisway.schemes" 187) 27),
 (34,cO "parity" 203 "parity" 204 205 6 1 3 29 181 30 31 32 33 209 6 210),
 (35,fO "parity" (tp 3) (.str "trellisway.schemes" 187) 34),
 (39,⟨.type "code",none,.fields #[.str "step" 212,.str "step" 213,.str "/claim/cut.py" 214,.int 13 0,.int 3 0,.int 0 0,.int 0 0,.int 3 0,.ref 36,.bool true,.int 181 0,.ref 37,.none,.none,.none,.ref 38,.int 215 0,.int 13 0,.str "/claim/cut.py" 216],#[]⟩),
 (40,fO "step" (tp 4) (.str "trellisway.schemes" 187) 39),
 (44,⟨.type "code",none,.fields #[.str "sent_at" 218,.str "sent_at" 219,.str "/claim/cut.py" 220,.int 17 0,.int 3 0,.int 0 0,.int 0 0,.int 3 0,.ref 41,.bool true,.int 181 0,.ref 42,.none,.none,.none,.ref 43,.int 221 0,.int 17 0,.str "/claim/cut.py" 222],#[]⟩),
 (45,fO "sent_at" (tp 5) (.str "trellisway.schemes" 187) 44),
 (49,⟨.type "code",none,.fields #[.str "nodes_of" 226,.str "nodes_of" 227,.str "/claim/cut.py" 228,.int 22 0,.int 1 0,.int 0 0,.int 0 0,.int 3 0,.ref 46,.bool true,.int 181 0,.ref 47,.none,.none,.none,.ref 48,.int 229 0,.int 22 0,.str "/claim/cut.py" 230],#[]⟩),
 (50,fO "nodes_of" (tp 7) (.str "trellisway.quiet" 224) 49),
 (56,cO "paces_from" 232 "paces_from" 233 234 27 2 3 51 181 52 53 54 55 242 27 243),
 (57,fO "paces_from" (tp 8) (.str "trellisway.quiet" 224) 56),
 (63,cO "paces_of" 245 "paces_of" 246 247 36 1 3 58 181 59 60 61 62 251 36 252),
 (64,fO "paces_of" (tp 9) (.str "trellisway.quiet" 224) 63),
 (68,⟨.type "code",none,.fields #[.str "quiet_leads" 254,.str "quiet_leads" 255,.str "/claim/cut.py" 256,.int 41 0,.int 1 0,.int 0 0,.int 0 0,.int 3 0,.ref 65,.bool true,.int 181 0,.ref 66,.none,.none,.none,.ref 67,.int 257 0,.int 41 0,.str "/claim/cut.py" 258],#[]⟩),
 (69,fO "quiet_leads" (tp 10) (.str "trellisway.quiet" 224) 68),
 (73,⟨.type "code",none,.fields #[.str "all_ranked" 260,.str "all_ranked" 261,.str "/claim/cut.py" 262,.int 46 0,.int 2 0,.int 0 0,.int 0 0,.int 3 0,.ref 70,.bool true,.int 181 0,.ref 71,.none,.none,.none,.ref 72,.int 263 0,.int 46 0,.str "/claim/cut.py" 264],#[]⟩),
 (74,fO "all_ranked" (tp 11) (.str "trellisway.quiet" 224) 73),
 (78,⟨.type "code",none,.fields #[.str "ready_nodes" 266,.str "ready_nodes" 267,.str "/claim/cut.py" 268,.int 48 0,.int 2 0,.int 0 0,.int 0 0,.int 3 0,.ref 75,.bool true,.int 181 0,.ref 76,.none,.none,.none,.ref 77,.int 269 0,.int 48 0,.str "/claim/cut.py" 270],#[]⟩),
 (79,fO "ready_nodes" (tp 12) (.str "trellisway.quiet" 224) 78),
 (83,⟨.type "code",none,.fields #[.str "ranks_by" 272,.str "ranks_by" 273,.str "/claim/cut.py" 274,.int 51 0,.int 1 0,.int 0 0,.int 0 0,.int 3 0,.ref 80,.bool true,.int 181 0,.ref 81,.none,.none,.none,.ref 82,.int 275 0,.int 51 0,.str "/claim/cut.py" 276],#[]⟩),
 (84,fO "ranks_by" (tp 13) (.str "trellisway.quiet" 224) 83),
 (90,cO "ranks" 278 "ranks" 279 280 59 1 3 85 181 86 87 88 89 284 59 285),
 (91,fO "ranks" (tp 14) (.str "trellisway.quiet" 224) 90),
 (95,⟨.type "code",none,.fields #[.str "ring_from" 287,.str "ring_from" 288,.str "/claim/cut.py" 289,.int 63 0,.int 3 0,.int 0 0,.int 0 0,.int 3 0,.ref 92,.bool true,.int 181 0,.ref 93,.none,.none,.none,.ref 94,.int 290 0,.int 63 0,.str "/claim/cut.py" 291],#[]⟩),
 (96,fO "ring_from" (tp 15) (.str "trellisway.quiet" 224) 95),
 (100,⟨.type "code",none,.fields #[.str "quiet" 293,.str "quiet" 294,.str "/claim/cut.py" 295,.int 70 0,.int 1 0,.int 0 0,.int 0 0,.int 3 0,.ref 97,.bool true,.int 181 0,.ref 98,.none,.none,.none,.ref 99,.int 296 0,.int 70 0,.str "/claim/cut.py" 297],#[]⟩),
 (101,fO "quiet" (tp 16) (.str "trellisway.quiet" 224) 100),
 (107,cO "_law_next" 301 "_law_next" 302 303 76 2 3 102 181 103 104 105 106 306 76 307),
 (108,fO "_law_next" (tp 18) (.str "law_trellisway_k31_quiet_or_ranked" 299) 107),
 (112,⟨.type "code",none,.fields #[.str "_law_scheme" 309,.str "_law_scheme" 310,.str "/claim/cut.py" 311,.int 79 0,.int 3 0,.int 0 0,.int 0 0,.int 3 0,.ref 109,.bool true,.int 181 0,.ref 110,.none,.none,.none,.ref 111,.int 312 0,.int 79 0,.str "/claim/cut.py" 313],#[]⟩),
 (113,fO "_law_scheme" (tp 19) (.str "law_trellisway_k31_quiet_or_ranked" 299) 112),
 (117,⟨.type "code",none,.fields #[.str "_law_led" 315,.str "_law_led" 316,.str "/claim/cut.py" 317,.int 90 0,.int 4 0,.int 0 0,.int 0 0,.int 3 0,.ref 114,.bool true,.int 181 0,.ref 115,.none,.none,.none,.ref 116,.int 318 0,.int 90 0,.str "/claim/cut.py" 319],#[]⟩),
 (118,fO "_law_led" (tp 20) (.str "law_trellisway_k31_quiet_or_ranked" 299) 117),
 (122,⟨.type "code",none,.fields #[.str "_law_nodes" 321,.str "_law_nodes" 322,.str "/claim/cut.py" 323,.int 97 0,.int 1 0,.int 0 0,.int 0 0,.int 3 0,.ref 119,.bool true,.int 181 0,.ref 120,.none,.none,.none,.ref 121,.int 324 0,.int 97 0,.str "/claim/cut.py" 325],#[]⟩),
 (123,fO "_law_nodes" (tp 21) (.str "law_trellisway_k31_quiet_or_ranked" 299) 122),
 (129,cO "_law_ways" 327 "_law_ways" 328 329 102 2 3 124 181 125 126 127 128 336 102 337),
 (130,fO "_law_ways" (tp 22) (.str "law_trellisway_k31_quiet_or_ranked" 299) 129),
 (134,⟨.type "code",none,.fields #[.str "_law_quiet" 339,.str "_law_quiet" 340,.str "/claim/cut.py" 341,.int 109 0,.int 2 0,.int 0 0,.int 0 0,.int 3 0,.ref 131,.bool true,.int 181 0,.ref 132,.none,.none,.none,.ref 133,.int 342 0,.int 109 0,.str "/claim/cut.py" 343],#[]⟩),
 (135,fO "_law_quiet" (tp 23) (.str "law_trellisway_k31_quiet_or_ranked" 299) 134),
 (141,cO "_law_ring" 345 "_law_ring" 346 347 111 2 3 136 181 137 138 139 140 351 111 352),
 (142,fO "_law_ring" (tp 24) (.str "law_trellisway_k31_quiet_or_ranked" 299) 141),
 (146,⟨.type "code",none,.fields #[.str "_law_ranked" 354,.str "_law_ranked" 355,.str "/claim/cut.py" 356,.int 118 0,.int 2 0,.int 0 0,.int 0 0,.int 3 0,.ref 143,.bool true,.int 181 0,.ref 144,.none,.none,.none,.ref 145,.int 357 0,.int 118 0,.str "/claim/cut.py" 358],#[]⟩),
 (147,fO "_law_ranked" (tp 25) (.str "law_trellisway_k31_quiet_or_ranked" 299) 146),
 (153,cO "law" 360 "law" 361 362 127 1 3 148 181 149 150 151 152 369 127 370),
 (154,fO "law" (tp 26) (.str "law_trellisway_k31_quiet_or_ranked" 299) 153)]
def KA:List Addr:=[3,20,21,27,28,34,35,39,40,44,45,49,50,56,57,63,64,68,69,73,74,78,79,83,84,90,91,95,96,100,101,107,108,112,113,117,118,122,123,129,130,134,135,141,142,146,147,153,154]
theorem ka_eq:∀P,KA=(KH P).map (·.1):=λ_=>rfl
theorem run(w:World)(os:OsState):(q50 treeTable PySem.Challenge.pw_trellisway_k31_quiet_or_ranked w 11 (some (.ref 6)) 1538 (qle w.params os) (topStub PySem.Challenge.pw_trellisway_k31_quiet_or_ranked)).map (λs=>(staticsOk (importedModules PySem.Challenge.pw_trellisway_k31_quiet_or_ranked.main.body) (boot_heap w.params) s.abs.heap&&namesBound PySem.Challenge.pw_trellisway_k31_quiet_or_ranked s.abs.heap&&gensDone s.abs&&laidKept (boot_heap w.params) s.abs.heap,
       openSeen V [] (importedModules PySem.Challenge.pw_trellisway_k31_quiet_or_ranked.main.body) (λs=>xlAt V [] s&&recOk (RowW.records (OpenRow.toRowW PySem.Challenge.rw_trellisway_k31_quiet_or_ranked.row)) s) true s.abs,Hook.obs (kHook KH KA ka_eq) s.abs))=some (true,openGood V [],Hook.val (kHook KH KA ka_eq) w):=by kernel_rfl
theorem left:LeftO PySem.Challenge.pw_trellisway_k31_quiet_or_ranked V [] (λs=>xlAt V [] s&&recOk (RowW.records (OpenRow.toRowW PySem.Challenge.rw_trellisway_k31_quiet_or_ranked.row)) s) (Hook.obs (kHook KH KA ka_eq)) (Hook.val (kHook KH KA ka_eq)) 1538:=qdn (by kernel_rfl) (by kernel_rfl) (λs=>by kernel_rfl) (λP=>by kernel_rfl) run
theorem qj8:(OpenRow.toRowW PySem.Challenge.rw_trellisway_k31_quiet_or_ranked.row).prog=PySem.Challenge.pw_trellisway_k31_quiet_or_ranked:=by kernel_rfl
theorem leftR:LeftO (OpenRow.toRowW PySem.Challenge.rw_trellisway_k31_quiet_or_ranked.row).prog V [] (λs=>xlAt V [] s&&recOk (RowW.records (OpenRow.toRowW PySem.Challenge.rw_trellisway_k31_quiet_or_ranked.row)) s) (Hook.obs (kHook KH KA ka_eq)) (Hook.val (kHook KH KA ka_eq)) 1538:=by
 rw[qj8]
 exact left
end H31
abbrev j7:=@PySem.wpAny_bind
abbrev j8:=@PySem.wpAny_pure
abbrev j9:=@PyProof.Rows.wpS_bind
abbrev ja:=@List.length_map
abbrev jb:=@PyProof.Rows.wpS_pure
abbrev jc:=@Nat.le_refl
abbrev jd:=@PySem.Heap.lt_size
abbrev je:=@PySem.Heap.get?_push_of_some
abbrev jf:=@List.getElem?_eq_getElem
abbrev jg:=@List.mem_cons_self
abbrev jh:=@Option.some.inj
abbrev ji:=@List.map_cons
abbrev jj:=@Nat.ne_of_lt
abbrev jk:=@List.mem_cons_of_mem
abbrev jm:=@List.getElem?_set_ne
abbrev jo:=@List.length_cons
abbrev jq:=@PySem.Heap.get?_push_size
abbrev jr:=@List.length_append
abbrev jt:=@Nat.lt_of_lt_of_le
abbrev ju:=@List.map_map
abbrev jv:=@List.getD_eq_getElem?_getD
abbrev jw:=@List.size_toArray
abbrev jx:=@PyProof.Rows.wpS_mono
abbrev jy:=@Nat.le_trans
abbrev jz:=@List.getElem?_map
abbrev x5:=@PySem.wpAny_holding
abbrev x6:=@List.getElem?_set_self
abbrev x8:=@PySem.wpAny_field
abbrev x9:=@PySem.wpAny_mono
abbrev xc:=@List.mem_append_right
abbrev xf:=@PySem.wpAny_newObj_type
abbrev xg:=@List.length_set
abbrev xh:=@PyProof.Rows.wpS_forRange
abbrev xj:=@PySem.wpAny_call_entry
abbrev xk:=@PySem.wpAny_of_eq
abbrev xl:=@PySem.PassesOwn.never
abbrev xm:=@Nat.lt_irrefl
abbrev xn:=@PySem.Heap.SameBut.update
abbrev xo:=@PySem.wpAny_rule
abbrev xq:=@List.map_append
abbrev xr:=@List.getElem?_append_right
abbrev xu:=@PySem.wpAny_seqItems
abbrev xw:=@List.getElem?_eq_none
abbrev xx:=@List.getElem?_append_left
abbrev xy:=@PySem.Heap.get?_update_other
abbrev k7:=@PySem.wpAny_setField_rec
abbrev k8:=@PySem.wpAny_callSpecial?_slot
abbrev k9:=@Nat.zero_add
abbrev ka:=@PySem.wpAny_ite_false
abbrev kc:=@List.length_replicate
abbrev ke:=@PySem.Heap.get?_update_self
abbrev kf:=@PySem.Heap.size_push
abbrev kg:=@PySem.codeAny_builtin
abbrev kh:=@Int.toNat_natCast
abbrev ki:=@PySem.wpAny_passesOwn
abbrev kj:=@PySem.wpAny_Call_Name_kw
abbrev kl:=@PySem.wpAny_attempt
abbrev km:=@PySem.wpAny_isInstance
abbrev ko:=@PySem.Around.under_plainId
abbrev kr:=@PySem.F.plain_max_loop
abbrev ku:=@PySem.plainId_quiet
abbrev v9:=@PySem.wpAny_pyIter_list
abbrev va:=@List.mem_of_getElem?
abbrev vc:=@List.length_drop
abbrev vd:=@PySem.wpAny_dictEntries
abbrev ve:=@PySem.wpAny_dictEpoch
abbrev vf:=@List.drop_eq_getElem_cons
abbrev vg:=@List.getElem?_replicate
abbrev vh:=@PySem.F.slot_tuple_iterator_next
abbrev vk:=@PySem.F.slot_dict_keyiterator_next
abbrev vm:=@PySem.wpAny_typeNameOfWhole_keyiter
abbrev vo:=@PySem.F.slot_dict_itemiterator_next
abbrev vp:=@PySem.wpAny_typeNameOfWhole_itemiter
namespace L2
open PySem PySem.Spec PyProof.Rows
abbrev Key:=Sum Int Str
def qb8:Key->Value->Bool
 |.inl k,v=>Value.isInt k v
 |.inr x,v=>Value.isStrOf x v
def keyH(w:World):Key->Int
 |.inl k=>hashInt k
 |.inr x=>hashStr w x
theorem q1b:∀{k:Key} {v:Value},qb8 k v=true->(∃i t,k=Sum.inl i/\v=Value.int i t)∨(∃x t,k=Sum.inr x/\v=Value.str x t)
 | .inl i,v,h=>by
   obtain⟨t,e⟩:=Value.isInt_shape (k:=i) (v:=v) h
   exact .inl ⟨i,t,rfl,e⟩
 | .inr x,v,h=>by
   obtain⟨t,e⟩:=Value.isStrOf_shape (x:=x) (v:=v) h
   exact .inr ⟨x,t,rfl,e⟩
theorem qds(i:Int)(t:Tok):qb8 (.inl i) (.int i t)=true:=by simp[qb8,Value.isInt]
theorem qdr(x:Str)(t:Tok):qb8 (.inr x) (.str x t)=true:=by simp[qb8,Value.isStrOf]
theorem qoc(a b:Int):decide ((Sum.inl a:Key)=Sum.inl b)=(a==b):=by
 by_cases e:a=b
 · subst e;simp
 · have h:¬(Sum.inl a:Key)=Sum.inl b:=λq=>e (Sum.inl.inj q)
   rw[decide_eq_false h]
   exact(beq_eq_false_iff_ne.mpr e).symm
theorem qo9(a b:Str):decide ((Sum.inr a:Key)=Sum.inr b)=decide (a=b):=by
 by_cases e:a=b
 · subst e;simp
 · have h:¬(Sum.inr a:Key)=Sum.inr b:=λq=>e (Sum.inr.inj q)
   rw[decide_eq_false h,decide_eq_false e]
theorem qob(a:Int)(b:Str):decide ((Sum.inl a:Key)=Sum.inr b)=false:=decide_eq_false (λq=>nomatch q)
theorem qoa(a:Str)(b:Int):decide ((Sum.inr a:Key)=Sum.inl b)=false:=decide_eq_false (λq=>nomatch q)
def q26(prog:Program)(w:World):PySem.KeyKind prog w Key where
 is:=qb8
 hash:=keyH w
 inj:=λv a b ha hb=>by
   rcases q1b ha with⟨i,t,rfl,rfl⟩|⟨x,t,rfl,rfl⟩
   · rcases q1b hb with⟨j,u,rfl,e⟩|⟨y,u,rfl,e⟩
     · injection e with e1 _;rw[e1]
     · exact nomatch e
   · rcases q1b hb with⟨j,u,rfl,e⟩|⟨y,u,rfl,e⟩
     · exact nomatch e
     · injection e with e1 _;rw[e1]
 byValue:=λk v h=>by
   rcases q1b h with⟨i,t,rfl,rfl⟩|⟨x,t,rfl,rfl⟩<;>rfl
 pyHash:=λhv h=>by
   rcases q1b hv with⟨i,t,rfl,rfl⟩|⟨x,t,rfl,rfl⟩
   · exact wpAny_pyHash_int h
   · exact wpAny_pyHash_str h
 eqBool:=λhu hv h=>by
   rcases q1b hu with⟨i,t,rfl,rfl⟩|⟨x,t,rfl,rfl⟩
   · rcases q1b hv with⟨j,u,rfl,rfl⟩|⟨y,u,rfl,rfl⟩
     · rw[qoc]at h;exact wpAny_eqBool_int h
     · rw[qob]at h;exact SeqAt.EqAt.int_str i t y u _ _ _ _ h
   · rcases q1b hv with⟨j,u,rfl,rfl⟩|⟨y,u,rfl,rfl⟩
     · rw[qoa]at h;exact SeqAt.EqAt.str_int x t j u _ _ _ _ h
     · rw[qo9]at h;exact wpAny_eqBool_str h
 «strs»:=λk x t v h=>by
   rcases q1b h with⟨i,u,rfl,e⟩|⟨y,u,rfl,e⟩
   · exact nomatch e
   · injection e with e1 _
     subst e1
     cases v<;>rfl
theorem q8z(prog:Program)(w:World)(i:Int)(t:Tok):(q26 prog w).is (.inl i) (.int i t)=true:=qds i t
theorem q8y(prog:Program)(w:World)(x:Str)(t:Tok):(q26 prog w).is (.inr x) (.str x t)=true:=qdr x t
inductive V where
 |non|bl (b:Bool)|int (i:Int)|str (x:Str)|byt (b:Array UInt8)|flt (b:UInt64)|ref (a:Addr)|ty (n:String)
 deriving DecidableEq
def RelV:V->Value->Prop
 |.non,u=>u=Value.none
 |.bl b,u=>u=Value.bool b
 |.int i,u=>∃t,u=Value.int i t
 |.str x,u=>∃t,u=Value.str x t
 |.byt b,u=>∃t,u=Value.bytes b t
 |.flt b,u=>∃t,u=Value.float b t
 |.ref a,u=>u=Value.ref a
 |.ty n,u=>u=Value.type n
abbrev Vals:List V->List Value->Prop:=Paired RelV
theorem Vals.length{xs:List V}{us:List Value}(r:Vals xs us):xs.length=us.length:=Paired.length r
theorem Vals.get:∀{xs:List V} {us:List Value} {i:Nat} {x:V},Vals xs us->xs[i]? =some x->∃u,us[i]? =some u/\RelV x u
 |_,_,_,_,.nil,e=>by simp at e
 |_,_,0,_,.cons r _,e=>by simp at e;subst e;exact⟨_,rfl,r⟩
 | _,_,i+1,x,.cons _ t,e=>by
   obtain⟨u,h1,h2⟩:=Vals.get (i:=i) (x:=x) t (by simpa using e)
   exact⟨u,by simpa using h1,h2⟩
theorem Vals.set{x:V}{u:Value}(r:RelV x u):∀{xs:List V} {us:List Value} (i:Nat),Vals xs us->Vals (xs.set i x) (us.set i u)
 |_,_,_,.nil=>.nil
 |_,_,0,.cons _ t=>.cons r t
 |_,_,i+1,.cons q t=>.cons q (Vals.set r i t)
theorem Vals.append:∀{xs ys:List V} {us ws:List Value},Vals xs us->Vals ys ws->Vals (xs++ys) (us++ws)
 |_,_,_,_,.nil,s=>s
 |_,_,_,_,.cons r t,s=>.cons r (Vals.append t s)
theorem Vals.take:∀{xs:List V} {us:List Value} (n:Nat),Vals xs us->Vals (xs.take n) (us.take n)
 |_,_,0,_=>.nil
 |_,_,_+1,.nil=>.nil
 |_,_,n+1,.cons r t=>.cons r (Vals.take n t)
theorem Vals.drop:∀{xs:List V} {us:List Value} (n:Nat),Vals xs us->Vals (xs.drop n) (us.drop n)
 |_,_,0,r=>r
 |_,_,_+1,.nil=>.nil
 |_,_,n+1,.cons _ t=>Vals.drop n t
def RelO:Option V->Option Value->Prop
 |some v,some u=>RelV v u
 |none,none=>True
 |_,_=>False
def KV{κ:Type}:List (κ×V)->List (κ×Value)->Prop:=Paired λ(p:κ×V) (q:κ×Value)=>p.1=q.1/\RelV p.2 q.2
def kV:Key->V
 |.inl i=>.int i
 |.inr x=>.str x
inductive HO where
 |lst (xs:List V)
 |tup (xs:List V)
 |dK (kvs:List (Key×V))|dT (kvs:List (List Key×V))
 |set (S:Int->Bool) (n:Nat)
 |ins (C dx:Addr) (fs:List (Str×V))
 |own (x:Addr)
 |xd (fs:List (Str×V))
 |met (f x:Addr)
 |rng (lo hi:Int)
 |frz (o:Obj) (u:HO)
 |tbl (ps:Array Value)
 |lam (pos:Pos) (q:Str)
 |ext (φ:Heap->Prop)
abbrev Hp:=Addr->Option HO
def upd(H:Hp)(a:Addr)(o:HO):Hp:=λb=>if b=a then some o else H b
theorem q0h{H:Hp}{a:Addr}{o:HO}:upd H a o a=some o:=by unfold upd;rw[if_pos rfl]
theorem q0d{H:Hp}{a b:Addr}{o:HO}(h:b≠a):upd H a o b=H b:=by unfold upd;rw[if_neg h]
theorem qqc{H:Hp}{a b:Addr}{o u:HO}(h:H a=some o)(h':H b=some u)(d:o≠u):a≠b:=by
 intro e;subst e;rw[h]at h';exact d (jh h')
theorem q0m{H:Hp}{a b:Addr}{o:HO}(h:H a=some o)(h':H b=none):a≠b:=by
 intro e;subst e;rw[h]at h';cases h'
def TupN(h:Heap)(a:Addr)(items:Array Value):Prop:=∃o,h.get? a=some o/\(o.cls=.type "tuple"/\∃n,o.data=.seq items n)/\o.dict=none
theorem TupN.tup{h:Heap}{a:Addr}{items:Array Value}(x:TupN h a items):IsTup h a items:=let ⟨o,e,c,_⟩:=x;⟨o,e,c⟩
theorem TupN.lt{h:Heap}{a:Addr}{items:Array Value}(x:TupN h a items):a<h.objs.size:=let ⟨_,e,_⟩:=x;jd e
theorem TupN.new(h:Heap)(items:Array Value):TupN (h.push {cls:=.type "tuple",data:=.seq items}) h.objs.size items:=⟨_,jq _ rfl,⟨rfl,_,rfl⟩,rfl⟩
def DictN{P:Program}{w:World}{κ:Type}[DecidableEq κ](knd:KeyKind P w κ)(h:Heap)(a:Addr)(kvs:List (κ×Value))(n:Nat):Prop:=∃o es,h.get? a=some o/\o.ExactDict/\o.data=.dict es n/\KeysOf knd es/\Pairs knd es.toList kvs/\(kvs.map (·.1)).Nodup
theorem DictN.of{P:Program}{w:World}{κ:Type}[DecidableEq κ]{knd:KeyKind P w κ}{h:Heap}{a:Addr}{kvs:List (κ×Value)}{n:Nat}(x:DictN knd h a kvs n):h.DictOf knd a kvs:=let ⟨o,es,r⟩:=x;⟨o,es,n,r⟩
section
variable(P:Program)(w:World)
def ObjOk(H:Hp)(h:Heap)(a:Addr):HO->Prop
 |.lst xs=>xs.length<=sizeLine/\∃(its:List Value) (n:Nat),Vals xs its/\h.get? a=some {cls:=.type "list",data:=.seq its.toArray n}
 |.tup xs=>xs.length<=sizeLine/\∃its:List Value,Vals xs its/\TupN h a its.toArray
 |.dK kvs=>kvs.length<=sizeLine/\(a==sysModules)=false/\∃vs,KV kvs vs/\DictN (q26 P w) h a vs kvs.length
 |.dT kvs=>kvs.length<=sizeLine/\(a==sysModules)=false/\∃xs:List (List Key×Addr×Value),
     Paired (λ(p:List Key×V) (q:List Key×Addr×Value)=>p.1=q.1/\H q.2.1=some (.tup (p.1.map kV))/\RelV p.2 q.2.2) kvs xs/\
     ∃o es ep,h.get? a=some o/\o.ExactDict/\o.data=.dict es ep/\es.toList=xs.map (entryOfKey (tupleKind (q26 P w)))/\(xs.map (·.1)).Nodup/\ep=kvs.length
 |.set S n=>h.SetOf (intKind P w) a S n
 |.ins C dx fs=>H dx=some (.own a)/\fs.length<=1000/\dx≠a/\h.get? a=some (PySem.W.instObj C dx)/\
     ∃mA,h.Ns1 dx mA/\(∀f,RelO (fs.lookup f) (mA f))/\PySem.Within mA (fs.map (·.1))
 |.own _=>∃o,h.get? a=some o
 |.xd fs=>∃mA,h.Ns1 a mA/\∀f,RelO (fs.lookup f) (mA f)
 |.rng lo hi=>∃t u v,h.get? a=some {cls:=.type "range",data:=.fields #[.int lo t,.int hi u,.int 1 v]}
 |.frz o u=>h.get? a=some o/\ObjOk H h a u
 |.tbl ps=>h.get? a=some {cls:=.none,data:=.fields ps}
 |.lam pos q=>∃ps:Array Value,h.get? a=some {cls:=.none,data:=.fields ps}/\TriplesOk ps.toList/\(codeAmong pos ps.toList=none∨∃c',codeAmong pos ps.toList=some (.ref c')/\H c'=some (.own a)/\h.CodeRec (.ref c') q)
 |.met f x=>h.get? a=some (PySem.W.methodObj (.ref f) (.ref x))
 |.ext φ=>φ h/\(∃o,h.get? a=some o)/\∀h1 h2:Heap,φ h1->(∀o,h1.get? a=some o->h2.get? a=some o)->φ h2
def HOk(H:Hp)(h:Heap):Prop:=∀a o,H a=some o->ObjOk P w H h a o
end
section
variable{P:Program}{w:World}{H H':Hp}{h h':Heap}{a:Addr}{o:HO}
theorem ObjOk.lt(x:ObjOk P w H h a o):a<h.objs.size:=by
 cases o with
 |lst xs=>obtain⟨_,_,_,_,e⟩:=x;exact jd e
 |tup xs=>obtain⟨_,_,_,p⟩:=x;exact p.lt
 |dK kvs=>obtain⟨_,_,_,_,o,_,e,_⟩:=x;exact jd e
 |dT kvs=>obtain⟨_,_,_,_,o,_,_,e,_⟩:=x;exact jd e
 |set S n=>obtain⟨o,_,_,_,e,_⟩:=x;exact jd e
 |ins C dx fs=>obtain⟨_,_,_,e,_⟩:=x;exact jd e
 |own y=>obtain⟨_,e⟩:=x;exact jd e
 |xd fs=>obtain⟨_,⟨_,_,_,e,_⟩,_⟩:=x;exact jd e
 |rng lo hi=>obtain⟨_,_,_,e⟩:=x;exact jd e
 |frz ob u=>obtain⟨e,_⟩:=x;exact jd e
 |tbl ps=>exact jd (show h.get? a=some _ from x)
 |lam pos q=>obtain⟨_,e,_⟩:=x;exact jd e
 |met f y=>exact jd (show h.get? a=some _ from x)
 |ext φ=>obtain⟨_,⟨_,e⟩,_⟩:=x;exact jd e
theorem Paired.mapP{α β:Type}{F G:α->β->Prop}:∀{l₁:List α} {l₂:List β},Paired F l₁ l₂->(∀a b,F a b->G a b)->Paired G l₁ l₂
 |_,_,.nil,_=>.nil
 |_,_,.cons r t,f=>.cons (f _ _ r) (Paired.mapP t f)
theorem ObjOk.stay(x:ObjOk P w H h a o)(k:∀b u,(b=a∨H b=some (.own a))->h.get? b=some u->h'.get? b=some u)
   (ho:∀b,H b=some (.own a)->H' b=some (.own a)) (ht:∀b xs,H b=some (.tup xs)->H' b=some (.tup xs)):ObjOk P w H' h' a o:=by
 induction o with
 |lst xs=>obtain⟨z,its,n,r,e⟩:=x;exact⟨z,its,n,r,k _ _ (.inl rfl) e⟩
 |tup xs=>obtain⟨z,its,r,ob,e,c⟩:=x;exact⟨z,its,r,ob,k _ _ (.inl rfl) e,c⟩
 |dK kvs=>obtain⟨z,y,vs,r,ob,es,e,c⟩:=x;exact⟨z,y,vs,r,ob,es,k _ _ (.inl rfl) e,c⟩
 | dT kvs=>
   obtain⟨z,y,xs,r,ob,es,ep,e,c⟩:=x
   exact⟨z,y,xs,Paired.mapP r λp q z=>⟨z.1,ht _ _ z.2.1,z.2.2⟩,ob,es,ep,k _ _ (.inl rfl) e,c⟩
 |set S n=>obtain⟨ob,es,ep,t,e,c⟩:=x;exact⟨ob,es,ep,t,k _ _ (.inl rfl) e,c⟩
 | ins C dx fs=>
   obtain⟨d,z,ne,e,mA,⟨od,es,ep,e2,c⟩,r⟩:=x
   exact⟨ho _ d,z,ne,k _ _ (.inl rfl) e,mA,⟨od,es,ep,k _ _ (.inr d) e2,c⟩,r⟩
 |own y=>obtain⟨ob,e⟩:=x;exact⟨ob,k _ _ (.inl rfl) e⟩
 |xd fs=>obtain⟨mA,⟨od,es,ep,e,c⟩,r⟩:=x;exact⟨mA,⟨od,es,ep,k _ _ (.inl rfl) e,c⟩,r⟩
 |rng lo hi=>obtain⟨t,u,v,e⟩:=x;exact⟨t,u,v,k _ _ (.inl rfl) e⟩
 |frz ob u ih=>obtain⟨e,q⟩:=x;exact⟨k _ _ (.inl rfl) e,ih q⟩
 | tbl ps=>
   have e:h.get? a=some {cls:=.none,data:=.fields ps}:=x
   show h'.get? a=some {cls:=.none,data:=.fields ps}
   exact k a _ (.inl rfl) e
 | lam pos q=>
   obtain⟨ps,e,t,r⟩:=x
   refine⟨ps,k _ _ (.inl rfl) e,t,?_⟩
   rcases r with r|⟨c',r1,r2,c,oc,vs,tq,hc,hoc,hd,hq⟩
   · exact .inl r
   · cases hc
     exact .inr ⟨c',r1,ho _ r2,c',oc,vs,tq,rfl,k _ _ (.inr r2) hoc,hd,hq⟩
 | met f y=>
   have e:h.get? a=some (PySem.W.methodObj (.ref f) (.ref y)):=x
   show h'.get? a=some (PySem.W.methodObj (.ref f) (.ref y))
   exact k a _ (.inl rfl) e
 |ext φ=>obtain⟨p,⟨o,e⟩,st⟩:=x;exact⟨st _ _ p λo q=>k _ _ (.inl rfl) q,⟨o,k _ _ (.inl rfl) e⟩,st⟩
theorem HOk.lt(x:HOk P w H h)(e:H a=some o):a<h.objs.size:=(x a o e).lt
theorem HOk.fresh(x:HOk P w H h)(e:h.objs.size<=a):H a=none:=by
 cases q:H a with
 |none=>rfl
 |some u=>exact absurd (jt (x.lt q) e) (xm _)
theorem HOk.kept(x:HOk P w H h)(k:∀b u,h.get? b=some u->h'.get? b=some u):HOk P w H h':=λa o e=>
 (x a o e).stay (λb u _ q=>k b u q) (λ_ q=>q) λ_ _ q=>q
theorem HOk.laid(x:HOk P w H h)(k:∀b u,h.get? b=some u->h'.get? b=some u)(hp:h.objs.size<=a)(new:ObjOk P w (upd H a o) h' a o):HOk P w (upd H a o) h':=λb u e=>by
 have hn:=x.fresh hp
 by_cases hb:b=a
 · subst hb;rw[q0h]at e;cases e;exact new
 · rw[q0d hb]at e
   exact(x b u e).stay (λc v _ q=>k c v q) (λc q=>by rw[q0d (q0m q hn)];exact q) λc xs q=>by rw[q0d (q0m q hn)];exact q
end
def Rd(H:Hp)(a:Addr)(u:HO):Prop:=H a=some u∨∃o,H a=some (.frz o u)
theorem Rd.ok{P:Program}{w:World}{H:Hp}{h:Heap}{a:Addr}{u:HO}(r:Rd H a u)(x:HOk P w H h):ObjOk P w H h a u:=by
 rcases r with r|⟨o,r⟩
 · exact x a u r
 · obtain⟨_,q⟩:=x a _ r
   exact q
def Mut:Option HO->Prop
 |some (.lst _)=>True
 |some (.dK _)=>True
 |some (.dT _)=>True
 |some (.set _ _)=>True
 |some (.ins _ _ _)=>True
 |some (.ext _)=>True
 |some (.lam _ _)=>True
 |_=>False
section
variable{P:Program}{w:World}{H:Hp}{h h':Heap}{x e:Addr}{o':HO}
theorem HOk.write(ok:HOk P w H h)(mu:Mut (H x))(he:e=x∨H e=some (.own x))(k:∀b u,b≠e->h.get? b=some u->h'.get? b=some u)(heo:∃u,h'.get? e=some u)
   (new:ObjOk P w (upd H x o') h' x o'):HOk P w (upd H x o') h':=λb u q=>by
 have nown:∀c y,H c=some (.own y)->c≠x:=λc y r z=>by subst z;rw[r]at mu;exact mu
 have ntup:∀c xs,H c=some (.tup xs)->c≠x:=λc xs r z=>by subst z;rw[r]at mu;exact mu
 by_cases hb:b=x
 · subst hb;rw[q0h]at q;cases q;exact new
 · rw[q0d hb]at q
   by_cases hbe:b=e
   · have q':H b=some (.own x):=by
       rcases he with z|z
       · exact absurd (hbe.trans z) hb
       · rw[hbe];exact z
     rw[q]at q';cases q'
     obtain⟨v,hv⟩:=heo
     exact⟨v,by rw[hbe];exact hv⟩
   · refine(ok b u q).stay (λc v hc r=>k c v ?_ r) (λc r=>by rw[q0d (nown c b r)];exact r) λc xs r=>by rw[q0d (ntup c xs r)];exact r
     rcases hc with rfl|hc
     · exact hbe
     · rintro rfl
       rcases he with z|z
       · exact nown c b hc z
       · rw[hc]at z;cases z;exact hb rfl
end
structure Un(fs ex:List Addr)(H H':Hp)(h h':Heap):Prop where
 keep:∀b o,h.get? b=some o->H b=none->b∉fs->b∉ex->h'.get? b=some o
 slot:∀b o,h.get? b=some o->H b=none->b∈fs->b∉ex->∃sl,h'.get? b=some {o with slots:=sl}
 free:∀b o,h.get? b=some o->H b=none->b∉ex->H' b=none
 there:∀b o,h.get? b=some o->b∉ex->∃o',h'.get? b=some o'
 tups:∀b xs,H b=some (.tup xs)->H' b=some (.tup xs)
 frzs:∀b o u,H b=some (.frz o u)->H' b=some (.frz o u)
 tbls:∀b ps,H b=some (.tbl ps)->∃more,H' b=some (.tbl (ps++more))
section
variable{fs fs' ex ex':List Addr}{H H1 H2:Hp}{h h1 h2 h':Heap}{a x e:Addr}{o:HO}
theorem Un.any(u:Un fs ex H H1 h h1){b:Addr}{ob:Obj}(q:h.get? b=some ob)(n:H b=none)(hx:b∉ex):∃sl,h1.get? b=some {ob with slots:=sl}:=by
 by_cases hb:b∈fs
 · exact u.slot b ob q n hb hx
 · exact⟨ob.slots,u.keep b ob q n hb hx⟩
theorem Un.trans(a:Un fs ex H H1 h h1)(b:Un fs ex H1 H2 h1 h2):Un fs ex H H2 h h2 where
 keep:=λc ob q n hc hx=>b.keep c ob (a.keep c ob q n hc hx) (a.free c ob q n hx) hc hx
 slot:=λc ob q n hc hx=>by
   obtain⟨sl,e1⟩:=a.slot c ob q n hc hx
   obtain⟨sl',e2⟩:=b.slot c _ e1 (a.free c ob q n hx) hc hx
   exact⟨sl',e2⟩
 free:=λc ob q n hx=>by
   obtain⟨o',e1⟩:=a.there c ob q hx
   exact b.free c o' e1 (a.free c ob q n hx) hx
 there:=λc ob q hx=>by
   obtain⟨o',e1⟩:=a.there c ob q hx
   exact b.there c o' e1 hx
 tups:=λc xs q=>b.tups c xs (a.tups c xs q)
 frzs:=λc ob xs q=>b.frzs c ob xs (a.frzs c ob xs q)
 tbls:=λc ps q=>by
   obtain⟨m1,e1⟩:=a.tbls c ps q
   obtain⟨m2,e2⟩:=b.tbls c _ e1
   exact⟨m1++m2,by rw[e2,Array.append_assoc]⟩
theorem Un.kept(k:∀b u,h.get? b=some u->h'.get? b=some u):Un fs ex H H h h':=
 ⟨λb ob q _ _ _=>k b ob q,λb ob q _ _ _=>⟨ob.slots,k b ob q⟩,λ_ _ _ n _=>n,λb ob q _=>⟨ob,k b ob q⟩,λ_ _ q=>q,λ_ _ _ q=>q,λ_ ps q=>⟨#[],by rw[q];simp⟩⟩
theorem Un.refl:Un fs ex H H h h:=Un.kept λ_ _ q=>q
theorem Un.laid(k:∀b u,h.get? b=some u->h'.get? b=some u)(hp:h.objs.size<=a)(hn:H a=none):Un fs ex H (upd H a o) h h' where
 keep:=λb u q _ _ _=>k b u q
 slot:=λb u q _ _ _=>⟨u.slots,k b u q⟩
 free:=λb u q n _=>by rw[q0d (jj (jt (jd q) hp))];exact n
 there:=λb u q _=>⟨u,k b u q⟩
 tups:=λb xs q=>by rw[q0d (q0m q hn)];exact q
 frzs:=λb u xs q=>by rw[q0d (q0m q hn)];exact q
 tbls:=λb ps q=>⟨#[],by rw[q0d (q0m q hn),q];simp⟩
theorem Un.write(mu:Mut (H x))(he:e=x∨H e=some (.own x))(k:∀b u,b≠e->h.get? b=some u->h'.get? b=some u)(heo:∃u,h'.get? e=some u):Un fs ex H (upd H x o) h h':=by
 have hx:∀b,H b=none->b≠x:=λb n z=>by subst z;rw[n]at mu;exact mu
 have hb:∀b,H b=none->b≠e:=λb n z=>by
   subst z
   rcases he with r|r
   · exact hx b n r
   · rw[n]at r;cases r
 have hm:∀b u,H b=some u->¬Mut (some u)->b≠x:=λb u q nm z=>by subst z;rw[q]at mu;exact nm mu
 refine⟨λb u q n _ _=>k b u (hb b n) q,λb u q n _ _=>⟨u.slots,k b u (hb b n) q⟩,λb u q n _=>by rw[q0d (hx b n)];exact n,λb u q _=>?_,
   λb xs q=>by rw[q0d (hm b _ q λz=>z)];exact q,λb u xs q=>by rw[q0d (hm b _ q λz=>z)];exact q,λb ps q=>⟨#[],by rw[q0d (hm b _ q λz=>z),q];simp⟩⟩
 by_cases hbe:b=e
 · subst hbe;exact heo
 · exact⟨u,k b u hbe q⟩
theorem Un.mono(u:Un fs ex H H1 h h1)(hs:∀b∈fs,b∈fs')(hx:∀b∈ex,b∈ex'):Un fs' ex' H H1 h h1:=
 ⟨λb ob q n hb he=>u.keep b ob q n (λz=>hb (hs b z)) λz=>he (hx b z),λ_ _ q n _ he=>u.any q n λz=>he (hx _ z),λb ob q n he=>u.free b ob q n λz=>he (hx b z),λb ob q he=>u.there b ob q λz=>he (hx b z),u.tups,u.frzs,u.tbls⟩
end
def trk(h:Heap)(H:Hp):List Addr:=(List.range h.objs.size).filter λa=>(H a).isSome
def hidT(h:Heap)(H:Hp):Heap:=PySem.W.hideAll h (trk h H)
theorem qdz(h:Heap)(H:Hp):(hidT h H).objs.size=h.objs.size:=PySem.W.hideAll_size _ _
theorem qge{h:Heap}{H:Hp}{b:Addr}{o:Obj}(e:h.get? b=some o)(n:H b=none):(hidT h H).get? b=some o:=
 PySem.W.hideAll_get _ e λhm=>by
   have q:(H b).isSome=true:=(List.mem_filter.mp hm).2
   rw[n]at q;simp at q
theorem qjs{h:Heap}{H:Hp}{b:Addr}{o:Obj}(e:(hidT h H).get? b=some o):h.get? b=some o/\H b=none:=by
 have e':h.get? b=some o:=PySem.W.of_hideAll (trk h H) e
 refine⟨e',?_⟩
 cases q:H b with
 |none=>rfl
 | some x=>
   have hm:b∈trk h H:=List.mem_filter.mpr ⟨List.mem_range.mpr (jd e'),by simp[q]⟩
   have z:(hidT h H).get? b=none:=PySem.W.hideAll_none (trk h H) hm
   rw[z]at e;cases e
structure Mod(K:PySem.W.Frag)(mg:Str->Option Value)(base:Heap):Prop where
 kin:K.In base
 glob:base.Ns mainGlobals mg
 blt:∃mb,base.Ns builtinsNs mb/\∀x:Str,x≠"__name__"->mb x=bootBuiltins x
 nolimit:base.NoLimit
structure Cx where
 prog:Program
 w:World
 K:PySem.W.Frag
 mg:Str->Option Value
 base:Heap
 A:Around
 N:List Str
 s₀:Shared
 H₀:Hp
 env:Env
 outer:List Env
 stack:List Env
 ex:List Addr
 fn:Str->Bool
 calm:Bool
 pn:List (Addr×Obj)
 xe:Value->Shared->Prop
def frs(l:List Env):List Addr:=l.filterMap (·.frame)
abbrev Cx.fs(X:Cx):List Addr:=frs X.outer
def Vis(sc:Scope)(x:Str):Prop:=sc.names.lookup x=some .local∨sc.names.lookup x=some .cell∨sc.names.lookup x=some .free
def Loc(sc:Scope)(x:Str):Prop:=sc.names.lookup x=some .local∨sc.names.lookup x=some .cell
def Look(env:Env)(h:Heap)(m:Str->Option Value)(x:Str)(u:Value):Prop:=
 (env.kindOf x=some .local/\m x=some u)∨((env.kindOf x=some .cell∨env.kindOf x=some .free)/\∃c,env.cells.lookup x=some c/\h.IsCell c (some u))
structure Cx.Ok(X:Cx):Prop where
 mod:Mod X.K X.mg X.base
 kind:X.env.scope.kind=.function
 glob:X.env.globals=mainGlobals
 blt:X.env.builtins=builtinsNs
 above:X.s₀.heap.objs.size<=X.env.locals
 inj:∀x y c,X.env.cells.lookup x=some c->X.env.cells.lookup y=some c->x=y
 has:∀x,(X.env.kindOf x=some .cell∨X.env.kindOf x=some .free)->∃c,X.env.cells.lookup x=some c
 cab:∀x c,X.fn x=true->X.env.cells.lookup x=some c->X.s₀.heap.objs.size<=c
 hd:X.calm=true->X.A.handled=none
 frames:X.A.frames=some X.stack
 stk:X.stack=X.outer∨(X.stack=X.env::X.outer/\X.env.frame=some X.env.locals)
 exf:∀b∈X.ex,b≠X.env.locals/\∀x c,X.env.cells.lookup x=some c->c≠b
 bs:∀b o,X.base.get? b=some o->X.s₀.heap.get? b=some o/\X.H₀ b=none
 bsz:X.base.objs.size<=X.s₀.heap.objs.size
 noex:∀b o,X.base.get? b=some o->b∉X.ex
 exfs:∀b∈X.ex,b∉X.fs
 funs:X.s₀.heap.FunFrames X.base X.outer
 frf:∀b∈X.fs,X.H₀ b=none
structure Inv(X:Cx)(z4:List (Addr×Obj))(σ:List (Option V))(H:Hp)(s:Shared):Prop where
 ok:X.Ok
 os:s.os=X.s₀.os
 bare:AllBare s.gens
 base:Un X.fs X.ex X.H₀ H X.s₀.heap s.heap
 loc:∃m,s.heap.Ns X.env.locals m/\∀(i:Nat) (x:Str) (v:V),X.N[i]? =some x->σ[i]? =some (some v)->Vis X.env.scope x->∃u,RelV v u/\Look X.env s.heap m x u
 cell:∀x c,X.env.cells.lookup x=some c->∃v,s.heap.IsCell c v
 free:H X.env.locals=none
 freeC:∀x c,X.env.cells.lookup x=some c->H c=none
 pin:∀p∈X.pn++z4,s.heap.get? p.1=some p.2/\H p.1=none/\p.1≠X.env.locals/\p.1∉X.fs/\∀v,p.2.data≠.cell v
 hok:HOk X.prog X.w H s.heap
 len:σ.length=X.N.length
section
variable{X:Cx}{z4:List (Addr×Obj)}{σ:List (Option V)}{H H':Hp}{s:Shared}{h':Heap}
theorem Cx.Ok.nofr(ok:X.Ok){b:Addr}{o:Obj}(e:X.base.get? b=some o):b∉X.fs:=λhb=>by
 have:=(ok.funs.mem hb).1
 rw[e]at this;cases this
theorem Inv.bs(I:Inv X z4 σ H s):∀b o,X.base.get? b=some o->s.heap.get? b=some o/\H b=none:=λb o e=>
 ⟨I.base.keep b o (I.ok.bs b o e).1 (I.ok.bs b o e).2 (I.ok.nofr e) (I.ok.noex b o e),I.base.free b o (I.ok.bs b o e).1 (I.ok.bs b o e).2 (I.ok.noex b o e)⟩
theorem Inv.bk(I:Inv X z4 σ H s):∀b o,X.base.get? b=some o->s.heap.get? b=some o:=λb o e=>(I.bs b o e).1
theorem Inv.mod(I:Inv X z4 σ H s):Mod X.K X.mg X.base:=I.ok.mod
theorem Inv.kIn(I:Inv X z4 σ H s):X.K.In s.heap:=I.ok.mod.kin.keeps I.bk
theorem Inv.fr(I:Inv X z4 σ H s):∃m,Fr X.base X.env.locals s.heap m:=
 let ⟨m,hn,_⟩:=I.loc
 ⟨m,hn,I.bk,jy I.ok.bsz I.ok.above⟩
theorem Inv.lt(I:Inv X z4 σ H s):X.env.locals<s.heap.objs.size:=let ⟨_,hn,_⟩:=I.loc;hn.lt
theorem Inv.sz(I:Inv X z4 σ H s):X.s₀.heap.objs.size<=s.heap.objs.size:=jy I.ok.above (Nat.le_of_lt I.lt)
theorem Inv.nofs(I:Inv X z4 σ H s){a:Addr}(h:s.heap.objs.size<=a):a∉X.fs:=λhb=>by
 obtain⟨_,o,ho,_⟩:=I.ok.funs.mem hb
 exact absurd (jt (jd ho) (jy I.sz h)) (xm _)
theorem Inv.cne(I:Inv X z4 σ H s):∀x c,X.env.cells.lookup x=some c->c≠X.env.locals:=λx c e z=>by
 obtain⟨v,o,ho,hd⟩:=I.cell x c e
 obtain⟨m,⟨o',es,ep,ho',hd',_⟩,_⟩:=I.loc
 rw[z,ho']at ho;cases ho;rw[hd']at hd;cases hd
theorem Inv.funs(I:Inv X z4 σ H s):s.heap.FunFrames X.base X.outer:=by
 have all:∀(l:List Env),(∀b∈frs l,b∈X.fs)->X.s₀.heap.FunFrames X.base l->s.heap.FunFrames X.base l:=by
   intro l
   induction l with
   |nil=>intro _ _;trivial
   | cons env r ih=>
     intro hs hl
     obtain⟨hk,⟨L,o,hf,hn,ho,hd⟩,hr⟩:=hl
     have hL:L∈X.fs:=hs L (by unfold frs;rw[List.filterMap_cons,hf];exact jg)
     obtain⟨sl,e⟩:=I.base.slot L o ho (I.ok.frf L hL) hL λz=>I.ok.exfs L z hL
     exact⟨hk,⟨L,_,hf,hn,e,hd⟩,ih (λb hb=>hs b (by unfold frs;rw[List.filterMap_cons,hf];exact jk _ hb)) hr⟩
 exact all X.outer (λ_ hb=>hb) I.ok.funs
theorem Inv.stack(I:Inv X z4 σ H s):s.heap.FunFrames X.base X.stack:=by
 rcases I.ok.stk with e|⟨e,hf⟩
 · rw[e];exact I.funs
 · rw[e]
   obtain⟨m,hn,_⟩:=I.loc
   refine .cons (by rw[I.ok.kind];decide) hf hn ?_ I.funs
   exact Heap.get?_none_of_le (jy I.ok.bsz I.ok.above)
theorem Inv.stkSub(I:Inv X z4 σ H s):∀b∈frs X.stack,b∈X.env.locals::X.fs:=λb hb=>by
 rcases I.ok.stk with e|⟨e,hf⟩
 · rw[e]at hb;exact jk _ hb
 · rw[e]at hb
   unfold frs at hb
   rw[List.filterMap_cons,hf]at hb
   exact hb
theorem Inv.stkFree(I:Inv X z4 σ H s):∀b∈frs X.stack,H b=none:=λb hb=>by
 rcases List.mem_cons.mp (I.stkSub b hb)with e|hb
 · rw[e];exact I.free
 · obtain⟨_,o,ho,_⟩:=I.ok.funs.mem hb
   exact I.base.free b o ho (I.ok.frf b hb) λz=>I.ok.exfs b z hb
theorem Inv.step{g':Array GenState}{t':Nat}{d':Drawn}{ch:List Addr}(I:Inv X z4 σ H s)
   (hch:∀b∈ch,(b∈X.ex∨X.s₀.heap.objs.size<=b)/\b≠X.env.locals/\(∀x c,X.env.cells.lookup x=some c->c≠b)/\∀p∈X.pn++z4,p.1≠b)
   (keep:∀b o,b≠X.env.locals->b∉X.fs->b∉ch->s.heap.get? b=some o->H b=none->h'.get? b=some o)
   (slot:∀b o,b≠X.env.locals->b∈X.fs->b∉ch->s.heap.get? b=some o->H b=none->∃sl,h'.get? b=some {o with slots:=sl}) (free:∀b o,b∉ch->s.heap.get? b=some o->H b=none->H' b=none)
   (there:∀b o,b∉ch->s.heap.get? b=some o->∃o',h'.get? b=some o')
   (tups:∀b xs,H b=some (.tup xs)->H' b=some (.tup xs)) (frzs:∀b o u,H b=some (.frz o u)->H' b=some (.frz o u)) (tbls:∀b ps,H b=some (.tbl ps)->∃more,H' b=some (.tbl (ps++more)))
   (ns:∀m,s.heap.Ns X.env.locals m->h'.Ns X.env.locals m) (hok:HOk X.prog X.w H' h') (hg:AllBare g'):
   Inv X z4 σ H' {s with heap:=h',gens:=g',drawn:=d',toks:=t'}:=by
 have neL:∀b o,X.s₀.heap.get? b=some o->b≠X.env.locals:=λb o e=>jj (jt (jd e) I.ok.above)
 have neC:∀b o,X.s₀.heap.get? b=some o->b∉X.ex->b∉ch:=λb o e hx hb=>by
   rcases(hch b hb).1 with z|z
   · exact hx z
   · exact absurd (jt (jd e) z) (xm _)
 have cellK:∀x c,X.env.cells.lookup x=some c->∀v,s.heap.IsCell c v->h'.IsCell c v:=λx c e v ⟨o,ho,hd⟩=>by
   have nch:c∉ch:=λz=>(hch c z).2.2.1 x c e rfl
   by_cases hc:c∈X.fs
   · obtain⟨sl,q⟩:=slot c o (I.cne x c e) hc nch ho (I.freeC x c e)
     exact⟨_,q,hd⟩
   · exact⟨o,keep c o (I.cne x c e) hc nch ho (I.freeC x c e),hd⟩
 refine⟨I.ok,I.os,hg,⟨λb o e n hb hx=>?_,λb o e n hb hx=>?_,λb o e n hx=>?_,λb o e hx=>?_,λb xs e=>tups b xs (I.base.tups b xs e),λb o xs e=>frzs b o xs (I.base.frzs b o xs e),λb ps e=>?_⟩,?_,λx c e=>?_,?_,λx c e=>?_,λp hp=>?_,hok,I.len⟩
 · exact keep b o (neL b o e) hb (neC b o e hx) (I.base.keep b o e n hb hx) (I.base.free b o e n hx)
 · obtain⟨sl,e1⟩:=I.base.slot b o e n hb hx
   obtain⟨sl',e2⟩:=slot b _ (neL b o e) hb (neC b o e hx) e1 (I.base.free b o e n hx)
   exact⟨sl',e2⟩
 · obtain⟨o',e1⟩:=I.base.there b o e hx
   exact free b o' (neC b o e hx) e1 (I.base.free b o e n hx)
 · obtain⟨o',e1⟩:=I.base.there b o e hx
   exact there b o' (neC b o e hx) e1
 · obtain⟨m1,e1⟩:=I.base.tbls b ps e
   obtain⟨m2,e2⟩:=tbls b _ e1
   exact⟨m1++m2,by rw[e2,Array.append_assoc]⟩
 · obtain⟨m,hn,hl⟩:=I.loc
   refine⟨m,ns m hn,λi x v e1 e2 e3=>?_⟩
   obtain⟨u,r,l⟩:=hl i x v e1 e2 e3
   refine⟨u,r,?_⟩
   rcases l with l|⟨k,c,e,z⟩
   · exact .inl l
   · exact .inr ⟨k,c,e,cellK x c e _ z⟩
 · obtain⟨v,z⟩:=I.cell x c e
   exact⟨v,cellK x c e v z⟩
 · obtain⟨m,⟨o,_,_,ho,_⟩,_⟩:=I.loc
   exact free _ o (λz=>(hch _ z).2.1 rfl) ho I.free
 · obtain⟨v,o,ho,hd⟩:=I.cell x c e
   exact free c o (λz=>(hch c z).2.2.1 x c e rfl) ho (I.freeC x c e)
 · obtain⟨e,n,ne,nf,d⟩:=I.pin p hp
   have nch:p.1∉ch:=λz=>(hch p.1 z).2.2.2 p hp rfl
   exact⟨keep p.1 p.2 ne nf nch e n,free p.1 p.2 nch e n,ne,nf,d⟩
theorem Inv.un{t':Nat}(I:Inv X z4 σ H s)(u:Un X.fs [] H H' s.heap h')(hok:HOk X.prog X.w H' h'):Inv X z4 σ H' {s with heap:=h',toks:=t'}:=by
 obtain⟨m,⟨o,es,ep,ho,r⟩,_⟩:=id I.loc
 obtain⟨sl,hL⟩:=u.any ho I.free (by simp)
 exact I.step (g':=s.gens) (d':=s.drawn) (ch:=[]) (λ_ z=>nomatch z) (λb o _ hb _ e n=>u.keep b o e n hb (by simp)) (λb o _ hb _ e n=>u.slot b o e n hb (by simp)) (λb o _ e n=>u.free b o e n (by simp)) (λb o _ e=>u.there b o e (by simp)) u.tups u.frzs u.tbls (λm' hm=>by
   obtain⟨o',es',ep',ho',r'⟩:=hm
   rw[ho]at ho';cases ho'
   exact⟨_,es',ep',hL,r'⟩) hok I.bare
theorem Inv.call{g':Array GenState}{t':Nat}{d':Drawn}{ch:List Addr}(I:Inv X z4 σ H s)(u:Un (frs X.stack) ch H H' s.heap h')(hok:HOk X.prog X.w H' h')(hg:AllBare g')
   (hch:∀b∈ch,(b∈X.ex∨X.s₀.heap.objs.size<=b)/\b≠X.env.locals/\(∀x c,X.env.cells.lookup x=some c->c≠b)/\∀p∈X.pn++z4,p.1≠b):
   Inv X z4 σ H' {s with heap:=h',gens:=g',drawn:=d',toks:=t'}:=by
 obtain⟨m,⟨o,es,ep,ho,r⟩,_⟩:=id I.loc
 obtain⟨sl,hL⟩:=u.any ho I.free λz=>(hch _ z).2.1 rfl
 exact I.step (ch:=ch) hch (λb o hL hb hc e n=>u.keep b o e n (λz=>(List.mem_cons.mp (I.stkSub b z)).elim hL hb) hc) (λb o _ _ hc e n=>u.any e n hc) (λb o hc e n=>u.free b o e n hc) (λb o hc e=>u.there b o e hc) u.tups u.frzs u.tbls (λm' hm=>by
   obtain⟨o',es',ep',ho',r'⟩:=hm
   rw[ho]at ho';cases ho'
   exact⟨_,es',ep',hL,r'⟩) hok hg
theorem Inv.turned{t':Nat}{it:Addr}(I:Inv X z4 σ H s)(k:∀b o,b≠it->s.heap.get? b=some o->h'.get? b=some o)(hn:H it=none)(hL:it≠X.env.locals)
   (h1:it∈X.ex∨X.s₀.heap.objs.size<=it) (h2:∀x c,X.env.cells.lookup x=some c->c≠it) (h3:∀p∈X.pn++z4,p.1≠it):Inv X z4 σ H {s with heap:=h',toks:=t'}:=by
 have nit:∀b u,H b=some u->b≠it:=λb u e z=>by rw[z,hn]at e;cases e
 refine I.step (g':=s.gens) (d':=s.drawn) (ch:=[it]) (λb hb=>?_) (λb o _ _ hc e _=>k b o (λz=>hc (by simp[z])) e) (λb o _ _ hc e _=>⟨o.slots,k b o (λz=>hc (by simp[z])) e⟩) (λ_ _ _ _ n=>n)
   (λb o hc e=>⟨o,k b o (λz=>hc (by simp[z])) e⟩) (λ_ _ e=>e) (λ_ _ _ e=>e) (λb ps e=>⟨#[],by rw[e];simp⟩) (λm hm=>?_) (λb u e=>?_) I.bare
 · have e:b=it:=by simpa using hb
   subst e
   exact⟨h1,hL,h2,h3⟩
 · obtain⟨o,es,ep,ho,r⟩:=hm
   exact⟨o,es,ep,k _ o (Ne.symm hL) ho,r⟩
 · refine(I.hok b u e).stay (λc v hc q=>k c v ?_ q) (λ_ q=>q) λ_ _ q=>q
   rcases hc with z|z
   · rw[z];exact nit b u e
   · exact nit c _ z
theorem Inv.tok(I:Inv X z4 σ H s)(t:Nat):Inv X z4 σ H {s with toks:=t}:=I.un (h':=s.heap) (t':=t) Un.refl I.hok
theorem Inv.kept{t':Nat}(I:Inv X z4 σ H s)(k:∀b u,s.heap.get? b=some u->h'.get? b=some u):Inv X z4 σ H {s with heap:=h',toks:=t'}:=I.un (Un.kept k) (I.hok.kept k)
theorem Inv.laid{a:Addr}{o:HO}{t':Nat}(I:Inv X z4 σ H s)(k:∀b u,s.heap.get? b=some u->h'.get? b=some u)(hp:s.heap.objs.size<=a)(new:ObjOk X.prog X.w (upd H a o) h' a o):
   Inv X z4 σ (upd H a o) {s with heap:=h',toks:=t'}:=I.un (Un.laid k hp (I.hok.fresh hp)) (I.hok.laid k hp new)
theorem Inv.write{x e:Addr}{o:HO}{t':Nat}(I:Inv X z4 σ H s)(mu:Mut (H x))(he:e=x∨H e=some (.own x))(k:∀b u,b≠e->s.heap.get? b=some u->h'.get? b=some u)(heo:∃u,h'.get? e=some u)
   (new:ObjOk X.prog X.w (upd H x o) h' x o):Inv X z4 σ (upd H x o) {s with heap:=h',toks:=t'}:=I.un (Un.write mu he k heo) (I.hok.write mu he k heo new)
theorem Inv.weak{σ':List (Option V)}(I:Inv X z4 σ H s)(hl:σ'.length=σ.length)(w:∀(i:Nat) v,σ'[i]? =some (some v)->σ[i]? =some (some v)):Inv X z4 σ' H s:=
 ⟨I.ok,I.os,I.bare,I.base,let ⟨m,hn,hl'⟩:=I.loc;⟨m,hn,λi x v e1 e2 e3=>hl' i x v e1 (w i v e2) e3⟩,I.cell,I.free,I.freeC,I.pin,I.hok,hl.trans I.len⟩
theorem Inv.pins_of{pins':List (Addr×Obj)}(I:Inv X z4 σ H s)(h:∀p∈pins',s.heap.get? p.1=some p.2/\H p.1=none/\p.1≠X.env.locals/\p.1∉X.fs/\∀v,p.2.data≠.cell v):Inv X pins' σ H s:=
 ⟨I.ok,I.os,I.bare,I.base,I.loc,I.cell,I.free,I.freeC,λp hp=>(List.mem_append.mp hp).elim (λz=>I.pin p (List.mem_append_left _ z)) (h p),I.hok,I.len⟩
theorem q9y{N:List Str}(hN:N.Nodup){i j:Nat}{x:Str}(a:N[i]? =some x)(b:N[j]? =some x):i=j:=by
 obtain⟨h1,e1⟩:=List.getElem?_eq_some_iff.mp a
 obtain⟨h2,e2⟩:=List.getElem?_eq_some_iff.mp b
 exact(List.getElem_inj hN).mp (e1.trans e2.symm)
theorem qbu{M:Model}{A:Around}{E:Value->Shared->Prop}{i:Nat}{x:Str}{v:V}{u:Value}{Q:Unit->Shared->Prop}(I:Inv X z4 σ H s)(hN:X.N.Nodup)(hi:X.N[i]? =some x)(hx:Loc X.env.scope x)(r:RelV v u)
   (h:∀s',Inv X z4 (σ.set i (some v)) H s'->(∃a,Heap.SameBut a s.heap s'.heap/\(a=X.env.locals∨X.env.cells.lookup x=some a))->Q () s') (hf:X.fn x=true∨X.env.scope.names.lookup x=some .local:=by first|exact .inl rfl|exact .inr rfl|assumption):wpAny M A (storeName X.env x u) Q E s:=by
 obtain⟨m,hn,hl⟩:=id I.loc
 have hcls:(X.env.scope.kind==.class||(X.env.scope.kind==.module&&X.env.locals !=X.env.globals))=false:=by rw[I.ok.kind];rfl
 have hiσ:i<σ.length:=by rw[I.len];exact(List.getElem?_eq_some_iff.mp hi).1
 have cne:=I.cne
 have tracked:∀{a:Addr} {h':Heap},(∃o,s.heap.get? a=some o/\H a=none)->Heap.SameBut a s.heap h'->HOk X.prog X.w H h':=λ{a h'} ha hs b ob e=>by
   obtain⟨_,_,hfree⟩:=ha
   refine(I.hok b ob e).stay (λc w' hc q=>(hs.2 c ?_).trans q) (λ_ q=>q) λ_ _ q=>q
   rintro rfl
   rcases hc with rfl|hc
   · rw[hfree]at e;cases e
   · rw[hfree]at hc;cases hc
 rcases hx with hk|hk
 · refine wpAny_storeName_local hk hn (λh' hn' hs=>?_) hcls
   obtain⟨oL,_,_,hoL,_⟩:=id hn
   refine h _ ⟨I.ok,I.os,I.bare,⟨λb o e n hb hx=>?_,λb o e n hb hx=>?_,I.base.free,λb o e hx=>?_,I.base.tups,I.base.frzs,I.base.tbls⟩,⟨_,hn',λj y v' e1 e2 e3=>?_⟩,λy c e=>?_,I.free,I.freeC,λp hp=>?_,tracked ⟨oL,hoL,I.free⟩ hs,by simpa using I.len⟩ ⟨_,hs,.inl rfl⟩
   · exact(hs.2 b (jj (jt (jd e) I.ok.above))).trans (I.base.keep b o e n hb hx)
   · obtain⟨sl,e1⟩:=I.base.slot b o e n hb hx
     exact⟨sl,(hs.2 b (jj (jt (jd e) I.ok.above))).trans e1⟩
   · obtain⟨o',e1⟩:=I.base.there b o e hx
     exact⟨o',(hs.2 b (jj (jt (jd e) I.ok.above))).trans e1⟩
   · by_cases hj:j=i
     · subst hj
       rw[hi]at e1;cases e1
       rw[x6 hiσ]at e2
       cases e2
       exact⟨u,r,.inl ⟨hk,by simp⟩⟩
     · rw[jm (Ne.symm hj)]at e2
       obtain⟨u',r',q⟩:=hl j y v' e1 e2 e3
       refine⟨u',r',?_⟩
       rcases q with⟨k,e⟩|⟨k,c,e,z⟩
       · refine .inl ⟨k,?_⟩
         have:y≠x:=λe=>hj (q9y hN e1 (e▸hi))
         simp[this,e]
       · exact .inr ⟨k,c,e,z.sameBut hs (cne y c e)⟩
   · obtain⟨w',z⟩:=I.cell y c e
     exact⟨w',z.sameBut hs (cne y c e)⟩
   · obtain⟨e,n,ne,nf,d⟩:=I.pin p hp
     exact⟨(hs.2 p.1 ne).trans e,n,ne,nf,d⟩
 · have hfn:X.fn x=true:=by
     rcases hf with z|z
     · exact z
     · rw[z]at hk;cases hk
   obtain⟨c,hc⟩:=I.ok.has x (.inl hk)
   obtain⟨w',z⟩:=I.cell x c hc
   refine wpAny_storeName_cell I.ok.kind hk hc z (λh' hc' hs=>?_)
   obtain⟨oc,hoc,hocd⟩:=id z
   refine h {s with heap:=h'} ⟨I.ok,I.os,I.bare,⟨λb o e n hb hx=>?_,λb o e n hb hx=>?_,I.base.free,λb o e hx=>?_,I.base.tups,I.base.frzs,I.base.tbls⟩,⟨m,hn.sameBut hs (Ne.symm (cne x c hc)),λj y v' e1 e2 e3=>?_⟩,λy c' e=>?_,I.free,I.freeC,λp hp=>?_,tracked ⟨oc,hoc,I.freeC x c hc⟩ hs,by simpa using I.len⟩ ⟨c,hs,.inr hc⟩
   · exact(hs.2 b (jj (jt (jd e) (I.ok.cab x c hfn hc)))).trans (I.base.keep b o e n hb hx)
   · obtain⟨sl,e1⟩:=I.base.slot b o e n hb hx
     exact⟨sl,(hs.2 b (jj (jt (jd e) (I.ok.cab x c hfn hc)))).trans e1⟩
   · obtain⟨o',e1⟩:=I.base.there b o e hx
     exact⟨o',(hs.2 b (jj (jt (jd e) (I.ok.cab x c hfn hc)))).trans e1⟩
   · by_cases hj:j=i
     · subst hj
       rw[hi]at e1;cases e1
       rw[x6 hiσ]at e2
       cases e2
       exact⟨u,r,.inr ⟨.inl hk,c,hc,hc'⟩⟩
     · rw[jm (Ne.symm hj)]at e2
       obtain⟨u',r',q⟩:=hl j y v' e1 e2 e3
       refine⟨u',r',?_⟩
       rcases q with q|⟨k,c',e,z'⟩
       · exact .inl q
       · refine .inr ⟨k,c',e,z'.sameBut hs ?_⟩
         rintro rfl
         exact hj (q9y hN e1 (I.ok.inj _ _ _ e hc▸hi))
   · by_cases hcc:c'=c
     · subst hcc;exact⟨_,hc'⟩
     · obtain⟨w2,z2⟩:=I.cell y c' e
       exact⟨w2,z2.sameBut hs hcc⟩
   · obtain⟨e,n,ne,nf,d⟩:=I.pin p hp
     refine⟨(hs.2 p.1 ?_).trans e,n,ne,nf,d⟩
     intro q
     rw[q,hoc]at e
     have q':oc=p.2:=jh e
     exact d w' (by rw[<-q'];exact hocd)
theorem q4s{M:Model}{A:Around}{E:Value->Shared->Prop}{i:Nat}{x:Str}{v:V}{u:Value}{Q:Unit->Shared->Prop}(I:Inv X z4 σ H s)(hN:X.N.Nodup)(hi:X.N[i]? =some x)(hx:Loc X.env.scope x)(r:RelV v u)
   (h:∀s',Inv X z4 (σ.set i (some v)) H s'->Q () s') (hf:X.fn x=true∨X.env.scope.names.lookup x=some .local:=by first|exact .inl rfl|exact .inr rfl|assumption):wpAny M A (storeName X.env x u) Q E s:=
 qbu I hN hi hx r (λs' I' _=>h s' I') hf
theorem Inv.call'{s':Shared}{ch:List Addr}(I:Inv X z4 σ H s)(ho:s'.os=s.os)(u:Un (frs X.stack) ch H H' s.heap s'.heap)(hok:HOk X.prog X.w H' s'.heap)(hg:AllBare s'.gens)
   (hch:∀b∈ch,(b∈X.ex∨X.s₀.heap.objs.size<=b)/\b≠X.env.locals/\(∀x c,X.env.cells.lookup x=some c->c≠b)/\∀p∈X.pn++z4,p.1≠b):Inv X z4 σ H' s':=by
 obtain⟨h',g',d',t',o'⟩:=s'
 have e:o'=s.os:=ho
 subst e
 exact I.call (g':=g') (t':=t') (d':=d') u hok hg hch
end
abbrev XK:=Value->Option Addr->Hp->Prop
abbrev St:=List (Option V)
abbrev VK:=V->Hp->Prop
abbrev TE:=St->Hp->VK->Prop
abbrev TT:=St->Hp->(Bool->Hp->Prop)->Prop
abbrev TA:=St->Hp->(List V->Hp->Prop)->Prop
structure Ends where
 nx:St->Hp->Prop
 rt:VK
 bk:St->Hp->Prop:=λ_ _=>False
 ct:St->Hp->Prop:=λ_ _=>False
abbrev TS:=Ends->St->Hp->Prop
def EP(X:Cx)(z4:List (Addr×Obj))(σ:St)(Q:VK)(u:Value)(s':Shared):Prop:=∃v H',Inv X z4 σ H' s'/\RelV v u/\Q v H'
def TP(X:Cx)(z4:List (Addr×Obj))(σ:St)(Q:Bool->Hp->Prop)(b:Bool)(s':Shared):Prop:=∃H',Inv X z4 σ H' s'/\Q b H'
def AP(X:Cx)(z4:List (Addr×Obj))(σ:St)(Q:List V->Hp->Prop)(us:List Value)(s':Shared):Prop:=∃vs H',Inv X z4 σ H' s'/\Vals vs us/\Q vs H'
def SP(X:Cx)(z4:List (Addr×Obj))(D:Ends)(f:Flow)(s':Shared):Prop:=
 match f with
 |.next=>∃σ' H',Inv X z4 σ' H' s'/\D.nx σ' H'
 |.brk=>∃σ' H',Inv X z4 σ' H' s'/\D.bk σ' H'
 |.cont=>∃σ' H',Inv X z4 σ' H' s'/\D.ct σ' H'
 |.ret u=>∃v σ' H',Inv X z4 σ' H' s'/\RelV v u/\D.rt v H'
def PE(X:Cx)(e:Expr)(t:TE):Prop:=
 ∀(z4:List (Addr×Obj)) (s:Shared) (σ:St) (H:Hp) (Q:VK),Inv X z4 σ H s->t σ H Q->wpAny (model X.prog X.w) X.A (eval e X.env) (EP X z4 σ Q) X.xe s
def PT(X:Cx)(e:Expr)(t:TT):Prop:=
 ∀(z4:List (Addr×Obj)) (s:Shared) (σ:St) (H:Hp) (Q:Bool->Hp->Prop),Inv X z4 σ H s->t σ H Q->wpAny (model X.prog X.w) X.A (isTrue e X.env (eval e X.env)) (TP X z4 σ Q) X.xe s
def PW(X:Cx)(e:Expr)(t:TT):Prop:=
 ∀(whole:Sem Value) (z4:List (Addr×Obj)) (s:Shared) (σ:St) (H:Hp) (Q:Bool->Hp->Prop),Inv X z4 σ H s->t σ H Q->wpAny (model X.prog X.w) X.A (isTrue e X.env whole) (TP X z4 σ Q) X.xe s
theorem PW.pt{X:Cx}{e:Expr}{t:TT}(h:PW X e t):PT X e t:=h _
def PA(X:Cx)(es:List Expr)(t:TA):Prop:=
 ∀(pos:Pos) (z4:List (Addr×Obj)) (s:Shared) (σ:St) (H:Hp) (Q:List V->Hp->Prop),Inv X z4 σ H s->t σ H Q->wpAny (model X.prog X.w) X.A (spliced (backTo pos (starEach es X.env))) (AP X z4 σ Q) X.xe s
def PS(X:Cx)(st:Stmt)(t:TS):Prop:=
 ∀(z4:List (Addr×Obj)) (s:Shared) (σ:St) (H:Hp) (D:Ends),Inv X z4 σ H s->t D σ H->wpAny (model X.prog X.w) X.A (exec st X.env) (SP X z4 D) X.xe s
def PSs(X:Cx)(st:List Stmt)(t:TS):Prop:=
 ∀(z4:List (Addr×Obj)) (s:Shared) (σ:St) (H:Hp) (D:Ends),Inv X z4 σ H s->t D σ H->wpAny (model X.prog X.w) X.A (execs st X.env) (SP X z4 D) X.xe s
theorem thn{α:Type}{t:Sem α}{Q Q':α->Shared->Prop}{M:Model}{A:Around}{E:Value->Shared->Prop}{s:Shared}(h:wpAny M A t Q E s)(hQ:∀a s,Q a s->Q' a s):wpAny M A t Q' E s:=x9 h hQ λ_ _ x=>x
section
variable{X:Cx}
def tVar(i:Nat):TE:=λσ H Q=>∃v,σ[i]? =some (some v)/\Q v H
def tC(v:V):TE:=λ_ H Q=>Q v H
theorem qn2{i:Nat}{x:Str}{pos:Pos}(hN:X.N[i]? =some x)(hv:Vis X.env.scope x)(hd:(x==("__debug__":Str))=false:=by decide)(hcd:(x==("__classdict__":Str))=false:=by decide):PE X (.Name x pos) (tVar i):=by
 intro z4 s σ H Q I h
 obtain⟨v,e,h⟩:=h
 obtain⟨m,hn,hl⟩:=I.loc
 obtain⟨u,r,l⟩:=hl i x v hN e hv
 have fin:EP X z4 σ Q u s:=⟨v,H,I,r,h⟩
 rcases l with⟨hk,hm⟩|⟨hk,c,hc,hcell⟩
 · exact wpAny_Name (wpAny_loadName_local I.ok.kind hk hn hm fin) hd
 · rcases hk with hk|hk
   · exact wpAny_Name (wpAny_loadName_cell I.ok.kind hk hc hcell fin) hd
   · exact wpAny_Name (wpAny_loadName_free I.ok.kind hk hc hcell fin hcd) hd
theorem q07{i j pos}:PE X (.Constant (.int i) j pos) (tC (.int i)):=λ_ _ _ H _ I h=>wpAny_Constant_int ⟨.int i,H,I.tok _,⟨_,rfl⟩,h⟩
theorem q59{b j pos}:PE X (.Constant (.bool b) j pos) (tC (.bl b)):=λ_ _ _ H _ I h=>Constant_bool ⟨.bl b,H,I,rfl,h⟩
theorem q7k{j pos}:PE X (.Constant .none j pos) (tC .non):=λ_ _ _ H _ I h=>Constant_none ⟨.non,H,I,rfl,h⟩
theorem qct{x j pos}:PE X (.Constant (.str x) j pos) (tC (.str x)):=λ_ _ _ H _ I h=>Calls.Constant_str ⟨.str x,H,I.tok _,⟨_,rfl⟩,h⟩
def Gl(X:Cx)(x:Str):Prop:=X.env.kindOf x=some .globalImplicit
theorem qk8{E:Value->Shared->Prop}{z4:List (Addr×Obj)}{s:Shared}{σ:St}{H:Hp}{x:Str}{u:Value}{pos:Pos}{Q:Value->Shared->Prop}(I:Inv X z4 σ H s)(hg:Gl X x)(hm:X.mg x=some u)(h:Q u s)
   (hd:(x==("__debug__":Str))=false:=by decide):wpAny (model X.prog X.w) X.A (eval (.Name x pos) X.env) Q E s:=
 Calls.Name_function_global I.ok.kind hg (Calls.loadGlobal_global (by rw[I.ok.glob];exact I.mod.glob.keeps I.bk) hm h) hd
theorem q42{E:Value->Shared->Prop}{z4:List (Addr×Obj)}{s:Shared}{σ:St}{H:Hp}{x:Str}{u:Value}{pos:Pos}{Q:Value->Shared->Prop}(I:Inv X z4 σ H s)(hg:Gl X x)(hm:X.mg x=none)(hv:bootBuiltins x=some u)(h:Q u s)
   (hn:x≠"__name__":=by decide) (hd:(x==("__debug__":Str))=false:=by decide):wpAny (model X.prog X.w) X.A (eval (.Name x pos) X.env) Q E s:=by
 obtain⟨mb,h1,h2⟩:=I.mod.blt
 exact Calls.Name_function_global I.ok.kind hg (Calls.loadGlobal_builtin (by rw[I.ok.glob];exact I.mod.glob.keeps I.bk) hm (by rw[I.ok.blt];exact h1.keeps I.bk) ((h2 x hn).trans hv) h) hd
theorem q6g{x:Str}{v:V}{u:Value}{pos:Pos}(hg:Gl X x)(hm:X.mg x=none)(hv:bootBuiltins x=some u)(r:RelV v u)(hn:x≠"__name__":=by decide)(hd:(x==("__debug__":Str))=false:=by decide):PE X (.Name x pos) (tC v):=
 λ_ _ _ H _ I h=>q42 I hg hm hv ⟨v,H,I,r,h⟩ hn hd
variable{a b:Expr}{ta tb:TE}{pos:Pos}
def tB(t:TE):TT:=λσ H Q=>t σ H λx H1=>∃c,x=.bl c/\Q c H1
theorem q3g{e:Expr}{t:TE}(h:PE X e t)(he:∀whole,isTrue e X.env whole=(do let v <-whole;standAt e.pos;holding [v] (truthy v)):=by intro _;rfl):PT X e (tB t):=by
 intro z4 s σ H Q I hw
 refine isTrue_plain (thn (h z4 s σ H _ I hw) λv s1 ⟨x,H1,I1,r1,q1⟩=>?_) (he _)
 obtain⟨d,rfl,q⟩:=q1
 cases r1
 exact wpAny_truthy_bool ⟨H1,I1,q⟩
variable{tA tB':TT}{zk:List Expr}
def tOr(t u:TT):TT:=λσ H Q=>t σ H λc H1=>if c=true then Q true H1 else u σ H1 Q
def tNot(t:TT):TT:=λσ H Q=>t σ H λc H1=>Q (!c) H1
theorem pw_or1(ha:PT X a tA):PW X (.BoolOp .Or [a] pos) tA:=by
 intro wh z4 s σ H Q I h
 refine isTrue_or (thn (ha z4 s σ H Q I h) λc s1 e=>?_)
 cases c with
 |false=>exact isTrue_or_nil e
 |true=>exact e
theorem pw_or(ha:PT X a tA)(hb:PW X (.BoolOp .Or (b::zk) pos) tB'):PW X (.BoolOp .Or (a::b::zk) pos) (tOr tA tB'):=by
 intro wh z4 s σ H Q I h
 refine isTrue_or (thn (ha z4 s σ H _ I h) λc s1 ⟨H1,I1,q1⟩=>?_)
 cases c with
 |true=>exact⟨H1,I1,q1⟩
 |false=>exact hb wh z4 s1 σ H1 Q I1 q1
theorem q56(ha:PT X a tA):PT X (.UnaryOp .Not a pos) (tNot tA):=by
 intro z4 s σ H Q I h
 exact isTrue_not (ha z4 s σ H (λc H1=>Q (!c) H1) I h)
def tIf(t:TT)(ta tb:TE):TE:=λσ H Q=>t σ H λc H1=>if c=true then ta σ H1 Q else tb σ H1 Q
theorem q6e{c:Expr}(hc:PT X c tA)(ha:PE X a ta)(hb:PE X b tb):PE X (.IfExp c a b pos) (tIf tA ta tb):=by
 intro z4 s σ H Q I h
 refine wpAny_IfExp (thn (hc z4 s σ H _ I h) λd s1 ⟨H1,I1,q1⟩=>?_)
 cases d with
 |true=>exact ha z4 s1 σ H1 Q I1 q1
 |false=>exact hb z4 s1 σ H1 Q I1 q1
end
def SqL(K:PySem.W.Frag)(H:Hp)(a:Addr)(xs:List V):Prop:=
 Rd H a (.lst xs)∨
   ∃(o:Obj) (its:Array Value) (n:Nat),K.lookup a=some o/\o.cls=.type "list"/\o.dict=none/\o.data=.seq its n/\its.size<=sizeLine/\Vals xs its.toList
def SqT(K:PySem.W.Frag)(H:Hp)(a:Addr)(xs:List V):Prop:=
 Rd H a (.tup xs)∨
   ∃(o:Obj) (its:Array Value) (n:Nat),K.lookup a=some o/\o.cls=.type "tuple"/\o.dict=none/\o.data=.seq its n/\its.size<=sizeLine/\Vals xs its.toList
def absV:Value->Option V
 |.none=>some .non
 |.bool b=>some (.bl b)
 |.int i _=>some (.int i)
 |.str x _=>some (.str x)
 |.bytes b _=>some (.byt b)
 |.float b _=>some (.flt b)
 |.ref a=>some (.ref a)
 |.type n=>some (.ty n)
 |_=>none
theorem RelV.abs{x:V}{u:Value}(r:RelV x u):absV u=some x:=by
 cases x with
 |non=>cases r;rfl
 |bl _=>cases r;rfl
 |int _=>obtain⟨t,rfl⟩:=r;rfl
 |str _=>obtain⟨t,rfl⟩:=r;rfl
 |byt _=>obtain⟨t,rfl⟩:=r;rfl
 |flt _=>obtain⟨t,rfl⟩:=r;rfl
 |ref _=>cases r;rfl
 |ty _=>cases r;rfl
theorem RelV.inj{x y:V}{u:Value}(r:RelV x u)(q:RelV y u):x=y:=jh (r.abs.symm.trans q.abs)
theorem Vals.inj:∀{xs ys:List V} {us:List Value},Vals xs us->Vals ys us->xs=ys
 |_,_,_,.nil,.nil=>rfl
 |_,_,_,.cons r t,.cons r' t'=>by rw[r.inj r',Vals.inj t t']
section
variable{X:Cx}{z4:List (Addr×Obj)}{σ:St}{H:Hp}{s:Shared}{a:Addr}{xs ys:List V}
theorem SqL.of{K:PySem.W.Frag}(h:H a=some (.lst xs)):SqL K H a xs:=.inl (.inl h)
theorem SqT.of{K:PySem.W.Frag}(h:H a=some (.tup xs)):SqT K H a xs:=.inl (.inl h)
theorem Inv.list(I:Inv X z4 σ H s)(h:SqL X.K H a xs):∃its:List Value,Vals xs its/\PlainL s.heap a its.toArray/\xs.length<=sizeLine:=by
 rcases h with h|⟨o,its,n,hk,hc,hd,hs,hz,r⟩
 · obtain⟨z,its,n,r,e⟩:=h.ok I.hok
   exact⟨its,r,⟨_,n,e,rfl,rfl,rfl⟩,z⟩
 · refine⟨its.toList,r,⟨o,n,I.kIn a o hk,hc,hd,by simpa using hs⟩,?_⟩
   have e:=r.length
   simp only[Array.length_toList]at e
   omega
theorem Inv.tupN(I:Inv X z4 σ H s)(h:SqT X.K H a xs):∃its:List Value,Vals xs its/\TupN s.heap a its.toArray/\xs.length<=sizeLine:=by
 rcases h with h|⟨o,its,n,hk,hc,hd,hs,hz,r⟩
 · obtain⟨z,its,r,p⟩:=h.ok I.hok
   exact⟨its,r,p,z⟩
 · refine⟨its.toList,r,⟨o,I.kIn a o hk,⟨hc,n,by simpa using hs⟩,hd⟩,?_⟩
   have e:=r.length
   simp only[Array.length_toList]at e
   omega
theorem Inv.tuple(I:Inv X z4 σ H s)(h:SqT X.K H a xs):∃its:List Value,Vals xs its/\IsTup s.heap a its.toArray/\xs.length<=sizeLine:=let ⟨its,r,p,z⟩:=I.tupN h;⟨its,r,p.tup,z⟩
theorem Inv.list_inj(I:Inv X z4 σ H s)(h:SqL X.K H a xs)(h':SqL X.K H a ys):xs=ys:=by
 obtain⟨its,r,⟨o,n,e,_,_,d⟩,_⟩:=I.list h
 obtain⟨its',r',⟨o',n',e',_,_,d'⟩,_⟩:=I.list h'
 rw[e]at e';cases e'
 rw[d]at d'
 injection d' with d1 _
 have:its=its':=by simpa using congrArg Array.toList d1
 subst this
 exact r.inj r'
theorem Inv.tuple_inj(I:Inv X z4 σ H s)(h:SqT X.K H a xs)(h':SqT X.K H a ys):xs=ys:=by
 obtain⟨its,r,⟨o,e,_,n,d⟩,_⟩:=I.tuple h
 obtain⟨its',r',⟨o',e',_,n',d'⟩,_⟩:=I.tuple h'
 rw[e]at e';cases e'
 rw[d]at d'
 injection d' with d1 _
 have:its=its':=by simpa using congrArg Array.toList d1
 subst this
 exact r.inj r'
end
abbrev Cx.wish(X:Cx)(E:Value->Shared->Prop):Cx:={X with xe:=E}
abbrev Cx.nox(X:Cx):Cx:=X.wish λ_ _=>False
theorem Cx.Ok.wish{X:Cx}(ok:X.Ok)(E:Value->Shared->Prop):(X.wish E).Ok:=
 ⟨ok.mod,ok.kind,ok.glob,ok.blt,ok.above,ok.inj,ok.has,ok.cab,ok.hd,ok.frames,ok.stk,ok.exf,ok.bs,ok.bsz,ok.noex,ok.exfs,ok.funs,ok.frf⟩
theorem Cx.Ok.unwish{X:Cx}{E:Value->Shared->Prop}(ok:(X.wish E).Ok):X.Ok:=
 ⟨ok.mod,ok.kind,ok.glob,ok.blt,ok.above,ok.inj,ok.has,ok.cab,ok.hd,ok.frames,ok.stk,ok.exf,ok.bs,ok.bsz,ok.noex,ok.exfs,ok.funs,ok.frf⟩
section
variable{X:Cx}{z4:List (Addr×Obj)}{σ:St}{H:Hp}{s:Shared}{E:Value->Shared->Prop}
theorem Inv.wish(I:Inv X z4 σ H s)(E:Value->Shared->Prop):Inv (X.wish E) z4 σ H s:=⟨I.ok.wish E,I.os,I.bare,I.base,I.loc,I.cell,I.free,I.freeC,I.pin,I.hok,I.len⟩
theorem Inv.unwish(I:Inv (X.wish E) z4 σ H s):Inv X z4 σ H s:=⟨I.ok.unwish,I.os,I.bare,I.base,I.loc,I.cell,I.free,I.freeC,I.pin,I.hok,I.len⟩
theorem SP.unwish{D:Ends}{f:Flow}{s':Shared}(h:SP (X.wish E) z4 D f s'):SP X z4 D f s':=by
 cases f with
 |next=>obtain⟨σ',H',I,q⟩:=h;exact⟨σ',H',I.unwish,q⟩
 |brk=>obtain⟨σ',H',I,q⟩:=h;exact⟨σ',H',I.unwish,q⟩
 |cont=>obtain⟨σ',H',I,q⟩:=h;exact⟨σ',H',I.unwish,q⟩
 |ret u=>obtain⟨v,σ',H',I,r,q⟩:=h;exact⟨v,σ',H',I.unwish,r,q⟩
theorem PSs.nox{st:List Stmt}{t:TS}(h:PSs X.nox st t):PSs X st t:=λz4 s σ H D I hw=>
 x9 (h z4 s σ H D (I.wish _) hw) (λ_ _ q=>q.unwish) λ_ _ z=>False.elim z
end
section
variable{X:Cx}{st:Stmt}{zk:List Stmt}{t u:TS}{e:Expr}{te:TE}{pos:Pos}
def q5l:TS:=λD σ H=>D.nx σ H
def tSeq(t u:TS):TS:=λD σ H=>t {D with nx:=u D} σ H
theorem q25:PSs X [] q5l:=λ_ _ σ H _ I h=>wpAny_execs_nil ⟨σ,H,I,h⟩
theorem q03(h1:PS X st t)(h2:PSs X zk u):PSs X (st::zk) (tSeq t u):=by
 intro z4 s σ H D I h
 refine wpAny_execs_cons (thn (h1 z4 s σ H {D with nx:=u D} I h) λf s1 q=>?_)
 cases f with
 | next=>
   obtain⟨σ',H',I',q⟩:=q
   exact h2 z4 s1 σ' H' D I' q
 |ret v=>exact q
 |brk=>exact q
 |cont=>exact q
theorem q0a(h1:PS X st t):PSs X [st] t:=by
 intro z4 s σ H D I h
 refine wpAny_execs_cons (thn (h1 z4 s σ H D I h) λf s1 q=>?_)
 cases f with
 |next=>exact wpAny_execs_nil q
 |ret v=>exact q
 |brk=>exact q
 |cont=>exact q
theorem Inv.quiet{z4:List (Addr×Obj)}{σ:St}{H:Hp}{s:Shared}(I:Inv X z4 σ H s):interactive X.env=false:=by simp[interactive,I.ok.kind]
def qbs(te:TE):TS:=λD σ H=>te σ H λ_ H1=>D.nx σ H1
theorem q49(he:PE X e te)(hs:swapsWith e none pos.line X.env=pure false:=by rfl):PS X (.Expr e pos) (qbs te):=by
 intro z4 s σ H D I h
 exact wpAny_Expr_any (thn (he z4 s σ H _ I h) λv s1 ⟨x,H1,I1,r1,q1⟩=>⟨σ,H1,I1,q1⟩) I.quiet hs
def tRet(te:TE):TS:=λD σ H=>te σ H D.rt
theorem q10(he:PE X e te):PS X (.Return (some e) pos) (tRet te):=by
 intro z4 s σ H D I h
 exact wpAny_Return_some (thn (he z4 s σ H _ I h) λv s1 ⟨x,H1,I1,r1,q1⟩=>⟨x,σ,H1,I1,r1,q1⟩)
def tIfS(c:TT)(t u:TS):TS:=λD σ H=>c σ H λb H1=>if b=true then t D σ H1 else u D σ H1
theorem q48{c:Expr}{a b:List Stmt}{tc:TT}(hc:PT X c tc)(ha:PSs X a t)(hb:PSs X b u):PS X (.If c a b pos) (tIfS tc t u):=by
 intro z4 s σ H D I h
 refine wpAny_If (thn (hc z4 s σ H _ I h) λd s1 ⟨H1,I1,q1⟩=>?_)
 cases d with
 |true=>exact ha z4 s1 σ H1 D I1 q1
 |false=>exact hb z4 s1 σ H1 D I1 q1
end
abbrev TG:=V->St->Hp->(St->Hp->Prop)->Prop
abbrev TGs:=List V->St->Hp->(St->Hp->Prop)->Prop
def PG(X:Cx)(zh:Expr)(t:TG):Prop:=
 ∀(z4:List (Addr×Obj)) (s:Shared) (σ:St) (H:Hp) (v:V) (u:Value) (Q:St->Hp->Prop),Inv X z4 σ H s->RelV v u->t v σ H Q->
   wpAny (model X.prog X.w) X.A (assign zh X.env u) (λ_ s'=>∃σ' H',Inv X z4 σ' H' s'/\Q σ' H') X.xe s
def PGs(X:Cx)(ts:List Expr)(t:TGs):Prop:=
 ∀(z4:List (Addr×Obj)) (s:Shared) (σ:St) (H:Hp) (vs:List V) (us:List Value) (Q:St->Hp->Prop),Inv X z4 σ H s->Vals vs us->t vs σ H Q->
   wpAny (model X.prog X.w) X.A (assignInOrder ((assignEach ts X.env).map (·.2)) us) (λ_ s'=>∃σ' H',Inv X z4 σ' H' s'/\Q σ' H') X.xe s
abbrev TSet:=V->V->V->Hp->(Hp->Prop)->Prop
def PSet(X:Cx)(t:TSet):Prop:=
 ∀(z4:List (Addr×Obj)) (s:Shared) (σ:St) (H:Hp) (o i v:V) (ov iv u:Value) (Q:Hp->Prop),Inv X z4 σ H s->RelV o ov->RelV i iv->RelV v u->t o i v H Q->
   wpAny (model X.prog X.w) X.A (setItem ov iv u) (λ_ s'=>∃H',Inv X z4 σ H' s'/\Q H') X.xe s
abbrev TIp:=V->V->Hp->VK->Prop
def PIp(X:Cx)(op:Operator)(t:TIp):Prop:=
 ∀(z4:List (Addr×Obj)) (s:Shared) (σ:St) (H:Hp) (x y:V) (v u:Value) (Q:VK),Inv X z4 σ H s->RelV x v->RelV y u->t x y H Q->
   wpAny (model X.prog X.w) X.A (inplaceOp op v u) (EP X z4 σ Q) X.xe s
section
variable{X:Cx}{pos:Pos}
def q2u(i:Nat):TG:=λv σ H Q=>Q (σ.set i (some v)) H
theorem q0r{i:Nat}{x:Str}(hN:X.N.Nodup)(hi:X.N[i]? =some x)(hx:Loc X.env.scope x)(hf:X.fn x=true∨X.env.scope.names.lookup x=some .local:=by first|exact .inl rfl|exact .inr rfl|assumption):PG X (.Name x pos) (q2u i):=by
 intro z4 s σ H v u Q I r h
 exact wpAny_assign_Name (q4s I hN hi hx r (λs' I'=>⟨_,H,I',h⟩) hf)
def gNil:TGs:=λvs σ H Q=>vs=[]/\Q σ H
def q95(t:TG)(u:TGs):TGs:=λvs σ H Q=>∃v r,vs=v::r/\t v σ H λσ' H'=>u r σ' H' Q
theorem q57:PGs X [] gNil:=by
 intro z4 s σ H vs us Q I r h
 obtain⟨e,h⟩:=h
 subst e
 cases r
 exact assignInOrder_nil ⟨σ,H,I,h⟩
theorem q1w{e:Expr}{es:List Expr}{t:TG}{u:TGs}(h1:PG X e t)(h2:PGs X es u)
   (hs:(assignEach (e::es) X.env).map (·.2)=assign e X.env::(assignEach es X.env).map (·.2):=by rfl):PGs X (e::es) (q95 t u):=by
 intro z4 s σ H vs us Q I r h
 obtain⟨v,vr,e1,h⟩:=h
 subst e1
 cases r with
 | cons r rr=>
   rw[hs]
   refine assignInOrder_cons (thn (h1 z4 s σ H _ _ _ I r h) λ_ s1 ⟨σ1,H1,I1,q1⟩=>?_)
   exact h2 z4 s1 σ1 H1 _ _ Q I1 rr q1
def gTup(K:PySem.W.Frag)(n:Nat)(t:TGs):TG:=λv σ H Q=>∃a xs,v=.ref a/\SqT K H a xs/\xs.length=n/\t xs σ H Q
theorem qmy{es:List Expr}{k:Nat}{t:TGs}{n:Nat}(hc:X.calm=true)(h:PGs X es t)
   (hn:(assignEach es X.env).length=n:=by rfl) (hst:(assignEach es X.env).findIdx? (·.1)=none:=by rfl):PG X (.Tuple es k pos) (gTup X.K n t):=by
 intro z4 s σ H v u Q I r hw
 obtain⟨a,xs,e1,hq,hl,hw⟩:=hw
 subst e1
 cases r
 obtain⟨its,rv,ht,hz⟩:=I.tuple hq
 refine assign_Tuple_tuple (I.ok.hd hc) ht (by simp[hn,<-hl,rv.length]) hst λh' hx=>?_
 have I1:Inv X z4 σ H {s with heap:=h'}:=I.kept (t':=s.toks) λb o e=>hx b o (jj (jd e)) e
 exact h z4 _ σ H xs _ Q I1 (by simpa using rv) hw
def gSub(to ti:TE)(t:TSet):TG:=λv σ H Q=>to σ H λo H1=>ti σ H1 λi H2=>t o i v H2 λH3=>Q σ H3
theorem qmz{o i:Expr}{to ti:TE}{t:TSet}(ho:PE X o to)(hi:PE X i ti)(hs:PSet X t)
   (ha:∀v,assign (.Subscript o i pos) X.env v=(do
     let ov <-holding [v] (eval o X.env)
     let iv <-holding [v,ov] (eval i X.env)
     standAt pos
     holding [v,ov,iv] (setItem ov iv v)
     release [v,ov,iv] []):=by intro _;rfl):PG X (.Subscript o i pos) (gSub to ti t):=by
 intro z4 s σ H v u Q I r h
 rw[ha]
 refine j7 (x5 (thn (ho z4 s σ H _ I h) λov s1 ⟨x,H1,I1,r1,q1⟩=>?_))
 refine j7 (x5 (thn (hi z4 s1 σ H1 _ I1 q1) λiv s2 ⟨y,H2,I2,r2,q2⟩=>?_))
 refine j7 (wpAny_standAt (j7 (x5 (thn (hs z4 s2 σ H2 x y v ov iv u _ I2 r1 r2 r q2) λ_ s3 ⟨H3,I3,q3⟩=>?_))))
 exact wpAny_release ⟨σ,H3,I3,q3⟩
def tAsg(te:TE)(g:TG):TS:=λD σ H=>te σ H λx H1=>g x σ H1 D.nx
theorem qhi{tg e:Expr}{te:TE}{g:TG}(he:PE X e te)(hg:PG X tg g)(hs:swapsWithSole [tg] e pos.line X.env=pure false:=by rfl)(hw:swappedStores [tg] e X.env=pure none:=by rfl)
   (h1:(assignEach [tg] X.env).map (·.2)=[assign tg X.env]:=by rfl):PS X (.Assign [tg] e pos) (tAsg te g):=by
 intro z4 s σ H D I h
 refine wpAny_Assign_stores (thn (he z4 s σ H _ I h) λv s1 ⟨x,H1,I1,r1,q1⟩=>?_) hs hw
 rw[h1]
 exact thn (hg z4 s1 σ H1 x v _ I1 r1 q1) λ_ s2 q=>q
theorem q0l{i:Nat}{x:Str}{e:Expr}{te:TE}{zr:Pos}(hN:X.N.Nodup)(hi:X.N[i]? =some x)(hx:Loc X.env.scope x)(he:PE X e te)(hs:swapsWith e (some (.Name x zr)) pos.line X.env=pure false:=by rfl)(hf:X.fn x=true∨X.env.scope.names.lookup x=some .local:=by first|exact .inl rfl|exact .inr rfl|assumption):
   PS X (.Assign [.Name x zr] e pos) (tAsg te (q2u i)):=by
 intro z4 s σ H D I h
 refine wpAny_Assign_Name (thn (he z4 s σ H _ I h) λv s1 ⟨y,H1,I1,r1,q1⟩=>?_) hs
 exact q4s I1 hN hi hx r1 (λs2 I2=>⟨_,H1,I2,q1⟩) hf
def tAug(i:Nat)(te:TE)(ti:TIp):TS:=λD σ H=>∃x,σ[i]? =some (some x)/\te σ H λy H1=>ti x y H1 λz H2=>D.nx (σ.set i (some z)) H2
theorem qhh{i:Nat}{x:Str}{e:Expr}{te:TE}{op:Operator}{ti:TIp}{zr:Pos}(hN:X.N.Nodup)(hi:X.N[i]? =some x)(hx:Loc X.env.scope x)(he:PE X e te)(ho:PIp X op ti)(hf:X.fn x=true∨X.env.scope.names.lookup x=some .local:=by first|exact .inl rfl|exact .inr rfl|assumption):
   PS X (.AugAssign (.Name x zr) op e pos) (tAug i te ti):=by
 intro z4 s σ H D I h
 obtain⟨v,e1,h⟩:=h
 obtain⟨m,hn,hl⟩:=I.loc
 have vis:Vis X.env.scope x:=by rcases hx with k|k;exact .inl k;exact .inr (.inl k)
 obtain⟨u,r,l⟩:=hl i x v hi e1 vis
 refine wpAny_AugAssign_Name ?_
 have go:wpAny (model X.prog X.w) X.A (eval e X.env) (λw s₂=>wpAny (model X.prog X.w) X.A (inplaceOp op u w) (λr s₃=>wpAny (model X.prog X.w) X.A (storeName X.env x r) (λ_=>SP X z4 D .next) X.xe s₃) X.xe s₂) X.xe s:=by
   refine thn (he z4 s σ H _ I h) λw s1 ⟨y,H1,I1,r1,q1⟩=>?_
   refine thn (ho z4 s1 σ H1 v y u w _ I1 r r1 q1) λz s2 ⟨zv,H2,I2,r2,q2⟩=>?_
   exact q4s I2 hN hi hx r2 (λs3 I3=>⟨_,H2,I3,q2⟩) hf
 rcases l with⟨hk,hm⟩|⟨hk,c,hc,hcell⟩
 · exact wpAny_loadName_local I.ok.kind hk hn hm go
 · rcases hk with hk|hk
   · exact wpAny_loadName_cell I.ok.kind hk hc hcell go
   · rcases hx with k|k
     · have:X.env.scope.names.lookup x=some .free:=hk
       rw[k]at this;cases this
     · have:X.env.scope.names.lookup x=some .free:=hk
       rw[k]at this;cases this
def ipI(f:Int->Int->Int):TIp:=λx y H Q=>∃i j,x=.int i/\y=.int j/\Q (.int (f i j)) H
theorem qol:PIp X .Add (ipI λi j=>i+j):=by
 intro z4 s σ H x y v u Q I r1 r2 h
 obtain⟨i,j,e1,e2,q⟩:=h
 subst e1;subst e2
 obtain⟨t,rfl⟩:=r1
 obtain⟨t',rfl⟩:=r2
 exact iadd_int ⟨.int _,H,I.tok _,⟨_,rfl⟩,q⟩
end
section
variable{X:Cx}{pos:Pos}
def qh8(c:TT)(tb:TS):TS:=λD σ H=>∃W:Nat->St->Hp->Prop,(∃m,W m σ H)/\∀m σ H,W m σ H->
 c σ H λb H1=>if b=true then∃N:St->Hp->Prop,(∀σ' H',N σ' H'->∃m',m'<m/\W m' σ' H')/\tb {D with nx:=N,ct:=N,bk:=D.nx} σ H1 else D.nx σ H1
theorem q69{c:Expr}{body:List Stmt}{tc:TT}{tb:TS}(hp:PassesOwn (model X.prog X.w) X.A X.env X.xe)(hc:PT X c tc)(hb:PSs X body tb):PS X (.While c body [] pos) (qh8 tc tb):=by
 intro z4 s σ H D I h
 obtain⟨W,⟨m0,w0⟩,turn⟩:=h
 refine wpAny_While (codeAny_whileLoop (λn s'=>∃σ' H',Inv X z4 σ' H' s'/\W n σ' H') ?_ m0 ⟨σ,H,I,w0⟩)
 rintro n s1 ⟨σ1,H1,I1,w1⟩
 refine ki hp (thn (hc z4 s1 σ1 H1 _ I1 (turn n σ1 H1 w1)) λb s2 ⟨H2,I2,q2⟩=>?_)
 cases b with
 | true=>
   obtain⟨N,hN,q2⟩:=q2
   rw[if_pos rfl]
   refine ki hp (thn (hb z4 s2 σ1 H2 _ I2 q2) λf s3 q3=>?_)
   cases f with
   | next=>
     obtain⟨σ3,H3,I3,n3⟩:=q3
     obtain⟨m',hm,w3⟩:=hN σ3 H3 n3
     exact⟨m',hm,σ3,H3,I3,w3⟩
   | cont=>
     obtain⟨σ3,H3,I3,n3⟩:=q3
     obtain⟨m',hm,w3⟩:=hN σ3 H3 n3
     exact⟨m',hm,σ3,H3,I3,w3⟩
   |brk=>exact q3
   |ret v=>exact q3
 | false=>
   rw[if_neg Bool.false_ne_true]
   exact wpAny_execs_nil ⟨σ1,H2,I2,q2⟩
end
structure It where
 go:Nat->Hp->Prop
 yld:Nat->Hp->V->Hp->Prop
 stop:Nat->Hp->Prop
def FpOk(X:Cx)(z4:List (Addr×Obj))(H:Hp)(b:Addr):Prop:=
 H b=none/\b≠X.env.locals/\b∉X.fs/\(b∈X.ex∨X.s₀.heap.objs.size<=b)/\(∀x c,X.env.cells.lookup x=some c->c≠b)/\∀p∈X.pn++z4,p.1≠b
theorem Inv.fpOk{X:Cx}{z4:List (Addr×Obj)}{σ:St}{H H':Hp}{s:Shared}{b:Addr}(I:Inv X z4 σ H s)(hb:s.heap.objs.size<=b)(hn:H' b=none):FpOk X z4 H' b:=by
 refine⟨hn,Nat.ne_of_gt (jt I.lt hb),I.nofs hb,.inr (jy I.sz hb),λx c e z=>?_,λp hp z=>?_⟩
 · obtain⟨v,q⟩:=I.cell x c e
   exact absurd (jt q.lt (by rw[z];exact hb)) (xm _)
 · exact absurd (jt (jd (I.pin p hp).1) (by rw[z];exact hb)) (xm _)
structure Turn(P:Program)(w:World)(K:PySem.W.Frag)(tg:Expr)(J:It)(fp:List Addr)(it:Addr)(tn:Nat->Heap->Prop):Prop where
 mem:it∈fp
 obj:∀i h,tn i h->∀b∈fp,∃o,h.get? b=some o/\∀v,o.data≠.cell v
 keep:∀i h h',tn i h->(∀b∈fp,∀o,h.get? b=some o->h'.get? b=some o)->tn i h'
 item:∀(X:Cx),X.prog=P->X.w=w->X.K=K->X.calm=true->∀(i:Nat) (z4:List (Addr×Obj)) (s:Shared) (σ:St) (H:Hp) (E:Value->Shared->Prop),Inv X z4 σ H s->(∀b∈fp,FpOk X z4 H b)->tn i s.heap->J.go i H->
   wpAny (model P w) X.A (pyNext (.ref it)) (λr s1=>∃u,r=some u/\
     wpAny (model P w) X.A (letOwnedTupleGo tg (.ref it) u) (λ_ s2=>∃x H',Inv X z4 σ H' s2/\RelV x u/\J.yld i H x H'/\tn (i+1) s2.heap/\∀b∈fp,H' b=none) E s1) E s
 done:∀(X:Cx),X.prog=P->X.w=w->X.K=K->X.calm=true->∀(i:Nat) (z4:List (Addr×Obj)) (s:Shared) (σ:St) (H:Hp) (E:Value->Shared->Prop),Inv X z4 σ H s->(∀b∈fp,FpOk X z4 H b)->tn i s.heap->J.stop i H->
   wpAny (model P w) X.A (pyNext (.ref it)) (λr s1=>r=none/\Inv X z4 σ H s1) E s
 self:∀(A:Around) (i:Nat) (s:Shared) (Q:Value->Shared->Prop) (E:Value->Shared->Prop),tn i s.heap->Q (.ref it) s->wpAny (model P w) A (pyIter (.ref it)) Q E s
abbrev TI:=St->Hp->(It->Hp->Prop)->Prop
def PIE(X:Cx)(z4:List (Addr×Obj))(σ:St)(tg:Expr)(R:It->Hp->Prop)(itv:Value)(s2:Shared):Prop:=
 ∃(it:Addr) (fp:List Addr) (tn:Nat->Heap->Prop) (J:It) (H':Hp),itv=.ref it/\Inv X z4 σ H' s2/\Turn X.prog X.w X.K tg J fp it tn/\tn 0 s2.heap/\(∀b∈fp,FpOk X z4 H' b)/\R J H'
def PI(X:Cx)(tg ze:Expr)(wi:TI):Prop:=
 ∀(z4:List (Addr×Obj)) (s:Shared) (σ:St) (H:Hp) (R:It->Hp->Prop),Inv X z4 σ H s->wi σ H R->
   wpAny (model X.prog X.w) X.A (eval ze X.env) (λv s1=>wpAny (model X.prog X.w) X.A (pyIter v) (PIE X z4 σ tg R) X.xe s1) X.xe s
theorem qgh{M:Model}{A:Around}{E:Value->Shared->Prop}{s:Shared}{tg:Expr}{it:Addr}{u:Value}{o:Obj}{n:String}{vs:Array Value}{Q:Unit->Shared->Prop}(ho:s.heap.get? it=some o)(hc:o.cls=.type n)(hd:o.data=.fields vs)
   (hn:["enumerate","zip","dict_itemiterator","dict_reverseitemiterator","odict_iterator","itertools.zip_longest","itertools.pairwise"].contains n=false) (hQ:Q () s):wpAny M A (letOwnedTupleGo tg (.ref it) u) Q E s:=by
 unfold letOwnedTupleGo
 cases tg<;>first
   |exact j8 hQ
   |(cases u<;>first
       |exact j8 hQ
       | (refine j7 (wpAny_load ho ?_)
          rw[hc,hd]
          show wpAny M A (if(["enumerate","zip","dict_itemiterator","dict_reverseitemiterator","odict_iterator","itertools.zip_longest","itertools.pairwise"].contains n&&vs[0]? ==some (rawInt _))=true then _ else _) Q E s
          rw[if_neg (by intro h;rw[hn,Bool.false_and]at h;cases h)]
          exact j8 hQ))
def Itl(K:PySem.W.Frag)(a:Addr):It:=
 ⟨λi H=>∃xs x,SqL K H a xs/\xs[i]? =some x,λi H x H'=>H'=H/\∀xs,SqL K H a xs->xs[i]? =some x,λi H=>∃xs,SqL K H a xs/\xs.length<=i⟩
def Itt(K:PySem.W.Frag)(a:Addr):It:=
 ⟨λi H=>∃xs x,SqT K H a xs/\xs[i]? =some x,λi H x H'=>H'=H/\∀xs,SqT K H a xs->xs[i]? =some x,λi H=>∃xs,SqT K H a xs/\xs.length<=i⟩
def Itr(lo:Int)(n:Nat):It:=⟨λi _=>i<n,λi H x H'=>H'=H/\x=.int (lo+i),λi _=>n<=i⟩
theorem qbm{P:Program}{w:World}{K:PySem.W.Frag}{tg:Expr}(a it:Addr):Turn P w K tg (Itl K a) [it] it (λi h=>h.IsListIter it a i) where
 mem:=by simp
 obj:=λi h st b hb=>by
   have e:b=it:=by simpa using hb
   subst e
   obtain⟨o,e,c,d⟩:=st
   exact⟨o,e,λv z=>by rw[d]at z;cases z⟩
 keep:=λi h h' st k=>st.at λo e=>k it (by simp) o e
 item:=by
   intro X hP hw hK hc i z4 s σ H E I hf st hg
   subst hP hw hK
   obtain⟨xs,x,hq,hx⟩:=hg
   obtain⟨its,rv,p,hz⟩:=I.list hq
   obtain⟨u,hu,ru⟩:=rv.get hx
   obtain⟨f0,f1,f2,f3,f4,f5⟩:=hf it (by simp)
   refine wpAny_pyNext_list_item st p.isList (x:=u) (by simpa using hu) λh' st' sb=>?_
   have I1:Inv X z4 σ H {s with heap:=h'}:=I.turned (t':=s.toks) (λb o hb e=>(sb.2 b hb).trans e) f0 f1 f3 f4 f5
   obtain⟨o,e,c,d⟩:=id st'
   exact⟨u,rfl,qgh (s:={s with heap:=h'}) e c d (by decide) ⟨x,H,I1,ru,⟨rfl,λys hy=>by rw[I.list_inj hy hq];exact hx⟩,st',λb hb=>(hf b hb).1⟩⟩
 done:=by
   intro X hP hw hK hc i z4 s σ H E I hf st hg
   subst hP hw hK
   obtain⟨xs,hq,hx⟩:=hg
   obtain⟨its,rv,p,hz⟩:=I.list hq
   obtain⟨f0,f1,f2,f3,f4,f5⟩:=hf it (by simp)
   have hl:=rv.length
   exact wpAny_pyNext_list_end (I.ok.hd hc) st p.isList (by simp;omega) λh' eb=>⟨rfl,I.turned (t':=s.toks) (λb o hb e=>eb b o hb e) f0 f1 f3 f4 f5⟩
 self:=λ_ _ _ _ _ st h=>wpAny_pyIter_listiter st h
theorem qat{P:Program}{w:World}{K:PySem.W.Frag}{tg:Expr}(a it:Addr):Turn P w K tg (Itt K a) [it] it (λi h=>h.IsTupleIter it a i) where
 mem:=by simp
 obj:=λi h st b hb=>by
   have e:b=it:=by simpa using hb
   subst e
   obtain⟨o,e,c,d⟩:=st
   exact⟨o,e,λv z=>by rw[d]at z;cases z⟩
 keep:=λi h h' st k=>st.at λo e=>k it (by simp) o e
 item:=by
   intro X hP hw hK hc i z4 s σ H E I hf st hg
   subst hP hw hK
   obtain⟨xs,x,hq,hx⟩:=hg
   obtain⟨its,rv,p,hz⟩:=I.tuple hq
   obtain⟨u,hu,ru⟩:=rv.get hx
   obtain⟨f0,f1,f2,f3,f4,f5⟩:=hf it (by simp)
   refine wpAny_pyNext_tuple_item st (show s.heap.IsTuple a its.toArray from p) (x:=u) (by simpa using hu) λh' st' sb=>?_
   have I1:Inv X z4 σ H {s with heap:=h'}:=I.turned (t':=s.toks) (λb o hb e=>(sb.2 b hb).trans e) f0 f1 f3 f4 f5
   obtain⟨o,e,c,d⟩:=id st'
   exact⟨u,rfl,qgh (s:={s with heap:=h'}) e c d (by decide) ⟨x,H,I1,ru,⟨rfl,λys hy=>by rw[I.tuple_inj hy hq];exact hx⟩,st',λb hb=>(hf b hb).1⟩⟩
 done:=by
   intro X hP hw hK hc i z4 s σ H E I hf st hg
   subst hP hw hK
   obtain⟨xs,hq,hx⟩:=hg
   obtain⟨its,rv,p,hz⟩:=I.tuple hq
   obtain⟨f0,f1,f2,f3,f4,f5⟩:=hf it (by simp)
   have hl:=rv.length
   exact wpAny_pyNext_tuple_end (I.ok.hd hc) st (show s.heap.IsTuple a its.toArray from p) (by simp;omega) λh' eb=>⟨rfl,I.turned (t':=s.toks) (λb o hb e=>eb b o hb e) f0 f1 f3 f4 f5⟩
 self:=λ_ _ _ _ _ st h=>wpAny_pyIter_tupleiter st h
theorem qau{P:Program}{w:World}{K:PySem.W.Frag}{tg:Expr}(it:Addr)(lo:Int)(n:Nat):Turn P w K tg (Itr lo n) [it] it (λi h=>IsRangeIter h it (lo+(i:Nat)*1) ((n:Int)-(i:Nat)) 1) where
 mem:=by simp
 obj:=λi h st b hb=>by
   have e:b=it:=by simpa using hb
   subst e
   exact⟨_,st,λv z=>by
     have z':Data.fields _=Data.cell v:=z
     cases z'⟩
 keep:=λi h h' st k=>k it (by simp) _ st
 item:=by
   intro X hP hw hK hc i z4 s σ H E I hf st hg
   subst hP hw hK
   obtain⟨f0,f1,f2,f3,f4,f5⟩:=hf it (by simp)
   have W:=Walks.range (prog:=X.prog) (w:=X.w) (I.ok.hd hc) it lo 1 n
   refine W.item i s _ _ hg st λv h' tk hv st' kk=>?_
   obtain⟨t,rfl⟩:=hv
   have I1:Inv X z4 σ H {s with heap:=h',toks:=tk}:=I.turned (λb o hb e=>kk b o (by simpa using hb) e) f0 f1 f3 f4 f5
   refine⟨_,rfl,qgh (s:={s with heap:=h',toks:=tk}) (n:="range_iterator") st' rfl rfl (by decide) ⟨.int (lo+i),H,I1,⟨t,?_⟩,⟨rfl,rfl⟩,st',λb hb=>(hf b hb).1⟩⟩
   rw[Int.mul_one]
 done:=by
   intro X hP hw hK hc i z4 s σ H E I hf st hg
   subst hP hw hK
   obtain⟨f0,f1,f2,f3,f4,f5⟩:=hf it (by simp)
   exact wpAny_pyNext_range_end (I.ok.hd hc) st (by have:n<=i:=hg;omega) λh' eb=>⟨rfl,I.turned (t':=s.toks) (λb o hb e=>eb b o hb e) f0 f1 f3 f4 f5⟩
 self:=λ_ _ _ _ _ st h=>wpAny_pyIter_rangeiter st h
section
variable{X:Cx}{tg:Expr}
def qkl(K:PySem.W.Frag)(tl:TE):TI:=λσ H R=>tl σ H λx H1=>∃a,x=.ref a/\(∃xs,SqL K H1 a xs)/\R (Itl K a) H1
def iTup(K:PySem.W.Frag)(tl:TE):TI:=λσ H R=>tl σ H λx H1=>∃a,x=.ref a/\(∃xs,SqT K H1 a xs)/\R (Itt K a) H1
theorem qjf{l:Expr}{tl:TE}(hl:PE X l tl):PI X tg l (qkl X.K tl):=by
 intro z4 s σ H R I h
 refine thn (hl z4 s σ H _ I h) λv s1 ⟨x,H1,I1,r1,q1⟩=>?_
 obtain⟨a,e,⟨xs,hq⟩,q⟩:=q1
 subst e
 cases r1
 obtain⟨its,rv,p,hz⟩:=I1.list hq
 refine v9 p.isList ?_
 refine⟨s1.heap.objs.size,[s1.heap.objs.size],_,_,H1,rfl,I1.kept (t':=s1.toks) λb o e=>je _ e,qbm a _,⟨_,jq _ rfl,rfl,rfl⟩,λb hb=>?_,q⟩
 have e:b=s1.heap.objs.size:=by simpa using hb
 subst e
 exact I1.fpOk (jc _) (I1.hok.fresh (jc _))
theorem qmx{l:Expr}{tl:TE}(hl:PE X l tl):PI X tg l (iTup X.K tl):=by
 intro z4 s σ H R I h
 refine thn (hl z4 s σ H _ I h) λv s1 ⟨x,H1,I1,r1,q1⟩=>?_
 obtain⟨a,e,⟨xs,hq⟩,q⟩:=q1
 subst e
 cases r1
 obtain⟨its,rv,p,hz⟩:=I1.tuple hq
 refine wpAny_pyIter_tuple (show s1.heap.IsTuple a its.toArray from p) ?_
 refine⟨s1.heap.objs.size,[s1.heap.objs.size],_,_,H1,rfl,I1.kept (t':=s1.toks) λb o e=>je _ e,qat a _,⟨_,jq _ rfl,rfl,rfl⟩,λb hb=>?_,q⟩
 have e:b=s1.heap.objs.size:=by simpa using hb
 subst e
 exact I1.fpOk (jc _) (I1.hok.fresh (jc _))
theorem q9n{z4:List (Addr×Obj)}{σ:St}{H:Hp}{s:Shared}{R:It->Hp->Prop}{E:Value->Shared->Prop}{lo hi:Int}{t u v:Tok}{tk:Nat}(I:Inv X z4 σ H s)(h1: -(2^62)<=lo)(h2:lo<2^62)(h3: -(2^62)<=hi)(h4:hi<2^62)
   (q:R (Itr lo (hi-lo).toNat) H):wpAny (model X.prog X.w) X.A (pyIter (.ref s.heap.objs.size)) (PIE X z4 σ tg R) E {s with heap:=s.heap.push {cls:=.type "range",data:=.fields #[.int lo t,.int hi u,.int 1 v]},toks:=tk}:=by
 refine wpAny_pyIter_range (IsRange.new ..) (small_one h1 h2 h3 h4) ?_
 have I1:Inv X z4 σ H {s with heap:=s.heap.push {cls:=.type "range",data:=.fields #[.int lo t,.int hi u,.int 1 v]},toks:=tk}:=I.kept λb o e=>je _ e
 refine⟨(s.heap.push {cls:=.type "range",data:=.fields #[.int lo t,.int hi u,.int 1 v]}).objs.size,[(s.heap.push {cls:=.type "range",data:=.fields #[.int lo t,.int hi u,.int 1 v]}).objs.size],_,_,H,rfl,
   I1.kept (t':=tk) λb o e=>je _ e,qau _ lo (hi-lo).toNat,?_,λb hb=>?_,q⟩
 · have e1:lo+((0:Nat):Int)*1=lo:=by simp
   have e2:(((hi-lo).toNat:Nat):Int)-((0:Nat):Int)=Builtin.Range.rangeSize lo hi 1:=by rw[rangeSize_one];split<;>omega
   show IsRangeIter _ _ (lo+((0:Nat):Int)*1) ((((hi-lo).toNat:Nat):Int)-((0:Nat):Int)) 1
   rw[e1,e2]
   exact jq _ rfl
 · have e:b=(s.heap.push {cls:=.type "range",data:=.fields #[.int lo t,.int hi u,.int 1 v]}).objs.size:=by simpa using hb
   subst e
   exact I1.fpOk (jc _) (I1.hok.fresh (jc _))
def qop(ta:TA):TI:=λσ H R=>ta σ H λvs H1=>∃j:Int,vs=[.int j]/\ -(2^62)<=j/\j<2^62/\R (Itr 0 j.toNat) H1
def qoo(ta:TA):TI:=λσ H R=>ta σ H λvs H1=>∃i j:Int,vs=[.int i,.int j]/\(-(2^62)<=i/\i<2^62/\ -(2^62)<=j/\j<2^62)/\R (Itr i (j-i).toNat) H1
theorem q2j{a:Expr}{ta:TA}{p pos:Pos}(hg:Gl X "range")(hm:X.mg "range"=none)(ha:PA X [a] ta)(hs:starEach [a] X.env=[(false,eval a X.env)]:=by rfl):PI X tg (.Call (.Name "range" p) [a] [] pos) (qop ta):=by
 intro z4 s σ H R I h
 refine Call_ (q42 I hg hm boot_range (PyProof.Rows.callWith_type1 (thn (ha pos z4 s σ H _ I h) λus s1 ⟨vs,H1,I1,r1,q1⟩=>?_) hs rfl))
 obtain⟨j,e,q1,q2,q⟩:=q1
 subst e
 cases r1 with
 | cons r rr=>
   cases rr
   obtain⟨t,rfl⟩:=r
   exact call_range_1 (q9n I1 (by omega) (by omega) q1 q2 (by simpa using q))
theorem q7j{a b:Expr}{ta:TA}{p pos:Pos}(hg:Gl X "range")(hm:X.mg "range"=none)(ha:PA X [a,b] ta)(hs:starEach [a,b] X.env=[(false,eval a X.env),(false,eval b X.env)]:=by rfl)(hs2:starEach [b] X.env=[(false,eval b X.env)]:=by rfl):
   PI X tg (.Call (.Name "range" p) [a,b] [] pos) (qoo ta):=by
 intro z4 s σ H R I h
 refine Call_ (q42 I hg hm boot_range (PyProof.Rows.callWith_type1 (thn (ha pos z4 s σ H _ I h) λus s1 ⟨vs,H1,I1,r1,q1⟩=>?_) (by rw[hs,hs2]) (by rw[hs2];rfl)))
 obtain⟨i,j,e,⟨q1,q2,q3,q4⟩,q⟩:=q1
 subst e
 cases r1 with
 | cons r rr=>
   cases rr with
   | cons r' rr=>
     cases rr
     obtain⟨t,rfl⟩:=r
     obtain⟨t',rfl⟩:=r'
     exact call_range_2 (q9n I1 q1 q2 q3 q4 q)
def tFor(wi:TI)(g:TG)(tb:TS):TS:=λD σ H=>wi σ H λJ H1=>∃W:Nat->Nat->St->Hp->Prop,(∃m,W 0 m σ H1)/\∀i m σ H,W i m σ H->
 (J.stop i H/\D.nx σ H)∨(J.go i H/\∃N:St->Hp->Prop,(∀σ' H',N σ' H'->∃m',m'<m/\W (i+1) m' σ' H')/\∀x H',J.yld i H x H'->g x σ H' λσ2 H2=>tb {D with nx:=N,ct:=N,bk:=D.nx} σ2 H2)
def q7h(fp:List Addr)(h:Heap):List (Addr×Obj):=fp.filterMap λb=>(h.get? b).map λo=>(b,o)
theorem q3b{fp:List Addr}{h:Heap}{b:Addr}{o:Obj}(hb:b∈fp)(e:h.get? b=some o):(b,o)∈q7h fp h:=List.mem_filterMap.mpr ⟨b,hb,by rw[e];rfl⟩
theorem qda{fp:List Addr}{h:Heap}{p:Addr×Obj}(hp:p∈q7h fp h):p.1∈fp/\h.get? p.1=some p.2:=by
 obtain⟨b,hb,e⟩:=List.mem_filterMap.mp hp
 cases q:h.get? b with
 |none=>rw[q]at e;cases e
 | some o=>
   rw[q]at e
   have e':(b,o)=p:=jh e
   subst e'
   exact⟨hb,q⟩
theorem Inv.pinned{z4:List (Addr×Obj)}{σ:St}{H:Hp}{s:Shared}{fp:List Addr}(I:Inv X z4 σ H s)(hf:∀b∈fp,FpOk X z4 H b)(ho:∀b∈fp,∃o,s.heap.get? b=some o/\∀v,o.data≠.cell v):Inv X (z4++q7h fp s.heap) σ H s:=
 I.pins_of λp hp=>(List.mem_append.mp hp).elim (λz=>I.pin p (xc _ z)) λz=>by
   obtain⟨hb,e⟩:=qda z
   obtain⟨f0,f1,f2,_⟩:=hf p.1 hb
   obtain⟨o,e',d⟩:=ho p.1 hb
   rw[e]at e';cases e'
   exact⟨e,f0,f1,f2,d⟩
theorem Inv.unpinned{z4 pl:List (Addr×Obj)}{σ:St}{H:Hp}{s:Shared}(I:Inv X (z4++pl) σ H s):Inv X z4 σ H s:=I.pins_of λp hp=>I.pin p (xc _ (List.mem_append_left _ hp))
theorem q2q{ze:Expr}{body:List Stmt}{wi:TI}{g:TG}{tb:TS}{pos:Pos}(hp:PassesOwn (model X.prog X.w) X.A X.env X.xe)(hc:X.calm=true)(hi:PI X tg ze wi)(hg:PG X tg g)(hb:PSs X body tb)
   (hs:∀x,foldedSetIterable ze X.env x=pure x:=by intro _;rfl):PS X (.For tg ze body [] pos) (tFor wi g tb):=by
 intro z4 s σ H D I h
 refine wpAny_For (thn (hi z4 s σ H _ I h) λv s1 h1=>thn h1 λitv s2 h2=>?_) hs
 obtain⟨it,fp,tn,J,H2,e,I2,T,st2,f2,W,⟨m0,w0⟩,turn⟩:=h2
 subst e
 -- what stays true of the iterator's objects through the loop
 have stat:∀{H':Hp},(∀b∈fp,H' b=none)->∀b∈fp,FpOk X z4 H' b:=λhn b hb=>⟨hn b hb,(f2 b hb).2⟩
 refine codeAny_forLoop_any (λn s'=>∃i σ' H',Inv X z4 σ' H' s'/\tn i s'.heap/\(∀b∈fp,H' b=none)/\W i n σ' H') ?_ m0 ⟨0,σ,H2,I2,st2,λb hb=>(f2 b hb).1,w0⟩
 rintro n s3 ⟨i,σ3,H3,I3,st3,fr3,w3⟩
 rcases turn i n σ3 H3 w3 with⟨stop,qn⟩|⟨go,N,hN,step⟩
 · refine ki hp (thn (T.done X rfl rfl rfl hc i z4 s3 σ3 H3 X.xe I3 (stat fr3) st3 stop) λr s4 ⟨hr,I4⟩=>?_)
   subst hr
   exact wpAny_execs_nil ⟨σ3,H3,I4,qn⟩
 · refine ki hp (thn (T.item X rfl rfl rfl hc i z4 s3 σ3 H3 X.xe I3 (stat fr3) st3 go) λr s4 ⟨u,hr,h4⟩=>?_)
   subst hr
   refine ki hp (thn h4 λ_ s5 ⟨x,H5,I5,r5,y5,st5,fr5⟩=>?_)
   have I5':=I5.pinned (stat fr5) (T.obj _ _ st5)
   refine ki hp (thn (hg _ s5 σ3 H5 x u _ I5' r5 (step x H5 y5)) λ_ s6 ⟨σ6,H6,I6,q6⟩=>?_)
   refine ki hp (thn (hb _ s6 σ6 H6 _ I6 q6) λf s7 q7=>?_)
   have again:∀{σ7:St} {H7:Hp},Inv X (z4++q7h fp s5.heap) σ7 H7 s7->N σ7 H7->∃m,m<n/\∃i σ' H',Inv X z4 σ' H' s7/\tn i s7.heap/\(∀b∈fp,H' b=none)/\W i m σ' H':=λ{σ7 H7} I7 n7=>by
     obtain⟨m',hm,w7⟩:=hN σ7 H7 n7
     refine⟨m',hm,i+1,σ7,H7,I7.unpinned,T.keep _ _ _ st5 λb hb o e=>(I7.pin (b,o) (xc _ (xc _ (q3b hb e)))).1,λb hb=>?_,w7⟩
     obtain⟨o,e,d⟩:=T.obj _ _ st5 b hb
     exact(I7.pin (b,o) (xc _ (xc _ (q3b hb e)))).2.1
   cases f with
   |next=>obtain⟨σ7,H7,I7,n7⟩:=q7;exact again I7 n7
   |cont=>obtain⟨σ7,H7,I7,n7⟩:=q7;exact again I7 n7
   |brk=>obtain⟨σ7,H7,I7,q7⟩:=q7;exact⟨σ7,H7,I7.unpinned,q7⟩
   |ret v=>obtain⟨x7,σ7,H7,I7,r7,q7⟩:=q7;exact⟨x7,σ7,H7,I7.unpinned,r7,q7⟩
end
abbrev R2:=V->V->Hp->VK->Prop
def OpR(X:Cx)(f:Value->Value->Sem Value)(r:R2):Prop:=
 ∀(z4:List (Addr×Obj)) (s:Shared) (σ:St) (H:Hp) (x y:V) (v u:Value) (Q:VK),Inv X z4 σ H s->RelV x v->RelV y u->r x y H Q->
   wpAny (model X.prog X.w) X.A (f v u) (EP X z4 σ Q) X.xe s
def UnR(X:Cx)(f:Value->Sem Value)(r:V->Hp->VK->Prop):Prop:=
 ∀(z4:List (Addr×Obj)) (s:Shared) (σ:St) (H:Hp) (x:V) (v:Value) (Q:VK),Inv X z4 σ H s->RelV x v->r x H Q->
   wpAny (model X.prog X.w) X.A (f v) (EP X z4 σ Q) X.xe s
def q4h(X:Cx)(f:Value)(r:List V->Hp->VK->Prop):Prop:=
 ∀(z4:List (Addr×Obj)) (s:Shared) (σ:St) (H:Hp) (xs:List V) (us:List Value) (Q:VK),Inv X z4 σ H s->Vals xs us->r xs H Q->
   wpAny (model X.prog X.w) X.A (call f us) (EP X z4 σ Q) X.xe s
def tOp(r:R2)(ta tb:TE):TE:=λσ H Q=>ta σ H λx H1=>tb σ H1 λy H2=>r x y H2 Q
def tUn(r:V->Hp->VK->Prop)(ta:TE):TE:=λσ H Q=>ta σ H λx H1=>r x H1 Q
def rI(C:Int->Int->Prop)(g:Int->Int->V):R2:=λx y H Q=>∃i j,x=.int i/\y=.int j/\C i j/\Q (g i j) H
def rI0(g:Int->Int->V):R2:=λx y H Q=>∃i j,x=.int i/\y=.int j/\Q (g i j) H
def rU(g:Int->V):V->Hp->VK->Prop:=λx H Q=>∃i,x=.int i/\Q (g i) H
section
variable{X:Cx}{a b c:Expr}{ta tb tc:TE}{pos:Pos}
theorem binT(ha:PE X a ta)(hb:PE X b tb){z4:List (Addr×Obj)}{s:Shared}{σ:St}{H:Hp}{R:V->V->Hp->Prop}(I:Inv X z4 σ H s)
   (h:ta σ H λx H1=>tb σ H1 λy H2=>R x y H2) {Q:Value->Shared->Prop} {f:Value->Value->Sem Value}
   (hf:∀v u s2 x y H2,Inv X z4 σ H2 s2->RelV x v->RelV y u->R x y H2->wpAny (model X.prog X.w) X.A (f v u) Q X.xe s2):
   wpAny (model X.prog X.w) X.A (eval a X.env) (λv s₁=>wpAny (model X.prog X.w) X.A (eval b X.env) (λu s₂=>wpAny (model X.prog X.w) X.A (f v u) Q X.xe s₂) X.xe s₁) X.xe s:=by
 refine thn (ha z4 s σ H _ I h) λv s1 ⟨x,H1,I1,r1,q1⟩=>?_
 refine thn (hb z4 s1 σ H1 _ I1 q1) λu s2 ⟨y,H2,I2,r2,q2⟩=>?_
 exact hf v u s2 x y H2 I2 r1 r2 q2
theorem q19{op:Operator}{r:R2}(ho:OpR X (binaryOp op) r)(ha:PE X a ta)(hb:PE X b tb):PE X (.BinOp a op b pos) (tOp r ta tb):=by
 intro z4 s σ H Q I h
 exact wpAny_BinOp (binT ha hb I h λv u s2 x y H2 I2 rx ry q=>ho z4 s2 σ H2 x y v u Q I2 rx ry q)
theorem qq2{op:UnaryOp}{r:V->Hp->VK->Prop}(ho:UnR X (unaryOp op) r)(ha:PE X a ta):PE X (.UnaryOp op a pos) (tUn r ta):=by
 intro z4 s σ H Q I h
 exact UnaryOp_ (thn (ha z4 s σ H _ I h) λv s1 ⟨x,H1,I1,r1,q1⟩=>ho z4 s1 σ H1 x v Q I1 r1 q1)
theorem opI{f:Value->Value->Sem Value}{C:Int->Int->Prop}{g:Int->Int->Int}
   (rule:∀(i j:Int) (t u:Tok) (s:Shared) (Q:Value->Shared->Prop) (E:Value->Shared->Prop),C i j->Q (.int (g i j) s.toks) {s with toks:=s.toks+1}->wpAny (model X.prog X.w) X.A (f (.int i t) (.int j u)) Q E s):
   OpR X f (rI C λi j=>.int (g i j)):=by
 intro z4 s σ H x y v u Q I rx ry h
 obtain⟨i,j,rfl,rfl,hc,q⟩:=h
 obtain⟨t,rfl⟩:=rx
 obtain⟨t',rfl⟩:=ry
 exact rule i j t t' s _ _ hc ⟨.int (g i j),H,I.tok _,⟨_,rfl⟩,q⟩
theorem opI0{f:Value->Value->Sem Value}{g:Int->Int->Int}
   (rule:∀(i j:Int) (t u:Tok) (s:Shared) (Q:Value->Shared->Prop) (E:Value->Shared->Prop),Q (.int (g i j) s.toks) {s with toks:=s.toks+1}->wpAny (model X.prog X.w) X.A (f (.int i t) (.int j u)) Q E s):
   OpR X f (rI0 λi j=>.int (g i j)):=by
 intro z4 s σ H x y v u Q I rx ry h
 obtain⟨i,j,rfl,rfl,q⟩:=h
 obtain⟨t,rfl⟩:=rx
 obtain⟨t',rfl⟩:=ry
 exact rule i j t t' s _ _ ⟨.int (g i j),H,I.tok _,⟨_,rfl⟩,q⟩
theorem opB0{f:Value->Value->Sem Value}{g:Int->Int->Bool}
   (rule:∀(i j:Int) (t u:Tok) (s:Shared) (Q:Value->Shared->Prop) (E:Value->Shared->Prop),Q (.bool (g i j)) s->wpAny (model X.prog X.w) X.A (f (.int i t) (.int j u)) Q E s):
   OpR X f (rI0 λi j=>.bl (g i j)):=by
 intro z4 s σ H x y v u Q I rx ry h
 obtain⟨i,j,rfl,rfl,q⟩:=h
 obtain⟨t,rfl⟩:=rx
 obtain⟨t',rfl⟩:=ry
 exact rule i j t t' s _ _ ⟨.bl (g i j),H,I,rfl,q⟩
def CDiv(i j:Int):Prop:=0<j/\j<1073741824
def CPow(i j:Int):Prop:=0<=j/\j<=1000000/\i.natAbs<2^64
def CMul(i j:Int):Prop:=(-(2^64)<i/\i<2^64)∨(-(2^64)<j/\j<2^64)
theorem CMul.ok{i j:Int}(h:CMul i j):IntMulOk i j:=by
 rcases h with⟨h1,h2⟩|⟨h1,h2⟩
 · exact .of_left (intBits_le_64 h1 h2)
 · exact .of_right (intBits_le_64 h1 h2)
theorem qas(k:Nat):(0:Int)<=2^k:=by
 rw[two_pow_cast]
 exact Int.natCast_nonneg _
theorem op_add:OpR X (binaryOp .Add) (rI0 λi j=>.int (i+j)):=opI0 λ_ _ _ _ _ _ _ q=>add_int q
theorem qd1:OpR X (binaryOp .Sub) (rI0 λi j=>.int (i-j)):=opI0 λ_ _ _ _ _ _ _ q=>sub_int q
theorem qd4:OpR X (binaryOp .FloorDiv) (rI CDiv λi j=>.int (i / j)):=opI λi j _ _ _ _ _ hc q=>by
 have h1:(0:Int)<j:=hc.1
 have h2:j<1073741824:=hc.2
 exact floordiv_int (by omega) (by rw[Int.fdiv_eq_ediv_of_nonneg i (by omega)];exact q) (.inl (PyProof.noPylong_small (by omega)))
theorem q3x:OpR X (binaryOp .Mod) (rI (λ_ j=>0<j) λi j=>.int (i % j)):=opI λi j _ _ _ _ _ hc q=>by
 have h1:(0:Int)<j:=hc
 exact mod_int' (by omega) (by rw[Int.fmod_eq_emod_of_nonneg i (by omega)];exact q)
theorem qhk:OpR X (binaryOp .Pow) (rI CPow λi j=>.int (i^j.toNat)):=opI λ_ _ _ _ _ _ _ hc q=>pow_int_small hc.1 hc.2.1 hc.2.2 q
theorem q9r:OpR X (binaryOp .LShift) (rI CPow λi j=>.int (i*2^j.toNat)):=opI λ_ _ _ _ _ _ _ hc q=>lshift_int_small hc.1 hc.2.1 hc.2.2 q
theorem qhj:OpR X (binaryOp .RShift) (rI (λ_ j=>0<=j) λi j=>.int (i / 2^j.toNat)):=opI λi j _ _ _ _ _ hc q=>
 rshift_int hc (by rw[Int.fdiv_eq_ediv_of_nonneg i (qas _)];exact q)
theorem q9t:OpR X (binaryOp .BitAnd) (rI0 λi j=>.int (Builtin.bitAnd i j)):=opI0 λ_ _ _ _ _ _ _ q=>and_int q
theorem qn6:OpR X (binaryOp .BitXor) (rI0 λi j=>.int (Builtin.bitXor i j)):=opI0 λ_ _ _ _ _ _ _ q=>xor_int q
theorem unI{f:Value->Sem Value}{g:Int->Int}
   (rule:∀(i:Int) (t:Tok) (s:Shared) (Q:Value->Shared->Prop) (E:Value->Shared->Prop),Q (.int (g i) s.toks) {s with toks:=s.toks+1}->wpAny (model X.prog X.w) X.A (f (.int i t)) Q E s):
   UnR X f (rU λi=>.int (g i)):=by
 intro z4 s σ H x v Q I rx h
 obtain⟨i,rfl,q⟩:=h
 obtain⟨t,rfl⟩:=rx
 exact rule i t s _ _ ⟨.int (g i),H,I.tok _,⟨_,rfl⟩,q⟩
theorem qlx:UnR X (unaryOp .USub) (rU λi=>.int (-i)):=unI λ_ _ _ _ _ q=>neg_int q
end
section
variable{X:Cx}{a b c:Expr}{ta tb tc:TE}{pos:Pos}
theorem qoy{z4:List (Addr×Obj)}{σ:St}{H:Hp}{s:Shared}{Q:VK}{k k':Bool}(I:Inv X z4 σ H s)(q:Q (.bl k) H)(e:k=k'):EP X z4 σ Q (.bool k') s:=by
 subst e
 exact⟨.bl k,H,I,rfl,q⟩
theorem qb1:OpR X (compareOp .Gt) (rI0 λi j=>.bl (decide (j<i))):=opB0 λ_ _ _ _ _ _ _ q=>gt_int q
theorem qd3:OpR X (compareOp .IsNot) (λx y H Q=>y=.non/\Q (.bl (!decide (x=.non))) H):=by
 intro z4 s σ H x y v u Q I rx ry h
 obtain⟨rfl,q⟩:=h
 cases ry
 refine isnot_none_gen (qoy I q ?_)
 cases x<;>first
   |(cases rx;rfl)
   |(obtain⟨t,rfl⟩:=rx;rfl)
theorem OpR.or{f:Value->Value->Sem Value}{r r':R2}(h:OpR X f r)(h':OpR X f r'):OpR X f (λx y H Q=>r x y H Q∨r' x y H Q):=by
 intro z4 s σ H x y v u Q I rx ry q
 rcases q with q|q
 · exact h z4 s σ H x y v u Q I rx ry q
 · exact h' z4 s σ H x y v u Q I rx ry q
theorem q1z(b:Expr){op:CmpOp}(h:op≠.In:=by decide)(h2:op≠.NotIn:=by decide):behindInMarks op b=false:=by
 have e1:(op==CmpOp.In)=false:=by cases op<;>first|rfl|exact absurd rfl h
 have e2:(op==CmpOp.NotIn)=false:=by cases op<;>first|rfl|exact absurd rfl h2
 cases b<;>simp[behindInMarks,e1,e2]
theorem qcw{op:CmpOp}{r:R2}(ho:OpR X (compareOp op) r)(ha:PE X a ta)(hb:PE X b tb)(hm:behindInMarks op b=false):PE X (.Compare a [op] [b] pos) (tOp r ta tb):=by
 intro z4 s σ H Q I h
 exact wpAny_Compare1 (binT ha hb I h λv u s2 x y H2 I2 rx ry q=>ho z4 s2 σ H2 x y v u Q I2 rx ry q) hm
def qm2(t:TE):TT:=λσ H Q=>t σ H λx H'=>∃k,x=.bl k/\Q k H'
theorem q12{op:CmpOp}{r:R2}(ho:OpR X (compareOp op) r)(ha:PE X a ta)(hb:PE X b tb)(hm:behindInMarks op b=false):PT X (.Compare a [op] [b] pos) (qm2 (tOp r ta tb)):=by
 intro z4 s σ H Q I h
 refine wpAny_isTrue_Compare1 (thn (ha z4 s σ H _ I h) λv s1 ⟨x,H1,I1,r1,q1⟩=>thn (hb z4 s1 σ H1 _ I1 q1) λu s2 ⟨y,H2,I2,r2,q2⟩=>
   thn (ho z4 s2 σ H2 x y v u _ I2 r1 r2 q2) λc s3 ⟨z,H3,I3,r3,k,e,q3⟩=>?_) hm
 subst e
 cases r3
 exact wpAny_truthy_bool ⟨H3,I3,q3⟩
theorem q82:(sizeLine:Nat)<2^63:=by rw[sizeLine_eq];decide
theorem qb2:OpR X (binaryOp .Add) (λx y H Q=>∃i j,x=.str i/\y=.str j/\i.length+j.length<=sizeLine/\Q (.str (i++j)) H):=by
 intro z4 s σ H x y v u Q I rx ry h
 obtain⟨i,j,rfl,rfl,hz,q⟩:=h
 obtain⟨t,rfl⟩:=rx
 obtain⟨t',rfl⟩:=ry
 exact add_str (λt' tk=>⟨.str (i++j),H,I.tok _,⟨_,rfl⟩,q⟩) hz
theorem vals1{x:V}{us:List Value}(r:Vals [x] us):∃u,us=[u]/\RelV x u:=by
 cases r with
 |cons r1 r2=>cases r2;exact⟨_,rfl,r1⟩
theorem vals2{x y:V}{us:List Value}(r:Vals [x,y] us):∃u w',us=[u,w']/\RelV x u/\RelV y w':=by
 cases r with
 | cons r1 r2=>
   cases r2 with
   |cons r3 r4=>cases r4;exact⟨_,_,rfl,r1,r3⟩
theorem qeq:q4h X (.type "int") (λxs H Q=>(∃i,xs=[.int i]/\Q (.int i) H)∨∃k,xs=[.bl k]/\Q (.int (if k then 1 else 0)) H):=by
 intro z4 s σ H xs us Q I r h
 rcases h with⟨i,rfl,q⟩|⟨k,rfl,q⟩
 · obtain⟨u,rfl,t,rfl⟩:=vals1 r
   exact call_int_int ⟨.int i,H,I,⟨_,rfl⟩,q⟩
 · obtain⟨u,rfl,r1⟩:=vals1 r
   cases r1
   exact call_int_bool ⟨.int (if k then 1 else 0),H,I.tok _,⟨_,rfl⟩,q⟩
end
structure ObjM(h:Heap)(x dx C:Addr)(mA:Str->Option Value):Prop where
 obj:h.get? x=some (PySem.W.instObj C dx)
 ns:h.Ns1 dx mA
 ne:dx≠x
theorem qdm{h:Heap}{dx:Addr}{mA:Str->Option Value}(n:h.Ns1 dx mA):∃od,h.get? dx=some od/\∀name,PySem.W.lookIn name od=some (mA name):=by
 obtain⟨o,es,ep,ho,hd,hk,_,hm⟩:=n
 refine⟨o,ho,λname=>?_⟩
 have e:=hm name
 unfold nsFind findBy at e
 rw[<-Array.find?_toList]at e
 unfold PySem.W.lookIn
 rw[hd]
 dsimp only
 split
 · rename_i y q
   rw[q]at e
   exact congrArg some e
 · rename_i q
   rw[q]at e
   have a:es.toList.any (·.refKey)=false:=by
     rw[List.any_eq_false]
     intro y hy
     obtain⟨z,t,hkey⟩:=hk y (Array.mem_toList_iff.mp hy)
     simp[DictEntry.refKey,hkey]
   have a':¬es.toList.any (·.refKey)=true:=by rw[a];exact Bool.false_ne_true
   rw[if_neg a']
   exact congrArg some e
theorem ObjM.look{h:Heap}{x dx C:Addr}{mA:Str->Option Value}(I:ObjM h x dx C mA):∃od,PySem.W.InstAt h x (PySem.W.instObj C dx) C (some od)/\∀name,PySem.W.lookIn name od=some (mA name):=
 let ⟨od,ho,hl⟩:=qdm I.ns
 ⟨od,⟨I.obj,rfl,rfl,ho⟩,hl⟩
section
variable{prog:Program}{w:World}{A:Around}{E:Value->Shared->Prop}{s:Shared}{K:PySem.W.Frag}{x dx C f:Addr}{mA:Str->Option Value}{name:Str}{v:Value}
end
theorem RelO.some_of{v:V}{o:Option Value}(r:RelO (some v) o):∃u,o=some u/\RelV v u:=by
 cases o with
 |none=>exact(show False from r).elim
 |some u=>exact⟨u,rfl,r⟩
section
variable{P:Program}{w:World}{H H':Hp}{h h':Heap}{a C dx:Addr}{fs fs':List (Str×V)}
theorem qkk(hok:HOk P w H h)(e:H a=some (.ins C dx fs)):∃mA,ObjM h a dx C mA/\(∀f,RelO (fs.lookup f) (mA f))/\PySem.Within mA (fs.map (·.1))/\fs.length<=1000/\H dx=some (.own a):=by
 obtain⟨d,z,ne,ob,mA,n,r,q⟩:=(show ObjOk P w H h a (.ins C dx fs)from hok a _ e)
 exact⟨mA,⟨ob,n,ne⟩,r,q,z,d⟩
end
structure Cls(K:PySem.W.Frag)(C:Addr):Prop where
 pg:PySem.W.plainGet K C Str.empty=true
 hd:PySem.W.hasDictIn K C=true
 po:PySem.W.plainOver K C=true
 sa:PySem.W.findIn K (.ref C) "__setattr__"=some (some (.builtin "object.__setattr__"))
theorem Cls.get{K:PySem.W.Frag}{C:Addr}(c:Cls K C)(f:Str):PySem.W.plainGet K C f=true:=c.pg
structure Con(K:PySem.W.Frag)(C:Addr)(f:Str)(v:V)(u:Value):Prop where
 at_:PySem.W.findIn K (.ref C) f=some (some u)
 rel:RelV v u
 get:PySem.W.specialIn K u "__get__"=some none
 cp:PySem.W.copiedNames.contains f=false
structure Meth(K:PySem.W.Frag)(C:Addr)(m:Str)(f:Addr):Prop where
 at_:PySem.W.findIn K (.ref C) m=some (some (.ref f))
 fn:PySem.W.isFn K (.ref f)=true
 kp:PySem.W.keepIn K (.ref f)=true
section
variable{X:Cx}{z4:List (Addr×Obj)}{σ:St}{H:Hp}{s:Shared}{a C dx:Addr}{fs:List (Str×V)}{f:Str}{v:V}{A:Around}{E:Value->Shared->Prop}
end
section
variable{X:Cx}{o e value:Expr}{f:Str}{pos zr tpos:Pos}{ta tv:TE}
end
section
variable{X:Cx}{z4:List (Addr×Obj)}{σ:St}{H:Hp}{s:Shared}{A:Around}{E:Value->Shared->Prop}{Q:Value->Shared->Prop}{c:Value}{b:Bool}
inductive TyOf(K:PySem.W.Frag)(H:Hp):V->Value->Prop where
 |non:TyOf K H .non (.type "NoneType")
 |bl (x:Bool):TyOf K H (.bl x) (.type "bool")
 |int (i:Int):TyOf K H (.int i) (.type "int")
 |str (x:Str):TyOf K H (.str x) (.type "str")
 |flt (x:UInt64):TyOf K H (.flt x) (.type "float")
 |lst {a:Addr} {xs:List V} (e:H a=some (.lst xs)):TyOf K H (.ref a) (.type "list")
 |frz {a:Addr} {o:Obj} {xs:List V} (e:H a=some (.frz o (.lst xs))):TyOf K H (.ref a) (.type "list")
 |tup {a:Addr} {xs:List V} (e:H a=some (.tup xs)):TyOf K H (.ref a) (.type "tuple")
 |dK {a:Addr} {kvs:List (Key×V)} (e:H a=some (.dK kvs)):TyOf K H (.ref a) (.type "dict")
 |dT {a:Addr} {kvs:List (List Key×V)} (e:H a=some (.dT kvs)):TyOf K H (.ref a) (.type "dict")
 |ins {a C dx:Addr} {fs:List (Str×V)} (e:H a=some (.ins C dx fs)) (cl:Cls K C) (ha:PySem.W.findIn K (.ref C) "__class__"=some (some (.builtin "object.__class__")))
     (hn:PySem.W.specialIn K (.builtin "object.__class__") "__get__"=some (some (.builtin "getset_descriptor.__get__"))) (htk:PySem.W.takesIn K (.builtin "object.__class__")=some true)
     (hm:PySem.W.mroIn K C (.type "object")=some true):TyOf K H (.ref a) (.ref C)
theorem qdx{x:V}{u t:Value}(I:Inv X z4 σ H s)(rx:RelV x u)(ty:TyOf X.K H x t)(e:PySem.W.kitOne X.K t c=some b)(h:∀tk,Q (.bool b) {s with toks:=tk}):
   wpAny (model X.prog X.w) A (call (.builtin "isinstance") [u,c]) Q E s:=by
 cases ty with
 |non=>cases(show u=Value.none from rx);exact PySem.W.kia_one PySem.W.kitx_none I.kIn True.intro e (λz=>nomatch z) h
 |bl y=>cases(show u=Value.bool y from rx);exact PySem.W.kia_one PySem.W.kitx_bool I.kIn True.intro e (λz=>nomatch z) h
 |int i=>obtain⟨t,q⟩:=(show∃t,u=Value.int i t from rx);cases q;exact PySem.W.kia_one PySem.W.kitx_int I.kIn True.intro e (λz=>nomatch z) h
 |str y=>obtain⟨t,q⟩:=(show∃t,u=Value.str y t from rx);cases q;exact PySem.W.kia_one PySem.W.kitx_str I.kIn True.intro e (λz=>nomatch z) h
 |flt y=>obtain⟨t,q⟩:=(show∃t,u=Value.float y t from rx);cases q;exact PySem.W.kia_one PySem.W.kitx_float I.kIn True.intro e (λz=>nomatch z) h
 | @lst a xs ea=>
   cases(show u=Value.ref a from rx)
   obtain⟨_,_,n,_,h1⟩:=(show ObjOk X.prog X.w H s.heap a (.lst xs)from I.hok a _ ea)
   exact PySem.W.kia_one PySem.W.kitx_list I.kIn ⟨_,h1,rfl⟩ e (λz=>nomatch z) h
 | @frz a ob xs ea=>
   cases(show u=Value.ref a from rx)
   obtain⟨_,_,_,n,_,h1⟩:=(show ObjOk X.prog X.w H s.heap a (.frz ob (.lst xs))from I.hok a _ ea)
   exact PySem.W.kia_one PySem.W.kitx_list I.kIn ⟨_,h1,rfl⟩ e (λz=>nomatch z) h
 | @tup a xs ea=>
   cases(show u=Value.ref a from rx)
   obtain⟨_,_,_,p⟩:=(show ObjOk X.prog X.w H s.heap a (.tup xs)from I.hok a _ ea)
   obtain⟨o,h1,⟨h2,_⟩,_⟩:=p
   exact PySem.W.kia_one PySem.W.kitx_tuple I.kIn ⟨o,h1,h2⟩ e (λz=>nomatch z) h
 | @dK a kvs ea=>
   cases(show u=Value.ref a from rx)
   obtain⟨_,_,vs,_,p⟩:=(show ObjOk X.prog X.w H s.heap a (.dK kvs)from I.hok a _ ea)
   obtain⟨o,es,h1,h2,_⟩:=p
   exact PySem.W.kia_one PySem.W.kitx_dict I.kIn ⟨o,h1,h2.1⟩ e (λz=>nomatch z) h
 | @dT a kvs ea=>
   cases(show u=Value.ref a from rx)
   obtain⟨_,_,xs,_,o,es,ep,h1,h2,_⟩:=(show ObjOk X.prog X.w H s.heap a (.dT kvs)from I.hok a _ ea)
   exact PySem.W.kia_one PySem.W.kitx_dict I.kIn ⟨o,h1,h2.1⟩ e (λz=>nomatch z) h
 | @ins a C dx fs ea cl ha hn htk hm=>
   cases(show u=Value.ref a from rx)
   obtain⟨mA,O,_⟩:=qkk I.hok ea
   obtain⟨od,J,_⟩:=O.look
   exact PySem.W.kia_one (PySem.W.kitx_own (cl.get _) cl.hd ha hn htk hm) I.kIn J e (λz=>nomatch z) h
end
structure Room(k:Nat)(A:Around):Prop where
 hd:A.handled=none
 dp:A.depth+3*k+5<recursionLimit
 un:A.units+16*k+200<cLine
theorem Room.mono{j k:Nat}{A:Around}(r:Room k A)(h:j<=k):Room j A:=⟨r.hd,by have:=r.dp;omega,by have:=r.un;omega⟩
theorem Room.m{j k:Nat}{A:Around}(r:Room k A)(h:j<=k:=by decide):Room j A:=r.mono h
theorem Room.deeper{k:Nat}{A:Around}(r:Room (k+1) A)(env:Env):Room k (A.deeper env):=
 ⟨r.hd,by have:=r.dp;show A.depth+1+3*k+5<_;omega,by have:=r.un;show A.units+3+16*k+200<_;omega⟩
theorem Room.in1{k:Nat}{A:Around}(r:Room (k+1) A):Room k A.in1:=
 ⟨r.hd,by have:=r.dp;show A.depth+3*k+5<_;omega,by have:=r.un;show A.units+1+16*k+200<_;omega⟩
theorem Room.depth{k:Nat}{A:Around}(r:Room k A):A.depth<recursionLimit:=by have:=r.dp;omega
theorem Room.units{k:Nat}{A:Around}(r:Room k A):A.units+64<cLine:=by have:=r.un;omega
def tNil:TA:=λ_ H Q=>Q [] H
def q2x(ta:TE)(tr:TA):TA:=λσ H Q=>ta σ H λx H1=>tr σ H1 λxs H2=>Q (x::xs) H2
section
variable{X:Cx}{e:Expr}{es:List Expr}{te:TE}{t:TA}{pos:Pos}
theorem q04:PA X [] tNil:=λ_ _ _ _ H Q I h=>Calls.spliced_nil ⟨[],H,I,.nil,h⟩
theorem q00(ha:PE X e te)(hr:PA X es t)(hs:starEach (e::es) X.env=(false,eval e X.env)::starEach es X.env:=by rfl):PA X (e::es) (q2x te t):=by
 intro pos z4 s σ H Q I h
 rw[hs]
 show wpAny _ _ (spliced ((false,eval e X.env)::backTo pos (starEach es X.env))) _ _ s
 refine Calls.spliced_cons (thn (ha z4 s σ H _ I h) λu s1 ⟨x,H1,I1,r1,q1⟩=>?_)
 exact thn (hr pos z4 s1 σ H1 _ I1 q1) λus s2 ⟨xs,H2,I2,r2,q2⟩=>⟨x::xs,H2,I2,.cons r1 r2,q2⟩
def tTup(t:TA):TE:=λσ H Q=>t σ H λxs H1=>xs.length<=sizeLine/\∀p,H1 p=none->Q (.ref p) (upd H1 p (.tup xs))
def tLst(t:TA):TE:=λσ H Q=>t σ H λxs H1=>xs.length<=sizeLine/\∀p,H1 p=none->Q (.ref p) (upd H1 p (.lst xs))
theorem q30{x1}(h:PA X es t):PE X (.Tuple es x1 pos) (tTup t):=by
 intro z4 s σ H Q I hq
 refine wpAny_Tuple_spliced (thn (h pos z4 s σ H _ I hq) λus s1 ⟨xs,H1,I1,r,z,q⟩=>⟨by rw[<-r.length];exact z,?_⟩)
 have hf:H1 s1.heap.objs.size=none:=I1.hok.fresh (jc _)
 refine⟨.ref s1.heap.objs.size,upd H1 s1.heap.objs.size (.tup xs),I1.laid (t':=s1.toks) (λb u e=>je _ e) (jc _) ?_,rfl,q _ hf⟩
 exact⟨z,us,r,⟨_,jq _ rfl,⟨rfl,_,rfl⟩,rfl⟩⟩
theorem q31(h:PA X es t):PE X (.List es pos) (tLst t):=by
 intro z4 s σ H Q I hq
 refine wpAny_List_spliced (thn (h pos z4 s σ H _ I hq) λus s1 ⟨xs,H1,I1,r,z,q⟩=>⟨by rw[<-r.length];exact z,?_⟩)
 have hf:H1 s1.heap.objs.size=none:=I1.hok.fresh (jc _)
 refine⟨.ref s1.heap.objs.size,upd H1 s1.heap.objs.size (.lst xs),I1.laid (t':=s1.toks) (λb u e=>je _ e) (jc _) ?_,rfl,q _ hf⟩
 exact⟨z,us,0,r,jq _ rfl⟩
end
abbrev Sp:=List V->Hp->VK->XK->Prop
abbrev CXT:=List Env->Hp->Shared->XK->Value->Shared->Prop
structure Env0(P:Program)(w:World)(K:PySem.W.Frag)(mg:Str->Option Value)(base:Heap)(A:Around)(outer:List Env)(s:Shared)(H:Hp):Prop where
 frames:A.frames=some outer
 mod:Mod K mg base
 bs:∀b o,base.get? b=some o->s.heap.get? b=some o/\H b=none
 bsz:base.objs.size<=s.heap.objs.size
 funs:s.heap.FunFrames base outer
 frf:∀b∈frs outer,H b=none
 hok:HOk P w H s.heap
 bare:AllBare s.gens
def CE(outer:List Env)(P:Program)(w:World)(H:Hp)(s:Shared)(Q:VK)(u:Value)(s':Shared):Prop:=
 ∃v H',s'.os=s.os/\AllBare s'.gens/\Un (frs outer) [] H H' s.heap s'.heap/\HOk P w H' s'.heap/\RelV v u/\Q v H'
def CR(CX:CXT)(outer:List Env)(P:Program)(w:World)(H:Hp)(s:Shared)(Q:VK)(E:XK)(r:Result)(s':Shared):Prop:=
 match r with
 |.ok (.ret u)=>CE outer P w H s Q u s'
 |.ok _=>False
 |.error e=>CX outer H s E e s'
structure FnOk(P:Program)(w:World)(K:PySem.W.Frag)(mg:Str->Option Value)(base:Heap)(CX:CXT)(k:Nat)(f:Addr)(fd:FuncData)(ps:List Str)(sp:Sp):Prop where
 len:∀vs H Q E,sp vs H Q E->vs.length=ps.length
 run:∀(A:Around) (outer:List Env) (s:Shared) (H:Hp) (args:Args) (us:List Value) (vs:List V) (Q:VK) (E:XK),Room k A->Env0 P w K mg base A outer s H->BindsTo s fd args (ps.zip us)->Vals vs us->sp vs H Q E->
   codeAny (model P w) A (.call (.ref f) args) (CR CX outer P w H s Q E) s
theorem FnOk.mono{P:Program}{w:World}{K:PySem.W.Frag}{mg:Str->Option Value}{base:Heap}{CX:CXT}{j k:Nat}{f:Addr}{fd:FuncData}{ps:List Str}{sp:Sp}(F:FnOk P w K mg base CX j f fd ps sp)(h:j<=k):
   FnOk P w K mg base CX k f fd ps sp:=⟨F.len,λA outer s H args us vs Q E hr=>F.run A outer s H args us vs Q E (hr.mono h)⟩
theorem FnOk.imp{P:Program}{w:World}{K:PySem.W.Frag}{mg:Str->Option Value}{base:Heap}{CX:CXT}{k:Nat}{f:Addr}{fd:FuncData}{ps:List Str}{sp sp':Sp}(F:FnOk P w K mg base CX k f fd ps sp)
   (h:∀vs H Q E,sp' vs H Q E->sp vs H Q E):FnOk P w K mg base CX k f fd ps sp':=
 ⟨λvs H Q E q=>F.len vs H Q E (h _ _ _ _ q),λA outer s H args us vs Q E hr he hb hv hs=>F.run A outer s H args us vs Q E hr he hb hv (h _ _ _ _ hs)⟩
theorem Env0.in1{P:Program}{w:World}{K:PySem.W.Frag}{mg:Str->Option Value}{base:Heap}{A:Around}{outer:List Env}{s:Shared}{H:Hp}(e:Env0 P w K mg base A outer s H):
   Env0 P w K mg base A.in1 outer s H:=⟨e.frames,e.mod,e.bs,e.bsz,e.funs,e.frf,e.hok,e.bare⟩
section
variable{X:Cx}{z4:List (Addr×Obj)}{σ:St}{H:Hp}{s s':Shared}
theorem Inv.env0(I:Inv X z4 σ H s):Env0 X.prog X.w X.K X.mg X.base X.A X.stack s H:=
 ⟨I.ok.frames,I.ok.mod,I.bs,jy I.ok.bsz I.sz,I.stack,I.stkFree,I.hok,I.bare⟩
theorem Inv.after{Q:VK}{u:Value}(I:Inv X z4 σ H s)(h:CE X.stack X.prog X.w H s Q u s'):EP X z4 σ Q u s':=by
 obtain⟨v,H',os,bare,un,hok,r,q⟩:=h
 obtain⟨hh,g,d,t,os'⟩:=s'
 obtain rfl:os'=s.os:=os
 exact⟨v,H',I.call (h':=hh) (g':=g) (d':=d) (t':=t) (ch:=[]) un hok bare (λb z=>absurd z (by simp)),r,q⟩
end
def q79(sp:Sp)(dvs:List V)(E:XK)(t:TA):TE:=λσ H Q=>t σ H λvs H1=>sp (vs++dvs) H1 Q E
def Binds(K:PySem.W.Frag)(fd:FuncData)(ps:List Str)(ds:List Value):Prop:=
 ∀(s:Shared) (us:List Value),K.In s.heap->(us++ds).length=ps.length->BindsTo s fd ⟨us,[]⟩ (ps.zip (us++ds))
theorem Binds.all{K:PySem.W.Frag}{fd:FuncData}{ps:List Str}(h:∀us:List Value,us.length=ps.length->bindArgs fd ⟨us,[]⟩=pure (ps.zip us)):Binds K fd ps []:=λs us _ hl=>by
 rw[List.append_nil]at hl ⊢
 exact .of_eq (h us hl)
def qf2(CX:CXT)(X:Cx)(E:XK):Prop:=∀(z4:List (Addr×Obj)) (σ:St) (H:Hp) (s:Shared) (e:Value) (s':Shared),Inv X z4 σ H s->CX X.stack H s E e s'->X.xe e s'
section
variable{X:Cx}{CX:CXT}{k:Nat}{f C:Addr}{fd:FuncData}{ps:List Str}{sp:Sp}{dvs:List V}{ds:List Value}{E:XK}{x m:Str}{p pos zq:Pos}{e o:Expr}{es:List Expr}{ta:TE}{t:TA}
theorem qmc{z4:List (Addr×Obj)}{σ:St}{H:Hp}{s:Shared}{Q:VK}{us:List Value}{vs:List V}(F:FnOk X.prog X.w X.K X.mg X.base CX k f fd ps sp)(hr:Room k X.A)(hb:Binds X.K fd ps ds)(hd:Vals dvs ds)(hx:qf2 CX X E)
   (I:Inv X z4 σ H s) (r:Vals vs us) (h:sp (vs++dvs) H Q E):wpAny (model X.prog X.w) X.A (call (.ref f) us) (EP X z4 σ Q) X.xe s:=by
 have r2:Vals (vs++dvs) (us++ds):=r.append hd
 have hl:(us++ds).length=ps.length:=by rw[<-r2.length];exact F.len _ _ _ _ h
 refine wpAny_call (codeAny_mono (F.run X.A X.stack s H ⟨us,[]⟩ (us++ds) (vs++dvs) Q E hr I.env0 (hb s us I.kIn hl) r2 h) λr s' hq=>?_)
 cases r with
 |error e=>exact hx z4 σ H s e s' I hq
 | ok fl=>
   cases fl with
   |ret u=>exact I.after hq
   |next=>exact False.elim hq
   |brk=>exact False.elim hq
   |cont=>exact False.elim hq
theorem q0f(F:FnOk X.prog X.w X.K X.mg X.base CX k f fd ps sp)(hr:Room k X.A)(hg:Gl X x)(hm:X.mg x=some (.ref f))(hk:PySem.W.keepIn X.K (.ref f)=true)(hb:Binds X.K fd ps ds)(hd:Vals dvs ds)(hx:qf2 CX X E)
   (ha:PA X (e::es) t) (hdb:(x==("__debug__":Str))=false:=by decide) (he:starEach (e::es) X.env=(false,eval e X.env)::starEach es X.env:=by rfl) (hpl:(backTo pos (starEach es X.env)).any (·.1)=false:=by rfl):
   PE X (.Call (.Name x p) (e::es) [] pos) (q79 sp dvs E t):=by
 intro z4 s σ H Q I h
 refine kj (qk8 I hg hm ?_ hdb)
 refine PySem.W.callWith_K (h₀:=X.base) I.ok.mod.kin hk (thn (ha pos z4 s σ H _ I h) λus s1 ⟨vs,H1,I1,r,q⟩=>⟨I1.kIn,?_⟩) he hpl
 exact qmc F hr hb hd hx I1 r q
structure Mk(K:PySem.W.Frag)(C f:Addr):Prop where
 makes:PySem.W.makesIn K C=true
 init:PySem.W.findIn K (.ref C) "__init__"=some (some (.ref f))
 fn:PySem.W.isFn K (.ref f)=true
 kp:PySem.W.keepIn K (.ref C)=true
end
section
variable{X:Cx}{CX:CXT}{k:Nat}{f C:Addr}{fd:FuncData}{ps ks:List Str}{sp:Sp}{E:XK}{x m:Str}{p pos zq kpos:Pos}{e o:Expr}{es:List Expr}{kws:List Keyword}{te ta:TE}{t tk:TA}{nm:Option Str}
structure qqu(K:PySem.W.Frag)(fd:FuncData)(ps ks:List Str)(g:List Value->List Value->List Value)(gV:List V->List V->List V):Prop where
 to:∀(s:Shared) (us ws:List Value),K.In s.heap->(g us ws).length=ps.length->BindsTo s fd ⟨us,ks.zip ws⟩ (ps.zip (g us ws))
 rel:∀{vs:List V} {us:List Value} {zs:List V} {ws:List Value},Vals vs us->Vals zs ws->Vals (gV vs zs) (g us ws)
variable{g:List Value->List Value->List Value}{gV:List V->List V->List V}
end
structure q0t(N P:List Str)(sc:Scope):Prop where
 kind:sc.kind=.function
 co:sc.isCoroutine=false
 gen:sc.isGenerator=false
 nd:N.Nodup
 pre:N.take P.length=P
 par:∀x∈P,sc.names.lookup x=some .local∨sc.names.lookup x=some .cell
 nofree:∀y∈sc.names,y.2≠.free
theorem q8h{kindOf:Str->Option NameKind}{x:Str}:∀{zt:List (Str×Value)} {m:Str->Option Value},(∀v,(x,v)∉zt)->bindL kindOf zt m x=m x
 |[],_,_=>rfl
 | (n,v)::r,m,h=>by
   unfold bindL
   rw[q8h λw hw=>h w (jk _ hw)]
   split
   · have:x≠n:=by rintro rfl;exact h v jg
     simp[this]
   · rfl
theorem q8j{kindOf:Str->Option NameKind}{x:Str}:∀{zt:List (Str×Value)} {m:Str->Option Value},(∀v,(x,v)∉zt)->bindC kindOf zt m x=m x
 |[],_,_=>rfl
 | (n,v)::r,m,h=>by
   unfold bindC
   rw[q8j λw hw=>h w (jk _ hw)]
   split
   · rfl
   · have:x≠n:=by rintro rfl;exact h v jg
     simp[this]
theorem q8i{kindOf:Str->Option NameKind}{x:Str}{v:Value}:∀{P:List Str} {vs:List Value} {i:Nat} {m:Str->Option Value},P.Nodup->P[i]? =some x->vs[i]? =some v->kindOf x=some .local->
   bindL kindOf (P.zip vs) m x=some v
 |[],_,_,_,_,h,_,_=>by simp at h
 |_::_,[],_,_,_,_,h,_=>by simp at h
 | p::P,w::vs,0,m,nd,h1,h2,hk=>by
   simp at h1 h2;subst h1;subst h2
   show bindL kindOf ((p,w)::P.zip vs) m p=_
   unfold bindL
   rw[q8h λv hv=>(List.nodup_cons.mp nd).1 (List.of_mem_zip hv).1,if_pos hk]
   simp
 | p::P,w::vs,i+1,m,nd,h1,h2,hk=>by
   show bindL kindOf ((p,w)::P.zip vs) m x=_
   unfold bindL
   exact q8i (i:=i) (List.nodup_cons.mp nd).2 (by simpa using h1) (by simpa using h2) hk
theorem q8k{kindOf:Str->Option NameKind}{x:Str}{v:Value}:∀{P:List Str} {vs:List Value} {i:Nat} {m:Str->Option Value},P.Nodup->P[i]? =some x->vs[i]? =some v->kindOf x≠some .local->
   bindC kindOf (P.zip vs) m x=some v
 |[],_,_,_,_,h,_,_=>by simp at h
 |_::_,[],_,_,_,_,h,_=>by simp at h
 | p::P,w::vs,0,m,nd,h1,h2,hk=>by
   simp at h1 h2;subst h1;subst h2
   show bindC kindOf ((p,w)::P.zip vs) m p=_
   unfold bindC
   rw[q8j λv hv=>(List.nodup_cons.mp nd).1 (List.of_mem_zip hv).1,if_neg hk]
   simp
 | p::P,w::vs,i+1,m,nd,h1,h2,hk=>by
   show bindC kindOf ((p,w)::P.zip vs) m x=_
   unfold bindC
   exact q8k (i:=i) (List.nodup_cons.mp nd).2 (by simpa using h1) (by simpa using h2) hk
def start(N:List Str)(vs:List V):St:=vs.map some++List.replicate (N.length-vs.length) none
def cxOf(CX:CXT)(P:Program)(w:World)(K:PySem.W.Frag)(mg:Str->Option Value)(base:Heap)(N:List Str)(qual:Str)(scope:Scope)(f:Addr)(cd:Value)(A:Around)(outer:List Env)(s:Shared)(H:Hp)(E:XK):Cx where
 prog:=P
 w:=w
 K:=K
 mg:=mg
 base:=base
 A:=A.deeper (envOfC qual scope s.heap.objs.size f cd)
 N:=N
 s₀:=s
 H₀:=H
 env:=envOfC qual scope s.heap.objs.size f cd
 outer:=outer
 stack:=envOfC qual scope s.heap.objs.size f cd::outer
 ex:=[]
 calm:=true
 fn:=λ_=>true
 pn:=[]
 xe:=λe s'=>wpAny (model P w) (A.deeper (envOfC qual scope s.heap.objs.size f cd)) (leaving (envOfC qual scope s.heap.objs.size f cd) e) (λ_ s''=>CX outer H s E e s'') (λe' s''=>CX outer H s E e' s'') s'
theorem qao{sc:Scope}{n:Nat}{x:Str}(h:sc.names.lookup x=some .cell):∃c,(cellsFrom n sc.names []).lookup x=some c:=by
 have q:=PySem.W.cellsFrom_some sc.names n [] (.inl h)
 exact Option.isSome_iff_exists.mp q
theorem qdy{CX:CXT}{P:Program}{w:World}{K:PySem.W.Frag}{mg:Str->Option Value}{base:Heap}{N ps:List Str}{qual:Str}{scope:Scope}{f:Addr}{cd:Value}{A:Around}{outer:List Env}{s s1:Shared}{H:Hp}{E:XK}{us:List Value}{vs:List V}
   (S:q0t N ps scope) (hd:A.handled=none) (e0:Env0 P w K mg base A outer s H) (hl:vs.length=ps.length) (r:Vals vs us)
   (x:InCallC s s.heap.objs.size (bindL (envOfC qual scope s.heap.objs.size f cd).kindOf (ps.zip us) λ_=>none) (cellsFrom (s.heap.objs.size+1) scope.names []) (bindC (envOfC qual scope s.heap.objs.size f cd).kindOf (ps.zip us) λ_=>none) s1):
   Inv (cxOf CX P w K mg base N qual scope f cd A outer s H E) [] (start N vs) H s1:=by
 have hpl:ps.length<=N.length:=by have:=congrArg List.length S.pre;rw[List.length_take]at this;omega
 obtain⟨h1,tk,rfl,hk⟩:=x.done
 have noA:∀b:Addr,b∉(cxOf CX P w K mg base N qual scope f cd A outer s H E).ex:=λb z=>absurd (show b∈([]:List Addr)from z) (by simp)
 refine⟨⟨e0.mod,S.kind,rfl,rfl,jc _,λy z c h1 h2=>?_,λy hy=>?_,λy c _ h=>?_,λ_=>hd,Around.frames_deeper e0.frames,.inr ⟨rfl,rfl⟩,λb z=>absurd z (noA b),e0.bs,e0.bsz,λb _ _=>noA b,λb z=>absurd z (noA b),e0.funs,e0.frf⟩,
   rfl,e0.bare,Un.kept hk,⟨_,x.toInCall.ns,λi y v h1 h2 h3=>?_⟩,λy c h=>⟨_,x.cell y c h⟩,e0.hok.fresh (jc _),λy c h=>?_,λp hp=>absurd (show p∈([]:List (Addr×Obj))from hp) (by simp),e0.hok.kept hk,?_⟩
 · exact name_of_addr x.apart (PySem.mem_of_lookup h1) (PySem.mem_of_lookup h2)
 · have hy:scope.names.lookup y=some .cell∨scope.names.lookup y=some .free:=hy
   rcases hy with hy|hy
   · exact qao hy
   · exact absurd rfl (S.nofree _ (PySem.mem_of_lookup hy))
 · exact Nat.le_of_lt (x.above y c (PySem.mem_of_lookup h))
 · have hi:i<vs.length:=by
     unfold start at h2
     by_cases hi:i<vs.length
     · exact hi
     · rw[xr (by simpa using hi)]at h2
       rw[vg]at h2
       split at h2<;>cases h2
   have ha:vs[i]? =some v:=by
     unfold start at h2
     rw[xx (by simpa using hi),jz]at h2
     cases e:vs[i]? with
     |none=>rw[e]at h2;cases h2
     |some a=>rw[e]at h2;cases h2;rfl
   obtain⟨u,hu,rv⟩:=r.get ha
   have hp:ps[i]? =some y:=by
     rw[<-S.pre,List.getElem?_take_of_lt (by omega)];exact h1
   have ndP:ps.Nodup:=by rw[<-S.pre];exact S.nd.sublist (List.take_sublist _ _)
   refine⟨u,rv,?_⟩
   rcases S.par y (va hp)with k|k
   · exact .inl ⟨k,q8i ndP hp hu k⟩
   · obtain⟨c,e⟩:=qao (n:=s.heap.objs.size+1) k
     refine .inr ⟨.inl k,c,e,?_⟩
     have q:=x.cell y c e
     rw[q8k ndP hp hu (by show scope.names.lookup y≠_;rw[k];decide)]at q
     exact q
 · exact e0.hok.fresh (Nat.le_of_lt (x.above y c (PySem.mem_of_lookup h)))
 · unfold start
   show _=N.length
   rw[jr,ja,kc]
   omega
theorem qqn{CX:CXT}{P:Program}{w:World}{K:PySem.W.Frag}{mg:Str->Option Value}{base:Heap}{k:Nat}{f:Addr}{name qual:Str}{params:Arguments}{body:List Stmt}{scope:Scope}{dV kV doc pm cdv ct oc:Value}{an od:Option Addr}
   {osl:Array (Option Value)} {N ps:List Str} {sp:Sp} (lk:K.lookup f=some ⟨oc,od,.func (PySem.W.fnOf name qual params body scope dV kV doc pm an cdv ct),osl⟩) (hcd:PySem.W.codeIn K cdv qual=true) (S:q0t N ps scope)
   (len:∀vs H Q E,sp vs H Q E->vs.length=ps.length)
   (j5:∀(A:Around) (outer:List Env) (s:Shared) (H:Hp) (vs:List V) (Q:VK) (E:XK),Room k (A.deeper (envOfC qual scope s.heap.objs.size f cdv))->sp vs H Q E->
     ∃t,PSs (cxOf CX P w K mg base N qual scope f cdv A outer s H E) body t/\t {nx:=λ_ H'=>Q .non H',rt:=Q} (start N vs) H):
   FnOk P w K mg base CX (k+1) f (PySem.W.fnOf name qual params body scope dV kV doc pm an cdv ct) ps sp:=by
 refine⟨len,λA outer s H args us vs Q E hr e0 hb r hsp=>?_⟩
 have hl:=len _ _ _ _ hsp
 have KX:K.In s.heap:=e0.mod.kin.keeps λb o e=>(e0.bs b o e).1
 have lim:s.heap.NoLimit:=e0.mod.nolimit.keeps λb o e=>(e0.bs b o e).1
 have hkind:∀y∈ps.zip us,scope.names.lookup y.1=some .local∨(scope.names.lookup y.1=some .cell/\((cellsFrom (s.heap.objs.size+1) scope.names []).lookup y.1).isSome=true):=λ⟨n,v⟩ hy=>by
   rcases S.par n (List.of_mem_zip hy).1 with q|q
   · exact .inl q
   · exact .inr ⟨q,PySem.W.cellsFrom_some _ _ _ (.inl q)⟩
 refine codeAny_call_function hr.depth (KX _ _ lk) rfl S.co S.gen rfl (PySem.W.codeRec_of KX hcd) (hb _ _ _ _ ?_)
 refine wpAny_newFunctionEnv_cells S.kind hkind λenv he s1 x=>?_
 subst he
 refine⟨lim.keeps x.toInCall.keep,codeAny_func ?_⟩
 obtain⟨t,ht,hq⟩:=j5 A outer s H vs Q E (hr.deeper _) hsp
 have I:Inv (cxOf CX P w K mg base N qual scope f cdv A outer s H E) [] (start N vs) H s1:=qdy S hr.hd e0 hl r x
 refine x9 (ht [] s1 (start N vs) H _ I hq) (λfl s' hs=>?_) λe s' hs=>hs
 have fin:∀{σ':St} {H':Hp} {v:V} {u:Value},Inv (cxOf CX P w K mg base N qual scope f cdv A outer s H E) [] σ' H' s'->RelV v u->Q v H'->CE outer P w H s Q u s':=
   λ{σ' H' v u} J rv q=>⟨v,H',J.os,J.bare,J.base,J.hok,rv,q⟩
 cases fl with
 | ret u=>
   obtain⟨v,σ',H',J,rv,q⟩:=hs
   exact fin J rv q
 | next=>
   obtain⟨σ',H',J,q⟩:=hs
   exact fin (v:=V.non) (u:=Value.none) J rfl q
 | brk=>
   obtain⟨_,_,_,q⟩:=hs
   exact False.elim q
 | cont=>
   obtain⟨_,_,_,q⟩:=hs
   exact False.elim q
section
variable{X:Cx}{x:Str}{p pos:Pos}{e:Expr}{es:List Expr}{t:TA}{id T:String}{r:List V->Hp->VK->Prop}
def tCB(r:List V->Hp->VK->Prop)(t:TA):TE:=λσ H Q=>t σ H λvs H1=>r vs H1 Q
theorem q13(hc:q4h X (.builtin id) r)(hg:Gl X x)(hm:X.mg x=none)(hv:bootBuiltins x=some (.builtin id))(ha:PA X (e::es) t)(hn:x≠"__name__":=by decide)(hdb:(x==("__debug__":Str))=false:=by decide)
   (he:starEach (e::es) X.env=(false,eval e X.env)::starEach es X.env:=by rfl) (hpl:(backTo pos (starEach es X.env)).any (·.1)=false:=by rfl):PE X (.Call (.Name x p) (e::es) [] pos) (tCB r t):=by
 intro z4 s σ H Q I h
 refine kj (q42 I hg hm hv ?_ hn hdb)
 exact PyProof.Rows.callWith_builtin1 (thn (ha pos z4 s σ H _ I h) λus s1 ⟨vs,H1,I1,r1,q1⟩=>hc z4 s1 σ H1 vs us Q I1 r1 q1) he hpl
theorem q2a(hc:q4h X (.type T) r)(hg:Gl X x)(hm:X.mg x=none)(hv:bootBuiltins x=some (.type T))(ha:PA X (e::es) t)(hn:x≠"__name__":=by decide)(hdb:(x==("__debug__":Str))=false:=by decide)
   (he:starEach (e::es) X.env=(false,eval e X.env)::starEach es X.env:=by rfl) (hpl:(backTo pos (starEach es X.env)).any (·.1)=false:=by rfl):PE X (.Call (.Name x p) (e::es) [] pos) (tCB r t):=by
 intro z4 s σ H Q I h
 refine kj (q42 I hg hm hv ?_ hn hdb)
 exact PyProof.Rows.callWith_type1 (thn (ha pos z4 s σ H _ I h) λus s1 ⟨vs,H1,I1,r1,q1⟩=>hc z4 s1 σ H1 vs us Q I1 r1 q1) he hpl
end
end L2
namespace HT
open PySem PyProof.Rows
theorem eqAt_int(A:Around)(s:Shared)(a:Int)(t:Tok)(c:Int)(u:Tok):∃e,SeqAt.EqAt A s (.int a t) (.int c u) e/\(e=true↔a=c):=
 ⟨(a==c),SeqAt.EqAt.int_int a t c u,by simp⟩
section
open PySem.SeqAt
open PySem.AutoSeq1 (wpAny_loadPart')
open PySem.MeetsSeq PySem.MeetsSeq2 PySem.MeetsSeq3
end
section
variable{prog:Program}{w:World}{A:Around}{E:Value->Shared->Prop}{s:Shared}
def sIx(n d:Nat):Option Int->Nat
 |none=>d
 |some v=>if v<0 then(v+(n:Int)).toNat else min v.toNat n
theorem sIx_none(n d:Nat):sIx n d none=d:=rfl
theorem qmb(n d:Nat)(hd:d<=n)(o:Option Int):sIx n d o<=n:=by
 cases o with
 |none=>exact hd
 | some v=>
   show(if v<0 then(v+(n:Int)).toNat else min v.toNat n)<=n
   by_cases hv:v<0
   · rw[if_pos hv];omega
   · rw[if_neg hv];exact Nat.min_le_right _ _
theorem qel(v:Int)(n d:Nat):(if v<0 then max (v+(n:Int)) 0 else min v (n:Int))=((sIx n d (some v):Nat):Int):=by
 show(if v<0 then max (v+(n:Int)) 0 else min v (n:Int))=(((if v<0 then(v+(n:Int)).toNat else min v.toNat n):Nat):Int)
 by_cases hv:v<0
 · simp only[if_pos hv];omega
 · simp only[if_neg hv];omega
theorem qbe(lo hi:Option Int)(n:Nat):Builtin.Slice.sliceAdjust lo hi 1 (n:Int)=(((sIx n 0 lo:Nat):Int),((sIx n n hi:Nat):Int)):=by
 have h1:¬((1:Int)<0):=by omega
 unfold Builtin.Slice.sliceAdjust
 simp only[h1,if_false]
 refine Prod.ext ?_ ?_
 · cases lo with
   |none=>rfl
   |some v=>exact qel v n 0
 · cases hi with
   |none=>rfl
   |some v=>exact qel v n n
theorem qb0(i j:Nat):Builtin.Slice.slicePlaces (i:Int) (j:Int) 1=j-i:=by
 unfold Builtin.Slice.slicePlaces
 have h1:(1:Int)>0:=by omega
 simp only[h1,if_true,Int.ediv_one]
 split<;>omega
theorem q5t{v:Value}{o:Option Int}{Q:Option Int->Shared->Prop}(p:IsPart v o)(h:Q o s):wpAny (model prog w) A (Builtin.Slice.slicePartIndex v) Q E s:=by
 cases p with
 |none=>exact slicePart_none h
 |int i t=>exact slicePart_int h
theorem q4m{sl:Addr}{vl vu:Value}{lo hi:Option Int}{n:Nat}{Q:Int×Int×Nat->Shared->Prop}(hs:s.heap.IsSliceOf sl vl vu .none)(pl:IsPart vl lo)(pu:IsPart vu hi)
   (h:Q (((sIx n 0 lo:Nat):Int),1,sIx n n hi-sIx n 0 lo) s):wpAny (model prog w) A (Builtin.Slice.sliceApplied (.ref sl) (pure (n:Int))) Q E s:=by
 obtain⟨os,hos,hcs,hds⟩:=id hs
 unfold Builtin.Slice.sliceApplied Builtin.Slice.sliceFields
 refine j7 (j7 (x8 hos hds (x:=vl) rfl (j7 (x8 hos hds (x:=vu) rfl (j7 (x8 hos hds (x:=.none) rfl (j8 ?_)))))))
 refine j7 (slicePart_none ?_)
 show wpAny _ _ (if((1:Int)==0)=true then _ else _) _ _ s
 rw[if_neg (by decide)]
 refine j7 (q5t pl (j7 (q5t pu (j7 (j8 ?_)))))
 show wpAny _ _ (match Builtin.Slice.sliceAdjust lo hi 1 (n:Int)with|(lo,hi)=>pure (lo,(1:Int),Builtin.Slice.slicePlaces lo hi 1)) _ _ s
 rw[qbe lo hi n]
 show wpAny _ _ (pure (((sIx n 0 lo:Nat):Int),(1:Int),Builtin.Slice.slicePlaces ((sIx n 0 lo:Nat):Int) ((sIx n n hi:Nat):Int) 1)) _ _ s
 rw[qb0]
 exact j8 h
theorem qfm(xs:Array Value)(i k:Nat):((List.range k).filterMap λ(m:Nat)=>xs[((i:Int)+(m:Int)*1).toNat]?).toArray=((xs.toList.drop i).take k).toArray:=by
 have e:(λ(m:Nat)=>xs[((i:Int)+(m:Int)*1).toNat]?)=λm=>xs[i+m]? :=by
   funext m
   have:((i:Int)+(m:Int)*1).toNat=i+m:=by omega
   rw[this]
 rw[e]
 have:=pick_run xs i k
 rw[List.filterMap_map]at this
 have e2:((λx=>xs[x]?)∘λx=>i+x)=λm=>xs[i+m]? :=rfl
 rw[e2]at this
 rw[this]
theorem getItem_tuple_cut{t sl:Addr}{items:Array Value}{vl vu:Value}{lo hi:Option Int}{Q:Value->Shared->Prop}(ht:IsTup s.heap t items)(hs:s.heap.IsSliceOf sl vl vu .none)(pl:IsPart vl lo)(pu:IsPart vu hi)
   (hw:¬(sIx items.size 0 lo=0/\sIx items.size items.size hi=items.size))
   (h:Q (.ref s.heap.objs.size) {s with heap:=s.heap.push {cls:=.type "tuple",data:=.seq ((items.toList.drop (sIx items.size 0 lo)).take (sIx items.size items.size hi-sIx items.size 0 lo)).toArray}})
   (hsz:items.size<=sizeLine):wpAny (model prog w) A (getItem (.ref t) (.ref sl)) Q E s:=by
 have htake:sizeOk (.seq ((items.toList.drop (sIx items.size 0 lo)).take (sIx items.size items.size hi-sIx items.size 0 lo)).toArray):=by
   show((items.toList.drop (sIx items.size 0 lo)).take (sIx items.size items.size hi-sIx items.size 0 lo)).toArray.size<=sizeLine
   rw[jw,List.length_take,vc,Array.length_toList]
   omega
 have hj:sIx items.size items.size hi<=items.size:=qmb _ _ (jc _) hi
 obtain⟨os,hos,hcs,hds⟩:=id hs
 have hTs:s.TypeIs (.ref sl) "slice":=⟨os,hos,hcs⟩
 unfold getItem
 try with_reducible refine x5 ?_
 first|refine j7 (j8 ?_)|skip
 refine j7 (wpAny_sequenceKey ht.typeIs (by decide) ?_)
 refine j7 (k8 (name:=Str.ofString "__getitem__") ht.typeIs PyProof.Rows.slot_tuple_getitem
   (xj PyProof.Rows.slot_tuple_getitem ht.typeIs entry_tuple_getitem ?_ (args_tuple_getitem _ _)))
 show wpAny _ _ (Builtin.Tuple.tupleItemsOf (.ref t) >>= _) _ _ s
 refine j7 (tupleItemsOf_ ht ?_)
 refine j7 (wpAny_typeOf hTs ?_)
 rw[if_pos (by decide)]
 refine j7 (q4m hs pl pu ?_)
 have hno:¬((((sIx items.size 0 lo:Nat):Int)==0&&(1:Int)==1&&(sIx items.size items.size hi-sIx items.size 0 lo)==items.size)=true):=by
   intro q
   rw[Bool.and_eq_true,Bool.and_eq_true]at q
   have q1:((sIx items.size 0 lo:Nat):Int)=0:=eq_of_beq q.1.1
   have q2:sIx items.size items.size hi-sIx items.size 0 lo=items.size:=eq_of_beq q.2
   exact hw ⟨by omega,by omega⟩
 show wpAny _ _ (if(((sIx items.size 0 lo:Nat):Int)==0&&(1:Int)==1&&(sIx items.size items.size hi-sIx items.size 0 lo)==items.size)=true then _ else _) _ _ s
 rw[if_neg hno,qfm]
 first
   |exact j7 (m:=Builtin.Tuple.tupleExact _) (xf (j8 ⟨_,rfl,j8 h⟩) htake)
   |exact j7 (m:=Builtin.Tuple.tupleExact _) (xf (j7 (j8 (j8 ⟨_,rfl,j8 h⟩))) htake)
   |exact j7 (j7 (m:=Builtin.Tuple.tupleExact _) (xf (j8 (j8 ⟨_,rfl,j8 h⟩)) htake))
   |exact j7 (j7 (m:=Builtin.Tuple.tupleExact _) (xf (j8 ⟨_,rfl,j8 h⟩) htake))
end
end HT
namespace L2
open PySem PySem.Spec PyProof.Rows
abbrev TO:=St->Hp->(Option Int->Hp->Prop)->Prop
def PO(X:Cx)(e:Option Expr)(t:TO):Prop:=
 ∀(z4:List (Addr×Obj)) (s:Shared) (σ:St) (H:Hp) (Q:Option Int->Hp->Prop),Inv X z4 σ H s->t σ H Q->
   wpAny (model X.prog X.w) X.A (evalPart e X.env) (λu s'=>∃o H',Inv X z4 σ H' s'/\IsPart u o/\Q o H') X.xe s
def qbq:TO:=λ_ H Q=>Q none H
def qm3(t:TE):TO:=λσ H Q=>t σ H λx H1=>∃i,x=.int i/\Q (some i) H1
theorem intsAre_of{ns:List Int}:∀{us:List Value},Vals (ns.map V.int) us->IntsAre us ns:=by
 induction ns with
 |nil=>intro us r;rw[List.map_nil]at r;cases r;exact .nil
 | cons n ns ih=>
   intro us r
   rw[ji]at r
   cases r with
   | cons r1 r2=>
     obtain⟨t,e⟩:=r1
     subst e
     exact .cons n t (ih r2)
section
variable{X:Cx}{e:Expr}{te:TE}{lo hi:Option Expr}{tl th:TO}{pos p2:Pos}
theorem qcp:PO X none qbq:=by
 intro z4 s σ H Q I h
 rw[evalPart_none]
 exact j8 ⟨none,H,I,.none,h⟩
theorem qco(h:PE X e te):PO X (some e) (qm3 te):=by
 intro z4 s σ H Q I hw
 rw[evalPart_some]
 refine thn (h z4 s σ H _ I hw) λu s1 ⟨x,H1,I1,r1,q1⟩=>?_
 obtain⟨i,rfl,q⟩:=q1
 obtain⟨t,rfl⟩:=r1
 exact⟨some i,H1,I1,.int i t,q⟩
def SlR(X:Cx)(r:V->Option Int->Option Int->Hp->VK->Prop):Prop:=
 ∀(z4:List (Addr×Obj)) (s:Shared) (σ:St) (H:Hp) (x:V) (v vl vu:Value) (lo hi:Option Int) (sl:Addr) (Q:VK),Inv X z4 σ H s->RelV x v->s.heap.IsSliceOf sl vl vu .none->IsPart vl lo->IsPart vu hi->r x lo hi H Q->
   ∃T id,typeLookup (.type T) "__getitem__"=pure (some (.builtin id))/\s.TypeIs v T/\wpAny (model X.prog X.w) X.A (getItem v (.ref sl)) (EP X z4 σ Q) X.xe s
theorem SlR.or{r r':V->Option Int->Option Int->Hp->VK->Prop}(h:SlR X r)(h':SlR X r'):SlR X (λx lo hi H Q=>r x lo hi H Q∨r' x lo hi H Q):=by
 intro z4 s σ H x v vl vu lo hi sl Q I rx hs pl pu q
 rcases q with q|q
 · exact h z4 s σ H x v vl vu lo hi sl Q I rx hs pl pu q
 · exact h' z4 s σ H x v vl vu lo hi sl Q I rx hs pl pu q
def tSl(r:V->Option Int->Option Int->Hp->VK->Prop)(te:TE)(tl th:TO):TE:=λσ H Q=>te σ H λx H1=>tl σ H1 λl H2=>th σ H2 λu H3=>r x l u H3 Q
theorem q9q{r:V->Option Int->Option Int->Hp->VK->Prop}(hr:SlR X r)(he:PE X e te)(hl:PO X lo tl)(hu:PO X hi th):PE X (.Subscript e (.Slice lo hi none p2) pos) (tSl r te tl th):=by
 intro z4 s σ H Q I h
 refine Subscript_ (thn (he z4 s σ H _ I h) λv s1 ⟨x,H1,I1,r1,q1⟩=>?_)
 refine wpAny_Slice (thn (hl z4 s1 σ H1 _ I1 q1) λvl s2 ⟨l,H2,I2,pl,q2⟩=>thn (hu z4 s2 σ H2 _ I2 q2) λvu s3 ⟨u,H3,I3,pu,q3⟩=>?_)
 rw[evalPart_none]
 refine j8 ?_
 have I4:Inv X z4 σ H3 {s3 with heap:=s3.heap.push {cls:=.type "slice",data:=.fields #[vl,vu,.none]}}:=I3.kept (t':=s3.toks) λb ob q=>je _ q
 obtain⟨T,id,hT,ht,hg⟩:=hr z4 {s3 with heap:=s3.heap.push {cls:=.type "slice",data:=.fields #[vl,vu,.none]}} σ H3 x v vl vu l u s3.heap.objs.size Q I4 r1 (Heap.IsSliceOf.new ..) pl pu q3
 show wpAny (model X.prog X.w) X.A (subscriptTail e (.Slice lo hi none p2) v (.ref s3.heap.objs.size)) (EP X z4 σ Q) X.xe {s3 with heap:=s3.heap.push {cls:=.type "slice",data:=.fields #[vl,vu,.none]}}
 exact tail_any (ops:=[.ref s3.heap.objs.size,v]) ht hT hg (by with_unfolding_all rfl)
def cutV(xs:List V)(lo hi:Option Int):List V:=(xs.drop (HT.sIx xs.length 0 lo)).take (HT.sIx xs.length xs.length hi-HT.sIx xs.length 0 lo)
theorem q5j(xs:List V)(lo hi:Option Int):(cutV xs lo hi).length<=xs.length:=by
 unfold cutV
 rw[List.length_take,vc]
 omega
def rSlT(K:PySem.W.Frag):V->Option Int->Option Int->Hp->VK->Prop:=λx lo hi H Q=>∃a xs,x=.ref a/\SqT K H a xs/\
 ¬(HT.sIx xs.length 0 lo=0/\HT.sIx xs.length xs.length hi=xs.length)/\∀p,H p=none->Q (.ref p) (upd H p (.tup (cutV xs lo hi)))
theorem qm6:SlR X (rSlT X.K):=by
 intro z4 s σ H x v vl vu lo hi sl Q I rx hs pl pu h
 obtain⟨a,xs,rfl,hx,hw,q⟩:=h
 cases rx
 obtain⟨its,r,ht,hz⟩:=I.tuple hx
 have z9:its.toArray.size=xs.length:=by rw[jw];exact r.length.symm
 refine⟨"tuple",_,PyProof.Rows.slot_tuple_getitem.lookup,ht.typeIs,?_⟩
 refine HT.getItem_tuple_cut ht hs pl pu (by rw[z9];exact hw) ?_ (by rw[z9];exact hz)
 rw[z9]
 refine⟨.ref s.heap.objs.size,_,I.laid (t':=s.toks) (o:=.tup (cutV xs lo hi)) (λb ob q=>je _ q) (jc _) ?_,rfl,q _ (I.hok.fresh (jc _))⟩
 exact⟨jy (q5j xs lo hi) hz,_,(r.drop (HT.sIx xs.length 0 lo)).take (HT.sIx xs.length xs.length hi-HT.sIx xs.length 0 lo),TupN.new _ _⟩
theorem Vals.nil_iff{xs:List V}{us:List Value}(r:Vals xs us):us=[]↔xs=[]:=by
 cases r with
 |nil=>simp
 |cons _ _=>simp
end
def ixN(n:Nat)(i:Int):Option Nat:=if 0<=i then(if i<n then some i.toNat else none)else if -(n:Int)<=i then some (i+n).toNat else none
def atI{α:Type}(xs:List α)(i:Int):Option α:=(ixN xs.length i).bind λj=>xs[j]?
theorem qdu{n:Nat}{i:Int}{j:Nat}(h:ixN n i=some j):seqIndex? i n=some j/\j<n/\ -(n:Int)<=i/\i<n:=by
 unfold ixN at h
 by_cases h0:0<=i
 · rw[if_pos h0]at h
   by_cases h1:i<n
   · rw[if_pos h1]at h
     have e:i.toNat=j:=jh h
     exact⟨by rw[seqIndex_of h0 h1,e],by omega,by omega,h1⟩
   · rw[if_neg h1]at h;cases h
 · rw[if_neg h0]at h
   by_cases h1: -(n:Int)<=i
   · rw[if_pos h1]at h
     have e:(i+n).toNat=j:=jh h
     exact⟨by rw[seqIndex_neg (by omega) h1,e],by omega,h1,by omega⟩
   · rw[if_neg h1]at h;cases h
theorem q9c{α:Type}{xs:List α}{i:Int}{v:α}(h:atI xs i=some v):∃j,seqIndex? i xs.length=some j/\xs[j]? =some v/\j<xs.length/\ -(xs.length:Int)<=i/\i<xs.length:=by
 unfold atI at h
 cases e:ixN xs.length i with
 |none=>rw[e]at h;cases h
 | some j=>
   rw[e]at h
   obtain⟨h1,h2,h3,h4⟩:=qdu e
   exact⟨j,h1,h,h2,h3,h4⟩
theorem qev{α:Type}{xs:List α}{j:Nat}{v:α}(h:xs[j]? =some v):atI xs (j:Int)=some v:=by
 have hj:j<xs.length:=(List.getElem?_eq_some_iff.mp h).1
 have e:ixN xs.length (j:Int)=some j:=by
   unfold ixN
   rw[if_pos (by omega),if_pos (by omega)];simp
 unfold atI;rw[e];exact h
def qlq(b:Expr):Prop:=∀o i,subscripted b false o i=operate [o,i] (getItem o i)
def IxR(X:Cx)(r:R2):Prop:=
 ∀(value zf:Expr) (z4:List (Addr×Obj)) (s:Shared) (σ:St) (H:Hp) (x y:V) (v u:Value) (Q:VK),Inv X z4 σ H s->RelV x v->RelV y u->r x y H Q->
   subscripted zf false v u=operate [v,u] (getItem v u)->wpAny (model X.prog X.w) X.A (subscriptTail value zf v u) (EP X z4 σ Q) X.xe s
def MtR(X:Cx)(id:String)(r:V->List V->Hp->VK->Prop):Prop:=
 ∀(z4:List (Addr×Obj)) (s:Shared) (σ:St) (H:Hp) (x:V) (xs:List V) (v:Value) (us:List Value) (Q:VK),Inv X z4 σ H s->RelV x v->Vals xs us->r x xs H Q->
   wpAny (model X.prog X.w) X.A (call (.builtin id) (v::us)) (EP X z4 σ Q) X.xe s
section
variable{X:Cx}{a b:Expr}{ta tb:TE}{pos:Pos}
theorem IxR.or{r r':R2}(h:IxR X r)(h':IxR X r'):IxR X (λx y H Q=>r x y H Q∨r' x y H Q):=by
 intro value zf z4 s σ H x y v u Q I rx ry q hs
 rcases q with q|q
 · exact h value zf z4 s σ H x y v u Q I rx ry q hs
 · exact h' value zf z4 s σ H x y v u Q I rx ry q hs
theorem q1o{r:R2}(hr:IxR X r)(ha:PE X a ta)(hb:PE X b tb)(hs:qlq b:=by exact λ_ _=>rfl):PE X (.Subscript a b pos) (tOp r ta tb):=by
 intro z4 s σ H Q I h
 exact Subscript_ (binT ha hb I h λv u s2 x y H2 I2 rx ry q=>hr a b z4 s2 σ H2 x y v u Q I2 rx ry q (hs _ _))
def rIxL(K:PySem.W.Frag):R2:=λx y H Q=>∃p xs i v,x=.ref p/\y=.int i/\SqL K H p xs/\atI xs i=some v/\Q v H
def rIxT(K:PySem.W.Frag):R2:=λx y H Q=>∃p xs i v,x=.ref p/\y=.int i/\SqT K H p xs/\atI xs i=some v/\Q v H
def rIxS:R2:=λx y H Q=>∃z i c,x=.str z/\y=.int i/\z.length<=sizeLine/\atI z.cps.toList i=some c/\Q (.str ⟨#[c]⟩) H
theorem ix_list:IxR X (rIxL X.K):=by
 intro value zf z4 s σ H x y v u Q I rx ry h hs
 obtain⟨p,xs,i,z,rfl,rfl,hq,he,q⟩:=h
 cases rx
 obtain⟨t,rfl⟩:=ry
 obtain⟨its,r,pl,hz⟩:=I.list hq
 obtain⟨j,h1,h2,h3,h4,h5⟩:=q9c he
 obtain⟨w,ew,rw'⟩:=r.get h2
 have hl:=r.length
 have hn:=q82
 have fin:EP X z4 σ Q w s:=⟨z,H,I,rw',q⟩
 by_cases h0:0<=i
 · have hj:i.toNat=j:=by
     rw[seqIndex_of h0 h5]at h1
     exact jh h1
   exact item_listR pl.isList h0 (by omega) (by rw[hj];simpa using ew) fin hs
 · have hj:(i+(its.toArray.size:Int)).toNat=j:=by
     rw[seqIndex_neg (by omega) h4]at h1
     rw[jw,<-hl]
     exact jh h1
   exact subscriptTail_builtinR (x:=w) pl.isList.typeIs slot_list_getitem.lookup
     (wpAny_getItem_list_neg (Q:=λr s'=>r=w/\EP X z4 σ Q r s') pl.isList (by omega) (by rw[jw]<;>omega) (by omega) (by rw[hj];simpa using ew) ⟨rfl,fin⟩) hs
theorem ix_tup:IxR X (rIxT X.K):=by
 intro value zf z4 s σ H x y v u Q I rx ry h hs
 obtain⟨p,xs,i,z,rfl,rfl,hq,he,q⟩:=h
 cases rx
 obtain⟨t,rfl⟩:=ry
 obtain⟨its,r,pl,hz⟩:=I.tuple hq
 obtain⟨j,h1,h2,h3,h4,h5⟩:=q9c he
 obtain⟨w,ew,rw'⟩:=r.get h2
 have hl:=r.length
 have hn:=q82
 have fin:EP X z4 σ Q w s:=⟨z,H,I,rw',q⟩
 exact subscriptTail_builtinR (x:=w) pl.typeIs slot_tuple_getitem.lookup
   (getItem_tuple (j:=j) (Q:=λr s'=>r=w/\EP X z4 σ Q r s') pl (by omega) (by omega) (by rw[jw,<-hl];exact h1) (by simpa using ew) ⟨rfl,fin⟩) hs
theorem qog:IxR X rIxS:=by
 intro value zf z4 s σ H x y v u Q I rx ry h hs
 obtain⟨z,i,c,rfl,rfl,hz,he,q⟩:=h
 obtain⟨t,rfl⟩:=rx
 obtain⟨t',rfl⟩:=ry
 obtain⟨j,h1,h2,h3,h4,h5⟩:=q9c he
 have hl:z.cps.toList.length=z.length:=by simp[Str.length]
 rw[hl]at h1 h4 h5
 have hn:=q82
 exact tail_any (typeIs_str s z t) slot_str_getitem.lookup (getItem_str (c:=c) (by
   have e1:decide (i< -(2^63:Int))=false:=decide_eq_false (by omega)
   have e2:decide (i≥2^63)=false:=decide_eq_false (by omega)
   rw[e1,e2,Bool.or_false]) (by rw[h1];simpa using h2) ⟨.str ⟨#[c]⟩,H,I.tok _,⟨_,rfl⟩,q⟩) hs
def rIx(K:PySem.W.Frag):R2:=λx y H Q=>rIxL K x y H Q∨rIxT K x y H Q∨rIxS x y H Q
theorem qoh:IxR X (rIx X.K):=ix_list.or (ix_tup.or qog)
theorem qb6(its:List Value)(n j:Nat)(u:Value):Obj.mapSeq (·.setIfInBounds j u) {cls:=.type "list",data:=.seq its.toArray n}={cls:=.type "list",data:=.seq (its.set j u).toArray n}:=by
 simp[Obj.mapSeq]
theorem Inv.lst{z4:List (Addr×Obj)}{σ:St}{H:Hp}{s:Shared}{p:Addr}{xs:List V}(I:Inv X z4 σ H s)(h:H p=some (.lst xs)):
   ∃(its:List Value) (n:Nat),Vals xs its/\s.heap.get? p=some {cls:=.type "list",data:=.seq its.toArray n}/\xs.length<=sizeLine:=by
 obtain⟨z,its,n,r,e⟩:=I.hok p _ h
 exact⟨its,n,r,e,z⟩
theorem Inv.lstUpd{z4:List (Addr×Obj)}{σ:St}{H:Hp}{s:Shared}{p:Addr}{xs ys:List V}{its its':List Value}{n n':Nat}{f:Obj->Obj}(I:Inv X z4 σ H s)(h:H p=some (.lst xs))
   (ho:s.heap.get? p=some {cls:=.type "list",data:=.seq its.toArray n}) (hf:f {cls:=.type "list",data:=.seq its.toArray n}={cls:=.type "list",data:=.seq its'.toArray n'}) (r:Vals ys its') (hz:ys.length<=sizeLine) (t:Nat):
   Inv X z4 σ (upd H p (.lst ys)) {s with heap:=s.heap.update p f,toks:=t}:=by
 have e:(s.heap.update p f).get? p=some {cls:=.type "list",data:=.seq its'.toArray n'}:=by
   rw[ke f ho (by rw[hf]<;>rfl),hf]
 refine I.write (x:=p) (e:=p) (by rw[h];trivial) (.inl rfl) (λb u hb q=>(xy _ _ (Ne.symm hb)).trans q) ⟨_,e⟩ ?_
 exact⟨hz,its',n',r,e⟩
def qml:V->V->V->Hp->(Hp->Prop)->Prop:=λo i v H Q=>∃p xs k j,o=.ref p/\i=.int k/\H p=some (.lst xs)/\ixN xs.length k=some j/\Q (upd H p (.lst (xs.set j v)))
theorem set_list:PSet X qml:=by
 intro z4 s σ H o i v ov iv u Q I ro ri rv h
 obtain⟨p,xs,k,j,rfl,rfl,hp,hj,q⟩:=h
 cases ro
 obtain⟨t,rfl⟩:=ri
 obtain⟨its,n,r,ho,hz⟩:=I.lst hp
 obtain⟨h1,h2,h3,h4⟩:=qdu hj
 have hl:=r.length
 have hn:=q82
 have I':Inv X z4 σ (upd H p (.lst (xs.set j v))) {s with heap:=s.heap.update p (Obj.mapSeq (·.setIfInBounds j u))}:=
   I.lstUpd hp ho (qb6 its n j u) (r.set rv j) (by rw[xg];exact hz) s.toks
 by_cases h0:0<=k
 · have hk:k.toNat=j:=by
     rw[seqIndex_of h0 h4]at h1
     exact jh h1
   exact PySem.W.ki_setAt ho h0 (by omega) (by rw[jw,<-hl];exact h4) (by rw[hk];exact⟨_,I',q⟩)
 · have hk:(k+(its.toArray.size:Int)).toNat=j:=by
     rw[seqIndex_neg (by omega) h3]at h1
     rw[jw,<-hl]
     exact jh h1
   exact PySem.W.ki_setBack ho (by omega) (by rw[jw,<-hl];exact h3) (by omega) (by rw[hk];exact⟨_,I',q⟩)
theorem q7a(lo hi:Option Int)(n:Nat):(sliceBounds lo hi none n).1=((HT.sIx n 0 lo:Nat):Int)/\(sliceBounds lo hi none n).2.1=((HT.sIx n n hi:Nat):Int)/\(sliceBounds lo hi none n).2.2=1:=by
 refine⟨?_,?_,rfl⟩
 · cases lo with
   |none=>simp[sliceBounds,HT.sIx]
   | some i=>
     simp only[sliceBounds,HT.sIx,Option.getD_none,show(1:Int)>0 by decide,if_true]
     by_cases h:i<0
     · simp only[h,if_true]<;>omega
     · simp only[h,if_false]<;>omega
 · cases hi with
   |none=>simp[sliceBounds,HT.sIx]
   | some i=>
     simp only[sliceBounds,HT.sIx,Option.getD_none,show(1:Int)>0 by decide,if_true]
     by_cases h:i<0
     · simp only[h,if_true]<;>omega
     · simp only[h,if_false]<;>omega
theorem q66(its:List Value)(lo hi:Option Int):slicePick its.toArray lo hi none=((its.drop (HT.sIx its.length 0 lo)).take (HT.sIx its.length its.length hi-HT.sIx its.length 0 lo)).toArray:=by
 obtain⟨h1,h2,h3⟩:=q7a lo hi its.toArray.size
 unfold slicePick
 rw[h1,h2,h3]
 simp only[sliceRange_one,pick_run,List.size_toArray]<;>rfl
def rSlL(K:PySem.W.Frag):V->Option Int->Option Int->Hp->VK->Prop:=λx lo hi H Q=>∃a xs,x=.ref a/\SqL K H a xs/\∀p,H p=none->Q (.ref p) (upd H p (.lst (cutV xs lo hi)))
theorem sl_list:SlR X (rSlL X.K):=by
 intro z4 s σ H x v vl vu lo hi sl Q I rx hs pl pu h
 obtain⟨a,xs,rfl,hx,q⟩:=h
 cases rx
 obtain⟨its,r,ht,hz⟩:=I.list hx
 have z9:=r.length
 refine⟨"list",_,slot_list_getitem.lookup,ht.isList.typeIs,?_⟩
 refine wpAny_getItem_list_slice ht.isList hs pl pu .none (by simp) ?_ (by rw[List.size_toArray]<;>omega)
 rw[q66,<-z9]
 refine⟨.ref s.heap.objs.size,_,I.laid (t':=s.toks) (o:=.lst (cutV xs lo hi)) (λb ob q=>je _ q) (jc _) ?_,rfl,q _ (I.hok.fresh (jc _))⟩
 exact⟨jy (q5j xs lo hi) hz,_,0,(r.drop (HT.sIx xs.length 0 lo)).take (HT.sIx xs.length xs.length hi-HT.sIx xs.length 0 lo),jq _ rfl⟩
theorem q8g:q4h X (.builtin "len") (λxs H Q=>∃p ys,xs=[.ref p]/\(SqL X.K H p ys∨SqT X.K H p ys)/\Q (.int ys.length) H):=by
 intro z4 s σ H xs us Q I r h
 obtain⟨p,ys,rfl,hq,q⟩:=h
 obtain⟨u,rfl,rx⟩:=vals1 r
 cases rx
 have hn:=q82
 rcases hq with hq|hq
 · obtain⟨its,r',pl,hz⟩:=I.list hq
   have z9:=r'.length
   exact Calls.call_len_list pl.isList (by simp only[List.size_toArray]<;>omega) ⟨.int ys.length,H,I.tok _,⟨s.toks+1,by rw[jw,z9]⟩,q⟩
 · obtain⟨its,r',pl,hz⟩:=I.tuple hq
   have z9:=r'.length
   exact len_tuple pl (by simp only[List.size_toArray]<;>omega) ⟨.int ys.length,H,I.tok _,⟨s.toks+1,by rw[jw,z9]⟩,q⟩
theorem q73:q4h X (.type "tuple") (λxs H Q=>∃p ys,xs=[.ref p]/\((SqL X.K H p ys/\∀l,H l=none->Q (.ref l) (upd H l (.tup ys)))∨(SqT X.K H p ys/\Q (.ref p) H))):=by
 intro z4 s σ H xs us Q I r h
 obtain⟨p,ys,rfl,h⟩:=h
 obtain⟨u,rfl,rx⟩:=vals1 r
 cases rx
 rcases h with⟨hq,q⟩|⟨hq,q⟩
 · obtain⟨its,r',pl,hz⟩:=I.list hq
   have z9:=r'.length
   refine call_tuple_list pl.isList (λh' kp=>?_) (by simp only[List.size_toArray]<;>omega)
   have I1:Inv X z4 σ H {s with heap:=h'}:=I.kept (t':=s.toks) kp
   have I2:Inv X z4 σ (upd H h'.objs.size (.tup ys)) {s with heap:=h'.push {cls:=.type "tuple",data:=.seq its.toArray}}:=
     I1.laid (t':=s.toks) (λb o e=>je _ e) (jc _) (show ObjOk X.prog X.w _ _ _ (.tup ys)from⟨hz,its,r',TupN.new _ _⟩)
   exact⟨.ref h'.objs.size,_,I2,rfl,q _ (I1.hok.fresh (jc _))⟩
 · obtain⟨its,r',pl,hz⟩:=I.tuple hq
   exact call_tuple_same pl ⟨.ref p,H,I,rfl,q⟩
def tyV(K:PySem.W.Frag)(T:String)(x:V)(H:Hp):Prop:=match x with
 |.str _=>T="str"
 |.int _=>T="int"
 |.ref p=>(T="list"/\∃xs,SqL K H p xs)∨(T="tuple"/\∃o,K.lookup p=some o/\o.cls=.type "tuple"/\o.dict=none)∨
     (T="dict"/\((∃kvs,H p=some (.dK kvs))∨∃kvs,H p=some (.dT kvs)))∨(T="set"/\∃S n,H p=some (.set S n))
 |_=>False
theorem qh7{z4:List (Addr×Obj)}{σ:St}{H:Hp}{s:Shared}{T:String}{x:V}{v:Value}(I:Inv X z4 σ H s)(r:RelV x v)(ty:tyV X.K T x H):
   s.TypeIs v T/\∀a,v=.ref a->∃ob,s.heap.get? a=some ob/\ob.dict=none:=by
 cases x with
 | str z=>
   obtain⟨t,rfl⟩:=r
   cases(show T="str" from ty)
   exact⟨typeIs_str s z t,λ_ e=>nomatch e⟩
 | int i=>
   obtain⟨t,rfl⟩:=r
   cases(show T="int" from ty)
   exact⟨typeIs_int s i t,λ_ e=>nomatch e⟩
 | ref p=>
   cases r
   rcases ty with⟨rfl,xs,hq⟩|⟨rfl,o,hk,hc,hd⟩|⟨rfl,hk⟩|⟨rfl,S,n,hk⟩
   · obtain⟨its,_,pl,_⟩:=I.list hq
     refine⟨pl.isList.typeIs,λa e=>?_⟩
     cases e
     obtain⟨o,n,e,c,hd,_⟩:=pl
     exact⟨o,e,hd⟩
   · refine⟨⟨o,I.kIn p o hk,hc⟩,λa e=>?_⟩
     cases e
     exact⟨o,I.kIn _ o hk,hd⟩
   · have z:∃o,s.heap.get? p=some o/\o.ExactDict:=by
       rcases hk with⟨kvs,hk⟩|⟨kvs,hk⟩
       · obtain⟨_,_,_,_,o,_,e,ex,_⟩:=I.hok p _ hk
         exact⟨o,e,ex⟩
       · obtain⟨_,_,_,_,o,_,_,e,ex,_⟩:=I.hok p _ hk
         exact⟨o,e,ex⟩
     obtain⟨o,e,ex⟩:=z
     refine⟨⟨o,e,ex.1⟩,λa e2=>?_⟩
     cases e2
     exact⟨o,e,ex.2.1⟩
   · obtain⟨o,_,_,_,e,ex,_⟩:=I.hok p _ hk
     refine⟨⟨o,e,ex.1⟩,λa e2=>?_⟩
     cases e2
     exact⟨o,e,ex.2.1⟩
 |_=>exact False.elim ty
def tBM(K:PySem.W.Frag)(T:String)(r:V->List V->Hp->VK->Prop)(to:TE)(t:TA):TE:=λσ H Q=>to σ H λx H1=>tyV K T x H1/\t σ H1 λxs H2=>r x xs H2 Q
variable{o e:Expr}{es:List Expr}{to:TE}{t:TA}{name:Str}{zq zg:Pos}{T id:String}{r:V->List V->Hp->VK->Prop}
theorem q8t(pa:PlainAttrs T)(slot:Slot T name id)(hty:typeOf (.builtin id)=pure (.type "method_descriptor"))(hm:MtR X id r)(ho:PE X o to)(ha:PA X (e::es) t)
   (j6:attributeBase o name X.env (eval o X.env)=eval o X.env:=by rfl)
   (hfew:((backTo zg (starEach (e::es) X.env)).all (λx=>!x.1)&&(backToKw zg (keywordEach [] X.env)).all (λx=>x.1.isSome)
     &&decide ((e::es).length+([]:List Keyword).length+(if([]:List Keyword).isEmpty then 0 else 1)<30))=true:=by rfl)
   (zz:(zq.endLine==zg.line)=true:=by rfl) (hs:starEach (e::es) X.env=(false,eval e X.env)::starEach es X.env:=by rfl) (hplain:(backTo zg (starEach es X.env)).any (·.1)=false:=by rfl):
   PE X (.Call (.Attribute o name zq) (e::es) [] zg) (tBM X.K T r to t):=by
 intro z4 s σ H Q I h
 refine wpAny_Call_method_late j6 hfew zz rfl (thn (ho z4 s σ H _ I h) λv s1 ⟨x,H1,I1,r1,ty,q1⟩=>?_)
 obtain⟨h1,h2⟩:=qh7 I1 r1 ty
 refine⟨T,id,pa,slot,hty,h1,h2,?_⟩
 have hA:=ha zg z4 s1 σ H1 _ I1 q1
 rw[hs]at hA ⊢
 refine Calls.callWith_builtin (by show(false||(backTo zg (starEach es X.env)).any (·.1))=false;rw[hplain]<;>rfl) (Calls.evalArgs_plain ?_)
 exact thn hA λus s2 ⟨vs,H2,I2,r2,q2⟩=>hm z4 s2 σ H2 x vs v us Q I2 r1 r2 q2
end
def MtM(X:Cx)(id:String)(r:V->List V->Hp->VK->Prop):Prop:=
 ∀(z4:List (Addr×Obj)) (s:Shared) (σ:St) (H:Hp) (x:V) (xs:List V) (v:Value) (us:List Value) (Q:VK),Inv X z4 σ H s->RelV x v->Vals xs us->r x xs H Q->
   wpAny (model X.prog X.w) X.A (call (.builtin id) (v::us)) (EP X z4 σ Q) X.xe s
theorem Vals.one:∀{x:V} {us:List Value},Vals [x] us->∃u,us=[u]/\RelV x u
 |_,_,.cons r .nil=>⟨_,rfl,r⟩
theorem Vals.zero:∀{us:List Value},Vals [] us->us=[]
 |_,.nil=>rfl
theorem Vals.rep{xs:List V}{us:List Value}(h:Vals xs us):∀k:Nat,Vals (List.replicate k xs).flatten (List.replicate k us).flatten
 |0=>.nil
 | k+1=>by
   rw[List.replicate_succ,List.replicate_succ,List.flatten_cons,List.flatten_cons]
   exact Vals.append h (Vals.rep h k)
theorem foldl_rep(its:List Value):∀(k:Nat) (acc:List Value),
   List.foldl (λx1 x2=>x1++x2) acc.toArray (List.replicate k its.toArray)=(acc++(List.replicate k its).flatten).toArray
 |0,acc=>by simp
 | k+1,acc=>by
   have e:acc.toArray++its.toArray=(acc++its).toArray:=by simp
   have e2:(acc++its)++(List.replicate k its).flatten=acc++(List.replicate (k+1) its).flatten:=by
     rw[List.replicate_succ,List.flatten_cons,List.append_assoc]
   rw[<-e2,<-foldl_rep its k (acc++its),<-e,List.replicate_succ,List.foldl_cons]
section
variable{X:Cx}{z4:List (Addr×Obj)}{σ:St}{H:Hp}{s:Shared}{l b:Addr}{xs ys zs:List V}
theorem Inv.lset{its its':List Value}{n:Nat}{f:Array Value->Array Value}{t':Nat}(I:Inv X z4 σ H s)(hH:H l=some (.lst xs))
   (e:s.heap.get? l=some {cls:=.type "list",data:=.seq its.toArray n}) (hf:f its.toArray=its'.toArray) (hv:Vals ys its') (hz:ys.length<=sizeLine):
   Inv X z4 σ (upd H l (.lst ys)) {s with heap:=s.heap.update l (Obj.mapSeq f),toks:=t'}:=by
 have q:=PySem.IsL.update e f
 rw[hf]at q
 refine I.write (x:=l) (e:=l) (by rw[hH];exact trivial) (.inl rfl) (λb' u hb hu=>(xy s.heap (Obj.mapSeq f) (Ne.symm hb)).trans hu) ⟨_,q⟩ ?_
 exact⟨hz,its',_,hv,q⟩
theorem Inv.lnew{its:List Value}{t':Nat}(I:Inv X z4 σ H s)(hv:Vals ys its)(hz:ys.length<=sizeLine):
   Inv X z4 σ (upd H s.heap.objs.size (.lst ys)) {s with heap:=s.heap.push {cls:=.type "list",data:=.seq its.toArray},toks:=t'}:=
 I.laid (λ_ _ q=>je _ q) (jc _) ⟨hz,its,0,hv,jq _ rfl⟩
theorem Inv.fresh(I:Inv X z4 σ H s):H s.heap.objs.size=none:=I.hok.fresh (jc _)
theorem Inv.lstM(I:Inv X z4 σ H s)(hH:H l=some (.lst xs)):xs.length<=sizeLine/\∃(its:List Value) (n:Nat),Vals xs its/\xs.length=its.length/\s.heap.get? l=some {cls:=.type "list",data:=.seq its.toArray n}:=by
 obtain⟨z,its,n,r,e⟩:=I.hok l _ hH
 exact⟨z,its,n,r,r.length,e⟩
theorem q9x{n:Nat}(h:n<=sizeLine):Builtin.List.listTooLong n=false:=by
 unfold Builtin.List.listTooLong
 exact decide_eq_false (by omega)
end
section
variable{X:Cx}
def q68:V->List V->Hp->VK->Prop:=λx vs H Q=>∃l xs y,x=.ref l/\vs=[y]/\H l=some (.lst xs)/\xs.length<sizeLine/\Q .non (upd H l (.lst (xs++[y])))
theorem q33:MtM X "list.append" q68:=by
 intro z4 s σ H x vs v us Q I rx rv h
 obtain⟨l,xs,y,rfl,rfl,hH,hz,q⟩:=h
 cases rx
 obtain⟨u,rfl,ru⟩:=rv.one
 obtain⟨z,its,n,r,hl,e⟩:=I.lstM hH
 refine call_meets F.slot_list_append ⟨_,e,rfl⟩ F.entry_list_append (F.args_list_append_2 _ _) (PySem.list_append l its.toArray n u (by rw[jw];omega)) ⟨e,?_⟩
 refine⟨.non,_,I.lset (its':=its++[u]) hH e (by simp) (r.append (.cons ru .nil)) ?_,rfl,q⟩
 rw[jr,List.length_singleton]
 omega
def qch:V->List V->Hp->VK->Prop:=λx vs H Q=>∃l b xs zs,x=.ref l/\vs=[.ref b]/\H l=some (.lst xs)/\H b=some (.lst zs)/\xs.length+zs.length<=sizeLine/\Q .non (upd H l (.lst (xs++zs)))
theorem qdd:MtM X "list.extend" qch:=by
 intro z4 s σ H x vs v us Q I rx rv h
 obtain⟨l,b,xs,zs,rfl,rfl,hH,hB,hz,q⟩:=h
 cases rx
 obtain⟨u,rfl,ru⟩:=rv.one
 cases ru
 obtain⟨z,its,n,r,hl,e⟩:=I.lstM hH
 obtain⟨z2,its2,n2,r2,hl2,e2⟩:=I.lstM hB
 have hsz:its.toArray.size+its2.toArray.size<=sizeLine:=by rw[jw,jw];omega
 have hlong:¬(!its.toArray.isEmpty&&Builtin.List.listTooLong (its.toArray.size+its2.toArray.size))=true:=by
   rw[q9x hsz,Bool.and_false]
   exact Bool.false_ne_true
 refine call_meets F.slot_list_extend ⟨_,e,rfl⟩ F.entry_list_extend (F.args_list_extend_2 _ _)
   (AutoSeq1.list_extend_list_list_0 l its.toArray n b its2.toArray n2 hlong (by rw[jw];omega) (by omega)) ⟨e,e2,?_⟩
 refine⟨.non,_,I.lset (its':=its++its2) hH e (by simp) (r.append r2) ?_,rfl,q⟩
 rw[jr]
 omega
theorem len_rep{α:Type}(xs:List α)(k:Nat):(List.replicate k xs).flatten.length=k*xs.length:=by
 induction k with
 |zero=>simp
 |succ k ih=>rw[List.replicate_succ,List.flatten_cons,jr,ih,Nat.succ_mul,Nat.add_comm]
end
section
variable{prog:Program}{w:World}{A:Around}{E:Value->Shared->Prop}{s:Shared}
end
section
variable{X:Cx}
end
end L2
namespace Att
open PySem PySem.W PySem.Calls PyProof.Rows
theorem q5i{P:Params}{h:Heap}:∀(ns:List Int) (vs:List Value),WellAll P h vs (ns.map WData.int)->IntsAre vs ns:=by
 intro ns
 induction ns with
 | nil=>
   intro vs w
   rw[List.map_nil]at w
   cases w
   exact .nil
 | cons n ns ih=>
   intro vs w
   rw[ji]at w
   cases w with
   | cons a b=>
     cases a
     exact .cons _ _ (ih _ b)
theorem qc0{l:OpenLaw}{n:Nat}(hn:l.most=some n){P:Params}{h:Heap}{args:List WData}{vals:List Value}
   (hpre:l.row.toRowW.claim.pre args=true) (hwl:WellAll P h vals args):
   ∃a vs ns,vals=[Value.ref a]/\args=[WData.list (ns.map WData.int)]/\h.get? a=some {cls:=.type "list",data:=.seq vs.toArray}/\IntsAre vs ns/\ns.length<=n:=by
 have hsh:WShape.hasAll [] args [.list .int]=true:=(pre_splitW hpre).1
 have hc:l.pre.holds [] {args:=args}=true:=(pre_splitW hpre).2
 obtain⟨d,r,rfl,h1,h2⟩:=hasAllW_cons hsh
 obtain rfl:=hasAllW_nil h2
 obtain⟨xs,rfl,h3⟩:=hasW_list h1
 obtain⟨ns,rfl⟩:=items_int h3
 have z9:ns.length<=n:=by
   unfold OpenLaw.pre at hc
   have h4:(WTm.not (.lt (.lit (.int (n:Int))) (.len (.arg 0)))).holds [] {args:=[.list (ns.map .int)]}=true:=by
     have h4:=(holds_andW hc).1
     rw[hn]at h4
     exact h4
   have h5:=condW_of h4 (w_not (w_lt w_lit (w_len_list (w_arg rfl))))
   rw[ja]at h5
   refine Nat.le_of_not_lt λq=>?_
   have q':(n:Int)<((ns.length:Nat):Int):=by omega
   first
     |(rw[decide_eq_true q']at h5;exact absurd h5 (by decide))
     |(simp at h5;omega)
 cases hwl with
 | cons w1 w2=>
   cases w2
   cases w1 with
   |list ho hall=>exact⟨_,_,ns,rfl,rfl,ho,q5i ns _ hall,z9⟩
theorem qcn(l:OpenLaw)(args:List WData):l.row.toRowW.claim.post args (.bool true) args=true:=
 postW_of (r:=l.row.toRowW) (X:=(true==true))
   (show WShape.has [] (.bool true) .bool=true by first|rfl|decide|simp[WShape.has,WShape.arms,WShape.armsAll])
   (show(WTm.eq .res (.lit (.bool true))).value [] {args:=args,res:=some (.bool true),after:=args}=some (.bool (true==true))from w_eq_bool (w_res rfl) w_lit) rfl
theorem attach_call{l:OpenLaw}{n:Nat}{q:Program}{loose:List Str}{XP:(Str->Option Value)->Heap->Prop}{YP:World->Heap->Prop}{d:DefRec}
   (hn:l.most=some n) (hdf:d.params.defaults=[])
   (call:∀(w:World) (s₀ s₁:Shared) (mg mb:Str->Option Value) (fa:Addr) (o:Obj) (pm cd doc:Value) (a:Addr) (vs:List Value) (ns:List Int),
     Ground q loose [] XP w s₀ mg mb s₁.heap->YP w s₁.heap->
     s₁.heap.get? fa=some o->o.data=.func (docDef d.name d.params d.body d.scope pm cd doc)->s₁.heap.CodeRec cd d.name->mg d.name=some (.ref fa)->
     s₁.heap.get? a=some {cls:=.type "list",data:=.seq vs.toArray}->IntsAre vs ns->ns.length<=n->s₁.gens=#[]->
     codeAny (model l.prog w) callerA (.call (.ref fa) ⟨[.ref a],[]⟩) (λr s'=>r=.ok (.ret (.bool true))/\OldK s₁.heap s'.heap/\s'.os=s₁.os/\AllBare s'.gens) s₁):
   WalkO q loose XP YP l.row.toRowW d [] (λf vs=>PySem.call f vs):=by
 intro w s₀ s₁ mg mb G Y fa o pm cd doc dV kV ho hd hcd hD hmg hg args vals as hpre hlay hrd hwl hlo
 obtain rfl:dV=.none:=Dflts.none hD hdf
 obtain rfl:kV=.none:=Dflts.noKw hD
 obtain⟨a,vs,ns,rfl,rfl,hobj,j0,z9⟩:=qc0 hn hpre hwl
 refine enter_call (codeAny_mono (call w s₀ s₁ mg mb fa o pm cd doc a vs ns G Y ho (fd_plain hd) hcd hmg hobj j0 z9 hg) λr s' hq=>?_)
 obtain⟨rfl,h2,h3,h4⟩:=hq
 exact⟨.inl ⟨.bool true,.bool true,[],rfl,λ_=>rfl,.bool true,qcn l _,λ_=>⟨List.Pairwise.nil,λ_ hm=>(nomatch hm)⟩⟩,h2,h3,h4⟩
section
variable{prog:Program}{w:World}{A:Around}{E:Value->Shared->Prop}{s:Shared}{K:Frag}
end
end Att
namespace L2
open PySem PySem.Spec PyProof.Rows
theorem q76:∀{vs:List Value} {ns:List Int},IntsAre vs ns->Vals (ns.map V.int) vs
 |_,_,.nil=>.nil
 |_,_,.cons n t h=>.cons ⟨t,rfl⟩ (q76 h)
def Only(H:Hp):Prop:=∀b,H b=none∨∃o xs,H b=some (.frz o (.lst xs))
theorem qg4{P:Program}{w:World}{K:PySem.W.Frag}{mg mb:Str->Option Value}{CX:CXT}{k:Nat}{fa a:Addr}{fd:FuncData}{x:Str}{sp:Sp}{s₁:Shared}{vs:List Value}{ns:List Int}
   (KX:K.In s₁.heap) (hns:s₁.heap.Ns mainGlobals mg) (hb:s₁.heap.Ns builtinsNs mb) (hbb:∀x:Str,x≠"__name__"->mb x=bootBuiltins x) (hlim:s₁.heap.NoLimit) (hg:s₁.gens=#[])
   (ha:s₁.heap.get? a=some {cls:=.type "list",data:=.seq vs.toArray}) (hi:IntsAre vs ns) (hl:ns.length<=sizeLine) (hr:Room k callerA)
   (F:∀base:Heap,K.In base->base.Ns mainGlobals mg->FnOk P w K mg base CX k fa fd [x] sp) (hbind:∀(s:Shared) (u:Value),BindsTo s fd ⟨[u],[]⟩ [(x,u)])
   (hsp:∀H:Hp,Only H->SqL K H a (ns.map V.int)->sp [.ref a] H (λv _=>v=.bl true) λ_ _ _=>False)
   (hCX:∀H e s',CX [] H s₁ (λ_ _ _=>False) e s'->False):
   codeAny (model P w) callerA (.call (.ref fa) ⟨[.ref a],[]⟩) (λr s'=>r=.ok (.ret (.bool true))/\OldK s₁.heap s'.heap/\s'.os=s₁.os/\AllBare s'.gens) s₁:=by
 have rv:=q76 hi
 have lenV:=hi.length
 -- from an abstract heap in which nothing but the script may be tracked
 have core:∀H:Hp,Only H->SqL K H a (ns.map V.int)->HOk P w H s₁.heap->(∀b,H b≠none->b=a)->(H a≠none->K.lookup a=none)->
     codeAny (model P w) callerA (.call (.ref fa) ⟨[.ref a],[]⟩) (λr s'=>r=.ok (.ret (.bool true))/\OldK s₁.heap s'.heap/\s'.os=s₁.os/\AllBare s'.gens) s₁:=by
   intro H hO hS hok hA hK
   have base_of:∀{b:Addr} {o:Obj},s₁.heap.get? b=some o->H b=none->(hidT s₁.heap H).get? b=some o:=λe n=>qge e n
   have noA:∀{b:Addr} {o:Obj} {es:Array DictEntry} {ep:Nat},s₁.heap.get? b=some o->o.data=.dict es ep->H b=none:=λ{b o es ep} e d=>by
     cases q:H b with
     |none=>rfl
     | some u=>
       have e':b=a:=hA b (by rw[q];simp)
       subst e'
       rw[ha]at e;cases e
       have d':Data.seq vs.toArray _=Data.dict es ep:=d
       cases d'
   have nsK:∀{b:Addr} {m:Str->Option Value},s₁.heap.Ns b m->(hidT s₁.heap H).Ns b m:=λ{b m} ⟨o,es,ep,e,d,r⟩=>⟨o,es,ep,base_of e (noA e d),d,r⟩
   have hKb:K.In (hidT s₁.heap H):=λb o e=>base_of (KX b o e) (by
     cases q:H b with
     |none=>rfl
     | some u=>
       have e':b=a:=hA b (by rw[q];simp)
       subst e'
       rw[hK (by rw[q];simp)]at e;cases e)
   have hM:Mod K mg (hidT s₁.heap H):=⟨hKb,nsK hns,⟨mb,nsK hb,hbb⟩,let ⟨mc,h1,h2⟩:=hlim;⟨mc,nsK h1,h2⟩⟩
   have e0:Env0 P w K mg (hidT s₁.heap H) callerA [] s₁ H:=⟨rfl,hM,λb o e=>qjs e,Nat.le_of_eq (qdz _ _),trivial,λb hb=>absurd (show b∈([]:List Addr)from hb) (by simp),hok,.of_eq hg⟩
   refine codeAny_mono ((F _ hKb (nsK hns)).run callerA [] s₁ H ⟨[.ref a],[]⟩ [.ref a] [.ref a] _ _ hr e0 (hbind s₁ (.ref a)) (.cons rfl .nil) (hsp H hO hS)) λr s' h=>?_
   cases r with
   |error e=>exact(hCX H e s' h).elim
   | ok fl=>
     cases fl with
     |next=>exact False.elim h
     |brk=>exact False.elim h
     |cont=>exact False.elim h
     | ret u=>
       obtain⟨v,H',os,bare,un,hok',r',q⟩:=h
       have q':v=.bl true:=q
       subst q'
       obtain rfl:u=Value.bool true:=r'
       refine⟨rfl,OldK.of_keep λb o e=>?_,os,bare⟩
       cases q:H b with
       |none=>exact un.keep b o e q (by intro z;exact absurd (show b∈([]:List Addr)from z) (by simp)) (by simp)
       | some u=>
         rcases hO b with z|⟨ob,xs,z⟩
         · rw[q]at z;cases z
         · have z2:=un.frzs b ob _ z
           obtain⟨e1,_⟩:=hok b _ z
           obtain⟨e2,_⟩:=hok' b _ z2
           rw[e]at e1;cases e1
           exact e2
 cases hk:K.lookup a with
 | some o=>
   -- the script is one of the module's own objects
   have e:=KX a o hk
   rw[ha]at e
   cases e
   refine core (λ_=>none) (λ_=>.inl rfl) (.inr ⟨_,vs.toArray,_,hk,rfl,rfl,rfl,by rw[jw,lenV];exact hl,by simpa using rv⟩) (λb u z=>by have z':(none:Option HO)=some u:=z;cases z') (λb z=>absurd rfl z) λz=>absurd rfl z
 | none=>
   refine core (λb=>if b=a then some (.frz {cls:=.type "list",data:=.seq vs.toArray} (.lst (ns.map V.int)))else none) (λb=>?_) (.inl (.inr ⟨{cls:=.type "list",data:=.seq vs.toArray},if_pos rfl⟩)) (λb u z=>?_) (λb z=>?_) λ_=>hk
   · by_cases hb:b=a
     · exact .inr ⟨_,_,if_pos hb⟩
     · exact .inl (if_neg hb)
   · by_cases hb:b=a
     · have z':=(if_pos hb).symm.trans z
       cases z'
       subst hb
       exact⟨ha,by rw[ja];exact hl,vs,_,rv,ha⟩
     · have z':=(if_neg hb).symm.trans z
       cases z'
   · by_cases hb:b=a
     · exact hb
     · exact absurd (if_neg hb) z
theorem walk_of{l:PySem.W.OpenLaw}{n k:Nat}{q:Program}{loose:List Str}{XP:(Str->Option Value)->Heap->Prop}{YP:World->Heap->Prop}{d:DefRec}{K:Params->PySem.W.Frag}{CX:World->CXT}{sp:World->Sp}{x:Str}
   (hn:l.most=some n) (hn2:n<=sizeLine) (hdf:d.params.defaults=[]) (hr:Room k callerA)
   (hY:∀(w:World) (h:Heap),YP w h->(K w.params).In h)
   (F:∀(w:World) (mg:Str->Option Value) (fa:Addr) (h:Heap),(K w.params).In h->h.Ns mainGlobals mg->mg d.name=some (.ref fa)->
     ∃fd:FuncData,(∀(s:Shared) (u:Value),BindsTo s fd ⟨[u],[]⟩ [(x,u)])/\
       ∀base:Heap,(K w.params).In base->base.Ns mainGlobals mg->FnOk l.prog w (K w.params) mg base (CX w) k fa fd [x] (sp w))
   (hsp:∀(w:World) (H:Hp) (a:Addr) (ns:List Int),ns.length<=n->Only H->SqL (K w.params) H a (ns.map V.int)->sp w [.ref a] H (λv _=>v=.bl true) λ_ _ _=>False)
   (hCX:∀(w:World) (H:Hp) (s:Shared) (e:Value) (s':Shared),CX w [] H s (λ_ _ _=>False) e s'->False):
   PySem.W.WalkO q loose XP YP l.row.toRowW d [] (λf vs=>PySem.call f vs):=by
 refine Att.attach_call hn hdf λw s₀ s₁ mg mb fa o pm cd doc a vs ns G Y ho hd hcd hmg hobj j0 z9 hg=>?_
 have KX:=hY w _ Y
 obtain⟨fd,hb,hF⟩:=F w mg fa _ KX G.T.g hmg
 exact qg4 KX G.T.g G.T.b G.T.builtins G.T.nolimit hg hobj j0 (jy z9 hn2) hr hF hb (λH hO hS=>hsp w H a ns z9 hO hS) λH e s'=>hCX w H s₁ e s'
def q0x(s:Stmt):Arguments:=match s with
 |.FunctionDef _ a _ _ _ _ _ _ _ _=>a
 |_=>{posonlyargs:=[],args:=[],vararg:=none,kwonlyargs:=[],kw_defaults:=[],kwarg:=none,defaults:=[]}
def q0v(s:Stmt):List Stmt:=match s with
 |.FunctionDef _ _ b _ _ _ _ _ _ _=>b
 |_=>[]
def q05(s:Stmt):Scope:=match s with
 |.FunctionDef _ _ _ _ _ _ sc _ _ _=>sc
 |_=>{kind:=.function,names:=[],isGenerator:=false,isCoroutine:=false}
abbrev CX0:CXT:=λ_ _ _ _ _ _=>False
abbrev E0:XK:=λ_ _ _=>False
theorem q18{X:Cx}:qf2 CX0 X E0:=λ_ _ _ _ _ _ _ h=>h.elim
structure Fun(K:PySem.W.Frag)(x qual:Str)(st:Stmt)(f:Addr)(fd:FuncData):Prop where
 ex:∃(oc:Value) (od:Option Addr) (kV doc pm:Value) (an:Option Addr) (cdv ct:Value) (osl:Array (Option Value)),
   fd=PySem.W.fnOf x qual (q0x st) (q0v st) (q05 st) .none kV doc pm an cdv ct/\K.lookup f=some ⟨oc,od,.func fd,osl⟩/\PySem.W.codeIn K cdv qual=true
 kp:PySem.W.keepIn K (.ref f)=true
section
variable{P:Program}{w:World}{K:PySem.W.Frag}{mg:Str->Option Value}{base:Heap}
theorem Fun.ok{x qual:Str}{st:Stmt}{f:Addr}{fd:FuncData}{N ps:List Str}{k:Nat}{sp:Sp}(F:Fun K x qual st f fd)(S:q0t N ps (q05 st))(len:∀vs H Q E,sp vs H Q E->vs.length=ps.length)
   (j5:∀(cdv:Value) (A:Around) (outer:List Env) (s:Shared) (H:Hp) (vs:List V) (Q:VK) (E:XK),Room k (A.deeper (envOfC qual (q05 st) s.heap.objs.size f cdv))->sp vs H Q E->
     ∃t,PSs (cxOf CX0 P w K mg base N qual (q05 st) f cdv A outer s H E).nox (q0v st) t/\t {nx:=λ_ H'=>Q .non H',rt:=Q} (start N vs) H):FnOk P w K mg base CX0 (k+1) f fd ps sp:=by
 obtain⟨oc,od,kV,doc,pm,an,cdv,ct,osl,rfl,lk,hcd⟩:=F.ex
 refine qqn lk hcd S len λA outer s H vs Q E hr hsp=>?_
 obtain⟨t,h,q⟩:=j5 cdv A outer s H vs Q E hr hsp
 exact⟨t,h.nox,q⟩
theorem qow{x qual:Str}{st:Stmt}{f:Addr}{oc:Value}{od an:Option Addr}{osl:Array (Option Value)}{kV doc pm cdv ct:Value}(l:K.lookup f=some ⟨oc,od,.func (PySem.W.fnOf x qual (q0x st) (q0v st) (q05 st) .none kV doc pm an cdv ct),osl⟩)
   (c:PySem.W.codeIn K cdv qual=true) (k:PySem.W.keepIn K (.ref f)=true):Fun K x qual st f (PySem.W.fnOf x qual (q0x st) (q0v st) (q05 st) .none kV doc pm an cdv ct):=⟨⟨oc,od,kV,doc,pm,an,cdv,ct,osl,rfl,l,c⟩,k⟩
end
theorem q35{A:Around}{k:Nat}(hr:Room k A):A.units+1<cLine:=Nat.lt_of_le_of_lt (Nat.add_le_add_left (by decide:1<=64) _) hr.units
section
variable{X:Cx}
theorem pv(i:Nat){x:Str}{pos:Pos}(hN:X.N[i]? =some x:=by rfl)(hv:Vis X.env.scope x:=by first|exact Or.inl rfl|exact Or.inr (Or.inl rfl)|exact Or.inr (Or.inr rfl))(hd:(x==("__debug__":Str))=false:=by decide)
   (hcd:(x==("__classdict__":Str))=false:=by decide):PE X (.Name x pos) (tVar i):=qn2 hN hv hd hcd
end
theorem iteF{A B:Prop}(h:B):if false=true then A else B:=by
 rw[if_neg Bool.false_ne_true]
 exact h
theorem iteT{A B:Prop}(h:A):if true=true then A else B:=by
 rw[if_pos rfl]
 exact h
def Same(H H':Hp):Prop:=∀b o,H b=some o->H' b=some o
theorem Same.refl(H:Hp):Same H H:=λ_ _ h=>h
theorem Same.trans{H H1 H2:Hp}(a:Same H H1)(b:Same H1 H2):Same H H2:=λc o h=>b c o (a c o h)
theorem Same.free{H H':Hp}(e:Same H H'){l:Addr}(h:H' l=Option.none):H l=Option.none:=by
 cases q:H l with
 |none=>rfl
 | some o=>
   rw[e l o q]at h
   cases h
section
variable{X:Cx}{z4:List (Addr×Obj)}{σ:St}{H:Hp}{s:Shared}
theorem Inv.track{d:Addr}{o:HO}(I:Inv X z4 σ H s)(hn:H d=none)(hy:X.s₀.heap.objs.size<=d)(hL:d≠X.env.locals)(hc:∀x c,X.env.cells.lookup x=some c->c≠d)
   (hp:∀p∈X.pn++z4,p.1≠d) (new:ObjOk X.prog X.w (upd H d o) s.heap d o):Inv X z4 σ (upd H d o) s:=by
 have old:∀b ob,X.s₀.heap.get? b=some ob->b≠d:=λb ob e=>jj (jt (jd e) hy)
 have was:∀b u,H b=some u->b≠d:=λb u e=>q0m e hn
 refine⟨I.ok,I.os,I.bare,⟨I.base.keep,I.base.slot,λb ob e n hx=>?_,I.base.there,λb xs e=>?_,λb ob u e=>?_,λb ps e=>?_⟩,I.loc,I.cell,?_,λx c e=>?_,λp z=>?_,λb u e=>?_,I.len⟩
 · rw[q0d (old b ob e)];exact I.base.free b ob e n hx
 · have q:=I.base.tups b xs e
   rw[q0d (was b _ q)];exact q
 · have q:=I.base.frzs b ob u e
   rw[q0d (was b _ q)];exact q
 · obtain⟨m,q⟩:=I.base.tbls b ps e
   exact⟨m,by rw[q0d (was b _ q)];exact q⟩
 · rw[q0d (Ne.symm hL)];exact I.free
 · rw[q0d (hc x c e)];exact I.freeC x c e
 · obtain⟨e,n,r⟩:=I.pin p z
   exact⟨e,by rw[q0d (hp p z)];exact n,r⟩
 · by_cases hb:b=d
   · subst hb
     rw[q0h]at e
     cases e
     exact new
   · rw[q0d hb]at e
     refine(I.hok b u e).stay (λc v _ q=>q) (λc q=>?_) λc xs q=>?_
     · rw[q0d (was c _ q)];exact q
     · rw[q0d (was c _ q)];exact q
end
theorem q4g{env:Env}:∀(names:List (Str×NameKind)) (acc:List (Str×Addr)),(∀y∈names,y.2=.free->∃c,env.cells.lookup y.1=some c)->
   ∃cl,(forIn names acc λ(p:Str×NameKind) (cs:List (Str×Addr))=>(if(p.2==NameKind.free)=true then do let c <-cellOf env p.1;pure (ForInStep.yield ((p.1,c)::cs))else pure (ForInStep.yield cs):Sem (ForInStep (List (Str×Addr)))))=pure cl/\
     (∀x c,cl.lookup x=some c->acc.lookup x=some c∨env.cells.lookup x=some c)/\(∀x c,acc.lookup x=some c->∃c',cl.lookup x=some c')/\∀y∈names,y.2=.free->∃c,cl.lookup y.1=some c
 |[],acc,_=>⟨acc,rfl,λ_ _ h=>.inl h,λ_ c h=>⟨c,h⟩,λ_ h=>nomatch h⟩
 | (n,k)::r,acc,hh=>by
   by_cases hk:k=.free
   · subst hk
     obtain⟨c,hc⟩:=hh (n,.free) jg rfl
     obtain⟨cl,e,h1,h2,h3⟩:=q4g (env:=env) r ((n,c)::acc) λy hy=>hh y (jk _ hy)
     have ec:cellOf env n=pure c:=by
       unfold cellOf
       rw[hc]
     have here:∃c',cl.lookup n=some c':=h2 n c (by simp[List.lookup_cons])
     refine⟨cl,?_,λx d q=>?_,λx d q=>?_,λy hy hf=>?_⟩
     · rw[List.forIn_cons]
       simp only[beq_self_eq_true,if_true,ec,pure_bind]
       exact e
     · rcases h1 x d q with z|z
       · rw[List.lookup_cons]at z
         by_cases hx:x=n
         · subst hx
           simp only[beq_self_eq_true]at z
           cases z
           exact .inr hc
         · rw[beq_eq_false_iff_ne.mpr hx]at z
           exact .inl z
       · exact .inr z
     · by_cases hx:x=n
       · subst hx;exact here
       · exact h2 x d (by rw[List.lookup_cons,beq_eq_false_iff_ne.mpr hx];exact q)
     · rcases List.mem_cons.mp hy with rfl|hy
       · exact here
       · exact h3 y hy hf
   · obtain⟨cl,e,h1,h2,h3⟩:=q4g (env:=env) r acc λy hy=>hh y (jk _ hy)
     refine⟨cl,?_,h1,h2,λy hy hf=>?_⟩
     · rw[List.forIn_cons]
       have hb:(k==NameKind.free)=false:=by simpa using hk
       simp only[hb,Bool.false_eq_true,if_false,pure_bind]
       exact e
     · rcases List.mem_cons.mp hy with rfl|hy
       · exact absurd hf hk
       · exact h3 y hy hf
theorem q4l{env:Env}{scope:Scope}(hh:∀y∈scope.names,y.2=.free->∃c,env.cells.lookup y.1=some c):
   ∃cl,closureFor scope env=pure cl/\(∀x c,cl.lookup x=some c->env.cells.lookup x=some c)/\∀y∈scope.names,y.2=.free->∃c,cl.lookup y.1=some c:=by
 obtain⟨cl,e,h1,_,h3⟩:=q4g (env:=env) scope.names [] hh
 refine⟨cl,?_,λx c q=>(h1 x c q).elim (λz=>by simp at z) id,h3⟩
 unfold closureFor
 simp only[bind_pure]
 exact e
def cxB(X:Cx)(N:List Str)(scope:Scope)(s:Shared)(H:Hp)(C:Addr)(cl:List (Str×Addr))(fp:List Addr):Cx where
 prog:=X.prog
 w:=X.w
 K:=X.K
 mg:=X.mg
 base:=X.base
 A:=X.A
 N:=N
 s₀:=s
 H₀:=H
 env:=compEnvC scope cl C X.env
 outer:=X.stack
 stack:=X.stack
 ex:=fp
 fn:=λ_=>false
 calm:=X.calm
 pn:=[]
 xe:=λ_ _=>False
def caps(n:Nat)(js:List Nat)(σ:St):St:=List.replicate n none++js.map λj=>(σ[j]?).join
def Own(n:Nat)(g:TG):Prop:=∀v σ H Q,g v σ H Q->g v σ H λσ2 H2=>Q σ2 H2/\σ2.length=σ.length/\∀i,n<=i->σ2[i]? =σ[i]?
theorem q2g{n i:Nat}(h:i<n):Own n (q2u i):=λv σ H Q q=>⟨q,by simp,λj hj=>by rw[List.getElem?_set_ne (by omega)]⟩
theorem qfs{K:PySem.W.Frag}{n i j:Nat}(hi:i<n)(hj:j<n):Own n (gTup K 2 (q95 (q2u i) (q95 (q2u j) gNil))):=λv σ H Q q=>by
 obtain⟨a,xs,e,h,hl,x,r,e1,y,r2,e2,e3,q⟩:=q
 exact⟨a,xs,e,h,hl,x,r,e1,y,r2,e2,e3,q,by simp,λk hk=>by rw[List.getElem?_set_ne (by omega),List.getElem?_set_ne (by omega)]⟩
def PIf(X:Cx)(ifs:List Expr)(t:TT):Prop:=
 ∀(z4:List (Addr×Obj)) (s:Shared) (σ:St) (H:Hp) (Q:Bool->Hp->Prop),Inv X z4 σ H s->t σ H Q->
   wpAny (model X.prog X.w) X.A (forIn ifs true λc r=>if r=true then do let ok <-isTrue c X.env (eval c X.env);pure (ForInStep.yield ok)else pure (ForInStep.yield r)) (TP X z4 σ Q) X.xe s
def tYes:TT:=λ_ H Q=>Q true H
theorem qcq{X:Cx}:PIf X [] tYes:=λ_ _ _ H _ I h=>wpAny_tests_nil ⟨H,I,h⟩
theorem q2z{X:Cx}{c:Expr}{t:TT}(hc:PT X c t):PIf X [c] t:=λz4 s σ H Q I h=>wpAny_tests_one (hc z4 s σ H Q I h)
def cGo(g:TG)(tt:TT)(te:TE)(σ0:St)(Fin:List V->Hp->Prop)(J:It)(H1:Hp):Prop:=
 ∃W:Nat->Nat->List V->Hp->Prop,(∃m,W 0 m [] H1)/\∀i m ys H2,W i m ys H2->
   (J.stop i H2/\ys.length<=sizeLine/\Fin ys H2)∨
   (J.go i H2/\ys.length<sizeLine/\∃N:List V->Hp->Prop,(∀ys' H',N ys' H'->∃m',m'<m/\W (i+1) m' ys' H')/\∀x H3,J.yld i H2 x H3->g x σ0 H3 λσ4 H4=>tt σ4 H4 λb H5=>
     if b=true then te σ4 H5 λy H6=>N (ys++[y]) H6 else N ys H5)
def qbt(n:Nat)(js:List Nat)(wi:TI)(g:TG)(tt:TT)(te:TE):TE:=λσ H Q=>
 wi σ H (cGo g tt te (caps n js σ) λys H2=>∀D,H2 D=none->Q (.ref D) (upd H2 D (.lst ys)))
def qiq(k n:Nat)(js:List Nat)(wi:TI)(g:TG)(tt:TT)(te:TE):TS:=λE σ H=>
 wi σ H (cGo g tt te (caps n js σ) λys H2=>∀D,H2 D=none->E.nx (σ.set k (some (.ref D))) (upd H2 D (.lst ys)))
theorem qej{prog:Program}{w:World}{A:Around}{R:Result->Shared->Prop}{s:Shared}{elt zh ze:Expr}{ifs:List Expr}{scope:Scope}{pos:Pos}{it acc:Value}{env:Env}(I:Nat->Shared->Prop)
   (turn:∀n s,I n s->wpAny (model prog w) A (pyNext it) (λr s₁=>(r=none/\R (.ok .next) s₁)∨∃v,r=some v/\wpAny (model prog w) A (letOwnedTupleGo zh it v) (λ_ s₀=>
     wpAny (model prog w) A (assign zh env v) (λ_ s₂=>
       wpAny (model prog w) A (forIn ifs true λc r=>if r=true then do let ok <-isTrue c env (eval c env);pure (ForInStep.yield ok)else pure (ForInStep.yield r)) (λok s₃=>
         if ok=true then wpAny (model prog w) A (eval elt env) (λx s₄=>wpAny (model prog w) A (call (.builtin "list.append") [acc,x]) (λ_ s₅=>∃m,m<n/\I m s₅) (λ_ _=>False) s₄) (λ_ _=>False) s₃
         else∃m,m<n/\I m s₃) (λ_ _=>False) s₂) (λ_ _=>False) s₀) (λ_ _=>False) s₁) (λ_ _=>False) s)
   (n:Nat) (h:I n s):codeAny (model prog w) A (.compLoop (.ListComp elt [⟨zh,ze,ifs,0⟩] scope pos) 0 it acc env) R s:=by
 have no:∀{E:Value->Shared->Prop} (x:Value) (z:Shared),False->E x z:=λ_ _ f=>f.elim
 refine codeAny_loop rfl I (λn s hI=>?_) n h
 show wpAny _ A ((compTurn (.ListComp elt [⟨zh,ze,ifs,0⟩] scope pos) 0 it acc env).onRaise (λx=>do noteFrame x env;theTreesLotGoes x)) _ _ s
 refine wpAny_noted ?_
 rw[compTurn_list]
 refine j7 (wpAny_standAt (j7 (x9 (turn n s hI) (λr s₁ h₁=>?_) no)))
 rcases h₁ with⟨e,h₁⟩|⟨v,e,h₁⟩
 · subst e
   exact j8 h₁
 · subst e
   refine j7 (x9 h₁ (λ_ s₀ h₀=>j7 (x9 h₀ (λ_ s₂ h₂=>j7 (x9 h₂ (λok s₃ h₃=>?_) no)) no)) no)
   cases ok with
   |false=>exact j8 ⟨rfl,h₃⟩
   | true=>
     have q:wpAny (model prog w) A (eval elt env) _ _ s₃:=h₃
     exact j7 (j7 (x9 q (λx s₄ h₄=>j7 (x9 h₄ (λ_ s₅ h₅=>j8 (j8 ⟨rfl,h₅⟩)) no)) no))
def q21(sc:Scope)(N0 N:List Str)(n:Nat)(js:List Nat)(scope:Scope):Bool:=
 decide (scope.kind=.function)&&scope.names.all (λy=>decide (y.2≠.cell))&&scope.names.all (λy=>decide (y.2≠.free)||decide (sc.names.lookup y.1=some .cell)||decide (sc.names.lookup y.1=some .free))&&
 scope.names.all (λy=>decide (y.2≠.local)||decide (scope.names.lookup y.1=some .local))&&decide (js.map (λj=>N0[j]?)=(N.drop n).map some)&&
 (N.drop n).all (λx=>decide (sc.names.lookup x=some .cell)||decide (sc.names.lookup x=some .free))&&(N.drop n).all (λx=>decide (scope.names.lookup x=some .free))&&decide (n+js.length=N.length)
theorem q4i{env:Env}:∀{names:List (Str×NameKind)} {x:Str},(names.map λ(n,k)=>if(k==NameKind.free&&env.scope.kind==.function&&env.kindOf n==some .cell)then(n,NameKind.cell)else(n,k)).lookup x=some .cell∨
   (names.map λ(n,k)=>if(k==NameKind.free&&env.scope.kind==.function&&env.kindOf n==some .cell)then(n,NameKind.cell)else(n,k)).lookup x=some .free->(∀y∈names,y.2≠.cell)->∃y∈names,y.1=x/\y.2=.free
 |[],_,h,_=>by rcases h with h|h<;>simp at h
 | (n,k)::r,x,h,hc=>by
   have ih:=@q4i env r x
   by_cases hx:x=n
   · subst hx
     refine⟨(x,k),jg,rfl,?_⟩
     have hk:k≠.cell:=hc (x,k) jg
     by_cases hf:k=.free
     · exact hf
     · exfalso
       have hb:(k==NameKind.free)=false:=by simpa using hf
       simp only[List.map_cons,hb,Bool.false_and,Bool.false_eq_true,if_false,List.lookup_cons,beq_self_eq_true]at h
       rcases h with h|h
       · exact hk (jh h)
       · exact hf (jh h)
   · have hb:(x==n)=false:=beq_eq_false_iff_ne.mpr hx
     have step:∀(q:Str×NameKind) (l:List (Str×NameKind)),q.1=n->List.lookup x (q::l)=List.lookup x l:=λq l e=>by
       obtain⟨a,b⟩:=q
       have e':a=n:=e
       subst e'
       rw[List.lookup_cons,hb]
     have nm:(if(k==NameKind.free&&env.scope.kind==.function&&env.kindOf n==some .cell)then(n,NameKind.cell)else(n,k)).1=n:=by split<;>rfl
     rw[ji,step _ _ nm]at h
     obtain⟨y,hy,r1,r2⟩:=ih h λy hy=>hc y (jk _ hy)
     exact⟨y,jk _ hy,r1,r2⟩
theorem mem_of_lookup{x:Str}{k:NameKind}:∀{l:List (Str×NameKind)},l.lookup x=some k->(x,k)∈l
 |[],h=>by simp at h
 | (a,b)::r,h=>by
   rw[List.lookup_cons]at h
   by_cases hx:x=a
   · subst hx
     simp only[beq_self_eq_true]at h
     cases h
     exact jg
   · rw[beq_eq_false_iff_ne.mpr hx]at h
     exact jk _ (mem_of_lookup h)
theorem q2p{env:Env}{x:Str}:∀(l:List (Str×NameKind)),l.lookup x=some .free->(l.map λ(n,k)=>if(k==NameKind.free&&env.scope.kind==.function&&env.kindOf n==some .cell)then(n,NameKind.cell)else(n,k)).lookup x≠some .local
 |[],q=>by simp at q
 | (a,b)::r,q=>λz=>by
   rw[List.lookup_cons]at q
   by_cases hx:x=a
   · subst hx
     simp only[beq_self_eq_true]at q
     cases q
     rw[ji]at z
     dsimp only at z
     split at z
     · simp[List.lookup_cons]at z
     · simp[List.lookup_cons]at z
   · rw[beq_eq_false_iff_ne.mpr hx]at q
     refine q2p (env:=env) r q ?_
     by_cases hc:(b==NameKind.free&&env.scope.kind==.function&&env.kindOf a==some .cell)=true
     · simp only[List.map_cons,if_pos hc,List.lookup_cons,beq_eq_false_iff_ne.mpr hx]at z
       exact z
     · simp only[List.map_cons,if_neg hc,List.lookup_cons,beq_eq_false_iff_ne.mpr hx]at z
       exact z
theorem qaq(n:Nat)(js:List Nat)(σ:St):(caps n js σ).length=n+js.length:=by simp[caps]
theorem qap{n:Nat}{js:List Nat}{σ:St}{i:Nat}(h:i<n):(caps n js σ)[i]? =some none:=by
 unfold caps
 rw[xx (by simpa using h),vg,if_pos h]
theorem qgw{n:Nat}{js:List Nat}{σ:St}{i:Nat}{v:V}(h:n<=i)(e:(caps n js σ)[i]? =some (some v)):∃j,js[i-n]? =some j/\σ[j]? =some (some v):=by
 unfold caps at e
 rw[xr (by simpa using h),kc,jz]at e
 cases q:js[i-n]? with
 |none=>rw[q]at e;cases e
 | some j=>
   rw[q]at e
   refine⟨j,rfl,?_⟩
   have e':(σ[j]?).join=some v:=jh e
   cases z:σ[j]? with
   |none=>rw[z]at e';cases e'
   |some o=>rw[z]at e';exact congrArg some e'
section
variable{X:Cx}{tg elt ze:Expr}{ifs:List Expr}{scope:Scope}{pos:Pos}{N N0:List Str}{n:Nat}{js:List Nat}{sc:Scope}{g:TG}{tt:TT}{te:TE}
theorem q61{z4:List (Addr×Obj)}{σ:St}{H:Hp}{s:Shared}{it:Addr}{fp:List Addr}{tn:Nat->Heap->Prop}{J:It}{cl:List (Str×Addr)}{Fin:List V->Hp->Prop}{RR:Value->Addr->Result->Shared->Prop}{E:Value->Shared->Prop}
   (hc:X.calm=true) (hsc:X.env.scope=sc) (hN0:X.N=N0) (ok:q21 sc N0 N n js scope=true)
   (hg:∀s H C cl fp,PG (cxB X N scope s H C cl fp) tg g) (hgo:Own n g) (ht:∀s H C cl fp,PIf (cxB X N scope s H C cl fp) ifs tt) (he:∀s H C cl fp,PE (cxB X N scope s H C cl fp) elt te)
   (I:Inv X z4 σ H s) (T:Turn X.prog X.w X.K tg J fp it tn) (st:tn 0 s.heap) (fo:∀b∈fp,FpOk X z4 H b)
   (hcl:∀x c,cl.lookup x=some c->X.env.cells.lookup x=some c) (hcl2:∀y∈scope.names,y.2=.free->∃c,cl.lookup y.1=some c)
   (G:cGo g tt te (caps n js σ) Fin J H)
   (k:∀(D C:Addr) (oC:Obj) (m:Str->Option Value) (ys:List V) (H':Hp) (s':Shared),Inv X (z4++[(C,oC)]) σ (upd H' D (.lst ys)) s'->H' D=none->s'.heap.Ns C m->X.s₀.heap.objs.size<=C->C≠X.env.locals->(∀x c,X.env.cells.lookup x=some c->c≠C)->
     (∀p∈X.pn++z4,p.1≠C)->upd H' D (.lst ys) C=none->Fin ys H'->RR (.ref D) C (.ok .next) s'):
   wpAny (model X.prog X.w) X.A (newList []) (λacc s₃=>wpAny (model X.prog X.w) X.A (newFunctionEnv scope X.env.globals cl [] X.env.qual none .none (some X.env)) (λcenv s₄=>
     codeAny (model X.prog X.w) X.A (.compStart (.ListComp elt [⟨tg,ze,ifs,0⟩] scope pos) 0 (.ref it) acc {cenv with scope:=relabel scope X.env}) (RR acc cenv.locals) s₄) E s₃) E s:=by
 simp only[q21,Bool.and_eq_true,decide_eq_true_eq,List.all_eq_true,Bool.or_eq_true]at ok
 obtain⟨⟨⟨⟨⟨⟨⟨kind,cell⟩,free⟩,nms⟩,cap⟩,lc⟩,lf⟩,len⟩:=ok
 subst hN0 hsc
 refine xf (wpAny_newFunctionEnv cell (by intro y hy;simp at hy) (λh1 ns1 sb1=>?_) kind)
 dsimp only at ns1 sb1 ⊢
 generalize eG:s.heap.push {cls:=.type "list",dict:=none,data:=.seq ([]:List Value).toArray}=G2 at ns1 sb1 ⊢
 have eC:G2.objs.size=s.heap.objs.size+1:=by rw[<-eG,kf]
 generalize eCC:G2.objs.size=C at ns1 sb1 eC ⊢
 generalize eD:s.heap.objs.size=D at eC ⊢
 have ltD:∀b o,s.heap.get? b=some o->b<D:=λb o e=>eD▸jd e
 have DC:D≠C:=by rw[eC];exact jj (Nat.lt_succ_self _)
 have bC:∀b:Nat,b<D->b≠C:=λb hb z=>by rw[z,eC]at hb;exact absurd hb (Nat.not_lt.mpr (Nat.le_succ _))
 have old:∀b o,s.heap.get? b=some o->h1.get? b=some o:=λb o e=>by
   have hb:=ltD b o e
   refine sb1.extBut b o (bC b hb) (je _ ?_)
   rw[<-eG]
   exact je _ e
 have accD:h1.get? D=some {cls:=.type "list",data:=.seq ([]:List Value).toArray 0}:=by
   refine sb1.extBut _ _ DC (je _ ?_)
   rw[<-eG,<-eD]
   exact jq _ rfl
 have freeD:H D=none:=I.hok.fresh (by rw[eD];exact jc _)
 have freeC:H C=none:=I.hok.fresh (by rw[eD,eC];exact Nat.le_succ _)
 have fpD:∀b∈fp,b<D:=λb hb=>let ⟨o,e,_⟩:=T.obj 0 _ st b hb;ltD b o e
 have cellD:∀x c,X.env.cells.lookup x=some c->c<D:=λx c e=>let ⟨v,o,ho,_⟩:=I.cell x c e;ltD c o ho
 have pinD:∀p∈X.pn++z4,p.1<D:=λp hp=>ltD _ _ (I.pin p hp).1
 have stkD:∀b∈frs X.stack,b<D:=λb hb=>by
   rcases List.mem_cons.mp (I.stkSub b hb)with e|z
   · subst e;rw[<-eD];exact I.lt
   · obtain⟨_,o,ho,_⟩:=I.ok.funs.mem z
     rw[<-eD]
     exact jt (jd ho) I.sz
 have fpS:∀b∈fp,b∉frs X.stack:=λb hb z=>by
   obtain⟨_,f1,f2,_⟩:=fo b hb
   rcases List.mem_cons.mp (I.stkSub b z)with e|q
   · exact f1 e
   · exact f2 q
 have kindB:(compEnvC scope cl C X.env).scope.kind=.function:=kind
 have okB:(cxB X N scope s H C cl fp).Ok:={
   mod:=I.ok.mod
   kind:=kind
   glob:=I.ok.glob
   blt:=I.ok.blt
   above:=by show s.heap.objs.size<=C;rw[eD,eC];exact Nat.le_succ _
   inj:=λx y c e1 e2=>I.ok.inj x y c (hcl x c e1) (hcl y c e2)
   has:=λx hx=>by
     obtain⟨y,hy,e,f⟩:=q4i (env:=X.env) (names:=scope.names) (x:=x) hx cell
     subst e
     exact hcl2 y hy f
   cab:=λx c z=>by cases z
   hd:=I.ok.hd
   frames:=I.ok.frames
   stk:=.inl rfl
   exf:=λb hb=>⟨bC b (fpD b hb),λx c e=>(fo b hb).2.2.2.2.1 x c (hcl x c e)⟩
   bs:=λb o e=>I.bs b o e
   bsz:=jy I.ok.bsz I.sz
   noex:=λb o e hb=>by
     rcases(fo b hb).2.2.2.1 with z|z
     · exact I.ok.noex b o e z
     · exact absurd (jt (jd e) (jy I.ok.bsz z)) (xm _)
   exfs:=fpS
   funs:=I.stack
   frf:=I.stkFree}
 have upH:∀b o,s.heap.get? b=some o->h1.get? b=some o:=old
 have IB:Inv (cxB X N scope s H C cl fp) [(D,{cls:=.type "list",data:=.seq ([]:List Value).toArray 0})] (caps n js σ) H {s with heap:=h1,toks:=s.toks+([]:List (Str×Value)).length}:=by
   refine⟨okB,rfl,I.bare,Un.kept old,⟨_,ns1,λi x v e1 e2 e3=>?_⟩,λx c e=>?_,freeC,λx c e=>I.freeC x c (hcl x c e),λp hp=>?_,I.hok.kept old,?_⟩
   · have hi:n<=i:=by
       by_cases hlt:i<n
       · rw[qap hlt]at e2;cases e2
       · omega
     obtain⟨j,ej,ev⟩:=qgw hi e2
     have hxN:(N.drop n)[i-n]? =some x:=by
       rw[List.getElem?_drop,show n+(i-n)=i by omega]
       exact e1
     have hxm:x∈N.drop n:=va hxN
     have eN:X.N[j]? =some x:=by
       have q:(js.map λj=>X.N[j]?)[i-n]? =some (X.N[j]?):=by rw[jz,ej];rfl
       rw[cap,jz,hxN]at q
       exact(jh q).symm
     obtain⟨m0,_,hl⟩:=I.loc
     have kx:=lc x hxm
     have vis:Vis X.env.scope x:=by
       rcases kx with z|z
       · exact .inr (.inl z)
       · exact .inr (.inr z)
     obtain⟨u,r,lk⟩:=hl j x v eN ev vis
     refine⟨u,r,?_⟩
     rcases lk with⟨q,_⟩|⟨_,c,ec,o,ho,hd⟩
     · exfalso
       have q':X.env.scope.names.lookup x=some .local:=q
       rcases kx with z|z
       · rw[z]at q';cases q'
       · rw[z]at q';cases q'
     · have fx:scope.names.lookup x=some .free:=lf x hxm
       obtain⟨c',ec'⟩:∃c',cl.lookup x=some c':=by
         have hm:(x,NameKind.free)∈scope.names:=mem_of_lookup fx
         exact hcl2 _ hm rfl
       have ecc:c'=c:=by
         have z:=hcl x c' ec'
         rw[ec]at z
         exact(jh z).symm
       subst ecc
       refine .inr ⟨?_,c',ec',o,old _ _ ho,hd⟩
       rcases e3 with z|z|z
       · exfalso
         have z':(relabel scope X.env).names.lookup x=some .local:=z
         exact q2p _ fx z'
       · exact .inl z
       · exact .inr z
   · obtain⟨v,o,ho,hd⟩:=I.cell x c (hcl x c e)
     exact⟨v,o,old _ _ ho,hd⟩
   · have e:p=(D,{cls:=.type "list",data:=.seq ([]:List Value).toArray 0}):=by simpa[cxB]using hp
     subst e
     exact⟨accD,freeD,DC,λz=>absurd (stkD D z) (xm _),λv=>by intro z;cases z⟩
   · show(caps n js σ).length=N.length
     rw[qaq]
     exact len
 -- what stays true of the iterator's records
 have stat:∀{H':Hp} {oD:Obj},(∀b∈fp,H' b=none)->∀b∈fp,FpOk (cxB X N scope s H C cl fp) [(D,oD)] H' b:=λ{H' oD} hn b hb=>
   ⟨hn b hb,bC b (fpD b hb),fpS b hb,.inl hb,λx c e=>(fo b hb).2.2.2.2.1 x c (hcl x c e),λp hp=>by
     have e:p=(D,oD):=by simpa[cxB]using hp
     subst e
     exact Nat.ne_of_gt (fpD b hb)⟩
 obtain⟨W,⟨m0,w0⟩,turn⟩:=G
 have loop:codeAny (model X.prog X.w) X.A (.compLoop (.ListComp elt [⟨tg,ze,ifs,0⟩] scope pos) 0 (.ref it) (.ref D) (compEnvC scope cl C X.env)) (RR (.ref D) C) {s with heap:=h1,toks:=s.toks+([]:List (Str×Value)).length}:=by
   refine qej (λm s'=>∃(i:Nat) (ys:List V) (its:List Value) (kk:Nat) (σ':St) (H':Hp),Inv (cxB X N scope s H C cl fp) [(D,{cls:=.type "list",data:=.seq its.toArray kk})] σ' H' s'/\Vals ys its/\(σ'.length=(caps n js σ).length/\∀i,n<=i->σ'[i]? =(caps n js σ)[i]?)/\
     tn i s'.heap/\(∀b∈fp,H' b=none)/\W i m ys H') ?_ m0 ⟨0,[],[],0,_,H,IB,.nil,⟨rfl,λ_ _=>rfl⟩,T.keep _ _ _ st λb hb o e=>old b o e,λb hb=>(fo b hb).1,w0⟩
   rintro m s3 ⟨i,ys,its,kk,σ3,H3,I3,r3,⟨l3,a3⟩,st3,fr3,w3⟩
   have I3':Inv (cxB X N scope s H C cl fp) [(D,{cls:=.type "list",data:=.seq its.toArray kk})] (caps n js σ) H3 s3:=I3.weak l3.symm λj v e=>by
     by_cases hj:j<n
     · rw[qap hj]at e;cases e
     · rw[a3 j (by omega)];exact e
   rcases turn i m ys H3 w3 with⟨stop,hz,fin⟩|⟨go,hz,Nn,hNn,step⟩
   · refine x9 (T.done (cxB X N scope s H C cl fp) rfl rfl rfl hc i _ s3 _ H3 (λ_ _=>False) I3' (stat fr3) st3 stop) (λr s4 h4=>?_) λ_ _ z=>z
     obtain⟨hr,I4⟩:=h4
     refine .inl ⟨hr,?_⟩
     have pD:=I4.pin (D,{cls:=.type "list",data:=.seq its.toArray kk}) (by simp[cxB])
     obtain⟨mC,nsC,_⟩:=I4.loc
     obtain⟨oC,es,ep,hoC,dC,rC⟩:=id nsC
     have J4:Inv X z4 σ H3 s4:=I.call' (s':=s4) I4.os (ch:=fp) I4.base I4.hok I4.bare λb hb=>by
       obtain⟨_,f1,f2,f3,f4,f5⟩:=fo b hb
       exact⟨f3,f1,f4,f5⟩
     have fC:H3 C=none:=I4.free
     have ltL:X.env.locals<D:=eD▸I.lt
     have cL:C≠X.env.locals:=(bC _ ltL).symm
     have cC:∀x c,X.env.cells.lookup x=some c->c≠C:=λx c e=>bC c (cellD x c e)
     have cP:∀p∈X.pn++z4,p.1≠C:=λp hp=>bC p.1 (pinD p hp)
     have cS:X.s₀.heap.objs.size<=C:=jy I.sz (by rw[eD,eC];exact Nat.le_succ _)
     have dS:X.s₀.heap.objs.size<=D:=by have:=I.sz;rw[eD]at this;exact this
     have cF:C∉X.fs:=λz=>by
       obtain⟨_,o,ho,_⟩:=I.ok.funs.mem z
       exact xm _ (jt (jd ho) cS)
     have J5:Inv X (z4++[(C,oC)]) σ H3 s4:=J4.pins_of λp hp=>(List.mem_append.mp hp).elim (λz=>J4.pin p (xc _ z)) λz=>by
       have e:p=(C,oC):=by simpa using z
       subst e
       exact⟨hoC,fC,cL,cF,λv z=>by have z':oC.data=.cell v:=z;rw[dC]at z';cases z'⟩
     refine k D C oC mC ys H3 s4 (J5.track pD.2.1 dS (Nat.ne_of_gt ltL) (λx c e=>jj (cellD x c e)) (λp hp=>?_) ?_) pD.2.1 nsC cS cL cC cP ?_ fin
     · rcases List.mem_append.mp hp with z|z
       · exact jj (pinD p (List.mem_append_left _ z))
       · rcases List.mem_append.mp z with z|z
         · exact jj (pinD p (xc _ z))
         · have e:p=(C,oC):=by simpa using z
           subst e
           exact Ne.symm DC
     · exact⟨hz,its,kk,r3,pD.1⟩
     · rw[q0d (Ne.symm DC)]
       exact fC
   · refine x9 (T.item (cxB X N scope s H C cl fp) rfl rfl rfl hc i _ s3 _ H3 (λ_ _=>False) I3' (stat fr3) st3 go) (λr s4 h4=>?_) λ_ _ z=>z
     obtain⟨u,hr,h4⟩:=h4
     refine .inr ⟨u,hr,?_⟩
     refine thn h4 λ_ s5 h5=>?_
     obtain⟨x,H5,I5,r5,y5,st5,fr5⟩:=h5
     have I5':=I5.pinned (stat fr5) (T.obj _ _ st5)
     refine thn (hg s H C cl fp _ s5 _ H5 x u _ I5' r5 (hgo _ _ _ _ (step x H5 y5))) λ_ s6 h6=>?_
     obtain⟨σ6,H6,I6,q6,l6,a6⟩:=h6
     refine thn (ht s H C cl fp _ s6 σ6 H6 _ I6 q6) λok s7 h7=>?_
     obtain⟨H7,I7,q7⟩:=h7
     have stays:∀{H8:Hp} {s8:Shared},Inv (cxB X N scope s H C cl fp) ([(D,{cls:=.type "list",data:=.seq its.toArray kk})]++q7h fp s5.heap) σ6 H8 s8->(∀b∈fp,∀o,s5.heap.get? b=some o->s8.heap.get? b=some o)/\∀b∈fp,H8 b=none:=λ{H8 s8} I8=>
       ⟨λb hb o e=>(I8.pin (b,o) (xc _ (xc _ (q3b hb e)))).1,λb hb=>by
         obtain⟨o,e,d⟩:=T.obj _ _ st5 b hb
         exact(I8.pin (b,o) (xc _ (xc _ (q3b hb e)))).2.1⟩
     cases ok with
     | false=>
       obtain⟨m',hm,w7⟩:=hNn ys H7 (show Nn ys H7 from q7)
       obtain⟨z1,z2⟩:=stays I7
       exact⟨m',hm,i+1,ys,its,kk,σ6,H7,I7.unpinned,r3,⟨l6,a6⟩,T.keep _ _ _ st5 z1,z2,w7⟩
     | true=>
       show wpAny _ _ (eval elt _) _ _ s7
       refine thn (he s H C cl fp _ s7 σ6 H7 _ I7 q7) λy s8 h8=>?_
       obtain⟨vy,H8,I8,ry,n8⟩:=h8
       obtain⟨m',hm,w8⟩:=hNn _ _ n8
       obtain⟨z1,z2⟩:=stays I8
       have pD:=I8.pin (D,{cls:=.type "list",data:=.seq its.toArray kk}) (by simp[cxB])
       have lenits:its.length<sizeLine:=by rw[<-r3.length];exact hz
       refine append_at pD.1 (λh9 hs9 hD9=>?_) (by simpa using Nat.le_of_lt lenits)
       have keep9:∀b o,b≠D->s8.heap.get? b=some o->h9.get? b=some o:=λb o hb e=>hs9.extBut b o hb e
       have I9:Inv (cxB X N scope s H C cl fp) [] σ6 H8 {s8 with heap:=h9}:=(I8.pins_of (pins':=[]) λp hp=>nomatch hp).turned (it:=D) keep9 pD.2.1 DC (.inr (by show s.heap.objs.size<=D;rw[eD];exact jc _))
         (λx c e=>jj (cellD x c (hcl x c e))) λp hp=>by simp[cxB]at hp
       refine⟨m',hm,i+1,ys++[vy],its++[y],kk+1,σ6,H8,I9.pins_of λp hp=>?_,r3.append (.cons ry .nil),⟨l6,a6⟩,T.keep _ _ _ st5 λb hb o e=>keep9 b o (jj (fpD b hb)) (z1 b hb o e),z2,w8⟩
       have e:p=(D,{cls:=.type "list",data:=.seq (its++[y]).toArray (kk+1)}):=by simpa using hp
       subst e
       refine⟨?_,pD.2.1,DC,λz=>absurd (stkD D z) (xm _),λv z=>by cases z⟩
       show h9.get? D=_
       rw[hD9,List.push_toArray]
 exact codeAny_compStart_list loop (T.self _ 0 _ _ _ (T.keep _ _ _ st λb hb o e=>old b o e) loop)
end
section
variable{X:Cx}{tg elt ze:Expr}{ifs:List Expr}{scope:Scope}{pos:Pos}{N N0:List Str}{n:Nat}{js:List Nat}{sc:Scope}{wi:TI}{g:TG}{tt:TT}{te:TE}
theorem qan{z4:List (Addr×Obj)}{σ:St}{H:Hp}{s:Shared}(I:Inv X z4 σ H s)(hsc:X.env.scope=sc)(ok:q21 sc N0 N n js scope=true):∀y∈scope.names,y.2=.free->∃c,X.env.cells.lookup y.1=some c:=by
 simp only[q21,Bool.and_eq_true,decide_eq_true_eq,List.all_eq_true,Bool.or_eq_true]at ok
 obtain⟨⟨⟨⟨⟨⟨⟨kind,cell⟩,free⟩,nms⟩,cap⟩,lc⟩,lf⟩,len⟩:=ok
 subst hsc
 intro y hy hf
 rcases free y hy with(z|z)|z
 · exact absurd hf z
 · exact I.ok.has y.1 (.inl z)
 · exact I.ok.has y.1 (.inr z)
theorem q60(ok:q21 sc N0 N n js scope=true):scope.kind=.function/\∀x∈scope.names,x.2=.local->scope.names.lookup x.1=some .local:=by
 simp only[q21,Bool.and_eq_true,decide_eq_true_eq,List.all_eq_true,Bool.or_eq_true]at ok
 obtain⟨⟨⟨⟨⟨⟨⟨kind,cell⟩,free⟩,nms⟩,cap⟩,lc⟩,lf⟩,len⟩:=ok
 refine⟨kind,λx hx hl=>?_⟩
 rcases nms x hx with z|z
 · exact absurd hl z
 · exact z
theorem Inv.butC{z4:List (Addr×Obj)}{σ:St}{H:Hp}{s:Shared}{C:Addr}{oC:Obj}{h':Heap}(I:Inv X (z4++[(C,oC)]) σ H s)(hs:Heap.SameBut C s.heap h')(h1:X.s₀.heap.objs.size<=C)(h2:C≠X.env.locals)
   (h3:∀x c,X.env.cells.lookup x=some c->c≠C) (h4:∀p∈X.pn++z4,p.1≠C) (h5:H C=none):Inv X z4 σ H {s with heap:=h'}:=
 I.unpinned.turned (it:=C) (t':=s.toks) (λb o hb e=>hs.extBut b o hb e) h5 h2 (.inr h1) h3 h4
theorem q4a(hc:X.calm=true)(hsc:X.env.scope=sc)(hN0:X.N=N0)(ok:q21 sc N0 N n js scope=true)(hi:PI X tg ze wi)
   (hg:∀s H C cl fp,PG (cxB X N scope s H C cl fp) tg g) (hgo:Own n g) (ht:∀s H C cl fp,PIf (cxB X N scope s H C cl fp) ifs tt) (he:∀s H C cl fp,PE (cxB X N scope s H C cl fp) elt te)
   (hs:∀x,foldedSetIterable ze X.env x=pure x:=by intro _;rfl):PE X (.ListComp elt [⟨tg,ze,ifs,0⟩] scope pos) (qbt n js wi g tt te):=by
 intro z4 s σ H Q I h
 obtain⟨cl,hclos,c1,c2⟩:=q4l (qan I hsc ok)
 obtain⟨kd,nm⟩:=q60 ok
 rw[eval_ListComp]
 refine wpAny_comprehension_free (use:=none) rfl hs hclos kd nm ?_
 refine thn (hi z4 s σ H _ I h) λv s1 h1=>thn h1 λitv s2 h2=>?_
 obtain⟨it,fp,tn,J,H2,e,I2,T,st2,f2,G⟩:=h2
 subst e
 refine q61 (RR:=λacc C=>compPost (model X.prog X.w) X.A X.xe none (EP X z4 σ Q) acc C) hc hsc hN0 ok hg hgo ht he I2 T st2 f2 c1 c2 G ?_
 intro D C oC m ys H' s' I' hD ns k1 k2 k3 k4 k5 fin
 exact⟨m,ns,λh' hs'=>⟨.ref D,_,I'.butC hs' k1 k2 k3 k4 k5,rfl,fin D hD⟩⟩
theorem q6b{k:Nat}{y:Str}{py zy:Pos}(hc:X.calm=true)(hsc:X.env.scope=sc)(hN0:X.N=N0)(ok:q21 sc N0 N n js scope=true)(hN:X.N.Nodup)(hk:X.N[k]? =some y)(hy:Loc X.env.scope y)
   (hi:PI X tg ze wi) (hg:∀s H C cl fp,PG (cxB X N scope s H C cl fp) tg g) (hgo:Own n g) (ht:∀s H C cl fp,PIf (cxB X N scope s H C cl fp) ifs tt) (he:∀s H C cl fp,PE (cxB X N scope s H C cl fp) elt te)
   (hsw:swapsWith (.ListComp elt [⟨tg,ze,ifs,0⟩] scope pos) (some (.Name y py)) zy.line X.env=pure true:=by rfl) (hs:∀x,foldedSetIterable ze X.env x=pure x:=by intro _;rfl)
   (hf:X.fn y=true∨X.env.scope.names.lookup y=some .local:=by first|exact .inl rfl|exact .inr rfl):PS X (.Assign [.Name y py] (.ListComp elt [⟨tg,ze,ifs,0⟩] scope pos) zy) (qiq k n js wi g tt te):=by
 intro z4 s σ H D0 I h
 obtain⟨cl,hclos,c1,c2⟩:=q4l (qan I hsc ok)
 obtain⟨kd,nm⟩:=q60 ok
 rw[exec_Assign_Name_used _ _ _ _ hsw]
 refine j7 (wpAny_standAt (j7 ?_))
 show wpAny _ X.A (comprehension (.ListComp elt [⟨tg,ze,ifs,0⟩] scope pos) scope X.env _ (newList []) false (eval ze X.env) (some (assign (.Name y py) X.env)) >>= λ_=>pure ()) _ _ s
 refine j7 (x9 (wpAny_comprehension_free (use:=some (assign (.Name y py) X.env)) (Q:=λ_ s'=>SP X z4 D0 .next s') rfl hs hclos kd nm ?_) (λ_ s' q=>j8 (j8 q)) λ_ _ z=>z)
 refine thn (hi z4 s σ H _ I h) λv s1 h1=>thn h1 λitv s2 h2=>?_
 obtain⟨it,fp,tn,J,H2,e,I2,T,st2,f2,G⟩:=h2
 subst e
 refine q61 (RR:=λacc C=>compPost (model X.prog X.w) X.A X.xe (some (assign (.Name y py) X.env)) (λ_ s'=>SP X z4 D0 .next s') acc C) hc hsc hN0 ok hg hgo ht he I2 T st2 f2 c1 c2 G ?_
 intro D C oC m ys H' s' I' hD ns k1 k2 k3 k4 k5 fin
 show wpAny _ X.A (assign (.Name y py) X.env (.ref D)) _ _ s'
 refine wpAny_assign_Name (q4s I' hN hk hy (v:=.ref D) rfl (λs'' I''=>?_) hf)
 have pc:=I''.pin (C,oC) (xc _ (xc _ jg))
 obtain⟨o,es,ep,ho,r⟩:=ns
 have pc':=I'.pin (C,oC) (xc _ (xc _ jg))
 have eo:o=oC:=by
   have z:=pc'.1
   rw[ho]at z
   exact jh z
 subst eo
 exact⟨m,⟨o,es,ep,pc.1,r⟩,λh' hs'=>⟨_,_,I''.butC hs' k1 k2 k3 k4 k5,fin D hD⟩⟩
end
theorem Same.new{H:Hp}{l:Addr}{o:HO}(h:H l=none):Same H (upd H l o):=λb u e=>by rw[q0d (q0m e h)];exact e
theorem Same.tup{K:PySem.W.Frag}{H H':Hp}{a:Addr}{xs:List V}(e:Same H H')(h:SqT K H a xs):SqT K H' a xs:=by
 rcases h with(h|⟨o,h⟩)|h
 · exact .inl (.inl (e _ _ h))
 · exact .inl (.inr ⟨o,e _ _ h⟩)
 · exact .inr h
section
variable{X:Cx}{K:PySem.W.Frag}
theorem q0k(h:X.K=K):IxR X (rIx K):=h▸qoh
theorem q1r(h:X.K=K):q4h X (.builtin "len") (λxs H Q=>∃p ys,xs=[.ref p]/\(SqL K H p ys∨SqT K H p ys)/\Q (.int ys.length) H):=by subst h;exact q8g
theorem q23(h:X.K=K):q4h X (.type "tuple") (λxs H Q=>∃p ys,xs=[.ref p]/\((SqL K H p ys/\∀l,H l=none->Q (.ref l) (upd H l (.tup ys)))∨(SqT K H p ys/\Q (.ref p) H))):=by subst h;exact q73
theorem qfn{tg l:Expr}{tl:TE}(h:X.K=K)(hl:PE X l tl):PI X tg l (qkl K tl):=h▸qjf hl
theorem qje{tg l:Expr}{tl:TE}(h:X.K=K)(hl:PE X l tl):PI X tg l (iTup K tl):=h▸qmx hl
theorem q58{es:List Expr}{k:Nat}{t:TGs}{n:Nat}{pos:Pos}(hK:X.K=K)(hc:X.calm=true)(h:PGs X es t)(hn:(assignEach es X.env).length=n:=by rfl)(hst:(assignEach es X.env).findIdx? (·.1)=none:=by rfl):PG X (.Tuple es k pos) (gTup K n t):=hK▸qmy hc h hn hst
end
def clsV:V->Option Value
 |.ref a=>some (.ref a)
 |.ty n=>some (.type n)
 |_=>none
def rIsi(K:PySem.W.Frag):List V->Hp->VK->Prop:=λxs H Q=>∃x y t c b,xs=[x,y]/\clsV y=some c/\TyOf K H x t/\PySem.W.kitOne K t c=some b/\Q (.bl b) H
section
variable{X:Cx}
theorem qh1{K:PySem.W.Frag}(hK:X.K=K):q4h X (.builtin "isinstance") (rIsi K):=by
 subst hK
 intro z4 s σ H xs us Q I r h
 obtain⟨x,y,t,c,b,rfl,hc,ty,e,q⟩:=h
 obtain⟨u,w,rfl,ru,rw'⟩:=vals2 r
 have ew:w=c:=by
   cases y with
   | ref a=>
     have z:w=Value.ref a:=rw'
     rw[z]
     exact jh hc
   | ty n=>
     have z:w=Value.type n:=rw'
     rw[z]
     exact jh hc
   |_=>cases hc
 subst ew
 exact qdx I ru ty e λtk=>⟨.bl b,H,I.tok tk,rfl,q⟩
theorem q4u{K:PySem.W.Frag}{v:Value}:PySem.W.kitOne K v v=some true:=by
 unfold PySem.W.kitOne
 rw[if_pos (beq_self_eq_true v)]
theorem q1h{K:PySem.W.Frag}{T U:String}{b:Bool}(hm:PySem.W.kitMeta U=true)(h3:PySem.W.subIn K (.type T) (.type U)=some b)(hn:Value.type T≠.type U):PySem.W.kitOne K (.type T) (.type U)=some b:=by
 unfold PySem.W.kitOne
 rw[if_neg (λz=>hn (eq_of_beq z))]
 unfold PySem.W.kitCls
 dsimp only
 rw[if_pos hm]
 exact h3
theorem q5r:∀{bs:List Bool} {us:List Value},Vals (bs.map V.bl) us->us=bs.map Value.bool
 |[],us,r=>by cases r;rfl
 | b::bs,us,r=>by
   cases r with
   | cons h t=>
     have e:_=Value.bool b:=h
     rw[e,q5r t]
     rfl
theorem range_all{α:Type}(l:List α)(f:α->Bool)(tr:Nat->Bool)(h:∀i x,l[i]? =some x->tr i=f x):(List.range l.length).all tr=l.all f:=by
 induction l generalizing tr with
 |nil=>rfl
 | cons a l ih=>
   rw[jo,List.range_succ_eq_map,List.all_cons,List.all_map,List.all_cons,h 0 a rfl]
   congr 1
   exact ih (λi=>tr (i+1)) λi x e=>h (i+1) x (by simpa using e)
theorem qh2{K:PySem.W.Frag}(hK:X.K=K)(hc:X.calm=true):q4h X (.builtin "all") (λxs H Q=>∃(p:Addr) (bs:List Bool),xs=[.ref p]/\SqL K H p (bs.map V.bl)/\Q (.bl (bs.all id)) H):=by
 subst hK
 intro z4 s σ H xs us Q I r h
 obtain⟨p,bs,rfl,hq,q⟩:=h
 obtain⟨u,rfl,ru⟩:=vals1 r
 cases ru
 obtain⟨its,rv,pl,hz⟩:=I.list hq
 have hh:X.A.in1.handled=none:=I.ok.hd hc
 have eits:=q5r rv
 have hl:=pl.isList
 have hlt:p<s.heap.objs.size:=by obtain⟨_,e,_⟩:=hl;exact jd e
 refine call_all_walk (v9 hl ?_)
 refine⟨_,_,_,_,_,_,λi=>bs.getD i false,rfl,Walks.list hh s.heap.objs.size p (jj hlt) its.toArray,⟨⟨_,jq _ rfl,rfl,rfl⟩,hl.push _⟩,λi v s' Q' E' hP hQ=>?_,λh' tk hk=>?_⟩
 · have e:(bs.map Value.bool)[i]? =some v:=by rw[<-eits];simpa using hP
   rw[jz]at e
   cases z:bs[i]? with
   |none=>rw[z]at e;cases e
   | some b=>
     rw[z]at e
     have e':v=Value.bool b:=(jh e).symm
     subst e'
     refine wpAny_truthy_bool ?_
     have:bs.getD i false=b:=by rw[jv,z];rfl
     dsimp only at hQ
     rw[this]at hQ
     exact hQ
 · have len:its.toArray.size=bs.length:=by rw[eits];simp
   refine⟨.bl (bs.all id),H,I.kept (t':=tk) λb o e=>hk b o (λz=>?_) (je _ e),?_,q⟩
   · have:=jd e
     rw[List.mem_singleton.mp z]at this
     exact xm _ this
   · show Value.bool _=Value.bool _
     rw[len,range_all bs id]
     intro i x e
     rw[jv,e]
     rfl
mutual
inductive DV(K:PySem.W.Frag)(H:Hp):V->PyData->Prop
 |non:DV K H .non .none
 |bl (b:Bool):DV K H (.bl b) (.bool b)
 |int (i:Int):DV K H (.int i) (.int i)
 |str (x:Str):DV K H (.str x) (.str x)
 |lst {a:Addr} {xs:List V} {ds:List PyData}:SqL K H a xs->DVs K H xs ds->DV K H (.ref a) (.list ds)
 |tup {a:Addr} {xs:List V} {ds:List PyData}:SqT K H a xs->DVs K H xs ds->DV K H (.ref a) (.tuple ds)
inductive DVs(K:PySem.W.Frag)(H:Hp):List V->List PyData->Prop
 |nil:DVs K H [] []
 |cons {x:V} {xs:List V} {d:PyData} {ds:List PyData}:DV K H x d->DVs K H xs ds->DVs K H (x::xs) (d::ds)
end
mutual
theorem q44{z4:List (Addr×Obj)}{σ:St}{H:Hp}{s:Shared}(I:Inv X z4 σ H s):∀{x:V} {d:PyData} {u:Value},DV X.K H x d->RelV x u->∃as,Reads s.heap u d as
 |_,_,u,.non,r=>by cases(show u=Value.none from r);exact⟨_,.none⟩
 |_,_,u,.bl b,r=>by cases(show u=Value.bool b from r);exact⟨_,.bool b⟩
 |_,_,u,.int i,r=>by obtain⟨t,e⟩:=(show∃t,u=Value.int i t from r);cases e;exact⟨_,.int i t⟩
 |_,_,u,.str x,r=>by obtain⟨t,e⟩:=(show∃t,u=Value.str x t from r);cases e;exact⟨_,.str x t⟩
 | _,_,u,.lst (a:=a) hq hs,r=>by
   cases(show u=Value.ref a from r)
   obtain⟨its,rv,pl,_⟩:=I.list hq
   obtain⟨o,e,c,n,dd⟩:=pl.isList
   obtain⟨as,q⟩:=q3o I hs rv
   exact⟨_,reads_list_at e c dd (by simpa using q)⟩
 | _,_,u,.tup (a:=a) hq hs,r=>by
   cases(show u=Value.ref a from r)
   obtain⟨its,rv,pl,_⟩:=I.tuple hq
   obtain⟨o,e,c,n,dd⟩:=pl
   obtain⟨as,q⟩:=q3o I hs rv
   exact⟨_,reads_tuple_at e c dd (by simpa using q)⟩
theorem q3o{z4:List (Addr×Obj)}{σ:St}{H:Hp}{s:Shared}(I:Inv X z4 σ H s):∀{xs:List V} {ds:List PyData} {us:List Value},DVs X.K H xs ds->Vals xs us->∃as,ReadsAll s.heap us ds as
 |_,_,_,.nil,.nil=>⟨_,.nil⟩
 | _,_,_,.cons h t,.cons r rs=>by
   obtain⟨as,q⟩:=q44 I h r
   obtain⟨bs,p⟩:=q3o I t rs
   exact⟨_,.cons q p⟩
end
def rEqD(K:PySem.W.Frag):R2:=λx y H Q=>∃d e,DV K H x d/\DV K H y e/\SeqAt.shaped d=true/\SeqAt.shaped e=true/\Q (.bl (PyData.eqv d e)) H
def rNeD(K:PySem.W.Frag):R2:=λx y H Q=>∃d e,DV K H x d/\DV K H y e/\SeqAt.shaped d=true/\SeqAt.shaped e=true/\Q (.bl (!PyData.eqv d e)) H
theorem q5v{K:PySem.W.Frag}(hK:X.K=K)(hu:X.A.units+64<cLine):OpR X (compareOp .Eq) (rEqD K):=by
 subst hK
 intro z4 s σ H x y v u Q I rx ry h
 obtain⟨d,e,hd,he,sd,se,q⟩:=h
 obtain⟨as,ra⟩:=q44 I hd rx
 obtain⟨bs,rb⟩:=q44 I he ry
 exact eq_dataH ra rb sd se hu ⟨.bl _,H,I,rfl,q⟩
theorem q9s{K:PySem.W.Frag}(hK:X.K=K)(hu:X.A.units+64<cLine):OpR X (compareOp .NotEq) (rNeD K):=by
 subst hK
 intro z4 s σ H x y v u Q I rx ry h
 obtain⟨d,e,hd,he,sd,se,q⟩:=h
 obtain⟨as,ra⟩:=q44 I hd rx
 obtain⟨bs,rb⟩:=q44 I he ry
 exact ne_dataH ra rb sd se hu ⟨.bl _,H,I,rfl,q⟩
structure MkN(K:PySem.W.Frag)(C:Addr):Prop where
 makes:PySem.W.makesIn K C=true
 init:PySem.W.findIn K (.ref C) "__init__"=some (some (.builtin "object.__init__"))
 kp:PySem.W.keepIn K (.ref C)=true
end
def seqIs(b:Bool)(h:Heap)(l:Addr)(xs:Array Value):Prop:=match b with
 |true=>h.IsList l xs
 |false=>h.IsTuple l xs
def iterIs(b:Bool)(h:Heap)(i l:Addr)(k:Nat):Prop:=match b with
 |true=>h.IsListIter i l k
 |false=>h.IsTupleIter i l k
def q3n(b:Bool)(l:Addr):Obj:={cls:=.type (if b then "list_iterator" else "tuple_iterator"),data:=.fields #[.ref l,.int 0 0]}
theorem seqIs.at_{b:Bool}{h h':Heap}{l:Addr}{xs:Array Value}(q:seqIs b h l xs)(e:∀o,h.get? l=some o->h'.get? l=some o):seqIs b h' l xs:=by
 cases b
 · obtain⟨o,z,r⟩:=(show h.IsTuple l xs from q)
   exact(show h'.IsTuple l xs from⟨o,e o z,r⟩)
 · obtain⟨o,z,r⟩:=(show h.IsList l xs from q)
   exact(show h'.IsList l xs from⟨o,e o z,r⟩)
theorem iterIs.at_{b:Bool}{h h':Heap}{i l:Addr}{k:Nat}(q:iterIs b h i l k)(e:∀o,h.get? i=some o->h'.get? i=some o):iterIs b h' i l k:=by
 cases b
 · obtain⟨o,z,r⟩:=(show h.IsTupleIter i l k from q)
   exact(show h'.IsTupleIter i l k from⟨o,e o z,r⟩)
 · obtain⟨o,z,r⟩:=(show h.IsListIter i l k from q)
   exact(show h'.IsListIter i l k from⟨o,e o z,r⟩)
theorem iterIs.obj{b:Bool}{h:Heap}{i l:Addr}{k:Nat}(q:iterIs b h i l k):∃o,h.get? i=some o/\∀v,o.data≠.cell v:=by
 cases b
 · obtain⟨o,z,_,d⟩:=(show h.IsTupleIter i l k from q)
   exact⟨o,z,λv e=>by rw[d]at e;cases e⟩
 · obtain⟨o,z,_,d⟩:=(show h.IsListIter i l k from q)
   exact⟨o,z,λv e=>by rw[d]at e;cases e⟩
theorem iterIs.mk_{b:Bool}{h:Heap}{i l:Addr}(q:h.get? i=some (q3n b l)):iterIs b h i l 0:=by
 cases b
 · exact(show h.IsTupleIter i l 0 from⟨_,q,rfl,rfl⟩)
 · exact(show h.IsListIter i l 0 from⟨_,q,rfl,rfl⟩)
section
variable{prog:Program}{w:World}{A:Around}{E:Value->Shared->Prop}{s:Shared}
theorem q5u{b:Bool}{l:Addr}{xs:Array Value}{Q:Value->Shared->Prop}(q:seqIs b s.heap l xs)(h:Q (.ref s.heap.objs.size) {s with heap:=s.heap.push (q3n b l)}):wpAny (model prog w) A (pyIter (.ref l)) Q E s:=by
 cases b
 · exact wpAny_pyIter_tuple (show s.heap.IsTuple l xs from q) h
 · exact v9 (show s.heap.IsList l xs from q) h
theorem q7r{i l:Addr}{k:Nat}{xs:Array Value}{x:Value}{Q:Value->Shared->Prop}(st:s.heap.IsTupleIter i l k)(tp:s.heap.IsTuple l xs)(e:xs[k]? =some x)
   (h:∀h',h'.IsTupleIter i l (k+1)->Heap.SameBut i s.heap h'->Q x {s with heap:=h'}):wpAny (model prog w) A (Builtin.SmallTypes.nextOf (.ref i)) Q E s:=by
 obtain⟨oi,gi,ci,di⟩:=id st
 obtain⟨ot,gt,_,nt,dt⟩:=tp
 unfold Builtin.SmallTypes.nextOf
 refine j7 (k8 (name:=Str.ofString "__next__") st.typeIs vh (xj vh st.typeIs F.entry_tuple_iterator_next ?_ (F.args_tuple_iterator_next_1 _)))
 show wpAny _ _ (field (.ref i) 0 >>= _) _ _ s
 refine j7 (x8 gi di (x:=.ref l) rfl ?_)
 show wpAny _ _ (if(Value.ref l==Value.none)=true then _ else _) _ _ s
 rw[if_neg (by exact Bool.false_ne_true:¬((Value.ref l==Value.none)=true))]
 show wpAny _ _ (field (.ref i) 1 >>= _) _ _ s
 refine j7 (x8 gi di (x:=.int k 0) rfl ?_)
 show wpAny _ _ (seqItems? (.ref l) >>= _) _ _ s
 refine j7 (xu gt dt ?_)
 simp only[Int.toNat_natCast,e]
 refine j7 (wpAny_setField gi di (by simp) (j8 ⟨x,rfl,j8 (h _ ?_ (xn ..))⟩))
 refine⟨_,ke _ gi (Obj.isFreed_of_fields (Obj.data_mapFields di _)),(Obj.cls_mapFields ..).trans ci,?_⟩
 rw[Obj.data_mapFields di]
 simp[rawInt]
theorem q4o{i l:Addr}{k:Nat}{xs:Array Value}{Q:Value->Shared->Prop}(hh:A.handled=none)(st:s.heap.IsTupleIter i l k)(tp:s.heap.IsTuple l xs)(e:xs[k]? =none)
   (h:∀h' x,Heap.ExtBut i s.heap h'->(∃o,h'.get? x=some o/\o.cls=.type "StopIteration")->E (.ref x) {s with heap:=h'}):wpAny (model prog w) A (Builtin.SmallTypes.nextOf (.ref i)) Q E s:=by
 obtain⟨oi,gi,ci,di⟩:=id st
 obtain⟨ot,gt,_,nt,dt⟩:=tp
 unfold Builtin.SmallTypes.nextOf
 refine j7 (k8 (name:=Str.ofString "__next__") st.typeIs vh (xj vh st.typeIs F.entry_tuple_iterator_next ?_ (F.args_tuple_iterator_next_1 _)))
 show wpAny _ _ (field (.ref i) 0 >>= _) _ _ s
 refine j7 (x8 gi di (x:=.ref l) rfl ?_)
 show wpAny _ _ (if(Value.ref l==Value.none)=true then _ else _) _ _ s
 rw[if_neg (by exact Bool.false_ne_true:¬((Value.ref l==Value.none)=true))]
 show wpAny _ _ (field (.ref i) 1 >>= _) _ _ s
 refine j7 (x8 gi di (x:=.int k 0) rfl ?_)
 show wpAny _ _ (seqItems? (.ref l) >>= _) _ _ s
 refine j7 (xu gt dt ?_)
 simp only[Int.toNat_natCast,e]
 refine j7 (xo (j7 (wpAny_setField gi di (by simp) ?_)))
 show wpAny _ _ (newExc (.type "StopIteration") [] >>= _) _ _ _
 refine j7 ?_
 simp only[newExc,newTuple]
 refine j7 (xf ?_ (by size_fits))
 refine j7 (m:=firstArgMember _ _) (xk (a:=Value.none) (by first|rfl|(simp only[firstArgMember]<;>rfl)) ?_)
 refine xf ?_ (by size_fits)
 simp only[raiseNew]
 refine j7 (wpAny_handled ?_)
 first|rw[(hh:A.in1.handled=none)]|rw[hh]
 refine j7 (j8 (wpAny_throw ?_))
 exact h _ _ (((xn ..).extBut.push _).push _) ⟨_,jq _ rfl,rfl⟩
theorem q4c{b:Bool}{i l:Addr}{k:Nat}{xs:Array Value}{x:Value}{Q:Value->Shared->Prop}(st:iterIs b s.heap i l k)(tp:seqIs b s.heap l xs)(e:xs[k]? =some x)
   (h:∀h',iterIs b h' i l (k+1)->Heap.SameBut i s.heap h'->Q x {s with heap:=h'}):wpAny (model prog w) A (Builtin.SmallTypes.nextOf (.ref i)) Q E s:=by
 cases b
 · exact q7r st tp e h
 · exact wpAny_nextOf_list_item st tp e h
theorem q3h{b:Bool}{i l:Addr}{k:Nat}{xs:Array Value}{Q:Value->Shared->Prop}(hh:A.handled=none)(st:iterIs b s.heap i l k)(tp:seqIs b s.heap l xs)(e:xs[k]? =none)
   (h:∀h' x,Heap.ExtBut i s.heap h'->(∃o,h'.get? x=some o/\o.cls=.type "StopIteration")->E (.ref x) {s with heap:=h'}):wpAny (model prog w) A (Builtin.SmallTypes.nextOf (.ref i)) Q E s:=by
 cases b
 · exact q4o hh st tp e h
 · exact wpAny_nextOf_list_end hh st tp e h
theorem qf3{z TI TO i1 i2 l1 l2:Addr}{b1 b2:Bool}{k1 k2:Nat}{xs ys:Array Value}{x y a b:Value}{Q:Option Value->Shared->Prop}(D:ZipApart z TI TO i1 i2 l1 l2)
   (hz:IsZip s.heap z TI TO .none) (hTI:IsPair s.heap TI (.ref i1) (.ref i2)) (hTO:IsPair s.heap TO a b) (h1:iterIs b1 s.heap i1 l1 k1) (h2:iterIs b2 s.heap i2 l2 k2) (q1:seqIs b1 s.heap l1 xs) (q2:seqIs b2 s.heap l2 ys) (hx:xs[k1]? =some x) (hy:ys[k2]? =some y)
   (hQ:∀h',IsZip h' z TI TO (rawInt s.heap.objs.size)->IsPair h' TO x y->iterIs b1 h' i1 l1 (k1+1)->iterIs b2 h' i2 l2 (k2+1)->IsPair h' s.heap.objs.size x y->
     (∀c o,c≠z->c≠TO->c≠i1->c≠i2->s.heap.get? c=some o->h'.get? c=some o)->Q (some (.ref s.heap.objs.size)) {s with heap:=h'}):wpAny (model prog w) A (pyNext (.ref z)) Q E s:=by
 have ty:s.TypeIs (.ref z) "zip":=⟨_,hz,rfl⟩
 unfold pyNext
 refine j7 (kl (k8 (name:=Str.ofString "__next__") ty F.slot_zip_next (xj F.slot_zip_next ty F.entry_zip_next ?_ (F.args_zip_next_1 _))))
 show wpAny _ _ (field (.ref z) 2 >>= _) _ _ _
 refine j7 (x8 hz rfl (x:=.bool false) rfl ?_)
 show wpAny _ _ (field (.ref z) 3 >>= _) _ _ _
 refine j7 (x8 hz rfl (x:=.ref TI) rfl (j7 (xu hTI rfl ?_)))
 show wpAny _ _ (Builtin.SmallTypes.ownedTupleIsFree (.ref z) >>= _) _ _ _
 refine j7 ?_
 unfold Builtin.SmallTypes.ownedTupleIsFree
 refine j7 (x8 hz rfl (x:=.none) rfl (j8 ?_))
 simp only[if_true]
 refine j7 (xo (j7 (x8 hz rfl (x:=.ref TO) rfl (j7 (k7 hz (by simp) λg1 z1 s1=>?_)))))
 have Z1:IsZip g1 z TI TO .ellipsis:=z1
 refine j7 ?_
 simp only[List.zipIdx_cons,List.zipIdx_nil,List.forIn_cons,List.forIn_nil]
 refine j7 (j7 (wpAny_onRaise ?_))
 show wpAny _ _ (Builtin.SmallTypes.nextOf (.ref i1) >>= _) _ _ _
 refine j7 (q4c (h1.at_ λo e=>s1.extBut _ o D.i1z e) (q1.at_ λo e=>s1.extBut _ o D.l1z e) hx λg2 n2 s2=>j8 ?_)
 have P2:IsPair g2 TO a b:=s2.extBut _ _ D.TOi1 (s1.extBut _ _ D.TOz hTO)
 refine j7 (xu P2 rfl (j7 (wpAny_updateSeq_pair P2 λg3 p3 s3=>j7 (wpAny_letGo (j8 ?_)))))
 have P3:IsPair g3 TO x b:=p3
 refine j7 (j7 (wpAny_onRaise ?_))
 show wpAny _ _ (Builtin.SmallTypes.nextOf (.ref i2) >>= _) _ _ _
 refine j7 (q4c (h2.at_ λo e=>s3.extBut _ o D.TOi2.symm (s2.extBut _ o D.i12.symm (s1.extBut _ o D.i2z e))) (q2.at_ λo e=>s3.extBut _ o D.l2TO (s2.extBut _ o D.l2i1 (s1.extBut _ o D.l2z e))) hy λg4 n4 s4=>j8 ?_)
 have P4:IsPair g4 TO x b:=s4.extBut _ _ D.TOi2 P3
 refine j7 (xu P4 rfl (j7 (wpAny_updateSeq_pair P4 λg5 p5 s5=>j7 (wpAny_letGo (j8 (j8 ?_))))))
 have P5:IsPair g5 TO x y:=p5
 refine j7 (xu P5 rfl (j7 (wpAny_newTuple ?_)))
 have sz:g5.objs.size=s.heap.objs.size:=by rw[s5.1,s4.1,s3.1,s2.1,s1.1]
 have Z5:IsZip g5 z TI TO .ellipsis:=s5.extBut _ _ D.TOz.symm (s4.extBut _ _ D.i2z.symm (s3.extBut _ _ D.TOz.symm (s2.extBut _ _ D.i1z.symm Z1)))
 have K5:∀c o,c≠z->c≠TO->c≠i1->c≠i2->s.heap.get? c=some o->g5.get? c=some o:=λc o c1 c2 c3 c4 e=>s5.extBut _ _ c2 (s4.extBut _ _ c4 (s3.extBut _ _ c2 (s2.extBut _ _ c3 (s1.extBut _ _ c1 e))))
 have N1:iterIs b1 g5 i1 l1 (k1+1):=n2.at_ λo e=>s5.extBut _ o D.TOi1.symm (s4.extBut _ o D.i12 (s3.extBut _ o D.TOi1.symm e))
 have N2:iterIs b2 g5 i2 l2 (k2+1):=n4.at_ λo e=>s5.extBut _ o D.TOi2.symm e
 have zlt:z<g5.objs.size:=jd Z5
 show wpAny _ _ (Builtin.SmallTypes.ownedTupleHandOut (.ref z) (.ref g5.objs.size) >>= _) _ _ _
 refine j7 ?_
 unfold Builtin.SmallTypes.ownedTupleHandOut
 have Z6:IsZip (g5.push {cls:=.type "tuple",data:=.seq #[x,y]}) z TI TO .ellipsis:=je _ Z5
 refine j7 (k7 Z6 (by simp) λg7 z7 s7=>?_)
 have Z7:IsZip g7 z TI TO (rawInt g5.objs.size):=z7
 refine k7 Z7 (by simp) λg8 z8 s8=>?_
 have Z8:IsZip g8 z TI TO (rawInt g5.objs.size):=z8
 have up:∀c o,c≠z->g5.get? c=some o->g8.get? c=some o:=λc o c1 e=>s8.extBut _ _ c1 (s7.extBut _ _ c1 (je _ e))
 have T8:IsPair g8 g5.objs.size x y:=s8.extBut _ _ (Nat.ne_of_gt zlt) (s7.extBut _ _ (Nat.ne_of_gt zlt) (jq _ rfl))
 rw[sz]at Z8 T8
 refine j8 ⟨_,rfl,j8 ?_⟩
 show Q (some (.ref g5.objs.size)) _
 rw[sz]
 exact hQ g8 Z8 (up _ _ D.TOz P5) (N1.at_ λo e=>up _ o D.i1z e) (N2.at_ λo e=>up _ o D.i2z e) T8 λc o c1 c2 c3 c4 e=>up c o c1 (K5 c o c1 c2 c3 c4 e)
theorem qif{z TI TO i1 i2 l1 l2:Addr}{b1 b2:Bool}{k1 k2:Nat}{xs ys:Array Value}{a b:Value}{Q:Option Value->Shared->Prop}(hh:A.handled=none)(D:ZipApart z TI TO i1 i2 l1 l2)
   (hz:IsZip s.heap z TI TO .none) (hTI:IsPair s.heap TI (.ref i1) (.ref i2)) (hTO:IsPair s.heap TO a b) (h1:iterIs b1 s.heap i1 l1 k1) (h2:iterIs b2 s.heap i2 l2 k2) (q1:seqIs b1 s.heap l1 xs) (q2:seqIs b2 s.heap l2 ys) (hend:xs[k1]? =none∨ys[k2]? =none)
   (hQ:∀h',(∀c o,c≠z->c≠TO->c≠i1->c≠i2->s.heap.get? c=some o->h'.get? c=some o)->Q none {s with heap:=h'}):wpAny (model prog w) A (pyNext (.ref z)) Q E s:=by
 have ty:s.TypeIs (.ref z) "zip":=⟨_,hz,rfl⟩
 have fin:∀(h':Heap) (e:Addr),(∀c o,c≠z->c≠TO->c≠i1->c≠i2->s.heap.get? c=some o->h'.get? c=some o)->(∃o,h'.get? e=some o/\o.cls=.type "StopIteration")->
     wpAny (model prog w) A (isInstance (.ref e) (.type "StopIteration") >>= λr=>if r=true then pure none else throw (.ref e)) Q E {s with heap:=h'}:=λh' e hk ⟨o,ho,hc⟩=>
   j7 (km (T:="StopIteration") (b:=true) ⟨o,ho,hc⟩ isSubtype_stop (j8 (hQ _ hk)))
 unfold pyNext
 refine j7 (kl (k8 (name:=Str.ofString "__next__") ty F.slot_zip_next (xj F.slot_zip_next ty F.entry_zip_next ?_ (F.args_zip_next_1 _))))
 show wpAny _ _ (field (.ref z) 2 >>= _) _ _ _
 refine j7 (x8 hz rfl (x:=.bool false) rfl ?_)
 show wpAny _ _ (field (.ref z) 3 >>= _) _ _ _
 refine j7 (x8 hz rfl (x:=.ref TI) rfl (j7 (xu hTI rfl ?_)))
 show wpAny _ _ (Builtin.SmallTypes.ownedTupleIsFree (.ref z) >>= _) _ _ _
 refine j7 ?_
 unfold Builtin.SmallTypes.ownedTupleIsFree
 refine j7 (x8 hz rfl (x:=.none) rfl (j8 ?_))
 simp only[if_true]
 refine j7 (xo (j7 (x8 hz rfl (x:=.ref TO) rfl (j7 (k7 hz (by simp) λg1 z1 s1=>?_)))))
 have Z1:IsZip g1 z TI TO .ellipsis:=z1
 refine j7 ?_
 simp only[List.zipIdx_cons,List.zipIdx_nil,List.forIn_cons,List.forIn_nil]
 refine j7 (j7 (wpAny_onRaise ?_))
 show wpAny _ _ (Builtin.SmallTypes.nextOf (.ref i1) >>= _) _ _ _
 have I1:iterIs b1 g1 i1 l1 k1:=h1.at_ λo e=>s1.extBut _ o D.i1z e
 have L1:seqIs b1 g1 l1 xs:=q1.at_ λo e=>s1.extBut _ o D.l1z e
 cases ex:xs[k1]? with
 | none=>
   refine j7 (q3h hh I1 L1 ex λg2 e s2 he=>?_)
   obtain⟨oe,he,ce⟩:=he
   have Z2:IsZip g2 z TI TO .ellipsis:=s2 _ _ D.i1z.symm Z1
   have nez:e≠z:=λq=>by subst q;rw[Z2]at he;cases he;simp at ce
   exact k7 Z2 (by simp) λg3 _ s3=>fin g3 e (λc o c1 _ c3 _ q=>s3.extBut _ _ c1 (s2 _ _ c3 (s1.extBut _ _ c1 q))) ⟨oe,s3.extBut _ _ nez he,ce⟩
 | some x=>
   have ey:ys[k2]? =none:=by
     rcases hend with q|q
     · rw[ex]at q;cases q
     · exact q
   refine j7 (q4c I1 L1 ex λg2 n2 s2=>j8 ?_)
   have P2:IsPair g2 TO a b:=s2.extBut _ _ D.TOi1 (s1.extBut _ _ D.TOz hTO)
   refine j7 (xu P2 rfl (j7 (wpAny_updateSeq_pair P2 λg3 p3 s3=>j7 (wpAny_letGo (j8 ?_)))))
   refine j7 (j7 (wpAny_onRaise ?_))
   show wpAny _ _ (Builtin.SmallTypes.nextOf (.ref i2) >>= _) _ _ _
   refine j7 (q3h hh (h2.at_ λo e=>s3.extBut _ o D.TOi2.symm (s2.extBut _ o D.i12.symm (s1.extBut _ o D.i2z e))) (q2.at_ λo e=>s3.extBut _ o D.l2TO (s2.extBut _ o D.l2i1 (s1.extBut _ o D.l2z e))) ey λg4 e s4 he=>?_)
   obtain⟨oe,he,ce⟩:=he
   have Z4:IsZip g4 z TI TO .ellipsis:=s4 _ _ D.i2z.symm (s3.extBut _ _ D.TOz.symm (s2.extBut _ _ D.i1z.symm Z1))
   have nez:e≠z:=λq=>by subst q;rw[Z4]at he;cases he;simp at ce
   exact k7 Z4 (by simp) λg5 _ s5=>fin g5 e (λc o c1 c2 c3 c4 q=>s5.extBut _ _ c1 (s4 _ _ c4 (s3.extBut _ _ c2 (s2.extBut _ _ c3 (s1.extBut _ _ c1 q))))) ⟨oe,s5.extBut _ _ nez he,ce⟩
abbrev zo1(b1:Bool)(h:Heap)(l1:Addr):Heap:=h.push (q3n b1 l1)
abbrev zo2(b1 b2:Bool)(h:Heap)(l1 l2:Addr):Heap:=(zo1 b1 h l1).push (q3n b2 l2)
abbrev zo3(b1 b2:Bool)(h:Heap)(l1 l2:Addr):Heap:=(zo2 b1 b2 h l1 l2).push {cls:=.type "tuple",data:=.seq #[.ref h.objs.size,.ref (zo1 b1 h l1).objs.size]}
abbrev zo4(b1 b2:Bool)(h:Heap)(l1 l2:Addr):Heap:=(zo3 b1 b2 h l1 l2).push {cls:=.type "tuple",data:=.seq #[.none,.none]}
abbrev zo5(b1 b2:Bool)(h:Heap)(l1 l2:Addr):Heap:=(zo4 b1 b2 h l1 l2).push {cls:=.type "zip",data:=.fields #[.none,.bool false,.bool false,.ref (zo2 b1 b2 h l1 l2).objs.size,.ref (zo3 b1 b2 h l1 l2).objs.size]}
theorem qie(b1 b2:Bool)(l1 l2:Addr)(xs ys:Array Value):Meets (Builtin.«zip.__new__» ⟨[.type "zip",.ref l1,.ref l2],[]⟩) (λ_ R s=>seqIs b1 s.heap l1 xs/\seqIs b2 s.heap l2 ys/\
     R (.ok (.ret (.ref (zo4 b1 b2 s.heap l1 l2).objs.size))) {s with heap:=zo5 b1 b2 s.heap l1 l2}):=by
 refine .of_wp λprog w A R s q=>?_
 obtain⟨hp,g,d,tk,os⟩:=s
 obtain⟨q1,q2,q⟩:=q
 have sub:=sub_zip
 have L1:seqIs b1 (Shared.heap ⟨hp,g,d,tk,os⟩) l1 xs:=q1
 have L2':seqIs b2 (Shared.heap ⟨hp.push (q3n b1 l1),g,d,tk,os⟩) l2 ys:=q2.at_ λo z=>je _ z
 wp_walk using q5u L1,q5u L2'
 exact⟨_,rfl,q⟩
theorem qgy{b1 b2:Bool}{l1 l2:Addr}{xs ys:Array Value}{Q:Value->Shared->Prop}(q1:seqIs b1 s.heap l1 xs)(q2:seqIs b2 s.heap l2 ys)
   (h:∀h',IsZip h' (s.heap.objs.size+4) (s.heap.objs.size+2) (s.heap.objs.size+3) .none->IsPair h' (s.heap.objs.size+2) (.ref s.heap.objs.size) (.ref (s.heap.objs.size+1))->IsPair h' (s.heap.objs.size+3) .none .none->
     iterIs b1 h' s.heap.objs.size l1 0->iterIs b2 h' (s.heap.objs.size+1) l2 0->(∀c o,s.heap.get? c=some o->h'.get? c=some o)->Q (.ref (s.heap.objs.size+4)) {s with heap:=h'}):
   wpAny (model prog w) A (call (.type "zip") [.ref l1,.ref l2]) Q E s:=by
 refine callType_new F.called_zip (by decide) (F.typeCall_zip_2 _ _) (F.newCall_zip_2 _ _) (λobj=>F.args_object_init_3 obj _ _) F.entry_zip_new (qie b1 b2 l1 l2 xs ys) ⟨q1,q2,?_⟩
 have y1:(zo1 b1 s.heap l1).objs.size=s.heap.objs.size+1:=kf ..
 have y2:(zo2 b1 b2 s.heap l1 l2).objs.size=s.heap.objs.size+2:=by rw[kf,y1]
 have y3:(zo3 b1 b2 s.heap l1 l2).objs.size=s.heap.objs.size+3:=by rw[kf,y2]
 have y4:(zo4 b1 b2 s.heap l1 l2).objs.size=s.heap.objs.size+4:=by rw[kf,y3]
 have k5:(zo5 b1 b2 s.heap l1 l2).get? (zo4 b1 b2 s.heap l1 l2).objs.size=some _:=jq _ rfl
 have k4:(zo5 b1 b2 s.heap l1 l2).get? (zo3 b1 b2 s.heap l1 l2).objs.size=some _:=je _ (jq _ rfl)
 have k3:(zo5 b1 b2 s.heap l1 l2).get? (zo2 b1 b2 s.heap l1 l2).objs.size=some _:=je _ (je _ (jq _ rfl))
 have k2:(zo5 b1 b2 s.heap l1 l2).get? (zo1 b1 s.heap l1).objs.size=some (q3n b2 l2):=je _ (je _ (je _ (jq _ (by cases b2<;>rfl))))
 have k1:(zo5 b1 b2 s.heap l1 l2).get? s.heap.objs.size=some (q3n b1 l1):=je _ (je _ (je _ (je _ (jq _ (by cases b1<;>rfl)))))
 show _/\_
 rw[y2,y3,y4]at k5
 rw[y1,y2]at k3
 rw[y3]at k4
 rw[y1]at k2
 rw[y4]
 exact⟨⟨_,k5,rfl⟩,h _ k5 k3 k4 (iterIs.mk_ k1) (iterIs.mk_ k2) λc o x=>je _ (je _ (je _ (je _ (je _ x))))⟩
end
def SqB(K:PySem.W.Frag)(b:Bool)(H:Hp)(p:Addr)(xs:List V):Prop:=match b with
 |true=>SqL K H p xs
 |false=>SqT K H p xs
section
variable{X:Cx}{z4:List (Addr×Obj)}{σ:St}{H:Hp}{s:Shared}{b b1 b2:Bool}{p p1 p2:Addr}{xs ys:List V}
theorem Inv.seqB(I:Inv X z4 σ H s)(h:SqB X.K b H p xs):∃its:List Value,Vals xs its/\seqIs b s.heap p its.toArray/\xs.length<=sizeLine:=by
 cases b
 · obtain⟨its,r,q,hz⟩:=I.tuple (show SqT X.K H p xs from h)
   exact⟨its,r,(show s.heap.IsTuple p its.toArray from q),hz⟩
 · obtain⟨its,r,q,hz⟩:=I.list (show SqL X.K H p xs from h)
   exact⟨its,r,(show s.heap.IsList p its.toArray from q.isList),hz⟩
theorem Inv.seqB_inj(I:Inv X z4 σ H s)(h:SqB X.K b H p xs)(h':SqB X.K b H p ys):xs=ys:=by
 cases b
 · exact I.tuple_inj h h'
 · exact I.list_inj h h'
end
def Itz(K:PySem.W.Frag)(b1 b2:Bool)(p1 p2:Addr):It:=
 ⟨λi H=>∃xs ys x y,SqB K b1 H p1 xs/\SqB K b2 H p2 ys/\xs[i]? =some x/\ys[i]? =some y,
  λi H v H'=>∃T x y,v=.ref T/\H T=none/\H'=upd H T (.tup [x,y])/\(∀xs,SqB K b1 H p1 xs->xs[i]? =some x)/\∀ys,SqB K b2 H p2 ys->ys[i]? =some y,
  λi H=>∃xs ys,SqB K b1 H p1 xs/\SqB K b2 H p2 ys/\(xs.length<=i∨ys.length<=i)⟩
def qpr(b1 b2:Bool)(p1 p2 z TI TO i1 i2:Addr)(i:Nat)(h:Heap):Prop:=IsZip h z TI TO .none/\IsPair h TI (.ref i1) (.ref i2)/\(∃a b,IsPair h TO a b)/\iterIs b1 h i1 p1 i/\iterIs b2 h i2 p2 i
theorem qf6{P:Program}{w:World}{K:PySem.W.Frag}{zo:List Expr}{x1:Nat}{pos:Pos}(b1 b2:Bool){p1 p2 z TI TO i1 i2:Addr}(D:ZipApart z TI TO i1 i2 p1 p2):
   Turn P w K (.Tuple zo x1 pos) (Itz K b1 b2 p1 p2) [z,TI,TO,i1,i2] z (qpr b1 b2 p1 p2 z TI TO i1 i2) where
 mem:=by simp
 obj:=λi h st c hc=>by
   obtain⟨hz,hI,⟨a,b,hO⟩,j1,j2⟩:=st
   simp only[List.mem_cons,List.not_mem_nil,or_false]at hc
   rcases hc with rfl|rfl|rfl|rfl|rfl
   · exact⟨_,hz,λv e=>by cases e⟩
   · exact⟨_,hI,λv e=>by cases e⟩
   · exact⟨_,hO,λv e=>by cases e⟩
   · exact j1.obj
   · exact j2.obj
 keep:=λi h h' st k=>by
   obtain⟨hz,hI,⟨a,b,hO⟩,j1,j2⟩:=st
   exact⟨k z (by simp) _ hz,k TI (by simp) _ hI,⟨a,b,k TO (by simp) _ hO⟩,j1.at_ λo e=>k i1 (by simp) o e,j2.at_ λo e=>k i2 (by simp) o e⟩
 item:=by
   intro X hP hw hK hc i z4 s σ H E I hf st hg
   subst hP hw hK
   obtain⟨xs,ys,x,y,q1,q2,ex,ey⟩:=hg
   obtain⟨it1,r1,t1,_⟩:=I.seqB q1
   obtain⟨it2,r2,t2,_⟩:=I.seqB q2
   obtain⟨u,eu,ru⟩:=r1.get ex
   obtain⟨v,ev,rv⟩:=r2.get ey
   obtain⟨hz,hI,⟨a,b,hO⟩,j1,j2⟩:=st
   refine qf3 D hz hI hO j1 j2 t1 t2 (x:=u) (y:=v) (by simpa using eu) (by simpa using ev) λh' z' o' n1 n2 tp kk=>?_
   refine⟨_,rfl,?_⟩
   refine wpAny_letOwnedTupleGo_zip z' λh'' z'' s''=>?_
   have fresh:H s.heap.objs.size=none:=I.hok.fresh (jc _)
   have zne:s.heap.objs.size≠z:=λe=>by
     have:=jd hz
     rw[<-e]at this
     exact xm _ this
   have keep:∀c o,c∉[z,TI,TO,i1,i2]->s.heap.get? c=some o->h''.get? c=some o:=λc o hc e=>by
     simp only[List.mem_cons,List.not_mem_nil,or_false,not_or]at hc
     exact s''.extBut c o hc.1 (kk c o hc.1 hc.2.2.1 hc.2.2.2.1 hc.2.2.2.2 e)
   have tp':h''.get? s.heap.objs.size=some {cls:=.type "tuple",data:=.seq #[u,v]}:=s''.extBut _ _ zne tp
   have I':Inv X z4 σ (upd H s.heap.objs.size (.tup [x,y])) {s with heap:=h'',toks:=s.toks}:=by
     refine I.step (g':=s.gens) (d':=s.drawn) (ch:=[z,TI,TO,i1,i2]) (λc hc=>?_) (λc o _ _ hc e _=>keep c o hc e) (λc o _ _ hc e _=>⟨o.slots,keep c o hc e⟩) (λc o _ e n=>?_) (λc o hc e=>⟨o,keep c o hc e⟩)
       (λc zs e=>?_) (λc o w' e=>?_) (λc ps e=>⟨#[],?_⟩) (λm hm=>?_) (λc o e=>?_) I.bare
     · obtain⟨_,f1,f2,f3,f4,f5⟩:=hf c hc
       exact⟨f3,f1,f4,f5⟩
     · rw[q0d (jj (jd e))];exact n
     · rw[q0d (q0m e fresh)];exact e
     · rw[q0d (q0m e fresh)];exact e
     · rw[q0d (q0m e fresh),e];simp
     · obtain⟨o,es,ep,ho,r⟩:=hm
       exact⟨o,es,ep,keep _ o (λq=>(hf _ q).2.1 rfl) ho,r⟩
     · by_cases hb:c=s.heap.objs.size
       · subst hb
         rw[q0h]at e
         cases e
         exact⟨by show 2<=sizeLine;decide,[u,v],.cons ru (.cons rv .nil),⟨_,tp',⟨rfl,_,rfl⟩,rfl⟩⟩
       · rw[q0d hb]at e
         refine(I.hok c o e).stay (λd w' hd q=>keep d w' (λm=>?_) q) (λd q=>?_) λd zs q=>?_
         · have n:=(hf d m).1
           rcases hd with rfl|hd
           · rw[n]at e;cases e
           · rw[n]at hd;cases hd
         · rw[q0d (q0m q fresh)];exact q
         · rw[q0d (q0m q fresh)];exact q
   refine⟨.ref s.heap.objs.size,_,I',rfl,⟨_,x,y,rfl,fresh,rfl,λzs q=>by rw[I.seqB_inj q q1];exact ex,λzs q=>by rw[I.seqB_inj q q2];exact ey⟩,?_,λc hc=>?_⟩
   · refine⟨z'',s''.extBut _ _ D.TIz (kk _ _ D.TIz D.TITO D.TIi1 D.TIi2 hI),⟨u,v,s''.extBut _ _ D.TOz o'⟩,n1.at_ λo e=>s''.extBut _ o D.i1z e,n2.at_ λo e=>s''.extBut _ o D.i2z e⟩
   · have lt:c<s.heap.objs.size:=by
       simp only[List.mem_cons,List.not_mem_nil,or_false]at hc
       rcases hc with rfl|rfl|rfl|rfl|rfl
       · exact jd hz
       · exact jd hI
       · exact jd hO
       · obtain⟨o,e,_⟩:=j1.obj;exact jd e
       · obtain⟨o,e,_⟩:=j2.obj;exact jd e
     rw[q0d (jj lt)]
     exact(hf c hc).1
 done:=by
   intro X hP hw hK hc i z4 s σ H E I hf st hg
   subst hP hw hK
   obtain⟨xs,ys,q1,q2,hl⟩:=hg
   obtain⟨it1,r1,t1,_⟩:=I.seqB q1
   obtain⟨it2,r2,t2,_⟩:=I.seqB q2
   obtain⟨hz,hI,⟨a,b,hO⟩,j1,j2⟩:=st
   have l1:=r1.length
   have l2:=r2.length
   refine qif (I.ok.hd hc) D hz hI hO j1 j2 t1 t2 (by rcases hl with h|h;exact .inl (by simp;omega);exact .inr (by simp;omega)) λh' kk=>⟨rfl,?_⟩
   have keep:∀c o,c∉[z,TI,TO,i1,i2]->s.heap.get? c=some o->h'.get? c=some o:=λc o hc e=>by
     simp only[List.mem_cons,List.not_mem_nil,or_false,not_or]at hc
     exact kk c o hc.1 hc.2.2.1 hc.2.2.2.1 hc.2.2.2.2 e
   show Inv X z4 σ H {s with heap:=h',toks:=s.toks}
   refine I.step (g':=s.gens) (d':=s.drawn) (ch:=[z,TI,TO,i1,i2]) (λc hc=>?_) (λc o _ _ hc e _=>keep c o hc e) (λc o _ _ hc e _=>⟨o.slots,keep c o hc e⟩) (λc o _ e n=>n) (λc o hc e=>⟨o,keep c o hc e⟩)
     (λc zs e=>e) (λc o w' e=>e) (λc ps e=>⟨#[],by rw[e];simp⟩) (λm hm=>?_) (λc o e=>?_) I.bare
   · obtain⟨_,f1,f2,f3,f4,f5⟩:=hf c hc
     exact⟨f3,f1,f4,f5⟩
   · obtain⟨o,es,ep,ho,r⟩:=hm
     exact⟨o,es,ep,keep _ o (λq=>(hf _ q).2.1 rfl) ho,r⟩
   · refine(I.hok c o e).stay (λd w' hd q=>keep d w' (λm=>?_) q) (λd q=>q) λd zs q=>q
     have n:=(hf d m).1
     rcases hd with rfl|hd
     · rw[n]at e;cases e
     · rw[n]at hd;cases hd
 self:=λ_ _ _ _ _ st h=>wpAny_pyIter_zip st.1 h
section
variable{X:Cx}{a b:Expr}{ta:TA}{p pos:Pos}{zo:List Expr}{x1:Nat}{tp:Pos}
def iZip(K:PySem.W.Frag)(b1 b2:Bool)(ta:TA):TI:=λσ H R=>ta σ H λvs H1=>∃p1 p2,vs=[.ref p1,.ref p2]/\(∃xs,SqB K b1 H1 p1 xs)/\(∃ys,SqB K b2 H1 p2 ys)/\R (Itz K b1 b2 p1 p2) H1
theorem q9p{K:PySem.W.Frag}(b1 b2:Bool)(hK:X.K=K)(hg:Gl X "zip")(hm:X.mg "zip"=none)(ha:PA X [a,b] ta)(he:starEach [a,b] X.env=(false,eval a X.env)::starEach [b] X.env:=by rfl)(hpl:(backTo pos (starEach [b] X.env)).any (·.1)=false:=by rfl):
   PI X (.Tuple zo x1 tp) (.Call (.Name "zip" p) [a,b] [] pos) (iZip K b1 b2 ta):=by
 subst hK
 intro z4 s σ H R I h
 refine kj (q42 I hg hm (u:=.type "zip") (by rfl) ?_)
 refine PyProof.Rows.callWith_type1 (thn (ha pos z4 s σ H _ I h) λus s1 h1=>?_) he hpl
 obtain⟨vs,H1,I1,r1,p1,p2,rfl,⟨xs,q1⟩,⟨ys,q2⟩,k⟩:=h1
 obtain⟨u,w',rfl,ru,rw'⟩:=vals2 r1
 cases(show u=Value.ref p1 from ru)
 cases(show w'=Value.ref p2 from rw')
 obtain⟨it1,r1,t1,_⟩:=I1.seqB q1
 obtain⟨it2,r2,t2,_⟩:=I1.seqB q2
 have lt:∀{c:Addr} {b:Bool} {zs:Array Value},seqIs b s1.heap c zs->c<s1.heap.objs.size:=λ{c b zs} q=>by
   cases b
   · obtain⟨o,e,_⟩:=(show s1.heap.IsTuple c zs from q);exact jd e
   · obtain⟨o,e,_⟩:=(show s1.heap.IsList c zs from q);exact jd e
 refine qgy t1 t2 λh' hz hI hO j1 j2 kk=>wpAny_pyIter_zip hz ?_
 have D:=zipApart_new (lt t1) (lt t2)
 have I2:Inv X z4 σ H1 {s1 with heap:=h',toks:=s1.toks}:=I1.kept kk
 refine⟨_,_,_,_,H1,rfl,I2,qf6 b1 b2 D,⟨hz,hI,⟨_,_,hO⟩,j1,j2⟩,λc hc=>?_,k⟩
 have le:s1.heap.objs.size<=c:=by
   simp only[List.mem_cons,List.not_mem_nil,or_false]at hc
   rcases hc with rfl|rfl|rfl|rfl|rfl<;>first|exact jc _|exact Nat.le_add_right _ _
 exact I1.fpOk le (I1.hok.fresh le)
end
section
variable{X:Cx}
theorem q3j:∀(ns:List Int) (k:Nat),k<=ns.length->preSum (λi=>ns.getD i 0) k=(ns.take k).sum
 |ns,0,_=>by simp[preSum]
 | ns,k+1,h=>by
   have hk:k<ns.length:=h
   rw[preSum,q3j ns k (Nat.le_of_lt hk),List.take_add_one,jf hk,List.sum_append]
   have e:ns.getD k 0=ns[k]:=by rw[jv,jf hk];rfl
   rw[e]
   simp
theorem q1k:∀{ns:List Int} {us:List Value} {i:Nat} {v:Value},Vals (ns.map V.int) us->us[i]? =some v->∃t,v=.int (ns.getD i 0) t
 |[],us,i,v,r,e=>by cases r;simp at e
 | n::ns,us,0,v,r,e=>by
   cases r with
   | cons h t=>
     obtain⟨tk,q⟩:=h
     simp at e
     exact⟨tk,by rw[<-e,q];rfl⟩
 | n::ns,us,i+1,v,r,e=>by
   cases r with
   | cons h t=>
     obtain⟨tk,q⟩:=q1k (i:=i) t (by simpa using e)
     exact⟨tk,by rw[q];rfl⟩
theorem qgz{K:PySem.W.Frag}(hK:X.K=K)(hc:X.calm=true):q4h X (.builtin "sum") (λxs H Q=>∃(p:Addr) (ns:List Int),xs=[.ref p]/\SqL K H p (ns.map V.int)/\Q (.int ns.sum) H):=by
 subst hK
 intro z4 s σ H xs us Q I r h
 obtain⟨p,ns,rfl,hq,q⟩:=h
 obtain⟨u,rfl,ru⟩:=vals1 r
 cases ru
 obtain⟨its,rv,pl,hz⟩:=I.list hq
 have hh:X.A.in1.handled=none:=I.ok.hd hc
 have hl:=pl.isList
 have hlt:p<s.heap.objs.size:=by obtain⟨_,e,_⟩:=hl;exact jd e
 refine call_sum_walkG (v9 hl ?_)
 refine⟨_,_,_,_,_,_,λi=>ns.getD i 0,rfl,Walks.list hh s.heap.objs.size p (jj hlt) its.toArray,⟨⟨_,jq _ rfl,rfl,rfl⟩,hl.push _⟩,λb hb=>?_,λi v hP=>q1k rv (by simpa using hP),λh' tk t' hk=>?_⟩
 · show b<(s.heap.push _).objs.size
   rw[kf]
   rcases List.mem_cons.mp hb with rfl|hb
   · exact Nat.lt_succ_self _
   · rw[List.mem_singleton.mp hb];exact Nat.lt_succ_of_lt hlt
 · have len:its.toArray.size=ns.length:=by have:=rv.length;simp at this;simp;omega
   refine⟨.int ns.sum,H,I.kept (t':=tk) λb o e=>hk b o (λz=>?_) (je _ e),⟨t',?_⟩,q⟩
   · have:=jd e
     rw[List.mem_singleton.mp z]at this
     exact xm _ this
   · rw[len,q3j ns _ (jc _),List.take_length]
end
def Exc(B:Heap)(e:Addr)(cls fl:Value)(h:Heap):Prop:=
 ∃oe vs T oT ts,h.get? e=some oe/\oe.cls=cls/\oe.dict=none/\oe.data=.fields vs/\vs[1]? =some (.ref T)/\B.get? T=none/\T≠e/\h.get? T=some oT/\oT.data=.fields ts/\ts[3]? =some fl
structure FlyD(B:Heap)(l:List Env)(e:Addr)(cls fl:Value)(h:Heap):Prop where
 st:B.StaysIn h
 new:B.get? e=none
 fr:h.FunFrames B l
 ex:Exc B e cls fl h
section
variable{M:Model}{A:Around}{E:Value->Shared->Prop}{s:Shared}{B:Heap}{env:Env}{outer l:List Env}{L e:Addr}{cls fl:Value}{Q:Unit->Shared->Prop}
theorem qqm{h:Heap}(hl:h.FunFrames B l){b:Addr}{o:Obj}{vs:Array Value}(ho:h.get? b=some o)(hd:o.data=.fields vs):b∉l.filterMap (·.frame):=λhb=>by
 obtain⟨_,o1,e1,d1⟩:=hl.mem hb
 rw[ho]at e1
 cases e1
 exact d1 vs hd
end
structure Flies(P:Program)(w:World)(l:List Env)(H:Hp)(s:Shared)(cls:Value)(e:Addr)(H':Hp)(s':Shared):Prop where
 os:s'.os=s.os
 bare:AllBare s'.gens
 un:Un (frs l) [] H H' s.heap s'.heap
 hok:HOk P w H' s'.heap
 fly:∃B,FlyD B l e cls .none s'.heap/\∀b o,s'.heap.get? b=some o->b∉frs l->(H' b≠none∨∃o',s.heap.get? b=some o')->B.get? b=some o
theorem ObjOk.there{P:Program}{w:World}{H:Hp}{h:Heap}{a:Addr}{o:HO}(x:ObjOk P w H h a o):∃u,h.get? a=some u:=by
 cases o with
 |lst xs=>obtain⟨_,_,_,_,e⟩:=x;exact⟨_,e⟩
 |tup xs=>obtain⟨_,_,_,ob,e,_⟩:=x;exact⟨_,e⟩
 |dK kvs=>obtain⟨_,_,_,_,o,_,e,_⟩:=x;exact⟨_,e⟩
 |dT kvs=>obtain⟨_,_,_,_,o,_,_,e,_⟩:=x;exact⟨_,e⟩
 |set S n=>obtain⟨o,_,_,_,e,_⟩:=x;exact⟨_,e⟩
 |ins C dx fs=>obtain⟨_,_,_,e,_⟩:=x;exact⟨_,e⟩
 |own y=>exact x
 |xd fs=>obtain⟨_,⟨_,_,_,e,_⟩,_⟩:=x;exact⟨_,e⟩
 |rng lo hi=>obtain⟨_,_,_,e⟩:=x;exact⟨_,e⟩
 |frz ob u=>obtain⟨e,_⟩:=x;exact⟨_,e⟩
 |tbl ps=>exact⟨_,(show h.get? a=some _ from x)⟩
 |lam pos q=>obtain⟨_,e,_⟩:=x;exact⟨_,e⟩
 |met f y=>exact⟨_,(show h.get? a=some _ from x)⟩
 |ext φ=>obtain⟨_,⟨_,e⟩,_⟩:=x;exact⟨_,e⟩
section
variable{X:Cx}{z4:List (Addr×Obj)}{σ:St}{H H':Hp}{s:Shared}
end
section
variable{P:Program}{w:World}{K:PySem.W.Frag}{mg:Str->Option Value}{base:Heap}{N:List Str}{qual:Str}{scope:Scope}{f:Addr}{cd:Value}{A:Around}{outer:List Env}{s₀:Shared}{H₀:Hp}{E:XK}
end
section
variable{X:Cx}{x:Str}{C:Addr}{bmB:List Value}{B newId initId:String}{np zg pos:Pos}{e:Expr}{es:List Expr}{t:TA}{E:XK}
end
def excO(e:Addr)(cls:Value):HO:=.ext λh=>∃oe vs,h.get? e=some oe/\oe.cls=cls/\oe.dict=none/\oe.data=.fields vs
section
variable{X:Cx}{z4:List (Addr×Obj)}{σ:St}{H H':Hp}{s s1:Shared}{e:Addr}{cls fl:Value}
theorem Flies.fresh{l:List Env}{P:Program}{w:World}(F:Flies P w l H s cls e H' s1):s.heap.get? e=none/\H' e=none:=by
 obtain⟨B,fl,cond⟩:=F.fly
 obtain⟨oe,vs,T,oT,ts,he,hc,hdn,hd,_⟩:=fl.ex
 have nf:=qqm fl.fr he hd
 have no:¬(H' e≠none∨∃o',s.heap.get? e=some o'):=λz=>by
   have q:=cond e oe he nf z
   rw[fl.new]at q
   cases q
 constructor
 · cases q:s.heap.get? e with
   |none=>rfl
   |some o=>exact absurd (.inr ⟨o,q⟩) no
 · cases q:H' e with
   |none=>rfl
   |some o=>exact absurd (.inl (by rw[q];exact λz=>nomatch z)) no
end
section
variable{X:Cx}{z4:List (Addr×Obj)}{σ:St}{H H':Hp}{s s1:Shared}{e:Addr}{cls c:Value}{i:Nat}{x n:Str}{np pos hpos:Pos}{b₀:Stmt}{suite:List Stmt}{ts:TS}{D:Ends}
end
section
variable{X:Cx}{z4:List (Addr×Obj)}{σ:St}{CX:CXT}{k:Nat}{f:Addr}{fd:FuncData}{ps:List Str}{sp:Sp}{dvs:List V}{ds:List Value}{E:XK}{x:Str}{p pos zg:Pos}{e c:Expr}{es:List Expr}{t:TA}{te:TE}{tc:TT}{st:Stmt}{a b:List Stmt}{ta tb u:TS}
end
section
variable{X:Cx}{c:Value}{i:Nat}{x n:Str}{np pos hpos:Pos}{body:List Stmt}{b₀:Stmt}{suite:List Stmt}{ts:TS}{tb:XK->TS}
end
section
variable{P:Program}{w:World}{K:PySem.W.Frag}{mg:Str->Option Value}{base:Heap}
end
section
variable{prog:Program}{w:World}{A:Around}{E:Value->Shared->Prop}{s:Shared}{K:PySem.W.Frag}{e C:Addr}{oe:Obj}
end
structure ExcK(K:PySem.W.Frag)(C:Addr):Prop where
 cls:PySem.W.isClsIn K C=true
 ty:PySem.W.typeIn K (.ref C)=some (.type "type")
 sf:PySem.W.subIn K (.ref C) (.ref C)=some true
 ga:PySem.W.findIn K (.ref C) "__getattribute__"=some (some (.builtin "BaseException.__getattribute__"))
 gt:PySem.W.findIn K (.ref C) "__getattr__"=some none
 bs:PySem.W.subIn K (.ref C) (.type "BaseException")=some true
 ha:PySem.W.findIn K (.ref C) "__class__"=some (some (.builtin "object.__class__"))
 hn:PySem.W.specialIn K (.builtin "object.__class__") "__get__"=some (some (.builtin "getset_descriptor.__get__"))
 tk:PySem.W.takesIn K (.builtin "object.__class__")=some true
 hm:PySem.W.mroIn K C (.type "object")=some true
section
variable{X:Cx}{z4:List (Addr×Obj)}{σ:St}{H:Hp}{s:Shared}{A:Around}{E:Value->Shared->Prop}{Q:Value->Shared->Prop}{c:Value}{b:Bool}{a C:Addr}
end
inductive D where
 |non
 |bl (b:Bool)
 |int (i:Int)
 |str (x:Str)
 |lst (xs:List D)
 |tup (xs:List D)
 |obj (x:Str) (fs:List (Str×D))
 |dct (kvs:List (Key×D))
 |dit (kvs:List (List Key×D))
 |exc (x:Str)
 |fn (x:Str)
 |tab (P:Addr) (pos:Pos) (q:Str)
mutual
inductive Rp(K:PySem.W.Frag)(R:Hp):V->D->Prop
 |non:Rp K R .non .non
 |bl (b:Bool):Rp K R (.bl b) (.bl b)
 |int (i:Int):Rp K R (.int i) (.int i)
 |str (x:Str):Rp K R (.str x) (.str x)
 |lst {a:Addr} {xs:List V} {ds:List D}:SqL K R a xs->Rps K R xs ds->Rp K R (.ref a) (.lst ds)
 |tup {a:Addr} {xs:List V} {ds:List D}:R a=some (.tup xs)->Rps K R xs ds->Rp K R (.ref a) (.tup ds)
 |obj {a C dx:Addr} {x:Str} {fs:List (Str×V)} {gs:List (Str×D)}:PySem.W.nsIn K mainGlobals x=some (some (.ref C))->R a=some (.ins C dx fs)->Rfs K R fs gs->Rp K R (.ref a) (.obj x gs)
 |dct {a:Addr} {kvs:List (Key×V)} {gs:List (Key×D)}:R a=some (.dK kvs)->Rkk K R kvs gs->Rp K R (.ref a) (.dct gs)
 |dit {a:Addr} {kvs:List (List Key×V)} {gs:List (List Key×D)}:R a=some (.dT kvs)->Rkt K R kvs gs->Rp K R (.ref a) (.dit gs)
 |exc {a C:Addr} {x:Str}:PySem.W.nsIn K mainGlobals x=some (some (.ref C))->ExcK K C->R a=some (excO a (.ref C))->Rp K R (.ref a) (.exc x)
 |fn {l:Addr} {x:Str}:PySem.W.nsIn K mainGlobals x=some (some (.ref l))->Rp K R (.ref l) (.fn x)
 |tab {P:Addr} {pos:Pos} {q:Str}:R P=some (.lam pos q)->Rp K R (.ref P) (.tab P pos q)
inductive Rps(K:PySem.W.Frag)(R:Hp):List V->List D->Prop
 |nil:Rps K R [] []
 |cons {x:V} {xs:List V} {d:D} {ds:List D}:Rp K R x d->Rps K R xs ds->Rps K R (x::xs) (d::ds)
inductive Rfs(K:PySem.W.Frag)(R:Hp):List (Str×V)->List (Str×D)->Prop
 |nil:Rfs K R [] []
 |cons {f:Str} {x:V} {xs:List (Str×V)} {d:D} {ds:List (Str×D)}:Rp K R x d->Rfs K R xs ds->Rfs K R ((f,x)::xs) ((f,d)::ds)
inductive Rkk(K:PySem.W.Frag)(R:Hp):List (Key×V)->List (Key×D)->Prop
 |nil:Rkk K R [] []
 |cons {f:Key} {x:V} {xs:List (Key×V)} {d:D} {ds:List (Key×D)}:Rp K R x d->Rkk K R xs ds->Rkk K R ((f,x)::xs) ((f,d)::ds)
inductive Rkt(K:PySem.W.Frag)(R:Hp):List (List Key×V)->List (List Key×D)->Prop
 |nil:Rkt K R [] []
 |cons {f:List Key} {x:V} {xs:List (List Key×V)} {d:D} {ds:List (List Key×D)}:Rp K R x d->Rkt K R xs ds->Rkt K R ((f,x)::xs) ((f,d)::ds)
end
section
variable{K:PySem.W.Frag}{R:Hp}
theorem Rp.isI{x:V}{i:Int}(h:Rp K R x (.int i)):x=.int i:=by cases h;rfl
theorem Rp.isS{x:V}{i:Str}(h:Rp K R x (.str i)):x=.str i:=by cases h;rfl
theorem Rp.isB{x:V}{i:Bool}(h:Rp K R x (.bl i)):x=.bl i:=by cases h;rfl
theorem Rp.isN{x:V}(h:Rp K R x .non):x=.non:=by cases h;rfl
def qqt:D->Option V
 |.int i=>some (.int i)
 |.str i=>some (.str i)
 |.bl i=>some (.bl i)
 |.non=>some .non
 |_=>none
theorem Rp.isA{x v:V}:{d:D}->Rp K R x d->qqt d=some v->x=v
 |.int _,h,e=>h.isI.trans (jh e)
 |.str _,h,e=>h.isS.trans (jh e)
 |.bl _,h,e=>h.isB.trans (jh e)
 |.non,h,e=>h.isN.trans (jh e)
theorem Rp.isL{x:V}{ds:List D}(h:Rp K R x (.lst ds)):∃a xs,x=.ref a/\SqL K R a xs/\Rps K R xs ds:=by
 cases h with
 |@lst a xs ds h r=>exact⟨a,xs,rfl,h,r⟩
theorem Rp.isT{x:V}{ds:List D}(h:Rp K R x (.tup ds)):∃a xs,x=.ref a/\R a=some (.tup xs)/\Rps K R xs ds:=by
 cases h with
 |@tup a xs ds h r=>exact⟨a,xs,rfl,h,r⟩
theorem Rps.isC{xs:List V}{d:D}{ds:List D}(h:Rps K R xs (d::ds)):∃x ys,xs=x::ys/\Rp K R x d/\Rps K R ys ds:=by
 cases h with
 |@cons x ys d ds h r=>exact⟨x,ys,rfl,h,r⟩
end
abbrev Rho:=List (Option D)
abbrev RhL:=Rho->Option (List D×Rho)
abbrev RhD:=Rho->Option (D×Rho)
abbrev RhB:=Rho->Option (Bool×Rho)
abbrev RhG:=D->Rho->Option Rho
theorem Same.sqL{K:PySem.W.Frag}{H H':Hp}{a:Addr}{xs:List V}(e:Same H H')(h:SqL K H a xs):SqL K H' a xs:=by
 rcases h with(h|⟨o,h⟩)|h
 · exact .inl (.inl (e _ _ h))
 · exact .inl (.inr ⟨o,e _ _ h⟩)
 · exact .inr h
section
variable{K:PySem.W.Frag}{R R':Hp}
theorem Rp.mono(s:Same R R'){v:V}{d:D}(h:Rp K R v d):Rp K R' v d:=
 Rp.rec (motive_1:=λv d _=>Rp K R' v d) (motive_2:=λxs ds _=>Rps K R' xs ds) (motive_3:=λxs ds _=>Rfs K R' xs ds) (motive_4:=λxs ds _=>Rkk K R' xs ds) (motive_5:=λxs ds _=>Rkt K R' xs ds)
   .non .bl .int .str (λh _ r=>.lst (s.sqL h) r) (λh _ r=>.tup (s _ _ h) r) (λn h _ r=>.obj n (s _ _ h) r) (λh _ r=>.dct (s _ _ h) r) (λh _ r=>.dit (s _ _ h) r) (λn k h=>.exc n k (s _ _ h)) (λn=>.fn n) (λh=>.tab (s _ _ h))
   .nil (λ_ _ h r=>.cons h r) .nil (λ_ _ h r=>.cons h r) .nil (λ_ _ h r=>.cons h r) .nil (λ_ _ h r=>.cons h r) h
theorem Rps.mono(s:Same R R'){xs:List V}{ds:List D}(h:Rps K R xs ds):Rps K R' xs ds:=
 Rps.rec (motive_1:=λv d _=>Rp K R' v d) (motive_2:=λxs ds _=>Rps K R' xs ds) (motive_3:=λxs ds _=>Rfs K R' xs ds) (motive_4:=λxs ds _=>Rkk K R' xs ds) (motive_5:=λxs ds _=>Rkt K R' xs ds)
   .non .bl .int .str (λh _ r=>.lst (s.sqL h) r) (λh _ r=>.tup (s _ _ h) r) (λn h _ r=>.obj n (s _ _ h) r) (λh _ r=>.dct (s _ _ h) r) (λh _ r=>.dit (s _ _ h) r) (λn k h=>.exc n k (s _ _ h)) (λn=>.fn n) (λh=>.tab (s _ _ h))
   .nil (λ_ _ h r=>.cons h r) .nil (λ_ _ h r=>.cons h r) .nil (λ_ _ h r=>.cons h r) .nil (λ_ _ h r=>.cons h r) h
theorem Rfs.mono(s:Same R R'){xs:List (Str×V)}{ds:List (Str×D)}(h:Rfs K R xs ds):Rfs K R' xs ds:=
 Rfs.rec (motive_1:=λv d _=>Rp K R' v d) (motive_2:=λxs ds _=>Rps K R' xs ds) (motive_3:=λxs ds _=>Rfs K R' xs ds) (motive_4:=λxs ds _=>Rkk K R' xs ds) (motive_5:=λxs ds _=>Rkt K R' xs ds)
   .non .bl .int .str (λh _ r=>.lst (s.sqL h) r) (λh _ r=>.tup (s _ _ h) r) (λn h _ r=>.obj n (s _ _ h) r) (λh _ r=>.dct (s _ _ h) r) (λh _ r=>.dit (s _ _ h) r) (λn k h=>.exc n k (s _ _ h)) (λn=>.fn n) (λh=>.tab (s _ _ h))
   .nil (λ_ _ h r=>.cons h r) .nil (λ_ _ h r=>.cons h r) .nil (λ_ _ h r=>.cons h r) .nil (λ_ _ h r=>.cons h r) h
theorem Rkk.mono(s:Same R R'){xs:List (Key×V)}{ds:List (Key×D)}(h:Rkk K R xs ds):Rkk K R' xs ds:=
 Rkk.rec (motive_1:=λv d _=>Rp K R' v d) (motive_2:=λxs ds _=>Rps K R' xs ds) (motive_3:=λxs ds _=>Rfs K R' xs ds) (motive_4:=λxs ds _=>Rkk K R' xs ds) (motive_5:=λxs ds _=>Rkt K R' xs ds)
   .non .bl .int .str (λh _ r=>.lst (s.sqL h) r) (λh _ r=>.tup (s _ _ h) r) (λn h _ r=>.obj n (s _ _ h) r) (λh _ r=>.dct (s _ _ h) r) (λh _ r=>.dit (s _ _ h) r) (λn k h=>.exc n k (s _ _ h)) (λn=>.fn n) (λh=>.tab (s _ _ h))
   .nil (λ_ _ h r=>.cons h r) .nil (λ_ _ h r=>.cons h r) .nil (λ_ _ h r=>.cons h r) .nil (λ_ _ h r=>.cons h r) h
theorem Rkt.mono(s:Same R R'){xs:List (List Key×V)}{ds:List (List Key×D)}(h:Rkt K R xs ds):Rkt K R' xs ds:=
 Rkt.rec (motive_1:=λv d _=>Rp K R' v d) (motive_2:=λxs ds _=>Rps K R' xs ds) (motive_3:=λxs ds _=>Rfs K R' xs ds) (motive_4:=λxs ds _=>Rkk K R' xs ds) (motive_5:=λxs ds _=>Rkt K R' xs ds)
   .non .bl .int .str (λh _ r=>.lst (s.sqL h) r) (λh _ r=>.tup (s _ _ h) r) (λn h _ r=>.obj n (s _ _ h) r) (λh _ r=>.dct (s _ _ h) r) (λh _ r=>.dit (s _ _ h) r) (λn k h=>.exc n k (s _ _ h)) (λn=>.fn n) (λh=>.tab (s _ _ h))
   .nil (λ_ _ h r=>.cons h r) .nil (λ_ _ h r=>.cons h r) .nil (λ_ _ h r=>.cons h r) .nil (λ_ _ h r=>.cons h r) h
theorem Rps.length:∀{xs:List V} {ds:List D},Rps K R xs ds->xs.length=ds.length
 |_,_,.nil=>rfl
 |_,_,.cons _ r=>by rw[jo,jo,Rps.length r]
theorem Rps.get:∀{xs:List V} {ds:List D} {i:Nat} {d:D},Rps K R xs ds->ds[i]? =some d->∃v,xs[i]? =some v/\Rp K R v d
 |_,_,_,_,.nil,e=>by simp at e
 |_,_,0,_,.cons h _,e=>by simp at e;subst e;exact⟨_,rfl,h⟩
 | _,_,i+1,d,.cons _ r,e=>by
   obtain⟨v,h1,h2⟩:=Rps.get (i:=i) (d:=d) r (by simpa using e)
   exact⟨v,by simpa using h1,h2⟩
theorem Rps.append:∀{xs ys:List V} {ds es:List D},Rps K R xs ds->Rps K R ys es->Rps K R (xs++ys) (ds++es)
 |_,_,_,_,.nil,s=>s
 |_,_,_,_,.cons r t,s=>.cons r (Rps.append t s)
theorem Rps.take:∀{xs:List V} {ds:List D} (n:Nat),Rps K R xs ds->Rps K R (xs.take n) (ds.take n)
 |_,_,0,_=>.nil
 |_,_,_+1,.nil=>.nil
 |_,_,n+1,.cons r t=>.cons r (Rps.take n t)
theorem Rps.drop:∀{xs:List V} {ds:List D} (n:Nat),Rps K R xs ds->Rps K R (xs.drop n) (ds.drop n)
 |_,_,0,r=>r
 |_,_,_+1,.nil=>.nil
 |_,_,n+1,.cons _ t=>Rps.drop n t
theorem Rps.set{x:V}{d:D}(r:Rp K R x d):∀{xs:List V} {ds:List D} (i:Nat),Rps K R xs ds->Rps K R (xs.set i x) (ds.set i d)
 |_,_,_,.nil=>.nil
 |_,_,0,.cons _ t=>.cons r t
 |_,_,i+1,.cons q t=>.cons q (Rps.set r i t)
theorem Rps.one{x:V}{d:D}(r:Rp K R x d):Rps K R [x] [d]:=.cons r .nil
theorem Rps.ints:∀ns:List Int,Rps K R (ns.map V.int) (ns.map D.int)
 |[]=>.nil
 |n::ns=>.cons (.int n) (Rps.ints ns)
theorem Rps.snoc{xs:List V}{ds:List D}{x:V}{d:D}(h:Rps K R xs ds)(r:Rp K R x d):Rps K R (xs++[x]) (ds++[d]):=h.append (.one r)
end
inductive Sc:V->D->Prop
 |non:Sc .non .non
 |bl (b:Bool):Sc (.bl b) (.bl b)
 |int (i:Int):Sc (.int i) (.int i)
 |str (x:Str):Sc (.str x) (.str x)
theorem Sc.rp{K:PySem.W.Frag}{R:Hp}{v:V}{d:D}(h:Sc v d):Rp K R v d:=by
 cases h with
 |non=>exact .non
 |bl b=>exact .bl b
 |int i=>exact .int i
 |str x=>exact .str x
def Frh(H:Hp)(a:Addr):Prop:=H a=none∨∃xs,H a=some (.tup xs)
def Liv(H H':Hp)(a:Addr):Prop:=H' a≠none/\∀xs,H' a=some (.tup xs)->H a=some (.tup xs)
theorem Liv.refl{H:Hp}{a:Addr}(h:H a≠none):Liv H H a:=⟨h,λ_ e=>e⟩
theorem Liv.trans{H H1 H2:Hp}{a:Addr}(x:Liv H H1 a)(y:Liv H1 H2 a):Liv H H2 a:=⟨y.1,λxs e=>x.2 xs (y.2 xs e)⟩
theorem Frh.back{H H1:Hp}{a:Addr}(h:H a≠none->Liv H H1 a)(z:Frh H1 a):Frh H a:=by
 cases q:H a with
 |none=>exact .inl q
 | some o=>
   have v:=h (by rw[q];exact λz=>nomatch z)
   rcases z with z|⟨xs,z⟩
   · exact absurd z v.1
   · exact .inr ⟨xs,v.2 xs z⟩
structure Ext(H R H' R':Hp):Prop where
 h:Same H H'
 r:Same R R'
 s:∀a o,R' a=some o->H' a=some o
 n:∀a,R' a≠none->R a≠none∨Frh H a
theorem Ext.refl{H R:Hp}(s:∀a o,R a=some o->H a=some o):Ext H R H R:=⟨Same.refl _,Same.refl _,s,λ_ h=>.inl h⟩
theorem Same.some{H H':Hp}(s:Same H H'){a:Addr}(h:H a≠none):H' a≠none:=by
 cases q:H a with
 |none=>exact absurd q h
 |some o=>rw[s a o q];exact λz=>nomatch z
theorem Same.liv{H H':Hp}(s:Same H H'){a:Addr}(h:H a≠none):Liv H H' a:=⟨s.some h,λxs e=>by
 cases q:H a with
 |none=>exact absurd q h
 |some o=>rw[s a o q]at e;exact e⟩
theorem Ext.trans{H R H1 R1 H2 R2:Hp}(x:Ext H R H1 R1)(y:Ext H1 R1 H2 R2):Ext H R H2 R2:=by
 refine⟨x.h.trans y.h,x.r.trans y.r,y.s,λa h=>?_⟩
 rcases y.n a h with z|z
 · exact x.n a z
 · exact .inr (z.back x.h.liv)
theorem Ext.new{H R:Hp}{a:Addr}{o:HO}(s:∀a o,R a=some o->H a=some o)(h:H a=none):Ext H R (upd H a o) (upd R a o):=by
 have hr:R a=none:=by
   cases q:R a with
   |none=>rfl
   |some u=>rw[s a u q]at h;cases h
 refine⟨Same.new h,Same.new hr,λb u e=>?_,λb e=>?_⟩
 · by_cases hb:b=a
   · subst hb;rw[q0h]at e ⊢;exact e
   · rw[q0d hb]at e ⊢;exact s b u e
 · by_cases hb:b=a
   · subst hb;exact .inr (.inl h)
   · rw[q0d hb]at e;exact .inl e
theorem Ext.hid{H R:Hp}{a:Addr}{o:HO}(s:∀a o,R a=some o->H a=some o)(h:H a=none):Ext H R (upd H a o) R:=
 ⟨Same.new h,Same.refl _,λb u e=>Same.new h _ _ (s b u e),λ_ e=>.inl e⟩
structure Anc where
 H0:Hp
 R0:Hp
 L:Addr->Prop
 P:List Nat
inductive Ob(K:PySem.W.Frag)(R:Hp):HO->D->Prop
 |lst {vs:List V} {ds:List D}:Rps K R vs ds->Ob K R (.lst vs) (.lst ds)
 |dct {kvs:List (Key×V)} {gs:List (Key×D)}:Rkk K R kvs gs->Ob K R (.dK kvs) (.dct gs)
 |dit {kvs:List (List Key×V)} {gs:List (List Key×D)}:Rkt K R kvs gs->Ob K R (.dT kvs) (.dit gs)
theorem Ob.isL{K:PySem.W.Frag}{R:Hp}{o:HO}{ds:List D}(h:Ob K R o (.lst ds)):∃vs,o=.lst vs/\Rps K R vs ds:=by
 cases h with
 |lst r=>exact⟨_,rfl,r⟩
theorem Ob.mono{K:PySem.W.Frag}{R R':Hp}{o:HO}{d:D}(s:Same R R')(h:Ob K R o d):Ob K R' o d:=by
 cases h with
 |lst r=>exact .lst (r.mono s)
 |dct r=>exact .dct (r.mono s)
 |dit r=>exact .dit (r.mono s)
theorem Ob.noF{K:PySem.W.Frag}{H R:Hp}{o:HO}{d:D}{l:Addr}(h:Ob K R o d)(e:H l=some o)(z:Frh H l):False:=by
 rcases z with z|⟨xs,z⟩
 · rw[e]at z;cases z
 · rw[e]at z;cases z;cases h
theorem Ob.rp{K:PySem.W.Frag}{R:Hp}{o:HO}{d:D}{l:Addr}(h:Ob K R o d)(e:R l=some o):Rp K R (.ref l) d:=by
 cases h with
 |lst r=>exact .lst (SqL.of e) r
 |dct r=>exact .dct e r
 |dit r=>exact .dit e r
structure StR(K:PySem.W.Frag)(Z:Anc)(O:List Nat)(σ:St)(H R:Hp)(ρ:Rho):Prop where
 sub:∀a o,R a=some o->H a=some o
 len:σ.length=ρ.length
 env:∀i d,i∉O->ρ[i]? =some (some d)->∃v,σ[i]? =some (some v)/\Rp K R v d
 own:∀i,i∈O->∃l vs ds,ρ[i]? =some (some ds)/\σ[i]? =some (some (.ref l))/\H l=some vs/\R l=none/\Ob K R vs ds
 dis:∀i j,i∈O->j∈O->i≠j->∀l,σ[i]? =some (some (.ref l))->σ[j]? ≠some (some (.ref l))
 ah:∀a o,Z.H0 a=some o->¬Z.L a->H a=some o
 ar:Same Z.R0 R
 an:∀a,R a≠none->Z.R0 a≠none∨Frh Z.H0 a
 ad:∀a,Z.H0 a≠none->Liv Z.H0 H a
 ao:∀i,i∈O->i∉Z.P->∀l,σ[i]? =some (some (.ref l))->Z.H0 l=none
 ap:∀i,i∈O->i∈Z.P->∀l,σ[i]? =some (some (.ref l))->Z.L l
structure Stp(O:List Nat)(σ:St)(H R H' R':Hp):Prop where
 r:Same R R'
 h:∀a o,H a=some o->(∀i,i∈O->σ[i]? ≠some (some (.ref a)))->H' a=some o
 n:∀a,R' a≠none->R a≠none∨Frh H a
 d:∀a,H a≠none->Liv H H' a
theorem Stp.refl(O:List Nat)(σ:St)(H R:Hp):Stp O σ H R H R:=⟨Same.refl _,λ_ _ e _=>e,λ_ h=>.inl h,λ_ h=>.refl h⟩
theorem Stp.trans{O:List Nat}{σ:St}{H R H1 R1 H2 R2:Hp}(x:Stp O σ H R H1 R1)(y:Stp O σ H1 R1 H2 R2):Stp O σ H R H2 R2:=by
 refine⟨x.r.trans y.r,λa o e n=>y.h a o (x.h a o e n) n,λa h=>?_,λa h=>(x.d a h).trans (y.d a (x.d a h).1)⟩
 rcases y.n a h with z|z
 · exact x.n a z
 · exact .inr (z.back (x.d a))
theorem Ext.stp{O:List Nat}{σ:St}{H R H' R':Hp}(x:Ext H R H' R'):Stp O σ H R H' R':=⟨x.r,λa o e _=>x.h a o e,x.n,λ_ h=>x.h.liv h⟩
section
variable{K:PySem.W.Frag}{Z:Anc}{O O':List Nat}{σ σ':St}{H R H' R':Hp}{ρ ρ':Rho}
theorem StR.ext(S:StR K Z O σ H R ρ)(x:Ext H R H' R'):StR K Z O σ H' R' ρ:=by
 refine⟨x.s,S.len,λi d hi e=>?_,λi hi=>?_,S.dis,λa o e n=>x.h a o (S.ah a o e n),S.ar.trans x.r,λa h=>?_,λa h=>(S.ad a h).trans (x.h.liv (S.ad a h).1),S.ao,S.ap⟩
 · obtain⟨v,h1,h2⟩:=S.env i d hi e
   exact⟨v,h1,h2.mono x.r⟩
 · obtain⟨l,vs,ds,h1,h2,h3,h4,h5⟩:=S.own i hi
   refine⟨l,vs,ds,h1,h2,x.h _ _ h3,?_,h5.mono x.r⟩
   cases q:R' l with
   |none=>rfl
   | some o=>
     rcases x.n l (by rw[q];exact λz=>nomatch z)with z|z
     · exact absurd h4 z
     · exact(h5.noF h3 z).elim
 · rcases x.n a h with z|z
   · exact S.an a z
   · exact .inr (z.back (S.ad a))
def frzR(O O':List Nat)(σ:St)(H R:Hp):Hp:=λa=>open Classical in if∃i,i∈O/\i∉O'/\σ[i]? =some (some (.ref a))then H a else R a
theorem StR.freeze(S:StR K Z O σ H R ρ)(hs:∀i,i∈O'->i∈O)(hp:∀i,i∈Z.P->i∈O->i∈O'):StR K Z O' σ H (frzR O O' σ H R) ρ/\Same R (frzR O O' σ H R):=by
 have same:Same R (frzR O O' σ H R):=λa o e=>by
   unfold frzR
   split
   · exact S.sub a o e
   · exact e
 refine⟨⟨λa o e=>?_,S.len,λi d hi e=>?_,λi hi=>?_,λi j hi hj=>S.dis i j (hs i hi) (hs j hj),S.ah,S.ar.trans same,λa h=>?_,S.ad,λi hi=>S.ao i (hs i hi),λi hi=>S.ap i (hs i hi)⟩,same⟩
 · unfold frzR at e
   split at e
   · exact e
   · exact S.sub a o e
 · by_cases hO:i∈O
   · obtain⟨l,vs,ds,h1,h2,h3,h4,h5⟩:=S.own i hO
     rw[e]at h1
     have ed:d=ds:=jh (jh h1)
     subst ed
     refine⟨.ref l,h2,(h5.mono same).rp ?_⟩
     unfold frzR
     rw[if_pos ⟨i,hO,hi,h2⟩]
     exact h3
   · obtain⟨v,h1,h2⟩:=S.env i d hO e
     exact⟨v,h1,h2.mono same⟩
 · obtain⟨l,vs,ds,h1,h2,h3,h4,h5⟩:=S.own i (hs i hi)
   refine⟨l,vs,ds,h1,h2,h3,?_,h5.mono same⟩
   unfold frzR
   rw[if_neg ?_]
   · exact h4
   · rintro⟨j,hj,hj',e⟩
     exact S.dis j i hj (hs i hi) (λz=>hj' (z▸hi)) l e h2
 · unfold frzR at h
   split at h
   · rename_i z
     obtain⟨j,hj,hj',e⟩:=z
     exact .inr (.inl (S.ao j hj (λz=>hj' (hp j z hj)) a e))
   · exact S.an a h
theorem StR.set(S:StR K Z O σ H R ρ){i:Nat}{v:V}{d:D}(hi:i∉O)(r:Rp K R v d):StR K Z O (σ.set i (some v)) H R (ρ.set i (some d)):=by
 have ne:∀j,j∈O->i≠j:=λj hj z=>hi (z▸hj)
 refine⟨S.sub,by rw[xg,xg];exact S.len,λj e hj q=>?_,λj hj=>?_,λj k hj hk n l e=>?_,S.ah,S.ar,S.an,S.ad,λj hj hp l e=>?_,λj hj hp l e=>?_⟩
 · by_cases hij:i=j
   · subst hij
     have hl:i<ρ.length:=by
       have:=(List.getElem?_eq_some_iff.mp q).1
       rwa [xg]at this
     rw[x6 hl]at q
     have e':d=e:=jh (jh q)
     subst e'
     exact⟨v,by rw[x6 (by rw[S.len];exact hl)],r⟩
   · rw[jm hij]at q
     obtain⟨w,h1,h2⟩:=S.env j e hj q
     exact⟨w,by rw[jm hij];exact h1,h2⟩
 · obtain⟨l,vs,ds,h1,h2,h3,h4,h5⟩:=S.own j hj
   exact⟨l,vs,ds,by rw[jm (ne j hj)];exact h1,by rw[jm (ne j hj)];exact h2,h3,h4,h5⟩
 · rw[jm (ne j hj)]at e
   rw[jm (ne k hk)]
   exact S.dis j k hj hk n l e
 · rw[jm (ne j hj)]at e
   exact S.ao j hj hp l e
 · rw[jm (ne j hj)]at e
   exact S.ap j hj hp l e
theorem StR.write(S:StR K Z O σ H R ρ){i:Nat}{l:Addr}{vs:HO}{ds:D}(hi:i∈O)(hl:σ[i]? =some (some (.ref l)))(r:Ob K R vs ds):StR K Z O σ (upd H l vs) R (ρ.set i (some ds)):=by
 obtain⟨l0,vs0,ds0,h1,h2,h3,h4,h5⟩:=S.own i hi
 rw[hl]at h2
 cases h2
 have other:∀j,j∈O->i≠j->∀k,σ[j]? =some (some (.ref k))->k≠l:=λj hj n k e z=>by
   subst z
   exact S.dis i j hi hj n k hl e
 refine⟨λa o e=>?_,by rw[xg];exact S.len,λj d hj q=>?_,λj hj=>?_,S.dis,λa o e n=>?_,S.ar,S.an,λa h=>?_,S.ao,S.ap⟩
 · have ne:a≠l:=λz=>by subst z;rw[h4]at e;cases e
   rw[q0d ne];exact S.sub a o e
 · have n:i≠j:=λz=>hj (z▸hi)
   rw[jm n]at q
   exact S.env j d hj q
 · by_cases n:i=j
   · subst n
     have z9:i<ρ.length:=(List.getElem?_eq_some_iff.mp h1).1
     exact⟨l,vs,ds,by rw[x6 z9],hl,q0h,h4,r⟩
   · obtain⟨k,vs',ds',g1,g2,g3,g4,g5⟩:=S.own j hj
     exact⟨k,vs',ds',by rw[jm n];exact g1,g2,by rw[q0d (other j hj n k g2)];exact g3,g4,g5⟩
 · have ne:a≠l:=λz=>by
     subst z
     by_cases hp:i∈Z.P
     · exact n (S.ap i hi hp a hl)
     · rw[S.ao i hi hp a hl]at e;cases e
   rw[q0d ne];exact S.ah a o e n
 · by_cases ha:a=l
   · subst ha;exact⟨by rw[q0h];exact(λz=>(nomatch z)),λxs e=>by rw[q0h]at e;cases e;cases r⟩
   · exact⟨by rw[q0d ha];exact(S.ad a h).1,λxs e=>by rw[q0d ha]at e;exact(S.ad a h).2 xs e⟩
theorem StR.take(S:StR K Z O σ H R ρ){i:Nat}{l:Addr}{vs:HO}{ds:D}(hi:i∉O)(hin:i∈O')(hO:∀j,j∈O'->j=i∨j∈O)(hp:i∉Z.P)(z9:i<ρ.length)(h0:Z.H0 l=none)(hH:H l=some vs)(hR:R l=none)(hn:∀j,j∈O->σ[j]? ≠some (some (.ref l)))(hs:∀j,j∈O->j∈O')(r:Ob K R vs ds):
   StR K Z O' (σ.set i (some (.ref l))) H R (ρ.set i (some ds)):=by
 have ne:∀j,j∈O->i≠j:=λj hj z=>hi (z▸hj)
 have hl:i<σ.length:=by rw[S.len];exact z9
 refine⟨S.sub,by rw[xg,xg];exact S.len,λj e hj q=>?_,λj hj=>?_,λj k hj hk n m e=>?_,S.ah,S.ar,S.an,S.ad,λj hj hp l e=>?_,λj hj hp' l e=>?_⟩
 · by_cases hij:i=j
   · subst hij
     rw[x6 z9]at q
     have e':ds=e:=jh (jh q)
     subst e'
     exact absurd hin hj
   · rw[jm hij]at q
     obtain⟨w,h1,h2⟩:=S.env j e (λz=>hj (hs j z)) q
     exact⟨w,by rw[jm hij];exact h1,h2⟩
 · rcases hO j hj with rfl|hj'
   · exact⟨l,vs,ds,by rw[x6 z9],by rw[x6 hl],hH,hR,r⟩
   · obtain⟨k,vs',ds',g1,g2,g3,g4,g5⟩:=S.own j hj'
     exact⟨k,vs',ds',by rw[jm (ne j hj')];exact g1,by rw[jm (ne j hj')];exact g2,g3,g4,g5⟩
 · rcases hO j hj with rfl|hj'
   · rw[x6 hl]at e
     cases e
     rcases hO k hk with rfl|hk'
     · exact absurd rfl n
     · rw[jm (ne k hk')]
       exact hn k hk'
   · rw[jm (ne j hj')]at e
     rcases hO k hk with rfl|hk'
     · rw[x6 hl]
       intro z
       cases z
       exact hn j hj' e
     · rw[jm (ne k hk')]
       exact S.dis j k hj' hk' n m e
 · rcases hO j hj with rfl|hj'
   · rw[x6 hl]at e
     cases e
     exact h0
   · rw[jm (ne j hj')]at e
     exact S.ao j hj' hp l e
 · rcases hO j hj with rfl|hj'
   · exact absurd hp' hp
   · rw[jm (ne j hj')]at e
     exact S.ap j hj' hp' l e
end
def q11{α β:Type}(a:Rho->Option (α×Rho))(k:α->Rho->Option (β×Rho)):Rho->Option (β×Rho):=λρ=>match a ρ with
 |none=>none
 |some (x,ρ1)=>k x ρ1
def mRet{α:Type}(x:α):Rho->Option (α×Rho):=λρ=>some (x,ρ)
def q1p{α:Type}(o:Option α):Rho->Option (α×Rho):=λρ=>match o with
 |none=>none
 |some x=>some (x,ρ)
theorem q02{α β:Type}{a:Rho->Option (α×Rho)}{k:α->Rho->Option (β×Rho)}{ρ:Rho}{r:β×Rho}(h:q11 a k ρ=some r):∃x ρ1,a ρ=some (x,ρ1)/\k x ρ1=some r:=by
 unfold q11 at h
 cases e:a ρ with
 |none=>rw[e]at h;cases h
 |some p=>rw[e]at h;exact⟨p.1,p.2,rfl,h⟩
theorem q0b{α:Type}{o:Option α}{ρ:Rho}{x:α}{ρ':Rho}(h:q1p o ρ=some (x,ρ')):o=some x/\ρ'=ρ:=by
 unfold q1p at h
 cases o with
 |none=>cases h
 |some y=>cases h;exact⟨rfl,rfl⟩
def mVar(i:Nat):RhD:=λρ=>match ρ[i]? with
 |some (some d)=>some (d,ρ)
 |_=>none
theorem q40{i:Nat}{ρ ρ':Rho}{d:D}(h:mVar i ρ=some (d,ρ')):ρ[i]? =some (some d)/\ρ'=ρ:=by
 unfold mVar at h
 cases e:ρ[i]? with
 |none=>rw[e]at h;cases h
 | some o=>
   rw[e]at h
   cases o with
   |none=>cases h
   |some y=>cases h;exact⟨rfl,rfl⟩
section
variable(K:PySem.W.Frag)(O:List Nat)
def ME(t:TE)(f:RhD):Prop:=∀(Z:Anc) (σ:St) (H R:Hp) (ρ:Rho) (d:D) (ρ':Rho) (Q:VK),StR K Z O σ H R ρ->f ρ=some (d,ρ')->(∀v H' R',StR K Z O σ H' R' ρ'->Stp O σ H R H' R'->Rp K R' v d->Q v H')->t σ H Q
def MB(t:TE)(f:RhD):Prop:=∀(Z:Anc) (σ:St) (H R:Hp) (ρ:Rho) (d:D) (ρ':Rho) (Q:VK),StR K Z O σ H R ρ->f ρ=some (d,ρ')->(∀v H' R',StR K Z O σ H' R' ρ'->Stp O σ H R H' R'->Rp K H' v d->Q v H')->t σ H Q
def MT(t:TT)(f:RhB):Prop:=∀(Z:Anc) (σ:St) (H R:Hp) (ρ:Rho) (b:Bool) (ρ':Rho) (Q:Bool->Hp->Prop),StR K Z O σ H R ρ->f ρ=some (b,ρ')->(∀H' R',StR K Z O σ H' R' ρ'->Stp O σ H R H' R'->Q b H')->t σ H Q
def MA(t:TA)(f:RhL):Prop:=∀(Z:Anc) (σ:St) (H R:Hp) (ρ:Rho) (ds:List D) (ρ':Rho) (Q:List V->Hp->Prop),StR K Z O σ H R ρ->f ρ=some (ds,ρ')->(∀vs H' R',StR K Z O σ H' R' ρ'->Stp O σ H R H' R'->Rps K R' vs ds->Q vs H')->t σ H Q
def MN(t:TE)(f:RhL):Prop:=∀(Z:Anc) (σ:St) (H R:Hp) (ρ:Rho) (ds:List D) (ρ':Rho) (Q:VK),StR K Z O σ H R ρ->f ρ=some (ds,ρ')->(∀l vs H' R',StR K Z O σ H' R' ρ'->Stp O σ H R H' R'->H l=none->H' l=some (.lst vs)->R' l=none->Rps K R' vs ds->Q (.ref l) H')->t σ H Q
end
section
variable{K:PySem.W.Frag}{Z:Anc}{O:List Nat}{t ta tb tc:TE}{tA tB':TT}{tr:TA}
theorem StR.same{σ:St}{H R:Hp}{ρ:Rho}(S:StR K Z O σ H R ρ):Same R H:=S.sub
theorem ME.mb{f:RhD}(h:ME K O t f):MB K O t f:=λZ σ H R ρ d ρ' Q S e k=>h Z σ H R ρ d ρ' Q S e λv H' R' S' st r=>k v H' R' S' st (r.mono S'.same)
theorem StR.notnew{σ:St}{H R:Hp}{ρ:Rho}(S:StR K Z O σ H R ρ){l:Addr}(h:H l=none):∀j,j∈O->σ[j]? ≠some (some (.ref l)):=λj hj e=>by
 obtain⟨k,vs,ds,_,h2,h3,_⟩:=S.own j hj
 rw[e]at h2
 (first|obtain rfl:=h2.isA rfl|cases h2)
 rw[h]at h3
 (first|obtain rfl:=h3.isA rfl|cases h3)
theorem StR.know{σ:St}{H R:Hp}{ρ:Rho}{l:Addr}{vs:HO}(S:StR K Z O σ H R ρ)(h0:Z.H0 l=none)(hH:H l=some vs)(hR:R l=none)(hn:∀j,j∈O->σ[j]? ≠some (some (.ref l))):StR K Z O σ H (upd R l vs) ρ:=by
 have same:Same R (upd R l vs):=Same.new hR
 refine⟨λa o e=>?_,S.len,λi d hi e=>?_,λi hi=>?_,S.dis,S.ah,S.ar.trans same,λa h=>?_,S.ad,S.ao,S.ap⟩
 · by_cases ha:a=l
   · subst ha;rw[q0h]at e;rw[hH,e]
   · rw[q0d ha]at e;exact S.sub a o e
 · obtain⟨v,h1,h2⟩:=S.env i d hi e
   exact⟨v,h1,h2.mono same⟩
 · obtain⟨k,ws,ds,h1,h2,h3,h4,h5⟩:=S.own i hi
   refine⟨k,ws,ds,h1,h2,h3,?_,h5.mono same⟩
   rw[q0d (λz=>hn i hi (by rw[<-z];exact h2))]
   exact h4
 · by_cases ha:a=l
   · subst ha;exact .inr (.inl h0)
   · rw[q0d ha]at h;exact S.an a h
theorem StR.new0{σ:St}{H R:Hp}{ρ:Rho}{l:Addr}(S:StR K Z O σ H R ρ)(h:H l=none):Z.H0 l=none:=by
 cases q:Z.H0 l with
 |none=>rfl
 |some o=>exact absurd h (S.ad l (by rw[q];exact λz=>nomatch z)).1
theorem Stp.know{σ:St}{H R H' R':Hp}{l:Addr}{o:HO}(x:Stp O σ H R H' R')(h:H l=none)(hr:R' l=none):Stp O σ H R H' (upd R' l o):=by
 refine⟨x.r.trans (Same.new hr),x.h,λb e=>?_,x.d⟩
 by_cases hb:b=l
 · subst hb;exact .inr (.inl h)
 · rw[q0d hb]at e;exact x.n b e
theorem MN.me{f:RhL}(h:MN K O t f):ME K O t (q11 f λds=>mRet (.lst ds)):=λZ σ H R ρ d ρ' Q S e k=>by
 obtain⟨ds,ρ1,e1,e2⟩:=q02 e
 cases e2
 refine h Z σ H R ρ ds _ Q S e1 λl vs H' R' S' st h0 hH hR r=>?_
 refine k _ H' (upd R' l (.lst vs)) (S'.know (S.new0 h0) hH hR ?_) (st.know h0 hR) (.lst (SqL.of q0h) (r.mono (Same.new hR)))
 exact S.notnew h0
theorem q06{i:Nat}(hi:i∉O:=by decide):ME K O (tVar i) (mVar i):=λZ σ H R ρ d ρ' Q S e k=>by
 obtain⟨e1,rfl⟩:=q40 e
 obtain⟨v,h1,h2⟩:=S.env i d hi e1
 exact⟨v,h1,k v H R S (Stp.refl _ _ _ _) h2⟩
theorem q2c{i:Nat}:MB K O (tVar i) (mVar i):=λZ σ H R ρ d ρ' Q S e k=>by
 obtain⟨e1,rfl⟩:=q40 e
 by_cases hi:i∈O
 · obtain⟨l,vs,ds,h1,h2,h3,h4,h5⟩:=S.own i hi
   rw[e1]at h1
   (first|obtain rfl:=h1.isA rfl|cases h1)
   exact⟨.ref l,h2,k _ H R S (Stp.refl _ _ _ _) ((h5.mono S.same).rp h3)⟩
 · obtain⟨v,h1,h2⟩:=S.env i d hi e1
   exact⟨v,h1,k v H R S (Stp.refl _ _ _ _) (h2.mono S.same)⟩
theorem me_c{v:V}{d:D}(h:Sc v d):ME K O (tC v) (mRet d):=λZ σ H R ρ e ρ' Q S q k=>by
 (first|obtain rfl:=q.isA rfl|cases q)
 exact k v H R S (Stp.refl _ _ _ _) h.rp
theorem me_int{i:Int}:ME K O (tC (.int i)) (mRet (.int i)):=me_c (.int i)
theorem qa3{x:Str}:ME K O (tC (.str x)) (mRet (.str x)):=me_c (.str x)
theorem qg0{b:Bool}:ME K O (tC (.bl b)) (mRet (.bl b)):=me_c (.bl b)
theorem qhu:ME K O (tC .non) (mRet .non):=me_c .non
def mOp2(g:D->D->Option D)(fa fb:RhD):RhD:=q11 fa λx=>q11 fb λy=>q1p (g x y)
def OpS(K:PySem.W.Frag)(r:R2)(g:D->D->Option D):Prop:=∀(H:Hp) (x y:V) (d e u:D) (Q:VK),Rp K H x d->Rp K H y e->g d e=some u->(∀v,Sc v u->Q v H)->r x y H Q
def OpG(K:PySem.W.Frag)(r:R2)(g:D->D->Option D):Prop:=∀(H R:Hp) (x y:V) (d e u:D) (Q:VK),(∀a o,R a=some o->H a=some o)->Rp K R x d->Rp K R y e->g d e=some u->(∀v H' R',Ext H R H' R'->Rp K R' v u->Q v H')->r x y H Q
theorem OpS.g{r:R2}{g:D->D->Option D}(h:OpS K r g):OpG K r g:=λH R x y d e u Q s rx ry q k=>
 h H x y d e u Q (rx.mono s) (ry.mono s) q λv z=>k v H R (Ext.refl s) z.rp
theorem q1q{r:R2}{g:D->D->Option D}{fa fb:RhD}(h:OpG K r g)(ha:ME K O ta fa)(hb:ME K O tb fb):ME K O (tOp r ta tb) (mOp2 g fa fb):=λZ σ H R ρ d ρ' Q S e k=>by
 obtain⟨x,ρ1,e1,e⟩:=q02 e
 obtain⟨y,ρ2,e2,e⟩:=q02 e
 obtain⟨e3,rfl⟩:=q0b e
 refine ha Z σ H R ρ x ρ1 _ S e1 λv H1 R1 S1 st1 r1=>hb Z σ H1 R1 ρ1 y _ _ S1 e2 λw H2 R2 S2 st2 r2=>?_
 exact h H2 R2 v w x y d Q S2.sub (r1.mono st2.r) r2 e3 λz H3 R3 x3 r3=>k z H3 R3 (S2.ext x3) ((st1.trans st2).trans x3.stp) r3
theorem q1v{r:R2}{g:D->D->Option D}{fa fb:RhD}(h:OpS K r g)(ha:ME K O ta fa)(hb:MB K O tb fb):ME K O (tOp r ta tb) (mOp2 g fa fb):=λZ σ H R ρ d ρ' Q S e k=>by
 obtain⟨x,ρ1,e1,e⟩:=q02 e
 obtain⟨y,ρ2,e2,e⟩:=q02 e
 obtain⟨e3,rfl⟩:=q0b e
 refine ha Z σ H R ρ x ρ1 _ S e1 λv H1 R1 S1 st1 r1=>hb Z σ H1 R1 ρ1 y _ _ S1 e2 λw H2 R2 S2 st2 r2=>?_
 exact h H2 v w x y d Q ((r1.mono st2.r).mono S2.same) r2 e3 λz q=>k z H2 R2 S2 (st1.trans st2) q.rp
def mIxO(i:Nat)(fb:RhD):RhD:=q11 fb λy=>q11 (mVar i) λx=>q1p (match x,y with
 |.lst xs,.int j=>atI xs j
 |_,_=>none)
theorem q9b{R:Hp}{xs:List V}{ds:List D}{i:Int}{d:D}(r:Rps K R xs ds)(h:atI ds i=some d):∃v,atI xs i=some v/\Rp K R v d:=by
 unfold atI at h ⊢
 rw[r.length]
 cases e:ixN ds.length i with
 |none=>rw[e]at h;cases h
 | some j=>
   rw[e]at h
   exact r.get h
theorem qhv{i:Nat}{fb:RhD}(hi:i∈O)(hb:ME K O tb fb):ME K O (tOp (rIx K) (tVar i) tb) (mIxO i fb):=λZ σ H R ρ d ρ' Q S e k=>by
 obtain⟨y,ρ1,e1,e⟩:=q02 e
 obtain⟨x,ρ2,e2,e⟩:=q02 e
 obtain⟨e3,rfl⟩:=q0b e
 obtain⟨e4,rfl⟩:=q40 e2
 obtain⟨l,vs,ds,h1,h2,h3,_⟩:=S.own i hi
 refine⟨.ref l,h2,hb Z σ H R ρ y _ _ S e1 λw H1 R1 S1 st1 r1=>?_⟩
 obtain⟨l',vs',ds',g1,g2,g3,g4,g5⟩:=S1.own i hi
 rw[h2]at g2
 cases g2
 rw[e4]at g1
 cases g1
 split at e3
 · obtain rfl:=r1.isA rfl
   obtain⟨us,rfl,q5⟩:=g5.isL
   obtain⟨v,q1,q2⟩:=q9b q5 e3
   exact .inl ⟨l,_,_,v,rfl,rfl,SqL.of g3,q1,k v H1 R1 S1 st1 q2⟩
 · cases e3
def dIx:D->D->Option D
 |.lst xs,.int i=>atI xs i
 |.tup xs,.int i=>atI xs i
 |.str z,.int i=>if z.length<=sizeLine then(atI z.cps.toList i).map λc=>.str ⟨#[c]⟩else none
 |_,_=>none
theorem q5o:OpG K (rIx K) dIx:=λH R x y d e u Q s rx ry q k=>by
 unfold dIx at q
 split at q
 · rename_i xs i
   (first|obtain rfl:=ry.isA rfl|cases ry)
   obtain⟨_,_,rfl,h,r⟩:=rx.isL
   obtain⟨v,q1,q2⟩:=q9b r q
   exact .inl ⟨_,_,i,v,rfl,rfl,Same.sqL s h,q1,k v H R (Ext.refl s) q2⟩
 · rename_i xs i
   (first|obtain rfl:=ry.isA rfl|cases ry)
   obtain⟨_,_,rfl,h,r⟩:=rx.isT
   obtain⟨v,q1,q2⟩:=q9b r q
   exact .inr (.inl ⟨_,_,i,v,rfl,rfl,SqT.of (s _ _ h),q1,k v H R (Ext.refl s) q2⟩)
 · rename_i z i
   (first|obtain rfl:=ry.isA rfl|cases ry)
   (first|obtain rfl:=rx.isA rfl|cases rx)
   split at q
   · rename_i hz
     cases e':atI z.cps.toList i with
     |none=>rw[e']at q;cases q
     | some c=>
       rw[e']at q
       (first|obtain rfl:=q.isA rfl|cases q)
       exact .inr (.inr ⟨z,i,c,rfl,rfl,hz,e',k _ H R (Ext.refl s) (.str _)⟩)
   · (first|obtain rfl:=q.isA rfl|cases q)
 · (first|obtain rfl:=q.isA rfl|cases q)
def dI2(C:Int->Int->Bool)(g:Int->Int->Int):D->D->Option D
 |.int i,.int j=>if C i j=true then some (.int (g i j))else none
 |_,_=>none
theorem op_i{C:Int->Int->Bool}{P:Int->Int->Prop}{g:Int->Int->Int}(hc:∀i j,C i j=true->P i j):OpG K (rI P λi j=>.int (g i j)) (dI2 C g):=λH R x y d e u Q s rx ry q k=>by
 unfold dI2 at q
 split at q
 · rename_i i j
   split at q
   · rename_i h
     (first|obtain rfl:=q.isA rfl|cases q)
     (first|obtain rfl:=rx.isA rfl|cases rx)
     (first|obtain rfl:=ry.isA rfl|cases ry)
     exact⟨i,j,rfl,rfl,hc i j h,k _ H R (Ext.refl s) (.int _)⟩
   · (first|obtain rfl:=q.isA rfl|cases q)
 · (first|obtain rfl:=q.isA rfl|cases q)
def dI0(g:Int->Int->Int):D->D->Option D
 |.int i,.int j=>some (.int (g i j))
 |_,_=>none
theorem qjl{g:Int->Int->Int}:OpG K (rI0 λi j=>.int (g i j)) (dI0 g):=λH R x y d e u Q s rx ry q k=>by
 unfold dI0 at q
 split at q
 · rename_i i j
   (first|obtain rfl:=q.isA rfl|cases q)
   (first|obtain rfl:=rx.isA rfl|cases rx)
   (first|obtain rfl:=ry.isA rfl|cases ry)
   exact⟨i,j,rfl,rfl,k _ H R (Ext.refl s) (.int _)⟩
 · (first|obtain rfl:=q.isA rfl|cases q)
def dB0(g:Int->Int->Bool):D->D->Option D
 |.int i,.int j=>some (.bl (g i j))
 |_,_=>none
end
section
variable{K:PySem.W.Frag}{Z:Anc}{O:List Nat}{t ta tb tc:TE}{tA tB':TT}{tr:TA}{fa fb fc:RhD}{ga gb:RhB}{fs:RhL}
def q0c(f:RhD):RhB:=q11 f λd=>q1p (match d with
 |.bl b=>some b
 |_=>none)
theorem q1c(h:ME K O t fa):MT K O (qm2 t) (q0c fa):=λZ σ H R ρ b ρ' Q S e k=>by
 obtain⟨d,ρ1,e1,e⟩:=q02 e
 obtain⟨e2,rfl⟩:=q0b e
 refine h Z σ H R ρ d _ _ S e1 λv H' R' S' st r=>?_
 (first|split at e2)
 · obtain rfl:=r.isA rfl
   cases e2
   exact⟨_,rfl,k H' R' S' st⟩
 · cases e2
theorem q5x(h:ME K O t fa):MT K O (tB t) (q0c fa):=λZ σ H R ρ b ρ' Q S e k=>by
 obtain⟨d,ρ1,e1,e⟩:=q02 e
 obtain⟨e2,rfl⟩:=q0b e
 refine h Z σ H R ρ d _ _ S e1 λv H' R' S' st r=>?_
 (first|split at e2)
 · obtain rfl:=r.isA rfl
   cases e2
   exact⟨_,rfl,k H' R' S' st⟩
 · cases e2
def mNot(f:RhB):RhB:=q11 f λb=>mRet (!b)
theorem qa1(h:MT K O tA ga):MT K O (tNot tA) (mNot ga):=λZ σ H R ρ b ρ' Q S e k=>by
 obtain⟨c,ρ1,e1,e⟩:=q02 e
 cases e
 exact h Z σ H R ρ c _ _ S e1 λH' R' S' st=>k H' R' S' st
def mOr(f g:RhB):RhB:=q11 f λb=>if b=true then mRet true else g
theorem q8v(h:MT K O tA ga)(h2:MT K O tB' gb):MT K O (tOr tA tB') (mOr ga gb):=λZ σ H R ρ b ρ' Q S e k=>by
 obtain⟨c,ρ1,e1,e⟩:=q02 e
 refine h Z σ H R ρ c _ _ S e1 λH' R' S' st=>?_
 cases c with
 |true=>cases e;exact iteT (k H' R' S' st)
 |false=>exact iteF (h2 Z σ H' R' ρ1 b ρ' Q S' e λH2 R2 S2 st2=>k H2 R2 S2 (st.trans st2))
def mIf(f:RhB)(g h:RhD):RhD:=q11 f λb=>if b=true then g else h
theorem qny(h:MT K O tA ga)(h1:ME K O ta fa)(h2:ME K O tb fb):ME K O (tIf tA ta tb) (mIf ga fa fb):=λZ σ H R ρ d ρ' Q S e k=>by
 obtain⟨c,ρ1,e1,e⟩:=q02 e
 refine h Z σ H R ρ c _ _ S e1 λH' R' S' st=>?_
 cases c with
 |true=>exact iteT (h1 Z σ H' R' ρ1 d ρ' Q S' e λv H2 R2 S2 st2 r2=>k v H2 R2 S2 (st.trans st2) r2)
 |false=>exact iteF (h2 Z σ H' R' ρ1 d ρ' Q S' e λv H2 R2 S2 st2 r2=>k v H2 R2 S2 (st.trans st2) r2)
def mNil:RhL:=mRet []
def q01(f:RhD)(g:RhL):RhL:=q11 f λx=>q11 g λxs=>mRet (x::xs)
theorem q0o:MA K O tNil mNil:=λZ σ H R ρ ds ρ' Q S e k=>by
 cases e
 exact k [] H R S (Stp.refl _ _ _ _) .nil
theorem q09(h:ME K O t fa)(h2:MA K O tr fs):MA K O (q2x t tr) (q01 fa fs):=λZ σ H R ρ ds ρ' Q S e k=>by
 obtain⟨x,ρ1,e1,e⟩:=q02 e
 obtain⟨xs,ρ2,e2,e⟩:=q02 e
 cases e
 refine h Z σ H R ρ x _ _ S e1 λv H1 R1 S1 st1 r1=>h2 Z σ H1 R1 ρ1 xs _ _ S1 e2 λvs H2 R2 S2 st2 r2=>?_
 exact k (v::vs) H2 R2 S2 (st1.trans st2) (.cons (r1.mono st2.r) r2)
def mTup(f:RhL):RhD:=q11 f λxs=>q1p (if xs.length<=sizeLine then some (.tup xs)else none)
theorem q7x(h:MA K O tr fs):ME K O (tTup tr) (mTup fs):=λZ σ H R ρ d ρ' Q S e k=>by
 obtain⟨xs,ρ1,e1,e⟩:=q02 e
 obtain⟨e2,rfl⟩:=q0b e
 refine h Z σ H R ρ xs _ _ S e1 λvs H1 R1 S1 st1 r1=>?_
 split at e2
 · rename_i hz
   cases e2
   refine⟨by rw[r1.length];exact hz,λp np=>?_⟩
   have x:=Ext.new (o:=.tup vs) S1.sub np
   exact k _ _ _ (S1.ext x) (st1.trans x.stp) (.tup q0h (r1.mono x.r))
 · cases e2
def mLst(f:RhL):RhL:=q11 f λxs=>q1p (if xs.length<=sizeLine then some xs else none)
theorem StR.out{σ:St}{H R:Hp}{ρ:Rho}{l:Addr}(S:StR K Z O σ H R ρ)(h:H l=none):R l=none:=by
 cases q:R l with
 |none=>rfl
 |some o=>rw[S.sub l o q]at h;cases h
theorem Stp.new{σ:St}{H R H' R':Hp}{l:Addr}(x:Stp O σ H R H' R')(h:H' l=none):H l=none:=by
 cases q:H l with
 |none=>rfl
 |some o=>exact absurd h (x.d l (by rw[q];exact λz=>nomatch z)).1
theorem q7u(h:MA K O tr fs):MN K O (tLst tr) (mLst fs):=λZ σ H R ρ ds ρ' Q S e k=>by
 obtain⟨xs,ρ1,e1,e⟩:=q02 e
 obtain⟨e2,rfl⟩:=q0b e
 refine h Z σ H R ρ xs _ _ S e1 λvs H1 R1 S1 st1 r1=>?_
 split at e2
 · rename_i hz
   cases e2
   refine⟨by rw[r1.length];exact hz,λp np=>?_⟩
   have x:=Ext.hid (o:=.lst vs) S1.sub np
   exact k p vs _ _ (S1.ext x) (st1.trans x.stp) (st1.new np) q0h (S1.out np) r1
 · cases e2
def qbf(K:PySem.W.Frag)(r:List V->Hp->VK->Prop)(g:D->Option D):Prop:=∀(H:Hp) (x:V) (d u:D) (Q:VK),Rp K H x d->g d=some u->(∀v,Sc v u->Q v H)->r [x] H Q
def mOp1(g:D->Option D)(f:RhD):RhD:=q11 f λx=>q1p (g x)
theorem q2h{r:List V->Hp->VK->Prop}{g:D->Option D}(h:qbf K r g)(ha:MB K O t fa):ME K O (tCB r (q2x t tNil)) (mOp1 g fa):=λZ σ H R ρ d ρ' Q S e k=>by
 obtain⟨x,ρ1,e1,e⟩:=q02 e
 obtain⟨e2,rfl⟩:=q0b e
 refine ha Z σ H R ρ x _ _ S e1 λv H1 R1 S1 st1 r1=>?_
 exact h H1 v x d Q r1 e2 λw z=>k w H1 R1 S1 st1 z.rp
def dLen:D->Option D
 |.lst xs=>some (.int xs.length)
 |.tup xs=>some (.int xs.length)
 |_=>none
theorem qam:qbf K (λxs H Q=>∃p ys,xs=[.ref p]/\(SqL K H p ys∨SqT K H p ys)/\Q (.int ys.length) H) dLen:=λH x d u Q r e k=>by
 (first|split at e|(unfold dLen at e;split at e))
 · obtain⟨_,_,rfl,h,q⟩:=r.isL
   cases e
   refine⟨_,_,rfl,.inl h,?_⟩
   rw[q.length]
   exact k _ (.int _)
 · obtain⟨_,_,rfl,h,q⟩:=r.isT
   cases e
   refine⟨_,_,rfl,.inr (SqT.of h),?_⟩
   rw[q.length]
   exact k _ (.int _)
 · cases e
def dInt:D->Option D
 |.int i=>some (.int i)
 |.bl b=>some (.int (if b then 1 else 0))
 |_=>none
theorem qib:qbf K (λxs H Q=>(∃i,xs=[.int i]/\Q (.int i) H)∨∃k,xs=[.bl k]/\Q (.int (if k then 1 else 0)) H) dInt:=λH x d u Q r e k=>by
 (first|split at e|(unfold dInt at e;split at e))
 · rename_i i
   obtain rfl:=r.isA rfl
   cases e
   exact .inl ⟨i,rfl,k _ (.int _)⟩
 · rename_i b
   obtain rfl:=r.isA rfl
   cases e
   exact .inr ⟨b,rfl,k _ (.int _)⟩
 · cases e
def q2l:List D->Option (List Int)
 |[]=>some []
 |.int i::r=>(q2l r).map (i:: ·)
 |_=>none
def q38:List D->Option (List Bool)
 |[]=>some []
 |.bl i::r=>(q38 r).map (i:: ·)
 |_=>none
theorem q2k{R:Hp}:∀{xs:List V} {ds:List D} {ns:List Int},Rps K R xs ds->q2l ds=some ns->xs=ns.map V.int
 |_,_,ns,.nil,e=>by cases e;rfl
 | _,_,ns,.cons (d:=d) h r,e=>by
   cases h with
   | int i=>
     unfold q2l at e
     cases q:q2l _ with
     |none=>rw[q]at e;cases e
     |some ms=>rw[q]at e;cases e;rw[q2k r q];rfl
   |_=>cases e
theorem q62{R:Hp}:∀{xs:List V} {ds:List D} {ns:List Bool},Rps K R xs ds->q38 ds=some ns->xs=ns.map V.bl
 |_,_,ns,.nil,e=>by cases e;rfl
 | _,_,ns,.cons (d:=d) h r,e=>by
   cases h with
   | bl i=>
     unfold q38 at e
     cases q:q38 _ with
     |none=>rw[q]at e;cases e
     |some ms=>rw[q]at e;cases e;rw[q62 r q];rfl
   |_=>cases e
theorem q24:∀ns:List Int,q2l (ns.map D.int)=some ns
 |[]=>rfl
 |n::ns=>by rw[ji,q2l,q24 ns];rfl
def dSum:D->Option D
 |.lst xs=>(q2l xs).map λns=>.int ns.sum
 |_=>none
theorem qia:qbf K (λxs H Q=>∃(p:Addr) (ns:List Int),xs=[.ref p]/\SqL K H p (ns.map V.int)/\Q (.int ns.sum) H) dSum:=λH x d u Q r e k=>by
 cases r with
 | lst h q=>
   rename_i ds
   have e':(q2l ds).map (λns=>D.int ns.sum)=some u:=e
   cases z:q2l ds with
   |none=>rw[z]at e';cases e'
   | some ns=>
     rw[z]at e'
     cases e'
     have ex:=q2k q z
     subst ex
     exact⟨_,ns,rfl,h,k _ (.int _)⟩
 |_=>cases e
def dAll:D->Option D
 |.lst xs=>(q38 xs).map λbs=>.bl (bs.all id)
 |_=>none
theorem qic:qbf K (λxs H Q=>∃(p:Addr) (bs:List Bool),xs=[.ref p]/\SqL K H p (bs.map V.bl)/\Q (.bl (bs.all id)) H) dAll:=λH x d u Q r e k=>by
 cases r with
 | lst h q=>
   rename_i ds
   have e':(q38 ds).map (λbs=>D.bl (bs.all id))=some u:=e
   cases z:q38 ds with
   |none=>rw[z]at e';cases e'
   | some ns=>
     rw[z]at e'
     cases e'
     have ex:=q62 q z
     subst ex
     exact⟨_,ns,rfl,h,k _ (.bl _)⟩
 |_=>cases e
end
def ItOk(K:PySem.W.Frag)(J:It)(R:Hp)(ds:List D):Prop:=∀(H' R':Hp),Same R R'->(∀a o,R' a=some o->H' a=some o)->∀i:Nat,(i=ds.length->J.stop i H')/\∀d,ds[i]? =some d->J.go i H'/\∀x H'',J.yld i H' x H''->∃R'',Ext H' R' H'' R''/\Rp K R'' x d
theorem ItOk.mono{K:PySem.W.Frag}{J:It}{R R1:Hp}{ds:List D}(h:ItOk K J R ds)(s:Same R R1):ItOk K J R1 ds:=λH' R' s' b=>h H' R' (s.trans s') b
def MI(K:PySem.W.Frag)(O:List Nat)(wi:TI)(f:RhL):Prop:=∀(Z:Anc) (σ:St) (H R:Hp) (ρ:Rho) (ds:List D) (ρ':Rho) (Q:It->Hp->Prop),StR K Z O σ H R ρ->f ρ=some (ds,ρ')->(∀J H' R',StR K Z O σ H' R' ρ'->Stp O σ H R H' R'->ItOk K J R' ds->Q J H')->wi σ H Q
def iSeq(K:PySem.W.Frag)(tl:TE):TI:=λσ H R=>qkl K tl σ H R∨iTup K tl σ H R
theorem q1n{X:Cx}{K:PySem.W.Frag}{tg l:Expr}{tl:TE}(h:X.K=K)(hl:PE X l tl):PI X tg l (iSeq K tl):=λz4 s σ H R I q=>by
 rcases q with q|q
 · exact qfn h hl z4 s σ H R I q
 · exact qje h hl z4 s σ H R I q
def mSeq(f:RhD):RhL:=q11 f λd=>q1p (match d with
 |.lst xs=>some xs
 |.tup xs=>some xs
 |_=>none)
section
variable{K:PySem.W.Frag}{O:List Nat}{t:TE}{tr:TA}{fa:RhD}{fs:RhL}
theorem qkg{R:Hp}{a:Addr}{xs:List V}{ds:List D}(h:SqL K R a xs)(r:Rps K R xs ds):ItOk K (Itl K a) R ds:=λH' R' s b i=>by
 have q:SqL K H' a xs:=Same.sqL b (Same.sqL s h)
 refine⟨λe=>⟨xs,q,by rw[r.length];omega⟩,λd e=>?_⟩
 obtain⟨v,h1,h2⟩:=r.get e
 refine⟨⟨xs,v,q,h1⟩,λx H'' y=>?_⟩
 obtain⟨rfl,y⟩:=y
 have ex:=y xs q
 rw[h1]at ex
 cases ex
 exact⟨R',Ext.refl b,h2.mono s⟩
theorem qok{R:Hp}{a:Addr}{xs:List V}{ds:List D}(h:SqT K R a xs)(r:Rps K R xs ds):ItOk K (Itt K a) R ds:=λH' R' s b i=>by
 have q:SqT K H' a xs:=Same.tup b (Same.tup s h)
 refine⟨λe=>⟨xs,q,by rw[r.length];omega⟩,λd e=>?_⟩
 obtain⟨v,h1,h2⟩:=r.get e
 refine⟨⟨xs,v,q,h1⟩,λx H'' y=>?_⟩
 obtain⟨rfl,y⟩:=y
 have ex:=y xs q
 rw[h1]at ex
 cases ex
 exact⟨R',Ext.refl b,h2.mono s⟩
theorem q2s(h:ME K O t fa):MI K O (iSeq K t) (mSeq fa):=λZ σ H R ρ ds ρ' Q S e k=>by
 obtain⟨d,ρ1,e1,e⟩:=q02 e
 obtain⟨e2,rfl⟩:=q0b e
 cases d with
 | lst xs=>
   cases e2
   refine .inl (h Z σ H R ρ _ _ _ S e1 λv H1 R1 S1 st1 r1=>?_)
   obtain⟨_,_,rfl,q,r⟩:=r1.isL
   exact⟨_,rfl,⟨_,Same.sqL S1.same q⟩,k _ H1 R1 S1 st1 (qkg q r)⟩
 | tup xs=>
   cases e2
   refine .inr (h Z σ H R ρ _ _ _ S e1 λv H1 R1 S1 st1 r1=>?_)
   obtain⟨_,_,rfl,q,r⟩:=r1.isT
   exact⟨_,rfl,⟨_,SqT.of (S1.same _ _ q)⟩,k _ H1 R1 S1 st1 (qok (SqT.of q) r)⟩
 |_=>cases e2
def q16(lo:Int)(n:Nat):List D:=(List.range n).map λ(k:Nat)=>D.int (lo+(k:Int))
theorem qad{R:Hp}(lo:Int)(n:Nat):ItOk K (Itr lo n) R (q16 lo n):=λH' R' s b i=>by
 have len:(q16 lo n).length=n:=by simp[q16]
 refine⟨λe=>by show n<=i;omega,λd e=>?_⟩
 have hi:i<n:=by
   have:=(List.getElem?_eq_some_iff.mp e).1
   omega
 have ed:d=D.int (lo+(i:Int)):=by
   unfold q16 at e
   rw[jz,List.getElem?_range hi]at e
   exact(jh e).symm
 subst ed
 refine⟨hi,λx H'' y=>?_⟩
 obtain⟨rfl,rfl⟩:=y
 exact⟨R',Ext.refl b,.int _⟩
def big(j:Int):Bool:=decide (-(2^62)<=j)&&decide (j<2^62)
def q3m(f:RhL):RhL:=q11 f λds=>q1p (match ds with
 |[.int j]=>if big j=true then some (q16 0 j.toNat)else none
 |_=>none)
theorem q3z(h:MA K O tr fs):MI K O (qop tr) (q3m fs):=λZ σ H R ρ ds ρ' Q S e k=>by
 obtain⟨xs,ρ1,e1,e⟩:=q02 e
 obtain⟨e2,rfl⟩:=q0b e
 split at e2
 · rename_i j
   split at e2
   · rename_i hb
     cases e2
     refine h Z σ H R ρ _ _ _ S e1 λvs H1 R1 S1 st1 r1=>?_
     obtain⟨_,_,rfl,q,r⟩:=r1.isC
     (first|obtain rfl:=r.isA rfl|cases r)
     (first|obtain rfl:=q.isA rfl|cases q)
     unfold big at hb
     rw[Bool.and_eq_true]at hb
     exact⟨j,rfl,of_decide_eq_true hb.1,of_decide_eq_true hb.2,k _ H1 R1 S1 st1 (qad 0 _)⟩
   · cases e2
 · cases e2
def q7z(f:RhL):RhL:=q11 f λds=>q1p (match ds with
 |[.int i,.int j]=>if(big i&&big j)=true then some (q16 i (j-i).toNat)else none
 |_=>none)
theorem q7w(h:MA K O tr fs):MI K O (qoo tr) (q7z fs):=λZ σ H R ρ ds ρ' Q S e k=>by
 obtain⟨xs,ρ1,e1,e⟩:=q02 e
 obtain⟨e2,rfl⟩:=q0b e
 split at e2
 · rename_i i j
   split at e2
   · rename_i hb
     cases e2
     refine h Z σ H R ρ _ _ _ S e1 λvs H1 R1 S1 st1 r1=>?_
     obtain⟨_,_,rfl,q,r⟩:=r1.isC
     obtain⟨_,_,rfl,q2,r⟩:=r.isC
     (first|obtain rfl:=r.isA rfl|cases r)
     (first|obtain rfl:=q.isA rfl|cases q)
     (first|obtain rfl:=q2.isA rfl|cases q2)
     unfold big at hb
     simp only[Bool.and_eq_true,decide_eq_true_eq]at hb
     exact⟨i,j,rfl,⟨hb.1.1,hb.1.2,hb.2.1,hb.2.2⟩,k _ H1 R1 S1 st1 (qad i _)⟩
   · cases e2
 · cases e2
end
def MG(K:PySem.W.Frag)(O T:List Nat)(g:TG)(f:RhG):Prop:=∀(Z:Anc) (σ:St) (H R:Hp) (ρ:Rho) (x:V) (d:D) (ρ':Rho) (Q:St->Hp->Prop),StR K Z O σ H R ρ->Rp K R x d->f d ρ=some ρ'->(∀σ',StR K Z O σ' H R ρ'->(∀j,j∉T->σ'[j]? =σ[j]?)->Q σ' H)->g x σ H Q
def MGs(K:PySem.W.Frag)(O T:List Nat)(g:TGs)(f:List D->Rho->Option Rho):Prop:=∀(Z:Anc) (σ:St) (H R:Hp) (ρ:Rho) (xs:List V) (ds:List D) (ρ':Rho) (Q:St->Hp->Prop),StR K Z O σ H R ρ->Rps K R xs ds->f ds ρ=some ρ'->(∀σ',StR K Z O σ' H R ρ'->(∀j,j∉T->σ'[j]? =σ[j]?)->Q σ' H)->g xs σ H Q
def gSet(i:Nat):RhG:=λd ρ=>some (ρ.set i (some d))
def q3f:List D->Rho->Option Rho:=λds ρ=>match ds with
 |[]=>some ρ
 |_=>none
def q0y(f:RhG)(g:List D->Rho->Option Rho):List D->Rho->Option Rho:=λds ρ=>match ds with
 | d::r=>match f d ρ with
   |some ρ1=>g r ρ1
   |none=>none
 |[]=>none
def q36(n:Nat)(f:List D->Rho->Option Rho):RhG:=λd ρ=>match d with
 |.tup ds=>if ds.length=n then f ds ρ else none
 |_=>none
section
variable{K:PySem.W.Frag}{O T T':List Nat}{g:TG}{gs:TGs}{f:RhG}{fs:List D->Rho->Option Rho}
theorem q0i{i:Nat}(hi:i∉O:=by decide):MG K O [i] (q2u i) (gSet i):=λZ σ H R ρ x d ρ' Q S r e k=>by
 cases e
 exact k _ (S.set hi r) λj hj=>jm (λ(z:i=j)=>hj (by rw[z];exact List.mem_singleton_self j))
theorem q4d:MGs K O [] gNil q3f:=λZ σ H R ρ xs ds ρ' Q S r e k=>by
 cases r with
 |nil=>cases e;exact⟨rfl,k σ S λ_ _=>rfl⟩
 |cons _ _=>cases e
theorem q1s(h:MG K O T g f)(h2:MGs K O T' gs fs):MGs K O (T++T') (q95 g gs) (q0y f fs):=λZ σ H R ρ xs ds ρ' Q S r e k=>by
 cases r with
 |nil=>cases e
 | cons q r=>
   rename_i x xs d ds
   unfold q0y at e
   cases e1:f d ρ with
   |none=>simp only[e1]at e;cases e
   | some ρ1=>
     simp only[e1]at e
     refine⟨x,xs,rfl,h Z σ H R ρ x d ρ1 _ S q e1 λσ1 S1 n1=>h2 Z σ1 H R ρ1 xs ds ρ' _ S1 r e λσ2 S2 n2=>?_⟩
     refine k σ2 S2 λj hj=>?_
     rw[List.mem_append,not_or]at hj
     rw[n2 j hj.2,n1 j hj.1]
theorem q5y{n:Nat}(h:MGs K O T gs fs):MG K O T (gTup K n gs) (q36 n fs):=λZ σ H R ρ x d ρ' Q S r e k=>by
 cases r with
 | tup q rs=>
   unfold q36 at e
   simp only at e
   split at e
   · rename_i hn
     exact⟨_,_,rfl,SqT.of (S.same _ _ q),by rw[rs.length];exact hn,h Z σ H R ρ _ _ ρ' Q S rs e k⟩
   · cases e
 |_=>cases e
end
def q3p(n:Nat)(js:List Nat)(ρ:Rho):Rho:=List.replicate n none++js.map λj=>(ρ[j]?).join
def bwO:Option (Nat×Nat)->List Nat
 |none=>[]
 |some p=>[p.2]
def q2w(bw:Option (Nat×Nat))(ρ ρb:Rho):Rho:=match bw with
 |none=>ρ
 | some p=>match ρb[p.2]? with
   |some x=>ρ.set p.1 x
   |none=>ρ
def bwOk(n:Nat)(js O:List Nat)(bw:Option (Nat×Nat)):Bool:=match bw with
 |none=>js.all λj=>!O.contains j
 |some p=>O.contains p.1&&decide (n<=p.2)&&decide (js[p.2-n]? =some p.1)&&(List.range js.length).all λk=>decide (n+k=p.2)|| !O.contains (js.getD k 0)
def q0e(n:Nat)(js:List Nat)(bw:Option (Nat×Nat))(fg:RhG)(ft:RhB)(fe:RhD):List D->RhL
 |[],ρ=>some ([],ρ)
 | d::r,ρ=>match fg d (q3p n js ρ)with
   |none=>none
   | some ρ1=>match ft ρ1 with
     |none=>none
     |some (false,ρ2)=>q0e n js bw fg ft fe r (q2w bw ρ ρ2)
     | some (true,ρ2)=>match fe ρ2 with
       |none=>none
       | some (y,ρ3)=>match q0e n js bw fg ft fe r (q2w bw ρ ρ3)with
         |none=>none
         |some (ys,ρ4)=>some (y::ys,ρ4)
section
variable{K:PySem.W.Frag}{Z Z':Anc}{O:List Nat}{σ σ4:St}{H R H6 R6:Hp}{ρ ρ3:Rho}{n:Nat}{js:List Nat}{bw:Option (Nat×Nat)}
theorem qem:(q3p n js ρ).length=n+js.length:=by simp[q3p]
theorem qen{i:Nat}{d:D}(e:(q3p n js ρ)[i]? =some (some d)):n<=i/\∃j,js[i-n]? =some j/\ρ[j]? =some (some d):=by
 unfold q3p at e
 by_cases h:i<n
 · rw[xx (by simpa using h),vg,if_pos h]at e
   cases e
 · refine⟨by omega,?_⟩
   rw[xr (by simp;omega),kc,jz]at e
   cases q:js[i-n]? with
   |none=>rw[q]at e;cases e
   | some j=>
     rw[q]at e
     refine⟨j,rfl,?_⟩
     have e':(ρ[j]?).join=some d:=jh e
     cases z:ρ[j]? with
     |none=>rw[z]at e';cases e'
     |some o=>rw[z]at e';have:o=some d:=e';rw[this]
theorem qgx{i j:Nat}(h:n<=i)(e:js[i-n]? =some j){d:D}(q:ρ[j]? =some (some d)):(q3p n js ρ)[i]? =some (some d):=by
 unfold q3p
 rw[xr (by simp;omega),kc,jz,e]
 show some ((ρ[j]?).join)=_
 rw[q]
 rfl
theorem q72{i j:Nat}(h:n<=i)(e:js[i-n]? =some j){v:V}(q:σ[j]? =some (some v)):(caps n js σ)[i]? =some (some v):=by
 unfold caps
 rw[xr (by simp;omega),kc,jz,e]
 show some ((σ[j]?).join)=_
 rw[q]
 rfl
def bwL(bw:Option (Nat×Nat))(σ:St):Addr->Prop:=match bw with
 |none=>λ_=>False
 |some p=>λl=>σ[p.1]? =some (some (.ref l))
theorem StR.block(S:StR K Z O σ H R ρ)(hb:bwOk n js O bw=true):StR K ⟨H,R,bwL bw σ,bwO bw⟩ (bwO bw) (caps n js σ) H R (q3p n js ρ):=by
 have noO:∀i j,n<=i->js[i-n]? =some j->i∉bwO bw->j∉O:=λi j hi hj hn hO=>by
   cases bw with
   | none=>
     unfold bwOk at hb
     have z:=List.all_eq_true.mp hb j (va hj)
     simp at z
     exact z hO
   | some p=>
     unfold bwOk at hb
     simp only[Bool.and_eq_true]at hb
     have hk:i-n<js.length:=(List.getElem?_eq_some_iff.mp hj).1
     have z:=List.all_eq_true.mp hb.2 (i-n) (List.mem_range.mpr hk)
     have ej:js.getD (i-n) 0=j:=by rw[jv,hj];rfl
     rw[ej]at z
     simp only[Bool.or_eq_true,decide_eq_true_eq]at z
     rcases z with z|z
     · exact hn (by show i∈[p.2];rw[List.mem_singleton];omega)
     · simp at z;exact z hO
 have inO:∀p,bw=some p->p.1∈O/\n<=p.2/\js[p.2-n]? =some p.1:=λp e=>by
   subst e
   unfold bwOk at hb
   simp only[Bool.and_eq_true,decide_eq_true_eq]at hb
   exact⟨by simpa using hb.1.1.1,hb.1.1.2,hb.1.2⟩
 have only:∀i,i∈bwO bw->∃p,bw=some p/\i=p.2:=λi hi=>by
   cases bw with
   |none=>exact absurd hi (by simp[bwO])
   |some p=>exact⟨p,rfl,by simpa[bwO]using hi⟩
 refine⟨S.sub,by rw[qem,qaq],λi d hi e=>?_,λi hi=>?_,λi j hi hj hn=>?_,λa o e _=>e,Same.refl _,λa h=>.inl h,λa h=>.refl h,λi hi hp=>absurd hi hp,λi hi _ l e=>?_⟩
 · obtain⟨h1,j,h2,h3⟩:=qen e
   obtain⟨v,q1,q2⟩:=S.env j d (noO i j h1 h2 hi) h3
   exact⟨v,q72 h1 h2 q1,q2⟩
 · obtain⟨p,rfl,rfl⟩:=only i hi
   obtain⟨h1,h2,h3⟩:=inO p rfl
   obtain⟨l,vs,ds,q1,q2,q3⟩:=S.own p.1 h1
   exact⟨l,vs,ds,qgx h2 h3 q1,q72 h2 h3 q2,q3⟩
 · obtain⟨p,rfl,rfl⟩:=only i hi
   obtain⟨p',e,rfl⟩:=only j hj
   cases e
   exact absurd rfl hn
 · obtain⟨p,rfl,rfl⟩:=only i hi
   obtain⟨h1,h2,h3⟩:=inO p rfl
   obtain⟨l',vs,ds,q1,q2,q3⟩:=S.own p.1 h1
   rw[q72 h2 h3 q2]at e
   cases e
   exact q2
theorem StR.back(S:StR K Z O σ H R ρ)(hb:bwOk n js O bw=true)(Sb:StR K Z' (bwO bw) σ4 H6 R6 ρ3)(st:Stp (bwO bw) σ4 H R H6 R6)(hσ:∀p,bw=some p->σ4[p.2]? =σ[p.1]?):
   StR K Z O σ H6 R6 (q2w bw ρ ρ3)/\Stp O σ H R H6 R6:=by
 have inO:∀p,bw=some p->p.1∈O:=λp e=>by
   subst e
   unfold bwOk at hb
   simp only[Bool.and_eq_true,decide_eq_true_eq]at hb
   simpa using hb.1.1.1
 have only:∀i,i∈bwO bw->∃p,bw=some p/\i=p.2:=λi hi=>by
   cases bw with
   |none=>exact absurd hi (by simp[bwO])
   |some p=>exact⟨p,rfl,by simpa[bwO]using hi⟩
 have st':Stp O σ H R H6 R6:=⟨st.r,λa o e n=>st.h a o e λi hi z=>by
   obtain⟨p,e1,rfl⟩:=only i hi
   rw[hσ p e1]at z
   exact n p.1 (inO p e1) z,st.n,st.d⟩
 have keepH0:∀a o,Z.H0 a=some o->¬Z.L a->H6 a=some o:=λa o e n=>by
   refine st'.h a o (S.ah a o e n) λi hi z=>?_
   by_cases hp:i∈Z.P
   · exact n (S.ap i hi hp a z)
   · rw[S.ao i hi hp a z]at e;cases e
 have len:(q2w bw ρ ρ3).length=ρ.length:=by
   unfold q2w
   cases bw with
   |none=>rfl
   | some p=>
     dsimp only
     split
     · rw[xg]
     · rfl
 have other:∀i,(∀p,bw=some p->p.1≠i)->(q2w bw ρ ρ3)[i]? =ρ[i]? :=λi h=>by
   unfold q2w
   cases bw with
   |none=>rfl
   | some p=>
     dsimp only
     split
     · rw[jm (h p rfl)]
     · rfl
 refine⟨⟨Sb.sub,by rw[len];exact S.len,λi d hi e=>?_,λi hi=>?_,S.dis,keepH0,S.ar.trans st.r,λa h=>?_,λa h=>(S.ad a h).trans (st.d a (S.ad a h).1),S.ao,S.ap⟩,st'⟩
 · rw[other i λp e1 z=>hi (z▸inO p e1)]at e
   obtain⟨v,h1,h2⟩:=S.env i d hi e
   exact⟨v,h1,h2.mono st.r⟩
 · by_cases hp:∃p,bw=some p/\p.1=i
   · obtain⟨p,rfl,rfl⟩:=hp
     obtain⟨l,vs,ds,q1,q2,q3,q4,q5⟩:=Sb.own p.2 (by simp[bwO])
     rw[hσ p rfl]at q2
     obtain⟨_,_,_,g1,_⟩:=S.own p.1 hi
     have z9:p.1<ρ.length:=(List.getElem?_eq_some_iff.mp g1).1
     refine⟨l,vs,ds,?_,q2,q3,q4,q5⟩
     unfold q2w
     dsimp only
     rw[q1]
     exact x6 z9
   · have hne:∀p,bw=some p->p.1≠i:=λp e z=>hp ⟨p,e,z⟩
     obtain⟨l,vs,ds,q1,q2,q3,q4,q5⟩:=S.own i hi
     have nob:∀j,j∈bwO bw->σ4[j]? ≠some (some (.ref l)):=λj hj z=>by
       obtain⟨p,e1,rfl⟩:=only j hj
       rw[hσ p e1]at z
       exact S.dis p.1 i (inO p e1) hi (hne p e1) l z q2
     refine⟨l,vs,ds,by rw[other i hne];exact q1,q2,st.h l _ q3 nob,?_,q5.mono st.r⟩
     cases q:R6 l with
     |none=>rfl
     | some o=>
       rcases st.n l (by rw[q];exact λz=>nomatch z)with z|z
       · exact absurd q4 z
       · exact(q5.noF q3 z).elim
 · rcases st.n a h with z|z
   · exact S.an a z
   · exact .inr (z.back (S.ad a))
end
theorem qbd{K:PySem.W.Frag}{Z:Anc}{O T:List Nat}{σ:St}{H R:Hp}{ρ ρ':Rho}{n:Nat}{js:List Nat}{bw:Option (Nat×Nat)}{g:TG}{tt:TT}{te:TE}{fg:RhG}{ft:RhB}{fe:RhD}{J:It}{ds ys:List D}{Fin:List V->Hp->Prop}
   (hb:bwOk n js O bw=true) (hg:MG K (bwO bw) T g fg) (hT:∀p,bw=some p->p.2∉T) (ht:MT K (bwO bw) tt ft) (he:ME K (bwO bw) te fe) (S:StR K Z O σ H R ρ) (ok:ItOk K J R ds) (e:q0e n js bw fg ft fe ds ρ=some (ys,ρ')) (hz:ds.length<=sizeLine)
   (fin:∀vs H' R',StR K Z O σ H' R' ρ'->Stp O σ H R H' R'->Rps K R' vs ys->vs.length<=sizeLine->Fin vs H'):cGo g tt te (caps n js σ) Fin J H:=by
 refine⟨λi m vs H2=>m=ds.length-i/\i<=ds.length/\vs.length<=i/\∃R2 ρ2 ys1 ys2,StR K Z O σ H2 R2 ρ2/\Stp O σ H R H2 R2/\Rps K R2 vs ys1/\q0e n js bw fg ft fe (ds.drop i) ρ2=some (ys2,ρ')/\ys1++ys2=ys,
   ⟨ds.length,by simp,Nat.zero_le _,Nat.zero_le _,R,ρ,[],ys,S,Stp.refl _ _ _ _,.nil,by rw[List.drop_zero];exact e,rfl⟩,?_⟩
 rintro i m vs H2 ⟨rfl,hi,hv,R2,ρ2,ys1,ys2,S2,st2,r2,e2,ey⟩
 obtain⟨o1,o2⟩:=ok H2 R2 st2.r S2.sub i
 by_cases hlt:i<ds.length
 · obtain⟨g1,g2⟩:=o2 ds[i] (jf hlt)
   rw[vf hlt]at e2
   refine .inr ⟨g1,by omega,λvs' H'=>∃R' ρ2 ys1 ys2,vs'.length<=i+1/\StR K Z O σ H' R' ρ2/\Stp O σ H R H' R'/\Rps K R' vs' ys1/\q0e n js bw fg ft fe (ds.drop (i+1)) ρ2=some (ys2,ρ')/\ys1++ys2=ys,?_,λx H3 y=>?_⟩
   · rintro vs' H' ⟨R',ρ3,zs1,zs2,q0,q1,q2,q3,q4,q5⟩
     exact⟨ds.length-(i+1),by omega,rfl,hlt,q0,R',ρ3,zs1,zs2,q1,q2,q3,q4,q5⟩
   · obtain⟨R3,x3,r3⟩:=g2 x H3 y
     have S3:=S2.ext x3
     have B3:=S3.block hb
     unfold q0e at e2
     cases e3:fg ds[i] (q3p n js ρ2)with
     |none=>rw[e3]at e2;cases e2
     | some ρb1=>
       rw[e3]at e2
       dsimp only at e2
       refine hg _ _ _ _ _ x _ ρb1 _ B3 r3 e3 λσ4 S4 n4=>?_
       have cap:∀p,bw=some p->σ4[p.2]? =σ[p.1]? :=λp e1=>by
         rw[n4 p.2 (hT p e1)]
         subst e1
         unfold bwOk at hb
         simp only[Bool.and_eq_true,decide_eq_true_eq]at hb
         obtain⟨l,_,_,_,q2,_⟩:=S3.own p.1 (by simpa using hb.1.1.1)
         rw[q72 hb.1.1.2 hb.1.2 q2,q2]
       cases e4:ft ρb1 with
       |none=>rw[e4]at e2;cases e2
       | some c=>
         obtain⟨b,ρb2⟩:=c
         rw[e4]at e2
         refine ht _ σ4 H3 R3 ρb1 b ρb2 _ S4 e4 λH5 R5 S5 st5=>?_
         cases b with
         | false=>
           dsimp only at e2
           obtain⟨T1,T2⟩:=S3.back hb S5 st5 cap
           exact iteF ⟨R5,_,ys1,ys2,by omega,T1,(st2.trans x3.stp).trans T2,(r2.mono x3.r).mono st5.r,e2,ey⟩
         | true=>
           dsimp only at e2
           cases e5:fe ρb2 with
           |none=>rw[e5]at e2;cases e2
           | some c=>
             obtain⟨y0,ρb3⟩:=c
             rw[e5]at e2
             dsimp only at e2
             cases e6:q0e n js bw fg ft fe (ds.drop (i+1)) (q2w bw ρ2 ρb3)with
             |none=>rw[e6]at e2;cases e2
             | some c=>
               obtain⟨zs,ρ6⟩:=c
               rw[e6]at e2
               dsimp only at e2
               cases e2
               refine iteT (he _ σ4 H5 R5 ρb2 y0 ρb3 _ S5 e5 λw H6 R6 S6 st6 r6=>?_)
               obtain⟨T1,T2⟩:=S3.back hb S6 (st5.trans st6) cap
               refine⟨R6,_,ys1++[y0],zs,by rw[jr];show vs.length+1<=i+1;omega,T1,(st2.trans x3.stp).trans T2,(((r2.mono x3.r).mono st5.r).mono st6.r).snoc r6,e6,?_⟩
               rw[<-ey,List.append_assoc]
               rfl
 · have ei:i=ds.length:=by omega
   subst ei
   rw[List.drop_length]at e2
   unfold q0e at e2
   cases e2
   rw[List.append_nil]at ey
   subst ey
   exact .inl ⟨o1 rfl,by omega,fin vs H2 R2 S2 st2 r2 (by omega)⟩
def q15(n:Nat)(js:List Nat)(bw:Option (Nat×Nat))(fi:RhL)(fg:RhG)(ft:RhB)(fe:RhD):RhL:=q11 fi λds ρ=>if ds.length<=sizeLine then q0e n js bw fg ft fe ds ρ else none
theorem q3i{K:PySem.W.Frag}{O:List Nat}:MT K O tYes (mRet true):=λZ σ H R ρ b ρ' Q S e k=>by
 cases e
 exact k H R S (Stp.refl _ _ _ _)
theorem q1j{K:PySem.W.Frag}{O T:List Nat}{n:Nat}{js:List Nat}{bw:Option (Nat×Nat)}{wi:TI}{g:TG}{tt:TT}{te:TE}{fi:RhL}{fg:RhG}{ft:RhB}{fe:RhD}
   (hi:MI K O wi fi) (hg:MG K (bwO bw) T g fg) (ht:MT K (bwO bw) tt ft) (he:ME K (bwO bw) te fe) (hb:bwOk n js O bw=true:=by decide) (hT:∀p,bw=some p->p.2∉T:=by decide):MN K O (qbt n js wi g tt te) (q15 n js bw fi fg ft fe):=λZ σ H R ρ ds ρ' Q S e k=>by
 obtain⟨xs,ρ1,e1,e⟩:=q02 e
 split at e
 · rename_i hz
   refine hi Z σ H R ρ xs ρ1 _ S e1 λJ H1 R1 S1 st1 ok=>?_
   refine qbd hb hg hT ht he S1 ok e hz λvs H2 R2 S2 st2 r2 l2 D nD=>?_
   have x:=Ext.hid (o:=.lst vs) S2.sub nD
   exact k D vs _ _ (S2.ext x) ((st1.trans st2).trans x.stp) ((st1.trans st2).new nD) q0h (S2.out nD) r2
 · cases e
inductive Out where
 |nx (ρ:Rho)
 |rt (d:D) (ρ:Rho)
 |bk (ρ:Rho)
 |ct (ρ:Rho)
abbrev RhO:=Rho->Option Out
structure MC where
 K:PySem.W.Frag
 fr:Bool
 P:List Nat
 Ol:List Nat
def Res(K:PySem.W.Frag)(fr:Bool)(H:Hp)(v:V)(d:D)(H' R':Hp):Prop:=match fr with
 |false=>Rp K R' v d
 |true=>∃l vs ds,v=.ref l/\d=.lst ds/\H l=none/\H' l=some (.lst vs)/\R' l=none/\Rps K R' vs ds
def Ends.ok(c:MC)(Z:Anc)(O':List Nat)(R:Hp)(E:Ends):Out->Prop
 |.nx ρ'=>∀σ' H' R',StR c.K Z O' σ' H' R' ρ'->Same R R'->E.nx σ' H'
 |.bk ρ'=>∀σ' H' R',StR c.K Z c.Ol σ' H' R' ρ'->Same R R'->E.bk σ' H'
 |.ct ρ'=>∀σ' H' R',StR c.K Z c.Ol σ' H' R' ρ'->Same R R'->E.ct σ' H'
 |.rt d ρ'=>∀v σ' H' R',StR c.K Z c.P σ' H' R' ρ'->Res c.K c.fr Z.H0 v d H' R'->E.rt v H'
def MS(c:MC)(O O':List Nat)(t:TS)(f:RhO):Prop:=∀(Z:Anc) (E:Ends) (σ:St) (H R:Hp) (ρ:Rho) (o:Out),Z.P=c.P->StR c.K Z O σ H R ρ->f ρ=some o->E.ok c Z O' R o->t E σ H
def subO(c:MC)(O O':List Nat):Bool:=O'.all (λi=>O.contains i)&&c.P.all λi=>!O.contains i||O'.contains i
section
variable{c:MC}{O O' O1:List Nat}{t u:TS}{te:TE}{tt:TT}{g:TG}{f h:RhO}{fe:RhD}{fn:RhL}{ft:RhB}{fg:RhG}
theorem StR.sub'{Z:Anc}{σ:St}{H R:Hp}{ρ:Rho}(S:StR c.K Z O σ H R ρ)(hP:Z.P=c.P)(hs:subO c O O'=true):StR c.K Z O' σ H (frzR O O' σ H R) ρ/\Same R (frzR O O' σ H R):=by
 unfold subO at hs
 simp only[Bool.and_eq_true,List.all_eq_true]at hs
 refine S.freeze (λi hi=>by simpa using hs.1 i hi) λi hi hO=>?_
 rw[hP]at hi
 have z:=hs.2 i hi
 simp only[Bool.or_eq_true]at z
 rcases z with z|z
 · simp at z;exact absurd hO z
 · simpa using z
def sNil:RhO:=λρ=>some (.nx ρ)
theorem q4j(hs:subO c O O'=true):MS c O O' q5l sNil:=λZ E σ H R ρ o hP S e k=>by
 cases e
 obtain⟨S',s⟩:=S.sub' hP hs
 exact k σ H _ S' s
def sSeq(f h:RhO):RhO:=λρ=>match f ρ with
 |none=>none
 |some (.nx ρ1)=>h ρ1
 |some o=>some o
theorem q0g(h1:MS c O O1 t f)(h2:MS c O1 O' u h):MS c O O' (tSeq t u) (sSeq f h):=λZ E σ H R ρ o hP S e k=>by
 unfold sSeq at e
 cases e1:f ρ with
 |none=>rw[e1]at e;cases e
 | some o1=>
   rw[e1]at e
   cases o1 with
   | nx ρ1=>
     refine h1 Z _ σ H R ρ _ hP S e1 λσ' H' R' S' s'=>?_
     refine h2 Z E σ' H' R' ρ1 o hP S' e ?_
     cases o with
     |nx ρ'=>exact λσ2 H2 R2 S2 s2=>k σ2 H2 R2 S2 (s'.trans s2)
     |bk ρ'=>exact λσ2 H2 R2 S2 s2=>k σ2 H2 R2 S2 (s'.trans s2)
     |ct ρ'=>exact λσ2 H2 R2 S2 s2=>k σ2 H2 R2 S2 (s'.trans s2)
     |rt d ρ'=>exact k
   |bk ρ1=>cases e;exact h1 Z _ σ H R ρ _ hP S e1 k
   |ct ρ1=>cases e;exact h1 Z _ σ H R ρ _ hP S e1 k
   |rt d ρ1=>cases e;exact h1 Z _ σ H R ρ _ hP S e1 k
def sSet(i:Nat)(fe:RhD):RhO:=λρ=>match fe ρ with
 |none=>none
 |some (d,ρ1)=>some (.nx (ρ1.set i (some d)))
theorem q17{i:Nat}(he:ME c.K O te fe)(hs:subO c O O'=true:=by rfl)(hi:i∉O':=by decide):MS c O O' (tAsg te (q2u i)) (sSet i fe):=λZ E σ H R ρ o hP S e k=>by
 unfold sSet at e
 cases e1:fe ρ with
 |none=>rw[e1]at e;cases e
 | some p=>
   obtain⟨d,ρ1⟩:=p
   rw[e1]at e
   cases e
   refine he Z σ H R ρ d ρ1 _ S e1 λv H1 R1 S1 st1 r1=>?_
   obtain⟨S2,s2⟩:=S1.sub' hP hs
   exact k _ H1 _ (S2.set hi (r1.mono s2)) (st1.r.trans s2)
def sOwn(i:Nat)(fn:RhL):RhO:=λρ=>match fn ρ with
 |none=>none
 |some (ds,ρ1)=>if i<ρ1.length then some (.nx (ρ1.set i (some (.lst ds))))else none
def ownO(c:MC)(i:Nat)(O O':List Nat):Bool:=subO c O (O'.filter λj=>decide (j≠i))&&O'.contains i&& !c.P.contains i
theorem q5g{i:Nat}(he:MN c.K O te fn)(hs:ownO c i O O'=true):MS c O O' (tAsg te (q2u i)) (sOwn i fn):=λZ E σ H R ρ o hP S e k=>by
 unfold sOwn at e
 unfold ownO at hs
 simp only[Bool.and_eq_true]at hs
 cases e1:fn ρ with
 |none=>rw[e1]at e;cases e
 | some p=>
   obtain⟨ds,ρ1⟩:=p
   rw[e1]at e
   dsimp only at e
   split at e
   · rename_i z9
     cases e
     refine he Z σ H R ρ ds ρ1 _ S e1 λl vs H1 R1 S1 st1 h0 hH hR r1=>?_
     obtain⟨S2,s2⟩:=S1.sub' hP hs.1.1
     have notown:∀j,j∈O->σ[j]? ≠some (some (.ref l)):=S.notnew h0
     have hO':∀j,j∈O'.filter (λj=>decide (j≠i))->j∈O:=λj hj=>by
       have z:=hs.1.1
       unfold subO at z
       simp only[Bool.and_eq_true,List.all_eq_true]at z
       simpa using z.1 j hj
     refine k _ H1 _ (S2.take (i:=i) (l:=l) (vs:=.lst vs) (ds:=.lst ds) (by simp) (by simpa using hs.1.2) (λj hj=>?_) (by rw[hP];simpa using hs.2) z9 (S.new0 h0) hH ?_ (λj hj=>notown j (hO' j hj)) (λj hj=>(List.mem_filter.mp hj).1) (.lst (r1.mono s2))) (st1.r.trans s2)
     · by_cases z:j=i
       · exact .inl z
       · exact .inr (List.mem_filter.mpr ⟨hj,by simpa using z⟩)
     · unfold frzR
       rw[if_neg ?_]
       · exact hR
       · rintro⟨j,hj,_,z⟩
         exact notown j hj z
   · cases e
def sAsg(fe:RhD)(fg:RhG):RhO:=λρ=>match fe ρ with
 |none=>none
 | some (d,ρ1)=>match fg d ρ1 with
   |none=>none
   |some ρ2=>some (.nx ρ2)
theorem qnt{T:List Nat}(he:ME c.K O te fe)(hs:subO c O O'=true)(hg:MG c.K O' T g fg):MS c O O' (tAsg te g) (sAsg fe fg):=λZ E σ H R ρ o hP S e k=>by
 unfold sAsg at e
 cases e1:fe ρ with
 |none=>rw[e1]at e;cases e
 | some p=>
   obtain⟨d,ρ1⟩:=p
   rw[e1]at e
   dsimp only at e
   cases e2:fg d ρ1 with
   |none=>rw[e2]at e;cases e
   | some ρ2=>
     rw[e2]at e
     cases e
     refine he Z σ H R ρ d ρ1 _ S e1 λv H1 R1 S1 st1 r1=>?_
     obtain⟨S2,s2⟩:=S1.sub' hP hs
     exact hg Z σ H1 _ ρ1 v d ρ2 _ S2 (r1.mono s2) e2 λσ' S3 _=>k σ' H1 _ S3 (st1.r.trans s2)
def sIf(ft:RhB)(f h:RhO):RhO:=λρ=>match ft ρ with
 |none=>none
 |some (b,ρ1)=>if b=true then f ρ1 else h ρ1
theorem q7t(ht:MT c.K O tt ft)(h1:MS c O O' t f)(h2:MS c O O' u h):MS c O O' (tIfS tt t u) (sIf ft f h):=λZ E σ H R ρ o hP S e k=>by
 unfold sIf at e
 cases e1:ft ρ with
 |none=>rw[e1]at e;cases e
 | some p=>
   obtain⟨b,ρ1⟩:=p
   rw[e1]at e
   dsimp only at e
   refine ht Z σ H R ρ b ρ1 _ S e1 λH1 R1 S1 st1=>?_
   have k':E.ok c Z O' R1 o:=by
     cases o with
     |nx ρ'=>exact λσ2 H2 R2 S2 s2=>k σ2 H2 R2 S2 (st1.r.trans s2)
     |bk ρ'=>exact λσ2 H2 R2 S2 s2=>k σ2 H2 R2 S2 (st1.r.trans s2)
     |ct ρ'=>exact λσ2 H2 R2 S2 s2=>k σ2 H2 R2 S2 (st1.r.trans s2)
     |rt d ρ'=>exact k
   cases b with
   |true=>exact iteT (h1 Z E σ H1 R1 ρ1 o hP S1 e k')
   |false=>exact iteF (h2 Z E σ H1 R1 ρ1 o hP S1 e k')
def sRet(fe:RhD):RhO:=λρ=>match fe ρ with
 |none=>none
 |some (d,ρ1)=>some (.rt d ρ1)
theorem q1m(hf:c.fr=false)(he:ME c.K O te fe)(hs:subO c O c.P=true):MS c O O' (tRet te) (sRet fe):=λZ E σ H R ρ o hP S e k=>by
 unfold sRet at e
 cases e1:fe ρ with
 |none=>rw[e1]at e;cases e
 | some p=>
   obtain⟨d,ρ1⟩:=p
   rw[e1]at e
   cases e
   refine he Z σ H R ρ d ρ1 _ S e1 λv H1 R1 S1 st1 r1=>?_
   obtain⟨S2,s2⟩:=S1.sub' hP hs
   refine k v σ H1 _ S2 ?_
   unfold Res
   rw[hf]
   exact r1.mono s2
def q5m(fn:RhL):RhO:=λρ=>match fn ρ with
 |none=>none
 |some (ds,ρ1)=>some (.rt (.lst ds) ρ1)
theorem qdf(hf:c.fr=true)(he:MN c.K O te fn)(hs:subO c O c.P=true):MS c O O' (tRet te) (q5m fn):=λZ E σ H R ρ o hP S e k=>by
 unfold q5m at e
 cases e1:fn ρ with
 |none=>rw[e1]at e;cases e
 | some p=>
   obtain⟨ds,ρ1⟩:=p
   rw[e1]at e
   cases e
   refine he Z σ H R ρ ds ρ1 _ S e1 λl vs H1 R1 S1 st1 h0 hH hR r1=>?_
   obtain⟨S2,s2⟩:=S1.sub' hP hs
   refine k _ σ H1 _ S2 ?_
   unfold Res
   rw[hf]
   refine⟨l,vs,ds,rfl,rfl,S.new0 h0,hH,?_,r1.mono s2⟩
   unfold frzR
   rw[if_neg ?_]
   · exact hR
   · rintro⟨j,hj,_,z⟩
     exact S.notnew h0 j hj z
theorem StR.drop{K:PySem.W.Frag}{Z:Anc}{σ:St}{H R:Hp}{ρ:Rho}{i:Nat}(S:StR K Z O σ H R ρ)(hO:∀j,j∈O'->j∈O/\j≠i)(hc:∀j,j∈O->j≠i->j∈O'):StR K Z O' σ H R (ρ.set i none):=by
 refine⟨S.sub,by rw[xg];exact S.len,λj d hj e=>?_,λj hj=>?_,λj k hj hk=>S.dis j k (hO j hj).1 (hO k hk).1,S.ah,S.ar,S.an,S.ad,λj hj=>S.ao j (hO j hj).1,λj hj=>S.ap j (hO j hj).1⟩
 · by_cases z:i=j
   · subst z
     have hl:i<ρ.length:=by
       have:=(List.getElem?_eq_some_iff.mp e).1
       rwa [xg]at this
     rw[x6 hl]at e
     cases e
   · rw[jm z]at e
     exact S.env j d (λq=>hj (hc j q (Ne.symm z))) e
 · obtain⟨l,vs,ds,h1,h2⟩:=S.own j (hO j hj).1
   exact⟨l,vs,ds,by rw[jm (Ne.symm (hO j hj).2)];exact h1,h2⟩
def q54(i:Nat):RhO:=λρ=>match ρ[i]? with
 |some (some (.lst xs))=>some (.rt (.lst xs) (ρ.set i none))
 |_=>none
theorem q6m{i:Nat}(hf:c.fr=true)(hi:i∈O)(hs:subO c O (i::c.P)=true)(hp:i∉c.P):MS c O O' (tRet (tVar i)) (q54 i):=λZ E σ H R ρ o hP S e k=>by
 obtain⟨S2,s2⟩:=S.sub' hP hs
 obtain⟨l,vs,ds,h1,h2,h3,h4,h5⟩:=S2.own i jg
 unfold q54 at e
 rw[h1]at e
 have hd:∃xs,ds=.lst xs:=by
   cases h5 with
   |lst _=>exact⟨_,rfl⟩
   |_=>cases e
 obtain⟨xs,rfl⟩:=hd
 cases e
 refine⟨.ref l,h2,k _ σ H _ (S2.drop (i:=i) (O':=c.P) (λj hj=>⟨jk _ hj,λz=>hp (z▸hj)⟩) λj hj n=>?_) ?_⟩
 · rcases List.mem_cons.mp hj with z|z
   · exact absurd z n
   · exact z
 · unfold Res
   rw[hf]
   cases h5 with
   |lst h5=>exact⟨l,_,_,rfl,rfl,S2.ao i jg (by rw[hP];exact hp) l h2,h3,h4,h5⟩
def q0z(fg:RhG)(fb:RhO):List D->RhO
 |[],ρ=>some (.nx ρ)
 | d::r,ρ=>match fg d ρ with
   |none=>none
   | some ρ1=>match fb ρ1 with
     |none=>none
     |some (.nx ρ2)=>q0z fg fb r ρ2
     |some (.ct ρ2)=>q0z fg fb r ρ2
     |some (.bk ρ2)=>some (.nx ρ2)
     |some (.rt d ρ2)=>some (.rt d ρ2)
def sFor(fi:RhL)(fg:RhG)(fb:RhO):RhO:=λρ=>match fi ρ with
 |none=>none
 |some (ds,ρ1)=>q0z fg fb ds ρ1
theorem q2r{T:List Nat}{wi:TI}{fi:RhL}{tb:TS}{fb:RhO}(hi:MI c.K O wi fi)(hs:subO c O O'=true)(hg:MG c.K O' T g fg)(hb:MS {c with Ol:=O'} O' O' tb fb):MS c O O' (tFor wi g tb) (sFor fi fg fb):=λZ E σ H R ρ o hP S e k=>by
 unfold sFor at e
 cases e1:fi ρ with
 |none=>rw[e1]at e;cases e
 | some p=>
   obtain⟨ds,ρ1⟩:=p
   rw[e1]at e
   dsimp only at e
   refine hi Z σ H R ρ ds ρ1 _ S e1 λJ H1 R1 S1 st1 ok=>?_
   obtain⟨S2,s2⟩:=S1.sub' hP hs
   have ok2:=ok.mono s2
   refine⟨λi m σ' H'=>m=ds.length-i/\i<=ds.length/\∃R' ρ',StR c.K Z O' σ' H' R' ρ'/\Same (frzR O O' σ H1 R1) R'/\q0z fg fb (ds.drop i) ρ'=some o,⟨ds.length,by simp,Nat.zero_le _,_,ρ1,S2,Same.refl _,by rw[List.drop_zero];exact e⟩,?_⟩
   rintro i m σ' H' ⟨rfl,hi',R',ρ',S',s',e'⟩
   obtain⟨o1,o2⟩:=ok2 H' R' s' S'.sub i
   by_cases hlt:i<ds.length
   · obtain⟨g1,g2⟩:=o2 ds[i] (jf hlt)
     rw[vf hlt]at e'
     refine .inr ⟨g1,λσ3 H3=>∃R3 ρ3,StR c.K Z O' σ3 H3 R3 ρ3/\Same (frzR O O' σ H1 R1) R3/\q0z fg fb (ds.drop (i+1)) ρ3=some o,?_,λx H3 y=>?_⟩
     · rintro σ3 H3 ⟨R3,ρ3,q1,q2,q3⟩
       exact⟨ds.length-(i+1),by omega,rfl,hlt,R3,ρ3,q1,q2,q3⟩
     · obtain⟨R3,x3,r3⟩:=g2 x H3 y
       have S3:=S'.ext x3
       unfold q0z at e'
       cases e3:fg ds[i] ρ' with
       |none=>rw[e3]at e';cases e'
       | some ρ4=>
         rw[e3]at e'
         dsimp only at e'
         refine hg Z σ' H3 R3 ρ' x _ ρ4 _ S3 r3 e3 λσ4 S4 _=>?_
         cases e4:fb ρ4 with
         |none=>rw[e4]at e';cases e'
         | some o4=>
           rw[e4]at e'
           refine hb Z _ σ4 H3 R3 ρ4 o4 hP S4 e4 ?_
           cases o4 with
           |nx ρ5=>exact λσ5 H5 R5 S5 s5=>⟨R5,ρ5,S5,(s'.trans x3.r).trans s5,e'⟩
           |ct ρ5=>exact λσ5 H5 R5 S5 s5=>⟨R5,ρ5,S5,(s'.trans x3.r).trans s5,e'⟩
           | bk ρ5=>
             cases e'
             exact λσ5 H5 R5 S5 s5=>k σ5 H5 R5 S5 (((st1.r.trans s2).trans s').trans (x3.r.trans s5))
           | rt d ρ5=>
             cases e'
             exact k
   · have ei:i=ds.length:=by omega
     subst ei
     rw[List.drop_length]at e'
     unfold q0z at e'
     cases e'
     exact .inl ⟨o1 rfl,k σ' H' R' S' ((st1.r.trans s2).trans s')⟩
def q1a(ft:RhB)(fb:RhO):Nat->RhO
 |0,_=>none
 | n+1,ρ=>match ft ρ with
   |none=>none
   |some (false,ρ1)=>some (.nx ρ1)
   | some (true,ρ1)=>match fb ρ1 with
     |none=>none
     |some (.nx ρ2)=>q1a ft fb n ρ2
     |some (.ct ρ2)=>q1a ft fb n ρ2
     |some (.bk ρ2)=>some (.nx ρ2)
     |some (.rt d ρ2)=>some (.rt d ρ2)
theorem q6l{n:Nat}{tb:TS}{fb:RhO}(ht:MT c.K O' tt ft)(hs:subO c O O'=true)(hb:MS {c with Ol:=O'} O' O' tb fb):MS c O O' (qh8 tt tb) (q1a ft fb n):=λZ E σ H R ρ o hP S e k=>by
 obtain⟨S2,s2⟩:=S.sub' hP hs
 refine⟨λm σ' H'=>∃R' ρ',StR c.K Z O' σ' H' R' ρ'/\Same (frzR O O' σ H R) R'/\q1a ft fb m ρ'=some o,⟨n,_,ρ,S2,Same.refl _,e⟩,?_⟩
 rintro m σ' H' ⟨R',ρ',S',s',e'⟩
 cases m with
 |zero=>cases e'
 | succ m=>
   unfold q1a at e'
   cases e1:ft ρ' with
   |none=>rw[e1]at e';cases e'
   | some p=>
     obtain⟨b,ρ1⟩:=p
     rw[e1]at e'
     refine ht Z σ' H' R' ρ' b ρ1 _ S' e1 λH1 R1 S1 st1=>?_
     cases b with
     | false=>
       dsimp only at e'
       cases e'
       exact iteF (k σ' H1 R1 S1 ((s2.trans s').trans st1.r))
     | true=>
       dsimp only at e'
       refine iteT ⟨λσ3 H3=>∃R3 ρ3,StR c.K Z O' σ3 H3 R3 ρ3/\Same (frzR O O' σ H R) R3/\q1a ft fb m ρ3=some o,λσ3 H3 q=>⟨m,Nat.lt_succ_self _,q⟩,?_⟩
       cases e4:fb ρ1 with
       |none=>rw[e4]at e';cases e'
       | some o4=>
         rw[e4]at e'
         refine hb Z _ σ' H1 R1 ρ1 o4 hP S1 e4 ?_
         cases o4 with
         |nx ρ5=>exact λσ5 H5 R5 S5 s5=>⟨R5,ρ5,S5,(s'.trans st1.r).trans s5,e'⟩
         |ct ρ5=>exact λσ5 H5 R5 S5 s5=>⟨R5,ρ5,S5,(s'.trans st1.r).trans s5,e'⟩
         | bk ρ5=>
           cases e'
           exact λσ5 H5 R5 S5 s5=>k σ5 H5 R5 S5 ((s2.trans s').trans (st1.r.trans s5))
         | rt d ρ5=>
           cases e'
           exact k
end
section
variable{c:MC}{O O':List Nat}{te ti:TE}{fe fi:RhD}{tr:TA}{fs:RhL}
def isL(ρ:Rho)(i:Nat):Bool:=match ρ[i]? with
 |some (some (.lst _))=>true
 |_=>false
theorem qi0{K:PySem.W.Frag}{R:Hp}{ρ:Rho}{i:Nat}{o:HO}{d:D}(h:isL ρ i=true)(e:ρ[i]? =some (some d))(b:Ob K R o d):∃vs ds,o=.lst vs/\d=.lst ds/\Rps K R vs ds:=by
 unfold isL at h
 rw[e]at h
 cases b with
 |lst r=>exact⟨_,_,rfl,rfl,r⟩
 |_=>cases h
def sMut(g:List D->List D->Option (List D))(i:Nat)(fs:RhL):RhO:=λρ=>if isL ρ i=true then(match fs ρ with
 |none=>none
 | some (as,ρ1)=>match ρ1[i]? with
   | some (some (.lst xs))=>match g xs as with
     |some ys=>some (.nx (ρ1.set i (some (.lst ys))))
     |none=>none
   |_=>none)else none
def qpo(K:PySem.W.Frag)(r:V->List V->Hp->VK->Prop)(g:List D->List D->Option (List D)):Prop:=∀(H R:Hp) (l:Addr) (xs:List V) (ds:List D) (vs:List V) (as bs:List D) (Q:VK),(∀a o,R a=some o->H a=some o)->H l=some (.lst xs)->R l=none->Rps K R xs ds->Rps K R vs as->g ds as=some bs->(∀ys,Rps K R ys bs->Q .non (upd H l (.lst ys)))->r (.ref l) vs H Q
theorem qa2{r:V->List V->Hp->VK->Prop}{g:List D->List D->Option (List D)}{i:Nat}(hm:qpo c.K r g)(hi:i∈O)(ha:MA c.K O tr fs)(hs:subO c O O'=true):MS c O O' (qbs (tBM c.K "list" r (tVar i) tr)) (sMut g i fs):=λZ E σ H R ρ o hP S e k=>by
 unfold sMut at e
 split at e
 case isFalse=>cases e
 rename_i hL
 cases e1:fs ρ with
 |none=>rw[e1]at e;cases e
 | some p=>
   obtain⟨as,ρ1⟩:=p
   rw[e1]at e
   dsimp only at e
   obtain⟨l,vs,ds,h1,h2,h3,h4,h5⟩:=S.own i hi
   obtain⟨us,_,rfl,rfl,_⟩:=qi0 hL h1 h5
   refine⟨.ref l,h2,.inl ⟨rfl,us,SqL.of h3⟩,ha Z σ H R ρ as ρ1 _ S e1 λws H1 R1 S1 st1 r1=>?_⟩
   obtain⟨l',vs',ds',g1,g2,g3,g4,g5⟩:=S1.own i hi
   rw[h2]at g2
   cases g2
   rw[g1]at e
   cases g5 with
   |dct _=>cases e
   |dit _=>cases e
   |lst g5=>
   rename_i vs' ds'
   dsimp only at e
   cases e2:g ds' as with
   |none=>rw[e2]at e;cases e
   | some ys=>
     rw[e2]at e
     cases e
     refine hm H1 R1 l vs' ds' ws as ys _ S1.sub g3 g4 g5 r1 e2 λzs rz=>?_
     obtain⟨S2,s2⟩:=(S1.write hi h2 (.lst rz)).sub' hP hs
     exact k σ _ _ S2 (st1.r.trans s2)
def q1u:List D->List D->Option (List D):=λxs as=>match as with
 |[d]=>if xs.length<sizeLine then some (xs++[d])else none
 |_=>none
theorem q3y{K:PySem.W.Frag}:qpo K q68 q1u:=λH R l xs ds vs as bs Q s h hr r ra e k=>by
 cases ra with
 |nil=>cases e
 | cons q t=>
   cases t with
   |cons _ _=>cases e
   | nil=>
     rename_i x d
     have e':(if ds.length<sizeLine then some (ds++[d])else none)=some bs:=e
     split at e'
     · rename_i hz
       cases e'
       exact⟨l,xs,x,rfl,rfl,h,by rw[r.length];exact hz,k _ (r.snoc q)⟩
     · cases e'
def qpq:List D->List D->Option (List D):=λxs as=>match as with
 |[.int 0,d]=>if xs.length<sizeLine then some (d::xs)else none
 |_=>none
def qcb(i:Nat)(fe fi:RhD):RhO:=λρ=>match fe ρ with
 |none=>none
 | some (d,ρ1)=>match fi ρ1 with
   | some (.int k,ρ2)=>match ρ2[i]? with
     | some (some (.lst xs))=>match ixN xs.length k with
       |some j=>some (.nx (ρ2.set i (some (.lst (xs.set j d)))))
       |none=>none
     |_=>none
   |_=>none
theorem qju{i:Nat}(hi:i∈O)(he:ME c.K O te fe)(hx:ME c.K O ti fi)(hs:subO c O O'=true):MS c O O' (tAsg te (gSub (tVar i) ti qml)) (qcb i fe fi):=λZ E σ H R ρ o hP S e k=>by
 unfold qcb at e
 cases e1:fe ρ with
 |none=>rw[e1]at e;cases e
 | some p=>
   obtain⟨d,ρ1⟩:=p
   rw[e1]at e
   dsimp only at e
   cases e2:fi ρ1 with
   |none=>rw[e2]at e;cases e
   | some p=>
     obtain⟨x,ρ2⟩:=p
     rw[e2]at e
     refine he Z σ H R ρ d ρ1 _ S e1 λv H1 R1 S1 st1 r1=>?_
     obtain⟨l,vs,ds,h1,h2,h3,h4,h5⟩:=S1.own i hi
     refine⟨.ref l,h2,hx Z σ H1 R1 ρ1 x ρ2 _ S1 e2 λw H2 R2 S2 st2 r2=>?_⟩
     obtain⟨l',vs',ds',g1,g2,g3,g4,g5⟩:=S2.own i hi
     rw[h2]at g2
     cases g2
     cases r2 with
     | int j=>
       dsimp only at e
       rw[g1]at e
       cases g5 with
       |dct _=>cases e
       |dit _=>cases e
       |lst g5=>
       rename_i vs' ds'
       dsimp only at e
       cases e3:ixN ds'.length j with
       |none=>rw[e3]at e;cases e
       | some m=>
         rw[e3]at e
         cases e
         refine⟨l,vs',j,m,rfl,rfl,g3,by rw[g5.length];exact e3,?_⟩
         obtain⟨S3,s3⟩:=(S2.write hi h2 (.lst (g5.set (r1.mono st2.r) m))).sub' hP hs
         exact k σ _ _ S3 ((st1.r.trans st2.r).trans s3)
     |_=>cases e
def sAug(g:Int->Int->Int)(i:Nat)(fe:RhD):RhO:=λρ=>match ρ[i]? with
 | some (some (.int x))=>match fe ρ with
   |some (.int y,ρ1)=>some (.nx (ρ1.set i (some (.int (g x y)))))
   |_=>none
 |_=>none
theorem qns{g:Int->Int->Int}{i:Nat}(hi:i∉O)(hi':i∉O')(he:ME c.K O te fe)(hs:subO c O O'=true):MS c O O' (tAug i te (ipI g)) (sAug g i fe):=λZ E σ H R ρ o hP S e k=>by
 unfold sAug at e
 cases e0:ρ[i]? with
 |none=>rw[e0]at e;cases e
 | some q=>
   rw[e0]at e
   cases q with
   |none=>cases e
   | some d=>
     obtain⟨v,h1,h2⟩:=S.env i d hi e0
     cases h2 with
     | int x=>
       dsimp only at e
       cases e1:fe ρ with
       |none=>rw[e1]at e;cases e
       | some p=>
         obtain⟨y,ρ1⟩:=p
         rw[e1]at e
         refine⟨.int x,h1,he Z σ H R ρ y ρ1 _ S e1 λw H1 R1 S1 st1 r1=>?_⟩
         cases r1 with
         | int j=>
           cases e
           obtain⟨S2,s2⟩:=S1.sub' hP hs
           exact⟨x,j,rfl,rfl,k _ H1 _ (S2.set hi' (.int _)) (st1.r.trans s2)⟩
         |_=>cases e
     |_=>cases e
end
def runP(fr:Bool)(n N:Nat)(f:RhO)(ds:List D):Option D:=if ds.length=n then match f (ds.map some++List.replicate (N-n) none)with
   |some (.rt d _)=>some d
   |some (.nx _)=>if fr=true then none else some .non
   |_=>none
 else none
def spP(K:PySem.W.Frag)(fr:Bool)(n:Nat)(f:List D->Option D):Sp:=λvs H Q _=>vs.length=n/\∃R ds d,(∀a o,R a=some o->H a=some o)/\Rps K R vs ds/\f ds=some d/\∀v H' R',Ext H R H' R'->Res K fr H v d H' R'->Q v H'
theorem q51{N:List Str}{vs:List V}{i:Nat}{v:V}(h:vs[i]? =some v):(start N vs)[i]? =some (some v):=by
 unfold start
 have hi:i<vs.length:=(List.getElem?_eq_some_iff.mp h).1
 rw[xx (by simpa using hi),jz,h]
 rfl
theorem q52{ds:List D}{m i:Nat}{d:D}(h:(ds.map some++List.replicate m none)[i]? =some (some d)):ds[i]? =some d:=by
 by_cases hi:i<ds.length
 · rw[xx (by simpa using hi),jz]at h
   cases q:ds[i]? with
   |none=>rw[q]at h;cases h
   |some e=>rw[q]at h;cases h;rfl
 · rw[xr (by simpa using hi),vg]at h
   split at h<;>cases h
theorem q0w{K:PySem.W.Frag}{fr:Bool}{n:Nat}{Nms:List Str}{O':List Nat}{t:TS}{f:RhO}{vs:List V}{H:Hp}{Q:VK}{E:XK}(hm:MS ⟨K,fr,[],[]⟩ [] O' t f)(h:spP K fr n (runP fr n Nms.length f) vs H Q E):t {nx:=λ_ H'=>Q .non H',rt:=Q} (start Nms vs) H:=by
 obtain⟨hn,R,ds,d,sub,r,e,k⟩:=h
 unfold runP at e
 split at e
 · rename_i hl
   have S:StR K ⟨H,R,λ_=>False,[]⟩ [] (start Nms vs) H R (ds.map some++List.replicate (Nms.length-n) none):=by
     refine⟨sub,?_,λi d _ q=>?_,λi hi=>absurd hi (by simp),λi j hi=>absurd hi (by simp),λa o q _=>q,Same.refl _,λa q=>.inl q,λa q=>.refl q,λi hi=>absurd hi (by simp),λi hi=>absurd hi (by simp)⟩
     · unfold start
       rw[jr,jr,ja,ja,kc,kc,hn,hl]
     · obtain⟨v,h1,h2⟩:=r.get (q52 q)
       exact⟨v,q51 h1,h2⟩
   have ext:∀{O1:List Nat} {σ':St} {H' R':Hp} {ρ':Rho},StR K ⟨H,R,λ_=>False,[]⟩ O1 σ' H' R' ρ'->Ext H R H' R':=λS'=>⟨λa o q=>S'.ah a o q (λz=>z),S'.ar,S'.sub,S'.an⟩
   cases e1:f (ds.map some++List.replicate (Nms.length-n) none)with
   |none=>rw[e1]at e;cases e
   | some o=>
     rw[e1]at e
     refine hm _ _ _ _ _ _ o rfl S e1 ?_
     cases o with
     | nx ρ'=>
       dsimp only at e
       split at e
       · cases e
       · rename_i hf
         cases e
         refine λσ' H' R' S' _=>k .non H' R' (ext S') ?_
         cases fr with
         |false=>exact .non
         |true=>exact absurd rfl hf
     |bk ρ'=>cases e
     |ct ρ'=>cases e
     | rt d' ρ'=>
       cases e
       exact λv σ' H' R' S' q=>k v H' R' (ext S') q
 · cases e
def runS(fr:Bool)(n N:Nat)(f:RhO)(xs ds:List D):Option (D×List D):=if ds.length+1=n then match f (some (.lst xs)::(ds.map some++List.replicate (N-n) none))with
   | some (.rt d ρ)=>(match (ρ[0]? :Option (Option D))with
     |some (some (D.lst ys))=>some (d,ys)
     |_=>none)
   | some (.nx ρ)=>if fr=true then none else(match (ρ[0]? :Option (Option D))with
     |some (some (D.lst ys))=>some (.non,ys)
     |_=>none)
   |_=>none
 else none
structure ExtS(l:Addr)(H R H' R':Hp):Prop where
 h:∀a o,a≠l->H a=some o->H' a=some o
 r:Same R R'
 s:∀a o,R' a=some o->H' a=some o
 n:∀a,R' a≠none->R a≠none∨Frh H a
 d:∀a,H a≠none->Liv H H' a
def spS(K:PySem.W.Frag)(fr:Bool)(n:Nat)(f:List D->List D->Option (D×List D)):Sp:=λvs H Q _=>vs.length=n/\∃l ws R us xs ds d ys,vs=.ref l::ws/\H l=some (.lst us)/\R l=none/\(∀a o,R a=some o->H a=some o)/\Rps K R us xs/\Rps K R ws ds/\f xs ds=some (d,ys)/\
 ∀v H' R' us',ExtS l H R H' R'->H' l=some (.lst us')->R' l=none->Rps K R' us' ys->Res K fr H v d H' R'->Q v H'
theorem q9g{K:PySem.W.Frag}{fr:Bool}{n:Nat}{Nms:List Str}{O':List Nat}{t:TS}{f:RhO}{vs:List V}{H:Hp}{Q:VK}{E:XK}(hm:MS ⟨K,fr,[0],[]⟩ [0] [0] t f)(h:spS K fr n (runS fr n Nms.length f) vs H Q E):t {nx:=λ_ H'=>Q .non H',rt:=Q} (start Nms vs) H:=by
 obtain⟨hn,l,ws,R,us,xs,ds,d,ys,rfl,hH,hR,sub,ru,r,e,k⟩:=h
 unfold runS at e
 split at e
 · rename_i hl
   have ln:ws.length+1=n:=by simpa using hn
   have S:StR K ⟨H,R,λa=>a=l,[0]⟩ [0] (start Nms (.ref l::ws)) H R (some (.lst xs)::(ds.map some++List.replicate (Nms.length-n) none)):=by
     have one:∀i,i∈[0]->i=0:=λi hi=>by simpa using hi
     refine⟨sub,?_,λi d hi q=>?_,λi hi=>?_,λi j hi hj z=>absurd ((one i hi).trans (one j hj).symm) z,λa o q _=>q,Same.refl _,λa q=>.inl q,λa q=>.refl q,λi hi z=>absurd hi z,λi hi _ a q=>?_⟩
     · unfold start
       simp only[List.map_cons,List.cons_append,List.length_cons,List.length_append,List.length_map,List.length_replicate]
       omega
     · cases i with
       |zero=>exact absurd (by simp) hi
       | succ i=>
         rw[List.getElem?_cons_succ]at q
         obtain⟨v,h1,h2⟩:=r.get (q52 q)
         exact⟨v,q51 (by rw[List.getElem?_cons_succ];exact h1),h2⟩
     · cases one i hi
       exact⟨l,.lst us,.lst xs,rfl,rfl,hH,hR,.lst ru⟩
     · cases one i hi
       have q':some (some (V.ref l))=some (some (V.ref a)):=q
       cases q'
       rfl
   have ext:∀{σ':St} {H' R':Hp} {ρ':Rho},StR K ⟨H,R,λa=>a=l,[0]⟩ [0] σ' H' R' ρ'->ExtS l H R H' R'/\∃us' zs,ρ'[0]? =some (some zs)/\H' l=some us'/\R' l=none/\Ob K R' us' zs:=λ{σ' H' R' ρ'} S'=>by
     refine⟨⟨λa o n q=>S'.ah a o q n,S'.ar,S'.sub,S'.an,S'.ad⟩,?_⟩
     obtain⟨l',us',zs,h1,h2,h3,h4,h5⟩:=S'.own 0 (by simp)
     have el:l'=l:=S'.ap 0 (by simp) (by simp) l' h2
     subst el
     exact⟨us',zs,h1,h3,h4,h5⟩
   cases e1:f (some (.lst xs)::(ds.map some++List.replicate (Nms.length-n) none))with
   |none=>rw[e1]at e;cases e
   | some o=>
     rw[e1]at e
     refine hm _ _ _ _ _ _ o rfl S e1 ?_
     cases o with
     | nx ρ'=>
       dsimp only at e
       split at e
       · cases e
       · rename_i hf
         refine λσ' H' R' S' _=>?_
         obtain⟨x,us',zs,q1,q2,q3,q4⟩:=ext S'
         rw[q1]at e
         cases q4 with
         |dct _=>cases e
         |dit _=>cases e
         |lst q4=>
         cases e
         refine k .non H' R' _ x q2 q3 q4 ?_
         cases fr with
         |false=>exact .non
         |true=>exact absurd rfl hf
     |bk ρ'=>cases e
     |ct ρ'=>cases e
     | rt d' ρ'=>
       dsimp only at e
       refine λv σ' H' R' S' q=>?_
       obtain⟨x,us',zs,q1,q2,q3,q4⟩:=ext S'
       rw[q1]at e
       cases q4 with
       |dct _=>cases e
       |dit _=>cases e
       |lst q4=>
       cases e
       exact k v H' R' _ x q2 q3 q4 q
 · cases e
section
variable{K:PySem.W.Frag}{O:List Nat}{tr:TA}{fs:RhL}{E:XK}{n:Nat}
def q0q(f:List D->Option D)(fs:RhL):RhD:=q11 fs λds=>q1p (f ds)
def q22(n:Nat)(f:List D->Option D):Prop:=∀ds d,f ds=some d->ds.length=n
theorem q1l{fr:Bool}{n N:Nat}{f:RhO}:q22 n (runP fr n N f):=λds d e=>by
 unfold runP at e
 split at e
 · assumption
 · cases e
theorem q1y{f:List D->Option D}(hf:q22 n f)(h:MA K O tr fs):ME K O (q79 (spP K false n f) [] E tr) (q0q f fs):=λZ σ H R ρ d ρ' Q S e k=>by
 obtain⟨ds,ρ1,e1,e⟩:=q02 e
 obtain⟨e2,rfl⟩:=q0b e
 refine h Z σ H R ρ ds _ _ S e1 λvs H1 R1 S1 st1 r1=>?_
 show spP K false n f (vs++[]) H1 Q E
 rw[List.append_nil]
 exact⟨by rw[r1.length];exact hf ds d e2,R1,ds,d,S1.sub,r1,e2,λv H2 R2 x q=>k v H2 R2 (S1.ext x) (st1.trans x.stp) q⟩
def qdl(o:Option D):Option (List D):=match o with
 |some (.lst ds)=>some ds
 |_=>none
def q20(f:List D->Option D)(fs:RhL):RhL:=q11 fs λds=>q1p (qdl (f ds))
theorem qb7{o:Option D}{ds:List D}(h:qdl o=some ds):o=some (.lst ds):=by
 unfold qdl at h
 split at h
 · cases h;rfl
 · (first|obtain rfl:=h.isA rfl|cases h)
theorem q2m{f:List D->Option D}(hf:q22 n f)(h:MA K O tr fs):MN K O (q79 (spP K true n f) [] E tr) (q20 f fs):=λZ σ H R ρ d ρ' Q S e k=>by
 obtain⟨ds,ρ1,e1,e⟩:=q02 e
 obtain⟨e2,rfl⟩:=q0b e
 have e3:=qb7 e2
 refine h Z σ H R ρ ds _ _ S e1 λvs H1 R1 S1 st1 r1=>?_
 show spP K true n f (vs++[]) H1 Q E
 rw[List.append_nil]
 refine⟨by rw[r1.length];exact hf ds _ e3,R1,ds,_,S1.sub,r1,e3,λv H2 R2 x q=>?_⟩
 obtain⟨l,us,gs,rfl,e4,h0,hH,hR,r⟩:=q
 cases e4
 exact k l us H2 R2 (S1.ext x) (st1.trans x.stp) (st1.new h0) hH hR r
def q14(f:List D->List D->Option (D×List D))(i:Nat)(fs:RhL):RhD:=q11 fs λds ρ=>match ρ[i]? with
 | some (some (.lst xs))=>match f xs ds with
   |some (d,ys)=>some (d,ρ.set i (some (.lst ys)))
   |none=>none
 |_=>none
def qff(n:Nat)(f:List D->List D->Option (D×List D)):Prop:=∀xs ds r,f xs ds=some r->ds.length+1=n
theorem qhb{fr:Bool}{n N:Nat}{f:RhO}:qff n (runS fr n N f):=λxs ds r e=>by
 unfold runS at e
 split at e
 · assumption
 · cases e
theorem q28{f:List D->List D->Option (D×List D)}{i:Nat}(hf:qff n f)(hi:i∈O)(h:MA K O tr fs):ME K O (q79 (spS K false n f) [] E (q2x (tVar i) tr)) (q14 f i fs):=λZ σ H R ρ d ρ' Q S e k=>by
 obtain⟨ds,ρ1,e1,e⟩:=q02 e
 obtain⟨l,vs0,ds0,h1,h2,h3,h4,h5⟩:=S.own i hi
 refine⟨.ref l,h2,h Z σ H R ρ ds ρ1 _ S e1 λvs H1 R1 S1 st1 r1=>?_⟩
 obtain⟨l',us,xs,g1,g2,g3,g4,g5⟩:=S1.own i hi
 rw[h2]at g2
 cases g2
 rw[g1]at e
 cases g5 with
 |dct _=>cases e
 |dit _=>cases e
 |lst g5=>
 rename_i us xs
 dsimp only at e
 cases e2:f xs ds with
 |none=>rw[e2]at e;cases e
 | some p=>
   obtain⟨d',ys⟩:=p
   rw[e2]at e
   cases e
   show spS K false n f (.ref l::vs++[]) H1 Q E
   rw[List.append_nil]
   refine⟨by rw[jo,r1.length];exact hf _ _ _ e2,l,vs,R1,us,xs,ds,d,ys,rfl,g3,g4,S1.sub,g5,r1,e2,λv H2 R2 us' x hH hR ru q=>?_⟩
   have z9:i<ρ1.length:=(List.getElem?_eq_some_iff.mp g1).1
   have st2:Stp O σ H1 R1 H2 R2:=⟨x.r,λa o e n=>x.h a o (λz=>by subst z;exact n i hi h2) e,x.n,x.d⟩
   have other:∀j,j∈O->i≠j->∀m,σ[j]? =some (some (.ref m))->m≠l:=λj hj n m e z=>by
     subst z
     exact S1.dis i j hi hj n m h2 e
   refine k v H2 R2 ⟨x.s,by rw[xg];exact S1.len,λj e hj q=>?_,λj hj=>?_,S1.dis,λa o e n=>?_,S1.ar.trans x.r,λa h=>?_,λa h=>(S1.ad a h).trans (x.d a (S1.ad a h).1),S1.ao,S1.ap⟩ (st1.trans st2) q
   · have n:i≠j:=λz=>hj (z▸hi)
     rw[jm n]at q
     obtain⟨w,q1,q2⟩:=S1.env j e hj q
     exact⟨w,q1,q2.mono x.r⟩
   · by_cases n:i=j
     · subst n
       exact⟨l,.lst us',.lst ys,by rw[x6 z9],h2,hH,hR,.lst ru⟩
     · obtain⟨m,vs',ds',q1,q2,q3,q4,q5⟩:=S1.own j hj
       refine⟨m,vs',ds',by rw[jm n];exact q1,q2,x.h _ _ (other j hj n m q2) q3,?_,q5.mono x.r⟩
       cases z:R2 m with
       |none=>rfl
       | some o=>
         rcases x.n m (by rw[z];exact λy=>nomatch y)with y|y
         · exact absurd q4 y
         · exact(q5.noF q3 y).elim
   · have ne:a≠l:=λz=>by
       subst z
       by_cases hp:i∈Z.P
       · exact n (S1.ap i hi hp a h2)
       · rw[S1.ao i hi hp a h2]at e;cases e
     exact x.h a o ne (S1.ah a o e n)
   · rcases x.n a h with z|z
     · exact S1.an a z
     · exact .inr (z.back (S1.ad a))
end
def qmq(K:PySem.W.Frag):R2:=λx y H Q=>∃l b xs zs,x=.ref l/\y=.ref b/\SqL K H l xs/\SqL K H b zs/\xs.length+zs.length<=sizeLine/\∀p,H p=none->Q (.ref p) (upd H p (.lst (xs++zs)))
def qmp(K:PySem.W.Frag):R2:=λx y H Q=>∃a b xs ys,x=.ref a/\y=.ref b/\SqT K H a xs/\SqT K H b ys/\xs.length+ys.length<=sizeLine/\
 (xs=[]->Q (.ref b) H)/\(xs≠[]->ys=[]->Q (.ref a) H)/\(xs≠[]->ys≠[]->∀p,H p=none->Q (.ref p) (upd H p (.tup (xs++ys))))
section
variable{X:Cx}{K:PySem.W.Frag}
theorem qjn(hK:X.K=K):OpR X (binaryOp .Add) (qmq K):=by
 subst hK
 intro z4 s σ H x y v u Q I rx ry h
 obtain⟨l,b,xs,zs,rfl,rfl,hH,hB,hz,q⟩:=h
 (first|obtain rfl:=rx.isA rfl|cases rx)
 (first|obtain rfl:=ry.isA rfl|cases ry)
 obtain⟨its,r,pl,z⟩:=I.list hH
 obtain⟨its2,r2,pl2,z2⟩:=I.list hB
 obtain⟨⟨cls,dd,data,sl⟩,ho,hc,n,hd⟩:=pl.isList
 obtain⟨⟨cls2,dd2,data2,sl2⟩,ho2,hc2,n2,hd2⟩:=pl2.isList
 simp only at hc hd hc2 hd2
 subst hc hd hc2 hd2
 have e:its.toArray++its2.toArray=(its++its2).toArray:=by simp
 refine concat_meets ⟨_,ho,rfl⟩ ⟨_,ho2,rfl⟩ noFill_list_add seq_list_add PySem.F.slot_list_add PySem.F.entry_list_add (PySem.F.args_list_add_2 _ _) (list_addW l b its.toArray its2.toArray n n2 dd dd2 sl sl2 (by rw[jw,jw,<-r.length,<-r2.length];exact hz)) ⟨ho,ho2,?_⟩
 rw[e]
 exact⟨.ref _,_,I.lnew (t':=s.toks) (r.append r2) (by rw[jr];omega),rfl,q _ I.fresh⟩
theorem qjm(hK:X.K=K):OpR X (binaryOp .Add) (qmp K):=by
 subst hK
 intro z4 s σ H x y v u Q I rx ry h
 obtain⟨a,b,xs,ys,rfl,rfl,ha,hb,hz,q0,q1,q2⟩:=h
 (first|obtain rfl:=rx.isA rfl|cases rx)
 (first|obtain rfl:=ry.isA rfl|cases ry)
 obtain⟨its,r1,p1,_⟩:=I.tuple ha
 obtain⟨its2,r2,p2,_⟩:=I.tuple hb
 obtain⟨⟨cls,dd,data,sl⟩,ho,hc,n,hd⟩:=id p1
 obtain⟨⟨cls2,dd2,data2,sl2⟩,ho2,hc2,n2,hd2⟩:=id p2
 simp only at hc hd hc2 hd2
 subst hc hd hc2 hd2
 have e:its.toArray++its2.toArray=(its++its2).toArray:=by simp
 by_cases hv:its=[]
 · exact concat_meets ⟨_,ho,rfl⟩ ⟨_,ho2,rfl⟩ noFill_tuple_add seq_tuple_add PySem.F.slot_tuple_add PySem.F.entry_tuple_add (PySem.F.args_tuple_add_2 _ _)
     (tuple_addW0 a b its.toArray its2.toArray n n2 dd dd2 sl sl2 (by simp[hv])) ⟨ho,ho2,⟨.ref b,H,I,rfl,q0 (r1.nil_iff.mp hv)⟩⟩
 · have hx:xs≠[]:=λz=>hv (r1.nil_iff.mpr z)
   by_cases hw:its2=[]
   · exact concat_meets ⟨_,ho,rfl⟩ ⟨_,ho2,rfl⟩ noFill_tuple_add seq_tuple_add PySem.F.slot_tuple_add PySem.F.entry_tuple_add (PySem.F.args_tuple_add_2 _ _)
       (tuple_addW1 a b its.toArray its2.toArray n n2 dd dd2 sl sl2 (by simpa using hv) (by simp[hw])) ⟨ho,ho2,⟨.ref a,H,I,rfl,q1 hx (r2.nil_iff.mp hw)⟩⟩
   · refine concat_meets ⟨_,ho,rfl⟩ ⟨_,ho2,rfl⟩ noFill_tuple_add seq_tuple_add PySem.F.slot_tuple_add PySem.F.entry_tuple_add (PySem.F.args_tuple_add_2 _ _)
       (tuple_addW2 a b its.toArray its2.toArray n n2 dd dd2 sl sl2 (by simpa using hv) (by simpa using hw) (by rw[List.size_toArray,List.size_toArray,<-r1.length,<-r2.length];exact hz)) ⟨ho,ho2,?_⟩
     rw[e]
     refine⟨.ref s.heap.objs.size,_,I.laid (t':=s.toks) (o:=.tup (xs++ys)) (λb ob q=>je _ q) (jc _) ?_,rfl,q2 hx (λw=>hw (r2.nil_iff.mpr w)) _ (I.hok.fresh (jc _))⟩
     exact⟨by rw[jr];exact hz,_,r1.append r2,TupN.new _ _⟩
def qmr(K:PySem.W.Frag):R2:=λx y H Q=>rI0 (λi j=>.int (i+j)) x y H Q∨qmq K x y H Q∨qmp K x y H Q∨∃i j,x=.str i/\y=.str j/\i.length+j.length<=sizeLine/\Q (.str (i++j)) H
theorem q2i(hK:X.K=K):OpR X (binaryOp .Add) (qmr K):=op_add.or ((qjn hK).or ((qjm hK).or qb2))
end
section
variable{K:PySem.W.Frag}{O:List Nat}
def dAdd:D->D->Option D
 |.int i,.int j=>some (.int (i+j))
 |.lst xs,.lst ys=>if xs.length+ys.length<=sizeLine then some (.lst (xs++ys))else none
 |.tup xs,.tup ys=>if xs.length+ys.length<=sizeLine then some (.tup (xs++ys))else none
 |.str x,.str y=>if x.length+y.length<=sizeLine then some (.str (x++y))else none
 |_,_=>none
theorem q5w:OpG K (qmr K) dAdd:=λH R x y d e u Q s rx ry q k=>by
 unfold dAdd at q
 split at q
 · rename_i i j
   (first|obtain rfl:=q.isA rfl|cases q)
   (first|obtain rfl:=rx.isA rfl|cases rx)
   (first|obtain rfl:=ry.isA rfl|cases ry)
   exact .inl ⟨i,j,rfl,rfl,k _ H R (Ext.refl s) (.int _)⟩
 · split at q
   · rename_i hz
     (first|obtain rfl:=q.isA rfl|cases q)
     obtain⟨a1,xs,rfl,h,r⟩:=rx.isL
     obtain⟨a2,ys,rfl,h2,r2⟩:=ry.isL
     refine .inr (.inl ⟨_,_,_,_,rfl,rfl,Same.sqL s h,Same.sqL s h2,by rw[r.length,r2.length];exact hz,λp np=>?_⟩)
     have x:=Ext.new (o:=.lst (xs++ys)) s np
     exact k _ _ _ x (.lst (SqL.of q0h) ((r.append r2).mono x.r))
   · (first|obtain rfl:=q.isA rfl|cases q)
 · split at q
   · rename_i hz
     (first|obtain rfl:=q.isA rfl|cases q)
     obtain⟨a1,xs,rfl,h,r⟩:=rx.isT
     obtain⟨a2,ys,rfl,h2,r2⟩:=ry.isT
     refine .inr (.inr (.inl ⟨_,_,_,_,rfl,rfl,SqT.of (s _ _ h),SqT.of (s _ _ h2),by rw[r.length,r2.length];exact hz,λz=>?_,λ_ z=>?_,λ_ _ p np=>?_⟩))
     · subst z
       (first|obtain rfl:=r.isA rfl|cases r)
       exact k _ H R (Ext.refl s) (.tup h2 r2)
     · subst z
       (first|obtain rfl:=r2.isA rfl|cases r2)
       rw[List.append_nil]at k
       exact k _ H R (Ext.refl s) (.tup h r)
     · have x:=Ext.new (o:=.tup (xs++ys)) s np
       exact k _ _ _ x (.tup q0h ((r.append r2).mono x.r))
   · (first|obtain rfl:=q.isA rfl|cases q)
 · rename_i i j
   split at q
   · rename_i hz
     (first|obtain rfl:=q.isA rfl|cases q)
     (first|obtain rfl:=rx.isA rfl|cases rx)
     (first|obtain rfl:=ry.isA rfl|cases ry)
     exact .inr (.inr (.inr ⟨i,j,rfl,rfl,hz,k _ H R (Ext.refl s) (.str _)⟩))
   · (first|obtain rfl:=q.isA rfl|cases q)
 · (first|obtain rfl:=q.isA rfl|cases q)
end
mutual
def D.toP:D->Option PyData
 |.non=>some .none
 |.bl b=>some (.bool b)
 |.int i=>some (.int i)
 |.str x=>some (.str x)
 |.lst xs=>(D.toPs xs).map PyData.list
 |.tup xs=>(D.toPs xs).map PyData.tuple
 |.obj _ _=>none
 |.dct _=>none
 |.exc _=>none
 |.fn _=>none
 |.tab _ _ _=>none
 |.dit _=>none
def D.toPs:List D->Option (List PyData)
 |[]=>some []
 | d::r=>match D.toP d,D.toPs r with
   |some p,some ps=>some (p::ps)
   |_,_=>none
end
section
variable{K:PySem.W.Frag}{O:List Nat}{R:Hp}
theorem qpa(p:PyData)(e:D.toP .non=some p):DV K R .non p:=by simp only[D.toP]at e;cases e;exact .non
theorem qqr(b:Bool)(p:PyData)(e:D.toP (.bl b)=some p):DV K R (.bl b) p:=by simp only[D.toP]at e;cases e;exact .bl b
theorem qpc(b:Int)(p:PyData)(e:D.toP (.int b)=some p):DV K R (.int b) p:=by simp only[D.toP]at e;cases e;exact .int b
theorem qp9(b:Str)(p:PyData)(e:D.toP (.str b)=some p):DV K R (.str b) p:=by simp only[D.toP]at e;cases e;exact .str b
theorem qpb{a:Addr}{xs:List V}{ds:List D}{p:PyData}(h:SqL K R a xs)(r:∀ps,D.toPs ds=some ps->DVs K R xs ps)(e:D.toP (.lst ds)=some p):DV K R (.ref a) p:=by
 simp only[D.toP]at e
 cases z:D.toPs ds with
 |none=>rw[z]at e;cases e
 |some ps=>rw[z]at e;cases e;exact .lst h (r _ z)
theorem qp8{a:Addr}{xs:List V}{ds:List D}{p:PyData}(h:R a=some (.tup xs))(r:∀ps,D.toPs ds=some ps->DVs K R xs ps)(e:D.toP (.tup ds)=some p):DV K R (.ref a) p:=by
 simp only[D.toP]at e
 cases z:D.toPs ds with
 |none=>rw[z]at e;cases e
 |some ps=>rw[z]at e;cases e;exact .tup (SqT.of h) (r _ z)
theorem ql9(ps:List PyData)(e:D.toPs []=some ps):DVs K R [] ps:=by simp only[D.toPs]at e;cases e;exact .nil
theorem qgq{x:V}{xs:List V}{d:D}{ds:List D}{ps:List PyData}(h:∀p,d.toP=some p->DV K R x p)(r:∀ps,D.toPs ds=some ps->DVs K R xs ps)(e:D.toPs (d::ds)=some ps):DVs K R (x::xs) ps:=by
 simp only[D.toPs]at e
 cases z:d.toP with
 |none=>rw[z]at e;cases e
 | some p=>
   cases w:D.toPs ds with
   |none=>rw[z,w]at e;cases e
   |some qs=>rw[z,w]at e;cases e;exact .cons (h _ z) (r _ w)
theorem Rp.dv{v:V}{d:D}{p:PyData}(h:Rp K R v d)(e:d.toP=some p):DV K R v p:=
 Rp.rec (motive_1:=λv d _=>∀p,d.toP=some p->DV K R v p) (motive_2:=λxs ds _=>∀ps,D.toPs ds=some ps->DVs K R xs ps) (motive_3:=λ_ _ _=>True) (motive_4:=λ_ _ _=>True) (motive_5:=λ_ _ _=>True)
   qpa qqr qpc qp9 (λh _ r _=>qpb h r) (λh _ r _=>qp8 h r) (λ_ _ _ _ _ e=>by simp only[D.toP]at e;cases e) (λ_ _ _ _ e=>by simp only[D.toP]at e;cases e) (λ_ _ _ _ e=>by simp only[D.toP]at e;cases e) (λ_ _ _ _ e=>by simp only[D.toP]at e;cases e) (λ_ _ e=>by simp only[D.toP]at e;cases e) (λ_ _ e=>by simp only[D.toP]at e;cases e)
   ql9 (λ_ _ h r _=>qgq h r) trivial (λ_ _ _ _=>trivial) trivial (λ_ _ _ _=>trivial) trivial (λ_ _ _ _=>trivial) h _ e
def eqD(d e:D):Option Bool:=match d.toP,e.toP with
 |some p,some q=>if SeqAt.shaped p=true/\SeqAt.shaped q=true then some (PyData.eqv p q)else none
 |_,_=>none
def dEq(d e:D):Option D:=(eqD d e).map .bl
def dNe(d e:D):Option D:=(eqD d e).map λb=>.bl (!b)
theorem qak{d e:D}{b:Bool}(h:eqD d e=some b):∃p q,d.toP=some p/\e.toP=some q/\SeqAt.shaped p=true/\SeqAt.shaped q=true/\PyData.eqv p q=b:=by
 unfold eqD at h
 cases h1:d.toP with
 |none=>rw[h1]at h;cases h
 | some p=>
   cases h2:e.toP with
   |none=>rw[h1,h2]at h;cases h
   | some q=>
     rw[h1,h2]at h
     dsimp only at h
     split at h
     · rename_i z
       exact⟨p,q,rfl,rfl,z.1,z.2,jh h⟩
     · (first|obtain rfl:=h.isA rfl|cases h)
theorem os_eq:OpS K (rEqD K) dEq:=λH x y d e u Q rx ry q k=>by
 unfold dEq at q
 cases h:eqD d e with
 |none=>rw[h]at q;cases q
 | some b=>
   rw[h]at q
   (first|obtain rfl:=q.isA rfl|cases q)
   obtain⟨p,r,h1,h2,h3,h4,h5⟩:=qak h
   refine⟨p,r,rx.dv h1,ry.dv h2,h3,h4,?_⟩
   rw[h5]
   exact k _ (.bl _)
theorem qft:OpS K (rNeD K) dNe:=λH x y d e u Q rx ry q k=>by
 unfold dNe at q
 cases h:eqD d e with
 |none=>rw[h]at q;cases q
 | some b=>
   rw[h]at q
   (first|obtain rfl:=q.isA rfl|cases q)
   obtain⟨p,r,h1,h2,h3,h4,h5⟩:=qak h
   refine⟨p,r,rx.dv h1,ry.dv h2,h3,h4,?_⟩
   rw[h5]
   exact k _ (.bl _)
def dIsN(d e:D):Option D:=match e with
 |.non=>some (.bl (match d with|.non=>true|_=>false))
 |_=>none
def q4e(d e:D):Option D:=match e with
 |.non=>some (.bl (match d with|.non=>false|_=>true))
 |_=>none
theorem qjj:OpS K (λx y H Q=>y=.non/\Q (.bl (!decide (x=.non))) H) q4e:=λH x y d e u Q rx ry q k=>by
 (first|split at q|(unfold q4e at q;split at q))
 · obtain rfl:=ry.isA rfl
   refine⟨rfl,?_⟩
   cases rx<;>(cases q;exact k _ (.bl _))
 · cases q
end
section
variable{K:PySem.W.Frag}{O:List Nat}{t ta tb tc:TE}{tr:TA}{fa fb fc:RhD}{fs:RhL}
def qpp(K:PySem.W.Frag)(r:List V->Hp->VK->Prop)(g:D->Option D):Prop:=∀(H R:Hp) (x:V) (d u:D) (Q:VK),(∀a o,R a=some o->H a=some o)->Rp K R x d->g d=some u->(∀v H' R',Ext H R H' R'->Rp K R' v u->Q v H')->r [x] H Q
theorem q3c{r:List V->Hp->VK->Prop}{g:D->Option D}(h:qpp K r g)(ha:ME K O t fa):ME K O (tCB r (q2x t tNil)) (mOp1 g fa):=λZ σ H R ρ d ρ' Q S e k=>by
 obtain⟨x,ρ1,e1,e⟩:=q02 e
 obtain⟨e2,rfl⟩:=q0b e
 refine ha Z σ H R ρ x _ _ S e1 λv H1 R1 S1 st1 r1=>?_
 exact h H1 R1 v x d Q S1.sub r1 e2 λw H2 R2 x2 r2=>k w H2 R2 (S1.ext x2) (st1.trans x2.stp) r2
def q90(g:D->Option (List D))(f:RhD):RhL:=q11 f λx=>q1p (g x)
def dSeq:D->Option (List D)
 |.lst xs=>some xs
 |.tup xs=>some xs
 |_=>none
def q2d:D->Option D
 |.lst xs=>some (.tup xs)
 |.tup xs=>some (.tup xs)
 |_=>none
theorem q3d:qpp K (λxs H Q=>∃p ys,xs=[.ref p]/\((SqL K H p ys/\∀l,H l=none->Q (.ref l) (upd H l (.tup ys)))∨(SqT K H p ys/\Q (.ref p) H))) q2d:=λH R x d u Q s r e k=>by
 cases r with
 | lst h q=>
   cases e
   refine⟨_,_,rfl,.inl ⟨Same.sqL s h,λl hl=>?_⟩⟩
   rename_i a xs ds
   have y:=Ext.new (o:=.tup xs) s hl
   exact k _ _ _ y (.tup q0h (q.mono y.r))
 |tup h q=>cases e;exact⟨_,_,rfl,.inr ⟨SqT.of (s _ _ h),k _ H R (Ext.refl s) (.tup h q)⟩⟩
 |_=>cases e
def MO(K:PySem.W.Frag)(O:List Nat)(t:TO)(f:Rho->Option (Option Int×Rho)):Prop:=∀(Z:Anc) (σ:St) (H R:Hp) (ρ:Rho) (o:Option Int) (ρ':Rho) (Q:Option Int->Hp->Prop),StR K Z O σ H R ρ->f ρ=some (o,ρ')->(∀H' R',StR K Z O σ H' R' ρ'->Stp O σ H R H' R'->Q o H')->t σ H Q
theorem qdh:MO K O qbq (mRet none):=λZ σ H R ρ o ρ' Q S e k=>by
 cases e
 exact k H R S (Stp.refl _ _ _ _)
def q6o(f:RhD):Rho->Option (Option Int×Rho):=q11 f λd=>q1p (match d with
 |.int i=>some (some i)
 |_=>none)
theorem qdg(h:ME K O t fa):MO K O (qm3 t) (q6o fa):=λZ σ H R ρ o ρ' Q S e k=>by
 obtain⟨x,ρ1,e1,e⟩:=q02 e
 obtain⟨e2,rfl⟩:=q0b e
 refine h Z σ H R ρ x _ _ S e1 λv H1 R1 S1 st1 r1=>?_
 (first|split at e2)
 · rename_i i
   obtain rfl:=r1.isA rfl
   cases e2
   exact⟨i,rfl,k H1 R1 S1 st1⟩
 · cases e2
def cutD(xs:List D)(lo hi:Option Int):List D:=(xs.drop (HT.sIx xs.length 0 lo)).take (HT.sIx xs.length xs.length hi-HT.sIx xs.length 0 lo)
theorem Rps.cut{R:Hp}{xs:List V}{ds:List D}(r:Rps K R xs ds)(lo hi:Option Int):Rps K R (cutV xs lo hi) (cutD ds lo hi):=by
 unfold cutV cutD
 rw[r.length]
 exact(r.drop _).take _
def rSlG(K:PySem.W.Frag):V->Option Int->Option Int->Hp->VK->Prop:=λx lo hi H Q=>rSlL K x lo hi H Q∨rSlT K x lo hi H Q
theorem qbx{X:Cx}(h:X.K=K):SlR X (rSlG K):=by
 subst h
 exact sl_list.or qm6
def dSl(d:D)(lo hi:Option Int):Option D:=match d with
 |.lst xs=>some (.lst (cutD xs lo hi))
 |.tup xs=>if HT.sIx xs.length 0 lo=0/\HT.sIx xs.length xs.length hi=xs.length then none else some (.tup (cutD xs lo hi))
 |_=>none
def mSl(f:RhD)(fl fh:Rho->Option (Option Int×Rho)):RhD:=q11 f λd=>q11 fl λlo=>q11 fh λhi=>q1p (dSl d lo hi)
theorem qfy{tl th:TO}{fl fh:Rho->Option (Option Int×Rho)}(h:ME K O t fa)(hl:MO K O tl fl)(hh:MO K O th fh):ME K O (tSl (rSlG K) t tl th) (mSl fa fl fh):=λZ σ H R ρ d ρ' Q S e k=>by
 obtain⟨x,ρ1,e1,e⟩:=q02 e
 obtain⟨lo,ρ2,e2,e⟩:=q02 e
 obtain⟨hi,ρ3,e3,e⟩:=q02 e
 obtain⟨e4,rfl⟩:=q0b e
 refine h Z σ H R ρ x _ _ S e1 λv H1 R1 S1 st1 r1=>hl Z σ H1 R1 ρ1 lo _ _ S1 e2 λH2 R2 S2 st2=>hh Z σ H2 R2 ρ2 hi _ _ S2 e3 λH3 R3 S3 st3=>?_
 have r3:=(r1.mono st2.r).mono st3.r
 have st:=(st1.trans st2).trans st3
 cases r3 with
 | @lst a xs ds q r=>
   cases e4
   refine .inl ⟨a,xs,rfl,Same.sqL S3.same q,λp np=>?_⟩
   have y:=Ext.new (o:=.lst (cutV xs lo hi)) S3.sub np
   exact k _ _ _ (S3.ext y) (st.trans y.stp) (.lst (SqL.of q0h) ((r.cut lo hi).mono y.r))
 | @tup a xs ds q r=>
   have e5:(if HT.sIx ds.length 0 lo=0/\HT.sIx ds.length ds.length hi=ds.length then none else some (D.tup (cutD ds lo hi)))=some d:=e4
   split at e5
   · cases e5
   · rename_i hn
     cases e5
     refine .inr ⟨a,xs,rfl,SqT.of (S3.same _ _ q),by rw[r.length];exact hn,λp np=>?_⟩
     have y:=Ext.new (o:=.tup (cutV xs lo hi)) S3.sub np
     exact k _ _ _ (S3.ext y) (st.trans y.stp) (.tup q0h ((r.cut lo hi).mono y.r))
 |_=>cases e4
def mSlL(f:RhD)(fl fh:Rho->Option (Option Int×Rho)):RhL:=q11 f λd=>q11 fl λlo=>q11 fh λhi=>q1p (match d with
 |.lst xs=>some (cutD xs lo hi)
 |_=>none)
theorem qfw{tl th:TO}{fl fh:Rho->Option (Option Int×Rho)}(h:ME K O t fa)(hl:MO K O tl fl)(hh:MO K O th fh):MN K O (tSl (rSlG K) t tl th) (mSlL fa fl fh):=λZ σ H R ρ d ρ' Q S e k=>by
 obtain⟨x,ρ1,e1,e⟩:=q02 e
 obtain⟨lo,ρ2,e2,e⟩:=q02 e
 obtain⟨hi,ρ3,e3,e⟩:=q02 e
 obtain⟨e4,rfl⟩:=q0b e
 refine h Z σ H R ρ x _ _ S e1 λv H1 R1 S1 st1 r1=>hl Z σ H1 R1 ρ1 lo _ _ S1 e2 λH2 R2 S2 st2=>hh Z σ H2 R2 ρ2 hi _ _ S2 e3 λH3 R3 S3 st3=>?_
 have r3:=(r1.mono st2.r).mono st3.r
 have st:=(st1.trans st2).trans st3
 (first|split at e4)
 · rename_i ds
   obtain⟨a,xs,rfl,q,r⟩:=r3.isL
   cases e4
   refine .inl ⟨a,xs,rfl,Same.sqL S3.same q,λp np=>?_⟩
   have y:=Ext.hid (o:=.lst (cutV xs lo hi)) S3.sub np
   exact k p _ _ _ (S3.ext y) (st.trans y.stp) (st.new np) q0h (S3.out np) (r.cut lo hi)
 · cases e4
theorem qfu{g:Int->Int->Bool}:OpS K (rI0 λi j=>.bl (g i j)) (dB0 g):=λH x y d e u Q rx ry q k=>by
 unfold dB0 at q
 split at q
 · rename_i i j
   (first|obtain rfl:=q.isA rfl|cases q)
   (first|obtain rfl:=rx.isA rfl|cases rx)
   (first|obtain rfl:=ry.isA rfl|cases ry)
   exact⟨i,j,rfl,rfl,k _ (.bl _)⟩
 · (first|obtain rfl:=q.isA rfl|cases q)
def qqi(f:RhL):RhD:=q11 f λds=>q1p (match ds with
 |[.int i,.int j]=>if 0<j/\j<1073741824 then some (.tup [.int (i / j),.int (i % j)])else none
 |_=>none)
def qon(K:PySem.W.Frag)(ta:TA):TI:=λσ H R=>(iZip K true true ta σ H R∨iZip K true false ta σ H R)∨(iZip K false true ta σ H R∨iZip K false false ta σ H R)
theorem qcr{X:Cx}{a b:Expr}{ta:TA}{p pos:Pos}{zo:List Expr}{x1:Nat}{tp:Pos}(hK:X.K=K)(hg:Gl X "zip")(hm:X.mg "zip"=none)(ha:PA X [a,b] ta)(he:starEach [a,b] X.env=(false,eval a X.env)::starEach [b] X.env:=by rfl)(hpl:(backTo pos (starEach [b] X.env)).any (·.1)=false:=by rfl):
   PI X (.Tuple zo x1 tp) (.Call (.Name "zip" p) [a,b] [] pos) (qon K ta):=λz4 s σ H R I q=>by
 rcases q with(q|q)|(q|q)
 · exact q9p true true hK hg hm ha he hpl z4 s σ H R I q
 · exact q9p true false hK hg hm ha he hpl z4 s σ H R I q
 · exact q9p false true hK hg hm ha he hpl z4 s σ H R I q
 · exact q9p false false hK hg hm ha he hpl z4 s σ H R I q
def zipD(xs ys:List D):List D:=List.zipWith (λx y=>D.tup [x,y]) xs ys
def mZip(f:RhL):RhL:=q11 f λds=>q1p (match ds with
 | [x,y]=>match dSeq x,dSeq y with
   |some xs,some ys=>some (zipD xs ys)
   |_,_=>none
 |_=>none)
theorem SqB.inj_same{K:PySem.W.Frag}{b:Bool}{R H:Hp}{p:Addr}{xs:List V}(s:Same R H)(h:SqB K b R p xs):SqB K b H p xs:=by
 cases b
 · exact Same.tup s h
 · exact Same.sqL s h
theorem qoj{R:Hp}{b1 b2:Bool}{p1 p2:Addr}{xs ys:List V}{ds es:List D}(h1:SqB K b1 R p1 xs)(h2:SqB K b2 R p2 ys)(r1:Rps K R xs ds)(r2:Rps K R ys es):ItOk K (Itz K b1 b2 p1 p2) R (zipD ds es):=λH' R' s b i=>by
 have q1:=(SqB.inj_same s h1)
 have q2:=(SqB.inj_same s h2)
 have g1:=(SqB.inj_same b q1)
 have g2:=(SqB.inj_same b q2)
 have len:(zipD ds es).length=min ds.length es.length:=by simp[zipD]
 have l1:=r1.length
 have l2:=r2.length
 refine⟨λe=>⟨xs,ys,g1,g2,by omega⟩,λd e=>?_⟩
 unfold zipD at e
 rw[List.getElem?_zipWith]at e
 cases e1:ds[i]? with
 |none=>rw[e1]at e;cases e
 | some d1=>
   cases e2:es[i]? with
   |none=>rw[e1,e2]at e;cases e
   | some d2=>
     rw[e1,e2]at e
     cases e
     obtain⟨v1,a1,a2⟩:=r1.get e1
     obtain⟨v2,c1,c2⟩:=r2.get e2
     refine⟨⟨xs,ys,v1,v2,g1,g2,a1,c1⟩,λx H'' y=>?_⟩
     obtain⟨T,x1,y1,rfl,hT,rfl,z1,z2⟩:=y
     have w1:=z1 xs g1
     have w2:=z2 ys g2
     rw[a1]at w1
     rw[c1]at w2
     cases w1
     cases w2
     have y:=Ext.new (o:=.tup [v1,v2]) b hT
     exact⟨_,y,.tup q0h (.cons ((a2.mono s).mono y.r) (.cons ((c2.mono s).mono y.r) .nil))⟩
theorem q8e{x:D}{ds:List D}(h:dSeq x=some ds):x=.lst ds∨x=.tup ds:=by
 unfold dSeq at h
 split at h
 · cases h;exact .inl rfl
 · cases h;exact .inr rfl
 · (first|obtain rfl:=h.isA rfl|cases h)
theorem qht(h:MA K O tr fs):MI K O (qon K tr) (mZip fs):=λZ σ H R ρ ds ρ' Q S e k=>by
 obtain⟨xs,ρ1,e1,e⟩:=q02 e
 obtain⟨e2,rfl⟩:=q0b e
 have go:∀(b1 b2:Bool) (x y:D) (as bs:List D),xs=[x,y]->ds=zipD as bs->(∀(R1:Hp) (v:V),Rp K R1 v x->∃p vs,v=.ref p/\SqB K b1 R1 p vs/\Rps K R1 vs as)->(∀(R1:Hp) (v:V),Rp K R1 v y->∃p vs,v=.ref p/\SqB K b2 R1 p vs/\Rps K R1 vs bs)->iZip K b1 b2 tr σ H Q:=λb1 b2 x y as bs hx hd g1 g2=>by
   subst hx hd
   refine h Z σ H R ρ _ _ _ S e1 λvs H1 R1 S1 st1 r1=>?_
   obtain⟨_,_,rfl,q,r⟩:=r1.isC
   obtain⟨_,_,rfl,q',r⟩:=r.isC
   (first|obtain rfl:=r.isA rfl|cases r)
   obtain⟨p1,us,rfl,s1,t1⟩:=g1 _ _ q
   obtain⟨p2,ws,rfl,s2,t2⟩:=g2 _ _ q'
   exact⟨p1,p2,rfl,⟨us,SqB.inj_same S1.same s1⟩,⟨ws,SqB.inj_same S1.same s2⟩,k _ H1 R1 S1 st1 (qoj s1 s2 t1 t2)⟩
 have gl:∀(as:List D) (R1:Hp) (v:V),Rp K R1 v (.lst as)->∃p vs,v=.ref p/\SqB K true R1 p vs/\Rps K R1 vs as:=λas R1 v r=>by
   obtain⟨_,_,rfl,h,q⟩:=r.isL
   exact⟨_,_,rfl,h,q⟩
 have gt:∀(as:List D) (R1:Hp) (v:V),Rp K R1 v (.tup as)->∃p vs,v=.ref p/\SqB K false R1 p vs/\Rps K R1 vs as:=λas R1 v r=>by
   obtain⟨_,_,rfl,h,q⟩:=r.isT
   exact⟨_,_,rfl,SqT.of h,q⟩
 split at e2
 · rename_i x y
   split at e2
   · rename_i as bs h1 h2
     cases e2
     rcases q8e h1 with rfl|rfl<;>rcases q8e h2 with rfl|rfl
     · exact .inl (.inl (go true true _ _ as bs rfl rfl (gl as) (gl bs)))
     · exact .inl (.inr (go true false _ _ as bs rfl rfl (gl as) (gt bs)))
     · exact .inr (.inl (go false true _ _ as bs rfl rfl (gt as) (gl bs)))
     · exact .inr (.inr (go false false _ _ as bs rfl rfl (gt as) (gt bs)))
   · cases e2
 · cases e2
end
inductive TyO(K:PySem.W.Frag)(H:Hp):V->Value->Prop where
 |of {x:V} {t:Value} (h:TyOf K H x t):TyO K H x t
 |sl {a:Addr} {xs:List V} (h:SqL K H a xs):TyO K H (.ref a) (.type "list")
 |st {a:Addr} {xs:List V} (h:SqT K H a xs):TyO K H (.ref a) (.type "tuple")
def rIsO(K:PySem.W.Frag):List V->Hp->VK->Prop:=λxs H Q=>∃x y t c b,xs=[x,y]/\clsV y=some c/\TyO K H x t/\PySem.W.kitOne K t c=some b/\Q (.bl b) H
section
variable{X:Cx}{K:PySem.W.Frag}{O:List Nat}{t:TE}{fa:RhD}
theorem q4x(hK:X.K=K):q4h X (.builtin "isinstance") (rIsO K):=by
 subst hK
 intro z4 s σ H xs us Q I r h
 obtain⟨x,y,t,c,b,rfl,hc,ty,e,q⟩:=h
 cases ty with
 |of h=>exact qh1 rfl z4 s σ H [x,y] us Q I r ⟨x,y,t,c,b,rfl,hc,h,e,q⟩
 | sl h=>
   obtain⟨u,w,rfl,ru,rw'⟩:=vals2 r
   (first|obtain rfl:=ru.isA rfl|cases ru)
   have ew:w=c:=by
     cases y with
     |ref a=>exact(show w=Value.ref a from rw').trans (jh hc)
     |ty n=>exact(show w=Value.type n from rw').trans (jh hc)
     |_=>cases hc
   subst ew
   obtain⟨its,rv,pl,_⟩:=I.list h
   obtain⟨o,e1,c1,_⟩:=pl.isList
   exact PySem.W.kia_one PySem.W.kitx_list I.kIn ⟨o,e1,c1⟩ e (λz=>nomatch z) λtk=>⟨.bl b,H,I.tok tk,rfl,q⟩
 | st h=>
   obtain⟨u,w,rfl,ru,rw'⟩:=vals2 r
   (first|obtain rfl:=ru.isA rfl|cases ru)
   have ew:w=c:=by
     cases y with
     |ref a=>exact(show w=Value.ref a from rw').trans (jh hc)
     |ty n=>exact(show w=Value.type n from rw').trans (jh hc)
     |_=>cases hc
   subst ew
   obtain⟨its,rv,pl,_⟩:=I.tuple h
   obtain⟨o,e1,c1,_⟩:=pl
   exact PySem.W.kia_one PySem.W.kitx_tuple I.kIn ⟨o,e1,c1⟩ e (λz=>nomatch z) λtk=>⟨.bl b,H,I.tok tk,rfl,q⟩
def tyN:D->Option String
 |.non=>some "NoneType"
 |.bl _=>some "bool"
 |.int _=>some "int"
 |.str _=>some "str"
 |.lst _=>some "list"
 |.tup _=>some "tuple"
 |.dct _=>some "dict"
 |.exc _=>none
 |.fn _=>none
 |.tab _ _ _=>none
 |.dit _=>some "dict"
 |.obj _ _=>none
theorem qly{H:Hp}{v:V}{d:D}{n:String}(r:Rp K H v d)(e:tyN d=some n):TyO K H v (.type n):=by
 cases r with
 |non=>cases e;exact .of .non
 |bl b=>cases e;exact .of (.bl b)
 |int i=>cases e;exact .of (.int i)
 |str x=>cases e;exact .of (.str x)
 |lst h _=>cases e;exact .sl h
 |tup h _=>cases e;exact .st (SqT.of h)
 |dct h _=>cases e;exact .of (.dK h)
 |dit h _=>cases e;exact .of (.dT h)
 |obj _ _=>cases e
 |exc _ _ _=>cases e
 |fn _=>cases e
 |tab _=>cases e
def KitB(K:PySem.W.Frag)(Y:String)(f:String->Option Bool):Prop:=∀s b,f s=some b->PySem.W.kitOne K (.type s) (.type Y)=some b
def q27(Y:String):String->Option Bool:=λs=>
 if s="NoneType" then some (decide (Y="NoneType"))else if s="bool" then some (decide (Y="bool")||decide (Y="int"))else if s="int" then some (decide (Y="int"))else if s="str" then some (decide (Y="str"))
 else if s="list" then some (decide (Y="list"))else if s="tuple" then some (decide (Y="tuple"))else if s="dict" then some (decide (Y="dict"))else none
theorem q6q{Y:String}(h1:PySem.W.kitOne K (.type "NoneType") (.type Y)=some (decide (Y="NoneType")))(h2:PySem.W.kitOne K (.type "bool") (.type Y)=some (decide (Y="bool")||decide (Y="int")))(h3:PySem.W.kitOne K (.type "int") (.type Y)=some (decide (Y="int")))
   (h4:PySem.W.kitOne K (.type "str") (.type Y)=some (decide (Y="str"))) (h5:PySem.W.kitOne K (.type "list") (.type Y)=some (decide (Y="list"))) (h6:PySem.W.kitOne K (.type "tuple") (.type Y)=some (decide (Y="tuple"))) (h7:PySem.W.kitOne K (.type "dict") (.type Y)=some (decide (Y="dict"))):KitB K Y (q27 Y):=λs b e=>by
 unfold q27 at e
 split at e
 · rename_i z;subst z;rw[<-e];exact h1
 split at e
 · rename_i z;subst z;rw[<-e];exact h2
 split at e
 · rename_i z;subst z;rw[<-e];exact h3
 split at e
 · rename_i z;subst z;rw[<-e];exact h4
 split at e
 · rename_i z;subst z;rw[<-e];exact h5
 split at e
 · rename_i z;subst z;rw[<-e];exact h6
 split at e
 · rename_i z;subst z;rw[<-e];exact h7
 · cases e
def dIsi(f:String->Option Bool)(d:D):Option D:=match tyN d with
 |some s=>(f s).map .bl
 |none=>none
theorem qa4{Y:String}{f:String->Option Bool}(hk:KitB K Y f)(ha:MB K O t fa):ME K O (tCB (rIsO K) (q2x t (q2x (tC (.ty Y)) tNil))) (mOp1 (dIsi f) fa):=λZ σ H R ρ d ρ' Q S e k=>by
 obtain⟨x,ρ1,e1,e⟩:=q02 e
 obtain⟨e2,rfl⟩:=q0b e
 refine ha Z σ H R ρ x _ _ S e1 λv H1 R1 S1 st1 r1=>?_
 unfold dIsi at e2
 cases e3:tyN x with
 |none=>rw[e3]at e2;cases e2
 | some s=>
   rw[e3]at e2
   dsimp only at e2
   cases e4:f s with
   |none=>rw[e4]at e2;cases e2
   | some b=>
     rw[e4]at e2
     cases e2
     exact⟨v,.ty Y,.type s,.type Y,b,rfl,rfl,qly r1 e3,hk s b e4,k _ H1 R1 S1 st1 (.bl b)⟩
end
def mOf(f:RhL):RhD:=q11 f λds=>mRet (D.lst ds)
section
variable{K:PySem.W.Frag}{O O1 O':List Nat}{t:TE}{c:MC}{u:TS}{f:RhO}{fn:RhL}
theorem q1g(h:MN K O t fn):ME K O t (mOf fn):=h.me
theorem q5e(h:MS c O O1 u f)(hs:subO c O1 O'=true):MS c O O' u f:=λZ E σ H R ρ o hP S e k=>by
 refine h Z E σ H R ρ o hP S e ?_
 cases o with
 | nx ρ'=>
   intro σ' H' R' S' s'
   obtain⟨S2,s2⟩:=S'.sub' hP hs
   exact k σ' H' _ S2 (s'.trans s2)
 |bk ρ'=>exact k
 |ct ρ'=>exact k
 |rt d ρ'=>exact k
theorem q5f{k n:Nat}{js:List Nat}{wi:TI}{g:TG}{tt:TT}{te:TE}(he:MN c.K O (qbt n js wi g tt te) fn)(hs:subO c O O'=true)(hi:k∉O'):MS c O O' (qiq k n js wi g tt te) (sSet k (mOf fn)):=
 show MS c O O' (tAsg (qbt n js wi g tt te) (q2u k)) (sSet k (mOf fn))from q17 (q1g he) hs hi
end
def qjp(i j:Int):Bool:=(decide (-(2^64)<i)&&decide (i<2^64))||(decide (-(2^64)<j)&&decide (j<2^64))
def qjq(_ j:Int):Bool:=decide (0<j)&&decide (j<1073741824)
def qnk(_ j:Int):Bool:=decide (0<j)
def qb3(i j:Int):Bool:=decide (0<=j)&&decide (j<=1000000)&&decide (i.natAbs<2^64)
def qnj(_ j:Int):Bool:=decide (0<=j)
abbrev dDiv:D->D->Option D:=dI2 qjq λi j=>i / j
abbrev dMod:D->D->Option D:=dI2 qnk λi j=>i % j
abbrev dPow:D->D->Option D:=dI2 qb3 λi j=>i^j.toNat
abbrev dShl:D->D->Option D:=dI2 qb3 λi j=>i*2^j.toNat
abbrev dShr:D->D->Option D:=dI2 qnj λi j=>i / 2^j.toNat
abbrev dSub:D->D->Option D:=dI0 λi j=>i-j
abbrev dAnd:D->D->Option D:=dI0 λi j=>Builtin.bitAnd i j
abbrev dXor:D->D->Option D:=dI0 λi j=>Builtin.bitXor i j
abbrev dGt:D->D->Option D:=dB0 λi j=>decide (j<i)
section
variable{K:PySem.W.Frag}
theorem qhr:OpG K (rI CDiv λi j=>.int (i / j)) dDiv:=op_i λi j h=>by
 unfold qjq at h
 simp only[Bool.and_eq_true,decide_eq_true_eq]at h
 exact h
theorem q7n:OpG K (rI (λ_ j=>0<j) λi j=>.int (i % j)) dMod:=op_i λi j h=>of_decide_eq_true h
theorem qhq:OpG K (rI CPow λi j=>.int (i^j.toNat)) dPow:=op_i λi j h=>by
 unfold qb3 at h
 simp only[Bool.and_eq_true,decide_eq_true_eq]at h
 exact⟨h.1.1,h.1.2,h.2⟩
theorem q9w:OpG K (rI CPow λi j=>.int (i*2^j.toNat)) dShl:=op_i λi j h=>by
 unfold qb3 at h
 simp only[Bool.and_eq_true,decide_eq_true_eq]at h
 exact⟨h.1.1,h.1.2,h.2⟩
theorem qhp:OpG K (rI (λ_ j=>0<=j) λi j=>.int (i / 2^j.toNat)) dShr:=op_i λi j h=>of_decide_eq_true h
theorem q9v:OpG K (rI0 λi j=>.int (i-j)) dSub:=qjl
theorem qd9:OpG K (rI0 λi j=>.int (Builtin.bitAnd i j)) dAnd:=qjl
theorem qnl:OpG K (rI0 λi j=>.int (Builtin.bitXor i j)) dXor:=qjl
def qio(K:PySem.W.Frag)(n:Nat):Sp:=λvs H Q _=>∃(b:Addr) (ns:List Int),vs=[.ref b]/\SqL K H b (ns.map V.int)/\ns.length<=n/\∀H',Q (.bl true) H'
theorem qo7{P:Program}{w:World}{mg:Str->Option Value}{base:Heap}{CX:CXT}{k n:Nat}{fa:Addr}{fd:FuncData}{x:Str}{f:List D->Option D}(F:FnOk P w K mg base CX k fa fd [x] (spP K false 1 f))(h:∀ns:List Int,ns.length<=n->f [.lst (ns.map D.int)]=some (.bl true)):FnOk P w K mg base CX k fa fd [x] (qio K n):=
 F.imp λvs H Q E q=>by
   obtain⟨b,ns,rfl,hb,hl,k⟩:=q
   refine⟨rfl,H,[.lst (ns.map D.int)],.bl true,λ_ _ e=>e,.cons (.lst hb (Rps.ints ns)) .nil,h ns hl,λv H' R' _ r=>?_⟩
   have r':Rp K R' v (.bl true):=r
   cases r'
   exact k H'
end
section
variable{K:PySem.W.Frag}{O O':List Nat}{t ta tb:TE}{fa fb:RhD}{fn:RhL}{c:MC}
theorem Rps.empty{R:Hp}{xs:List V}{ds:List D}(r:Rps K R xs ds):xs.isEmpty=ds.isEmpty:=by cases r<;>rfl
def dAny:D->Option D
 |.lst xs=>(q38 xs).map λbs=>.bl (bs.any id)
 |_=>none
def sExt(i:Nat)(fn:RhL):RhO:=λρ=>if isL ρ i=true then(match fn ρ with
 |none=>none
 | some (ys,ρ1)=>match ρ1[i]? with
   |some (some (.lst xs))=>if xs.length+ys.length<=sizeLine then some (.nx (ρ1.set i (some (.lst (xs++ys)))))else none
   |_=>none)else none
theorem qnr{i:Nat}(hi:i∈O)(ha:MN c.K O ta fn)(hs:subO c O O'=true):MS c O O' (qbs (tBM c.K "list" qch (tVar i) (q2x ta tNil))) (sExt i fn):=λZ E σ H R ρ o hP S e k=>by
 unfold sExt at e
 split at e
 case isFalse=>cases e
 rename_i hL
 cases e1:fn ρ with
 |none=>rw[e1]at e;cases e
 | some p=>
   obtain⟨ys,ρ1⟩:=p
   rw[e1]at e
   dsimp only at e
   obtain⟨l,vs,ds,h1,h2,h3,h4,h5⟩:=S.own i hi
   obtain⟨us,_,rfl,rfl,_⟩:=qi0 hL h1 h5
   refine⟨.ref l,h2,.inl ⟨rfl,us,SqL.of h3⟩,ha Z σ H R ρ ys ρ1 _ S e1 λb zs H1 R1 S1 st1 b0 bH bR r1=>?_⟩
   obtain⟨l',vs',ds',g1,g2,g3,g4,g5⟩:=S1.own i hi
   rw[h2]at g2
   cases g2
   rw[g1]at e
   cases g5 with
   |dct _=>cases e
   |dit _=>cases e
   |lst g5=>
   rename_i vs' ds'
   dsimp only at e
   split at e
   · rename_i hz
     cases e
     refine⟨l,b,vs',zs,rfl,rfl,g3,bH,by rw[g5.length,r1.length];exact hz,?_⟩
     obtain⟨S2,s2⟩:=(S1.write hi h2 (.lst (g5.append r1))).sub' hP hs
     exact k σ _ _ S2 (st1.r.trans s2)
   · cases e
theorem Rps.rep{R:Hp}{xs:List V}{ds:List D}(r:Rps K R xs ds):∀k:Nat,Rps K R (List.replicate k xs).flatten (List.replicate k ds).flatten
 |0=>.nil
 | k+1=>by
   rw[List.replicate_succ,List.replicate_succ,List.flatten_cons,List.flatten_cons]
   exact r.append (Rps.rep r k)
end
section
variable{M:Model}{A:Around}{E:Value->Shared->Prop}{s:Shared}
theorem q87{a b:Value}{Q:Value->Shared->Prop}(ha:s.TypeIs a "list")(hb:s.TypeIs b "list")(hc:wpAny M A (call (.builtin "list.__iadd__") [a,b]) Q E s):wpAny M A (inplaceOp .Add a b) Q E s:=by
 unfold inplaceOp
 refine x5 ?_
 have hfi:fillsInplaceSlot (.type "list") "add" (Operator.Add==.Add)=pure false:=by
   unfold fillsInplaceSlot
   show(typeLookup (.type "list") (dunderI "add") >>= λfi=>pure (fi.isSome&& !isSeqSlot fi))=pure false
   rw[F.slot_list_iadd.lookup]
   rfl
 have hsi:seqSlot? (.type "list") (dunderI "add")=pure (some (.builtin "list.__iadd__")):=PySem.seqSlot_of F.slot_list_iadd.lookup (by decide+kernel)
 refine j7 (wpAny_typeOf ha (j7 (xk hfi ?_)))
 show wpAny M A (if false=true then _ else _) Q E s
 rw[if_neg Bool.false_ne_true]
 refine j7 (wpAny_binaryOp1_none (nm:="add") ha hb noFill_list_add ?_)
 refine j7 (xk hsi ?_)
 exact j7 (xo hc)
end
def ipL:TIp:=λx y H Q=>∃l b xs zs,x=.ref l/\y=.ref b/\H l=some (.lst xs)/\H b=some (.lst zs)/\xs.length+zs.length<=sizeLine/\Q (.ref l) (upd H l (.lst (xs++zs)))
section
variable{X:Cx}{K:PySem.W.Frag}
theorem qkj:PIp X .Add ipL:=by
 intro z4 s σ H x y v u Q I r1 r2 h
 obtain⟨l,b,xs,zs,rfl,rfl,hH,hB,hz,q⟩:=h
 (first|obtain rfl:=r1.isA rfl|cases r1)
 (first|obtain rfl:=r2.isA rfl|cases r2)
 obtain⟨z,its,n,r,hl,e⟩:=I.lstM hH
 obtain⟨z2,its2,n2,r2,hl2,e2⟩:=I.lstM hB
 have hsz:its.toArray.size+its2.toArray.size<=sizeLine:=by rw[jw,jw];omega
 have hlong:¬(!its.toArray.isEmpty&&Builtin.List.listTooLong (its.toArray.size+its2.toArray.size))=true:=by
   rw[q9x hsz,Bool.and_false]
   exact Bool.false_ne_true
 refine q87 ⟨_,e,rfl⟩ ⟨_,e2,rfl⟩ (call_meets F.slot_list_iadd ⟨_,e,rfl⟩ F.entry_list_iadd (F.args_list_iadd_2 _ _)
   (AutoSeq1.list___iadd___list_list_0 l its.toArray n b its2.toArray n2 hlong (by rw[jw];omega) (by omega)) ⟨e,e2,?_⟩)
 refine⟨.ref l,_,I.lset (its':=its++its2) hH e (by simp) (r.append r2) ?_,rfl,q⟩
 rw[jr]
 omega
end
section
variable{c:MC}{O O':List Nat}{te:TE}{fn:RhL}
theorem qjv{i:Nat}(hi:i∈O)(he:MN c.K O te fn)(hs:subO c O O'=true):MS c O O' (tAug i te ipL) (sExt i fn):=λZ E σ H R ρ o hP S e k=>by
 unfold sExt at e
 split at e
 case isFalse=>cases e
 rename_i hL
 cases e1:fn ρ with
 |none=>rw[e1]at e;cases e
 | some p=>
   obtain⟨ys,ρ1⟩:=p
   rw[e1]at e
   dsimp only at e
   obtain⟨l,vs,ds,h1,h2,h3,h4,h5⟩:=S.own i hi
   refine⟨.ref l,h2,he Z σ H R ρ ys ρ1 _ S e1 λb zs H1 R1 S1 st1 b0 bH bR r1=>?_⟩
   obtain⟨l',vs',ds',g1,g2,g3,g4,g5⟩:=S1.own i hi
   rw[h2]at g2
   cases g2
   rw[g1]at e
   cases g5 with
   |dct _=>cases e
   |dit _=>cases e
   |lst g5=>
   rename_i vs' ds'
   dsimp only at e
   split at e
   · rename_i hz
     cases e
     refine⟨l,b,vs',zs,rfl,rfl,g3,bH,by rw[g5.length,r1.length];exact hz,?_⟩
     obtain⟨S2,s2⟩:=(S1.write hi h2 (.lst (g5.append r1))).sub' hP hs
     have same:σ.set i (some (.ref l))=σ:=by
       have z9:i<σ.length:=(List.getElem?_eq_some_iff.mp h2).1
       refine List.ext_getElem? λj=>?_
       by_cases hj:i=j
       · subst hj;rw[x6 z9,h2]
       · rw[jm hj]
     show E.nx (σ.set i (some (.ref l))) _
     rw[same]
     exact k σ _ _ S2 (st1.r.trans s2)
   · cases e
end
theorem foldl_size{α:Type}(a:Array α):∀(k:Nat) (acc:Array α),(List.foldl (λx1 x2=>x1++x2) acc (List.replicate k a)).size=acc.size+k*a.size
 |0,acc=>by simp
 | k+1,acc=>by
   rw[List.replicate_succ,List.foldl_cons,foldl_size a k,Array.size_append,Nat.succ_mul]
   omega
theorem q4n:fillsNumberSlot (.type "tuple") "mul"=pure false:=
 PySem.fillsNumberSlot_seq (id:="tuple.__mul__") (r:=some (.builtin "tuple.__rmul__")) F.slot_tuple_mul.lookup (by decide+kernel) F.slot_tuple_rmul.lookup (by decide+kernel)
theorem q7d:seqRepeat? (.type "tuple")=pure (some (.builtin "tuple.__mul__")):=by
 unfold seqRepeat?
 rw[PySem.seqSlot_of (T:="tuple") (name:="__mul__") (id:="tuple.__mul__") F.slot_tuple_mul.lookup (by decide+kernel),PySem.seqSlot_of (T:="tuple") (name:="__rmul__") (id:="tuple.__rmul__") F.slot_tuple_rmul.lookup (by decide+kernel)]
 rfl
theorem q5p(a:Int)(t:Tok)(l:Addr)(items:Array Value)(n:Nat)(dd:Option Addr)(sl:Array (Option Value)):
   Meets (Builtin.«int.__rmul__» ⟨[.int a t,.ref l],[]⟩) (λ_ R s=>s.heap.get? l=some {cls:=.type "tuple",dict:=dd,data:=.seq items n,slots:=sl}/\R (.ok (.ret Value.notImplemented)) s):=
 .of_wp λprog w A R s h=>by obtain⟨hp,g,d,tk,os⟩:=s;obtain⟨hl,h⟩:=h;wp_walk;exact⟨_,rfl,h⟩
theorem qaw(l:Addr)(items:Array Value)(n:Nat)(dd:Option Addr)(sl:Array (Option Value))(x:Int)(u:Tok)(h1:1<x)(h2:x<=1000)(he:items.isEmpty=false)(hz:items.size<=1000):
   Meets (Builtin.«tuple.__mul__» ⟨[.ref l,.int x u],[]⟩) (λ_ R s=>s.heap.get? l=some {cls:=.type "tuple",dict:=dd,data:=.seq items n,slots:=sl}/\R (.ok (.ret (Value.ref s.heap.objs.size))) {s with heap:=s.heap.push {cls:=Value.type "tuple",data:=Data.seq (List.foldl (λx1 x2=>x1++x2) #[] (List.replicate x.toNat items))},toks:=s.toks}):=
 .of_wp λprog w A R s h=>by
   obtain⟨hp,g,d,tk,os⟩:=s;obtain⟨hl,h⟩:=h
   have f1:=AutoSeq1.idx_int
   have f2:=AutoSeq1.sub_tuple_tuple
   have hc0:¬(decide (x< -2^63)||decide (x≥2^63))=true:=by
     simp only[Bool.or_eq_true,decide_eq_true_eq]
     omega
   have hc1:¬(items.isEmpty||x==1)=true:=by
     rw[he,Bool.false_or]
     simp
     omega
   have hc2:¬(decide (x<=0)||items.isEmpty)=true:=by
     rw[he,Bool.or_false]
     simp
     omega
   have hm:(items.size:Int)*x<=1000*1000:=Int.le_trans (Int.mul_le_mul_of_nonneg_left h2 (Int.natCast_nonneg _)) (Int.mul_le_mul_of_nonneg_right (by omega) (by decide))
   have hc3:¬(items.size:Int)*x>(2^63-1) / 8:=by omega
   have hc4:¬Builtin.Tuple.tupleTooMany ((items.size:Int)*x)=true:=by
     unfold Builtin.Tuple.tupleTooMany
     have:(sizeLine:Int)≥1000*1000:=by decide
     simp
     omega
   wp_walk using wpAny_loadPart' hl
   rw[if_neg hc0]
   wp_walk using wpAny_loadPart' hl
   rw[if_neg hc1]
   rw[if_neg hc2]
   rw[if_neg hc3]
   rw[if_neg hc4]
   wp_walk using wpAny_loadPart' hl
   have hc5:¬(List.foldl (λx1 x2=>x1++x2) #[] (List.replicate x.toNat items)).size>sizeLine:=by
     rw[foldl_size]
     have h7:x.toNat*items.size<=1000*1000:=Nat.mul_le_mul (by omega) hz
     have h8:(sizeLine:Nat)≥1000*1000:=by decide
     simp
     omega
   rw[if_neg hc5]
   wp_walk using wpAny_loadPart' hl
   exact⟨_,rfl,h⟩
def qmm(K:PySem.W.Frag):R2:=λx y H Q=>∃l k xs,x=.ref l/\y=.int k/\SqT K H l xs/\1<k/\k<=1000/\xs≠[]/\xs.length<=1000/\∀p,H p=none->Q (.ref p) (upd H p (.tup (List.replicate k.toNat xs).flatten))
section
variable{X:Cx}{K:PySem.W.Frag}
theorem qjk(hK:X.K=K):OpR X (binaryOp .Mult) (qmm K):=by
 subst hK
 intro z4 s σ H x y v u Q I rx ry h
 obtain⟨l,k,xs,rfl,rfl,hH,h1,h2,hx,hz,q⟩:=h
 (first|obtain rfl:=rx.isA rfl|cases rx)
 obtain⟨t,rfl⟩:=ry
 obtain⟨its,r1,p1,_⟩:=I.tuple hH
 obtain⟨⟨cls,dd,data,sl⟩,ho,hc,n,hd⟩:=id p1
 simp only at hc hd
 subst hc hd
 have z9:=r1.length
 have he:its.toArray.isEmpty=false:=by
   cases its with
   |nil=>exact absurd (r1.nil_iff.mp rfl) hx
   |cons a r=>rfl
 have f0:List.foldl (λx1 x2=>x1++x2) #[] (List.replicate k.toNat its.toArray)=(List.replicate k.toNat its).flatten.toArray:=by
   have:=foldl_rep its k.toNat []
   rw[List.nil_append]at this
   exact this
 refine wpAny_binaryOp_repeat_ref (T:="tuple") (U:="int") (by decide) ⟨_,ho,rfl⟩ (λs'=>typeIs_int s' k t) q4n F.fills_int_mul F.slot_int_rmul q7d F.slot_int_index.lookup
   (call_meets F.slot_int_rmul (typeIs_int s k t) F.entry_int_rmul (F.args_int_rmul_2 _ _) (q5p k t l its.toArray n dd sl)
     ⟨ho,rfl,⟨_,ho,rfl⟩,call_meets F.slot_tuple_mul ⟨_,ho,rfl⟩ F.entry_tuple_mul (F.args_tuple_mul_2 _ _) (qaw l its.toArray n dd sl k t h1 h2 he (by rw[jw];omega)) ⟨ho,?_⟩⟩)
 rw[f0]
 have hsz:(List.replicate k.toNat xs).flatten.length<=sizeLine:=by
   rw[len_rep]
   exact jy (Nat.mul_le_mul (by omega:k.toNat<=1000) hz) (by decide)
 refine⟨.ref s.heap.objs.size,_,I.laid (t':=s.toks) (o:=.tup (List.replicate k.toNat xs).flatten) (λb ob q=>je _ q) (jc _) ?_,rfl,q _ (I.hok.fresh (jc _))⟩
 exact⟨hsz,_,r1.rep k.toNat,TupN.new _ _⟩
def q9e(z:Str)(k:Int):Str:=if(k==1||z.length==0)=true then z else⟨List.foldl (λx1 x2=>x1++x2) #[] (List.replicate k.toNat z.cps)⟩
theorem qd2:OpR X (binaryOp .Mult) (λx y H Q=>∃z k,x=.str z/\y=.int k/\0<k/\k<=1000/\0<z.length/\z.length<=1000/\Q (.str (q9e z k)) H):=by
 intro z4 s σ H x y v u Q I rx ry h
 obtain⟨z,k,rfl,rfl,h1,h2,h3,h4,q⟩:=h
 obtain⟨t,rfl⟩:=rx
 obtain⟨t',rfl⟩:=ry
 have hm:z.length*k.toNat<=1000*1000:=Nat.mul_le_mul h4 (by omega)
 refine PySem.P.mul_str (by simp;omega) (λ_ _=>?_) (λ_ _=>?_) ?_
 · intro hgt
   have h5:((2:Int)^63-1) / 1000<=(2^63-1) / k:=by
     refine Int.le_ediv_of_mul_le h1 ?_
     have:((2:Int)^63-1) / 1000*k<=(2^63-1) / 1000*1000:=Int.mul_le_mul_of_nonneg_left h2 (by decide)
     exact Int.le_trans this (by decide)
   have h6:(1000:Int)<(2^63-1) / 1000:=by decide
   omega
 · unfold Builtin.Str.tooLong
   have:(sizeLine:Nat)≥1000*1000:=by decide
   simp
   omega
 · rw[if_neg (by omega)]
   unfold q9e at q
   split
   · rename_i hh
     rw[if_pos hh]at q
     exact⟨.str z,H,I,⟨t,rfl⟩,q⟩
   · rename_i hh
     rw[if_neg hh]at q
     refine⟨?_,⟨.str _,H,I.tok _,⟨_,rfl⟩,q⟩⟩
     show(List.foldl (λx1 x2=>x1++x2) #[] (List.replicate k.toNat z.cps)).size<=sizeLine
     rw[foldl_size]
     have h7:k.toNat*z.cps.size<=1000*1000:=Nat.mul_le_mul (by omega) h4
     have h8:(sizeLine:Nat)≥1000*1000:=by decide
     simp
     omega
def CMul2(i j:Int):Prop:=CMul i j∨(i.natAbs<2^250/\j.natAbs<2^250)
theorem qet{k:Int}(h:k.natAbs<2^250):Builtin.Int.intBits k<=250:=by
 unfold Builtin.Int.intBits
 split
 · exact Nat.zero_le _
 · rename_i h0
   have hk:k.natAbs≠0:=λz=>h0 (by simpa using z)
   have:k.natAbs.log2<250:=(Nat.log2_lt hk).mpr h
   omega
theorem CMul2.ok{i j:Int}(h:CMul2 i j):IntMulOk i j:=by
 rcases h with h|⟨h1,h2⟩
 · exact h.ok
 · exact IntMulOk.of_le (qet h1) (qet h2) (by decide)
theorem op_mul2:OpR X (binaryOp .Mult) (rI CMul2 λi j=>.int (i*j)):=opI λ_ _ _ _ _ _ _ hc q=>mul_int q hc.ok
def bigM(i:Int):Bool:=decide (i.natAbs<2^250)
def q9u(i j:Int):Bool:=qjp i j||(bigM i&&bigM j)
theorem qd7{i j:Int}(h:q9u i j=true):CMul2 i j:=by
 unfold q9u qjp bigM at h
 simp only[Bool.or_eq_true,Bool.and_eq_true,decide_eq_true_eq]at h
 rcases h with h|h
 · exact .inl h
 · exact .inr h
def qmn(K:PySem.W.Frag):R2:=λx y H Q=>rI CMul2 (λi j=>.int (i*j)) x y H Q∨qmm K x y H Q∨∃z k,x=.str z/\y=.int k/\0<k/\k<=1000/\0<z.length/\z.length<=1000/\Q (.str (q9e z k)) H
theorem q5c(hK:X.K=K):OpR X (binaryOp .Mult) (qmn K):=op_mul2.or ((qjk hK).or qd2)
end
def q4f:D->D->Option D
 |.int i,.int j=>if q9u i j=true then some (.int (i*j))else none
 |.tup xs,.int k=>if 1<k/\k<=1000/\xs≠[]/\xs.length<=1000 then some (.tup (List.replicate k.toNat xs).flatten)else none
 |.str z,.int k=>if 0<k/\k<=1000/\0<z.length/\z.length<=1000 then some (.str (q9e z k))else none
 |_,_=>none
theorem qd8{K:PySem.W.Frag}:OpG K (qmn K) q4f:=λH R x y d e u Q s rx ry q k=>by
 unfold q4f at q
 split at q
 · rename_i i j
   split at q
   · rename_i h
     (first|obtain rfl:=q.isA rfl|cases q)
     (first|obtain rfl:=rx.isA rfl|cases rx)
     (first|obtain rfl:=ry.isA rfl|cases ry)
     exact .inl ⟨i,j,rfl,rfl,qd7 h,k _ H R (Ext.refl s) (.int _)⟩
   · (first|obtain rfl:=q.isA rfl|cases q)
 · rename_i ds j
   split at q
   · rename_i hc
     (first|obtain rfl:=q.isA rfl|cases q)
     (first|obtain rfl:=ry.isA rfl|cases ry)
     obtain⟨a,xs,rfl,h,r⟩:=rx.isT
     refine .inr (.inl ⟨a,j,xs,rfl,rfl,SqT.of (s _ _ h),hc.1,hc.2.1,λz=>?_,by rw[r.length];exact hc.2.2.2,λp np=>?_⟩)
     · subst z
       (first|obtain rfl:=r.isA rfl|cases r)
       exact hc.2.2.1 rfl
     · have y:=Ext.new (o:=.tup (List.replicate j.toNat xs).flatten) s np
       exact k _ _ _ y (.tup q0h ((r.rep _).mono y.r))
   · (first|obtain rfl:=q.isA rfl|cases q)
 · rename_i z j
   split at q
   · rename_i hc
     (first|obtain rfl:=q.isA rfl|cases q)
     (first|obtain rfl:=ry.isA rfl|cases ry)
     (first|obtain rfl:=rx.isA rfl|cases rx)
     exact .inr (.inr ⟨z,j,rfl,rfl,hc.1,hc.2.1,hc.2.2.1,hc.2.2.2,k _ H R (Ext.refl s) (.str _)⟩)
   · (first|obtain rfl:=q.isA rfl|cases q)
 · (first|obtain rfl:=q.isA rfl|cases q)
section
variable{X:Cx}{K:PySem.W.Frag}{O:List Nat}{pos:Pos}
end
inductive TyX(K:PySem.W.Frag)(H:Hp):V->Value->Prop where
 |exc {a C:Addr} (h:H a=some (excO a (.ref C))) (k:ExcK K C):TyX K H (.ref a) (.ref C)
 |non:TyX K H .non (.type "NoneType")
section
variable{X:Cx}{K:PySem.W.Frag}{O:List Nat}{t:TE}{fa:RhD}
structure KitE(K:PySem.W.Frag)(c:Value)(sub:Str->Option Bool):Prop where
 exc:∀x C b,PySem.W.nsIn K mainGlobals x=some (some (.ref C))->sub x=some b->PySem.W.kitOne K (.ref C) c=some b
 non:PySem.W.kitOne K (.type "NoneType") c=some false
structure qqy(K:PySem.W.Frag)(cs:List Value)(sub:Str->Option Bool):Prop where
 exc:∀x C b,PySem.W.nsIn K mainGlobals x=some (some (.ref C))->sub x=some b->PySem.W.kitAny K (.ref C) cs=some b
 non:PySem.W.kitAny K (.type "NoneType") cs=some false
end
abbrev Xr:=Rho->Option (Str×Rho)
def ExE(K:PySem.W.Frag)(E:XK)(C:Str)(H:Hp):Prop:=∀v,PySem.W.nsIn K mainGlobals C=some (some v)->E v none H
section
variable(K:PySem.W.Frag)(O:List Nat)
end
section
variable{K:PySem.W.Frag}{O:List Nat}{E:XK}{t ta tb:TE}{tr:TA}{tt:TT}{fa fb:RhD}{fs:RhL}{xa xb xs:Xr}
end
def MSX(c:MC)(O:List Nat)(t:TS)(E:XK)(fx:Xr):Prop:=∀(Z:Anc) (D:Ends) (σ:St) (H R:Hp) (ρ:Rho) (C:Str) (ρ':Rho),Z.P=c.P->StR c.K Z O σ H R ρ->fx ρ=some (C,ρ')->(∀O' σ' H' R',StR c.K Z O' σ' H' R' ρ'->ExE c.K E C H')->t D σ H
def MSXa(c:MC)(O:List Nat)(t:TS)(E:XK)(fx:Xr):Prop:=∀(Z:Anc) (D:Ends) (σ:St) (H R:Hp) (ρ:Rho) (C:Str) (ρ':Rho),Z.P=c.P->StR c.K Z O σ H R ρ->fx ρ=some (C,ρ')->(∀H' R',StR c.K Z O σ H' R' ρ'->Same R R'->ExE c.K E C H')->t D σ H
theorem MSXa.g{c:MC}{O:List Nat}{t:TS}{E:XK}{fx:Xr}(h:MSXa c O t E fx):MSX c O t E fx:=λZ D σ H R ρ C ρ' hP S e k=>h Z D σ H R ρ C ρ' hP S e λH' R' S' _=>k O σ H' R' S'
section
variable{c:MC}{O O' O1:List Nat}{t u:TS}{te:TE}{tt:TT}{tr:TA}{g:TG}{f h:RhO}{fe:RhD}{fs:RhL}{ft:RhB}{E:XK}{xe xt fx hx:Xr}
end
section
variable{c:MC}{O O':List Nat}{cv:Value}{i:Nat}{sub:Str->Bool}{tb:XK->TS}{ts:TS}{fb fh:RhO}{xb:Xr}
end
section
variable{K:PySem.W.Frag}{O:List Nat}{tr:TA}{fs:RhL}{E:XK}{n:Nat}
end
section
variable{K:PySem.W.Frag}
end
section
variable(K:PySem.W.Frag)(O:List Nat)
def MV(t:TE)(f:RhD):Prop:=∀(Z:Anc) (σ:St) (H R:Hp) (ρ:Rho) (d:D) (ρ':Rho) (Q:VK),StR K Z O σ H R ρ->f ρ=some (d,ρ')->(∀v,ρ'=ρ->Rp K H v d->Q v H)->t σ H Q
def MVs(t:TA)(f:RhL):Prop:=∀(Z:Anc) (σ:St) (H R:Hp) (ρ:Rho) (ds:List D) (ρ':Rho) (Q:List V->Hp->Prop),StR K Z O σ H R ρ->f ρ=some (ds,ρ')->(∀vs,ρ'=ρ->Rps K H vs ds->Q vs H)->t σ H Q
end
section
variable{K:PySem.W.Frag}{O:List Nat}{ta:TE}{tr:TA}{fa:RhD}{fs:RhL}{E:XK}{n:Nat}
theorem qa0{i:Nat}:MV K O (tVar i) (mVar i):=λZ σ H R ρ d ρ' Q S e k=>by
 unfold mVar at e
 cases q:ρ[i]? with
 |none=>rw[q]at e;cases e
 | some o=>
   rw[q]at e
   cases o with
   |none=>cases e
   | some x=>
     cases e
     by_cases hi:i∈O
     · obtain⟨l,vs,ds,h1,h2,h3,h4,h5⟩:=S.own i hi
       rw[q]at h1
       (first|obtain rfl:=h1.isA rfl|cases h1)
       exact⟨_,h2,k _ rfl ((h5.mono S.sub).rp h3)⟩
     · obtain⟨v,h1,h2⟩:=S.env i d hi q
       exact⟨v,h1,k v rfl (h2.mono S.sub)⟩
theorem qdc:MVs K O tNil mNil:=λZ σ H R ρ d ρ' Q S e k=>by cases e;exact k _ rfl .nil
theorem q4t(ha:MV K O ta fa)(hr:MVs K O tr fs):MVs K O (q2x ta tr) (q01 fa fs):=λZ σ H R ρ ds ρ' Q S e k=>by
 obtain⟨x,ρ1,e1,e⟩:=q02 e
 obtain⟨xs,ρ2,e2,e⟩:=q02 e
 cases e
 refine ha Z σ H R ρ x ρ1 _ S e1 λv z r1=>?_
 subst z
 exact hr Z σ H R ρ1 xs ρ' _ S e2 λvs z r2=>k _ z (.cons r1 r2)
end
theorem qag{α:Type}{o:Option (α×Rho)}{x:α}(h:o.map (·.1)=some x):∃ρ,o=some (x,ρ):=by
 cases o with
 |none=>cases h
 |some p=>cases h;exact⟨p.2,rfl⟩
theorem q5k{n:Nat}{js:List Nat}{fg:RhG}{fe:RhD}{ρ:Rho}(g:D->D):∀(xs:List D),(∀x∈xs,∃ρ1,fg x (q3p n js ρ)=some ρ1/\(fe ρ1).map (·.1)=some (g x))->q0e n js none fg (mRet true) fe xs ρ=some (xs.map g,ρ)
 |[],_=>rfl
 | x::xs,h=>by
   obtain⟨ρ1,h1,h2⟩:=h x jg
   obtain⟨ρ2,h2⟩:=qag h2
   have ih:=q5k (n:=n) (js:=js) (fg:=fg) (fe:=fe) (ρ:=ρ) g xs λy hy=>h y (jk _ hy)
   simp only[q0e,h1,mRet,h2,q2w]
   rw[ih]
   rfl
theorem q45{n:Nat}{js:List Nat}{fg:RhG}{ft:RhB}{fe:RhD}{ρ:Rho}(p:D->Bool)(g:D->D):∀(xs:List D),(∀x∈xs,∃ρ1,fg x (q3p n js ρ)=some ρ1/\ft ρ1=some (p x,ρ1)/\(p x=true->(fe ρ1).map (·.1)=some (g x)))->q0e n js none fg ft fe xs ρ=some ((xs.filter p).map g,ρ)
 |[],_=>rfl
 | x::xs,h=>by
   obtain⟨ρ1,h1,h2,h3⟩:=h x jg
   have ih:=q45 (n:=n) (js:=js) (fg:=fg) (ft:=ft) (fe:=fe) (ρ:=ρ) p g xs λy hy=>h y (jk _ hy)
   cases hp:p x with
   | false=>
     rw[hp]at h2
     simp only[q0e,h1,h2,q2w]
     rw[ih,List.filter_cons_of_neg (by rw[hp];exact Bool.false_ne_true)]
   | true=>
     rw[hp]at h2
     obtain⟨ρ3,h4⟩:=qag (h3 hp)
     simp only[q0e,h1,h2,h4,q2w]
     rw[ih,List.filter_cons_of_pos hp]
     rfl
theorem q71{n p q:Nat}{js:List Nat}{fg:RhG}{fe:RhD}{S:Type}(ρ:S->Rho)(G:D->Prop):∀(xs:List D),(∀x∈xs,∀s,∃ρ1 ρ2 y s',fg x (q3p n js (ρ s))=some ρ1/\fe ρ1=some (y,ρ2)/\q2w (some (p,q)) (ρ s) ρ2=ρ s'/\G y)->∀s,∃ys s',q0e n js (some (p,q)) fg (mRet true) fe xs (ρ s)=some (ys,ρ s')/\ys.length=xs.length/\∀y∈ys,G y
 |[],_,s=>⟨[],s,rfl,rfl,λ_ h=>nomatch h⟩
 | x::xs,h,s=>by
   obtain⟨ρ1,ρ2,y,s1,h1,h2,h3,h4⟩:=h x jg s
   obtain⟨ys,s2,g1,g2,g3⟩:=q71 ρ G xs (λy hy=>h y (jk _ hy)) s1
   refine⟨y::ys,s2,?_,by rw[jo,jo,g2],λz hz=>?_⟩
   · simp only[q0e,h1,mRet,h2,h3]
     rw[g1]
   · rcases List.mem_cons.mp hz with rfl|hz
     · exact h4
     · exact g3 z hz
theorem q6w{fg:RhG}{fb:RhO}(I:Nat->Rho->Prop):∀(xs:List D) (k:Nat) (ρ:Rho),I k ρ->(∀i x ρ,xs[i]? =some x->I (k+i) ρ->∃ρ1 ρ2,fg x ρ=some ρ1/\(fb ρ1=some (.nx ρ2)∨fb ρ1=some (.ct ρ2))/\I (k+i+1) ρ2)->∃ρ',q0z fg fb xs ρ=some (.nx ρ')/\I (k+xs.length) ρ'
 |[],k,ρ,h0,_=>⟨ρ,rfl,h0⟩
 | x::xs,k,ρ,h0,hs=>by
   obtain⟨ρ1,ρ2,h1,h2,h3⟩:=hs 0 x ρ rfl h0
   obtain⟨ρ',g1,g2⟩:=q6w I xs (k+1) ρ2 h3 λi y ρ e hi=>by
     have e1:k+1+i=k+(i+1):=by omega
     rw[e1]at hi ⊢
     exact hs (i+1) y ρ (by simpa using e) hi
   refine ⟨ρ', ?_, by rw[jo];have e1:k+(xs.length+1)=k+1+xs.length:=by omega
                      rw[e1];exact g2⟩
   simp only[q0z,h1]
   rcases h2 with h2|h2
   · rw[h2];exact g1
   · rw[h2];exact g1
theorem q96{fg:RhG}{fb:RhO}(I:Rho->Prop):∀(xs:List D) (ρ:Rho),I ρ->(∀x ρ,x∈xs->I ρ->∃ρ1 ρ2,fg x ρ=some ρ1/\(fb ρ1=some (.nx ρ2)∨fb ρ1=some (.ct ρ2))/\I ρ2)->∃ρ',q0z fg fb xs ρ=some (.nx ρ')/\I ρ':=λxs ρ h0 hs=>by
 obtain⟨ρ',h1,h2⟩:=q6w (fg:=fg) (fb:=fb) (λ_=>I) xs 0 ρ h0 λi x ρ e hi=>hs x ρ (va e) hi
 exact⟨ρ',h1,h2⟩
theorem at0{α:Type}(x:α)(xs:List α):atI (x::xs) 0=some x:=by
 unfold atI ixN
 simp
theorem at1{α:Type}(x y:α)(xs:List α):atI (x::y::xs) 1=some y:=qev (j:=1) rfl
theorem at2{α:Type}(x y z:α)(xs:List α):atI (x::y::z::xs) 2=some z:=qev (j:=2) rfl
theorem q8l{α:Type}{xs:List α}{i:Int}(h0:0<=i)(h:i<xs.length):atI xs i=xs[i.toNat]? :=by
 unfold atI ixN
 rw[if_pos h0,if_pos h]
 rfl
theorem q1d{n:Nat}(h:n<=1000000):n<=sizeLine:=jy h (by decide)
theorem q29(lo:Int)(n:Nat):(q16 lo n).length=n:=by simp[q16]
theorem q39{lo:Int}{n i:Nat}{d:D}(h:(q16 lo n)[i]? =some d):i<n/\d=.int (lo+(i:Int)):=by
 have hi:i<n:=by
   have:=(List.getElem?_eq_some_iff.mp h).1
   rwa [q29]at this
 refine⟨hi,?_⟩
 unfold q16 at h
 rw[jz,List.getElem?_range hi]at h
 exact(jh h).symm
def nx(s:Int):Int:=(s*1181783497276652981+12345678910987) % (2^61-1)
theorem ql7(i j:Int):eqD (.int i) (.int j)=some (i==j):=by
 simp[eqD,D.toP,SeqAt.shaped,PyData.canLay0,PyData.depth,PyData.eqv]
section
variable{α β:Type}{a:Rho->Option (α×Rho)}{k:α->Rho->Option (β×Rho)}{ρ:Rho}{fa fb fc:RhD}{ga gb:RhB}{fs:RhL}{g g':D->D->Option D}{g1:D->Option D}{gl:D->Option (List D)}{g2:D->D->Option (List D)}{fl fh:Rho->Option (Option Int×Rho)}
theorem q0j:q11 a k ρ=(a ρ).bind λp=>k p.1 p.2:=by
 unfold q11
 cases a ρ<;>rfl
theorem qe9{x:α}:mRet x ρ=some (x,ρ):=rfl
theorem q1e{o:Option α}:q1p o ρ=o.map λx=>(x,ρ):=by cases o<;>rfl
theorem qai{i:Nat}:mVar i ρ=(ρ[i]?).join.map λd=>(d,ρ):=by
 unfold mVar
 cases h:ρ[i]? with
 |none=>rfl
 |some o=>cases o<;>rfl
theorem qi9:mOp2 g fa fb ρ=(fa ρ).bind λp=>(fb p.2).bind λq=>(g p.1 q.1).map λx=>(x,q.2):=by
 unfold mOp2
 rw[q0j]
 congr 1;funext p
 rw[q0j]
 congr 1;funext q
 rw[q1e]
theorem qp3:mOp1 g1 fa ρ=(fa ρ).bind λp=>(g1 p.1).map λx=>(x,p.2):=by
 unfold mOp1
 rw[q0j]
 congr 1;funext p
 rw[q1e]
theorem ql2:q90 gl fa ρ=(fa ρ).bind λp=>(gl p.1).map λx=>(x,p.2):=by
 unfold q90
 rw[q0j]
 congr 1;funext p
 rw[q1e]
def ixO:D->D->Option D
 |.lst xs,.int j=>atI xs j
 |_,_=>none
theorem qp7{i:Nat}:mIxO i fb ρ=(fb ρ).bind λq=>((q.2[i]?).join).bind λx=>(ixO x q.1).map λz=>(z,q.2):=by
 unfold mIxO
 rw[q0j]
 congr 1;funext q
 rw[q0j,qai]
 cases(q.2[i]?).join with
 |none=>rfl
 |some x=>show q1p _ _=_;rw[q1e];first|rfl|(cases x<;>(cases q.1<;>rfl))
def blO:D->Option Bool
 |.bl b=>some b
 |_=>none
theorem qks:q0c fa ρ=(fa ρ).bind λp=>(blO p.1).map λx=>(x,p.2):=by
 unfold q0c
 rw[q0j]
 congr 1;funext p
 rw[q1e]
 first|rfl|(cases p.1<;>rfl)
theorem qp4:mNot ga ρ=(ga ρ).map λp=>(!p.1,p.2):=by
 unfold mNot
 rw[q0j]
 cases ga ρ<;>rfl
theorem qqo:mOr ga gb ρ=(ga ρ).bind λp=>if p.1=true then some (true,p.2)else gb p.2:=by
 unfold mOr
 rw[q0j]
 congr 1;funext p
 split<;>rfl
theorem qqq:mIf ga fa fb ρ=(ga ρ).bind λp=>if p.1=true then fa p.2 else fb p.2:=by
 unfold mIf
 rw[q0j]
 congr 1;funext p
 split<;>rfl
theorem qp5:mNil ρ=some ([],ρ):=rfl
theorem ql4:q01 fa fs ρ=(fa ρ).bind λp=>(fs p.2).map λq=>(p.1::q.1,q.2):=by
 unfold q01
 rw[q0j]
 congr 1;funext p
 rw[q0j]
 cases fs p.2<;>rfl
theorem qp0:mTup fs ρ=(fs ρ).bind λp=>if p.1.length<=sizeLine then some (.tup p.1,p.2)else none:=by
 unfold mTup
 rw[q0j]
 congr 1;funext p
 rw[q1e]
 split<;>rfl
theorem qp6:mLst fs ρ=(fs ρ).bind λp=>if p.1.length<=sizeLine then some (p.1,p.2)else none:=by
 unfold mLst
 rw[q0j]
 congr 1;funext p
 rw[q1e]
 split<;>rfl
theorem qqp:mOf fs ρ=(fs ρ).map λp=>(.lst p.1,p.2):=by
 unfold mOf
 rw[q0j]
 cases fs ρ<;>rfl
theorem ql6{f:List D->Option D}:q0q f fs ρ=(fs ρ).bind λp=>(f p.1).map λx=>(x,p.2):=by
 unfold q0q
 rw[q0j]
 congr 1;funext p
 rw[q1e]
theorem qgp{f:List D->Option D}:q20 f fs ρ=(fs ρ).bind λp=>(qdl (f p.1)).map λx=>(x,p.2):=by
 unfold q20
 rw[q0j]
 congr 1;funext p
 rw[q1e]
def lsO:D->Option (List D)
 |.lst xs=>some xs
 |_=>none
theorem qgo{f:List D->List D->Option (D×List D)}{i:Nat}:q14 f i fs ρ=(fs ρ).bind λp=>((p.2[i]?).join.bind lsO).bind λxs=>(f xs p.1).map λr=>(r.1,p.2.set i (some (.lst r.2))):=by
 unfold q14
 rw[q0j]
 congr 1;funext p
 cases h:p.2[i]? with
 |none=>rfl
 | some o=>
   cases o with
   |none=>rfl
   | some d=>
     cases d with
     | lst xs=>
       show(match f xs p.1 with|some (d,ys)=>some (d,p.2.set i (some (.lst ys)))|none=>none)=_
       show _=(f xs p.1).map _
       cases f xs p.1<;>rfl
     |_=>rfl
theorem ql5{n:Nat}{js:List Nat}{bw:Option (Nat×Nat)}{fg:RhG}:q15 n js bw fs fg ga fa ρ=(fs ρ).bind λp=>if p.1.length<=sizeLine then q0e n js bw fg ga fa p.1 p.2 else none:=by
 unfold q15
 rw[q0j]
theorem qi8:mSeq fa ρ=(fa ρ).bind λp=>(dSeq p.1).map λx=>(x,p.2):=by
 unfold mSeq
 rw[q0j]
 congr 1;funext p
 rw[q1e]
 cases p.1<;>rfl
def rng1:List D->Option (List D)
 |[.int j]=>if big j=true then some (q16 0 j.toNat)else none
 |_=>none
theorem qe8:q3m fs ρ=(fs ρ).bind λp=>(rng1 p.1).map λx=>(x,p.2):=by
 unfold q3m
 rw[q0j]
 congr 1;funext p
 rw[q1e]
 rfl
def rng2:List D->Option (List D)
 |[.int i,.int j]=>if(big i&&big j)=true then some (q16 i (j-i).toNat)else none
 |_=>none
theorem qe7:q7z fs ρ=(fs ρ).bind λp=>(rng2 p.1).map λx=>(x,p.2):=by
 unfold q7z
 rw[q0j]
 congr 1;funext p
 rw[q1e]
 rfl
def zip2:List D->Option (List D)
 | [x,y]=>match dSeq x,dSeq y with
   |some xs,some ys=>some (zipD xs ys)
   |_,_=>none
 |_=>none
theorem qoz:mZip fs ρ=(fs ρ).bind λp=>(zip2 p.1).map λx=>(x,p.2):=by
 unfold mZip
 rw[q0j]
 congr 1;funext p
 rw[q1e]
 rfl
def inO:D->Option (Option Int)
 |.int i=>some (some i)
 |_=>none
theorem q97:q6o fa ρ=(fa ρ).bind λp=>(inO p.1).map λx=>(x,p.2):=by
 unfold q6o
 rw[q0j]
 congr 1;funext p
 rw[q1e]
 cases p.1<;>rfl
theorem qp1:mSl fa fl fh ρ=(fa ρ).bind λp=>(fl p.2).bind λq=>(fh q.2).bind λr=>(dSl p.1 q.1 r.1).map λx=>(x,r.2):=by
 unfold mSl
 rw[q0j]
 congr 1;funext p
 rw[q0j]
 congr 1;funext q
 rw[q0j]
 congr 1;funext r
 rw[q1e]
def slO(d:D)(lo hi:Option Int):Option (List D):=match d with
 |.lst xs=>some (cutD xs lo hi)
 |_=>none
theorem qi7:mSlL fa fl fh ρ=(fa ρ).bind λp=>(fl p.2).bind λq=>(fh q.2).bind λr=>(slO p.1 q.1 r.1).map λx=>(x,r.2):=by
 unfold mSlL
 rw[q0j]
 congr 1;funext p
 rw[q0j]
 congr 1;funext q
 rw[q0j]
 congr 1;funext r
 rw[q1e]
 rfl
theorem qe5{f h:RhO}:sSeq f h ρ=(f ρ).bind λo=>match o with
   |.nx ρ1=>h ρ1
   |o=>some o:=by
 unfold sSeq
 cases f ρ with
 |none=>rfl
 |some o=>cases o<;>rfl
theorem qkt{i:Nat}:sSet i fa ρ=(fa ρ).map λp=>.nx (p.2.set i (some p.1)):=by
 unfold sSet
 cases fa ρ<;>rfl
theorem qkv{i:Nat}:sOwn i fs ρ=(fs ρ).bind λp=>if i<p.2.length then some (.nx (p.2.set i (some (.lst p.1))))else none:=by
 unfold sOwn
 cases fs ρ<;>rfl
theorem ql1{fg:RhG}:sAsg fa fg ρ=(fa ρ).bind λp=>(fg p.1 p.2).map .nx:=by
 unfold sAsg
 cases fa ρ with
 |none=>rfl
 | some p=>
   obtain⟨d,ρ1⟩:=p
   show(match fg d ρ1 with|none=>none|some ρ2=>some (Out.nx ρ2))=(fg d ρ1).map _
   cases fg d ρ1<;>rfl
theorem qp2{f h:RhO}:sIf ga f h ρ=(ga ρ).bind λp=>if p.1=true then f p.2 else h p.2:=by
 unfold sIf
 cases ga ρ<;>rfl
theorem qku:sRet fa ρ=(fa ρ).map λp=>.rt p.1 p.2:=by
 unfold sRet
 cases fa ρ<;>rfl
theorem qaj:q5m fs ρ=(fs ρ).map λp=>.rt (.lst p.1) p.2:=by
 unfold q5m
 cases fs ρ<;>rfl
theorem qgl{i:Nat}:q54 i ρ=((ρ[i]?).join.bind lsO).map λd=>.rt (.lst d) (ρ.set i none):=by
 unfold q54
 cases h:ρ[i]? with
 |none=>rfl
 | some o=>
   cases o with
   |none=>rfl
   |some d=>cases d<;>rfl
theorem qae{α:Type}(i:Nat)(x:Option α):(if isL ρ i=true then x else none)=((ρ[i]?).join.bind lsO).bind λ_=>x:=by
 unfold isL
 cases h:ρ[i]? with
 |none=>rfl
 | some o=>
   cases o with
   |none=>rfl
   |some d=>cases d<;>rfl
theorem qkw:sNil ρ=some (.nx ρ):=rfl
theorem qkx{gm:List D->List D->Option (List D)}{i:Nat}:sMut gm i fs ρ=((ρ[i]?).join.bind lsO).bind λ_=>(fs ρ).bind λp=>((p.2[i]?).join.bind lsO).bind λxs=>(gm xs p.1).map λys=>.nx (p.2.set i (some (.lst ys))):=by
 refine Eq.trans ?_ (qae _ _)
 unfold sMut
 congr 1
 cases fs ρ with
 |none=>rfl
 | some p=>
   show(match p.2[i]? with|some (some (.lst xs))=>_|_=>none)=_
   show _=((p.2[i]?).join.bind lsO).bind _
   cases h:p.2[i]? with
   |none=>rfl
   | some o=>
     cases o with
     |none=>rfl
     | some d=>
       cases d with
       | lst xs=>
         show(match gm xs p.1 with|some ys=>some (Out.nx _)|none=>none)=(gm xs p.1).map _
         cases gm xs p.1<;>rfl
       |_=>rfl
theorem qkz{i:Nat}:sExt i fs ρ=((ρ[i]?).join.bind lsO).bind λ_=>(fs ρ).bind λp=>((p.2[i]?).join.bind lsO).bind λxs=>if xs.length+p.1.length<=sizeLine then some (.nx (p.2.set i (some (.lst (xs++p.1)))))else none:=by
 refine Eq.trans ?_ (qae _ _)
 unfold sExt
 congr 1
 cases fs ρ with
 |none=>rfl
 | some p=>
   show(match p.2[i]? with|some (some (.lst xs))=>_|_=>none)=_
   show _=((p.2[i]?).join.bind lsO).bind _
   cases h:p.2[i]? with
   |none=>rfl
   | some o=>
     cases o with
     |none=>rfl
     |some d=>cases d<;>rfl
def setI(x d k:D):Option D:=match x,k with
 |.lst xs,.int j=>(ixN xs.length j).map λm=>.lst (xs.set m d)
 |_,_=>none
theorem qgk{i:Nat}:qcb i fa fb ρ=(fa ρ).bind λp=>(fb p.2).bind λq=>((q.2[i]?).join).bind λx=>(setI x p.1 q.1).map λy=>.nx (q.2.set i (some y)):=by
 unfold qcb
 cases fa ρ with
 |none=>rfl
 | some p=>
   show(match fb p.2 with|some (.int k,ρ2)=>_|_=>none)=(fb p.2).bind _
   cases fb p.2 with
   |none=>rfl
   | some q=>
     obtain⟨y,ρ2⟩:=q
     cases y with
     | int j=>
       show(match ρ2[i]? with|some (some (.lst xs))=>_|_=>none)=((ρ2[i]?).join).bind _
       cases h:ρ2[i]? with
       |none=>rfl
       | some o=>
         cases o with
         |none=>rfl
         | some d=>
           cases d with
           | lst xs=>
             show(match ixN xs.length j with|some m=>some (Out.nx _)|none=>none)=((ixN xs.length j).map _).map _
             cases ixN xs.length j<;>rfl
           |_=>rfl
     | _=>
       show none=((ρ2[i]?).join).bind _
       cases h:(ρ2[i]?).join with
       |none=>rfl
       |some x=>cases x<;>rfl
theorem qky{fg:RhG}{f:RhO}:sFor fs fg f ρ=(fs ρ).bind λp=>q0z fg f p.1 p.2:=by
 unfold sFor
 cases fs ρ<;>rfl
theorem ql3{i:Nat}{d:D}:gSet i d ρ=some (ρ.set i (some d)):=rfl
theorem ql0{gi:Int->Int->Int}{i:Nat}:sAug gi i fa ρ=((ρ[i]?).join).bind λx=>(fa ρ).bind λp=>(dI0 gi x p.1).map λz=>.nx (p.2.set i (some z)):=by
 unfold sAug
 cases h:ρ[i]? with
 |none=>rfl
 | some o=>
   cases o with
   |none=>rfl
   | some d=>
     cases d with
     | int x=>
       show(match fa ρ with|some (.int y,ρ1)=>some (Out.nx _)|_=>none)=(fa ρ).bind _
       cases fa ρ with
       |none=>rfl
       | some p=>
         obtain⟨y,ρ1⟩:=p
         cases y<;>rfl
     | _=>
       show none=(fa ρ).bind _
       cases fa ρ with
       |none=>rfl
       | some p=>
         obtain⟨y,ρ1⟩:=p
         cases y<;>rfl
end
theorem qcc{n d:Nat}{k:Int}(h:0<=k):HT.sIx n d (some k)=min k.toNat n:=by
 show(if k<0 then(k+(n:Int)).toNat else min k.toNat n)=_
 rw[if_neg (by omega)]
theorem qlc(xs:List D){k:Int}(h:0<=k):cutD xs none (some k)=xs.take k.toNat:=by
 unfold cutD
 rw[qcc h,HT.sIx_none,List.drop_zero,Nat.sub_zero]
 exact List.take_eq_take_min.symm
theorem qei(xs:List D){k:Int}(h:0<=k):cutD xs (some k) none=xs.drop k.toNat:=by
 unfold cutD
 rw[qcc h,HT.sIx_none]
 by_cases hk:k.toNat<=xs.length
 · rw[Nat.min_eq_left hk]
   exact List.take_of_length_le (by rw[vc];exact jc _)
 · rw[Nat.min_eq_right (by omega),List.drop_eq_nil_of_le (jc _),List.drop_eq_nil_of_le (by omega)]
   simp
theorem qeh{xs:List D}{k:Int}(h0:0<=k):dSl (.lst xs) none (some k)=some (.lst (xs.take k.toNat)):=by
 show some (D.lst (cutD xs none (some k)))=_
 rw[qlc xs h0]
theorem q8d{xs:List D}{k:Int}(h0:0<=k):dSl (.lst xs) (some k) none=some (.lst (xs.drop k.toNat)):=by
 show some (D.lst (cutD xs (some k) none))=_
 rw[qei xs h0]
section
variable{X:Cx}{a:Expr}{ta:TE}{p pos:Pos}{zo:List Expr}{x1:Nat}{tp:Pos}
end
section
variable{K:PySem.W.Frag}{O:List Nat}{t:TE}{fa:RhD}
end
section
variable{X:Cx}{K:PySem.W.Frag}{c:MC}{O O':List Nat}{t:TE}{fa:RhD}
end
section
variable{ρ:Rho}{fa fb:RhD}{fs:RhL}
theorem q74(xs ys:List Int):zipD (xs.map D.int) (ys.map D.int)=(xs.zip ys).map λq=>D.tup [.int q.1,.int q.2]:=by
 unfold zipD
 rw[List.zipWith_map,List.zip,List.map_zipWith]
end
section
variable{prog:Program}{w:World}{A:Around}{E:Value->Shared->Prop}{s:Shared}{a₀:Array Keyed}
end
section
variable{X:Cx}{K:PySem.W.Frag}
end
section
variable{K:PySem.W.Frag}{O:List Nat}{t tb:TE}{fa fb:RhD}
end
section
variable{X:Cx}
end
section
variable{X:Cx}
end
section
variable{K:PySem.W.Frag}{O:List Nat}{t tb:TE}{fa fb:RhD}
end
section
variable{c:MC}{O O':List Nat}{te:TE}{fe:RhD}
end
section
variable{K:PySem.W.Frag}{O:List Nat}{tr:TA}{fs:RhL}{E:XK}{n:Nat}
end
section
variable{X:Cx}{K:PySem.W.Frag}{o e:Expr}{es:List Expr}{to:TE}{t:TA}{name:Str}{zq zg:Pos}{T id:String}{r:V->List V->Hp->VK->Prop}
end
end L2
namespace L2
open PySem PySem.NumText
end L2
namespace L2
open PySem PySem.NumText
end L2
namespace L2
open PySem PySem.Spec
section
variable{fa:RhD}{fl fh:Rho->Option (Option Int×Rho)}{ρ:Rho}
end
end L2
namespace L2
open PySem PySem.Spec PyProof.Rows
section
variable{X:Cx}
end
section
variable{K:PySem.W.Frag}{O:List Nat}{t tb:TE}{fa fb:RhD}
end
end L2
namespace L2
open PySem PySem.Spec
end L2
namespace L2
open PySem PySem.Spec PyProof.Rows
section
variable{X:Cx}
end
section
variable{K:PySem.W.Frag}{O:List Nat}{t tb:TE}{fa fb:RhD}
end
section
variable{X:Cx}{z4:List (Addr×Obj)}{σ:St}{CX:CXT}{k:Nat}{f:Addr}{fd:FuncData}{ps:List Str}{sp:Sp}{dvs:List V}{ds:List Value}{E:XK}{x:Str}{p pos:Pos}{e:Expr}{es:List Expr}{t:TA}{i:Nat}
end
section
variable{K:PySem.W.Frag}{O:List Nat}{tr:TA}{fs:RhL}{E:XK}{n:Nat}
end
section
variable{prog:Program}{w:World}{A:Around}{E:Value->Shared->Prop}{s:Shared}
end
section
variable{X:Cx}{a b:Expr}{ta:TA}{p pos:Pos}{zo:List Expr}{x1:Nat}{tp:Pos}
end
section
variable{K:PySem.W.Frag}{O:List Nat}{tr:TA}{fs:RhL}
end
end L2
namespace L2
def parF:Nat->Nat->Nat
 |0,_=>0
 |f+1,n=>(n % 2+parF f (n / 2)) % 2
theorem q7l:∀f,parF f 0=0
 |0=>rfl
 |f+1=>by unfold parF;rw[show(0:Nat) / 2=0 from rfl,q7l f]
theorem qcx:∀f n,parF f n<2
 |0,_=>Nat.zero_lt_two
 |f+1,n=>Nat.mod_lt _ (by decide)
def sgn(win tap:Int):Int:=(parF 5 (win.toNat &&& tap.toNat):Nat)
theorem qip(a t:Int):sgn a t=0∨sgn a t=1:=by
 have:=qcx 5 (a.toNat &&& t.toNat)
 unfold sgn
 omega
def q5n(row:List Int)(signs:List Int):List Int:=((signs.zip row).filter λq=>q.2==1).map (·.1)
theorem q7i(row taps:List Int)(g:Int->Int):q5n row (taps.map g)=((taps.zip row).filter λq=>q.2==1).map λq=>g q.1:=by
 unfold q5n
 rw[List.zip_map_left,List.filter_map,ju]
 rfl
def rowAt(rows:List (List Int))(k:Nat):List Int:=(rows[k % rows.length]?).getD []
theorem q88{α:Type}(f:Nat->List α)(k:Nat):(List.range (k+1)).flatMap f=(List.range k).flatMap f++f k:=by
 rw[List.range_succ,List.flatMap_append]
 simp
theorem q43{α:Type}(f:Nat->List α)(m:Nat)(h:∀k,(f k).length<=m):∀n,((List.range n).flatMap f).length<=n*m
 |0=>by simp
 | n+1=>by
   rw[q88,jr]
   have:=q43 f m h n
   have:=h n
   rw[Nat.succ_mul]
   omega
end L2
namespace L2
open PySem
def rowD(row:List Int):D:=.tup (row.map D.int)
def schD(r:Int)(taps:List Int)(rows:List (List Int))(e:Str):D:=.tup [.int r,.tup (taps.map D.int),.tup (rows.map rowD),.str e]
structure q1i(r:Int)(taps:List Int)(rows:List (List Int))(e:Str):Prop where
 r0:0<=r
 r4:r<=4
 t1:1<=taps.length
 t4:taps.length<=4
 tb:∀t∈taps,0<=t/\t<2*2^r.toNat
 m1:1<=rows.length
 m6:rows.length<=6
 rw:∀row∈rows,row.length=taps.length/\∀b∈row,b=0∨b=1
 en:e="open"∨e="ended"∨e="ring"
theorem q92{P:Int->Prop}:∀{ys:List D},(∀y∈ys,∃t,y=.int t/\P t)->∃ts:List Int,ys=ts.map D.int/\∀t∈ts,P t
 |[],_=>⟨[],rfl,λ_ h=>nomatch h⟩
 | y::ys,h=>by
   obtain⟨t,rfl,ht⟩:=h y jg
   obtain⟨ts,rfl,hs⟩:=q92 (P:=P) λz hz=>h z (jk _ hz)
   refine⟨t::ts,rfl,λu hu=>?_⟩
   rcases List.mem_cons.mp hu with rfl|hu
   · exact ht
   · exact hs u hu
theorem qf0{x:Int}(h:0<=x):Builtin.bitAnd x 1=x % 2:=by
 unfold Builtin.bitAnd
 rw[decide_eq_true h,decide_eq_true (by decide:(0:Int)<=1)]
 show((x.toNat &&& 1:Nat):Int)=x % 2
 rw[Nat.and_one_is_mod]
 omega
theorem qf1{x y:Int}(h:0<=x)(g:0<=y):Builtin.bitAnd x y=((x.toNat &&& y.toNat:Nat):Int):=by
 unfold Builtin.bitAnd
 rw[decide_eq_true h,decide_eq_true g]
theorem qf4{x y:Int}(h:x=0∨x=1)(g:y=0∨y=1):Builtin.bitXor x y=(x+y) % 2:=by
 rcases h with rfl|rfl<;>rcases g with rfl|rfl<;>decide
theorem q3k{r:Int}(r0:0<=r)(r4:r<=4):(1:Int)<=2^r.toNat/\(2:Int)^r.toNat<=16:=by
 rcases(by omega:r=0∨r=1∨r=2∨r=3∨r=4)with rfl|rfl|rfl|rfl|rfl<;>decide
end L2
namespace L2
open PySem PySem.Spec
def DOk(n:Nat)(d:D):Prop:=∃p,d.toP=some p/\p.canLay0=true/\p.depth<=n
def DOks(n:Nat)(ds:List D):Prop:=∃ps,D.toPs ds=some ps/\PyData.canLayAll0 ps=true/\PyData.depthAll ps<=n
theorem DOk.int(n:Nat)(i:Int):DOk n (.int i):=⟨.int i,by simp only[D.toP],by simp only[PyData.canLay0],by simp only[PyData.depth];exact Nat.zero_le _⟩
theorem DOk.bl(n:Nat)(i:Bool):DOk n (.bl i):=⟨.bool i,by simp only[D.toP],by simp only[PyData.canLay0],by simp only[PyData.depth];exact Nat.zero_le _⟩
theorem DOk.str(n:Nat){x:Str}(h:PyData.strOk x=true):DOk n (.str x):=⟨.str x,by simp only[D.toP],by simp only[PyData.canLay0];exact h,by simp only[PyData.depth];exact Nat.zero_le _⟩
theorem DOks.nil(n:Nat):DOks n []:=⟨[],by simp only[D.toPs],by simp only[PyData.canLayAll0],by simp only[PyData.depthAll];exact Nat.zero_le _⟩
theorem DOks.cons{n:Nat}{d:D}{ds:List D}(h:DOk n d)(r:DOks n ds):DOks n (d::ds):=by
 obtain⟨p,h1,h2,h3⟩:=h
 obtain⟨ps,g1,g2,g3⟩:=r
 refine⟨p::ps,by simp only[D.toPs,h1,g1],by simp only[PyData.canLayAll0,h2,g2];rfl,?_⟩
 simp only[PyData.depthAll]
 exact Nat.max_le.mpr ⟨h3,g3⟩
theorem DOks.all{n:Nat}:∀{ds:List D},(∀d∈ds,DOk n d)->DOks n ds
 |[],_=>DOks.nil n
 |d::ds,h=>DOks.cons (h d jg) (DOks.all λx hx=>h x (jk _ hx))
theorem DOks.lst{n:Nat}{ds:List D}(h:DOks n ds):DOk (n+1) (.lst ds):=by
 obtain⟨ps,g1,g2,g3⟩:=h
 exact⟨.list ps,by simp only[D.toP,g1];rfl,by simp only[PyData.canLay0];exact g2,by simp only[PyData.depth];omega⟩
theorem DOks.tup{n:Nat}{ds:List D}(h:DOks n ds):DOk (n+1) (.tup ds):=by
 obtain⟨ps,g1,g2,g3⟩:=h
 exact⟨.tuple ps,by simp only[D.toP,g1];rfl,by simp only[PyData.canLay0];exact g2,by simp only[PyData.depth];omega⟩
theorem q6y{n:Nat}{d:D}(h:DOk n d)(hn:n<=64):eqD d d=some true:=by
 obtain⟨p,h1,h2,h3⟩:=h
 have hs:SeqAt.shaped p=true:=by
   unfold SeqAt.shaped
   rw[h2,decide_eq_true (by omega:p.depth<=64)]
   rfl
 unfold eqD
 rw[h1]
 show(if SeqAt.shaped p=true/\SeqAt.shaped p=true then some (PyData.eqv p p)else none)=some true
 rw[if_pos ⟨hs,hs⟩,SeqAt.eqv_refl p h2]
theorem q98{n:Nat}{d:D}{ds:List D}(h:DOk n d)(r:DOks n ds)(hn:n<64):eqD (.lst (d::ds)) (.lst [])=some false:=by
 obtain⟨p,h1,h2,h3⟩:=DOks.lst (DOks.cons h r)
 obtain⟨q,g1,g2,g3⟩:=h
 obtain⟨qs,k1,k2,k3⟩:=r
 have e:D.toP (.lst (d::ds))=some (.list (q::qs)):=by simp only[D.toP,D.toPs,g1,k1];rfl
 rw[e]at h1
 cases h1
 have hs:SeqAt.shaped (.list (q::qs))=true:=by
   unfold SeqAt.shaped
   rw[h2,decide_eq_true (by omega:(PyData.list (q::qs)).depth<=64)]
   rfl
 have e0:D.toP (.lst [])=some (.list []):=by simp only[D.toP,D.toPs];rfl
 have hs0:SeqAt.shaped (.list [])=true:=by decide+kernel
 unfold eqD
 rw[e,e0]
 show(if SeqAt.shaped (.list (q::qs))=true/\SeqAt.shaped (.list [])=true then some (PyData.eqv (.list (q::qs)) (.list []))else none)=some false
 rw[if_pos ⟨hs,hs0⟩]
 simp[PyData.eqv,PyData.eqvAll]
end L2
namespace L2
open PySem PySem.Spec
end L2
namespace L2
open PySem PySem.Spec PySem.NumText
section
variable{K:PySem.W.Frag}{O:List Nat}{E:XK}
end
end L2
namespace L2
open PySem PySem.Spec PyProof.Rows
section
variable{c:MC}{O O':List Nat}{te:TE}{fa:RhD}
end
section
variable{M:Model}{A:Around}{E:Value->Shared->Prop}{s:Shared}{B:Heap}{env:Env}{outer l:List Env}{L e:Addr}{cls fl:Value}{Q:Unit->Shared->Prop}
end
section
variable{X:Cx}{z4:List (Addr×Obj)}{σ:St}{H H':Hp}{s:Shared}
end
section
variable{P:Program}{w:World}{K:PySem.W.Frag}{mg:Str->Option Value}{base:Heap}{N:List Str}{qual:Str}{scope:Scope}{f:Addr}{cd:Value}{A:Around}{outer:List Env}{s₀:Shared}{H₀:Hp}{E:XK}
end
section
variable{X:Cx}{tg elt ze:Expr}{ifs:List Expr}{scope:Scope}{pos:Pos}{N N0:List Str}{n:Nat}{js:List Nat}{sc:Scope}{wi:TI}{g:TG}{tt:TT}{te:TE}
end
section
variable{X:Cx}{tg elt ze:Expr}{ifs:List Expr}{scope:Scope}{pos:Pos}{N N0:List Str}{n:Nat}{js:List Nat}{sc:Scope}{wi:TI}{g:TG}{tt:TT}{te:TE}
end
@[irreducible] def QSs(X:Cx)(st:List Stmt)(t:TS):Prop:=PSs X st t
section
variable{X:Cx}{st:Stmt}{sts a b:List Stmt}{t u:TS}{tc:TT}{c tg ze:Expr}{wi:TI}{g:TG}{pos:Pos}
end
inductive Inn(K:PySem.W.Frag)(H R:Hp):List Addr->List (List D)->Prop
 |nil:Inn K H R [] []
 |cons {a:Addr} {as:List Addr} {vs:List V} {ds:List D} {dss:List (List D)}:H a=some (.lst vs)->R a=none->Rps K R vs ds->Inn K H R as dss->Inn K H R (a::as) (ds::dss)
structure Deep(K:PySem.W.Frag)(H R:Hp)(l:Addr)(as:List Addr)(dss:List (List D)):Prop where
 top:H l=some (.lst (as.map V.ref))
 rl:R l=none
 inn:Inn K H R as dss
 nd:(l::as).Nodup
theorem StR.put{K:PySem.W.Frag}{Z:Anc}{O:List Nat}{σ:St}{H R:Hp}{ρ:Rho}{a:Addr}{o:HO}(S:StR K Z O σ H R ρ)(hr:R a=none)(n:∀i,i∈O->σ[i]? ≠some (some (.ref a)))(z:Z.H0 a=none):StR K Z O σ (upd H a o) R ρ:=by
 have ne:∀b u,Z.H0 b=some u->b≠a:=λb u e q=>by rw[q,z]at e;cases e
 refine⟨λb u e=>?_,S.len,S.env,λi hi=>?_,S.dis,λb u e nl=>?_,S.ar,S.an,λb h=>?_,S.ao,S.ap⟩
 · have q:b≠a:=λq=>by rw[q,hr]at e;cases e
   rw[q0d q]
   exact S.sub b u e
 · obtain⟨l,vs,ds,h1,h2,h3,h4,h5⟩:=S.own i hi
   have q:l≠a:=λq=>n i hi (by rw[h2,q])
   exact⟨l,vs,ds,h1,h2,by rw[q0d q];exact h3,h4,h5⟩
 · rw[q0d (ne b u e)]
   exact S.ah b u e nl
 · have q:b≠a:=λq=>h (by rw[q];exact z)
   have l:=S.ad b h
   unfold Liv at l ⊢
   rw[q0d q]
   exact l
theorem Inn.has{K:PySem.W.Frag}{H R:Hp}{as:List Addr}{dss:List (List D)}(h:Inn K H R as dss):∀a∈as,∃vs,H a=some (.lst vs):=by
 induction h with
 |nil=>exact λ_ h=>nomatch h
 | cons h1 _ _ _ ih=>
   intro a ha
   rcases List.mem_cons.mp ha with rfl|ha
   · exact⟨_,h1⟩
   · exact ih a ha
theorem Inn.snoc{K:PySem.W.Frag}{H R:Hp}{as:List Addr}{dss:List (List D)}{b:Addr}{vs:List V}{ds:List D}(h:Inn K H R as dss)(h1:H b=some (.lst vs))(h2:R b=none)(h3:Rps K R vs ds):Inn K H R (as++[b]) (dss++[ds]):=by
 induction h with
 |nil=>exact .cons h1 h2 h3 .nil
 |cons g1 g2 g3 _ ih=>exact .cons g1 g2 g3 ih
theorem Inn.len{K:PySem.W.Frag}{H R:Hp}{as:List Addr}{dss:List (List D)}(h:Inn K H R as dss):as.length=dss.length:=by
 induction h with
 |nil=>rfl
 |cons _ _ _ _ ih=>rw[jo,jo,ih]
theorem Inn.at{K:PySem.W.Frag}{H R:Hp}{as:List Addr}{dss:List (List D)}(h:Inn K H R as dss):∀{k:Nat} {a:Addr},as[k]? =some a->∃vs ds,dss[k]? =some ds/\H a=some (.lst vs)/\R a=none/\Rps K R vs ds:=by
 induction h with
 |nil=>intro k a e;simp at e
 | cons h1 h2 h3 _ ih=>
   intro k a e
   cases k with
   | zero=>
     cases e
     exact⟨_,_,rfl,h1,h2,h3⟩
   |succ k=>exact ih e
theorem Inn.other{K:PySem.W.Frag}{H R:Hp}{as:List Addr}{dss:List (List D)}{b:Addr}{o:HO}(h:Inn K H R as dss)(n:b∉as)(hb:R b=none):Inn K H (upd R b o) as dss:=by
 have s:Same R (upd R b o):=λa u e=>by
   have q:a≠b:=λq=>by rw[q,hb]at e;cases e
   rw[q0d q]
   exact e
 induction h with
 |nil=>exact .nil
 | cons h1 h2 h3 _ ih=>
   exact .cons h1 (by rw[q0d λq=>n (by rw[q];exact jg)];exact h2) (h3.mono s) (ih λq=>n (jk _ q))
theorem Inn.same{K:PySem.W.Frag}{H R H':Hp}{as:List Addr}{dss:List (List D)}(h:Inn K H R as dss)(s:Same H H'):Inn K H' R as dss:=by
 induction h with
 |nil=>exact .nil
 |cons h1 h2 h3 _ ih=>exact .cons (s _ _ h1) h2 h3 ih
theorem Inn.stp{K:PySem.W.Frag}{O:List Nat}{σ:St}{H R H' R':Hp}{as:List Addr}{dss:List (List D)}(h:Inn K H R as dss)(s:Stp O σ H R H' R')(ow:∀a∈as,∀j,j∈O->σ[j]? ≠some (some (.ref a))):Inn K H' R' as dss:=by
 induction h with
 |nil=>exact .nil
 | @cons a as vs ds dss h1 h2 h3 _ ih=>
   refine .cons (s.h _ _ h1 (ow a jg)) ?_ (h3.mono s.r) (ih λb hb=>ow b (jk _ hb))
   cases q:R' a with
   |none=>rfl
   | some o=>
     rcases s.n a (by rw[q];exact λz=>nomatch z)with z|z
     · exact absurd h2 z
     · rcases z with z|⟨xs,z⟩<;>(rw[h1]at z;cases z)
structure StD(K:PySem.W.Frag)(Z:Anc)(O:List Nat)(i:Nat)(σ:St)(H R:Hp)(ρ:Rho)(l:Addr)(as:List Addr)(dss:List (List D)):Prop where
 st:StR K Z O σ H R ρ
 hi:i∉O
 no:ρ[i]? =some none
 at':σ[i]? =some (some (.ref l))
 dp:Deep K H R l as dss
 z0:∀a∈l::as,Z.H0 a=none
 ow:∀a∈l::as,∀j,j∈O->σ[j]? ≠some (some (.ref a))
section
variable{K:PySem.W.Frag}{Z:Anc}{O:List Nat}{i j:Nat}{σ:St}{H R H' R':Hp}{ρ ρ':Rho}{l:Addr}{as:List Addr}{dss:List (List D)}
theorem StD.stp(S:StD K Z O i σ H R ρ l as dss)(T:StR K Z O σ H' R' ρ')(s:Stp O σ H R H' R')(no:ρ'[i]? =some none):StD K Z O i σ H' R' ρ' l as dss:=by
 refine⟨T,S.hi,no,S.at',⟨s.h _ _ S.dp.top (S.ow l jg),?_,S.dp.inn.stp s λa ha=>S.ow a (jk _ ha),S.dp.nd⟩,S.z0,S.ow⟩
 cases q:R' l with
 |none=>rfl
 | some o=>
   rcases s.n l (by rw[q];exact λz=>nomatch z)with z|z
   · exact absurd S.dp.rl z
   · rcases z with z|⟨xs,z⟩<;>(rw[S.dp.top]at z;cases z)
theorem StD.set(S:StD K Z O i σ H R ρ l as dss){v:V}{d:D}(hj:j∉O)(ij:j≠i)(r:Rp K R v d):StD K Z O i (σ.set j (some v)) H R (ρ.set j (some d)) l as dss:=
 ⟨S.st.set hj r,S.hi,by rw[jm ij];exact S.no,by rw[jm ij];exact S.at',S.dp,S.z0,λa ha k hk=>by
   rw[jm λ(q:j=k)=>hj (q▸hk)]
   exact S.ow a ha k hk⟩
theorem StR.blind{v:V}(S:StR K Z O σ H R ρ)(hj:j∉O):StR K Z O (σ.set j (some v)) H R (ρ.set j none):=by
 have ne:∀k,k∈O->j≠k:=λk hk z=>hj (z▸hk)
 refine⟨S.sub,by rw[xg,xg];exact S.len,λk e hk q=>?_,λk hk=>?_,λk m hk hm n l e=>?_,S.ah,S.ar,S.an,S.ad,λk hk hp l e=>?_,λk hk hp l e=>?_⟩
 · by_cases hij:j=k
   · subst hij
     have hl:j<ρ.length:=by
       have:=(List.getElem?_eq_some_iff.mp q).1
       rwa [xg]at this
     rw[x6 hl]at q
     cases q
   · rw[jm hij]at q ⊢
     exact S.env k e hk q
 · rw[jm (ne k hk),jm (ne k hk)]
   exact S.own k hk
 · rw[jm (ne k hk)]at e
   rw[jm (ne m hm)]
   exact S.dis k m hk hm n l e
 · rw[jm (ne k hk)]at e
   exact S.ao k hk hp l e
 · rw[jm (ne k hk)]at e
   exact S.ap k hk hp l e
end
section
variable{K:PySem.W.Frag}{O:List Nat}{i j:Nat}{t u:TS}{te:TE}{tt:TT}{tr:TA}{f h:Fd}{fe:RhD}{fs:RhL}{ft:RhB}
end
theorem qeo{X:Cx}{K:PySem.W.Frag}(hK:X.K=K)(hc:X.calm=true):q4h X (.builtin "sum") (λxs H Q=>∃(p:Addr) (ns:List Int),xs=[.ref p]/\SqT K H p (ns.map V.int)/\Q (.int ns.sum) H):=by
 subst hK
 intro z4 s σ H xs us Q I r h
 obtain⟨p,ns,rfl,hq,q⟩:=h
 obtain⟨u,rfl,ru⟩:=vals1 r
 cases ru
 obtain⟨its,rv,pl,hz⟩:=I.tuple hq
 have hh:X.A.in1.handled=none:=I.ok.hd hc
 have hl:s.heap.IsTuple p its.toArray:=pl
 have hlt:p<s.heap.objs.size:=by obtain⟨_,e,_⟩:=hl;exact jd e
 refine call_sum_walkG (wpAny_pyIter_tuple hl ?_)
 refine⟨_,_,_,_,_,_,λi=>ns.getD i 0,rfl,Walks.tuple hh s.heap.objs.size p (jj hlt) its.toArray,⟨⟨_,jq _ rfl,rfl,rfl⟩,hl.push _⟩,λb hb=>?_,λi v hP=>q1k rv (by simpa using hP),λh' tk t' hk=>?_⟩
 · show b<(s.heap.push _).objs.size
   rw[kf]
   rcases List.mem_cons.mp hb with rfl|hb
   · exact Nat.lt_succ_self _
   · rw[List.mem_singleton.mp hb];exact Nat.lt_succ_of_lt hlt
 · have len:its.toArray.size=ns.length:=by have:=rv.length;simp at this;simp;omega
   refine⟨.int ns.sum,H,I.kept (t':=tk) λb o e=>hk b o (λz=>?_) (je _ e),⟨t',?_⟩,q⟩
   · have:=jd e
     rw[List.mem_singleton.mp z]at this
     exact xm _ this
   · rw[len,q3j ns _ (jc _),List.take_length]
def qbc:D->Option D
 |.tup xs=>(q2l xs).map λns=>.int ns.sum
 |_=>none
theorem qld{K:PySem.W.Frag}:qbf K (λxs H Q=>∃(p:Addr) (ns:List Int),xs=[.ref p]/\SqT K H p (ns.map V.int)/\Q (.int ns.sum) H) qbc:=λH x d u Q r e k=>by
 unfold qbc at e
 split at e
 · rename_i ds
   obtain⟨a,xs,rfl,h,q⟩:=r.isT
   cases z:q2l ds with
   |none=>rw[z]at e;cases e
   | some ns=>
     rw[z]at e
     cases e
     have ex:=q2k q z
     subst ex
     exact⟨_,ns,rfl,SqT.of h,k _ (.int _)⟩
 · cases e
section
variable{K:PySem.W.Frag}{O T:List Nat}{i:Nat}{t:TS}{te:TE}{tr:TA}{g:TG}{f:Fd}{fe:RhD}{fs:RhL}{fg:RhG}
end
theorem Inn.empty{K:PySem.W.Frag}{H R:Hp}:∀{as:List Addr},(∀a∈as,H a=some (.lst []))->(∀a∈as,R a=none)->Inn K H R as (List.replicate as.length [])
 |[],_,_=>.nil
 |a::as,h,r=>.cons (h a jg) (r a jg) .nil (Inn.empty (λb hb=>h b (jk _ hb)) λb hb=>r b (jk _ hb))
section
variable{X:Cx}{K:PySem.W.Frag}{a tg:Expr}{ta:TE}{p pos:Pos}
end
section
variable{X:Cx}{K:PySem.W.Frag}{O:List Nat}{a:Expr}{ta:TE}{p p2 pos zm:Pos}{fa:RhD}
end
structure Kp(I S:Addr)(s0 s:Shared):Prop where
 heap:∀b o,b≠I->b≠S->s0.heap.get? b=some o->s.heap.get? b=some o
 gens:s.gens=s0.gens
 drawn:s.drawn=s0.drawn
 os:s.os=s0.os
structure Kq(s s':Shared):Prop where
 heap:∀b o,s.heap.get? b=some o->s'.heap.get? b=some o
 gens:s'.gens=s.gens
 drawn:s'.drawn=s.drawn
 os:s'.os=s.os
theorem Kp.on{I S:Addr}{s0 s s':Shared}(x:Kp I S s0 s)(heap:∀b o,b≠I->b≠S->s.heap.get? b=some o->s'.heap.get? b=some o)(g:s'.gens=s.gens)(d:s'.drawn=s.drawn)(o:s'.os=s.os):Kp I S s0 s':=
 ⟨λb u h1 h2 e=>heap b u h1 h2 (x.heap b u h1 h2 e),g.trans x.gens,d.trans x.drawn,o.trans x.os⟩
section
variable{prog:Program}{w:World}{A:Around}{R:Result->Shared->Prop}{I S l:Addr}{its:Array Value}{s0:Shared}{bt:Nat->Nat->Bool}{kw:List (Str×Value)}
abbrev StL(I l:Addr)(its:Array Value)(i:Nat)(h:Heap):Prop:=h.IsListIter I l i/\h.IsList l its
theorem StL.keep{i:Nat}{h h':Heap}(st:StL I l its i h)(k:∀b o,b=I∨b=l->h.get? b=some o->h'.get? b=some o):StL I l its i h':=by
 obtain⟨⟨o,e,c⟩,⟨o2,e2,c2⟩⟩:=st
 exact⟨⟨o,k I o (.inl rfl) e,c⟩,⟨o2,k l o2 (.inr rfl) e2,c2⟩⟩
end
section
open PySem.SeqAt PySem.MeetsSeq PySem.MeetsSeq2 PySem.MeetsSeq3
theorem q34:∀{vs:List Value} {ns:List Int},IntsAre vs ns->∀{i:Nat} {a:Int},ns[i]? =some a->∃t,vs[i]? =some (.int a t):=by
 intro vs ns h
 induction h with
 |nil=>intro i a e;simp at e
 | cons a t _ ih=>
   intro i b e
   cases i with
   |zero=>cases e;exact⟨t,rfl⟩
   |succ i=>exact ih e
end
section
variable{prog:Program}{w:World}{A:Around}{E:Value->Shared->Prop}{s:Shared}
end
inductive Cmps(A:Around)(s:Shared):List Value->List Value->Bool->Prop
 |nil:Cmps A s [] [] false
 |eq {x y:Value} {vs ws:List Value} {r:Bool}:SeqAt.EqAt A s x y true->Cmps A s vs ws r->Cmps A s (x::vs) (y::ws) r
 |ne {x y:Value} {vs ws:List Value} {r:Bool}:SeqAt.EqAt A s x y false->(∀(prog:Program) (w:World) (E Q:Value->Shared->Prop),Q (.bool r) s->wpAny (model prog w) A (richCompare .Lt x y) Q E s)->vs.length=ws.length->Cmps A s (x::vs) (y::ws) r
theorem Cmps.len{A:Around}{s:Shared}{vs ws:List Value}{r:Bool}(h:Cmps A s vs ws r):vs.length=ws.length:=by
 induction h with
 |nil=>rfl
 |eq _ _ ih=>rw[jo,jo,ih]
 |ne _ _ e=>rw[jo,jo,e]
section
open PySem.SeqAt
open PySem.AutoSeq1 (wpAny_loadPart')
open PySem.MeetsSeq PySem.MeetsSeq2 PySem.MeetsSeq3
end
section
variable{prog:Program}{w:World}{A:Around}{E:Value->Shared->Prop}{s:Shared}
end
section
variable{prog:Program}{w:World}{A:Around}{E:Value->Shared->Prop}{s:Shared}{Q:Value->Shared->Prop}{p:Addr}{its:Array Value}{bt:Nat->Nat->Bool}
end
theorem qa8{X:Cx}{z4:List (Addr×Obj)}{σ:St}{H:Hp}{s s':Shared}(I:Inv X z4 σ H s)(k:Kq s s'):Inv X z4 σ H s':=by
 have es:s'={s with heap:=s'.heap,toks:=s'.toks}:=by
   obtain⟨h2,g2,d2,t2,o2⟩:=s'
   obtain⟨_,eg,ed,eo⟩:=k
   cases eg;cases ed;cases eo
   rfl
 rw[es]
 exact I.kept k.heap
section
variable{X:Cx}{K:PySem.W.Frag}{O:List Nat}{e:Expr}{d:Expr}{te:TE}{p kp pos:Pos}{fe:RhD}
end
section
variable{X:Cx}{K:PySem.W.Frag}{O:List Nat}
def PrV(K:PySem.W.Frag)(H:Hp)(v:V)(q:Int×List Int):Prop:=∃a b,v=.ref a/\SqT K H a [.int q.1,.ref b]/\SqL K H b (q.2.map V.int)
theorem q77:∀{xs:List V} {us:List Value} {i:Nat} {u:Value},Vals xs us->us[i]? =some u->∃x,xs[i]? =some x/\RelV x u
 |_,_,_,_,.nil,e=>by simp at e
 |_,_,0,_,.cons r _,e=>by simp at e;subst e;exact⟨_,rfl,r⟩
 | _,_,i+1,u,.cons _ t,e=>by
   obtain⟨x,h1,h2⟩:=q77 (i:=i) (u:=u) t (by simpa using e)
   exact⟨x,by simpa using h1,h2⟩
theorem qaf:∀{xs:List D} {ns:List Int},q2l xs=some ns->xs=ns.map D.int
 |[],ns,h=>by cases h;rfl
 | d::r,ns,h=>by
   cases d with
   | int i=>
     have h:(q2l r).map (λx=>i::x)=some ns:=h
     cases q:q2l r with
     |none=>rw[q]at h;cases h
     | some ms=>
       rw[q]at h
       cases h
       rw[qaf q]
       rfl
   |_=>cases h
theorem PrV.mono{H R:Hp}{v:V}{q:Int×List Int}(s:Same R H)(h:PrV K R v q):PrV K H v q:=by
 obtain⟨a,b,e,h1,h2⟩:=h
 exact⟨a,b,e,Same.tup s h1,Same.sqL s h2⟩
end
section
variable{prog:Program}{w:World}{K:Type}[DecidableEq K]{knd:HeapKind prog w K}{A:Around}{E:Value->Shared->Prop}{s:Shared}
def DictE(knd:HeapKind prog w K)(h:Heap)(d:Addr)(xs:List (K×Addr×Value)):Prop:=
 ∃o es,h.get? d=some o/\o.ExactDict/\o.data=.dict es xs.length/\es.toList=xs.map (entryOfKey knd)/\(∀x∈xs,knd.is h x.1 x.2.1)/\(xs.map (·.1)).Nodup
theorem DictE.of{h:Heap}{d:Addr}{xs:List (K×Addr×Value)}(x:DictE knd h d xs):h.DictOfH knd d xs:=let ⟨o,es,r⟩:=x;⟨o,es,xs.length,r⟩
theorem qpz{d b:Addr}{xs:List (K×Addr×Value)}{k:K}{v:Value}{Q:Unit->Shared->Prop}(hu:knd.room A)(kb:knd.is s.heap k b)(hm:DictE knd s.heap d xs)(hz:xs.length<=sizeLine)
   (q:∀h',DictE knd h' d (storedH xs k b v)->Heap.SameBut d s.heap h'->Q () {s with heap:=h',toks:=s.toks+knd.draws k}):wpAny (model prog w) A (dictSet d (.ref b) v) Q E s:=by
 obtain⟨o,es,g0,cx,dt,ee,al,nd⟩:=hm
 unfold dictSet
 (try with_reducible refine x5 ?_);refine j7 (knd.pyHash hu kb ?_)
 unfold dictSetHashed
 (try with_reducible refine x5 ?_);refine j7 (wpAny_dictFind_heap (s:={s with toks:=s.toks+knd.draws k}) hu kb g0 dt ee al nd (λno=>?_) (λj p hj=>?_))
 · have e1:=storedH_new (atKey_none_of_get no) b v
   have z1:es.size=xs.length:=size_of_entries ee
   refine j7 (xo (wpAny_updateDictKeys (hz:=by omega) (s:={s with toks:=s.toks+knd.draws k}) g0 dt (q _ ?_ (xn ..))))
   rw[e1]
   refine⟨_,_,ke _ g0 (Obj.isFreed_of_dict (Obj.data_mapDictKeys dt _)),cx.mapDictKeys _,by rw[jr];exact Obj.data_mapDictKeys dt _,by simp[ee,entryOfKey],λx hx=>?_,?_⟩
   · rcases List.mem_append.mp hx with hx|hx
     · exact knd.keeps (al x hx) g0 dt (xn ..)
     · rw[List.mem_singleton.mp hx]
       exact knd.keeps kb g0 dt (xn ..)
   · rw[xq,List.nodup_append]
     refine⟨nd,by simp,λx hx y hy z=>?_⟩
     have ey:y=k:=by simpa using hy
     subst ey
     exact not_mem_keys_of_get no (z▸hx)
 · have e1:=storedH_old (atKey_of_get nd hj) b v
   refine j7 (xo (j7 (wpAny_updateDict (s:={s with toks:=s.toks+knd.draws k}) g0 dt (wpAny_point (q _ ?_ (xn ..))))))
   rw[e1]
   refine⟨_,_,ke _ g0 (Obj.isFreed_of_dict (Obj.data_mapDict dt _)),cx.mapDict _,by rw[ja];exact Obj.data_mapDict dt _,?_,λx hx=>?_,by rw[keys_map_putAt];exact nd⟩
   · have m:=modify_map_putAt (entryOfKey knd) (λe:DictEntry=>{e with val:=v}) k v (λ_ _=>rfl) nd hj
     rw[<-ee]at m
     obtain⟨l⟩:=es
     simpa using m
   · obtain⟨y,hy,rfl⟩:=List.mem_map.mp hx
     unfold putAt
     split<;>exact knd.keeps (al y hy) g0 dt (xn ..)
theorem qm7{d b:Addr}{xs:List (K×Addr×Value)}{k:K}{v:Value}{Q:Unit->Shared->Prop}(hu:knd.room A.in1)(kb:knd.is s.heap k b)(hm:DictE knd s.heap d xs)(hz:xs.length<=sizeLine)
   (q:∀h',DictE knd h' d (storedH xs k b v)->Heap.SameBut d s.heap h'->Q () {s with heap:=h',toks:=s.toks+knd.draws k}):wpAny (model prog w) A (setItem (.ref d) (.ref b) v) Q E s:=by
 have ty:=hm.of.typeIs (s:=s)
 unfold setItem
 (try with_reducible refine x5 ?_);refine j7 (wpAny_sequenceKey ty (by decide) (j7 ?_))
 refine k8 (name:=Str.ofString "__setitem__") ty slot_dict_setitem (xj slot_dict_setitem ty entry_dict_setitem ?_ (args_dict_setitem _ _ _))
 show wpAny _ _ (Builtin.Dict.notOrdered "__setitem__" ⟨[.ref d,.ref b,v],[]⟩ >>= _) _ _ s
 refine j7 (wpAny_notOrdered_dict ty ?_)
 show wpAny _ _ (dictSet d (.ref b) v >>= _) _ _ s
 exact j7 (qpz hu kb hm hz λh' m' t'=>j8 ⟨.none,rfl,j8 (q h' m' t')⟩)
end
section
variable{κ:Type}[DecidableEq κ]
def valV(kvs:List (κ×V))(k:κ):Option V:=(kvs.find? λkv=>decide (kv.1=k)).map (·.2)
def putK(kvs:List (κ×V))(k:κ)(v:V):List (κ×V):=
 if(kvs.any λkv=>decide (kv.1=k))=true then kvs.map (λkv=>if kv.1=k then(kv.1,v)else kv)else kvs++[(k,v)]
def qpd(kvs:List (κ×V))(k:κ):List (κ×V):=kvs.filter λkv=>decide (kv.1≠k)
theorem q4q{p:κ×V}{r:List (κ×V)}{k:κ}(e:p.1=k):valV (p::r) k=some p.2:=by simp[valV,List.find?_cons,e]
theorem q4r{p:κ×V}{r:List (κ×V)}{k:κ}(e:¬p.1=k):valV (p::r) k=valV r k:=by simp[valV,List.find?_cons,e]
theorem q63(k:κ):∀kvs:List (κ×V),(kvs.any λkv=>decide (kv.1=k))=(valV kvs k).isSome
 |[]=>rfl
 | p::r=>by
   rw[List.any_cons]
   by_cases e:p.1=k
   · simp only[q4q e,decide_eq_true e,Bool.true_or,Option.isSome_some]
   · rw[q4r e,decide_eq_false e,Bool.false_or];exact q63 k r
theorem q91(kvs:List (κ×V))(k:κ)(v:V):(putK kvs k v).length<=kvs.length+1:=by
 unfold putK
 split
 · rw[ja];omega
 · rw[jr,jo,List.length_nil];omega
theorem RelO.isSome_eq{o:Option V}{u:Option Value}(r:RelO o u):o.isSome=u.isSome:=by
 cases o with
 | none=>cases u with
   |none=>rfl
   |some _=>exact(show False from r).elim
 | some _=>cases u with
   |none=>exact(show False from r).elim
   |some _=>rfl
theorem RelO.getD{o:Option V}{u:Option Value}{d:V}{d':Value}(r:RelO o u)(rd:RelV d d'):RelV (o.getD d) (u.getD d'):=by
 cases o with
 | none=>cases u with
   |none=>exact rd
   |some _=>exact(show False from r).elim
 | some _=>cases u with
   |none=>exact(show False from r).elim
   |some _=>exact r
theorem KV.val{kvs:List (κ×V)}{vs:List (κ×Value)}(r:KV kvs vs)(k:κ):RelO (valV kvs k) (valueAt vs k):=by
 unfold KV at r
 induction r with
 |nil=>exact True.intro
 | @cons p q ps qs h t ih=>
   obtain⟨h1,h2⟩:=h
   by_cases e:p.1=k
   · have e':q.1=k:=h1.symm.trans e
     have b:valueAt (q::qs) k=some q.2:=by simp[valueAt,List.find?_cons,e']
     rw[q4q e,b];exact h2
   · have e':¬q.1=k:=λz=>e (h1.trans z)
     have b:valueAt (q::qs) k=valueAt qs k:=by simp[valueAt,List.find?_cons,e']
     rw[q4r e,b];exact ih
theorem KV.any{kvs:List (κ×V)}{vs:List (κ×Value)}(r:KV kvs vs)(k:κ):(kvs.any λkv=>decide (kv.1=k))=vs.any λkv=>decide (kv.1=k):=by
 unfold KV at r
 induction r with
 |nil=>rfl
 |cons h t ih=>rw[List.any_cons,List.any_cons,ih,h.1]
theorem KV.repl{kvs:List (κ×V)}{vs:List (κ×Value)}(r:KV kvs vs)(k:κ){y:V}{u:Value}(ry:RelV y u):
   KV (kvs.map λkv=>if kv.1=k then(kv.1,y)else kv) (vs.map λkv=>if kv.1=k then(kv.1,u)else kv):=by
 unfold KV at r ⊢
 induction r with
 |nil=>exact .nil
 | @cons p q ps qs h t ih=>
   rw[ji,ji]
   refine .cons ?_ ih
   obtain⟨h1,h2⟩:=h
   by_cases e:p.1=k
   · rw[if_pos e,if_pos (h1.symm.trans e)];exact⟨h1,ry⟩
   · rw[if_neg e,if_neg (λz=>e (h1.trans z))];exact⟨h1,h2⟩
theorem KV.put{kvs:List (κ×V)}{vs:List (κ×Value)}(r:KV kvs vs)(k:κ){y:V}{u:Value}(ry:RelV y u):KV (putK kvs k y) (stored vs k u):=by
 unfold putK stored
 rw[r.any k]
 by_cases e:(vs.any λkv=>decide (kv.1=k))=true
 · rw[if_pos e,if_pos e];exact r.repl k ry
 · rw[if_neg e,if_neg e];exact Paired.snoc r ⟨rfl,ry⟩
theorem KV.drop{kvs:List (κ×V)}{vs:List (κ×Value)}(r:KV kvs vs)(k:κ):KV (qpd kvs k) (without vs k):=by
 unfold KV at r ⊢
 unfold qpd without
 induction r with
 |nil=>exact .nil
 | @cons p q ps qs h t ih=>
   obtain⟨h1,h2⟩:=h
   rw[List.filter_cons,List.filter_cons]
   by_cases e:p.1=k
   · have a:¬decide (p.1≠k)=true:=by simp[e]
     have b:¬decide (q.1≠k)=true:=by simp[h1.symm.trans e]
     rw[if_neg a,if_neg b];exact ih
   · have e':¬q.1=k:=λz=>e (h1.trans z)
     have a:decide (p.1≠k)=true:=by simp[e]
     have b:decide (q.1≠k)=true:=by simp[e']
     rw[if_pos a,if_pos b];exact .cons ⟨h1,h2⟩ ih
theorem KV.length{kvs:List (κ×V)}{vs:List (κ×Value)}(r:KV kvs vs):kvs.length=vs.length:=Paired.length r
end
theorem qg7{P:Program}{w:World}{k:Key}{u:Value}(r:RelV (kV k) u):(q26 P w).is k u=true:=by
 cases k with
 |inl i=>obtain⟨t,e⟩:=(show∃t,u=Value.int i t from r);subst e;exact q8z P w i t
 |inr x=>obtain⟨t,e⟩:=(show∃t,u=Value.str x t from r);subst e;exact q8y P w x t
theorem q86{P:Program}{w:World}:∀{ks:List Key} {us:List Value},Vals (ks.map kV) us->ItemsAre (q26 P w) ks us
 |[],_,r=>by rw[List.map_nil]at r;cases r;exact .nil
 | k::ks,_,r=>by
   rw[ji]at r
   cases r with
   |cons h t=>exact .cons (qg7 h) (q86 t)
abbrev KT(H:Hp):List (List Key×V)->List (List Key×Addr×Value)->Prop:=Paired λp q=>p.1=q.1/\H q.2.1=some (.tup (p.1.map kV))/\RelV p.2 q.2.2
theorem KT.val{H:Hp}{kvs:List (List Key×V)}{xs:List (List Key×Addr×Value)}(r:KT H kvs xs)(k:List Key):RelO (valV kvs k) ((atKey xs k).map (·.2)):=by
 induction r with
 |nil=>exact True.intro
 | @cons p q ps qs h t ih=>
   obtain⟨h1,_,h2⟩:=h
   by_cases e:p.1=k
   · have e':q.1=k:=h1.symm.trans e
     have b:atKey (q::qs) k=some q.2:=by simp[atKey,List.find?_cons,e']
     rw[q4q e,b];exact h2
   · have e':¬q.1=k:=λz=>e (h1.trans z)
     have b:atKey (q::qs) k=atKey qs k:=by simp[atKey,List.find?_cons,e']
     rw[q4r e,b];exact ih
theorem KT.repl{H:Hp}{kvs:List (List Key×V)}{xs:List (List Key×Addr×Value)}(r:KT H kvs xs)(k:List Key){y:V}{u:Value}(ry:RelV y u):
   KT H (kvs.map λkv=>if kv.1=k then(kv.1,y)else kv) (xs.map (putAt k u)):=by
 induction r with
 |nil=>exact .nil
 | @cons p q ps qs h t ih=>
   rw[ji,ji]
   refine .cons ?_ ih
   obtain⟨h1,h2,h3⟩:=h
   unfold putAt
   by_cases e:p.1=k
   · rw[if_pos e,if_pos (h1.symm.trans e)];exact⟨h1,h2,ry⟩
   · rw[if_neg e,if_neg (λz=>e (h1.trans z))];exact⟨h1,h2,h3⟩
theorem KT.put{H:Hp}{kvs:List (List Key×V)}{xs:List (List Key×Addr×Value)}(r:KT H kvs xs)(k:List Key){b:Addr}{y:V}{u:Value}(hb:H b=some (.tup (k.map kV)))(ry:RelV y u):
   KT H (putK kvs k y) (storedH xs k b u):=by
 have e:(kvs.any λkv=>decide (kv.1=k))=(atKey xs k).isSome:=by
   rw[q63,(r.val k).isSome_eq,Option.isSome_map]
 unfold putK storedH
 rw[e]
 by_cases q:(atKey xs k).isSome=true
 · rw[if_pos q,if_pos q];exact r.repl k ry
 · rw[if_neg q,if_neg q];exact Paired.snoc r ⟨rfl,hb,ry⟩
theorem KT.keeps{H H':Hp}{kvs:List (List Key×V)}{xs:List (List Key×Addr×Value)}(r:KT H kvs xs)(ht:∀b ys,H b=some (.tup ys)->H' b=some (.tup ys)):KT H' kvs xs:=
 Paired.mapP r λ_ _ z=>⟨z.1,ht _ _ z.2.1,z.2.2⟩
section
variable{P:Program}{w:World}{H:Hp}{h:Heap}{a:Addr}
theorem qmi{u:HO}(ok:HOk P w H h)(e:Rd H a u):ObjOk P w H h a u:=e.ok ok
theorem qgu{kvs:List (Key×V)}(ok:HOk P w H h)(e:Rd H a (.dK kvs)):kvs.length<=sizeLine/\(a==sysModules)=false/\∃vs,KV kvs vs/\h.DictOf (q26 P w) a vs:=
 let ⟨z,y,vs,r,d⟩:=(show ObjOk P w H h a (.dK kvs)from qmi ok e);⟨z,y,vs,r,d.of⟩
theorem q85{ks:List Key}(ok:HOk P w H h)(e:H a=some (.tup (ks.map kV))):(tupleKind (q26 P w)).is h ks a:=by
 obtain⟨_,its,r,o,h1,⟨h2,n,h3⟩,_⟩:=(show ObjOk P w H h a (.tup (ks.map kV))from ok a _ e)
 exact⟨o,its.toArray,n,h1,h2,h3,by simpa using q86 r⟩
theorem qeb{kvs:List (List Key×V)}(ok:HOk P w H h)(e:Rd H a (.dT kvs)):kvs.length<=sizeLine/\(a==sysModules)=false/\
   ∃xs,KT H kvs xs/\DictE (tupleKind (q26 P w)) h a xs:=by
 obtain⟨z,y,xs,r,o,es,ep,h1,h2,h3,h4,h5,h6⟩:=(show ObjOk P w H h a (.dT kvs)from qmi ok e)
 have lx:xs.length=kvs.length:=(Paired.length r).symm
 refine⟨z,y,xs,r,o,es,h1,h2,by rw[lx,<-h6];exact h3,h4,λx hx=>?_,h5⟩
 have all:∀{l:List (List Key×V)} {m:List (List Key×Addr×Value)},KT H l m->∀x∈m,(tupleKind (q26 P w)).is h x.1 x.2.1:=by
   intro l m q
   induction q with
   |nil=>intro x hx;exact nomatch hx
   | @cons p q ps qs hq t ih=>
     intro x hx
     rcases List.mem_cons.mp hx with e|hx
     · subst e
       exact q85 ok (by rw[<-hq.1];exact hq.2.1)
     · exact ih x hx
 exact all r x hx
theorem qqs{kvs:List (List Key×V)}(ok:HOk P w H h)(e:H a=some (.dT kvs)):kvs.length<=sizeLine/\(a==sysModules)=false/\
   ∃xs,KT H kvs xs/\DictE (tupleKind (q26 P w)) h a xs:=qeb ok (.inl e)
end
def DGet(H:Hp)(a:Addr)(y:V)(r:Option V):Prop:=
 (∃kvs k,Rd H a (.dK kvs)/\y=kV k/\r=valV kvs k)∨∃kvs k b,Rd H a (.dT kvs)/\y=.ref b/\H b=some (.tup (k.map kV))/\r=valV kvs k
def DPut(H:Hp)(a:Addr)(y v:V)(H':Hp):Prop:=
 (∃kvs k,False/\H a=some (.dK kvs)/\y=kV k/\kvs.length<sizeLine/\H'=upd H a (.dK (putK kvs k v)))∨
 ∃kvs k b,H a=some (.dT kvs)/\y=.ref b/\H b=some (.tup (k.map kV))/\kvs.length<sizeLine/\H'=upd H a (.dT (putK kvs k v))
theorem DGet.k{H:Hp}{a:Addr}{kvs:List (Key×V)}{k:Key}(e:H a=some (.dK kvs)):DGet H a (kV k) (valV kvs k):=.inl ⟨kvs,k,.inl e,rfl,rfl⟩
theorem DGet.t{H:Hp}{a b:Addr}{kvs:List (List Key×V)}{k:List Key}(e:H a=some (.dT kvs))(eb:H b=some (.tup (k.map kV))):DGet H a (.ref b) (valV kvs k):=.inr ⟨kvs,k,b,.inl e,rfl,eb,rfl⟩
theorem DPut.t{H:Hp}{a b:Addr}{kvs:List (List Key×V)}{k:List Key}{v:V}(e:H a=some (.dT kvs))(eb:H b=some (.tup (k.map kV)))(hl:kvs.length<sizeLine):
   DPut H a (.ref b) v (upd H a (.dT (putK kvs k v))):=.inr ⟨kvs,k,b,e,rfl,eb,hl,rfl⟩
section
variable{X:Cx}{z4:List (Addr×Obj)}{σ:St}{H:Hp}{s:Shared}{a:Addr}{y v:V}{u r:Value}{o:Option V}{A:Around}{E:Value->Shared->Prop}
theorem Inv.big(I:Inv X z4 σ H s):sysModules<s.heap.objs.size:=by
 have h:mainGlobals<s.heap.objs.size:=(I.mod.glob.keeps I.bk).lt
 exact Nat.lt_trans (by decide) h
theorem qeg{Q:Value->Shared->Prop}(hu:A.units+1<cLine)(I:Inv X z4 σ H s)(g:DGet H a y (some v))(ry:RelV y u)(h:∀w' s',Inv X z4 σ H s'->RelV v w'->Q w' s'):
   wpAny (model X.prog X.w) A (getItem (.ref a) u) Q E s:=by
 rcases g with⟨kvs,k,e,ey,l⟩|⟨kvs,k,b,e,ey,eb,l⟩
 · subst ey
   obtain⟨z,hd,vs,rel,dd⟩:=qgu I.hok e
   obtain⟨w',hw,rw'⟩:=RelO.some_of (v:=v) (o:=valueAt vs k) (by rw[l];exact rel.val k)
   exact wpAny_getItem_of (qg7 ry) dd.mapOf hw (h w' _ (I.tok _) rw')
 · subst ey
   cases(show u=Value.ref b from ry)
   obtain⟨z,hd,xs,rel,dd⟩:=qeb I.hok e
   obtain⟨w',hw,rw'⟩:=RelO.some_of (v:=v) (o:=(atKey xs k).map (·.2)) (by rw[l];exact rel.val k)
   obtain⟨p,hp,hp2⟩:=Option.map_eq_some_iff.mp hw
   refine wpAny_getItem_heap (tupleKind_room_in1 hu) (q85 I.hok eb) dd.of hp ?_
   rw[hp2]
   exact h w' _ (I.tok _) rw'
theorem d_in{Q:Value->Shared->Prop}(hu:A.units+1<cLine)(I:Inv X z4 σ H s)(g:DGet H a y o)(ry:RelV y u)(h:∀s',Inv X z4 σ H s'->Q (.bool o.isSome) s'):
   wpAny (model X.prog X.w) A (compareOp .In u (.ref a)) Q E s:=by
 rcases g with⟨kvs,k,e,ey,l⟩|⟨kvs,k,b,e,ey,eb,l⟩
 · subst ey
   obtain⟨z,hd,vs,rel,dd⟩:=qgu I.hok e
   refine wpAny_in_of (qg7 ry) hd dd.mapOf ?_
   rw[<-(rel.val k).isSome_eq,<-l]
   exact h _ (I.tok _)
 · subst ey
   cases(show u=Value.ref b from ry)
   obtain⟨z,hd,xs,rel,dd⟩:=qeb I.hok e
   refine wpAny_in_heap (tupleKind_room_in1 hu) (q85 I.hok eb) hd dd.of ?_
   have q:=(rel.val k).isSome_eq
   rw[Option.isSome_map]at q
   rw[<-q,<-l]
   exact h _ (I.tok _)
theorem qlb{Q:Value->Shared->Prop}(hu:A.units+1<cLine)(I:Inv X z4 σ H s)(g:DGet H a y o)(ry:RelV y u)(h:∀s',Inv X z4 σ H s'->Q (.bool (!o.isSome)) s'):
   wpAny (model X.prog X.w) A (compareOp .NotIn u (.ref a)) Q E s:=by
 rcases g with⟨kvs,k,e,ey,l⟩|⟨kvs,k,b,e,ey,eb,l⟩
 · subst ey
   obtain⟨z,hd,vs,rel,dd⟩:=qgu I.hok e
   refine wpAny_notIn_of (qg7 ry) hd dd.mapOf ?_
   rw[<-(rel.val k).isSome_eq,<-l]
   exact h _ (I.tok _)
 · subst ey
   cases(show u=Value.ref b from ry)
   obtain⟨z,hd,xs,rel,dd⟩:=qeb I.hok e
   refine wpAny_notIn_heap (tupleKind_room_in1 hu) (q85 I.hok eb) hd dd.of ?_
   have q:=(rel.val k).isSome_eq
   rw[Option.isSome_map]at q
   rw[<-q,<-l]
   exact h _ (I.tok _)
theorem qla{h':Heap}{t':Nat}{ob:HO}(I:Inv X z4 σ H s)(mu:Mut (H a))(hs:Heap.SameBut a s.heap h')(he:∃q,h'.get? a=some q)(new:ObjOk X.prog X.w (upd H a ob) h' a ob):
   Inv X z4 σ (upd H a ob) {s with heap:=h',toks:=t'}:=
 I.write (x:=a) (e:=a) mu (.inl rfl) (λb q hb z=>(hs.2 b hb).trans z) he new
theorem qef{H':Hp}{Q:Unit->Shared->Prop}(hu:A.units+1<cLine)(I:Inv X z4 σ H s)(g:DPut H a y v H')(ry:RelV y u)(rv:RelV v r)(h:∀s',Inv X z4 σ H' s'->Q () s'):
   wpAny (model X.prog X.w) A (setItem (.ref a) u r) Q E s:=by
 rcases g with⟨kvs,k,e,_⟩|⟨kvs,k,b,e,ey,eb,l,eH⟩
 · exact e.elim
 · subst ey eH
   cases(show u=Value.ref b from ry)
   obtain⟨z,hd,xs,rel,dd⟩:=qqs I.hok e
   have hz:xs.length<=sizeLine:=by rw[<-Paired.length rel];exact z
   have hl:(putK kvs k v).length<=sizeLine:=by have:=q91 kvs k v;omega
   refine qm7 (tupleKind_room_in1 hu) (q85 I.hok eb) dd hz λh' dd' hs=>h _ ?_
   obtain⟨q,es,hq,h2,h3,h4,_,h5⟩:=dd'
   refine qla I (by rw[e];exact True.intro) hs ⟨q,hq⟩ ⟨hl,hd,_,(rel.put k eb rv).keeps λc ys ec=>?_,q,es,_,hq,h2,h3,h4,h5,(Paired.length (rel.put k eb rv)).symm⟩
   rw[q0d (qqc ec e (λz=>nomatch z))]
   exact ec
end
def NoSl(i:Expr):Prop:=∀ov iv,subscripted i false ov iv=operate [ov,iv] (getItem ov iv)
theorem qik{prog:Program}{w:World}{A:Around}{E:Value->Shared->Prop}{s:Shared}{env:Env}{value zf:Expr}{pos:Pos}{T id:String}{Q:Value->Shared->Prop}
   (hl:typeLookup (.type T) "__getitem__"=pure (some (.builtin id))) (hs:NoSl zf)
   (h:wpAny (model prog w) A (eval value env) (λo s₁=>wpAny (model prog w) A (eval zf env) (λi s₂=>s₂.TypeIs o T/\wpAny (model prog w) A (getItem o i) Q E s₂) E s₁) E s):
   wpAny (model prog w) A (eval (.Subscript value zf pos) env) Q E s:=by
 refine Subscript_ (x9 h (λo s₁ h₁=>x9 h₁ (λi s₂ h₂=>?_) λ_ _ x=>x) λ_ _ x=>x)
 obtain⟨hT,h₂⟩:=h₂
 unfold subscriptTail
 refine j7 ?_
 rw[getitemInPython_of_ne hT.not_modules]
 refine j7 (wpAny_specialOf hT hl ?_)
 have fin:wpAny (model prog w) A (subscripted zf false o i) (λr s₃=>wpAny (model prog w) A (letTemporaryGo value o r >>= λ_=>pure r) Q E s₃) E s₂:=by
   rw[hs o i]
   exact wpAny_operating (x9 h₂ (λr s₃ h₃=>j7 (wpAny_letTemporaryGo (j8 h₃))) λ_ _ x=>x)
 first
   |exact j8 (j7 fin)
   |exact j7 (j8 (j7 fin))
   |exact j7 fin
theorem q99{X:Cx}{z4:List (Addr×Obj)}{σ:St}{H:Hp}{s:Shared}{a:Addr}{y:V}{o:Option V}(I:Inv X z4 σ H s)(g:DGet H a y o):s.TypeIs (.ref a) "dict":=by
 rcases g with⟨kvs,k,e,_,_⟩|⟨kvs,k,b,e,_,_,_⟩
 · obtain⟨_,_,vs,_,dd⟩:=qgu I.hok e
   exact dd.typeIs
 · obtain⟨_,_,xs,_,dd⟩:=qeb I.hok e
   exact dd.of.typeIs
def qij(td ty:TE):TE:=λσ H Q=>td σ H λx H1=>ty σ H1 λy H2=>∃a v,x=.ref a/\DGet H2 a y (some v)/\Q v H2
def qfe(td ty tv:TE):TS:=λD σ H=>tv σ H λv H1=>td σ H1 λx H2=>ty σ H2 λy H3=>∃a H4,x=.ref a/\DPut H3 a y v H4/\D.nx σ H4
section
variable{X:Cx}{o i e value:Expr}{pos zr tpos:Pos}{td ty tv:TE}
theorem q32(hu:X.A.units+1<cLine)(ho:PE X o td)(hi:PE X i ty)(hs:NoSl i):PE X (.Subscript o i pos) (qij td ty):=by
 intro z4 s σ H Q I h
 refine qik PySem.F.slot_dict_getitem.lookup hs (thn (ho z4 s σ H _ I h) λu s1 ⟨x,H1,I1,rx,q1⟩=>thn (hi z4 s1 σ H1 _ I1 q1) λiv s2 ⟨y,H2,I2,ry,a,v,ex,g,q2⟩=>?_)
 subst ex
 obtain rfl:u=Value.ref a:=rx
 exact⟨q99 I2 g,qeg hu I2 g ry λw' s3 I3 rw'=>⟨v,H2,I3,rw',q2⟩⟩
theorem q6a(hu:X.A.units+1<cLine)(ho:PE X o td)(hi:PE X i ty)(hv:PE X value tv)(hs:swapsWith value (some (.Subscript o i zr)) pos.line X.env=pure false):
   PS X (.Assign [.Subscript o i zr] value pos) (qfe td ty tv):=by
 intro z4 s σ H D I h
 refine wpAny_Assign_Subscript (thn (hv z4 s σ H _ I h) λr s1 ⟨v,H1,I1,rv,q1⟩=>thn (ho z4 s1 σ H1 _ I1 q1) λu s2 ⟨x,H2,I2,rx,q2⟩=>thn (hi z4 s2 σ H2 _ I2 q2) λiv s3 ⟨y,H3,I3,ry,a,H4,ex,g,q3⟩=>?_) hs
 subst ex
 obtain rfl:u=Value.ref a:=rx
 exact qef hu I3 g ry rv λs4 I4=>⟨σ,H4,I4,q3⟩
end
theorem qgr{P:Program}{w:World}{H:Hp}(h:Heap)(hb:sysModules<h.objs.size):ObjOk P w H (h.push {cls:=.type "dict",data:=.dict #[]}) h.objs.size (.dT []):=
 ⟨Nat.zero_le _,beq_eq_false_iff_ne.mpr (Ne.symm (jj hb)),[],.nil,_,#[],0,jq _ rfl,⟨rfl,rfl,rfl⟩,rfl,rfl,List.nodup_nil,rfl⟩
def qh9:TE:=λ_ H Q=>∀p,H p=none->Q (.ref p) (upd H p (.dT []))
section
variable{X:Cx}{pos:Pos}
theorem q6f:PE X (.Dict [] [] pos) qh9:=λz4 s σ H Q I h=>
 wpAny_Dict_empty ⟨.ref s.heap.objs.size,_,I.laid (a:=s.heap.objs.size) (o:=.dT []) (t':=s.toks) (λ_ _ q=>je _ q) (jc _) (qgr s.heap I.big),rfl,h _ (I.hok.fresh (jc _))⟩
end
def DRaw(h:Heap)(d:Addr)(es:Array DictEntry)(ep:Nat):Prop:=∃o,h.get? d=some o/\o.ExactDict/\o.data=.dict es ep
theorem DRaw.ty{s:Shared}{d:Addr}{es:Array DictEntry}{ep:Nat}(x:DRaw s.heap d es ep):s.TypeIs (.ref d) "dict":=let ⟨o,e,c,_⟩:=x;⟨o,e,c.1⟩
theorem DRaw.at_{h h':Heap}{d:Addr}{es:Array DictEntry}{ep:Nat}(x:DRaw h d es ep)(k:∀o,h.get? d=some o->h'.get? d=some o):DRaw h' d es ep:=let ⟨o,e,r⟩:=x;⟨o,k o e,r⟩
section
variable{prog:Program}{w:World}{A:Around}{E:Value->Shared->Prop}{s:Shared}
theorem qa9{d:Addr}{es:Array DictEntry}{ep:Nat}{Q:Value->Shared->Prop}(nd:(d==sysModules)=false)(x:DRaw s.heap d es ep)
   (q:Q (.ref s.heap.objs.size) {s with heap:=s.heap.push {cls:=.type "dict_keyiterator",data:=.fields #[.ref d,.int 0 0,.int es.size 0,.int ep 0]}}):wpAny (model prog w) A (pyIter (.ref d)) Q E s:=by
 obtain⟨o,e,c,dt⟩:=id x
 refine wpAny_pyIter_slot x.ty F.slot_dict_iter (xj F.slot_dict_iter x.ty F.entry_dict_iter ?_ (F.args_dict_iter_1 _))
 unfold Builtin.«dict.__iter__» Builtin.Dict.dictSlotNone
 refine j7 (j7 (wpAny_notOrdered_dict x.ty ?_))
 show wpAny _ _ (pure (Value.ref d)) _ _ s
 refine j8 ?_
 unfold Builtin.Dict.showsAll
 show wpAny _ _ ((if(d==sysModules)=true then _ else _) >>= _) _ _ s
 rw[if_neg (by rw[nd];decide)]
 exact j7 (j8 (j7 (vd e dt (j7 (ve e dt (j7 (xf (j8 ⟨_,rfl,"dict_keyiterator",_,⟨_,jq _ rfl,rfl⟩,F.slot_dict_keyiterator_next.lookup,q⟩))))))))
theorem qac{it d:Addr}{i ep:Nat}{es:Array DictEntry}{Q:Option Value->Shared->Prop}(g:s.heap.IsKeyIter it d i es.size ep)(x:DRaw s.heap d es ep)(hi:i<es.size)
   (q:∀h',h'.IsKeyIter it d (i+1) es.size ep->Heap.SameBut it s.heap h'->Q (some es[i].key) {s with heap:=h'}):wpAny (model prog w) A (pyNext (.ref it)) Q E s:=by
 obtain⟨oi,ei,ci,fi⟩:=id g
 obtain⟨o,e,c,dt⟩:=id x
 have own0:Builtin.Dict_items.ownsTuple "dict_keyiterator"=false:=by decide
 unfold pyNext
 refine j7 (kl (k8 (name:=Str.ofString "__next__") g.typeIs vk (xj vk g.typeIs F.entry_dict_keyiterator_next (j7 (j8 (j7 ?_))) (F.args_dict_keyiterator_next_1 _))))
 refine j7 (j7 (vm g.typeIs (j8 (j7 (wpAny_fieldsOf ei fi ?_)))))
 simp only[own0,Bool.false_eq_true,if_false]
 show wpAny _ _ (if(Value.ref d==Value.none)=true then _ else _) _ _ s
 have nn:(Value.ref d==Value.none)=false:=rfl
 rw[if_neg (by rw[nn];decide)]
 refine j7 (j8 (j7 (vd e dt ?_)))
 rw[if_neg (by simp)]
 refine j7 (j8 (j7 (ve e dt ?_)))
 rw[if_neg (by simp)]
 refine j8 ?_
 have n0:¬((i:Int)<0):=by omega
 simp only[n0,if_false,Int.toNat_natCast,Array.getElem?_eq_getElem hi]
 refine j7 (j7 (vm g.typeIs (j8 (j7 (wpAny_isOneOf_keyiter g.typeIs ?_)))))
 show wpAny _ _ (setField (.ref it) 1 (rawInt ((i:Int)+1)) >>= _) _ _ s
 have g':(s.heap.update it (Obj.mapFields (·.setIfInBounds 1 (rawInt ((i:Int)+1))))).IsKeyIter it d (i+1) es.size ep:=
   ⟨_,ke _ ei (Obj.isFreed_of_fields (Obj.data_mapFields fi _)),(Obj.cls_mapFields ..).trans ci,by rw[Obj.data_mapFields fi];simp[rawInt]⟩
 refine j7 (wpAny_setField ei fi (by simp) (j7 (x5 (j7 (wpAny_isOneOf_keyiter (s:={s with heap:=s.heap.update it (Obj.mapFields (·.setIfInBounds 1 (rawInt ((i:Int)+1))))}) g'.typeIs ?_)))))
 show wpAny _ _ (pure es[i].key) _ _ _
 exact j8 (j8 ⟨_,rfl,j8 (q _ g' (xn ..))⟩)
theorem qdq{it d:Addr}{i ep:Nat}{es:Array DictEntry}{Q:Option Value->Shared->Prop}(hh:A.handled=none)(g:s.heap.IsKeyIter it d i es.size ep)(x:DRaw s.heap d es ep)(hi:es.size<=i)
   (q:∀h',Heap.ExtBut it s.heap h'->Q none {s with heap:=h'}):wpAny (model prog w) A (pyNext (.ref it)) Q E s:=by
 obtain⟨oi,ei,ci,fi⟩:=id g
 obtain⟨o,e,c,dt⟩:=id x
 have own0:Builtin.Dict_items.ownsTuple "dict_keyiterator"=false:=by decide
 unfold pyNext
 refine j7 (kl (k8 (name:=Str.ofString "__next__") g.typeIs vk (xj vk g.typeIs F.entry_dict_keyiterator_next (j7 (j8 (j7 ?_))) (F.args_dict_keyiterator_next_1 _))))
 refine j7 (j7 (vm g.typeIs (j8 (j7 (wpAny_fieldsOf ei fi ?_)))))
 simp only[own0,Bool.false_eq_true,if_false]
 show wpAny _ _ (if(Value.ref d==Value.none)=true then _ else _) _ _ s
 have nn:(Value.ref d==Value.none)=false:=rfl
 rw[if_neg (by rw[nn];decide)]
 refine j7 (j8 (j7 (vd e dt ?_)))
 rw[if_neg (by simp)]
 refine j7 (j8 (j7 (ve e dt ?_)))
 rw[if_neg (by simp)]
 refine j8 ?_
 have n0:¬((i:Int)<0):=by omega
 simp only[n0,if_false,Int.toNat_natCast,Array.getElem?_eq_none hi]
 refine j7 (j7 (vm g.typeIs (j8 ?_)))
 show wpAny _ _ (setField (.ref it) 0 .none >>= _) _ _ s
 refine j7 (wpAny_setField ei fi (by simp) ?_)
 show wpAny _ _ (newExc (.type "StopIteration") [] >>= _) _ _ _
 simp only[newExc,newTuple,raiseNew]
 refine j7 (j7 (xf (j7 (m:=firstArgMember _ _) (xk (a:=Value.none) (by first|rfl|(simp only[firstArgMember];rfl)) (xf ?_ (by size_fits)))) (by size_fits)))
 refine j7 (wpAny_handled ?_)
 rw[show A.in1.handled=none from hh]
 refine j7 (j8 (wpAny_throw ?_))
 exact j7 (km (T:="StopIteration") (b:=true) ⟨_,jq _ rfl,rfl⟩ isSubtype_stop (j8 (q _ (((xn ..).extBut.push _).push _))))
end
def Itk(a:Addr)(n:Nat):It:=
 ⟨λi H=>∃kvs p,H a=some (.dT kvs)/\kvs.length=n/\kvs[i]? =some p,
  λi H v H'=>H'=H/\∃b,v=.ref b/\∀kvs p,H a=some (.dT kvs)->kvs[i]? =some p->H b=some (.tup (p.1.map kV)),
  λi H=>∃kvs,H a=some (.dT kvs)/\kvs.length=n/\n<=i⟩
theorem q55{X:Cx}{z4:List (Addr×Obj)}{σ:St}{H:Hp}{s:Shared}{a:Addr}{kvs:List (List Key×V)}(I:Inv X z4 σ H s)(e:H a=some (.dT kvs)):
   (a==sysModules)=false/\∃es,es.size=kvs.length/\DRaw s.heap a es kvs.length/\∀i p,kvs[i]? =some p->∃b u,H b=some (.tup (p.1.map kV))/\RelV p.2 u/\∃hi:i<es.size,es[i].key=.ref b/\es[i].val=u:=by
 obtain⟨_,y,xs,r,o,es,ep,h1,h2,h3,h4,_,h6⟩:=(show ObjOk X.prog X.w H s.heap a (.dT kvs)from I.hok a _ e)
 have z:es.size=kvs.length:=by
   have:=congrArg List.length h4
   rw[ja,<-Paired.length r]at this
   simpa using this
 refine⟨y,es,z,⟨o,h1,h2,by rw[h3,h6]⟩,λi p hp=>?_⟩
 have g:∀{ks:List (List Key×V)} {ys:List (List Key×Addr×Value)} {i:Nat} {p:List Key×V},KT H ks ys->ks[i]? =some p->∃q,ys[i]? =some q/\p.1=q.1/\H q.2.1=some (.tup (p.1.map kV))/\RelV p.2 q.2.2:=by
   intro ks ys i p t
   induction t generalizing i with
   |nil=>intro e;simp at e
   | cons h _ ih=>
     cases i with
     |zero=>intro e;simp at e;subst e;exact⟨_,rfl,h⟩
     |succ i=>intro e;exact ih (by simpa using e)
 obtain⟨q,q1,_,q2,q3⟩:=g r hp
 have hi:i<es.size:=by rw[z];exact(List.getElem?_eq_some_iff.mp hp).1
 refine⟨q.2.1,q.2.2,q2,q3,hi,?_⟩
 have ee:es[i]? =some (entryOfKey (tupleKind (q26 X.prog X.w)) q):=by rw[entry_at h4,q1];rfl
 rw[Array.getElem?_eq_getElem hi]at ee
 rw[jh ee]
 exact⟨rfl,rfl⟩
theorem qbn{P:Program}{w:World}{K:PySem.W.Frag}{tg:Expr}(a it:Addr)(n:Nat):Turn P w K tg (Itk a n) [it] it (λi h=>h.IsKeyIter it a i n n) where
 mem:=by simp
 obj:=λi h st b hb=>by
   obtain⟨o,e,c,d⟩:=st
   rw[List.mem_singleton.mp hb]
   exact⟨o,e,λv z=>by rw[d]at z;cases z⟩
 keep:=λi h h' st k=>st.at λo e=>k it (by simp) o e
 item:=by
   intro X hP hw hK hc i z4 s σ H E I hf st hg
   subst hP hw hK
   obtain⟨kvs,p,e,rfl,hp⟩:=hg
   obtain⟨_,es,z,dr,al⟩:=q55 I e
   obtain⟨b,u,q1,q2,hi,k1,_⟩:=al i p hp
   obtain⟨f0,f1,f2,f3,f4,f5⟩:=hf it (by simp)
   rw[<-z]at st dr
   refine qac st dr hi λh' st' sb=>?_
   have I1:Inv X z4 σ H {s with heap:=h'}:=I.turned (t':=s.toks) (λb o hb e=>(sb.2 b hb).trans e) f0 f1 f3 f4 f5
   obtain⟨o,e1,c1,d1⟩:=id st'
   refine⟨_,rfl,qgh (s:={s with heap:=h'}) e1 c1 d1 (by decide) ⟨.ref b,H,I1,by rw[k1];rfl,⟨rfl,b,rfl,λkvs' p' e' hp'=>?_⟩,by rw[<-z];exact st',λb hb=>(hf b hb).1⟩⟩
   rw[e]at e'
   cases e'
   rw[hp]at hp'
   cases hp'
   exact q1
 done:=by
   intro X hP hw hK hc i z4 s σ H E I hf st hg
   subst hP hw hK
   obtain⟨kvs,e,rfl,hp⟩:=hg
   obtain⟨_,es,z,dr,_⟩:=q55 I e
   obtain⟨f0,f1,f2,f3,f4,f5⟩:=hf it (by simp)
   rw[<-z]at st dr hp
   exact qdq (I.ok.hd hc) st dr hp λh' eb=>⟨rfl,I.turned (t':=s.toks) (λb o hb e=>eb b o hb e) f0 f1 f3 f4 f5⟩
 self:=λ_ _ _ _ _ st h=>wpAny_pyIter_keyiter st h
def qkm(td:TE):TI:=λσ H R=>td σ H λx H1=>∃a kvs,x=.ref a/\H1 a=some (.dT kvs)/\R (Itk a kvs.length) H1
theorem q6d{X:Cx}{tg l:Expr}{td:TE}(hl:PE X l td):PI X tg l (qkm td):=by
 intro z4 s σ H R I h
 refine thn (hl z4 s σ H _ I h) λv s1 ⟨x,H1,I1,rx,a,kvs,ex,e,q⟩=>?_
 subst ex
 obtain rfl:v=Value.ref a:=rx
 obtain⟨y,es,z,dr,_⟩:=q55 I1 e
 refine qa9 y dr ?_
 refine⟨s1.heap.objs.size,[s1.heap.objs.size],_,_,H1,rfl,I1.kept (t':=s1.toks) λb o e=>je _ e,qbn a _ kvs.length,⟨_,jq _ rfl,rfl,by rw[z];rfl⟩,λb hb=>?_,q⟩
 rw[List.mem_singleton.mp hb]
 exact I1.fpOk (jc _) (I1.hok.fresh (jc _))
def keyD:Key->D
 |.inl n=>.int n
 |.inr x=>.str x
def keyO:D->Option Key
 |.int n=>some (.inl n)
 |.str x=>some (.inr x)
 |_=>none
def q6r:List D->Option (List Key)
 |[]=>some []
 | d::ds=>match keyO d,q6r ds with
   |some k,some ks=>some (k::ks)
   |_,_=>none
def keyT:D->Option (List Key)
 |.tup ds=>q6r ds
 |_=>none
section
variable{K:PySem.W.Frag}{R:Hp}
theorem qkc{v:V}{d:D}{k:Key}(r:Rp K R v d)(e:keyO d=some k):v=kV k:=by
 cases r<;>cases e<;>rfl
theorem q83:∀{vs:List V} {ds:List D} {ks:List Key},Rps K R vs ds->q6r ds=some ks->vs=ks.map kV
 |_,_,_,.nil,e=>by cases e;rfl
 | _,_,ks,.cons (d:=d) (ds:=ds) r t,e=>by
   cases e1:keyO d with
   |none=>simp only[q6r,e1]at e;cases e
   | some k=>
     cases e2:q6r ds with
     |none=>simp only[q6r,e1,e2]at e;cases e
     | some ks'=>
       simp only[q6r,e1,e2,Option.some.injEq]at e
       subst e
       rw[qkc r e1,q83 t e2]
       rfl
theorem q6t{v:V}{d:D}{ks:List Key}(r:Rp K R v d)(e:keyT d=some ks):∃b,v=.ref b/\R b=some (.tup (ks.map kV)):=by
 cases r with
 |@tup a xs ds h q=>exact⟨a,rfl,by rw[h,q83 q e]⟩
 |_=>cases e
theorem qkd(k:Key):Rp K R (kV k) (keyD k):=by
 cases k with
 |inl n=>exact .int n
 |inr x=>exact .str x
theorem q4v:∀ks:List Key,Rps K R (ks.map kV) (ks.map keyD)
 |[]=>.nil
 |k::ks=>.cons (qkd k) (q4v ks)
def valD(gs:List (List Key×D))(k:List Key):Option D:=(gs.find? λg=>decide (g.1=k)).map (·.2)
def putD(gs:List (List Key×D))(k:List Key)(d:D):List (List Key×D):=
 if(gs.any λg=>decide (g.1=k))=true then gs.map (λg=>if g.1=k then(g.1,d)else g)else gs++[(k,d)]
theorem Rkt.length:∀{kvs:List (List Key×V)} {gs:List (List Key×D)},Rkt K R kvs gs->kvs.length=gs.length
 |_,_,.nil=>rfl
 |_,_,.cons _ r=>by rw[jo,jo,Rkt.length r]
theorem Rkt.val{k:List Key}{d:D}:∀{kvs:List (List Key×V)} {gs:List (List Key×D)},Rkt K R kvs gs->valD gs k=some d->∃v,valV kvs k=some v/\Rp K R v d
 |_,_,.nil,e=>by cases e
 | _,_,.cons (f:=f) (x:=x) (xs:=xs) (d:=d') (ds:=ds) r t,e=>by
   by_cases h:f=k
   · have e':valD ((f,d')::ds) k=some d':=by simp[valD,List.find?_cons,h]
     rw[e']at e
     cases e
     exact⟨x,q4q h,r⟩
   · have e':valD ((f,d')::ds) k=valD ds k:=by simp[valD,List.find?_cons,h]
     rw[e']at e
     obtain⟨v,h1,h2⟩:=Rkt.val t e
     exact⟨v,by rw[q4r (p:=(f,x)) h];exact h1,h2⟩
theorem Rkt.any{k:List Key}:∀{kvs:List (List Key×V)} {gs:List (List Key×D)},Rkt K R kvs gs->(kvs.any λg=>decide (g.1=k))=gs.any λg=>decide (g.1=k)
 |_,_,.nil=>rfl
 |_,_,.cons _ t=>by rw[List.any_cons,List.any_cons,Rkt.any t]
theorem Rkt.repl{k:List Key}{v:V}{d:D}(r:Rp K R v d):∀{kvs:List (List Key×V)} {gs:List (List Key×D)},Rkt K R kvs gs->Rkt K R (kvs.map λg=>if g.1=k then(g.1,v)else g) (gs.map λg=>if g.1=k then(g.1,d)else g)
 |_,_,.nil=>.nil
 | _,_,.cons (f:=f) q t=>by
   rw[ji,ji]
   by_cases h:f=k
   · rw[if_pos h,if_pos h];exact .cons r (Rkt.repl r t)
   · rw[if_neg h,if_neg h];exact .cons q (Rkt.repl r t)
theorem Rkt.snoc{k:List Key}{v:V}{d:D}(r:Rp K R v d):∀{kvs:List (List Key×V)} {gs:List (List Key×D)},Rkt K R kvs gs->Rkt K R (kvs++[(k,v)]) (gs++[(k,d)])
 |_,_,.nil=>.cons r .nil
 |_,_,.cons q t=>.cons q (Rkt.snoc r t)
theorem Rkt.put{k:List Key}{v:V}{d:D}{kvs:List (List Key×V)}{gs:List (List Key×D)}(h:Rkt K R kvs gs)(r:Rp K R v d):Rkt K R (putK kvs k v) (putD gs k d):=by
 unfold putK putD
 rw[h.any]
 split
 · exact h.repl r
 · exact h.snoc r
theorem Rkt.get:∀{kvs:List (List Key×V)} {gs:List (List Key×D)} {i:Nat} {g:List Key×D},Rkt K R kvs gs->gs[i]? =some g->∃v,kvs[i]? =some (g.1,v)/\Rp K R v g.2
 |_,_,_,_,.nil,e=>by simp at e
 |_,_,0,_,.cons r _,e=>by simp at e;subst e;exact⟨_,rfl,r⟩
 | _,_,i+1,g,.cons _ t,e=>by
   obtain⟨v,h1,h2⟩:=Rkt.get (i:=i) (g:=g) t (by simpa using e)
   exact⟨v,by simpa using h1,h2⟩
end
def q0u(x y:D):Option D:=match x with
 | .dit gs=>match keyT y with
   |some k=>valD gs k
   |none=>none
 |_=>none
section
variable{K:PySem.W.Frag}{O:List Nat}{td ty:TE}{fd fk:RhD}
theorem q3l(hd:ME K O td fd)(hk:ME K O ty fk):ME K O (qij td ty) (mOp2 q0u fd fk):=λZ σ H R ρ d ρ' Q S e k=>by
 obtain⟨x,ρ1,e1,e⟩:=q02 e
 obtain⟨y,ρ2,e2,e⟩:=q02 e
 obtain⟨e3,rfl⟩:=q0b e
 refine hd Z σ H R ρ x ρ1 _ S e1 λv H1 R1 S1 st1 r1=>hk Z σ H1 R1 ρ1 y _ _ S1 e2 λu H2 R2 S2 st2 r2=>?_
 cases r1 with
 | @dit a kvs gs h r=>
   unfold q0u at e3
   dsimp only at e3
   cases z:keyT y with
   |none=>rw[z]at e3;cases e3
   | some ks=>
     rw[z]at e3
     obtain⟨b,rfl,hb⟩:=q6t r2 z
     obtain⟨w,h1,h2⟩:=(r.mono st2.r).val e3
     exact⟨a,w,rfl,by rw[<-h1];exact DGet.t (S2.sub _ _ (st2.r _ _ h)) (S2.sub _ _ hb),k w H2 R2 S2 (st1.trans st2) h2⟩
 |_=>cases e3
def q80(f:RhD):RhL:=q11 f λd=>q1p (match d with
 |.dit gs=>some (gs.map λg=>.tup (g.1.map keyD))
 |_=>none)
theorem qkh{R:Hp}{a:Addr}{kvs:List (List Key×V)}{gs:List (List Key×D)}(h:R a=some (.dT kvs))(r:Rkt K R kvs gs):ItOk K (Itk a kvs.length) R (gs.map λg=>.tup (g.1.map keyD)):=λH' R' s b i=>by
 have q:H' a=some (.dT kvs):=b _ _ (s _ _ h)
 refine⟨λe=>⟨kvs,q,rfl,by rw[ja]at e;rw[r.length];omega⟩,λd e=>?_⟩
 rw[jz]at e
 cases g0:gs[i]? with
 |none=>rw[g0]at e;cases e
 | some g=>
   rw[g0]at e
   cases e
   obtain⟨v,h1,_⟩:=r.get g0
   refine⟨⟨kvs,_,q,rfl,h1⟩,λx H'' y=>?_⟩
   obtain⟨rfl,c,rfl,y⟩:=y
   have hc:=y kvs _ q h1
   cases z:R' c with
   | some o=>
     have:=b _ _ z
     rw[hc]at this
     cases this
     exact⟨R',Ext.refl b,.tup z (q4v _)⟩
   | none=>
     refine⟨upd R' c (.tup (g.1.map kV)),⟨Same.refl _,Same.new z,λa2 o e2=>?_,λa2 e2=>?_⟩,.tup q0h (q4v _)⟩
     · by_cases hb:a2=c
       · subst hb;rw[q0h]at e2;rw[hc,e2]
       · rw[q0d hb]at e2;exact b _ _ e2
     · by_cases hb:a2=c
       · subst hb;exact .inr (.inr ⟨_,hc⟩)
       · rw[q0d hb]at e2;exact .inl e2
theorem q6n(h:ME K O td fd):MI K O (qkm td) (q80 fd):=λZ σ H R ρ ds ρ' Q S e k=>by
 obtain⟨d,ρ1,e1,e⟩:=q02 e
 obtain⟨e2,rfl⟩:=q0b e
 refine h Z σ H R ρ d _ _ S e1 λv H1 R1 S1 st1 r1=>?_
 cases r1 with
 | @dit a kvs gs q r=>
   cases e2
   exact⟨a,kvs,rfl,S1.sub _ _ q,k _ H1 R1 S1 st1 (qkh q r)⟩
 |_=>cases e2
end
section
variable{c:MC}{O O':List Nat}{te tk:TE}{fe fk:RhD}
def q67(i:Nat):RhO:=λρ=>if i<ρ.length then some (.nx (ρ.set i (some (.dit []))))else none
theorem q8x{i:Nat}(hs:ownO c i O O'=true):MS c O O' (tAsg qh9 (q2u i)) (q67 i):=λZ E σ H R ρ o hP S e k=>by
 unfold q67 at e
 unfold ownO at hs
 simp only[Bool.and_eq_true]at hs
 split at e
 · rename_i z9
   cases e
   intro l hl
   have S1:=S.ext (Ext.hid (o:=.dT []) S.sub hl)
   obtain⟨S2,s2⟩:=S1.sub' hP hs.1.1
   have notown:∀j,j∈O->σ[j]? ≠some (some (.ref l)):=S.notnew hl
   have hO':∀j,j∈O'.filter (λj=>decide (j≠i))->j∈O:=λj hj=>by
     have z:=hs.1.1
     unfold subO at z
     simp only[Bool.and_eq_true,List.all_eq_true]at z
     simpa using z.1 j hj
   refine k _ _ _ (S2.take (i:=i) (l:=l) (vs:=.dT []) (ds:=.dit []) (by simp) (by simpa using hs.1.2) (λj hj=>?_) (by rw[hP];simpa using hs.2) z9 (S.new0 hl) q0h ?_ (λj hj=>notown j (hO' j hj)) (λj hj=>(List.mem_filter.mp hj).1) (.dit .nil)) s2
   · by_cases z:j=i
     · exact .inl z
     · exact .inr (List.mem_filter.mpr ⟨hj,by simpa using z⟩)
   · unfold frzR
     rw[if_neg ?_]
     · exact S.out hl
     · rintro⟨j,hj,_,z⟩
       exact notown j hj z
 · cases e
def q3u(i:Nat)(fe fk:RhD):RhO:=λρ=>match fe ρ with
 |none=>none
 | some (d,ρ1)=>match fk ρ1 with
   |none=>none
   | some (y,ρ2)=>match keyT y,ρ2[i]? with
     |some ks,some (some (.dit gs))=>if gs.length<sizeLine then some (.nx (ρ2.set i (some (.dit (putD gs ks d)))))else none
     |_,_=>none
theorem q8w{i:Nat}(hi:i∈O)(he:ME c.K O te fe)(hk:ME c.K O tk fk)(hs:subO c O O'=true):MS c O O' (qfe (tVar i) tk te) (q3u i fe fk):=λZ E σ H R ρ o hP S e k=>by
 unfold q3u at e
 cases e1:fe ρ with
 |none=>rw[e1]at e;cases e
 | some p=>
   obtain⟨d,ρ1⟩:=p
   rw[e1]at e
   dsimp only at e
   cases e2:fk ρ1 with
   |none=>rw[e2]at e;cases e
   | some p=>
     obtain⟨y,ρ2⟩:=p
     rw[e2]at e
     dsimp only at e
     refine he Z σ H R ρ d ρ1 _ S e1 λv H1 R1 S1 st1 r1=>?_
     obtain⟨l,vs,ds,h1,h2,h3,h4,h5⟩:=S1.own i hi
     refine⟨.ref l,h2,hk Z σ H1 R1 ρ1 y ρ2 _ S1 e2 λu H2 R2 S2 st2 r2=>?_⟩
     obtain⟨l',vs',ds',g1,g2,g3,g4,g5⟩:=S2.own i hi
     rw[h2]at g2
     cases g2
     cases z:keyT y with
     |none=>rw[z]at e;cases e
     | some ks=>
       rw[z,g1]at e
       obtain⟨b,rfl,hb⟩:=q6t r2 z
       cases g5 with
       |lst _=>cases e
       |dct _=>cases e
       |dit g5=>
       rename_i kvs gs
       dsimp only at e
       split at e
       · rename_i hz
         cases e
         refine⟨l,_,rfl,DPut.t g3 (S2.sub _ _ hb) (by rw[g5.length];exact hz),?_⟩
         obtain⟨S3,s3⟩:=(S2.write hi h2 (.dit (g5.put (r1.mono st2.r)))).sub' hP hs
         exact k σ _ _ S3 ((st1.r.trans st2.r).trans s3)
       · cases e
end
section
variable{prog:Program}{w:World}{A:Around}{E:Value->Shared->Prop}{s:Shared}
theorem qba{d:Addr}{es:Array DictEntry}{ep:Nat}{Q:Value->Shared->Prop}(nd:(d==sysModules)=false)(x:DRaw s.heap d es ep)
   (q:Q (.ref s.heap.objs.size) {s with heap:=s.heap.push {cls:=.type "dict_items",data:=.fields #[.ref d]}}):wpAny (model prog w) A (call (.builtin "dict.items") [.ref d]) Q E s:=by
 refine xj F.slot_dict_items x.ty F.entry_dict_items ?_ (F.args_dict_items_1 _)
 unfold Builtin.«dict.items» Builtin.Dict.noArgs
 refine j7 (j7 (wpAny_notOrdered_dict x.ty ?_))
 show wpAny _ _ (pure d) _ _ s
 refine j8 ?_
 unfold Builtin.Dict.showsAll
 show wpAny _ _ ((if(d==sysModules)=true then _ else _) >>= _) _ _ s
 rw[if_neg (by rw[nd];decide)]
 exact j7 (j8 (j7 (xf (j8 ⟨_,rfl,q⟩))))
theorem qb9{v d:Addr}{es:Array DictEntry}{ep:Nat}{Q:Value->Shared->Prop}(g:s.heap.IsItemsView v d)(x:DRaw s.heap d es ep)
   (q:Q (.ref s.heap.objs.size) {s with heap:=s.heap.push {cls:=.type "dict_itemiterator",data:=.fields #[.none,.bool false,.ref d,.int 0 0,.int es.size 0,.int ep 0,.none,.none]}}):wpAny (model prog w) A (pyIter (.ref v)) Q E s:=by
 obtain⟨ov,ev,cv,fv⟩:=id g
 obtain⟨o,e,c,dt⟩:=id x
 have own1:Builtin.Dict_items.ownsTuple "dict_itemiterator"=true:=by decide
 refine wpAny_pyIter_slot g.typeIs F.slot_dict_items_iter (xj F.slot_dict_items_iter g.typeIs F.entry_dict_items_iter ?_ (F.args_dict_items_iter_1 _))
 unfold Builtin.«dict_items.__iter__» Builtin.Dict_items.dictOf Builtin.Dict_items.newIterator
 refine j7 (j8 (j7 (j7 (x8 ev fv (x:=.ref d) rfl (j8 (j7 (j7 (vd e dt (j7 (ve e dt ?_))))))))))
 simp only[own1,if_true]
 refine xf (j8 ⟨_,rfl,"dict_itemiterator",_,⟨_,jq _ rfl,rfl⟩,F.slot_dict_itemiterator_next.lookup,?_⟩) (by simp[sizeOk,Builtin.Dict_items.ownedTupleFields,sizeLine_eq])
 simpa[rawInt,Builtin.Dict_items.ownedTupleFields]using q
theorem qdw{it d:Addr}{i ep:Nat}{es:Array DictEntry}{ok ov:Value}{Q:Option Value->Shared->Prop}(g:IsItemIter s.heap it d i es.size ep ok ov)(x:DRaw s.heap d es ep)(hi:i<es.size)
   (q:∀h',IsItemIterOut h' it d (i+1) es.size ep es[i].key es[i].val s.heap.objs.size->h'.get? s.heap.objs.size=some {cls:=.type "tuple",data:=.seq #[es[i].key,es[i].val]}->
     (∀b o,b≠it->s.heap.get? b=some o->h'.get? b=some o)->Q (some (.ref s.heap.objs.size)) {s with heap:=h'}):wpAny (model prog w) A (pyNext (.ref it)) Q E s:=by
 obtain⟨o,e,c,dt⟩:=id x
 have ty:s.TypeIs (.ref it) "dict_itemiterator":=⟨_,g,rfl⟩
 have own1:Builtin.Dict_items.ownsTuple "dict_itemiterator"=true:=by decide
 unfold pyNext
 refine j7 (kl (k8 (name:=Str.ofString "__next__") ty vo (xj vo ty F.entry_dict_itemiterator_next (j7 (j8 (j7 ?_))) (F.args_dict_itemiterator_next_1 _))))
 refine j7 (j7 (vp ty (j8 (j7 (wpAny_fieldsOf g rfl ?_)))))
 simp only[own1,if_true]
 show wpAny _ _ (if(Value.ref d==Value.none)=true then _ else _) _ _ s
 have nn:(Value.ref d==Value.none)=false:=rfl
 rw[if_neg (by rw[nn];decide)]
 refine j7 (j8 (j7 (vd e dt ?_)))
 rw[if_neg (by simp)]
 refine j7 (j8 (j7 (ve e dt ?_)))
 rw[if_neg (by simp)]
 refine j8 ?_
 have n0:¬((i:Int)<0):=by omega
 simp only[n0,if_false,Int.toNat_natCast,Array.getElem?_eq_getElem hi]
 refine j7 (j7 (vp ty (j8 (j7 (wpAny_isOneOf_itemiter ty ?_)))))
 show wpAny _ _ (setField (.ref it) 3 (rawInt ((i:Int)+1)) >>= _) _ _ s
 refine j7 (k7 g (by simp) λh1 g1 t1=>?_)
 have g1':IsItemIter h1 it d (i+1) es.size ep ok ov:=by
   have e:((i+1:Nat):Int)=(i:Int)+1:=by omega
   unfold IsItemIter;rw[e];simpa[rawInt]using g1
 have ty1:Shared.TypeIs {s with heap:=h1} (.ref it) "dict_itemiterator":=⟨_,g1',rfl⟩
 refine j7 (x5 (j7 (wpAny_isOneOf_itemiter ty1 (j7 (wpAny_isOneOf_itemiter ty1 ?_)))))
 show wpAny _ _ (Builtin.Dict_items.pairFromOwner (.ref it) 6 es[i].key es[i].val) _ _ {s with heap:=h1}
 unfold Builtin.Dict_items.pairFromOwner Builtin.Dict_items.ownedTupleIsFree
 refine j7 (wpAny_newTuple ?_)
 have z1:h1.objs.size=s.heap.objs.size:=t1.1
 have lt:it<s.heap.objs.size:=jd g
 generalize e2:h1.push {cls:=.type "tuple",data:=.seq [es[i].key,es[i].val].toArray}=h2
 have g2:IsItemIter h2 it d (i+1) es.size ep ok ov:=by rw[<-e2];exact je _ g1'
 have p2:h2.get? s.heap.objs.size=some {cls:=.type "tuple",data:=.seq #[es[i].key,es[i].val]}:=by rw[<-e2,<-z1];exact jq _ rfl
 have k2:∀b o,b≠it->s.heap.get? b=some o->h2.get? b=some o:=λb o hb q=>by rw[<-e2];exact je _ (t1.extBut b o hb q)
 show wpAny _ _ _ _ _ {s with heap:=h2}
 rw[z1]
 refine j7 (j7 (x8 g2 rfl (x:=.none) rfl (j8 ?_)))
 simp only[if_true]
 refine j7 (x8 g2 rfl (x:=ok) rfl (j7 (x8 g2 rfl (x:=ov) rfl (j7 (k7 g2 (by simp) λh3 g3 t3=>?_)))))
 have g3':IsItemIter h3 it d (i+1) es.size ep es[i].key ov:=g3
 refine j7 (k7 g3' (by simp) λh4 g4 t4=>?_)
 have g4':IsItemIter h4 it d (i+1) es.size ep es[i].key es[i].val:=g4
 refine j7 (k7 g4' (by simp) λh5 g5 t5=>?_)
 have g5':IsItemIterOut h5 it d (i+1) es.size ep es[i].key es[i].val s.heap.objs.size:=g5
 refine j7 (k7 g5' (by simp) λh6 g6 t6=>?_)
 have k6:∀b o,b≠it->h2.get? b=some o->h6.get? b=some o:=λb o hb q=>t6.extBut b o hb (t5.extBut b o hb (t4.extBut b o hb (t3.extBut b o hb q)))
 exact j7 (wpAny_letGo (j8 (j8 ⟨_,rfl,j8 (q h6 g6 (k6 _ _ (Nat.ne_of_gt lt) p2) λb o hb r=>k6 b o hb (k2 b o hb r))⟩)))
theorem qg8{it d:Addr}{i ep:Nat}{es:Array DictEntry}{ok ov:Value}{Q:Option Value->Shared->Prop}(hh:A.handled=none)(g:IsItemIter s.heap it d i es.size ep ok ov)(x:DRaw s.heap d es ep)(hi:es.size<=i)
   (q:∀h',Heap.ExtBut it s.heap h'->Q none {s with heap:=h'}):wpAny (model prog w) A (pyNext (.ref it)) Q E s:=by
 obtain⟨o,e,c,dt⟩:=id x
 have ty:s.TypeIs (.ref it) "dict_itemiterator":=⟨_,g,rfl⟩
 have own1:Builtin.Dict_items.ownsTuple "dict_itemiterator"=true:=by decide
 unfold pyNext
 refine j7 (kl (k8 (name:=Str.ofString "__next__") ty vo (xj vo ty F.entry_dict_itemiterator_next (j7 (j8 (j7 ?_))) (F.args_dict_itemiterator_next_1 _))))
 refine j7 (j7 (vp ty (j8 (j7 (wpAny_fieldsOf g rfl ?_)))))
 simp only[own1,if_true]
 show wpAny _ _ (if(Value.ref d==Value.none)=true then _ else _) _ _ s
 have nn:(Value.ref d==Value.none)=false:=rfl
 rw[if_neg (by rw[nn];decide)]
 refine j7 (j8 (j7 (vd e dt ?_)))
 rw[if_neg (by simp)]
 refine j7 (j8 (j7 (ve e dt ?_)))
 rw[if_neg (by simp)]
 refine j8 ?_
 have n0:¬((i:Int)<0):=by omega
 simp only[n0,if_false,Int.toNat_natCast,Array.getElem?_eq_none hi]
 refine j7 (j7 (vp ty (j8 ?_)))
 show wpAny _ _ (setField (.ref it) 2 .none >>= _) _ _ s
 refine j7 (wpAny_setField g rfl (by simp) ?_)
 show wpAny _ _ (newExc (.type "StopIteration") [] >>= _) _ _ _
 simp only[newExc,newTuple,raiseNew]
 refine j7 (j7 (xf (j7 (m:=firstArgMember _ _) (xk (a:=Value.none) (by first|rfl|(simp only[firstArgMember];rfl)) (xf ?_ (by size_fits)))) (by size_fits)))
 refine j7 (wpAny_handled ?_)
 rw[show A.in1.handled=none from hh]
 refine j7 (j8 (wpAny_throw ?_))
 exact j7 (km (T:="StopIteration") (b:=true) ⟨_,jq _ rfl,rfl⟩ isSubtype_stop (j8 (q _ (((xn ..).extBut.push _).push _))))
end
theorem qbb:entryFor table "dict_itemiterator.__iter__"=some Builtin.«dict_keyiterator.__iter__»:=entryFor_alias (id':="dict_keyiterator.__iter__") (by kernel_rfl) rfl (by decide+kernel) (by kernel_rfl)
def Iti(a:Addr)(n:Nat):It:=
 ⟨λi H=>∃kvs p,H a=some (.dT kvs)/\kvs.length=n/\kvs[i]? =some p,
  λi H v H'=>∃T b x,v=.ref T/\H T=none/\H'=upd H T (.tup [.ref b,x])/\∀kvs p,H a=some (.dT kvs)->kvs[i]? =some p->H b=some (.tup (p.1.map kV))/\x=p.2,
  λi H=>∃kvs,H a=some (.dT kvs)/\kvs.length=n/\n<=i⟩
theorem qav{P:Program}{w:World}{K:PySem.W.Frag}{zo:List Expr}{x1:Nat}{pos:Pos}(a it:Addr)(n:Nat):
   Turn P w K (.Tuple zo x1 pos) (Iti a n) [it] it (λi h=>∃ok ov,IsItemIter h it a i n n ok ov) where
 mem:=by simp
 obj:=λi h st b hb=>by
   obtain⟨ok,ov,e⟩:=st
   rw[List.mem_singleton.mp hb]
   exact⟨_,e,λv z=>by cases z⟩
 keep:=λi h h' st k=>by
   obtain⟨ok,ov,e⟩:=st
   exact⟨ok,ov,k it (by simp) _ e⟩
 item:=by
   intro X hP hw hK hc i z4 s σ H E I hf st hg
   subst hP hw hK
   obtain⟨kvs,p,e,rfl,hp⟩:=hg
   obtain⟨_,es,z,dr,al⟩:=q55 I e
   obtain⟨b,u,q1,q2,hi,k1,k2⟩:=al i p hp
   obtain⟨ok,ov,st⟩:=st
   rw[<-z]at st dr
   refine qdw st dr hi λh' st' tp kk=>⟨_,rfl,wpAny_letOwnedTupleGo_items st' λh'' zj sb=>?_⟩
   rw[k1,k2]at tp st' zj
   have fresh:H s.heap.objs.size=none:=I.hok.fresh (jc _)
   have lt:it<s.heap.objs.size:=jd st
   have keep:∀c o,c∉[it]->s.heap.get? c=some o->h''.get? c=some o:=λc o hc q=>by
     have nc:c≠it:=by simpa using hc
     exact sb.extBut c o nc (kk c o nc q)
   have tp':h''.get? s.heap.objs.size=some {cls:=.type "tuple",data:=.seq #[.ref b,u]}:=sb.extBut _ _ (Nat.ne_of_gt lt) tp
   have I':Inv X z4 σ (upd H s.heap.objs.size (.tup [.ref b,p.2])) {s with heap:=h'',toks:=s.toks}:=by
     refine I.step (g':=s.gens) (d':=s.drawn) (ch:=[it]) (λc hc=>?_) (λc o _ _ hc e _=>keep c o hc e) (λc o _ _ hc e _=>⟨o.slots,keep c o hc e⟩) (λc o _ e n=>?_) (λc o hc e=>⟨o,keep c o hc e⟩)
       (λc zs e=>?_) (λc o w' e=>?_) (λc ps e=>⟨#[],?_⟩) (λm hm=>?_) (λc o e=>?_) I.bare
     · obtain⟨_,f1,f2,f3,f4,f5⟩:=hf c hc
       exact⟨f3,f1,f4,f5⟩
     · rw[q0d (jj (jd e))];exact n
     · rw[q0d (q0m e fresh)];exact e
     · rw[q0d (q0m e fresh)];exact e
     · rw[q0d (q0m e fresh),e];simp
     · obtain⟨o,es,ep,ho,r⟩:=hm
       exact⟨o,es,ep,keep _ o (λq=>(hf _ q).2.1 rfl) ho,r⟩
     · by_cases hb:c=s.heap.objs.size
       · subst hb
         rw[q0h]at e
         cases e
         exact⟨by show 2<=sizeLine;decide,[.ref b,u],.cons rfl (.cons q2 .nil),⟨_,tp',⟨rfl,_,rfl⟩,rfl⟩⟩
       · rw[q0d hb]at e
         refine(I.hok c o e).stay (λd w' hd q=>keep d w' (λm=>?_) q) (λd q=>?_) λd zs q=>?_
         · have n:=(hf d m).1
           rcases hd with rfl|hd
           · rw[n]at e;cases e
           · rw[n]at hd;cases hd
         · rw[q0d (q0m q fresh)];exact q
         · rw[q0d (q0m q fresh)];exact q
   refine⟨.ref s.heap.objs.size,_,I',rfl,⟨_,b,p.2,rfl,fresh,rfl,λkvs' p' e' hp'=>?_⟩,⟨_,_,by rw[<-z];exact zj⟩,λc hc=>?_⟩
   · rw[e]at e'
     cases e'
     rw[hp]at hp'
     cases hp'
     exact⟨q1,rfl⟩
   · rw[List.mem_singleton.mp hc,q0d (jj lt)]
     exact(hf it (by simp)).1
 done:=by
   intro X hP hw hK hc i z4 s σ H E I hf st hg
   subst hP hw hK
   obtain⟨kvs,e,rfl,hp⟩:=hg
   obtain⟨_,es,z,dr,_⟩:=q55 I e
   obtain⟨ok,ov,st⟩:=st
   obtain⟨f0,f1,f2,f3,f4,f5⟩:=hf it (by simp)
   rw[<-z]at st dr hp
   exact qg8 (I.ok.hd hc) st dr hp λh' eb=>⟨rfl,I.turned (t':=s.toks) (λb o hb e=>eb b o hb e) f0 f1 f3 f4 f5⟩
 self:=λ_ _ _ _ _ st h=>by
   obtain⟨ok,ov,e⟩:=st
   refine wpAny_pyIter_slot (T:="dict_itemiterator") ⟨_,e,rfl⟩ F.slot_dict_itemiterator_iter (xj F.slot_dict_itemiterator_iter ⟨_,e,rfl⟩ qbb ?_ (F.args_dict_itemiterator_iter_1 _))
   exact j8 ⟨_,rfl,"dict_itemiterator",_,⟨_,e,rfl⟩,F.slot_dict_itemiterator_next.lookup,h⟩
def qi2(td:TE):TI:=λσ H R=>td σ H λx H1=>∃a kvs,x=.ref a/\H1 a=some (.dT kvs)/\R (Iti a kvs.length) H1
theorem qfo{X:Cx}{o:Expr}{td:TE}{zq zg:Pos}{zo:List Expr}{x1:Nat}{tp:Pos}(ho:PE X o td)(j6:attributeBase o "items" X.env (eval o X.env)=eval o X.env:=by rfl)(zz:(zq.endLine==zg.line)=true:=by rfl):
   PI X (.Tuple zo x1 tp) (.Call (.Attribute o "items" zq) [] [] zg) (qi2 td):=by
 intro z4 s σ H R I h
 refine wpAny_Call_method0_late j6 zz (thn (ho z4 s σ H _ I h) λv s1 ⟨x,H1,I1,rx,a,kvs,ex,e,q⟩=>?_)
 subst ex
 obtain rfl:v=Value.ref a:=rx
 obtain⟨h1,h2⟩:=qh7 (T:="dict") (x:=.ref a) I1 rfl (.inr (.inr (.inl ⟨rfl,.inr ⟨kvs,e⟩⟩)))
 obtain⟨y,es,z,dr,_⟩:=q55 I1 e
 refine⟨"dict","dict.items",PySem.F.plainAttrs_dict,PySem.F.slot_dict_items,PySem.F.type_dict_items,h1,h2,Calls.callWith_builtin rfl (PySem.evalArgs_none (qba y dr ?_))⟩
 have kp:∀b o,s1.heap.get? b=some o->(s1.heap.push {cls:=.type "dict_items",data:=.fields #[.ref a]}).get? b=some o:=λb o e=>je _ e
 refine qb9 (s:={s1 with heap:=s1.heap.push {cls:=.type "dict_items",data:=.fields #[.ref a]}}) (v:=s1.heap.objs.size) ⟨_,jq _ rfl,rfl,rfl⟩ (dr.at_ λo e=>kp a o e) ?_
 have sz:(s1.heap.push {cls:=.type "dict_items",data:=.fields #[.ref a]}).objs.size=s1.heap.objs.size+1:=kf ..
 refine⟨_,[(s1.heap.push {cls:=.type "dict_items",data:=.fields #[.ref a]}).objs.size],_,_,H1,rfl,I1.kept (t':=s1.toks) λb o e=>je _ (kp b o e),qav a _ kvs.length,⟨.none,.none,by rw[<-z];exact jq _ rfl⟩,λb hb=>?_,q⟩
 rw[List.mem_singleton.mp hb,sz]
 exact I1.fpOk (Nat.le_succ _) (I1.hok.fresh (Nat.le_succ _))
section
variable{K:PySem.W.Frag}{O:List Nat}{td:TE}{fd:RhD}
def q4k(gs:List (List Key×D)):List D:=gs.map λg=>.tup [.tup (g.1.map keyD),g.2]
def q81(f:RhD):RhL:=q11 f λd=>q1p (match d with
 |.dit gs=>some (q4k gs)
 |_=>none)
theorem qg9{R:Hp}{a:Addr}{kvs:List (List Key×V)}{gs:List (List Key×D)}(h:R a=some (.dT kvs))(r:Rkt K R kvs gs):ItOk K (Iti a kvs.length) R (q4k gs):=λH' R' s b i=>by
 have q:H' a=some (.dT kvs):=b _ _ (s _ _ h)
 refine⟨λe=>⟨kvs,q,rfl,by unfold q4k at e;rw[ja]at e;rw[r.length];omega⟩,λd e=>?_⟩
 unfold q4k at e
 rw[jz]at e
 cases g0:gs[i]? with
 |none=>rw[g0]at e;cases e
 | some g=>
   rw[g0]at e
   cases e
   obtain⟨v,h1,h2⟩:=r.get g0
   refine⟨⟨kvs,_,q,rfl,h1⟩,λx H'' y=>?_⟩
   obtain⟨T,c,x,rfl,hT,rfl,y⟩:=y
   obtain⟨hc,ex⟩:=y kvs _ q h1
   dsimp only at ex hc
   subst ex
   -- the key becomes known first,then the pair
   have kn:∃R1,Ext H' R' H' R1/\R1 c=some (.tup (g.1.map kV)):=by
     cases z:R' c with
     | some o=>
       have:=b _ _ z
       rw[hc]at this
       cases this
       exact⟨R',Ext.refl b,z⟩
     | none=>
       refine⟨upd R' c (.tup (g.1.map kV)),⟨Same.refl _,Same.new z,λa2 o e2=>?_,λa2 e2=>?_⟩,q0h⟩
       · by_cases hb:a2=c
         · subst hb;rw[q0h]at e2;rw[hc,e2]
         · rw[q0d hb]at e2;exact b _ _ e2
       · by_cases hb:a2=c
         · subst hb;exact .inr (.inr ⟨_,hc⟩)
         · rw[q0d hb]at e2;exact .inl e2
   obtain⟨R1,x1,k1⟩:=kn
   have x2:=Ext.new (o:=.tup [.ref c,x]) x1.s hT
   exact⟨_,x1.trans x2,.tup q0h (.cons (.tup (x2.r _ _ k1) (q4v _)) (.cons ((h2.mono s).mono (x1.r.trans x2.r)) .nil))⟩
theorem qfx(h:ME K O td fd):MI K O (qi2 td) (q81 fd):=λZ σ H R ρ ds ρ' Q S e k=>by
 obtain⟨d,ρ1,e1,e⟩:=q02 e
 obtain⟨e2,rfl⟩:=q0b e
 refine h Z σ H R ρ d _ _ S e1 λv H1 R1 S1 st1 r1=>?_
 cases r1 with
 | @dit a kvs gs q r=>
   cases e2
   exact⟨a,kvs,rfl,S1.sub _ _ q,k _ H1 R1 S1 st1 (qg9 q r)⟩
 |_=>cases e2
end
theorem qfr{K:PySem.W.Frag}{n i j k:Nat}(hi:i<n)(hj:j<n)(hk:k<n):Own n (gTup K 3 (q95 (q2u i) (q95 (q2u j) (q95 (q2u k) gNil)))):=λv σ H Q q=>by
 obtain⟨a,xs,e,h,hl,x,r,e1,y,r2,e2,z,r3,e3,e4,q⟩:=q
 exact⟨a,xs,e,h,hl,x,r,e1,y,r2,e2,z,r3,e3,e4,q,by simp,λm hm=>by rw[List.getElem?_set_ne (by omega),List.getElem?_set_ne (by omega),List.getElem?_set_ne (by omega)]⟩
theorem q78{A:Around}{s:Shared}{l b:Addr}{vs ws:List Value}{ns ms:List Int}(hl:IsTup s.heap l vs.toArray)(hb:IsTup s.heap b ws.toArray)(hi:IntsAre vs ns)(hj:IntsAre ws ms)(hu:A.units<cLine):SeqAt.EqAt A s (.ref l) (.ref b) (decide (ns=ms)):=by
 have lv:vs.length=ns.length:=hi.length
 have lw:ws.length=ms.length:=hj.length
 by_cases q:l=b
 · subst q
   have e:vs=ws:=by
     obtain⟨o,e1,c1,n1,d1⟩:=hl
     obtain⟨o2,e2,c2,n2,d2⟩:=hb
     rw[e1]at e2
     cases e2
     rw[d1]at d2
     injection d2 with d3 _
     simpa using d3
   subst e
   have en:ns=ms:=by
     apply List.ext_getElem?
     intro i
     by_cases h:i<ns.length
     · obtain⟨t,e1⟩:=q34 hi (jf h)
       obtain⟨u,e2⟩:=q34 hj (jf (show i<ms.length by omega))
       rw[e1]at e2
       injection e2 with e3
       injection e3 with e4 _
       rw[jf h,jf (show i<ms.length by omega),e4]
     · rw[xw (by omega),xw (by omega)]
   rw[decide_eq_true en]
   exact SeqAt.EqAt.same _
 · have h:=SeqAt.RcAt.tuples (A:=A) (e:=λj=>decide (ns[j]? =ms[j]?)) hl hb hu λj h1 h2=>by
     have h1':j<ns.length:=by simp at h1;omega
     have h2':j<ms.length:=by simp at h2;omega
     obtain⟨t,e1⟩:=q34 hi (jf h1')
     obtain⟨u,e2⟩:=q34 hj (jf h2')
     obtain⟨e,he,hiff⟩:=HT.eqAt_int A.in1 s ns[j] t ms[j] u
     have g1:vs.toArray[j]=.int ns[j] t:=by
       have:=(List.getElem?_eq_some_iff.mp e1).2
       simpa using this
     have g2:ws.toArray[j]=.int ms[j] u:=by
       have:=(List.getElem?_eq_some_iff.mp e2).2
       simpa using this
     rw[g1,g2]
     have ee:decide (ns[j]? =ms[j]?)=e:=by
       rw[jf h1',jf h2']
       cases e with
       |true=>simp[hiff.mp rfl]
       | false=>
         have:¬ns[j]=ms[j]:=λz=>absurd (hiff.mpr z) (by decide)
         simp[this]
     rw[ee]
     exact he
   have ea:((List.range (min vs.toArray.size ws.toArray.size)).all (λj=>decide (ns[j]? =ms[j]?))&&vs.toArray.size==ws.toArray.size)=decide (ns=ms):=by
     rw[Bool.eq_iff_iff]
     simp only[Bool.and_eq_true,List.all_eq_true,decide_eq_true_eq,List.mem_range,List.size_toArray,beq_iff_eq]
     constructor
     · rintro⟨z,zl⟩
       apply List.ext_getElem?
       intro i
       by_cases hi:i<ns.length
       · exact z i (by omega)
       · rw[xw (by omega),xw (by omega)]
     · intro z
       refine⟨λi _=>by rw[z],by rw[lv,lw,z]⟩
   rw[ea]at h
   exact SeqAt.EqAt.of_refs q h
section
variable{X:Cx}{K:PySem.W.Frag}{O:List Nat}
def PrT(K:PySem.W.Frag)(H:Hp)(v:V)(q:Int×List Int):Prop:=∃a b,v=.ref a/\SqT K H a [.int q.1,.ref b]/\SqT K H b (q.2.map V.int)
theorem PrT.mono{H R:Hp}{v:V}{q:Int×List Int}(s:Same R H)(h:PrT K R v q):PrT K H v q:=by
 obtain⟨a,b,e,h1,h2⟩:=h
 exact⟨a,b,e,Same.tup s h1,Same.tup s h2⟩
end
def TsV(K:PySem.W.Frag)(H:Hp)(v:V)(ns:List Int):Prop:=∃a,v=.ref a/\SqT K H a (ns.map V.int)
inductive Tss(K:PySem.W.Frag)(H:Hp):List V->List (List Int)->Prop
 |nil:Tss K H [] []
 |cons {v:V} {vs:List V} {n:List Int} {ns:List (List Int)}:TsV K H v n->Tss K H vs ns->Tss K H (v::vs) (n::ns)
def rInT(K:PySem.W.Frag)(neg:Bool):R2:=λx y H Q=>∃p xs ns nss,y=.ref p/\SqL K H p xs/\TsV K H x ns/\Tss K H xs nss/\Q (.bl (if neg then !nss.contains ns else nss.contains ns)) H
section
variable{X:Cx}{K:PySem.W.Frag}
theorem qbp{z4:List (Addr×Obj)}{σ:St}{H:Hp}{s:Shared}{v:V}{ns:List Int}{u:Value}(I:Inv X z4 σ H s)(h:TsV X.K H v ns)(r:RelV v u):∃a vs,u=.ref a/\IsTup s.heap a vs.toArray/\IntsAre vs ns:=by
 obtain⟨a,rfl,h1⟩:=h
 cases r
 obtain⟨its,rv,p,_⟩:=I.tuple h1
 exact⟨a,its,rfl,p,intsAre_of rv⟩
theorem qii{z4:List (Addr×Obj)}{σ:St}{H:Hp}{s:Shared}{A:Around}{ns:List Int}{b:Addr}{ws:List Value}(I:Inv X z4 σ H s)(hb:IsTup s.heap b ws.toArray)(hj:IntsAre ws ns)(hu:A.units<cLine):∀{xs:List V} {us:List Value} {nss:List (List Int)},Tss X.K H xs nss->Vals xs us->
   ∃e:Value->Bool,(∀y∈us,SeqAt.EqAt A s y (.ref b) (e y))/\us.any e=nss.contains ns:=by
 -- the answer at an address is fixed by its object
 have uniq:∀(a:Addr) (vs vs':List Value) (ms ms':List Int),IsTup s.heap a vs.toArray->IntsAre vs ms->IsTup s.heap a vs'.toArray->IntsAre vs' ms'->ms=ms':=λa vs vs' ms ms' h1 h2 h3 h4=>by
   obtain⟨o,e1,c1,n1,d1⟩:=h1
   obtain⟨o2,e2,c2,n2,d2⟩:=h3
   rw[e1]at e2
   cases e2
   rw[d1]at d2
   injection d2 with d3 _
   have e:vs=vs':=by simpa using d3
   subst e
   apply List.ext_getElem?
   intro i
   have l1:=h2.length
   have l2:=h4.length
   by_cases h:i<ms.length
   · obtain⟨t,e1⟩:=q34 h2 (jf h)
     obtain⟨u,e2⟩:=q34 h4 (jf (show i<ms'.length by omega))
     rw[e1]at e2
     injection e2 with e3
     injection e3 with e4 _
     rw[jf h,jf (show i<ms'.length by omega),e4]
   · rw[xw (by omega),xw (by omega)]
 intro xs us nss h r
 classical
 refine⟨λy=>decide (∃a vs,y=Value.ref a/\IsTup s.heap a vs.toArray/\IntsAre vs ns),?_,?_⟩
 · induction h generalizing us with
   |nil=>cases r;exact λy hy=>nomatch hy
   | @cons v vs n ms hv t ih=>
     cases r with
     | @cons _ u _ us' r1 r2=>
       intro y hy
       rcases List.mem_cons.mp hy with rfl|hy
       · obtain⟨a,vs2,rfl,g1,g2⟩:=qbp I hv r1
         have:=q78 (A:=A) g1 hb g2 hj hu
         have ee:decide (∃a' vs',Value.ref a=Value.ref a'/\IsTup s.heap a' vs'.toArray/\IntsAre vs' ns)=decide (n=ns):=by
           rw[Bool.eq_iff_iff,decide_eq_true_eq,decide_eq_true_eq]
           constructor
           · rintro⟨a',vs',e,k1,k2⟩
             cases e
             exact uniq a _ _ _ _ g1 g2 k1 k2
           · intro e
             subst e
             exact⟨a,vs2,rfl,g1,g2⟩
         rw[<-ee]at this
         exact this
       · exact ih r2 y hy
 · induction h generalizing us with
   |nil=>cases r;rfl
   | @cons v vs n ms hv t ih=>
     cases r with
     | @cons _ u _ us' r1 r2=>
       obtain⟨a,vs2,rfl,g1,g2⟩:=qbp I hv r1
       rw[List.any_cons,ih r2,List.contains_cons]
       congr 1
       rw[Bool.eq_iff_iff,decide_eq_true_eq,beq_iff_eq]
       constructor
       · rintro⟨a',vs',e,k1,k2⟩
         cases e
         exact(uniq a _ _ _ _ g1 g2 k1 k2).symm
       · intro e
         subst e
         exact⟨a,vs2,rfl,g1,g2⟩
theorem q5b(hK:X.K=K)(hu:X.A.units+64<cLine):OpR X (compareOp .NotIn) (rInT K true):=by
 subst hK
 intro z4 s σ H x y v u Q I rx ry h
 obtain⟨p,xs,ns,nss,rfl,hq,hx,hs,q⟩:=h
 cases ry
 obtain⟨its,r,pl,hz⟩:=I.list hq
 obtain⟨b,ws,rfl,hb,hj⟩:=qbp I hx rx
 obtain⟨e,h1,h2⟩:=qii (A:=X.A.in1) I hb hj (show X.A.units+1<cLine by omega) hs r
 refine SeqAt.notIn_listAt e pl.isList (λw hw=>h1 w (by simpa using hw)) ⟨.bl _,H,I,rfl,?_⟩
 rw[show its.toArray.any e=its.any e by simp,h2]
 exact q
end
def tupI:D->Option (List Int)
 |.tup xs=>q2l xs
 |_=>none
def q3e:List D->Option (List (List Int))
 |[]=>some []
 | d::r=>match tupI d,q3e r with
   |some n,some ns=>some (n::ns)
   |_,_=>none
def q1f(x y:D):Option D:=match y with
 | .lst ys=>(match tupI x,q3e ys with
   |some n,some ns=>some (.bl (!ns.contains n))
   |_,_=>none)
 |_=>none
section
variable{K:PySem.W.Frag}{R:Hp}
theorem q8o{v:V}{d:D}{n:List Int}(r:Rp K R v d)(e:tupI d=some n):TsV K R v n:=by
 unfold tupI at e
 split at e
 · obtain⟨a,xs,rfl,h,r⟩:=r.isT
   have ex:=q2k r e
   subst ex
   exact⟨a,rfl,SqT.of h⟩
 · cases e
theorem q4z:∀{vs:List V} {ds:List D} {ns:List (List Int)},Rps K R vs ds->q3e ds=some ns->Tss K R vs ns
 | _,[],ns,.nil,e=>by
   unfold q3e at e
   cases e
   exact .nil
 | v::vs,d::ds,ns,.cons r t,e=>by
   unfold q3e at e
   split at e
   · rename_i q qs' e1 e2
     cases e
     exact .cons (q8o r e1) (q4z t e2)
   · cases e
theorem q5a:OpS K (rInT K true) q1f:=λH x y d e u Q rx ry q k=>by
 unfold q1f at q
 split at q
 · split at q
   · rename_i n ns e1 e2
     cases q
     obtain⟨p,xs,rfl,h,r⟩:=ry.isL
     exact⟨p,xs,n,ns,rfl,h,q8o rx e1,q4z r e2,k _ (.bl _)⟩
   · cases q
 · cases q
end
section
variable{prog:Program}{w:World}{A:Around}{E:Value->Shared->Prop}{s:Shared}
end
section
variable{X:Cx}{K:PySem.W.Frag}
end
structure ItS(prog:Program)(w:World)(I S:Addr)(its:Array Value)(St:Nat->Heap->Prop):Prop where
 keep:∀{i:Nat} {h h':Heap},St i h->(∀b o,b≠S->h.get? b=some o->h'.get? b=some o)->St i h'
 item:∀{A:Around} {i:Nat} {s:Shared} {Q:Option Value->Shared->Prop} {E:Value->Shared->Prop},A.handled=none->St i s.heap->(hi:i<its.size)->(∀h',St (i+1) h'->(∀b o,b≠I->s.heap.get? b=some o->h'.get? b=some o)->Q (some its[i]) {s with heap:=h'})->wpAny (model prog w) A (pyNext (.ref I)) Q E s
 done:∀{A:Around} {i:Nat} {s:Shared} {Q:Option Value->Shared->Prop} {E:Value->Shared->Prop},A.handled=none->St i s.heap->its.size<=i->(∀h',(∀b o,b≠I->s.heap.get? b=some o->h'.get? b=some o)->Q none {s with heap:=h'})->wpAny (model prog w) A (pyNext (.ref I)) Q E s
section
variable{prog:Program}{w:World}{A:Around}{R:Result->Shared->Prop}{I S:Addr}{its:Array Value}{s0:Shared}{bt:Nat->Nat->Bool}{kw:List (Str×Value)}{St:Nat->Heap->Prop}
end
section
variable{prog:Program}{w:World}{A:Around}{E:Value->Shared->Prop}{s:Shared}
end
section
variable{prog:Program}{w:World}{A:Around}{E:Value->Shared->Prop}{s:Shared}
end
section
variable{X:Cx}{K:PySem.W.Frag}{O:List Nat}{o:Expr}{td:TE}{p pos zq zg:Pos}{fe:RhD}
end
section
variable{X:Cx}{z4:List (Addr×Obj)}{σ:St}{H:Hp}{s:Shared}
end
section
variable{P:Program}{w:World}{K:PySem.W.Frag}{mg:Str->Option Value}{base:Heap}{N:List Str}{qual:Str}{scope:Scope}{f:Addr}{cd:Value}{cl:List (Str×Addr)}{A:Around}{outer:List Env}{s:Shared}{H:Hp}
structure Holds(cl:List (Str×Addr))(scope:Scope)(H:Hp)(h:Heap):Prop where
 free:∀x,scope.names.lookup x=some .free->∃c,cl.lookup x=some c
 inj:∀x y c,cl.lookup x=some c->cl.lookup y=some c->x=y
 cell:∀x c,cl.lookup x=some c->∃u,h.IsCell c u
 hid:∀x c,cl.lookup x=some c->H c=none
end
structure Betw(I S l:Addr)(xs:List V)(J Je:Shared->Prop):Prop where
 lst:∀s,J s->∃its:List Value,Vals xs its/\s.heap.IsList l its.toArray
 turn:∀(s:Shared) (h':Heap),J s->(∀b o,b≠I->b≠S->s.heap.get? b=some o->h'.get? b=some o)->(∃o,h'.get? I=some o)->(∃o,h'.get? S=some o)->J {s with heap:=h'}
 stop:∀(s:Shared) (h':Heap),J s->(∀b o,b≠I->b≠S->s.heap.get? b=some o->h'.get? b=some o)->Je {s with heap:=h'}
section
variable{prog:Program}{w:World}{A:Around}{R:Result->Shared->Prop}{I S l f:Addr}{xs:List V}{kz:Nat->Int}{J Je:Shared->Prop}
end
section
variable{X:Cx}{z4:List (Addr×Obj)}{σ:St}{H H3:Hp}{s s3:Shared}{P:Addr}{pos:Pos}{q:Str}{o:Obj}
end
theorem SqL.keepX{K:PySem.W.Frag}{H H':Hp}{a:Addr}{xs:List V}(s:Same H H')(h:SqL K H a xs):SqL K H' a xs:=by
 rcases h with h|h
 · rcases h with h|⟨o,h⟩
   · exact .inl (.inl (s _ _ h))
   · exact .inl (.inr ⟨o,s _ _ h⟩)
 · exact .inr h
section
variable{X:Cx}{z4:List (Addr×Obj)}{σ:St}{H:Hp}{s:Shared}{I S:Addr}
theorem Inv.turn(J:Inv X z4 σ H s){h':Heap}(hI:H I=none)(hS:H S=none)(c1:X.s₀.heap.objs.size<=I/\I≠X.env.locals/\(∀x c,X.env.cells.lookup x=some c->c≠I)/\∀p∈X.pn++z4,p.1≠I)(c2:X.s₀.heap.objs.size<=S/\S≠X.env.locals/\(∀x c,X.env.cells.lookup x=some c->c≠S)/\∀p∈X.pn++z4,p.1≠S)
   (k:∀b o,b≠I->b≠S->s.heap.get? b=some o->h'.get? b=some o):Inv X z4 σ H {s with heap:=h'}:=by
 have nc:∀{b:Addr},b∉[I,S]->b≠I/\b≠S:=λh=>⟨λz=>h (by rw[z];simp),λz=>h (by rw[z];simp)⟩
 refine J.step (g':=s.gens) (d':=s.drawn) (t':=s.toks) (ch:=[I,S]) (λb hb=>?_) (λb o _ _ hb e _=>k b o (nc hb).1 (nc hb).2 e) (λb o _ _ hb e _=>⟨o.slots,k b o (nc hb).1 (nc hb).2 e⟩) (λb o _ _ n=>n) (λb o hb e=>⟨o,k b o (nc hb).1 (nc hb).2 e⟩) (λb xs h=>h) (λb o u h=>h) (λb ps h=>⟨#[],by rw[h];simp⟩) (λm hn=>?_) (λa o h=>?_) J.bare
 · rcases List.mem_cons.mp hb with rfl|hb
   · exact⟨.inr c1.1,c1.2⟩
   · rw[List.mem_singleton.mp hb];exact⟨.inr c2.1,c2.2⟩
 · obtain⟨o,es,ep,e,r⟩:=hn
   exact⟨o,es,ep,k _ _ c1.2.1.symm c2.2.1.symm e,r⟩
 · refine(J.hok a o h).stay (λb u hb e=>k b u ?_ ?_ e) (λb hb=>hb) λb xs hb=>hb
   · rcases hb with rfl|hb
     · exact λz=>by rw[z,hI]at h;cases h
     · exact λz=>by rw[z,hI]at hb;cases hb
   · rcases hb with rfl|hb
     · exact λz=>by rw[z,hS]at h;cases h
     · exact λz=>by rw[z,hS]at hb;cases hb
end
section
variable{X:Cx}{K:PySem.W.Frag}{e:Expr}{te tb:TE}{p kp pos lp:Pos}{params:Arguments}{body:Expr}{scope:Scope}{x y:Str}{cb c P:Addr}{ib k:Nat}
end
section
variable{K:PySem.W.Frag}{R R2:Hp}
end
section
variable{X:Cx}{K:PySem.W.Frag}
end
section
variable{K:PySem.W.Frag}{R:Hp}{O:List Nat}{t ta:TE}{tr:TA}{fa fb:RhD}{fs:RhL}{E:XK}{C:Addr}{x m f:Str}
theorem Rfs.zip:∀{names:List Str} {vs:List V} {ds:List D},Rps K R vs ds->Rfs K R (names.zip vs) (names.zip ds)
 |[],_,_,_=>.nil
 |_::_,_,_,.nil=>.nil
 |_::_,_,_,.cons h r=>.cons h (Rfs.zip r)
theorem Rfs.lookup:∀{fs:List (Str×V)} {gs:List (Str×D)} {d:D},Rfs K R fs gs->gs.lookup f=some d->∃v,fs.lookup f=some v/\Rp K R v d
 |_,_,_,.nil,e=>by cases e
 | _,_,d,.cons (f:=g) (x:=v) (d:=d') h r,e=>by
   rw[List.lookup_cons]at e ⊢
   cases q:f==g with
   | true=>
     rw[q]at e
     cases e
     exact⟨v,rfl,h⟩
   | false=>
     rw[q]at e
     exact Rfs.lookup r e
end
end L2
namespace L2
open PySem
end L2
namespace L2
open PySem
section
variable{ρ:Rho}{fa fk:RhD}{fs:RhL}
theorem qgn{i:Nat}:q67 i ρ=if i<ρ.length then some (.nx (ρ.set i (some (.dit []))))else none:=rfl
def ditO:D->Option (List (List Key×D))
 |.dit gs=>some gs
 |_=>none
theorem qgm{i:Nat}:q3u i fa fk ρ=(fa ρ).bind λp=>(fk p.2).bind λy=>(keyT y.1).bind λks=>((y.2[i]?).join.bind ditO).bind λgs=>if gs.length<sizeLine then some (.nx (y.2.set i (some (.dit (putD gs ks p.1)))))else none:=by
 unfold q3u
 cases fa ρ with
 |none=>rfl
 | some p=>
   obtain⟨d,ρ1⟩:=p
   dsimp only[Option.bind]
   cases fk ρ1 with
   |none=>rfl
   | some p=>
     obtain⟨y,ρ2⟩:=p
     dsimp only[Option.bind]
     cases keyT y with
     |none=>rfl
     | some ks=>
       dsimp only
       cases h:ρ2[i]? with
       |none=>rfl
       | some o=>
         cases o with
         |none=>rfl
         |some d2=>cases d2<;>rfl
theorem q6x:q80 fa ρ=(fa ρ).bind λp=>(ditO p.1).map λgs=>(gs.map λg=>D.tup (g.1.map keyD),p.2):=by
 unfold q80 q11 q1p
 cases fa ρ with
 |none=>rfl
 | some p=>
   obtain⟨d,ρ1⟩:=p
   cases d<;>rfl
theorem q89:q81 fa ρ=(fa ρ).bind λp=>(ditO p.1).map λgs=>(q4k gs,p.2):=by
 unfold q81 q11 q1p
 cases fa ρ with
 |none=>rfl
 | some p=>
   obtain⟨d,ρ1⟩:=p
   cases d<;>rfl
end
def ky(n:List Int):List Key:=n.map Sum.inl
theorem qa7{a b:List Int}(h:ky a=ky b):a=b:=by
 induction a generalizing b with
 | nil=>cases b with
   |nil=>rfl
   |cons y ys=>cases h
 | cons x xs ih=>cases b with
   |nil=>cases h
   | cons y ys=>
     injection h with h1 h2
     injection h1 with h1
     rw[h1,ih h2]
theorem qdt(n:List Int):(ky n).map keyD=n.map D.int:=by
 unfold ky
 rw[ju]
 rfl
theorem q84:∀n:List Int,q6r (n.map D.int)=some (ky n)
 |[]=>rfl
 | x::xs=>by
   show(match keyO (D.int x),q6r (xs.map D.int)with
     |some k,some ks=>some (k::ks)
     |_,_=>none)=_
   rw[q84 xs]
   rfl
theorem q2o(n:List Int):keyT (.tup (n.map D.int))=some (ky n):=q84 n
def tupD(n:List Int):D:=.tup (n.map D.int)
def dctD(f:List Int->D)(ns:List (List Int)):D:=.dit (ns.map λn=>(ky n,f n))
theorem qbj(f:List Int->D):∀{ns:List (List Int)} {n:List Int},n∈ns->valD (ns.map λn=>(ky n,f n)) (ky n)=some (f n)
 |[],_,h=>nomatch h
 | m::ns,n,h=>by
   unfold valD
   rw[ji,List.find?_cons]
   by_cases z:ky m=ky n
   · have e:=qa7 z
     subst e
     simp
   · rw[decide_eq_false z]
     have hn:n∈ns:=by
       rcases List.mem_cons.mp h with e|h
       · rw[e]at z;exact absurd rfl z
       · exact h
     exact qbj f hn
theorem qj7(f:List Int->D){ns:List (List Int)}{n:List Int}(h:n∉ns):putD (ns.map λn=>(ky n,f n)) (ky n) (f n)=(ns++[n]).map λn=>(ky n,f n):=by
 unfold putD
 rw[if_neg,xq]
 · rfl
 · intro z
   obtain⟨g,hg,e⟩:=List.any_eq_true.mp z
   obtain⟨m,hm,rfl⟩:=List.mem_map.mp hg
   have e2:=qa7 (of_decide_eq_true e)
   exact h (e2▸hm)
theorem q70(f:List Int->D){ns:List (List Int)}{n:List Int}(h:n∈ns):q0u (dctD f ns) (tupD n)=some (f n):=by
 show(match keyT (tupD n)with
   |some k=>valD (ns.map λn=>(ky n,f n)) k
   |none=>none)=_
 unfold tupD
 rw[q2o]
 exact qbj f h
theorem qab(f:List Int->D)(ns:List (List Int)):(ns.map λn=>(ky n,f n)).map (λg=>D.tup (g.1.map keyD))=ns.map tupD:=by
 rw[ju]
 refine List.map_congr_left λn _=>?_
 show D.tup ((ky n).map keyD)=tupD n
 rw[qdt]
 rfl
theorem qdv(f:List Int->D)(ns:List (List Int)):q4k (ns.map λn=>(ky n,f n))=ns.map λn=>.tup [tupD n,f n]:=by
 unfold q4k
 rw[ju]
 refine List.map_congr_left λn _=>?_
 show D.tup [.tup ((ky n).map keyD),f n]=_
 rw[qdt]
 rfl
theorem qe4{fg:RhG}{fb:RhO}(f:List Int->D)(R:Option D->D->Rho)(item:List Int->D)(ns:List (List Int))(nd:ns.Nodup)(hl:ns.length<=1000)
   (turn:∀n∈ns,∀v gs,gs.length<sizeLine->∃ρ1,fg (item n) (R v (.dit gs))=some ρ1/\∃v',fb ρ1=some (.nx (R v' (.dit (putD gs (ky n) (f n)))))):
   ∀v,∃v',q0z fg fb (ns.map item) (R v (.dit []))=some (.nx (R v' (dctD f ns))):=by
 have go:∀(zu done:List (List Int)),(done++zu).Nodup->(done++zu).length<=1000->(∀n∈zu,n∈ns)->∀v,∃v',q0z fg fb (zu.map item) (R v (dctD f done))=some (.nx (R v' (dctD f (done++zu)))):=by
   intro zu
   induction zu with
   |nil=>intro done _ _ _ v;exact⟨v,by rw[List.append_nil];rfl⟩
   | cons n r ih=>
     intro done hd hle hm v
     have nn:n∉done:=λz=>by
       rw[List.nodup_append]at hd
       exact hd.2.2 n z n jg rfl
     have e:done++n::r=(done++[n])++r:=by simp
     have le:(done.map λn=>(ky n,f n)).length<sizeLine:=by
       rw[ja]
       rw[jr,jo]at hle
       exact jt (by omega:done.length<1001) (by decide)
     obtain⟨ρ1,h1,v1,h2⟩:=turn n (hm n jg) v (done.map λn=>(ky n,f n)) le
     rw[qj7 f nn]at h2
     rw[e]at hd hle ⊢
     obtain⟨v2,h3⟩:=ih (done++[n]) hd hle (λm hm'=>hm m (jk _ hm')) v1
     refine⟨v2,?_⟩
     rw[ji]
     unfold dctD at h3 ⊢
     unfold q0z
     rw[h1]
     dsimp only
     rw[h2]
     exact h3
 intro v
 obtain⟨v',h⟩:=go ns [] (by simpa using nd) (by simpa using hl) (λn h=>h) v
 exact⟨v',h⟩
end L2
namespace L2
open PySem
def q08(r:Int)(N:Nat):List (List Int):=(List.range N).flatMap λ(p:Nat)=>(List.range (2^r.toNat-1:Int).toNat).map λ(q:Nat)=>[(p:Int),1+(q:Int)]
def qd5(taps:List Int)(rows:List (List Int))(p w:Int):Int:=(q5n (rowAt rows p.toNat) (taps.map (sgn w))).sum
def q6h(r:Int)(taps:List Int)(rows:List (List Int))(p q b:Int):Int×Int×List Int:=(b,qd5 taps rows p (2*q+b),[(p+1) % (rows.length:Nat),(2*q+b) % 2^r.toNat])
def q4b(r:Int)(taps:List Int)(rows:List (List Int))(n:List Int):List (Int×Int×List Int):=([0,1].filter λb=>decide ((2*n.getD 1 0+b) % 2^r.toNat≠0)).map (q6h r taps rows (n.getD 0 0) (n.getD 1 0))
def q2t(p:Int×Int×List Int):D:=.tup [.int p.1,.int p.2.1,tupD p.2.2]
section
variable{r:Int}{taps:List Int}{rows:List (List Int)}{e:Str}
theorem mem_nodes{N:Nat}{n:List Int}:n∈q08 r N↔∃p q:Int,n=[p,q]/\0<=p/\p<(N:Int)/\1<=q/\q<2^r.toNat:=by
 unfold q08
 rw[List.mem_flatMap]
 constructor
 · rintro⟨p,hp,h⟩
   obtain⟨q,hq,rfl⟩:=List.mem_map.mp h
   rw[List.mem_range]at hp hq
   exact⟨_,_,rfl,by omega,by omega,by omega,by omega⟩
 · rintro⟨p,q,rfl,p0,p1,q0,q1⟩
   refine⟨p.toNat,List.mem_range.mpr (by omega),List.mem_map.mpr ⟨(q-1).toNat,List.mem_range.mpr (by omega),?_⟩⟩
   congr 1
   · omega
   · congr 1;omega
theorem q2b(N:Nat):(q08 r N).Nodup:=by
 unfold q08
 refine List.pairwise_flatMap.mpr ⟨λp _=>?_,?_⟩
 · refine List.pairwise_map.mpr (List.Pairwise.imp ?_ (List.nodup_range (n:=(2^r.toNat-1:Int).toNat)))
   intro a b hab h
   injection h with _ h
   injection h with h _
   exact hab (by omega)
 · refine List.Pairwise.imp ?_ (List.nodup_range (n:=N))
   intro a b hab
   intro x hx y hy hxy
   subst hxy
   obtain⟨_,_,rfl⟩:=List.mem_map.mp hx
   obtain⟨_,_,h⟩:=List.mem_map.mp hy
   injection h with h _
   exact hab (by omega)
theorem q1x(r0:0<=r)(r4:r<=4){N:Nat}(h:N<=6):(q08 r N).length<=1000:=by
 have p16:=q3k r0 r4
 have:=q43 (λ(p:Nat)=>(List.range (2^r.toNat-1:Int).toNat).map λ(q:Nat)=>[(p:Int),1+(q:Int)]) 16 (λk=>by rw[ja,List.length_range];omega) N
 unfold q08
 omega
theorem qfp(ok:q1i r taps rows e){n:List Int}(hn:n∈q08 r rows.length){p:Int×Int×List Int}(h:p∈q4b r taps rows n):p.2.2∈q08 r rows.length/\(p.1=0∨p.1=1)/\p=q6h r taps rows (n.getD 0 0) (n.getD 1 0) p.1/\(2*n.getD 1 0+p.1) % 2^r.toNat≠0:=by
 obtain⟨b,hb,rfl⟩:=List.mem_map.mp h
 rw[List.mem_filter]at hb
 obtain⟨h1,h2⟩:=hb
 have h2:=of_decide_eq_true h2
 have m0:(0:Int)<2^r.toNat:=Int.pow_pos (by decide)
 have n0:(0:Int)<(rows.length:Nat):=by have:=ok.m1;omega
 refine⟨mem_nodes.mpr ⟨_,_,rfl,Int.emod_nonneg _ (by omega),Int.emod_lt_of_pos _ n0,?_,Int.emod_lt_of_pos _ m0⟩,by simpa[q6h]using h1,rfl,h2⟩
 have:=Int.emod_nonneg (2*n.getD 1 0+b) (show(2:Int)^r.toNat≠0 by omega)
 omega
theorem q9d(g:Int->Int):∀(taps row:List Int),(∀b∈row,b=0∨b=1)->(q5n row (taps.map g)).sum=((taps.zip row).map λq=>g q.1*q.2).sum
 |[],_,_=>rfl
 |t::ts,[],_=>by rw[q7i];rfl
 | t::ts,b::bs,h=>by
   have ih:=q9d g ts bs λx hx=>h x (jk _ hx)
   rw[q7i]at ih ⊢
   rw[List.zip_cons_cons,ji,List.sum_cons,<-ih,List.filter_cons]
   rcases h b jg with rfl|rfl
   · rw[if_neg (show¬((0:Int)==1)=true from by decide)];simp
   · rw[if_pos (show((1:Int)==1)=true from by decide),ji,List.sum_cons];simp
end
end L2
namespace L2
open PySem PySem.Spec PyProof.Rows
def rInD(neg:Bool):R2:=λx y H Q=>∃a kvs k b,y=.ref a/\H a=some (.dT kvs)/\x=.ref b/\H b=some (.tup (k.map kV))/\Q (.bl (if neg then !(valV kvs k).isSome else(valV kvs k).isSome)) H
section
variable{X:Cx}{K:PySem.W.Frag}{O:List Nat}
theorem qn7(hu:X.A.units+1<cLine):OpR X (compareOp .In) (rInD false):=by
 intro z4 s σ H x y v u Q I rx ry h
 obtain⟨a,kvs,k,b,rfl,ha,rfl,hb,q⟩:=h
 cases ry
 exact d_in hu I (DGet.t ha hb) rx λs' I'=>⟨.bl _,H,I',rfl,q⟩
theorem q3w(hu:X.A.units+1<cLine):OpR X (compareOp .NotIn) (rInD true):=by
 intro z4 s σ H x y v u Q I rx ry h
 obtain⟨a,kvs,k,b,rfl,ha,rfl,hb,q⟩:=h
 cases ry
 exact qlb hu I (DGet.t ha hb) rx λs' I'=>⟨.bl _,H,I',rfl,q⟩
def hasK(gs:List (List Key×D))(k:List Key):Bool:=gs.any λg=>decide (g.1=k)
def q2e(neg:Bool)(x y:D):Option D:=match y with
 |.dit gs=>(keyT x).map λk=>.bl (if neg then !hasK gs k else hasK gs k)
 |_=>none
theorem q7m{neg:Bool}:OpS K (rInD neg) (q2e neg):=λH x y d e u Q rx ry q k=>by
 cases ry with
 | @dit a kvs gs h r=>
   unfold q2e at q
   dsimp only at q
   cases z:keyT d with
   |none=>rw[z]at q;cases q
   | some ks=>
     rw[z]at q
     cases q
     obtain⟨b,rfl,hb⟩:=q6t rx z
     refine⟨a,kvs,ks,b,rfl,h,rfl,hb,?_⟩
     rw[<-q63,r.any]
     exact k _ (.bl _)
 |_=>cases q
def q6p(i:Nat)(fk:RhD):RhD:=q11 fk λy=>q11 (mVar i) λx=>q1p (q0u x y)
theorem qfz{i:Nat}{ty:TE}{fk:RhD}(hi:i∈O)(hk:ME K O ty fk):ME K O (qij (tVar i) ty) (q6p i fk):=λZ σ H R ρ d ρ' Q S e k=>by
 obtain⟨y,ρ1,e1,e⟩:=q02 e
 obtain⟨x,ρ2,e2,e⟩:=q02 e
 obtain⟨e3,rfl⟩:=q0b e
 obtain⟨e4,rfl⟩:=q40 e2
 obtain⟨l,vs,ds,h1,h2,h3,_⟩:=S.own i hi
 refine⟨.ref l,h2,hk Z σ H R ρ y _ _ S e1 λw H1 R1 S1 st1 r1=>?_⟩
 obtain⟨l',vs',ds',g1,g2,g3,g4,g5⟩:=S1.own i hi
 rw[h2]at g2
 cases g2
 rw[e4]at g1
 cases g1
 cases g5 with
 |lst _=>cases e3
 |dct _=>cases e3
 | @dit kvs gs r=>
   unfold q0u at e3
   dsimp only at e3
   cases z:keyT y with
   |none=>rw[z]at e3;cases e3
   | some ks=>
     rw[z]at e3
     obtain⟨b,rfl,hb⟩:=q6t r1 z
     obtain⟨v,q1,q2⟩:=r.val e3
     exact⟨l,v,rfl,by rw[<-q1];exact DGet.t g3 (S1.sub _ _ hb),k v H1 R1 S1 st1 q2⟩
def q3s(R H:Hp):Hp:=λa=>match R a with
 |some o=>some o
 | none=>match H a with
   |some (.tup xs)=>some (.tup xs)
   |_=>none
theorem q9h{K:PySem.W.Frag}{R R2:Hp}(one:∀{v:V} {d:D},Rp K R2 v d->(tupI d).isSome=true->Rp K R v d):∀{us:List V} {gs:List D},Rps K R2 us gs->(q3e gs).isSome=true->Rps K R us gs
 |_,_,.nil,_=>.nil
 | _,_,.cons r t,hd=>by
   obtain⟨nss,en⟩:=Option.isSome_iff_exists.mp hd
   unfold q3e at en
   split at en
   · rename_i n1 ns1 q1 q2
     exact .cons (one r (by rw[q1];rfl)) (q9h one t (by rw[q2];rfl))
   · cases en
def q2n(f:List D->Option D)(fs:RhL):RhL:=q11 fs λds=>q1p (match f ds with
 |some (.lst es)=>if(q3e es).isSome=true then some es else none
 |_=>none)
theorem q7v{n:Nat}{f:List D->Option D}{tr:TA}{fs:RhL}{E:XK}(hf:q22 n f)(h:MVs K O tr fs):MN K O (q79 (spP K true n f) [] E tr) (q2n f fs):=λZ σ H R ρ d ρ' Q S e k=>by
 obtain⟨ds,ρ1,e1,e⟩:=q02 e
 obtain⟨e2,rfl⟩:=q0b e
 split at e2
 · rename_i es e3
   split at e2
   · rename_i hs
     cases e2
     refine h Z σ H R ρ ds _ _ S e1 λvs z r1=>?_
     subst z
     show spP K true n f (vs++[]) H Q E
     rw[List.append_nil]
     refine⟨by rw[r1.length];exact hf ds _ e3,H,ds,_,λ_ _ q=>q,r1,e3,λv H2 R2 x q=>?_⟩
     obtain⟨l,us,gs,rfl,e4,h0,hH,hR,r⟩:=q
     cases e4
     have sR:∀a o,q3s R H2 a=some o->H2 a=some o:=λa o z=>by
       unfold q3s at z
       cases q:R a with
       |some u=>rw[q]at z;cases z;exact x.h _ _ (S.sub a _ q)
       | none=>
         rw[q]at z
         dsimp only at z
         split at z
         · rename_i xs e5
           cases z
           exact e5
         · cases z
     have y:Ext H R H2 (q3s R H2):=by
       refine⟨x.h,λa o q=>by unfold q3s;rw[q],sR,λa z=>?_⟩
       cases q:R a with
       |some u=>exact .inl (by simp)
       | none=>
         right
         have e6:∃xs,H2 a=some (.tup xs):=by
           unfold q3s at z
           rw[q]at z
           dsimp only at z
           split at z
           · rename_i xs e5;exact⟨xs,e5⟩
           · exact absurd rfl z
         obtain⟨xs,e6⟩:=e6
         cases q2:H a with
         |none=>exact .inl q2
         | some u=>
           have:=x.h _ _ q2
           rw[e6]at this
           exact .inr ⟨xs,by rw[q2];exact this.symm⟩
     have out:q3s R H2 l=none:=by
       unfold q3s
       cases q:R l with
       |some u=>have:=S.sub _ _ q;rw[h0]at this;cases this
       |none=>dsimp only;rw[hH]
     have one:∀{v:V} {d:D},Rp K R2 v d->(tupI d).isSome=true->Rp K (q3s R H2) v d:=λ{v d} r hd=>by
       cases r with
       | @tup a xs gs h rs=>
         obtain⟨ns,en⟩:=Option.isSome_iff_exists.mp hd
         have en:q2l gs=some ns:=en
         have ex:=q2k rs en
         have eg:=qaf en
         subst ex eg
         refine .tup ?_ (Rps.ints ns)
         have hh:=x.s _ _ h
         unfold q3s
         cases q:R a with
         | some u=>
           have:=x.h _ _ (S.sub _ _ q)
           rw[hh]at this
           exact this.symm
         |none=>dsimp only;rw[hh]
       |_=>cases hd
     have all:=q9h one r hs
     exact k l us H2 _ (S.ext y) y.stp h0 hH out all
   · cases e2
 · cases e2
end
theorem qex(a d:Value):argsOk "max" ⟨[a],[(Str.ofString "default",d)]⟩:=by kernel_rfl
def CmpG(prog:Program)(w:World)(A:Around)(I S:Addr)(s0:Shared)(its:Array Value)(bt:Nat->Nat->Bool):Prop:=
 ∀(i j:Nat) (vi vj:Value) (s:Shared) (Q:Value->Shared->Prop) (E:Value->Shared->Prop),its[i]? =some vi->its[j]? =some vj->Kp I S s0 s->(∀s',Kq s s'->Q (.bool (bt i j)) s')->wpAny (model prog w) A (richCompare .Gt vi vj) Q E s
section
variable{prog:Program}{w:World}{A:Around}{R:Result->Shared->Prop}{I S l:Addr}{its:Array Value}{s0:Shared}{bt:Nat->Nat->Bool}{kw:List (Str×Value)}
theorem qdk(hh:A.in1.handled=none)(lI:l≠I)(SI:S≠I)(Sl:S≠l)(zw:CmpG prog w A.in1 I S s0 its bt)(hR:∀v s',its[argBest bt (its.size-1)]? =some v->Kp I S s0 s'->R (.ok (.ret v)) s'):
   ∀(k j:Nat) (s:Shared) (vb:Value) (c:Nat),its.size-(j+1)=k->j+1<=its.size->StL I l its (j+1) s.heap->its[argBest bt j]? =some vb->s.heap.get? S=some {cls:=.type "list",data:=.seq #[vb,vb] c}->Kp I S s0 s->
     codeAny (model prog w) A (.builtin "max.loop" ⟨[.ref I,.none,.ref S],kw⟩) R s:=by
 intro k
 induction k with
 | zero=>
   intro j s vb c hk hj st hb hS K
   have en:j+1=its.size:=by omega
   refine kg F.entry_max_loop ?_
   rw[ko kr]
   show wpAny _ _ (seqItems? (.ref S) >>= _) _ _ s
   refine j7 (xu hS rfl ?_)
   refine j7 (wpAny_tryCatch ?_)
   refine wpAny_pyNext_list_end hh st.1 st.2 (Array.getElem?_eq_none (by omega)) λh' eb=>?_
   have hS2:h'.get? S=some {cls:=.type "list",data:=.seq #[vb,vb] c}:=eb S _ SI hS
   show wpAny _ _ (updateSeq S (λ_=>#[]) >>= _) _ _ {s with heap:=h'}
   refine j7 (wpAny_updateSeq (s:={s with heap:=h'}) hS2 rfl ?_ (by simp[sizeLine_eq]) (by simp[sizeLine_eq]))
   refine j7 (wpAny_letGo ?_)
   refine j8 ?_
   have ej:its.size-1=j:=by omega
   refine hR vb _ (by rw[ej];exact hb) (K.on (λb o h1 h2 e=>?_) rfl rfl rfl)
   exact(xy h' _ (Ne.symm h2)).trans (eb b o h1 e)
 | succ k ih=>
   intro j s vb c hk hj st hb hS K
   have lt:j+1<its.size:=by omega
   refine kg F.entry_max_loop ?_
   rw[ko kr]
   show wpAny _ _ (seqItems? (.ref S) >>= _) _ _ s
   refine j7 (xu hS rfl ?_)
   refine j7 (wpAny_tryCatch ?_)
   have hx:its[j+1]? =some its[j+1]:=Array.getElem?_eq_getElem lt
   refine wpAny_pyNext_list_item st.1 st.2 (x:=its[j+1]) hx λh' st' sb=>?_
   have kI:∀b o,b≠I->s.heap.get? b=some o->h'.get? b=some o:=λb o hb e=>(sb.2 b hb).trans e
   have hS2:h'.get? S=some {cls:=.type "list",data:=.seq #[vb,vb] c}:=kI S _ SI hS
   have L2:h'.IsList l its:=by obtain⟨o,e,q⟩:=st.2;exact⟨o,kI l o lI e,q⟩
   have K2:Kp I S s0 {s with heap:=h'}:=K.on (λb o h1 _ e=>kI b o h1 e) rfl rfl rfl
   show wpAny _ _ (pure its[j+1] >>= _) _ _ {s with heap:=h'}
   refine j7 (j8 ?_)
   show wpAny _ _ (Sem.tryCatch _ _ >>= _) _ _ {s with heap:=h'}
   refine j7 (wpAny_tryCatch (x5 ?_))
   refine j7 (zw (j+1) (argBest bt j) _ vb _ _ _ hx hb K2 λs3 q3=>?_)
   refine j7 (x5 (wpAny_truthy_bool ?_))
   refine j7 (wpAny_letGo ?_)
   refine j8 ?_
   have hS3:=q3.heap S _ hS2
   have st3:StL I l its (j+1+1) s3.heap:=StL.keep ⟨st',L2⟩ λb o _ e=>q3.heap b o e
   have K3:Kp I S s0 s3:=K2.on (λb o _ _ e=>q3.heap b o e) q3.gens q3.drawn q3.os
   have eb:argBest bt (j+1)=if bt (j+1) (argBest bt j)=true then j+1 else argBest bt j:=by rw[argBest]
   cases q:bt (j+1) (argBest bt j)with
   | true=>
     rw[q,if_pos rfl]at eb
     show wpAny _ _ (updateSeq S _ >>= _) _ _ s3
     refine j7 (wpAny_updateSeq hS3 rfl ?_ (by simp[sizeLine_eq]) (by simp[sizeLine_eq]))
     refine j7 (wpAny_letGo ?_)
     refine j8 ⟨ku kr _,?_⟩
     have hS4:=ke (Obj.mapSeq λ_=>#[its[j+1],its[j+1]]) hS3 rfl
     refine ih (j+1) _ its[j+1] _ (by omega) lt (st3.keep λb o hb e=>?_) (by rw[eb];exact hx) hS4 (K3.on (λb o h1 h2 e=>(xy s3.heap _ (Ne.symm h2)).trans e) rfl rfl rfl)
     refine(xy s3.heap _ ?_).trans e
     rcases hb with rfl|rfl
     · exact SI
     · exact Sl
   | false=>
     rw[q,if_neg (by decide)]at eb
     show wpAny _ _ (letGo _ >>= _) _ _ s3
     refine j7 (wpAny_letGo ?_)
     refine j8 ⟨ku kr _,?_⟩
     exact ih (j+1) s3 vb c (by omega) lt st3 (by rw[eb];exact hb) hS3 K3
theorem qb5(hh:A.in1.handled=none)(lI:l≠I)(SI:S≠I)(Sl:S≠l)(zw:CmpG prog w A.in1 I S s0 its bt)(hR:∀v s',its[argBest bt (its.size-1)]? =some v->Kp I S s0 s'->R (.ok (.ret v)) s')
   (hD:its.size=0->∃x d r,kw=(x,d)::r/\∀s',Kp I S s0 s'->R (.ok (.ret d)) s')
   {s:Shared} {c:Nat} (st:StL I l its 0 s.heap) (hS:s.heap.get? S=some {cls:=.type "list",data:=.seq #[] c}) (K:Kp I S s0 s):codeAny (model prog w) A (.builtin "max.loop" ⟨[.ref I,.none,.ref S],kw⟩) R s:=by
 refine kg F.entry_max_loop ?_
 rw[ko kr]
 show wpAny _ _ (seqItems? (.ref S) >>= _) _ _ s
 refine j7 (xu hS rfl ?_)
 refine j7 (wpAny_tryCatch ?_)
 by_cases h0:its.size=0
 · obtain⟨x,d,r,rfl,hE⟩:=hD h0
   refine wpAny_pyNext_list_end hh st.1 st.2 (Array.getElem?_eq_none (by omega)) λh' eb=>?_
   show wpAny _ _ (rule _ >>= _) _ _ {s with heap:=h'}
   refine j7 (xo ?_)
   refine j8 ?_
   exact hE _ (K.on (λb o h1 h2 e=>eb b o h1 e) rfl rfl rfl)
 · have lt:0<its.size:=by omega
   have hx:its[0]? =some its[0]:=Array.getElem?_eq_getElem lt
   refine wpAny_pyNext_list_item st.1 st.2 (x:=its[0]) hx λh' st' sb=>?_
   have kI:∀b o,b≠I->s.heap.get? b=some o->h'.get? b=some o:=λb o hb e=>(sb.2 b hb).trans e
   have hS2:h'.get? S=some {cls:=.type "list",data:=.seq #[] c}:=kI S _ SI hS
   have L2:h'.IsList l its:=by obtain⟨o,e,q⟩:=st.2;exact⟨o,kI l o lI e,q⟩
   show wpAny _ _ (pure its[0] >>= _) _ _ {s with heap:=h'}
   refine j7 (j8 ?_)
   show wpAny _ _ (updateSeq S _ >>= _) _ _ {s with heap:=h'}
   refine j7 (wpAny_updateSeq (s:={s with heap:=h'}) hS2 rfl ?_ (by simp[sizeLine_eq]) (by simp[sizeLine_eq]))
   refine j8 ⟨ku kr _,?_⟩
   have hS4:=ke (Obj.mapSeq λ_=>#[its[0],its[0]]) hS2 rfl
   refine qdk hh lI SI Sl zw hR (its.size-1) 0 _ its[0] _ rfl lt (StL.keep ⟨st',L2⟩ λb o hb e=>?_) hx hS4 (K.on (λb o h1 h2 e=>(xy h' _ (Ne.symm h2)).trans (kI b o h1 e)) rfl rfl rfl)
   refine(xy h' _ ?_).trans e
   rcases hb with rfl|rfl
   · exact SI
   · exact Sl
end
section
variable{prog:Program}{w:World}{A:Around}{E:Value->Shared->Prop}{s:Shared}{Q:Value->Shared->Prop}{p:Addr}{its:Array Value}{bt:Nat->Nat->Bool}
theorem qnz(hh:A.in1.handled=none)(hl:s.heap.IsList p its){kw:List (Str×Value)}{dflt:Option Value}(hk:kw=dflt.toList.map λd=>(Str.ofString "default",d))
   (zw:CmpG prog w A.in1 s.heap.objs.size (s.heap.objs.size+1) s its bt)
   (hD:its.size=0->∃d,dflt=some d/\∀s',Kq s s'->Q d s') (hQ:∀v s',its[argBest bt (its.size-1)]? =some v->Kq s s'->Q v s'):
   wpAny (model prog w) A.in1 (do let it <-pyIter (.ref p);let b <-newList [];again (.builtin "max.loop" ⟨[it,.none,b],kw⟩)) (λfin s'=>match fin with
     | .done f=>(match (Except.ok f:Result)with
       |.ok (.ret v)=>Q v s'
       |.ok _=>False
       |.error e=>E e s')
     | .again c'=>c'.quiet=true/\codeAny (model prog w) A c' (λr s'=>match r with
       |.ok (.ret v)=>Q v s'
       |.ok _=>False
       |.error e=>E e s') s') E s:=by
 have lp:p<s.heap.objs.size:=by obtain⟨o,e,_⟩:=hl;exact jd e
 refine j7 (v9 hl ?_)
 refine j7 (xf ?_ (by first|exact Nat.zero_le _|(show(0:Nat)<=sizeLine;exact Nat.zero_le _)))
 refine j8 ⟨ku kr _,?_⟩
 have push2:∀b o,s.heap.get? b=some o->((s.heap.push {cls:=.type "list_iterator",data:=.fields #[.ref p,.int 0 0]}).push {cls:=.type "list",data:=.seq #[]}).get? b=some o:=λb o e=>je _ (je _ e)
 have sz:(s.heap.push {cls:=.type "list_iterator",data:=.fields #[.ref p,.int 0 0]}).objs.size=s.heap.objs.size+1:=kf _ _
 have kq:∀s',Kp s.heap.objs.size (s.heap.objs.size+1) s s'->Kq s s':=λs' k=>⟨λb o e=>k.heap b o (jj (jd e)) (jj (Nat.lt_succ_of_lt (jd e))) e,k.gens,k.drawn,k.os⟩
 dsimp only
 rw[sz]
 refine qb5 (s0:=s) hh (jj lp) (Nat.ne_of_gt (Nat.lt_succ_self _)) (Nat.ne_of_gt (Nat.lt_succ_of_lt lp)) zw (λv s' e k=>hQ v s' e (kq s' k)) (λh0=>?_) (c:=0) ⟨⟨_,je _ (jq _ rfl),rfl,rfl⟩,?_⟩ ?_ ⟨λb o _ _ e=>push2 b o e,rfl,rfl,rfl⟩
 · obtain⟨d,e,k⟩:=hD h0
   subst e
   exact⟨_,d,[],by rw[hk];rfl,λs' k'=>k s' (kq s' k')⟩
 · obtain⟨o,e,c⟩:=hl
   exact⟨o,push2 p o e,c⟩
 · have:=jq (s.heap.push {cls:=.type "list_iterator",data:=.fields #[.ref p,.int 0 0]}) (o:={cls:=.type "list",data:=.seq #[]}) rfl
   rw[sz]at this
   exact this
theorem qep(hh:A.in1.handled=none)(hl:s.heap.IsList p its){d:Value}(zw:CmpG prog w A.in1 s.heap.objs.size (s.heap.objs.size+1) s its bt)
   (hD:its.size=0->∀s',Kq s s'->Q d s') (hQ:∀v s',0<its.size->its[argBest bt (its.size-1)]? =some v->Kq s s'->Q v s'):wpAny (model prog w) A (call (.builtin "max") [.ref p] [(Str.ofString "default",d)]) Q E s:=by
 refine kmk_tree F.kind_max F.plain_max F.entry_max (qex _ _) ?_
 show wpAny _ _ (Builtin.Builtins.bindParams "max" ["key","default"] 0 ⟨[],[(Str.ofString "default",d)]⟩ >>= _) _ _ s
 refine j7 (xk (show _=pure [none,some d]from by rfl) ?_)
 show wpAny _ _ (pure (Value.ref p) >>= _) _ _ s
 refine j7 (j8 ?_)
 dsimp only
 rw[show(toString "max"++toString ".loop")="max.loop" from by decide]
 exact qnz hh hl (dflt:=some d) rfl zw (λh=>⟨d,rfl,hD h⟩) λv s' e k=>hQ v s' (by
   rcases Nat.eq_zero_or_pos its.size with z|z
   · rw[Array.getElem?_eq_none (by omega)]at e;cases e
   · exact z) e k
end
def btG(ns:List Int):Nat->Nat->Bool:=λi j=>decide (ns.getD j 0<ns.getD i 0)
def maxI(ns:List Int):Option Int:=match ns with
 |[]=>none
 |_=>some (ns.getD (argBest (btG ns) (ns.length-1)) 0)
def qjz(n:Int)(ns:List Int):V:=.int ((maxI ns).getD n)
section
variable{prog:Program}{w:World}{A:Around}{E:Value->Shared->Prop}{s:Shared}{Q:Value->Shared->Prop}
theorem qfj{a c:Int}{t u:Tok}(h:Q (.bool (decide (c<a))) s):wpAny (model prog w) A (richCompare .Gt (.int a t) (.int c u)) Q E s:=by
 show wpAny (model prog w) A (compareOp .Gt (.int a t) (.int c u)) Q E s
 exact gt_int h
end
section
variable{X:Cx}{K:PySem.W.Frag}{O:List Nat}{e:Expr}{d:Expr}{te:TE}{p kp pos:Pos}{fe:RhD}{n:Int}
def qm4(K:PySem.W.Frag)(n:Int)(te:TE):TE:=λσ H Q=>te σ H λv H1=>∃(p:Addr) (ns:List Int),[v]=[V.ref p]/\SqL K H1 p (ns.map V.int)/\Q (qjz n ns) H1
theorem qcu(hK:X.K=K)(hc:X.calm=true)(hg:Gl X "max")(hm:X.mg "max"=none)(ha:PE X e te){td:TE}(hd:PE X d td)(hdt:∀σ H Q,Q (.int n) H->td σ H Q)(he:starEach [e] X.env=(false,eval e X.env)::starEach [] X.env:=by rfl)
   (h1:backTo pos (starEach [e] X.env)=(false,eval e X.env)::backTo pos (starEach [] X.env):=by rfl) (h2:(backTo pos (starEach [e] X.env)).any (·.1)=false:=by rfl)
   (h3:(backToKw pos (keywordEach [⟨some "default",d,kp⟩] X.env)).all (λx=>x.1.isSome)=true:=by rfl) (h4:(backToKw pos (keywordEach [⟨some "default",d,kp⟩] X.env)).any (λx=>x.1.isNone)=false:=by rfl)
   (h5:(backToKw pos (keywordEach [⟨some "default",d,kp⟩] X.env)).filterMap (·.1)=[Str.ofString "default"]:=by rfl):
   PE X (.Call (.Name "max" p) [e] [⟨some "default",d,kp⟩] pos) (qm4 K n te):=by
 subst hK
 intro z4 s σ H Q I h
 refine kj (q42 I hg hm (u:=.builtin "max") (by rfl) ?_)
 refine callWith_kw (thn ((q00 ha q04 he) pos z4 s σ H (λvs H1=>∃(p1:Addr) (ns:List Int),vs=[V.ref p1]/\SqL X.K H1 p1 (ns.map V.int)/\Q (qjz n ns) H1) I h) λus s1 hh1=>?_) h1 h2 h3 h4
 obtain⟨vs,H1,I1,r1,p1,ns,rfl,q1,k⟩:=hh1
 obtain⟨u,rfl,ru⟩:=vals1 r1
 cases(show u=Value.ref p1 from ru)
 refine kws_cons (thn (hd z4 s1 σ H1 (λv H2=>v=.int n/\H2=H1) I1 (hdt _ _ _ ⟨rfl,rfl⟩)) λdv s2 hh2=>?_)
 obtain⟨x,H2,I2,r2,rfl,rfl⟩:=hh2
 obtain⟨t0,rfl⟩:=r2
 refine kws_nil ?_
 rw[h5]
 obtain⟨its,rv,pl,hz⟩:=I2.list q1
 have ln:its.length=ns.length:=by have:=rv.length;simp at this;omega
 have hh:X.A.in1.handled=none:=I2.ok.hd hc
 show wpAny _ _ (call (.builtin "max") [.ref p1] [(Str.ofString "default",.int n t0)]) _ _ s2
 refine qep (its:=its.toArray) (bt:=btG ns) hh pl.isList (λi j vi vj s Q E hi hj _ q=>?_) (λh0 s' k'=>?_) λv s' h0 ev k'=>?_
 · obtain⟨t,rfl⟩:=q1k rv (by simpa using hi)
   obtain⟨t',rfl⟩:=q1k rv (by simpa using hj)
   exact qfj (q s ⟨λ_ _ e=>e,rfl,rfl,rfl⟩)
 · have en:ns=[]:=List.eq_nil_of_length_eq_zero (by simp at h0;rw[h0]at ln;simpa using ln.symm)
   subst en
   exact⟨.int n,_,qa8 I2 k',⟨t0,rfl⟩,k⟩
 · have hn:ns≠[]:=λz=>by rw[z]at ln;simp at h0 ln;rw[ln]at h0;exact absurd h0 (by simp)
   rw[jw,ln]at ev
   obtain⟨t,rfl⟩:=q1k rv (by simpa using ev)
   refine⟨_,_,qa8 I2 k',?_,k⟩
   unfold qjz maxI
   cases ns with
   |nil=>exact absurd rfl hn
   |cons a r=>exact⟨t,rfl⟩
def q2v(n:Int):D->Option D
 |.lst xs=>(q2l xs).map λns=>.int ((maxI ns).getD n)
 |_=>none
theorem qdi(h:MB K O te fe):ME K O (qm4 K n te) (mOp1 (q2v n) fe):=λZ σ H R ρ d ρ' Q S e k=>by
 obtain⟨x,ρ1,e1,e⟩:=q02 e
 obtain⟨e3,rfl⟩:=q0b e
 refine h Z σ H R ρ x _ _ S e1 λv H1 R1 S1 st1 r1=>?_
 unfold q2v at e3
 split at e3
 · rename_i xs
   obtain⟨b,vs,rfl,q,r⟩:=r1.isL
   cases z:q2l xs with
   |none=>rw[z]at e3;cases e3
   | some ns=>
     rw[z]at e3
     cases e3
     have ex:=q2k r z
     subst ex
     exact⟨b,ns,rfl,q,k _ H1 R1 S1 st1 (.int _)⟩
 · cases e3
end
def qmo(K:PySem.W.Frag):V->List V->Hp->VK->Prop:=λx vs H Q=>∃(p:Addr) (xs:List V) (y:V) (ns:List Int) (nss:List (List Int)),x=.ref p/\vs=[y]/\SqL K H p xs/\TsV K H y ns/\Tss K H xs nss/\ns∈nss/\Q (.int (nss.idxOf ns:Nat)) H
theorem qm1{K:PySem.W.Frag}{H:Hp}:∀{xs:List V} {nss:List (List Int)},Tss K H xs nss->∀{i:Nat} {x:V},xs[i]? =some x->∃n,nss[i]? =some n/\TsV K H x n:=by
 intro xs nss h
 induction h with
 |nil=>intro i x e;simp at e
 | cons hv t ih=>
   intro i x e
   cases i with
   |zero=>cases e;exact⟨_,rfl,hv⟩
   |succ i=>exact ih e
theorem Tss.length{K:PySem.W.Frag}{H:Hp}{xs:List V}{nss:List (List Int)}(h:Tss K H xs nss):xs.length=nss.length:=by
 induction h with
 |nil=>rfl
 |cons _ _ ih=>rw[jo,jo,ih]
section
variable{X:Cx}{K:PySem.W.Frag}
theorem qjt(hK:X.K=K)(hu:X.A.units+64<cLine):MtR X "list.index" (qmo K):=by
 subst hK
 intro z4 s σ H x vs v us Q I rx rv h
 obtain⟨p,xs,y,ns,nss,rfl,rfl,hq,hy,hs,hm,q⟩:=h
 cases rx
 obtain⟨u,rfl,ru⟩:=rv.one
 obtain⟨its,ri,pl,hz⟩:=I.list hq
 obtain⟨b,ws,rfl,hb,hj⟩:=qbp I hy ru
 obtain⟨⟨cls,dd,data,sl⟩,ho,hc,n,hd⟩:=pl.isList
 simp only at hc hd
 subst hc hd
 have uniq:∀(a:Addr) (vs vs':List Value) (ms ms':List Int),IsTup s.heap a vs.toArray->IntsAre vs ms->IsTup s.heap a vs'.toArray->IntsAre vs' ms'->ms=ms':=λa vs vs' ms ms' h1 h2 h3 h4=>by
   obtain⟨o,e1,c1,n1,d1⟩:=h1
   obtain⟨o2,e2,c2,n2,d2⟩:=h3
   rw[e1]at e2
   cases e2
   rw[d1]at d2
   injection d2 with d3 _
   have e:vs=vs':=by simpa using d3
   subst e
   apply List.ext_getElem?
   intro i
   have l1:=h2.length
   have l2:=h4.length
   by_cases h:i<ms.length
   · obtain⟨t,e1⟩:=q34 h2 (jf h)
     obtain⟨u,e2⟩:=q34 h4 (jf (show i<ms'.length by omega))
     rw[e1]at e2
     injection e2 with e3
     injection e3 with e4 _
     rw[jf h,jf (show i<ms'.length by omega),e4]
   · rw[xw (by omega),xw (by omega)]
 have lx:=hs.length
 have li:=ri.length
 have hjj:nss.idxOf ns<nss.length:=List.idxOf_lt_length_iff.mpr hm
 have hbig:nss.length<2^62:=Nat.lt_of_le_of_lt (by omega:nss.length<=sizeLine) (by rw[sizeLine_eq];decide)
 -- what stands at a place
 have at_:∀(i:Nat) (hi:i<its.length),∃a vs2,its[i]=.ref a/\IsTup s.heap a vs2.toArray/\IntsAre vs2 (nss[i]'(by omega)):=λi hi=>by
   have hx:xs[i]? =some (xs[i]'(by omega)):=jf (by omega)
   obtain⟨m,e1,tv⟩:=qm1 hs hx
   rw[jf (by omega)]at e1
   cases e1
   obtain⟨w,e2,r2⟩:=q77 ri (jf hi)
   rw[hx]at e2
   cases e2
   obtain⟨a,vs2,e3,g1,g2⟩:=qbp I tv r2
   exact⟨a,vs2,e3,g1,g2⟩
 classical
 refine call_meets PySem.F.slot_list_index ⟨_,ho,rfl⟩ PySem.F.entry_list_index (PySem.F.args_list_index_2 _ _)
   (PySem.SeqAt.list_indexAt p its.toArray n dd sl (.ref b) (λy=>decide (∃a vs,y=Value.ref a/\IsTup s.heap a vs.toArray/\IntsAre vs ns)) (nss.idxOf ns) (by simpa[<-li,lx]using hjj) (by omega) ?_ ?_) ⟨ho,λy hy'=>?_,⟨.int _,H,I.tok _,⟨_,rfl⟩,q⟩⟩
 · obtain⟨a,vs2,e3,g1,g2⟩:=at_ (nss.idxOf ns) (by omega)
   have e4:nss[nss.idxOf ns]=ns:=List.getElem_idxOf hjj
   rw[e4]at g2
   exact decide_eq_true ⟨a,vs2,by simpa using e3,g1,g2⟩
 · intro j hjs hlt
   have hj2:j<its.length:=by simpa using hjs
   obtain⟨a,vs2,e3,g1,g2⟩:=at_ j hj2
   refine decide_eq_false ?_
   rintro⟨a',vs',e5,k1,k2⟩
   have e6:(Value.ref a)=Value.ref a':=by rw[<-e3,<-e5];simp
   cases e6
   have e7:=uniq a _ _ _ _ g1 g2 k1 k2
   have:=List.not_of_lt_findIdx (p:=(·==ns)) (xs:=nss) hlt
   simp[e7]at this
 · have hy2:y∈its:=by simpa using hy'
   obtain⟨i,hi,rfl⟩:=List.mem_iff_getElem.mp hy2
   obtain⟨a,vs2,e3,g1,g2⟩:=at_ i hi
   rw[e3]
   have:=q78 (A:=X.A.in1) g1 hb g2 hj (show X.A.units+1<cLine by omega)
   have ee:decide (∃a' vs',Value.ref a=Value.ref a'/\IsTup s.heap a' vs'.toArray/\IntsAre vs' ns)=decide (nss[i]'(by omega)=ns):=by
     rw[Bool.eq_iff_iff,decide_eq_true_eq,decide_eq_true_eq]
     constructor
     · rintro⟨a',vs',e,k1,k2⟩
       cases e
       exact uniq a _ _ _ _ g1 g2 k1 k2
     · intro e
       rw[e]at g2
       exact⟨a,vs2,rfl,g1,g2⟩
   rw[<-ee]at this
   exact this
end
def q5q(x y:D):Option D:=match x with
 | .lst ds=>(match tupI y,q3e ds with
   |some n,some ns=>if n∈ns then some (.int (ns.idxOf n:Nat))else none
   |_,_=>none)
 |_=>none
theorem qjy{K:PySem.W.Frag}{O:List Nat}{t tb:TE}{fa fb:RhD}(ha:ME K O t fa)(hb:ME K O tb fb):ME K O (tBM K "list" (qmo K) t (q2x tb tNil)) (mOp2 q5q fa fb):=λZ σ H R ρ d ρ' Q S e k=>by
 obtain⟨x,ρ1,e1,e⟩:=q02 e
 obtain⟨y,ρ2,e2,e⟩:=q02 e
 obtain⟨e3,rfl⟩:=q0b e
 unfold q5q at e3
 split at e3
 · split at e3
   · rename_i n ns z1 z2
     split at e3
     · rename_i hm
       cases e3
       refine ha Z σ H R ρ _ ρ1 _ S e1 λv H1 R1 S1 st1 r1=>?_
       obtain⟨p,xs,rfl,h,r⟩:=r1.isL
       refine⟨.inl ⟨rfl,_,Same.sqL S1.same h⟩,hb Z σ H1 R1 ρ1 _ _ _ S1 e2 λw H2 R2 S2 st2 r2=>?_⟩
       exact⟨p,xs,w,n,ns,rfl,rfl,Same.sqL S2.same (Same.sqL st2.r h),q8o (r2.mono S2.same) z1,q4z ((r.mono st2.r).mono S2.same) z2,hm,k _ H2 R2 S2 (st1.trans st2) (.int _)⟩
     · cases e3
   · cases e3
 · cases e3
end L2
namespace L2
open PySem
def dicP(dn:List (List Int×Int)):D:=.dit (dn.map λp=>(ky p.1,.int p.2))
def nsP(dn:List (List Int×Int)):List (List Int):=dn.map (·.1)
theorem qe0{dn:List (List Int×Int)}{n:List Int}:hasK (dn.map λp=>(ky p.1,D.int p.2)) (ky n)=decide (n∈nsP dn):=by
 unfold hasK nsP
 rw[Bool.eq_iff_iff,decide_eq_true_eq,List.any_eq_true]
 constructor
 · rintro⟨g,hg,e⟩
   obtain⟨p,hp,rfl⟩:=List.mem_map.mp hg
   exact List.mem_map.mpr ⟨p,hp,qa7 (of_decide_eq_true e)⟩
 · intro h
   obtain⟨p,hp,rfl⟩:=List.mem_map.mp h
   exact⟨_,List.mem_map.mpr ⟨p,hp,rfl⟩,decide_eq_true rfl⟩
theorem qj6{dn:List (List Int×Int)}{n:List Int}(v:Int)(h:n∉nsP dn):putD (dn.map λp=>(ky p.1,D.int p.2)) (ky n) (.int v)=(dn++[(n,v)]).map λp=>(ky p.1,D.int p.2):=by
 unfold putD
 rw[if_neg,xq]
 · rfl
 · intro z
   have:=qe0 (dn:=dn) (n:=n)
   unfold hasK at this
   rw[z]at this
   exact h (of_decide_eq_true this.symm)
theorem qbi{n:List Int}:∀{dn:List (List Int×Int)},n∈nsP dn->∃v,valD (dn.map λp=>(ky p.1,D.int p.2)) (ky n)=some (.int v)
 |[],h=>nomatch h
 | p::dn,h=>by
   unfold valD
   rw[ji,List.find?_cons]
   by_cases z:ky p.1=ky n
   · rw[decide_eq_true z]
     exact⟨p.2,rfl⟩
   · rw[decide_eq_false z]
     refine qbi (dn:=dn) ?_
     rcases List.mem_cons.mp h with e|h
     · rw[e]at z;exact absurd rfl z
     · exact h
theorem q6z(neg:Bool)(dn:List (List Int×Int))(n:List Int):q2e neg (tupD n) (dicP dn)=some (.bl (if neg then !decide (n∈nsP dn)else decide (n∈nsP dn))):=by
 show(keyT (tupD n)).map _=_
 unfold tupD
 rw[q2o]
 show some (D.bl (if neg then !hasK (dn.map λp=>(ky p.1,D.int p.2)) (ky n)else hasK (dn.map λp=>(ky p.1,D.int p.2)) (ky n)))=_
 rw[qe0]
theorem qal{dn:List (List Int×Int)}{n:List Int}(h:n∈nsP dn):∃v,q0u (dicP dn) (tupD n)=some (.int v):=by
 obtain⟨v,e⟩:=qbi h
 refine⟨v,?_⟩
 show(match keyT (tupD n)with
   |some k=>valD (dn.map λ(p:List Int×Int)=>(ky p.1,D.int p.2)) k
   |none=>none)=_
 unfold tupD
 rw[q2o]
 exact e
def q0s(r:Int)(taps:List Int)(rows:List (List Int))(n:List Int):List (List Int):=((q4b r taps rows n).filter λp=>p.2.1==0).map (·.2.2)
def Ordd(r:Int)(taps:List Int)(rows:List (List Int))(dn:List (List Int)):Prop:=∀(i:Nat) (n:List Int),dn[i]? =some n->∀m∈q0s r taps rows n,m∈dn.take i
def rdy(r:Int)(taps:List Int)(rows:List (List Int))(dn:List (List Int)):List (List Int):=(q08 r rows.length).filter λn=>!decide (n∈dn)&&(q0s r taps rows n).all λm=>decide (m∈dn)
section
variable{r:Int}{taps:List Int}{rows:List (List Int)}{e:Str}
theorem qdp(ok:q1i r taps rows e){n:List Int}(hn:n∈q08 r rows.length){m:List Int}(h:m∈q0s r taps rows n):m∈q08 r rows.length:=by
 obtain⟨p,hp,rfl⟩:=List.mem_map.mp h
 exact(qfp ok hn (List.mem_filter.mp hp).1).1
theorem rdy_mem{dn:List (List Int)}{n:List Int}:n∈rdy r taps rows dn↔n∈q08 r rows.length/\n∉dn/\∀m∈q0s r taps rows n,m∈dn:=by
 unfold rdy
 rw[List.mem_filter]
 simp
theorem q7f{dn:List (List Int)}:(rdy r taps rows dn).Nodup:=(q2b _).filter _
theorem qfv{dn rd:List (List Int)}(h:Ordd r taps rows dn)(hr:∀n∈rd,∀m∈q0s r taps rows n,m∈dn):Ordd r taps rows (dn++rd):=λi n hi m hm=>by
 by_cases z:i<dn.length
 · rw[xx z]at hi
   have:=h i n hi m hm
   rw[List.take_append_of_le_length (by omega)]
   exact this
 · rw[xr (by omega)]at hi
   have:=hr n (va hi) m hm
   rw[List.take_append]
   rw[List.take_of_length_le (by omega)]
   exact List.mem_append_left _ this
structure Done(r:Int)(taps:List Int)(rows:List (List Int))(dn:List (List Int)):Prop where
 nd:dn.Nodup
 sub:∀n∈dn,n∈q08 r rows.length
 ord:Ordd r taps rows dn
theorem q7o{dn:List (List Int)}(h:Done r taps rows dn):dn.length<=(q08 r rows.length).length:=List.Nodup.length_le_of_subset h.nd λn hn=>h.sub n hn
theorem qgs:Done r taps rows [] where
 nd:=List.nodup_nil
 sub:=λn h=>nomatch h
 ord:=λi n h=>by simp at h
theorem qgt{dn:List (List Int)}(h:Done r taps rows dn):Done r taps rows (dn++rdy r taps rows dn):=by
 refine⟨?_,λn hn=>?_,qfv h.ord λn hn=>(rdy_mem.mp hn).2.2⟩
 · rw[List.nodup_append]
   refine⟨h.nd,q7f,λa ha b hb z=>?_⟩
   subst z
   exact(rdy_mem.mp hb).2.1 ha
 · rcases List.mem_append.mp hn with z|z
   · exact h.sub n z
   · exact(rdy_mem.mp z).1
theorem q8n(ok:q1i r taps rows e){dn:List (List Int)}(hr:rdy r taps rows dn=[]){n:List Int}(hn:n∈q08 r rows.length)(hd:n∉dn):∃m∈q0s r taps rows n,m∉dn:=by
 refine Classical.byContradiction λz=>?_
 have:n∈rdy r taps rows dn:=rdy_mem.mpr ⟨hn,hd,λm hm=>Classical.byContradiction λq=>z ⟨m,hm,q⟩⟩
 rw[hr]at this
 exact nomatch this
end
end L2
namespace L2
open PySem
section
variable{ρ:Rho}{fa:RhD}{fs:RhL}
theorem qea{i:Nat}:q6p i fa ρ=(fa ρ).bind λp=>((p.2[i]?).join).bind λx=>(q0u x p.1).map λd=>(d,p.2):=by
 unfold q6p q11 mVar q1p
 cases fa ρ with
 |none=>rfl
 | some p=>
   obtain⟨d,ρ1⟩:=p
   dsimp only[Option.bind]
   cases h:ρ1[i]? with
   |none=>rfl
   | some o=>
     cases o with
     |none=>rfl
     | some x=>
       cases hx:q0u x d with
       |none=>simp[hx]
       |some y=>simp[hx]
def tlsO:D->Option (List D)
 |.lst es=>if(q3e es).isSome=true then some es else none
 |_=>none
theorem q8a{f:List D->Option D}:q2n f fs ρ=(fs ρ).bind λp=>((f p.1).bind tlsO).map λd=>(d,p.2):=by
 unfold q2n q11 q1p
 cases fs ρ with
 |none=>rfl
 | some p=>
   obtain⟨ds,ρ1⟩:=p
   dsimp only[Option.bind]
   cases f ds with
   |none=>rfl
   | some d=>
     cases d with
     | lst es=>
       show _=Option.map _ (if(q3e es).isSome=true then some es else none)
       dsimp only
       by_cases h:(q3e es).isSome=true
       · rw[if_pos h];rfl
       · rw[if_neg h];rfl
     |_=>rfl
end
end L2
set_option maxHeartbeats 400000
namespace L2
open PySem PySem.W PyProof.Rows
abbrev SgM:=StateT SortSt Sem
def gal':Bool->Keyed->Array Keyed->Nat->Nat->Nat->SgM (Option Nat):=sortPriv% PySem.Builtin.gallop
def mlo':Array Keyed->Array Keyed->SgM (Array Keyed):=sortPriv% PySem.Builtin.mergeLo
def mhi':Array Keyed->Array Keyed->SgM (Array Keyed):=sortPriv% PySem.Builtin.mergeHi
def bey(l:Bool)(key:Keyed)(arr:Array Keyed)(base i:Nat):SgM (Option Bool):=do
 let x <-elem' arr (base+i)
 if l then lt' x key else return(<-lt' key x).map (!·)
def qko(l:Bool)(key:Keyed)(arr:Array Keyed)(base n x0 v0:Nat):SgM (Option Nat):=do
 let mut x:=x0
 let mut v:=v0
 for _ in [0:n] do
   if x≥v then break
   let c:=x+(v-x) / 2
   let some more <-bey l key arr base c|return none
   if more then x:=c+1 else v:=c
 return some v
theorem qov(l:Bool)(key:Keyed)(arr:Array Keyed)(base n h:Nat):gal' l key arr base n h=(do
 let mut y:=0
 let mut z:=1
 let mut x:=0
 let mut v:=0
 let some right <-bey l key arr base h|return none
 if right then
   let mx:=n-h
   for _ in [0:n] do
     if z≥mx then break
     let some more <-bey l key arr base (h+z)|return none
     if !more then break
     y:=z
     z:=2*z+1
   x:=h+y+1
   v:=h+min z mx
 else
   let mx:=h+1
   for _ in [0:n] do
     if z≥mx then break
     let some more <-bey l key arr base (h-z)|return none
     if more then break
     y:=z
     z:=2*z+1
   x:=h+1-min z mx
   v:=h-y
 qko l key arr base n x v):=rfl
def dn(a b:Array Keyed)(o:Array Keyed)(i j:Nat):Array Keyed:=o++a.extract i a.size++b.extract j b.size
def setG(g:Nat):SgM Unit:=modify λs=>SortSt.mk' (kindOf s) (arrOf s) (pendingOf s) g (failedOf s)
abbrev T7:=Option (Array Keyed)×Array Keyed×Nat×Nat×Nat×Nat×Nat
def lo3(a b z:Array Keyed)(u v w p q:Nat):SgM (ForInStep T7):=do
 let x <-elem' a u
 if u+1+1==a.size then pure (.done (some (dn b a (z.push x) v (u+1)),z.push x,u+1,v,w,p,q))
 else if p<7&&q<7 then pure (.done (none,z.push x,u+1,v,w,p,q))else pure (.yield (none,z.push x,u+1,v,w,p,q))
def lo2(a b z:Array Keyed)(u v w p q:Nat):SgM (ForInStep T7):=do
 let x <-elem' b v
 if v+1==b.size then pure (.done (some (dn a b (z.push x) u (v+1)),z.push x,u,v+1,w,p,q))
 else
   let some k <-gal' true (<-elem' a u) b (v+1) (b.size-(v+1)) 0|pure (.done (some (dn a b (z.push x) u (v+1)),z.push x,u,v+1,w,p,q))
   if k>0 then
     if v+1+k==b.size then pure (.done (some (dn a b (z.push x++b.extract (v+1) (v+1+k)) u (v+1+k)),z.push x++b.extract (v+1) (v+1+k),u,v+1+k,w,p,k))
     else lo3 a b (z.push x++b.extract (v+1) (v+1+k)) u (v+1+k) w p k
   else lo3 a b (z.push x) u (v+1) w p k
def lo1(a b z:Array Keyed)(u v w p q:Nat):SgM (ForInStep T7):=do
 setG w
 let some k <-gal' false (<-elem' b v) a u (a.size-u) 0|pure (.done (some (dn a b z u v),z,u,v,w,p,q))
 if k>0 then
   if u+k+1==a.size then pure (.done (some (dn b a (z++a.extract u (u+k)) v (u+k)),z++a.extract u (u+k),u+k,v,w,k,q))
   else if u+k==a.size then pure (.done (some (dn a b (z++a.extract u (u+k)) (u+k) v),z++a.extract u (u+k),u+k,v,w,k,q))
   else lo2 a b (z++a.extract u (u+k)) (u+k) v w k q
 else lo2 a b z u v w k q
def loG(a b:Array Keyed)(_:Nat)(r:T7):SgM (ForInStep T7):=
 if r.2.2.2.2.1>1 then lo1 a b r.2.1 r.2.2.1 r.2.2.2.1 (r.2.2.2.2.1-1) r.2.2.2.2.2.1 r.2.2.2.2.2.2
 else lo1 a b r.2.1 r.2.2.1 r.2.2.2.1 r.2.2.2.2.1 r.2.2.2.2.2.1 r.2.2.2.2.2.2
abbrev T6:=Option (Array Keyed)×Array Keyed×Nat×Nat×Nat×Nat
abbrev T5:=Option (Array Keyed)×Array Keyed×Nat×Nat×Nat
def loA(a b:Array Keyed)(w _i:Nat)(r:T6):SgM (ForInStep T6):=do
 let some bw <-lt' (<-elem' b r.2.2.2.1) (<-elem' a r.2.2.1)|pure (.done (some (dn a b r.2.1 r.2.2.1 r.2.2.2.1),r.2.1,r.2.2.1,r.2.2.2.1,r.2.2.2.2.1,r.2.2.2.2.2))
 if bw then
   let x <-elem' b r.2.2.2.1
   if r.2.2.2.1+1==b.size then pure (.done (some (dn a b (r.2.1.push x) r.2.2.1 (r.2.2.2.1+1)),r.2.1.push x,r.2.2.1,r.2.2.2.1+1,0,r.2.2.2.2.2+1))
   else if r.2.2.2.2.2+1≥w then pure (.done (none,r.2.1.push x,r.2.2.1,r.2.2.2.1+1,0,r.2.2.2.2.2+1))else pure (.yield (none,r.2.1.push x,r.2.2.1,r.2.2.2.1+1,0,r.2.2.2.2.2+1))
 else
   let x <-elem' a r.2.2.1
   if r.2.2.1+1+1==a.size then pure (.done (some (dn b a (r.2.1.push x) r.2.2.2.1 (r.2.2.1+1)),r.2.1.push x,r.2.2.1+1,r.2.2.2.1,r.2.2.2.2.1+1,0))
   else if r.2.2.2.2.1+1≥w then pure (.done (none,r.2.1.push x,r.2.2.1+1,r.2.2.2.1,r.2.2.2.2.1+1,0))else pure (.yield (none,r.2.1.push x,r.2.2.1+1,r.2.2.2.1,r.2.2.2.2.1+1,0))
def loO(a b:Array Keyed)(_:Nat)(s:T5):SgM (ForInStep T5):=do
 let r <-forIn [0:a.size+b.size] ((none,s.2.1,s.2.2.1,s.2.2.2.1,0,0):T6) (loA a b s.2.2.2.2)
 Break.runK.match_1 (motive:=λ_=>SgM (ForInStep T5)) r.1 (λx=>pure (.done (some x,r.2.1,r.2.2.1,r.2.2.2.1,s.2.2.2.2))) λ_=>do
   rule "list.sort.gallop"
   let q <-forIn [0:a.size+b.size] ((none,r.2.1,r.2.2.1,r.2.2.2.1,s.2.2.2.2+1,r.2.2.2.2.1,r.2.2.2.2.2):T7) (loG a b)
   Break.runK.match_1 (motive:=λ_=>SgM (ForInStep T5)) q.1 (λx=>pure (.done (some x,q.2.1,q.2.2.1,q.2.2.2.1,q.2.2.2.2.1))) λ_=>do
     setG (q.2.2.2.2.1+1)
     pure (.yield (none,q.2.1,q.2.2.1,q.2.2.2.1,q.2.2.2.2.1+1))
theorem qnv(a b:Array Keyed):mlo' a b=(do
 rule "list.sort.merge-lo"
 let x <-elem' b 0
 if 1==b.size then pure (dn a b #[x] 0 1)
 else if 0+1==a.size then pure (dn b a #[x] 1 0)
 else
   let g <-get
   let r <-forIn [0:a.size+b.size] ((none,#[x],0,1,gallopOf g):T5) (loO a b)
   Break.runK.match_1 (motive:=λ_=>SgM (Array Keyed)) r.1 (λr=>pure r) λ_=>unsupported "internal:list.sort.merge-bound"):=rfl
def dh(a b:Array Keyed)(o:Array Keyed)(i j:Nat):Array Keyed:=a.extract 0 i++b.extract 0 j++o.reverse
abbrev H7:=Option (Array Keyed)×Nat×Nat×Array Keyed×Nat×Nat×Nat
abbrev H6:=Option (Array Keyed)×Nat×Nat×Array Keyed×Nat×Nat
abbrev H5:=Option (Array Keyed)×Nat×Nat×Array Keyed×Nat
def hi3(a b z:Array Keyed)(u v w p q:Nat):SgM (ForInStep H7):=do
 let x <-elem' a (u-1)
 if u-1==0 then pure (.done (some (dh a b (z.push x) (u-1) v),u-1,v,z.push x,w,p,q))
 else if p<7&&q<7 then pure (.done (none,u-1,v,z.push x,w,p,q))else pure (.yield (none,u-1,v,z.push x,w,p,q))
def hi2(a b z:Array Keyed)(u v w p q:Nat):SgM (ForInStep H7):=do
 let x <-elem' b (v-1)
 if v-1==1 then pure (.done (some (dh b a (z.push x) (v-1) u),u,v-1,z.push x,w,p,q))
 else
   let some c <-gal' true (<-elem' a (u-1)) b 0 (v-1) (v-1-1)|pure (.done (some (dh a b (z.push x) u (v-1)),u,v-1,z.push x,w,p,q))
   if v-1-c>0 then
     if c==1 then pure (.done (some (dh b a (z.push x++(b.extract c (v-1)).reverse) c u),u,c,z.push x++(b.extract c (v-1)).reverse,w,p,v-1-c))
     else if c==0 then pure (.done (some (dh a b (z.push x++(b.extract c (v-1)).reverse) u c),u,c,z.push x++(b.extract c (v-1)).reverse,w,p,v-1-c))
     else hi3 a b (z.push x++(b.extract c (v-1)).reverse) u c w p (v-1-c)
   else hi3 a b (z.push x) u (v-1) w p (v-1-c)
def hi1(a b z:Array Keyed)(u v w p q:Nat):SgM (ForInStep H7):=do
 setG w
 let some c <-gal' false (<-elem' b (v-1)) a 0 u (u-1)|pure (.done (some (dh a b z u v),u,v,z,w,p,q))
 if u-c>0 then
   if c==0 then pure (.done (some (dh a b (z++(a.extract c u).reverse) c v),c,v,z++(a.extract c u).reverse,w,u-c,q))
   else hi2 a b (z++(a.extract c u).reverse) c v w (u-c) q
 else hi2 a b z u v w (u-c) q
def hiG(a b:Array Keyed)(_:Nat)(r:H7):SgM (ForInStep H7):=
 if r.2.2.2.2.1>1 then hi1 a b r.2.2.2.1 r.2.1 r.2.2.1 (r.2.2.2.2.1-1) r.2.2.2.2.2.1 r.2.2.2.2.2.2
 else hi1 a b r.2.2.2.1 r.2.1 r.2.2.1 r.2.2.2.2.1 r.2.2.2.2.2.1 r.2.2.2.2.2.2
def hiA(a b:Array Keyed)(w _i:Nat)(r:H6):SgM (ForInStep H6):=do
 let some aw <-lt' (<-elem' b (r.2.2.1-1)) (<-elem' a (r.2.1-1))|pure (.done (some (dh a b r.2.2.2.1 r.2.1 r.2.2.1),r.2.1,r.2.2.1,r.2.2.2.1,r.2.2.2.2.1,r.2.2.2.2.2))
 if aw then
   let x <-elem' a (r.2.1-1)
   if r.2.1-1==0 then pure (.done (some (dh a b (r.2.2.2.1.push x) (r.2.1-1) r.2.2.1),r.2.1-1,r.2.2.1,r.2.2.2.1.push x,r.2.2.2.2.1+1,0))
   else if r.2.2.2.2.1+1≥w then pure (.done (none,r.2.1-1,r.2.2.1,r.2.2.2.1.push x,r.2.2.2.2.1+1,0))else pure (.yield (none,r.2.1-1,r.2.2.1,r.2.2.2.1.push x,r.2.2.2.2.1+1,0))
 else
   let x <-elem' b (r.2.2.1-1)
   if r.2.2.1-1==1 then pure (.done (some (dh b a (r.2.2.2.1.push x) (r.2.2.1-1) r.2.1),r.2.1,r.2.2.1-1,r.2.2.2.1.push x,0,r.2.2.2.2.2+1))
   else if r.2.2.2.2.2+1≥w then pure (.done (none,r.2.1,r.2.2.1-1,r.2.2.2.1.push x,0,r.2.2.2.2.2+1))else pure (.yield (none,r.2.1,r.2.2.1-1,r.2.2.2.1.push x,0,r.2.2.2.2.2+1))
def hiO(a b:Array Keyed)(_:Nat)(s:H5):SgM (ForInStep H5):=do
 let r <-forIn [0:a.size+b.size] ((none,s.2.1,s.2.2.1,s.2.2.2.1,0,0):H6) (hiA a b s.2.2.2.2)
 Break.runK.match_1 (motive:=λ_=>SgM (ForInStep H5)) r.1 (λx=>pure (.done (some x,r.2.1,r.2.2.1,r.2.2.2.1,s.2.2.2.2))) λ_=>do
   rule "list.sort.gallop"
   let q <-forIn [0:a.size+b.size] ((none,r.2.1,r.2.2.1,r.2.2.2.1,s.2.2.2.2+1,r.2.2.2.2.1,r.2.2.2.2.2):H7) (hiG a b)
   Break.runK.match_1 (motive:=λ_=>SgM (ForInStep H5)) q.1 (λx=>pure (.done (some x,q.2.1,q.2.2.1,q.2.2.2.1,q.2.2.2.2.1))) λ_=>do
     setG (q.2.2.2.2.1+1)
     pure (.yield (none,q.2.1,q.2.2.1,q.2.2.2.1,q.2.2.2.2.1+1))
theorem qnx(a b:Array Keyed):mhi' a b=(do
 rule "list.sort.merge-hi"
 let x <-elem' a (a.size-1)
 if a.size-1==0 then pure (dh a b #[x] (a.size-1) b.size)
 else if b.size==1 then pure (dh b a #[x] b.size (a.size-1))
 else
   let g <-get
   let r <-forIn [0:a.size+b.size] ((none,a.size-1,b.size,#[x],gallopOf g):H5) (hiO a b)
   Break.runK.match_1 (motive:=λ_=>SgM (Array Keyed)) r.1 (λr=>pure r) λ_=>unsupported "internal:list.sort.merge-bound"):=rfl
theorem qo1(i:Nat):mergeAt' i=(do
 let s <-get
 let (some (x,m,pw),some (y,n,_)):=((pendingOf s)[i]?,(pendingOf s)[i+1]?)|unsupported "internal:list.sort.pending"
 set (setPending s (((pendingOf s).setIfInBounds i (x,m+n,pw)).eraseIdxIfInBounds (i+1)))
 let some k <-gal' false (<-elem' (arrOf s) y) (arrOf s) x m 0|return false
 let (x,m):=(x+k,m-k)
 if m==0 then return true
 let some n <-gal' true (<-elem' (arrOf s) (x+m-1)) (arrOf s) y n (n-1)|return false
 if n==0 then return true
 let c:=(arrOf s).extract x y
 let d:=(arrOf s).extract y (y+n)
 let r <-if m<=n then mlo' c d else mhi' c d
 modify λs=>setArr s (r.toList.zipIdx.foldl (λa (p,j)=>a.setIfInBounds (x+j) p) (arrOf s))
 return(failedOf (<-get)).isNone):=rfl
end L2
namespace L2
open PySem PySem.W PyProof.Rows
section
variable{M:Model}{A:Around}{E:Value->Shared->Prop}{s:Shared}
theorem qi6{l:Bool}{key:Keyed}{arr:Array Keyed}{base n h:Nat}{bb:Nat->Bool}{st:SortSt}{Q:Option Nat->SortSt->Prop}
   (hb:∀i,i<n->∀Q:Option Bool->SortSt->Prop,Q (some (bb i)) st->wpS M A E s (bey l key arr base i) Q st)
   (mono:∀i j,i<j->j<n->bb j=true->bb i=true) (hh:h<n)
   (k:∀k,k<=n->(∀i,i<k->bb i=true)->(∀i,k<=i->i<n->bb i=false)->Q (some k) st):wpS M A E s (gal' l key arr base n h) Q st:=by
 have dn:∀i j,i<=j->j<n->bb j=true->bb i=true:=λi j ij jn hj=>by
   rcases Nat.eq_or_lt_of_le ij with rfl|ij
   · exact hj
   · exact mono i j ij jn hj
 have up:∀i j,i<=j->j<n->bb i=false->bb j=false:=λi j ij jn hi=>by
   cases e:bb j with
   |false=>rfl
   |true=>rw[dn i j ij jn e]at hi;cases hi
 rw[qov]
 refine j9 (hb h hh _ ?_)
 dsimp only
 have last:∀x v,x<=v->v<=n->(∀i,i<x->bb i=true)->(∀i,v<=i->i<n->bb i=false)->wpS M A E s (qko l key arr base n x v) Q st:=λx v xv vn hx hv=>by
   unfold qko
   dsimp only
   refine j9 (jx (xh (I:=λi (c:Option (Option Nat)×Nat×Nat) st'=>st'=st/\c.1=none/\c.2.1<=c.2.2/\c.2.2<=n/\c.2.2-c.2.1+i<=n/\(∀i,i<c.2.1->bb i=true)/\(∀i,c.2.2<=i->i<n->bb i=false))
     (Q:=λc st'=>st'=st/\c.1=none/\c.2.2<=n/\(∀i,i<c.2.2->bb i=true)/\(∀i,c.2.2<=i->i<n->bb i=false)) ?_ ?_ ⟨rfl,rfl,xv,vn,by show v-x+0<=n;omega,hx,hv⟩) ?_)
   · rintro i ⟨r,x,v⟩ _ _ hi ⟨rfl,rfl,xv,vn,hm,hx,hv⟩
     dsimp only at xv vn hm hx hv ⊢
     by_cases q:x≥v
     · rw[if_pos q]
       exact jb ⟨rfl,rfl,vn,λi hi=>hx i (by dsimp only at hi;omega),hv⟩
     · rw[if_neg q]
       have cn:x+(v-x) / 2<n:=by omega
       refine j9 (hb _ cn _ ?_)
       dsimp only
       cases e:bb (x+(v-x) / 2)with
       | true=>
         rw[if_pos rfl]
         exact jb ⟨rfl,rfl,by dsimp only;omega,vn,by dsimp only;omega,λi hi=>dn _ _ (Nat.le_of_lt_succ hi) cn e,hv⟩
       | false=>
         rw[if_neg Bool.false_ne_true]
         exact jb ⟨rfl,rfl,by dsimp only;omega,by dsimp only;omega,by dsimp only;omega,hx,λi hi hn=>up _ _ hi hn e⟩
   · rintro⟨r,x,v⟩ _ ⟨rfl,rfl,xv,vn,hm,hx,hv⟩
     dsimp only at xv vn hm hx hv ⊢
     exact⟨rfl,rfl,vn,λi hi=>hx i (by omega),hv⟩
   · rintro⟨r,x,v⟩ _ ⟨rfl,rfl,vn,hx,hv⟩
     exact jb (k v vn hx hv)
 cases e:bb h with
 | true=>
   rw[if_pos rfl]
   refine j9 (jx (xh (I:=λi (c:Option (Option Nat)×Nat×Nat) st'=>st'=st/\c.1=none/\c.2.1<c.2.2/\h+c.2.1<n/\i<c.2.2/\bb (h+c.2.1)=true)
     (Q:=λc st'=>st'=st/\c.1=none/\c.2.1<c.2.2/\h+c.2.1<n/\bb (h+c.2.1)=true/\(h+c.2.2<n->bb (h+c.2.2)=false)) ?_ ?_ ⟨rfl,rfl,Nat.zero_lt_one,hh,Nat.zero_lt_one,e⟩) ?_)
   · rintro i ⟨r,y,z⟩ _ _ hi ⟨rfl,rfl,yz,yn,iz,hy⟩
     dsimp only at yz yn iz hy ⊢
     by_cases q:z≥n-h
     · rw[if_pos q]
       exact jb ⟨rfl,rfl,yz,yn,hy,λz=>by dsimp only at z;omega⟩
     · rw[if_neg q]
       refine j9 (hb _ (by omega) _ ?_)
       dsimp only
       cases e:bb (h+z)with
       |true=>exact jb ⟨rfl,rfl,by dsimp only;omega,by dsimp only;omega,by dsimp only;omega,e⟩
       |false=>exact jb ⟨rfl,rfl,yz,yn,hy,λ_=>e⟩
   · rintro⟨r,y,z⟩ _ ⟨rfl,rfl,yz,yn,iz,hy⟩
     exact⟨rfl,rfl,yz,yn,hy,λz=>by dsimp only at z iz;omega⟩
   · rintro⟨r,y,z⟩ _ ⟨rfl,rfl,yz,yn,hy,hz⟩
     dsimp only at yz yn hy hz ⊢
     exact last (h+y+1) (h+min z (n-h)) (by omega) (by omega) (λi hi=>dn _ _ (Nat.le_of_lt_succ hi) yn hy) λi hi hn=>up (h+z) _ (by omega) hn (hz (by omega))
 | false=>
   rw[if_neg Bool.false_ne_true]
   refine j9 (jx (xh (I:=λi (c:Option (Option Nat)×Nat×Nat) st'=>st'=st/\c.1=none/\c.2.1<c.2.2/\c.2.1<=h/\i<c.2.2/\bb (h-c.2.1)=false)
     (Q:=λc st'=>st'=st/\c.1=none/\c.2.1<c.2.2/\c.2.1<=h/\bb (h-c.2.1)=false/\(c.2.2<=h->bb (h-c.2.2)=true)) ?_ ?_ ⟨rfl,rfl,Nat.zero_lt_one,Nat.zero_le _,Nat.zero_lt_one,e⟩) ?_)
   · rintro i ⟨r,y,z⟩ _ _ hi ⟨rfl,rfl,yz,yn,iz,hy⟩
     dsimp only at yz yn iz hy ⊢
     by_cases q:z≥h+1
     · rw[if_pos q]
       exact jb ⟨rfl,rfl,yz,yn,hy,λz=>by dsimp only at z;omega⟩
     · rw[if_neg q]
       refine j9 (hb _ (by omega) _ ?_)
       dsimp only
       cases e:bb (h-z)with
       |false=>exact jb ⟨rfl,rfl,by dsimp only;omega,by dsimp only;omega,by dsimp only;omega,e⟩
       |true=>exact jb ⟨rfl,rfl,yz,yn,hy,λ_=>e⟩
   · rintro⟨r,y,z⟩ _ ⟨rfl,rfl,yz,yn,iz,hy⟩
     exact⟨rfl,rfl,yz,yn,hy,λz=>by dsimp only at z iz;omega⟩
   · rintro⟨r,y,z⟩ _ ⟨rfl,rfl,yz,yn,hy,hz⟩
     dsimp only at yz yn hy hz ⊢
     exact last (h+1-min z (h+1)) (h-y) (by omega) (by omega) (λi hi=>dn _ (h-z) (by omega) (by omega) (hz (by omega))) λi hi hn=>up _ _ hi hn hy
end
end L2
namespace L2
open PySem PySem.W PyProof.Rows
def dfl:Keyed:=(Value.none,Value.none)
def at_(a:Array Keyed)(i:Nat):Keyed:=a.toList.getD i dfl
def Srt(rk:Keyed->Nat)(l:List Keyed):Prop:=l.Pairwise λx y=>rk x<rk y
section
variable{rk:Keyed->Nat}{Z U X Y l:List Keyed}{a b z:Array Keyed}{i j u v k:Nat}
theorem Srt.app:Srt rk (X++Y)↔Srt rk X/\Srt rk Y/\∀x∈X,∀y∈Y,rk x<rk y:=List.pairwise_append
theorem Srt.mvA(h1:Srt rk (Z++(U++X)))(h2:Srt rk (Z++Y))(c:∀e∈U,∀y∈Y,rk e<rk y):Srt rk (Z++U++X)/\Srt rk (Z++U++Y):=by
 rw[<-List.append_assoc]at h1
 have g1:=Srt.app.mp h1
 have g2:=Srt.app.mp h2
 refine⟨h1,Srt.app.mpr ⟨g1.1,g2.2.1,λx hx y hy=>?_⟩⟩
 rcases List.mem_append.mp hx with hx|hx
 · exact g2.2.2 x hx y hy
 · exact c x hx y hy
theorem Srt.lt(h:Srt rk l)(ij:i<j)(hj:j<l.length):rk (l.getD i dfl)<rk (l.getD j dfl):=by
 have:=List.pairwise_iff_getElem.mp h i j (by omega) hj ij
 rw[jv,jv,jf hj,jf (by omega:i<l.length)]
 exact this
theorem qec(h:i<l.length):l.drop i=l.getD i dfl::l.drop (i+1):=by
 rw[vf h,jv,jf h];rfl
theorem q6u{x:Keyed}(h:x∈l.drop i):∃j,i<=j/\j<l.length/\x=l.getD j dfl:=by
 obtain⟨j,hj,e⟩:=List.getElem_of_mem h
 rw[vc]at hj
 refine⟨i+j,by omega,by omega,?_⟩
 rw[<-e,List.getElem_drop,jv,jf (by omega)];rfl
theorem q93{x:Keyed}(h:x∈(l.drop i).take k):∃j,i<=j/\j<i+k/\j<l.length/\x=l.getD j dfl:=by
 obtain⟨j,hj,e⟩:=List.getElem_of_mem h
 rw[List.length_take,vc]at hj
 refine⟨i+j,by omega,by omega,by omega,?_⟩
 rw[<-e,List.getElem_take,List.getElem_drop,jv,jf (by omega)];rfl
structure Lo(rk:Keyed->Nat)(a b z:Array Keyed)(u v:Nat):Prop where
 p:Srt rk (z.toList++a.toList.drop u)
 q:Srt rk (z.toList++b.toList.drop v)
 r:(z.toList++(a.toList.drop u++b.toList.drop v)).Perm (a.toList++b.toList)
theorem Lo.swap(h:Lo rk a b z u v):Lo rk b a z v u:=⟨h.q,h.p,((List.Perm.append_left _ List.perm_append_comm).trans h.r).trans List.perm_append_comm⟩
theorem Lo.mv(h:Lo rk a b z u v)(c:∀i,u<=i->i<u+k->i<a.size->∀j,v<=j->j<b.size->rk (at_ a i)<rk (at_ b j)):Lo rk a b (z++a.extract u (u+k)) (u+k) v:=by
 have e:a.toList.drop u=(a.toList.drop u).take k++a.toList.drop (u+k):=by rw[<-List.drop_drop,List.take_append_drop]
 have ez:(z++a.extract u (u+k)).toList=z.toList++(a.toList.drop u).take k:=by simp[List.take_drop]
 have h1:=h.p
 have h3:=h.r
 rw[e]at h1 h3
 have g:=Srt.mvA h1 h.q λx hx y hy=>by
   obtain⟨i,i1,i2,i3,rfl⟩:=q93 hx
   obtain⟨j,j1,j2,rfl⟩:=q6u hy
   exact c i i1 i2 i3 j j1 j2
 refine⟨by rw[ez];exact g.1,by rw[ez];exact g.2,?_⟩
 rw[ez]
 rwa [List.append_assoc,<-List.append_assoc _ (a.toList.drop (u+k))]
theorem q3a(hu:u<a.size):z.push (at_ a u)=z++a.extract u (u+1):=by
 apply Array.toList_inj.mp
 have:(a.extract u (u+1)).toList=[at_ a u]:=by
   have:=qec (l:=a.toList) (i:=u) hu
   simp only[Array.toList_extract,List.extract_eq_drop_take]
   rw[this,Nat.add_sub_cancel_left];rfl
 rw[Array.toList_push,Array.toList_append,this]
theorem Lo.sa(h:Lo rk a b z u v)(hu:u<=i)(ij:i<j)(hj:j<a.size):rk (at_ a i)<rk (at_ a j):=by
 have:=(Srt.app.mp h.p).2.1
 have hl:(a.toList.drop u).length=a.size-u:=by simp
 have g:=this.lt (i:=i-u) (j:=j-u) (by omega) (by rw[hl];omega)
 have e:∀t,u<=t->t<a.size->(a.toList.drop u).getD (t-u) dfl=at_ a t:=λt h1 h2=>by
   unfold at_
   rw[jv,jv,List.getElem?_drop,show u+(t-u)=t by omega]
 rwa [e i hu (by omega),e j (by omega) hj]at g
theorem Lo.sb(h:Lo rk a b z u v)(hu:v<=i)(ij:i<j)(hj:j<b.size):rk (at_ b i)<rk (at_ b j):=h.swap.sa hu ij hj
def Fine(rk:Keyed->Nat)(a b r:Array Keyed):Prop:=Srt rk r.toList/\r.toList.Perm (a.toList++b.toList)
theorem qed:(dn a b z u v).toList=z.toList++a.toList.drop u++b.toList.drop v:=by
 unfold dn
 simp
 rw[List.take_of_length_le (by simp),List.take_of_length_le (by simp)]
theorem Lo.end1(h:Lo rk a b z u v)(e:v=b.size):Fine rk a b (dn a b z u v):=by
 have:b.toList.drop v=[]:=by rw[e];simp
 have g:=h.r
 unfold Fine
 rw[qed]
 rw[this]at g ⊢
 rw[List.append_nil]at g ⊢
 exact⟨h.p,g⟩
theorem Lo.end2(h:Lo rk a b z u v)(e:u+1=a.size)(hl:∀j,j<b.size->rk (at_ b j)<rk (at_ a (a.size-1))):Fine rk a b (dn b a z v u):=by
 unfold Fine
 rw[qed]
 have d:a.toList.drop u=[at_ a (a.size-1)]:=by
   rw[qec (by simp;omega),List.drop_eq_nil_of_le (by simp;omega),<-e];rfl
 refine⟨Srt.app.mpr ⟨h.q,(Srt.app.mp h.p).2.1,λx hx y hy=>?_⟩,?_⟩
 · rcases List.mem_append.mp hx with hx|hx
   · exact(Srt.app.mp h.p).2.2 x hx y hy
   · obtain⟨j,j1,j2,rfl⟩:=q6u hx
     rw[d]at hy
     rw[List.mem_singleton.mp hy]
     exact hl j j2
 · rw[List.append_assoc]
   exact(List.Perm.append_left _ List.perm_append_comm).trans h.r
end
end L2
namespace L2
open PySem PySem.W PyProof.Rows
section
variable{M:Model}{A:Around}{E:Value->Shared->Prop}{s:Shared}{κ:SortKind}{rk:Keyed->Nat}{S:Keyed->Prop}{st:SortSt}
def LtOk(M:Model)(A:Around)(E:Value->Shared->Prop)(s:Shared)(κ:SortKind)(rk:Keyed->Nat)(S:Keyed->Prop):Prop:=
 ∀(x y:Keyed) (st:SortSt) (Q:Option Bool->SortSt->Prop),S x->S y->kindOf st=κ->Q (some (decide (rk x<rk y))) st->wpS M A E s (lt' x y) Q st
theorem q0p{arr:Array Keyed}{i:Nat}{Q:Keyed->SortSt->Prop}(hi:i<arr.size)(h:Q (at_ arr i) st):wpS M A E s (elem' arr i) Q st:=by
 rw[elem'_eq]
 have:arr[i]? =some (at_ arr i):=by
   unfold at_
   rw[jv,<-Array.getElem?_toList,jf (by simpa using hi)];rfl
 rw[this]
 exact jb h
theorem qe3(L:LtOk M A E s κ rk S){key:Keyed}{arr:Array Keyed}{base n h:Nat}{Q:Option Nat->SortSt->Prop}(hk:kindOf st=κ)(sk:S key)(sa:∀i,i<arr.size->S (at_ arr i))(hn:base+n<=arr.size)
   (up:∀i j,base<=i->i<j->j<base+n->rk (at_ arr i)<rk (at_ arr j)) (hh:h<n)
   (k:∀k,k<=n->(∀i,base<=i->i<base+k->rk (at_ arr i)<=rk key)->(∀i,base+k<=i->i<base+n->rk key<rk (at_ arr i))->Q (some k) st):wpS M A E s (gal' false key arr base n h) Q st:=by
 refine qi6 (bb:=λi=>!decide (rk key<rk (at_ arr (base+i)))) (λi hi Q h=>?_) (λi j ij jn e=>?_) hh λm mn h1 h2=>k m mn (λi i1 i2=>?_) λi i1 i2=>?_
 · unfold bey
   refine j9 (q0p (by omega) ?_)
   rw[if_neg Bool.false_ne_true]
   exact j9 (L _ _ _ _ sk (sa _ (by omega)) hk (jb h))
 · have:=up (base+i) (base+j) (by omega) (by omega) (by omega)
   simp at e ⊢;omega
 · have:=h1 (i-base) (by omega)
   rw[show base+(i-base)=i by omega]at this
   simpa using this
 · have:=h2 (i-base) (by omega) (by omega)
   rw[show base+(i-base)=i by omega]at this
   simpa using this
theorem q94(L:LtOk M A E s κ rk S){key:Keyed}{arr:Array Keyed}{base n h:Nat}{Q:Option Nat->SortSt->Prop}(hk:kindOf st=κ)(sk:S key)(sa:∀i,i<arr.size->S (at_ arr i))(hn:base+n<=arr.size)
   (up:∀i j,base<=i->i<j->j<base+n->rk (at_ arr i)<rk (at_ arr j)) (hh:h<n)
   (k:∀k,k<=n->(∀i,base<=i->i<base+k->rk (at_ arr i)<rk key)->(∀i,base+k<=i->i<base+n->rk key<=rk (at_ arr i))->Q (some k) st):wpS M A E s (gal' true key arr base n h) Q st:=by
 refine qi6 (bb:=λi=>decide (rk (at_ arr (base+i))<rk key)) (λi hi Q h=>?_) (λi j ij jn e=>?_) hh λm mn h1 h2=>k m mn (λi i1 i2=>?_) λi i1 i2=>?_
 · unfold bey
   refine j9 (q0p (by omega) ?_)
   rw[if_pos rfl]
   exact L _ _ _ _ (sa _ (by omega)) sk hk h
 · have:=up (base+i) (base+j) (by omega) (by omega) (by omega)
   simp at e ⊢;omega
 · have:=h1 (i-base) (by omega)
   rw[show base+(i-base)=i by omega]at this
   simpa using this
 · have:=h2 (i-base) (by omega) (by omega)
   rw[show base+(i-base)=i by omega]at this
   simpa using this
def Sm(st st':SortSt):Prop:=kindOf st'=kindOf st/\arrOf st'=arrOf st/\pendingOf st'=pendingOf st/\failedOf st'=failedOf st
def LoS(rk:Keyed->Nat)(a b:Array Keyed)(st:SortSt)(m:Nat)(r:Option (Array Keyed))(z:Array Keyed)(u v:Nat)(st':SortSt):Prop:=
 Sm st st'/\match r with
 |none=>Lo rk a b z u v/\u+1<a.size/\v<b.size/\m<=u+v
 |some r=>Fine rk a b r
def L7(rk:Keyed->Nat)(a b:Array Keyed)(st:SortSt)(m:Nat)(r:ForInStep T7)(st':SortSt):Prop:=match r with
 |.done c=>LoS rk a b st m c.1 c.2.1 c.2.2.1 c.2.2.2.1 st'
 |.yield c=>c.1=none/\LoS rk a b st m c.1 c.2.1 c.2.2.1 c.2.2.2.1 st'
variable{a b z:Array Keyed}{u v w p q m:Nat}{st1:SortSt}
structure Two(κ:SortKind)(rk:Keyed->Nat)(S:Keyed->Prop)(a b:Array Keyed)(st:SortSt):Prop where
 k:kindOf st=κ
 sa:∀i,i<a.size->S (at_ a i)
 sb:∀i,i<b.size->S (at_ b i)
 d:∀i j,i<a.size->j<b.size->rk (at_ a i)≠rk (at_ b j)
 ha:Srt rk a.toList
 hb:Srt rk b.toList
 za:0<a.size
 zb:0<b.size
 fst:rk (at_ b 0)<rk (at_ a 0)
 lst:∀j,j<b.size->rk (at_ b j)<rk (at_ a (a.size-1))
theorem qhw(T:Two κ rk S a b st)(sm:Sm st st1)(h:Lo rk a b z u v)(hu:u+1<a.size)(hv:v<b.size)(hm:m<=u+v+1)(c:∀j,v<=j->j<b.size->rk (at_ a u)<rk (at_ b j)):wpS M A E s (lo3 a b z u v w p q) (L7 rk a b st m) st1:=by
 unfold lo3
 refine j9 (q0p (by omega) ?_)
 rw[q3a (by omega)]
 have g:=h.mv (k:=1) λi i1 i2 _ j j1 j2=>by rw[show i=u by omega];exact c j j1 j2
 by_cases e:u+1+1=a.size
 · rw[if_pos (by rw[e];exact beq_self_eq_true _)]
   exact jb ⟨sm,g.end2 e T.lst⟩
 · rw[if_neg (by simpa using e)]
   have:LoS rk a b st m none (z++a.extract u (u+1)) (u+1) v st1:=⟨sm,g,by omega,hv,by omega⟩
   split
   · exact jb this
   · exact jb ⟨rfl,this⟩
theorem qhx(L:LtOk M A E s κ rk S)(T:Two κ rk S a b st)(sm:Sm st st1)(h:Lo rk a b z u v)(hu:u+1<a.size)(hv:v<b.size)(hm:m<=u+v+1)(c:∀j,u<=j->j<a.size->rk (at_ b v)<rk (at_ a j)):wpS M A E s (lo2 a b z u v w p q) (L7 rk a b st m) st1:=by
 unfold lo2
 refine j9 (q0p hv ?_)
 rw[q3a hv]
 have g:=(h.swap.mv (k:=1) λi i1 i2 _ j j1 j2=>by rw[show i=v by omega];exact c j j1 j2).swap
 by_cases e:v+1=b.size
 · rw[if_pos (by rw[e];exact beq_self_eq_true _)]
   exact jb ⟨sm,g.end1 e⟩
 · rw[if_neg (by simpa using e)]
   refine j9 (q0p (by omega) (j9 (q94 L (sm.1.trans T.k) (T.sa _ (by omega)) T.sb (by omega) (λi j i1 ij jn=>T.hb.lt ij (by rw[Array.length_toList];omega)) (by omega) λk kn k1 k2=>?_)))
   dsimp only
   have c3:∀j,v+1+k<=j->j<b.size->rk (at_ a u)<rk (at_ b j):=λj j1 j2=>by
     have:=k2 j j1 (by omega)
     have:=T.d u j (by omega) j2
     omega
   by_cases k0:k>0
   · rw[if_pos k0]
     have g2:=(g.swap.mv (k:=k) λi i1 i2 _ j j1 j2=>by
       have:=k1 i i1 i2
       rcases Nat.eq_or_lt_of_le j1 with rfl|j1
       · exact this
       · have:=g.sa (jc u) j1 j2
         omega).swap
     by_cases e2:v+1+k=b.size
     · rw[if_pos (by rw[e2];exact beq_self_eq_true _)]
       exact jb ⟨sm,g2.end1 e2⟩
     · rw[if_neg (by simpa using e2)]
       exact qhw T sm g2 hu (by omega) (by omega) c3
   · rw[if_neg k0]
     exact qhw T sm g hu (by omega) (by omega) λj j1=>c3 j (by omega)
theorem q4p{Q:Unit->SortSt->Prop}(h:Q () (SortSt.mk' (kindOf st) (arrOf st) (pendingOf st) w (failedOf st))):wpS M A E s (setG w) Q st:=wpS_modify h
theorem qhy(L:LtOk M A E s κ rk S)(T:Two κ rk S a b st)(sm:Sm st st1)(h:Lo rk a b z u v)(hu:u+1<a.size)(hv:v<b.size)(hm:m<=u+v+1):wpS M A E s (lo1 a b z u v w p q) (L7 rk a b st m) st1:=by
 unfold lo1
 refine j9 (q4p ?_)
 have sm':Sm st (SortSt.mk' (kindOf st1) (arrOf st1) (pendingOf st1) w (failedOf st1)):=sm
 generalize SortSt.mk' (kindOf st1) (arrOf st1) (pendingOf st1) w (failedOf st1)=st2 at sm' ⊢
 refine j9 (q0p hv (j9 (qe3 L (sm'.1.trans T.k) (T.sb _ hv) T.sa (by omega) (λi j i1 ij jn=>T.ha.lt ij (by rw[Array.length_toList];omega)) (by omega) λk kn k1 k2=>?_)))
 dsimp only
 by_cases k0:k>0
 · rw[if_pos k0]
   have g:=h.mv (k:=k) λi i1 i2 i3 j j1 j2=>by
     have:=k1 i i1 i2
     have:=T.d i v i3 hv
     rcases Nat.eq_or_lt_of_le j1 with rfl|j1
     · omega
     · have:=h.sb (jc v) j1 j2
       omega
   by_cases e:u+k+1=a.size
   · rw[if_pos (by rw[e];exact beq_self_eq_true _)]
     exact jb ⟨sm',g.end2 e T.lst⟩
   · rw[if_neg (by simpa using e)]
     have e2:u+k≠a.size:=λe2=>by
       have:=k1 (a.size-1) (by omega) (by omega)
       have:=T.lst v hv
       omega
     rw[if_neg (by simpa using e2)]
     exact qhx L T sm' g (by omega) hv (by omega) λj j1 j2=>k2 j j1 (by omega)
 · rw[if_neg k0]
   exact qhx L T sm' h hu hv hm λj j1 j2=>k2 j (by omega) (by omega)
theorem qo4(L:LtOk M A E s κ rk S)(T:Two κ rk S a b st)(sm:Sm st st1){i:Nat}{r:T6}(h:Lo rk a b r.2.1 r.2.2.1 r.2.2.2.1)(hu:r.2.2.1+1<a.size)(hv:r.2.2.2.1<b.size)(hm:m<=r.2.2.1+r.2.2.2.1):
   wpS M A E s (loA a b w i r) (λr st'=>match r with
     |.done c=>LoS rk a b st (m+1) c.1 c.2.1 c.2.2.1 c.2.2.2.1 st'
     |.yield c=>c.1=none/\LoS rk a b st (m+1) c.1 c.2.1 c.2.2.1 c.2.2.2.1 st') st1:=by
 obtain⟨r,z,u,v,p,q⟩:=r
 unfold loA
 dsimp only at h hu hv hm ⊢
 refine j9 (q0p hv (j9 (q0p (by omega) (j9 (L _ _ _ _ (T.sb _ hv) (T.sa _ (by omega)) (sm.1.trans T.k) ?_)))))
 dsimp only
 by_cases c:rk (at_ b v)<rk (at_ a u)
 · rw[decide_eq_true c,if_pos rfl]
   refine j9 (q0p hv ?_)
   rw[q3a hv]
   have g:=(h.swap.mv (k:=1) λi i1 i2 _ j j1 j2=>by
     rw[show i=v by omega]
     rcases Nat.eq_or_lt_of_le j1 with rfl|j1
     · exact c
     · have:=h.sa (jc u) j1 j2
       omega).swap
   by_cases e:v+1=b.size
   · rw[if_pos (by rw[e];exact beq_self_eq_true _)]
     exact jb ⟨sm,g.end1 e⟩
   · rw[if_neg (by simpa using e)]
     have:LoS rk a b st (m+1) none (z++b.extract v (v+1)) u (v+1) st1:=⟨sm,g,hu,by omega,by omega⟩
     split
     · exact jb this
     · exact jb ⟨rfl,this⟩
 · rw[decide_eq_false c,if_neg Bool.false_ne_true]
   refine j9 (q0p (by omega) ?_)
   rw[q3a (by omega)]
   have dd:=T.d u v (by omega) hv
   have g:=h.mv (k:=1) λi i1 i2 _ j j1 j2=>by
     rw[show i=u by omega]
     rcases Nat.eq_or_lt_of_le j1 with rfl|j1
     · omega
     · have:=h.sb (jc v) j1 j2
       omega
   by_cases e:u+1+1=a.size
   · rw[if_pos (by rw[e];exact beq_self_eq_true _)]
     exact jb ⟨sm,g.end2 e T.lst⟩
   · rw[if_neg (by simpa using e)]
     have:LoS rk a b st (m+1) none (z++a.extract u (u+1)) (u+1) v st1:=⟨sm,g,by omega,hv,by omega⟩
     split
     · exact jb this
     · exact jb ⟨rfl,this⟩
theorem LoS.le{r:Option (Array Keyed)}{m':Nat}(hm:m'<=m)(h:LoS rk a b st m r z u v st1):LoS rk a b st m' r z u v st1:=by
 obtain⟨sm,h⟩:=h
 refine⟨sm,?_⟩
 cases r with
 |none=>exact⟨h.1,h.2.1,h.2.2.1,by have:=h.2.2.2;omega⟩
 |some r=>exact h
theorem qo3(L:LtOk M A E s κ rk S)(T:Two κ rk S a b st){i:Nat}{c:T5}(c1:c.1=none)(h:LoS rk a b st m c.1 c.2.1 c.2.2.1 c.2.2.2.1 st1):
   wpS M A E s (loO a b i c) (λr st'=>match r with
     |.done c=>∃r,c.1=some r/\Fine rk a b r/\Sm st st'
     |.yield c=>c.1=none/\LoS rk a b st (m+1) c.1 c.2.1 c.2.2.1 c.2.2.2.1 st') st1:=by
 have za:=T.za
 obtain⟨r,z,u,v,w⟩:=c
 dsimp only at c1 h
 subst c1
 unfold loO
 dsimp only
 refine j9 (jx (xh (I:=λj (c:T6) st'=>c.1=none/\LoS rk a b st (m+j) c.1 c.2.1 c.2.2.1 c.2.2.2.1 st')
   (Q:=λ(c:T6) st'=>LoS rk a b st (m+1) c.1 c.2.1 c.2.2.1 c.2.2.2.1 st') ?_ ?_ ⟨rfl,h⟩) ?_)
 · rintro j ⟨r,z,u,v,p,q⟩ st2 _ _ ⟨e,h⟩
   dsimp only at e
   subst e
   obtain⟨sm,h1,h2,h3,h4⟩:=h
   refine jx (qo4 L T sm (m:=m+j) h1 h2 h3 h4) λr st' hr=>?_
   cases r with
   |done c=>exact LoS.le (by omega) hr
   |yield c=>exact hr
 · rintro c st2 ⟨_,h⟩
   exact h.le (by omega)
 · rintro⟨r,z,u,v,p,q⟩ st2 h
   cases r with
   |some r=>exact jb ⟨r,rfl,h.2,h.1⟩
   | none=>
     show wpS M A E s (liftM (rule "list.sort.gallop") >>= _) _ st2
     refine j9 (wpS_lift (xo ⟨rfl,?_⟩))
     refine j9 (jx (xh (I:=λ_ (c:T7) st'=>c.1=none/\LoS rk a b st (m+1) c.1 c.2.1 c.2.2.1 c.2.2.2.1 st')
       (Q:=λ(c:T7) st'=>LoS rk a b st (m+1) c.1 c.2.1 c.2.2.1 c.2.2.2.1 st') ?_ ?_ ⟨rfl,h⟩) ?_)
     · rintro j ⟨r,z,u,v,w,p,q⟩ st3 _ _ ⟨e,h⟩
       dsimp only at e
       subst e
       obtain⟨sm,h1,h2,h3,h4⟩:=h
       dsimp only at h1 h2 h3 h4
       unfold loG
       dsimp only
       split
       · exact jx (qhy L T sm (m:=m+1) h1 h2 h3 (by omega)) λr st' hr=>by cases r<;>exact hr
       · exact jx (qhy L T sm (m:=m+1) h1 h2 h3 (by omega)) λr st' hr=>by cases r<;>exact hr
     · rintro c st3 ⟨_,h⟩
       exact h
     · rintro⟨r,z,u,v,w,p,q⟩ st3 h
       cases r with
       |some r=>exact jb ⟨r,rfl,h.2,h.1⟩
       |none=>exact j9 (q4p (jb ⟨rfl,h⟩))
theorem qnu(L:LtOk M A E s κ rk S)(T:Two κ rk S a b st){Q:Array Keyed->SortSt->Prop}(h:∀r st',Fine rk a b r->Sm st st'->Q r st'):wpS M A E s (mlo' a b) Q st:=by
 have za:=T.za
 have zb:=T.zb
 rw[qnv]
 refine j9 (wpS_lift (xo ⟨rfl,?_⟩))
 refine j9 (q0p zb ?_)
 have o:Lo rk a b #[] 0 0:=⟨T.ha,T.hb,List.Perm.refl _⟩
 have g:=(o.swap.mv (k:=1) λi i1 i2 _ j j1 j2=>by
   rw[show i=0 by omega]
   have:=T.fst
   rcases Nat.eq_or_lt_of_le j1 with rfl|j1
   · exact this
   · have:=o.sa (jc 0) j1 j2
     omega).swap
 rw[<-q3a zb]at g
 have sm:Sm st st:=⟨rfl,rfl,rfl,rfl⟩
 by_cases e:1=b.size
 · rw[if_pos (by rw[<-e];rfl)]
   exact jb (h _ _ (g.end1 e) sm)
 · rw[if_neg (by simpa using e)]
   by_cases e2:0+1=a.size
   · rw[if_pos (by rw[<-e2];rfl)]
     exact jb (h _ _ (g.end2 e2 T.lst) sm)
   · rw[if_neg (by simpa using e2)]
     refine j9 (wpS_get ?_)
     refine j9 (jx (xh (I:=λi (c:T5) st'=>c.1=none/\LoS rk a b st (i+1) c.1 c.2.1 c.2.2.1 c.2.2.2.1 st')
       (Q:=λ(c:T5) st'=>∃r,c.1=some r/\Fine rk a b r/\Sm st st') ?_ ?_ ⟨rfl,sm,g,by show 0+1<a.size;omega,by show 0+1<b.size;omega,jc _⟩) ?_)
     · rintro i c st' _ _ ⟨e,h⟩
       exact jx (qo3 L T e h) λr st' hr=>by cases r<;>exact hr
     · rintro⟨r,z,u,v,w⟩ st' ⟨e,h⟩
       dsimp only at e
       subst e
       obtain⟨_,_,h2,h3,h4⟩:=h
       dsimp only at h2 h3 h4
       omega
     · rintro⟨r,z,u,v,w⟩ st' ⟨r',e,h1,h2⟩
       dsimp only at e
       subst e
       exact jb (h _ _ h1 h2)
end
end L2
namespace L2
open PySem PySem.W PyProof.Rows
section
variable{M:Model}{A:Around}{E:Value->Shared->Prop}{s:Shared}{κ:SortKind}{rk:Keyed->Nat}{S:Keyed->Prop}{st st1:SortSt}{a b z:Array Keyed}{u v w p q m c:Nat}
theorem q4w{l:List Keyed}{x:Keyed}(h:x∈l.take u):∃j,j<u/\j<l.length/\x=l.getD j dfl:=by
 have:=q93 (l:=l) (i:=0) (k:=u) (x:=x) (by rw[List.drop_zero];exact h)
 obtain⟨j,_,h2,h3⟩:=this
 exact⟨j,by omega,h3⟩
structure Hi(rk:Keyed->Nat)(a b z:Array Keyed)(u v:Nat):Prop where
 p:Srt rk (a.toList.take u++z.toList.reverse)
 q:Srt rk (b.toList.take v++z.toList.reverse)
 r:(a.toList.take u++(b.toList.take v++z.toList.reverse)).Perm (a.toList++b.toList)
theorem perm3{X Y Z:List Keyed}:(Y++(X++Z)).Perm (X++(Y++Z)):=by
 rw[<-List.append_assoc,<-List.append_assoc]
 exact List.Perm.append_right _ List.perm_append_comm
theorem Hi.swap(h:Hi rk a b z u v):Hi rk b a z v u:=⟨h.q,h.p,(perm3.trans h.r).trans List.perm_append_comm⟩
theorem Hi.mv(h:Hi rk a b z u v)(hc:c<=u)(k:∀i,c<=i->i<u->i<a.size->∀j,j<v->j<b.size->rk (at_ b j)<rk (at_ a i)):Hi rk a b (z++(a.extract c u).reverse) c v:=by
 have e:a.toList.take u=a.toList.take c++(a.toList.drop c).take (u-c):=by
   rw[<-List.take_add,Nat.add_sub_cancel' hc]
 have ez:(z++(a.extract c u).reverse).toList.reverse=(a.toList.drop c).take (u-c)++z.toList.reverse:=by simp
 have h1:=h.p
 have h3:=h.r
 rw[e]at h1 h3
 rw[List.append_assoc]at h1 h3
 have g1:=Srt.app.mp h1
 have g2:=Srt.app.mp h.q
 refine⟨by rw[ez];exact h1,?_,?_⟩
 · rw[ez]
   refine Srt.app.mpr ⟨g2.1,g1.2.1,λx hx y hy=>?_⟩
   rcases List.mem_append.mp hy with hy|hy
   · obtain⟨i,i1,i2,i3,rfl⟩:=q93 hy
     obtain⟨j,j1,j2,rfl⟩:=q4w hx
     exact k i i1 (by omega) i3 j j1 j2
   · exact g2.2.2 x hx y hy
 · rw[ez]
   exact(List.Perm.append_left _ perm3).trans h3
theorem q3v(hu:u-1<a.size)(h1:0<u):z.push (at_ a (u-1))=z++(a.extract (u-1) u).reverse:=by
 have:=q3a (z:=#[]) hu
 rw[Nat.sub_add_cancel h1]at this
 have e:a.extract (u-1) u=#[at_ a (u-1)]:=(Array.empty_append.symm.trans this.symm)
 rw[e]
 apply Array.toList_inj.mp
 simp
theorem qee:(dh a b z u v).toList=a.toList.take u++(b.toList.take v++z.toList.reverse):=by
 unfold dh
 simp
theorem Hi.end1(h:Hi rk a b z u v)(e:u=0):Fine rk a b (dh a b z u v):=by
 subst e
 have g:=h.r
 unfold Fine
 rw[qee]
 exact⟨h.q,g⟩
theorem Hi.end2(h:Hi rk a b z u v)(e:v=1)(hf:∀i,i<a.size->rk (at_ b 0)<rk (at_ a i)):Fine rk a b (dh b a z v u):=by
 subst e
 unfold Fine
 rw[qee]
 refine⟨Srt.app.mpr ⟨(Srt.app.mp h.q).1,h.p,λx hx y hy=>?_⟩,perm3.trans h.r⟩
 rcases List.mem_append.mp hy with hy|hy
 · obtain⟨i,i1,i2,rfl⟩:=q4w hy
   obtain⟨j,j1,j2,rfl⟩:=q4w hx
   rw[show j=0 by omega]
   exact hf i i2
 · exact(Srt.app.mp h.q).2.2 x hx y hy
def HiS(rk:Keyed->Nat)(a b:Array Keyed)(st:SortSt)(m:Nat)(r:Option (Array Keyed))(z:Array Keyed)(u v:Nat)(st':SortSt):Prop:=
 Sm st st'/\match r with
 |none=>Hi rk a b z u v/\0<u/\u<=a.size/\1<v/\v<=b.size/\u+v+m<=a.size+b.size
 |some r=>Fine rk a b r
def I7(rk:Keyed->Nat)(a b:Array Keyed)(st:SortSt)(m:Nat)(r:ForInStep H7)(st':SortSt):Prop:=match r with
 |.done c=>HiS rk a b st m c.1 c.2.2.2.1 c.2.1 c.2.2.1 st'
 |.yield c=>c.1=none/\HiS rk a b st m c.1 c.2.2.2.1 c.2.1 c.2.2.1 st'
theorem Two.ff(T:Two κ rk S a b st)(i:Nat)(hi:i<a.size):rk (at_ b 0)<rk (at_ a i):=by
 have:=T.fst
 rcases Nat.eq_zero_or_pos i with rfl|h
 · exact this
 · have:=T.ha.lt h (by rw[Array.length_toList];exact hi)
   unfold at_ at*
   omega
theorem Two.ua(T:Two κ rk S a b st){i j:Nat}(ij:i<=j)(hj:j<a.size):rk (at_ a i)<=rk (at_ a j):=by
 rcases Nat.eq_or_lt_of_le ij with rfl|h
 · exact jc _
 · exact Nat.le_of_lt (T.ha.lt h (by rw[Array.length_toList];exact hj))
theorem Two.ub(T:Two κ rk S a b st){i j:Nat}(ij:i<=j)(hj:j<b.size):rk (at_ b i)<=rk (at_ b j):=by
 rcases Nat.eq_or_lt_of_le ij with rfl|h
 · exact jc _
 · exact Nat.le_of_lt (T.hb.lt h (by rw[Array.length_toList];exact hj))
theorem qi3(T:Two κ rk S a b st)(sm:Sm st st1)(h:Hi rk a b z u v)(u0:0<u)(hu:u<=a.size)(v1:1<v)(hv:v<=b.size)(hm:u+v+m<=a.size+b.size+1)(k:∀j,j<v->rk (at_ b j)<rk (at_ a (u-1))):wpS M A E s (hi3 a b z u v w p q) (I7 rk a b st m) st1:=by
 unfold hi3
 refine j9 (q0p (by omega) ?_)
 rw[q3v (by omega) u0]
 have g:=h.mv (c:=u-1) (by omega) λi i1 i2 _ j j1 j2=>by rw[show i=u-1 by omega];exact k j j1
 by_cases e:u-1=0
 · rw[if_pos (by rw[e];rfl)]
   exact jb ⟨sm,g.end1 e⟩
 · rw[if_neg (by simpa using e)]
   have:HiS rk a b st m none (z++(a.extract (u-1) u).reverse) (u-1) v st1:=⟨sm,g,by omega,by omega,v1,hv,by omega⟩
   split
   · exact jb this
   · exact jb ⟨rfl,this⟩
theorem qi4(L:LtOk M A E s κ rk S)(T:Two κ rk S a b st)(sm:Sm st st1)(h:Hi rk a b z u v)(u0:0<u)(hu:u<=a.size)(v1:1<v)(hv:v<=b.size)(hm:u+v+m<=a.size+b.size+1)(k:∀i,i<u->rk (at_ a i)<rk (at_ b (v-1))):wpS M A E s (hi2 a b z u v w p q) (I7 rk a b st m) st1:=by
 unfold hi2
 refine j9 (q0p (by omega) ?_)
 rw[q3v (by omega) (by omega)]
 have g:=(h.swap.mv (c:=v-1) (by omega) λi i1 i2 _ j j1 j2=>by rw[show i=v-1 by omega];exact k j j1).swap
 by_cases e:v-1=1
 · rw[if_pos (by rw[e];rfl)]
   exact jb ⟨sm,g.end2 e T.ff⟩
 · rw[if_neg (by simpa using e)]
   refine j9 (q0p (by omega) (j9 (q94 L (sm.1.trans T.k) (T.sa _ (by omega)) T.sb (by omega) (λi j i1 ij jn=>T.hb.lt ij (by rw[Array.length_toList];omega)) (by omega) λc cn c1 c2=>?_)))
   dsimp only
   rw[k9]at c1 c2
   have d0:=T.ff (u-1) (by omega)
   have c0:0<c:=by
     rcases Nat.eq_zero_or_pos c with rfl|z
     · have:=c2 0 (jc _) (by omega)
       omega
     · exact z
   by_cases k0:v-1-c>0
   · rw[if_pos k0]
     have g2:=(g.swap.mv (c:=c) cn λi i1 i2 _ j j1 j2=>by
       have:=c2 i i1 (by omega)
       have:=T.d (u-1) i (by omega) (by omega)
       have:=T.ua (i:=j) (j:=u-1) (by omega) (by omega)
       omega).swap
     by_cases e2:c=1
     · rw[if_pos (by rw[e2];rfl)]
       exact jb ⟨sm,g2.end2 e2 T.ff⟩
     · rw[if_neg (by simpa using e2),if_neg (by simp;omega)]
       exact qi3 T sm g2 u0 hu (by omega) (by omega) (by omega) λj j1=>c1 j (Nat.zero_le _) j1
   · rw[if_neg k0]
     exact qi3 T sm g u0 hu (by omega) (by omega) (by omega) λj j1=>c1 j (Nat.zero_le _) (by omega)
theorem qi5(L:LtOk M A E s κ rk S)(T:Two κ rk S a b st)(sm:Sm st st1)(h:Hi rk a b z u v)(u0:0<u)(hu:u<=a.size)(v1:1<v)(hv:v<=b.size)(hm:u+v+m<=a.size+b.size+1):wpS M A E s (hi1 a b z u v w p q) (I7 rk a b st m) st1:=by
 unfold hi1
 refine j9 (q4p ?_)
 have sm':Sm st (SortSt.mk' (kindOf st1) (arrOf st1) (pendingOf st1) w (failedOf st1)):=sm
 generalize SortSt.mk' (kindOf st1) (arrOf st1) (pendingOf st1) w (failedOf st1)=st2 at sm' ⊢
 refine j9 (q0p (by omega) (j9 (qe3 L (sm'.1.trans T.k) (T.sb _ (by omega)) T.sa (by omega) (λi j i1 ij jn=>T.ha.lt ij (by rw[Array.length_toList];omega)) (by omega) λc cn c1 c2=>?_)))
 dsimp only
 rw[k9]at c1 c2
 by_cases k0:u-c>0
 · rw[if_pos k0]
   have g:=h.mv (c:=c) cn λi i1 i2 _ j j1 j2=>by
     have:=c2 i i1 (by omega)
     have:=T.ub (i:=j) (j:=v-1) (by omega) (by omega)
     omega
   by_cases e:c=0
   · rw[if_pos (by rw[e];rfl)]
     exact jb ⟨sm',g.end1 e⟩
   · rw[if_neg (by simpa using e)]
     exact qi4 L T sm' g (by omega) (by omega) v1 hv (by omega) λi i1=>by
       have:=c1 i (Nat.zero_le _) i1
       have:=T.d i (v-1) (by omega) (by omega)
       omega
 · rw[if_neg k0]
   exact qi4 L T sm' h u0 hu v1 hv hm λi i1=>by
     have:=c1 i (Nat.zero_le _) (by omega)
     have:=T.d i (v-1) (by omega) (by omega)
     omega
theorem qos(L:LtOk M A E s κ rk S)(T:Two κ rk S a b st)(sm:Sm st st1){i:Nat}{r:H6}(h:Hi rk a b r.2.2.2.1 r.2.1 r.2.2.1)(u0:0<r.2.1)(hu:r.2.1<=a.size)(v1:1<r.2.2.1)(hv:r.2.2.1<=b.size)(hm:r.2.1+r.2.2.1+m<=a.size+b.size):
   wpS M A E s (hiA a b w i r) (λr st'=>match r with
     |.done c=>HiS rk a b st (m+1) c.1 c.2.2.2.1 c.2.1 c.2.2.1 st'
     |.yield c=>c.1=none/\HiS rk a b st (m+1) c.1 c.2.2.2.1 c.2.1 c.2.2.1 st') st1:=by
 obtain⟨r,u,v,z,p,q⟩:=r
 unfold hiA
 dsimp only at h u0 hu v1 hv hm ⊢
 refine j9 (q0p (by omega) (j9 (q0p (by omega) (j9 (L _ _ _ _ (T.sb _ (by omega)) (T.sa _ (by omega)) (sm.1.trans T.k) ?_)))))
 dsimp only
 by_cases c:rk (at_ b (v-1))<rk (at_ a (u-1))
 · rw[decide_eq_true c,if_pos rfl]
   refine j9 (q0p (by omega) ?_)
   rw[q3v (by omega) u0]
   have g:=h.mv (c:=u-1) (by omega) λi i1 i2 _ j j1 j2=>by
     rw[show i=u-1 by omega]
     have:=T.ub (i:=j) (j:=v-1) (by omega) (by omega)
     omega
   by_cases e:u-1=0
   · rw[if_pos (by rw[e];rfl)]
     exact jb ⟨sm,g.end1 e⟩
   · rw[if_neg (by simpa using e)]
     have:HiS rk a b st (m+1) none (z++(a.extract (u-1) u).reverse) (u-1) v st1:=⟨sm,g,by omega,by omega,v1,hv,by omega⟩
     split
     · exact jb this
     · exact jb ⟨rfl,this⟩
 · rw[decide_eq_false c,if_neg Bool.false_ne_true]
   refine j9 (q0p (by omega) ?_)
   rw[q3v (by omega) (by omega)]
   have dd:=T.d (u-1) (v-1) (by omega) (by omega)
   have g:=(h.swap.mv (c:=v-1) (by omega) λi i1 i2 _ j j1 j2=>by
     rw[show i=v-1 by omega]
     have:=T.ua (i:=j) (j:=u-1) (by omega) (by omega)
     omega).swap
   by_cases e:v-1=1
   · rw[if_pos (by rw[e];rfl)]
     exact jb ⟨sm,g.end2 e T.ff⟩
   · rw[if_neg (by simpa using e)]
     have:HiS rk a b st (m+1) none (z++(b.extract (v-1) v).reverse) u (v-1) st1:=⟨sm,g,u0,hu,by omega,by omega,by omega⟩
     split
     · exact jb this
     · exact jb ⟨rfl,this⟩
theorem HiS.le{r:Option (Array Keyed)}{m':Nat}(hm:m'<=m)(h:HiS rk a b st m r z u v st1):HiS rk a b st m' r z u v st1:=by
 obtain⟨sm,h⟩:=h
 refine⟨sm,?_⟩
 cases r with
 |none=>exact⟨h.1,h.2.1,h.2.2.1,h.2.2.2.1,h.2.2.2.2.1,by have:=h.2.2.2.2.2;omega⟩
 |some r=>exact h
theorem qor(L:LtOk M A E s κ rk S)(T:Two κ rk S a b st){i:Nat}{c:H5}(c1:c.1=none)(h:HiS rk a b st m c.1 c.2.2.2.1 c.2.1 c.2.2.1 st1):
   wpS M A E s (hiO a b i c) (λr st'=>match r with
     |.done c=>∃r,c.1=some r/\Fine rk a b r/\Sm st st'
     |.yield c=>c.1=none/\HiS rk a b st (m+1) c.1 c.2.2.2.1 c.2.1 c.2.2.1 st') st1:=by
 have za:=T.za
 obtain⟨r,u,v,z,w⟩:=c
 dsimp only at c1 h
 subst c1
 unfold hiO
 dsimp only
 refine j9 (jx (xh (I:=λj (c:H6) st'=>c.1=none/\HiS rk a b st (m+j) c.1 c.2.2.2.1 c.2.1 c.2.2.1 st')
   (Q:=λ(c:H6) st'=>HiS rk a b st (m+1) c.1 c.2.2.2.1 c.2.1 c.2.2.1 st') ?_ ?_ ⟨rfl,h⟩) ?_)
 · rintro j ⟨r,u,v,z,p,q⟩ st2 _ _ ⟨e,h⟩
   dsimp only at e
   subst e
   obtain⟨sm,h1,h2,h3,h4,h5,h6⟩:=h
   refine jx (qos L T sm (m:=m+j) h1 h2 h3 h4 h5 h6) λr st' hr=>?_
   cases r with
   |done c=>exact HiS.le (by omega) hr
   |yield c=>exact hr
 · rintro c st2 ⟨_,h⟩
   exact h.le (by omega)
 · rintro⟨r,u,v,z,p,q⟩ st2 h
   cases r with
   |some r=>exact jb ⟨r,rfl,h.2,h.1⟩
   | none=>
     show wpS M A E s (liftM (rule "list.sort.gallop") >>= _) _ st2
     refine j9 (wpS_lift (xo ⟨rfl,?_⟩))
     refine j9 (jx (xh (I:=λ_ (c:H7) st'=>c.1=none/\HiS rk a b st (m+1) c.1 c.2.2.2.1 c.2.1 c.2.2.1 st')
       (Q:=λ(c:H7) st'=>HiS rk a b st (m+1) c.1 c.2.2.2.1 c.2.1 c.2.2.1 st') ?_ ?_ ⟨rfl,h⟩) ?_)
     · rintro j ⟨r,u,v,z,w,p,q⟩ st3 _ _ ⟨e,h⟩
       dsimp only at e
       subst e
       obtain⟨sm,h1,h2,h3,h4,h5,h6⟩:=h
       dsimp only at h1 h2 h3 h4 h5 h6
       unfold hiG
       dsimp only
       split
       · exact jx (qi5 L T sm (m:=m+1) h1 h2 h3 h4 h5 (by omega)) λr st' hr=>by cases r<;>exact hr
       · exact jx (qi5 L T sm (m:=m+1) h1 h2 h3 h4 h5 (by omega)) λr st' hr=>by cases r<;>exact hr
     · rintro c st3 ⟨_,h⟩
       exact h
     · rintro⟨r,u,v,z,w,p,q⟩ st3 h
       cases r with
       |some r=>exact jb ⟨r,rfl,h.2,h.1⟩
       |none=>exact j9 (q4p (jb ⟨rfl,h⟩))
theorem qnw(L:LtOk M A E s κ rk S)(T:Two κ rk S a b st){Q:Array Keyed->SortSt->Prop}(h:∀r st',Fine rk a b r->Sm st st'->Q r st'):wpS M A E s (mhi' a b) Q st:=by
 have za:=T.za
 have zb:=T.zb
 rw[qnx]
 refine j9 (wpS_lift (xo ⟨rfl,?_⟩))
 refine j9 (q0p (by omega) ?_)
 have o:Hi rk a b #[] a.size b.size:=by
   have ea:a.toList.take a.size=a.toList:=List.take_of_length_le (by simp)
   have eb:b.toList.take b.size=b.toList:=List.take_of_length_le (by simp)
   refine⟨?_,?_,?_⟩
   · rw[ea];simpa using T.ha
   · rw[eb];simpa using T.hb
   · rw[ea,eb];simp
 have g:=o.mv (c:=a.size-1) (by omega) λi i1 i2 _ j j1 j2=>by
   rw[show i=a.size-1 by omega]
   exact T.lst j j2
 rw[<-q3v (by omega) za]at g
 have sm:Sm st st:=⟨rfl,rfl,rfl,rfl⟩
 by_cases e:a.size-1=0
 · rw[if_pos (by rw[e];rfl)]
   exact jb (h _ _ (g.end1 e) sm)
 · rw[if_neg (by simpa using e)]
   by_cases e2:b.size=1
   · rw[if_pos (by rw[e2];rfl)]
     exact jb (h _ _ (g.end2 e2 T.ff) sm)
   · rw[if_neg (by simpa using e2)]
     refine j9 (wpS_get ?_)
     refine j9 (jx (xh (I:=λi (c:H5) st'=>c.1=none/\HiS rk a b st (i+1) c.1 c.2.2.2.1 c.2.1 c.2.2.1 st')
       (Q:=λ(c:H5) st'=>∃r,c.1=some r/\Fine rk a b r/\Sm st st') ?_ ?_ ⟨rfl,sm,g,by show 0<a.size-1;omega,by show a.size-1<=a.size;omega,by show 1<b.size;omega,jc _,by show a.size-1+b.size+1<=_;omega⟩) ?_)
     · rintro i c st' _ _ ⟨e,h⟩
       exact jx (qor L T e h) λr st' hr=>by cases r<;>exact hr
     · rintro⟨r,u,v,z,w⟩ st' ⟨e,h⟩
       dsimp only at e
       subst e
       obtain⟨_,_,h2,h3,h4,h5,h6⟩:=h
       dsimp only at h2 h3 h4 h5 h6
       omega
     · rintro⟨r,u,v,z,w⟩ st' ⟨r',e,h1,h2⟩
       dsimp only at e
       subst e
       exact jb (h _ _ h1 h2)
end
end L2
namespace L2
open PySem PySem.W PyProof.Rows
abbrev A2:=Option (Option Nat)×Nat
abbrev A3:=Option (Option Nat)×Nat×Nat
def rA(lo _i:Nat)(r:A2):SgM (ForInStep A2):=do
 let some x <-ltAt' (lo+r.2) (lo+r.2-1)|pure (.done (some none,r.2))
 if x then pure (.done (none,r.2))else pure (.yield (none,r.2+1))
def rD(lo _i:Nat)(r:A3):SgM (ForInStep A3):=do
 let some x <-ltAt' (lo+r.2.1) (lo+r.2.1-1)|pure (.done (some none,r.2.1,r.2.2))
 if x then
   if r.2.2>0 then
     reverseSlice' (lo+r.2.1-(r.2.2+1)) (lo+r.2.1)
     pure (.yield (none,r.2.1+1,0))
   else pure (.yield (none,r.2.1+1,0))
 else
   let some y <-ltAt' (lo+r.2.1-1) (lo+r.2.1)|pure (.done (some none,r.2.1,r.2.2))
   if y then pure (.done (none,r.2.1,r.2.2))else pure (.yield (none,r.2.1+1,r.2.2+1))
def rZ(lo m n:Nat):SgM (Option Nat):=do
 reverseSlice' lo (lo+n)
 let r <-forIn [n:m] ((none,n):A2) (rA lo)
 Break.runK.match_1 (motive:=λ_=>SgM (Option Nat)) r.1 (λx=>pure x) λ_=>pure (some r.2)
def rY(lo m n:Nat):SgM (Option Nat):=do
 rule "list.sort.descending-run"
 let r <-forIn [n+1:m] ((none,n+1,0):A3) (rD lo)
 Break.runK.match_1 (motive:=λ_=>SgM (Option Nat)) r.1 (λx=>pure x) λ_=>do
   if r.2.2>0 then
     reverseSlice' (lo+r.2.1-(r.2.2+1)) (lo+r.2.1)
     rZ lo m r.2.1
   else rZ lo m r.2.1
theorem qpg(lo m:Nat):countRun' lo m=(do
 let r <-forIn [1:m] ((none,1):A2) (rA lo)
 Break.runK.match_1 (motive:=λ_=>SgM (Option Nat)) r.1 (λx=>pure x) λ_=>do
   if r.2==m then pure (some r.2)
   else if r.2>1 then
     let some y <-ltAt' lo (lo+r.2-1)|pure none
     if y then pure (some r.2)else
       reverseSlice' lo (lo+r.2)
       rY lo m r.2
   else rY lo m r.2):=rfl
abbrev B3:=Option Bool×Nat×Nat
def bI(lo k _i:Nat)(r:B3):SgM (ForInStep B3):=do
 if r.2.1≥r.2.2 then pure (.done (none,r.2.1,r.2.2))else
   let some x <-ltAt' (lo+k) (lo+(r.2.1+r.2.2) / 2)|pure (.done (some false,r.2.1,r.2.2))
   if x then pure (.yield (none,r.2.1,(r.2.1+r.2.2) / 2))else pure (.yield (none,(r.2.1+r.2.2) / 2+1,r.2.2))
def bO(lo k:Nat)(_:Option Bool×Unit):SgM (ForInStep (Option Bool×Unit)):=do
 let r <-forIn [0:k] ((none,0,k):B3) (bI lo k)
 Break.runK.match_1 (motive:=λ_=>SgM (ForInStep (Option Bool×Unit))) r.1 (λx=>pure (.done (some x,()))) λ_=>do
   moveDown' (lo+k) (lo+r.2.1)
   pure (.yield (none,()))
theorem qpk(lo n ok:Nat):binarySort' lo n ok=(do
 let r <-forIn [max ok 1:n] ((none,()):Option Bool×Unit) (bO lo)
 Break.runK.match_1 (motive:=λ_=>SgM Bool) r.1 (λx=>pure x) λ_=>pure true):=rfl
section
variable{M:Model}{A:Around}{E:Value->Shared->Prop}{s:Shared}{κ:SortKind}{rk:Keyed->Nat}{S:Keyed->Prop}{st st1:SortSt}{lo m n:Nat}
structure Bs(κ:SortKind)(rk:Keyed->Nat)(S:Keyed->Prop)(st:SortSt):Prop where
 k:kindOf st=κ
 s:∀i,i<(arrOf st).size->S (at_ (arrOf st) i)
 d:∀i j,i<(arrOf st).size->j<(arrOf st).size->i≠j->rk (at_ (arrOf st) i)≠rk (at_ (arrOf st) j)
def UpR(rk:Keyed->Nat)(a:Array Keyed)(lo hi:Nat):Prop:=∀i j,lo<=i->i<j->j<hi->rk (at_ a i)<rk (at_ a j)
def DnR(rk:Keyed->Nat)(a:Array Keyed)(lo hi:Nat):Prop:=∀i j,lo<=i->i<j->j<hi->rk (at_ a j)<rk (at_ a i)
structure Ch(lo:Nat)(st st':SortSt):Prop where
 k:kindOf st'=kindOf st
 p:pendingOf st'=pendingOf st
 f:failedOf st'=failedOf st
 a:(arrOf st').Perm (arrOf st)
 o:∀i,i<lo->at_ (arrOf st') i=at_ (arrOf st) i
theorem Ch.refl:Ch lo st st:=⟨rfl,rfl,rfl,Array.Perm.refl _,λ_ _=>rfl⟩
theorem Ch.trans{st2:SortSt}(h:Ch lo st st1)(g:Ch lo st1 st2):Ch lo st st2:=⟨g.k.trans h.k,g.p.trans h.p,g.f.trans h.f,g.a.trans h.a,λi hi=>(g.o i hi).trans (h.o i hi)⟩
theorem Ch.sz(h:Ch lo st st1):(arrOf st1).size=(arrOf st).size:=h.a.size_eq
theorem at_of{a b:Array Keyed}{i j:Nat}(h:a[i]? =b[j]?):at_ a i=at_ b j:=by
 unfold at_
 rw[jv,jv,Array.getElem?_toList,Array.getElem?_toList,h]
theorem Ch.bs(h:Ch lo st st1)(B:Bs κ rk S st):Bs κ rk S st1:=by
 have nd:((arrOf st).toList.map rk).Nodup:=by
   refine List.pairwise_iff_getElem.mpr λi j hi hj ij e=>?_
   rw[ja,Array.length_toList]at hi hj
   refine B.d i j hi hj (jj ij) ?_
   rw[List.getElem_map,List.getElem_map]at e
   unfold at_
   rw[jv,jv,jf (by simpa using hi),jf (by simpa using hj)]
   exact e
 have pm:=Array.perm_iff_toList_perm.mp h.a
 refine⟨h.k.trans B.k,λi hi=>?_,λi j hi hj ij e=>?_⟩
 · have mem:at_ (arrOf st1) i∈(arrOf st1).toList:=by
     unfold at_
     rw[jv,jf (by simpa using hi)]
     exact List.getElem_mem _
   obtain⟨j,hj,e⟩:=List.getElem_of_mem (pm.mem_iff.mp mem)
   have:=B.s j (by simpa using hj)
   unfold at_ at this
   rw[jv,jf hj]at this
   rw[<-e]
   exact this
 · have nd1:=(pm.map rk).nodup_iff.mpr nd
   have:=List.pairwise_iff_getElem.mp nd1
   have get:∀t,(ht:t<(arrOf st1).size)->((arrOf st1).toList.map rk)[t]'(by simpa using ht)=rk (at_ (arrOf st1) t):=λt ht=>by
     rw[List.getElem_map]
     unfold at_
     rw[jv,jf (by simpa using ht)];rfl
   rcases Nat.lt_or_ge i j with q|q
   · exact this i j (by simpa using hi) (by simpa using hj) q (by rw[get i hi,get j hj];exact e)
   · exact this j i (by simpa using hj) (by simpa using hi) (by omega) (by rw[get i hi,get j hj];exact e.symm)
theorem q75(L:LtOk M A E s κ rk S)(B:Bs κ rk S st){i j:Nat}{Q:Option Bool->SortSt->Prop}(hi:i<(arrOf st).size)(hj:j<(arrOf st).size)(h:Q (some (decide (rk (at_ (arrOf st) i)<rk (at_ (arrOf st) j)))) st):wpS M A E s (ltAt' i j) Q st:=by
 rw[ltAt'_eq]
 exact j9 (wpS_get (j9 (q0p hi (j9 (q0p hj (L _ _ _ _ (B.s i hi) (B.s j hj) B.k h))))))
theorem UpR.snoc{a:Array Keyed}{hi:Nat}(u:UpR rk a lo hi)(h:rk (at_ a (hi-1))<rk (at_ a hi)):UpR rk a lo (hi+1):=λi j i1 ij jn=>by
 by_cases q:j<hi
 · exact u i j i1 ij q
 · have e:j=hi:=by omega
   subst e
   by_cases qi:i=j-1
   · rw[qi];exact h
   · exact Nat.lt_trans (u i (j-1) i1 (by omega) (by omega)) h
theorem DnR.snoc{a:Array Keyed}{hi:Nat}(u:DnR rk a lo hi)(h:rk (at_ a hi)<rk (at_ a (hi-1))):DnR rk a lo (hi+1):=λi j i1 ij jn=>by
 by_cases q:j<hi
 · exact u i j i1 ij q
 · have e:j=hi:=by omega
   subst e
   by_cases qi:i=j-1
   · rw[qi];exact h
   · exact Nat.lt_trans h (u i (j-1) i1 (by omega) (by omega))
theorem qew(L:LtOk M A E s κ rk S)(B:Bs κ rk S st)(h1:1<=n)(hn:n<=m)(hm:lo+m<=(arrOf st).size)(u:UpR rk (arrOf st) lo (lo+n)){Q:A2->SortSt->Prop}
   (k:∀n',n<=n'->n'<=m->UpR rk (arrOf st) lo (lo+n')->(n'<m->rk (at_ (arrOf st) (lo+n'))<rk (at_ (arrOf st) (lo+n'-1)))->Q (none,n') st):wpS M A E s (forIn [n:m] ((none,n):A2) (rA lo)) Q st:=by
 refine jx (xh (I:=λj (c:A2) st'=>st'=st/\c=(none,j)/\n<=j/\j<=m/\UpR rk (arrOf st) lo (lo+j)) (Q:=λ(c:A2) st'=>st'=st/\∃n',c=(none,n')/\n<=n'/\n'<=m/\UpR rk (arrOf st) lo (lo+n')/\(n'<m->rk (at_ (arrOf st) (lo+n'))<rk (at_ (arrOf st) (lo+n'-1)))) ?_ ?_ ⟨rfl,rfl,jc _,hn,u⟩) ?_
 · rintro j c st' j1 j2 ⟨rfl,rfl,j3,j4,u⟩
   unfold rA
   refine j9 (q75 L B (by dsimp only;omega) (by dsimp only;omega) ?_)
   dsimp only
   by_cases c:rk (at_ (arrOf st') (lo+j))<rk (at_ (arrOf st') (lo+j-1))
   · rw[decide_eq_true c,if_pos rfl]
     exact jb ⟨rfl,j,rfl,j3,j4,u,λ_=>c⟩
   · rw[decide_eq_false c,if_neg Bool.false_ne_true]
     have:=B.d (lo+j) (lo+j-1) (by omega) (by omega) (by omega)
     exact jb ⟨rfl,rfl,by omega,by omega,u.snoc (by omega)⟩
 · rintro c st' ⟨rfl,rfl,j3,j4,u⟩
   rw[Nat.max_eq_right hn]at u ⊢
   exact⟨rfl,m,rfl,hn,jc _,u,λz=>by omega⟩
 · rintro c st' ⟨rfl,n',rfl,a1,a2,a3,a4⟩
   exact k n' a1 a2 a3 a4
theorem qmh(hn:lo+n<=(arrOf st).size)(u:DnR rk (arrOf st) lo (lo+n)){Q:Unit->SortSt->Prop}(k:∀st',Ch lo st st'->UpR rk (arrOf st') lo (lo+n)->Q () st'):wpS M A E s (reverseSlice' lo (lo+n)) Q st:=by
 rw[reverseSlice'_eq]
 refine wpS_modify (k _ ⟨rfl,rfl,rfl,mirror_perm _ _ _ _,λi hi=>at_of ?_⟩ λi j i1 ij jn=>?_)
 · show(mirror _ _ _ _)[i]? =_
   rw[getElem?_mirror_all hn,if_neg (by omega)]
 · have e:∀t,lo<=t->t<lo+n->at_ (mirror (arrOf st) lo (lo+n) ((lo+n-lo) / 2)) t=at_ (arrOf st) (lo+(lo+n)-1-t):=λt t1 t2=>at_of (by
     rw[getElem?_mirror_all hn,if_pos ⟨t1,t2⟩])
   show rk (at_ (mirror (arrOf st) lo (lo+n) ((lo+n-lo) / 2)) i)<rk (at_ (mirror (arrOf st) lo (lo+n) ((lo+n-lo) / 2)) j)
   rw[e i i1 (by omega),e j (by omega) jn]
   exact u _ _ (by omega) (by omega) (by omega)
theorem qpf(L:LtOk M A E s κ rk S)(B:Bs κ rk S st)(h1:1<=m)(hm:lo+m<=(arrOf st).size){Q:Option Nat->SortSt->Prop}
   (k:∀n st',1<=n->n<=m->Ch lo st st'->UpR rk (arrOf st') lo (lo+n)->Q (some n) st'):wpS M A E s (countRun' lo m) Q st:=by
 rw[qpg]
 refine j9 (qew L B (jc 1) h1 hm (λi j i1 ij jn=>by omega) λn n1 n2 u stop=>?_)
 show wpS M A E s (do
   if n==m then pure (some n)
   else if n>1 then
     let some y <-ltAt' lo (lo+n-1)|pure none
     if y then pure (some n)else
       reverseSlice' lo (lo+n)
       rY lo m n
   else rY lo m n) Q st
 by_cases e:n=m
 · rw[if_pos (by rw[e];exact beq_self_eq_true _)]
   exact jb (k n st n1 n2 .refl u)
 · rw[if_neg (by simpa using e)]
   by_cases e1:n>1
   · rw[if_pos e1]
     refine j9 (q75 L B (by omega) (by omega) ?_)
     dsimp only
     rw[decide_eq_true (u lo (lo+n-1) (jc _) (by omega) (by omega)),if_pos rfl]
     exact jb (k n st n1 n2 .refl u)
   · rw[if_neg e1]
     have e2:n=1:=by omega
     subst e2
     unfold rY
     refine j9 (wpS_lift (xo ⟨rfl,?_⟩))
     have st0:=stop (by omega)
     refine j9 (jx (xh (I:=λj (c:A3) st'=>st'=st/\c=(none,j,0)/\2<=j/\j<=m/\DnR rk (arrOf st) lo (lo+j))
       (Q:=λ(c:A3) st'=>st'=st/\∃n',c=(none,n',0)/\2<=n'/\n'<=m/\DnR rk (arrOf st) lo (lo+n')) ?_ ?_ ⟨rfl,rfl,jc _,by omega,λi j i1 ij jn=>?_⟩) ?_)
     · rintro j c st' j1 j2 ⟨rfl,rfl,j3,j4,u⟩
       unfold rD
       refine j9 (q75 L B (by dsimp only;omega) (by dsimp only;omega) ?_)
       dsimp only
       by_cases c:rk (at_ (arrOf st') (lo+j))<rk (at_ (arrOf st') (lo+j-1))
       · rw[decide_eq_true c,if_pos rfl,if_neg (by omega)]
         exact jb ⟨rfl,rfl,by omega,by omega,u.snoc c⟩
       · rw[decide_eq_false c,if_neg Bool.false_ne_true]
         have:=B.d (lo+j) (lo+j-1) (by omega) (by omega) (by omega)
         refine j9 (q75 L B (by omega) (by omega) ?_)
         dsimp only
         rw[decide_eq_true (by omega),if_pos rfl]
         exact jb ⟨rfl,j,rfl,j3,j4,u⟩
     · rintro c st' ⟨rfl,rfl,j3,j4,u⟩
       exact⟨rfl,_,rfl,j3,j4,u⟩
     · rw[show i=lo by omega,show j=lo+1 by omega]
       exact st0
     · rintro c st' ⟨rfl,n',rfl,a1,a2,a3⟩
       show wpS M A E s (rZ lo m n') Q st'
       unfold rZ
       refine j9 (qmh (by omega) a3 λst2 c2 u2=>?_)
       refine j9 (qew L (c2.bs B) (by omega) a2 (by rw[c2.sz];exact hm) u2 λn3 b1 b2 b3 _=>?_)
       exact jb (k n3 st2 (by omega) b2 c2 b3)
theorem qpi{k l:Nat}(hk:lo+k<(arrOf st).size)(hl:l<=k)(u:UpR rk (arrOf st) lo (lo+k))(p1:∀i,i<l->rk (at_ (arrOf st) (lo+i))<rk (at_ (arrOf st) (lo+k)))(p2:∀i,l<=i->i<k->rk (at_ (arrOf st) (lo+k))<rk (at_ (arrOf st) (lo+i)))
   {Q:Unit->SortSt->Prop} (h:∀st',Ch lo st st'->UpR rk (arrOf st') lo (lo+(k+1))->Q () st'):wpS M A E s (moveDown' (lo+k) (lo+l)) Q st:=by
 rw[moveDown'_eq]
 have g:=getElem?_bubble hk (lo+k-(lo+l)) (by omega)
 have e1:at_ (bubble (arrOf st) (lo+k) (lo+k-(lo+l))) (lo+l)=at_ (arrOf st) (lo+k):=at_of (by rw[g,if_pos (by omega)])
 have e2:∀t,lo+l<t->t<=lo+k->at_ (bubble (arrOf st) (lo+k) (lo+k-(lo+l))) t=at_ (arrOf st) (t-1):=λt t1 t2=>at_of (by rw[g,if_neg (by omega),if_pos (by omega)])
 have e3:∀t,t<lo+l->at_ (bubble (arrOf st) (lo+k) (lo+k-(lo+l))) t=at_ (arrOf st) t:=λt t1=>at_of (by rw[g,if_neg (by omega),if_neg (by omega)])
 refine wpS_modify (h _ ⟨rfl,rfl,rfl,bubble_perm _ _ _,λi hi=>e3 i (by omega)⟩ λi j i1 ij jn=>?_)
 show rk (at_ (bubble (arrOf st) (lo+k) (lo+k-(lo+l))) i)<rk (at_ (bubble (arrOf st) (lo+k) (lo+k-(lo+l))) j)
 have q1:∀t,lo<=t->t<lo+l->rk (at_ (arrOf st) t)<rk (at_ (arrOf st) (lo+k)):=λt t1 t2=>by
   have:=p1 (t-lo) (by omega)
   rwa [show lo+(t-lo)=t by omega]at this
 have q2:∀t,lo+l<=t->t<lo+k->rk (at_ (arrOf st) (lo+k))<rk (at_ (arrOf st) t):=λt t1 t2=>by
   have:=p2 (t-lo) (by omega) (by omega)
   rwa [show lo+(t-lo)=t by omega]at this
 rcases Nat.lt_trichotomy i (lo+l)with a|a|a
 · rw[e3 i a]
   rcases Nat.lt_trichotomy j (lo+l)with b|b|b
   · rw[e3 j b];exact u i j i1 ij (by omega)
   · rw[b,e1];exact q1 i i1 a
   · rw[e2 j b (by omega)];exact u i (j-1) i1 (by omega) (by omega)
 · rw[a,e1,e2 j (by omega) (by omega)]
   exact q2 (j-1) (by omega) (by omega)
 · rw[e2 i a (by omega),e2 j (by omega) (by omega)]
   exact u (i-1) (j-1) (by omega) (by omega) (by omega)
theorem qpj(L:LtOk M A E s κ rk S)(B:Bs κ rk S st){ok:Nat}(h0:1<=ok)(hok:ok<=n)(hn:lo+n<=(arrOf st).size)(u:UpR rk (arrOf st) lo (lo+ok)){Q:Bool->SortSt->Prop}
   (k:∀st',Ch lo st st'->UpR rk (arrOf st') lo (lo+n)->Q true st'):wpS M A E s (binarySort' lo n ok) Q st:=by
 rw[qpk,Nat.max_eq_left h0]
 refine j9 (jx (xh (I:=λi (c:Option Bool×Unit) st'=>c=(none,())/\Ch lo st st'/\i<=n/\UpR rk (arrOf st') lo (lo+i)) (Q:=λ(c:Option Bool×Unit) st'=>c=(none,())/\Ch lo st st'/\UpR rk (arrOf st') lo (lo+n)) ?_ ?_ ⟨rfl,.refl,hok,u⟩) ?_)
 · rintro i c st' i1 i2 ⟨rfl,c2,i3,u⟩
   have B':=c2.bs B
   have sz:=c2.sz
   unfold bO
   refine j9 (jx (xh (I:=λj (c:B3) zj=>zj=st'/\c.1=none/\c.2.1<=c.2.2/\c.2.2<=i/\c.2.2-c.2.1+j<=i/\(∀t,t<c.2.1->rk (at_ (arrOf st') (lo+t))<rk (at_ (arrOf st') (lo+i)))/\(∀t,c.2.2<=t->t<i->rk (at_ (arrOf st') (lo+i))<rk (at_ (arrOf st') (lo+t))))
     (Q:=λ(c:B3) zj=>zj=st'/\c.1=none/\c.2.1<=i/\(∀t,t<c.2.1->rk (at_ (arrOf st') (lo+t))<rk (at_ (arrOf st') (lo+i)))/\(∀t,c.2.1<=t->t<i->rk (at_ (arrOf st') (lo+i))<rk (at_ (arrOf st') (lo+t)))) ?_ ?_ ⟨rfl,rfl,Nat.zero_le _,jc _,by show i-0+0<=i;omega,λt ht=>absurd ht (Nat.not_lt_zero t),λt t1 t2=>by dsimp only at t1;omega⟩) ?_)
   · rintro j ⟨r,l,x⟩ zj _ j2 ⟨rfl,rfl,lx,xi,hm,p1,p2⟩
     dsimp only at lx xi hm p1 p2
     unfold bI
     dsimp only
     by_cases q:l≥x
     · rw[if_pos q]
       exact jb ⟨rfl,rfl,by dsimp only;omega,p1,λt t1 t2=>p2 t (by dsimp only at t1;omega) t2⟩
     · rw[if_neg q]
       have hh:(l+x) / 2<x:=by omega
       have hl:l<=(l+x) / 2:=by omega
       generalize (l+x) / 2=y at hh hl
       refine j9 (q75 L B' (by omega) (by omega) ?_)
       dsimp only
       by_cases c:rk (at_ (arrOf zj) (lo+i))<rk (at_ (arrOf zj) (lo+y))
       · rw[decide_eq_true c,if_pos rfl]
         refine jb ⟨rfl,rfl,hl,by dsimp only;omega,by dsimp only;omega,p1,λt t1 t2=>?_⟩
         dsimp only at t1
         rcases Nat.eq_or_lt_of_le t1 with rfl|t1
         · exact c
         · exact Nat.lt_trans c (u _ _ (by omega) (by omega) (by omega))
       · rw[decide_eq_false c,if_neg Bool.false_ne_true]
         have dd:=B'.d (lo+i) (lo+y) (by omega) (by omega) (by omega)
         refine jb ⟨rfl,rfl,by dsimp only;omega,xi,by dsimp only;omega,λt t1=>?_,p2⟩
         dsimp only at t1
         rcases Nat.eq_or_lt_of_le (Nat.le_of_lt_succ t1)with rfl|t1
         · omega
         · have:=u (lo+t) (lo+y) (by omega) (by omega) (by omega)
           omega
   · rintro⟨r,l,x⟩ zj ⟨rfl,rfl,lx,xi,hm,p1,p2⟩
     dsimp only at lx xi hm p1 p2
     exact⟨rfl,rfl,by dsimp only;omega,p1,λt t1 t2=>p2 t (by dsimp only at t1;omega) t2⟩
   · rintro⟨r,l,x⟩ zj ⟨rfl,rfl,li,p1,p2⟩
     refine j9 (qpi (by omega) li u p1 p2 λst3 c3 u3=>?_)
     exact jb ⟨rfl,c2.trans c3,by omega,u3⟩
 · rintro c st' ⟨rfl,c2,i3,u⟩
   rw[Nat.max_eq_right hok]at u
   exact⟨rfl,c2,u⟩
 · rintro c st' ⟨rfl,c2,u⟩
   exact jb (k st' c2 u)
end
end L2
namespace L2
open PySem PySem.W PyProof.Rows
section
variable{M:Model}{A:Around}{E:Value->Shared->Prop}{s:Shared}{κ:SortKind}{rk:Keyed->Nat}{S:Keyed->Prop}{st st1:SortSt}{a:Array Keyed}{x y k:Nat}
theorem qig{σ:Type}{st st':σ}{Q:PUnit->σ->Prop}(h:Q ⟨⟩ st'):wpS M A E s (set st':StateT σ Sem PUnit) Q st:=by
 unfold wpS;rw[StateT.run_set];exact j8 ⟨rfl,h⟩
theorem qom{e:Keyed}(h:e∈a.toList):∃i,i<a.size/\e=at_ a i:=by
 obtain⟨j,j1,j2,e⟩:=q6u (l:=a.toList) (i:=0) (x:=e) (by rw[List.drop_zero];exact h)
 exact⟨j,by simpa using j2,e⟩
theorem qbl(u:UpR rk a 0 a.size):Srt rk a.toList:=List.pairwise_iff_getElem.mpr λi j hi hj ij=>by
 have:=u i j (Nat.zero_le _) ij (by simpa using hj)
 unfold at_ at this
 rw[jv,jv,jf hi,jf hj]at this
 exact this
theorem qpu(h:Srt rk a.toList):UpR rk a 0 a.size:=λi j _ ij jn=>h.lt ij (by simpa using jn)
theorem qid{i:Nat}(h:x+i<y)(hy:y<=a.size):at_ (a.extract x y) i=at_ a (x+i):=at_of (by
 rw[Array.getElem?_extract,if_pos (by omega)])
theorem qah:∀(r:List Keyed) (n:Nat) (a:Array Keyed),x+n+r.length<=a.size->∀t,((r.zipIdx n).foldl (λa (p:Keyed×Nat)=>a.setIfInBounds (x+p.2) p.1) a)[t]? =if x+n<=t/\t<x+n+r.length then r[t-(x+n)]? else a[t]?
 | [],n,a,h,t=>by
   show a[t]? =_
   rw[if_neg (by simp)]
 | e::r,n,a,h,t=>by
   have hl:(e::r).length=r.length+1:=rfl
   rw[List.zipIdx_cons,List.foldl_cons,qah r (n+1) _ (by rw[Array.size_setIfInBounds];omega) t]
   by_cases q:x+(n+1)<=t/\t<x+(n+1)+r.length
   · rw[if_pos q,if_pos (by omega),show t-(x+n)=t-(x+(n+1))+1 by omega];rfl
   · rw[if_neg q,Array.getElem?_setIfInBounds]
     by_cases q1:x+n=t
     · rw[if_pos q1,if_pos (by omega),if_pos (by omega),show t-(x+n)=0 by omega];rfl
     · rw[if_neg q1,if_neg (by omega)]
theorem fold_list{r:List Keyed}(h:x+r.length<=a.size):((r.zipIdx).foldl (λa (p:Keyed×Nat)=>a.setIfInBounds (x+p.2) p.1) a).toList=a.toList.take x++(r++a.toList.drop (x+r.length)):=by
 apply List.ext_getElem?
 intro t
 rw[Array.getElem?_toList,qah r 0 a (by omega) t,Nat.add_zero]
 have lx:(a.toList.take x).length=x:=by simp;omega
 by_cases q:t<x
 · rw[if_neg (by omega),xx (by omega),List.getElem?_take,if_pos q,Array.getElem?_toList]
 · rw[xr (by omega),lx]
   by_cases q2:t<x+r.length
   · rw[if_pos (by omega),xx (by omega)]
   · rw[if_neg (by omega),xr (by omega),List.getElem?_drop,Array.getElem?_toList]
     congr 1
     omega
theorem qo0(L:LtOk M A E s κ rk S)(B:Bs κ rk S st){n1 n2 pw x0:Nat}(hp:pendingOf st=#[(0,n1,pw),(n1,n2,x0)])(hf:failedOf st=none)(z1:0<n1)(z2:0<n2)(hz:n1+n2=(arrOf st).size)(u1:UpR rk (arrOf st) 0 n1)(u2:UpR rk (arrOf st) n1 (n1+n2))
   {Q:Bool->SortSt->Prop} (h:∀st',pendingOf st'=#[(0,n1+n2,pw)]->failedOf st'=none->(arrOf st').Perm (arrOf st)->UpR rk (arrOf st') 0 (n1+n2)->Q true st'):wpS M A E s (mergeAt' 0) Q st:=by
 rw[qo1]
 refine j9 (wpS_get ?_)
 have g0:(pendingOf st)[0]? =some (0,n1,pw):=by rw[hp];rfl
 have g1:(pendingOf st)[0+1]? =some (n1,n2,x0):=by rw[hp];rfl
 have g2:((pendingOf st).setIfInBounds 0 (0,n1+n2,pw)).eraseIdxIfInBounds (0+1)=#[(0,n1+n2,pw)]:=by rw[hp];simp[Array.eraseIdxIfInBounds]
 rw[g0,g1]
 dsimp only
 rw[g2]
 refine j9 (qig ?_)
 have B':Bs κ rk S (setPending st #[(0,n1+n2,pw)]):=⟨B.k,B.s,B.d⟩
 have ea:arrOf (setPending st #[(0,n1+n2,pw)])=arrOf st:=rfl
 have ep:pendingOf (setPending st #[(0,n1+n2,pw)])=#[(0,n1+n2,pw)]:=rfl
 have ef:failedOf (setPending st #[(0,n1+n2,pw)])=none:=hf
 generalize setPending st #[(0,n1+n2,pw)]=st1 at B' ea ep ef
 refine j9 (q0p (by omega) (j9 (qe3 L B'.k (B.s _ (by omega)) B.s (by omega) (λi j i1 ij jn=>u1 i j i1 ij (by omega)) z1 λk kn k1 k2=>?_)))
 dsimp only
 rw[k9]at k1 k2 ⊢
 rw[k9]at k2
 have whole:(∀i j,i<n1->n1<=j->j<n1+n2->rk (at_ (arrOf st) i)<rk (at_ (arrOf st) j))->Q true st1:=λc=>by
   refine h st1 ep ef (by rw[ea]) ?_
   rw[ea]
   intro i j i1 ij jn
   by_cases q:j<n1
   · exact u1 i j i1 ij q
   · by_cases q2:i<n1
     · exact c i j q2 (by omega) jn
     · exact u2 i j (by omega) ij jn
 have ul:∀i j,i<=j->j<n1->rk (at_ (arrOf st) i)<=rk (at_ (arrOf st) j):=λi j ij jn=>by
   rcases Nat.eq_or_lt_of_le ij with rfl|q
   · exact jc _
   · exact Nat.le_of_lt (u1 i j (Nat.zero_le _) q jn)
 have ur:∀i j,n1<=i->i<=j->j<n1+n2->rk (at_ (arrOf st) i)<=rk (at_ (arrOf st) j):=λi j i1 ij jn=>by
   rcases Nat.eq_or_lt_of_le ij with rfl|q
   · exact jc _
   · exact Nat.le_of_lt (u2 i j i1 q jn)
 by_cases e:n1-k=0
 · rw[if_pos (by rw[e];rfl)]
   refine jb (whole λi j a1 a2 a3=>?_)
   have:=k1 i (Nat.zero_le _) (by omega)
   have:=B.d i n1 (by omega) (by omega) (by omega)
   have:=ur n1 j (jc _) a2 a3
   omega
 rw[if_neg (by simpa using e)]
 refine j9 (q0p (by omega) (j9 (q94 L B'.k (B.s _ (by omega)) B.s (by omega) (λi j i1 ij jn=>u2 i j i1 ij (by omega)) (by omega) λnb bn b1 b2=>?_)))
 dsimp only
 rw[show k+(n1-k)-1=n1-1 by omega]at b1 b2
 by_cases e2:nb=0
 · rw[if_pos (by rw[e2];rfl)]
   refine jb (whole λi j a1 a2 a3=>?_)
   have:=b2 j (by omega) a3
   have:=B.d (n1-1) j (by omega) (by omega) (by omega)
   have:=ul i (n1-1) (by omega) (by omega)
   omega
 rw[if_neg (by simpa using e2)]
 have zc:((arrOf st).extract k n1).size=n1-k:=by simp;omega
 have zd:((arrOf st).extract n1 (n1+nb)).size=nb:=by simp;omega
 have ac:∀i,i<n1-k->at_ ((arrOf st).extract k n1) i=at_ (arrOf st) (k+i):=λi hi=>qid (by omega) (by omega)
 have ad:∀i,i<nb->at_ ((arrOf st).extract n1 (n1+nb)) i=at_ (arrOf st) (n1+i):=λi hi=>qid (by omega) (by omega)
 have T:Two κ rk S ((arrOf st).extract k n1) ((arrOf st).extract n1 (n1+nb)) st1:=by
   refine⟨B'.k,λi hi=>?_,λi hi=>?_,λi j hi hj=>?_,qbl λi j i1 ij jn=>?_,qbl λi j i1 ij jn=>?_,by omega,by omega,?_,λj hj=>?_⟩
   · rw[ac i (by omega)];exact B.s _ (by omega)
   · rw[ad i (by omega)];exact B.s _ (by omega)
   · rw[ac i (by omega),ad j (by omega)];exact B.d _ _ (by omega) (by omega) (by omega)
   · rw[ac i (by omega),ac j (by omega)];exact u1 _ _ (by omega) (by omega) (by omega)
   · rw[ad i (by omega),ad j (by omega)];exact u2 _ _ (by omega) (by omega) (by omega)
   · rw[ac 0 (by omega),ad 0 (by omega)];exact k2 _ (by omega) (by omega)
   · rw[zc,ac _ (by omega),ad j (by omega),show k+(n1-k-1)=n1-1 by omega];exact b1 _ (by omega) (by omega)
 have fin:∀(r:Array Keyed) (st':SortSt),Fine rk ((arrOf st).extract k n1) ((arrOf st).extract n1 (n1+nb)) r->Sm st1 st'->wpS M A E s (do
     modify λs=>setArr s (r.toList.zipIdx.foldl (λa (p,j)=>a.setIfInBounds (k+j) p) (arrOf s))
     return(failedOf (<-get)).isNone) Q st':=λr st' ⟨f1,f2⟩ ⟨s1,s2,s3,s4⟩=>by
   have lr:r.toList.length=n1-k+nb:=by rw[f2.length_eq,jr,Array.length_toList,Array.length_toList,zc,zd]
   have sa:arrOf st'=arrOf st:=s2.trans ea
   refine j9 (wpS_modify (j9 (wpS_get (jb ?_))))
   have ff:failedOf st'=none:=s4.trans ef
   show Q (failedOf st').isNone _
   rw[ff]
   have el:=fold_list (a:=arrOf st) (x:=k) (r:=r.toList) (by omega)
   have pm:((r.toList.zipIdx).foldl (λa (p:Keyed×Nat)=>a.setIfInBounds (k+p.2) p.1) (arrOf st)).toList.Perm (arrOf st).toList:=by
     rw[el]
     refine(List.Perm.append_left _ (List.Perm.append_right _ f2)).trans ?_
     rw[Array.toList_extract,Array.toList_extract,List.extract_eq_drop_take,List.extract_eq_drop_take,lr,List.append_assoc,Nat.add_sub_cancel_left]
     have c1:(arrOf st).toList.drop (k+(n1-k+nb))=((arrOf st).toList.drop n1).drop nb:=by rw[List.drop_drop];congr 1;omega
     have c2:(arrOf st).toList.drop n1=((arrOf st).toList.drop k).drop (n1-k):=by rw[List.drop_drop];congr 1;omega
     rw[c1,List.take_append_drop,c2,List.take_append_drop,List.take_append_drop]
   refine h _ (s3.trans ep) ff (Array.perm_iff_toList_perm.mpr (by show((r.toList.zipIdx).foldl (λa (p:Keyed×Nat)=>a.setIfInBounds (k+p.2) p.1) (arrOf st')).toList.Perm _;rw[sa];exact pm)) ?_
   show UpR rk ((r.toList.zipIdx).foldl (λa (p:Keyed×Nat)=>a.setIfInBounds (k+p.2) p.1) (arrOf st')) 0 (n1+n2)
   rw[sa]
   have big:Srt rk ((r.toList.zipIdx).foldl (λa (p:Keyed×Nat)=>a.setIfInBounds (k+p.2) p.1) (arrOf st)).toList:=by
     rw[el]
     have inr:∀e,e∈r.toList->∃i,k<=i/\i<n1+nb/\e=at_ (arrOf st) i:=λe he=>by
       rcases List.mem_append.mp (f2.mem_iff.mp he)with q|q
       · obtain⟨i,i1,rfl⟩:=qom q
         exact⟨k+i,by omega,by omega,ac i (by omega)⟩
       · obtain⟨i,i1,rfl⟩:=qom q
         exact⟨n1+i,by omega,by omega,ad i (by omega)⟩
     have ind:∀e,e∈(arrOf st).toList.drop (k+r.toList.length)->∃i,n1+nb<=i/\i<n1+n2/\e=at_ (arrOf st) i:=λe he=>by
       obtain⟨i,i1,i2,rfl⟩:=q6u he
       exact⟨i,by omega,by simp at i2;omega,rfl⟩
     have low:∀i j,i<k->k<=j->j<n1+n2->rk (at_ (arrOf st) i)<rk (at_ (arrOf st) j):=λi j i1 j1 j2=>by
       by_cases q:j<n1
       · exact u1 i j (Nat.zero_le _) (by omega) q
       · have:=k1 i (Nat.zero_le _) i1
         have:=B.d i n1 (by omega) (by omega) (by omega)
         have:=ur n1 j (jc _) (by omega) j2
         omega
     refine Srt.app.mpr ⟨?_,Srt.app.mpr ⟨f1,?_,λe he f hf=>?_⟩,λe he f hf=>?_⟩
     · refine List.pairwise_iff_getElem.mpr λi j hi hj ij=>?_
       have hj':j<k:=by simp at hj;omega
       have:=u1 i j (Nat.zero_le _) ij (by omega)
       unfold at_ at this
       rw[jv,jv,jf (by simp;omega),jf (by simp;omega)]at this
       simpa using this
     · refine List.pairwise_iff_getElem.mpr λi j hi hj ij=>?_
       have hj':k+r.toList.length+j<n1+n2:=by simp at hj;simp;omega
       have:=u2 (k+r.toList.length+i) (k+r.toList.length+j) (by omega) (by omega) hj'
       unfold at_ at this
       rw[jv,jv,jf (by simp;simp at hj';omega),jf (by simp;simp at hj';omega)]at this
       simpa using this
     · obtain⟨i,i1,i2,rfl⟩:=inr e he
       obtain⟨j,j1,j2,rfl⟩:=ind f hf
       by_cases q:i<n1
       · have:=b2 j j1 j2
         have:=B.d (n1-1) j (by omega) (by omega) (by omega)
         have:=ul i (n1-1) (by omega) (by omega)
         omega
       · exact u2 i j (by omega) (by omega) j2
     · obtain⟨i,i1,i2,rfl⟩:=q4w he
       rcases List.mem_append.mp hf with q|q
       · obtain⟨j,j1,j2,rfl⟩:=inr f q
         exact low i j i1 j1 (by omega)
       · obtain⟨j,j1,j2,rfl⟩:=ind f q
         exact low i j i1 (by omega) j2
   have:=qpu big
   rw[show((r.toList.zipIdx).foldl (λa (p:Keyed×Nat)=>a.setIfInBounds (k+p.2) p.1) (arrOf st)).size=n1+n2 by rw[<-Array.length_toList,pm.length_eq,Array.length_toList,hz]]at this
   exact this
 by_cases q:n1-k<=nb
 · rw[if_pos q]
   exact j9 (qnu L T fin)
 · rw[if_neg q]
   exact j9 (qnw L T fin)
end
end L2
namespace L2
open PySem PySem.W PyProof.Rows
abbrev U2:=Option Unit×Unit
abbrev U3:=Option Unit×Nat
def mrgS(pw _i:Nat)(_:U2):SgM (ForInStep U2):=do
 let p:=pendingOf (<-get)
 let some (_,_,o):=(if p.size>1 then p[p.size-2]? else none)|pure (.done (none,()))
 if o<=pw then pure (.done (none,()))else
   if !(<-mergeAt' (p.size-2))then pure (.done (some (),()))else pure (.yield (none,()))
def psh(z lo n:Nat):SgM (ForInStep U3):=do
 if let some (x,y,_):=(pendingOf (<-get)).back? then
   let r <-forIn [0:z] ((none,()):U2) (mrgS (power' z (2*x+y) (2*x+y+y+n) z))
   Break.runK.match_1 (motive:=λ_=>SgM (ForInStep U3)) r.1 (λx=>pure (.done (some x,lo))) λ_=>do
     modify λs=>setPending s ((pendingOf s).modify ((pendingOf s).size-1) λp=>(p.1,p.2.1,power' z (2*x+y) (2*x+y+y+n) z))
     modify λs=>setPending s ((pendingOf s).push (lo,n,0))
     pure (.yield (none,lo+n))
 else
   modify λs=>setPending s ((pendingOf s).push (lo,n,0))
   pure (.yield (none,lo+n))
def stp(z r _i:Nat)(c:U3):SgM (ForInStep U3):=do
 if c.2≥z then pure (.done (none,c.2))else
   let some n <-countRun' c.2 (z-c.2)|pure (.done (some (),c.2))
   if n<r then
     rule "list.sort.binary-insertion"
     if !(<-binarySort' c.2 (min (z-c.2) r) n)then pure (.done (some (),c.2))else psh z c.2 (min (z-c.2) r)
   else psh z c.2 n
def fnl(_i:Nat)(_:U2):SgM (ForInStep U2):=do
 let p:=pendingOf (<-get)
 if p.size<=1 then pure (.done (none,()))else
   let i:=p.size-2
   let o:=if i>0 then p[i-1]?.map (·.2.1)else none
   if !(<-mergeAt' (if o.any (·<(p[i+1]?.elim 0 (·.2.1)))then i-1 else i))then pure (.done (some (),()))else pure (.yield (none,()))
theorem qm5:sortRuns'=(do
 let z:=(arrOf (<-get)).size
 let r <-forIn [0:z] ((none,0):U3) (stp z (minRun' z z 0))
 Break.runK.match_1 (motive:=λ_=>SgM Unit) r.1 (λx=>pure x) λ_=>do
   let q <-forIn [0:z] ((none,()):U2) fnl
   Break.runK.match_1 (motive:=λ_=>SgM Unit) q.1 (λx=>pure x) λ_=>pure ()):=rfl
section
variable{M:Model}{A:Around}{E:Value->Shared->Prop}{s:Shared}{κ:SortKind}{rk:Keyed->Nat}{S:Keyed->Prop}{st st1:SortSt}
theorem qjw{n:Nat}(h2:2<=n)(h:n<128):minRun' n n 0<=n/\n<=2*minRun' n n 0:=by
 obtain⟨f,rfl⟩:∃f,n=f+2:=⟨n-2,by omega⟩
 rw[minRun'_succ]
 by_cases q:f+2<64
 · rw[if_pos q];omega
 · rw[if_neg q,minRun'_succ,if_pos (by omega)];omega
structure Good(st st':SortSt):Prop where
 k:kindOf st'=kindOf st
 f:failedOf st'=none
 a:(arrOf st').Perm (arrOf st)
theorem Good.bs(g:Good st st1)(B:Bs κ rk S st):Bs κ rk S st1:=by
 have c:Ch 0 st (SortSt.mk' (kindOf st1) (arrOf st1) (pendingOf st) (gallopOf st1) (failedOf st)):=⟨g.k,rfl,rfl,g.a,λi hi=>absurd hi (Nat.not_lt_zero i)⟩
 have:=c.bs B
 exact⟨this.k,this.s,this.d⟩
def D1(rk:Keyed->Nat)(st:SortSt)(r n1:Nat)(st':SortSt):Prop:=Good st st'/\r<=n1/\0<n1/\n1<=(arrOf st).size/\pendingOf st'=#[(0,n1,0)]/\UpR rk (arrOf st') 0 n1
def D2(rk:Keyed->Nat)(st:SortSt)(st':SortSt):Prop:=Good st st'/\∃n1 pw,0<n1/\n1<(arrOf st).size/\pendingOf st'=#[(0,n1,pw),(n1,(arrOf st).size-n1,0)]/\UpR rk (arrOf st') 0 n1/\UpR rk (arrOf st') n1 (n1+((arrOf st).size-n1))
theorem UpR.keep{a b:Array Keyed}{lo hi:Nat}(u:UpR rk a lo hi)(h:∀i,i<hi->at_ b i=at_ a i):UpR rk b lo hi:=λi j i1 ij jn=>by rw[h i (by omega),h j jn];exact u i j i1 ij jn
theorem qha(L:LtOk M A E s κ rk S)(B:Bs κ rk S st){lo r z i:Nat}{o:Option Unit}{Q:ForInStep U3->SortSt->Prop}(hz:z=(arrOf st).size)(hl:lo<z)(hr:r<=z)
   (h:∀n st',1<=n->n<=z-lo->min r (z-lo)<=n->Ch lo st st'->UpR rk (arrOf st') lo (lo+n)->wpS M A E s (psh z lo n) Q st'):wpS M A E s (stp z r i (o,lo)) Q st:=by
 unfold stp
 dsimp only
 rw[if_neg (by omega)]
 refine j9 (qpf L B (by omega) (by omega) λn st2 n1 n2 c2 u2=>?_)
 dsimp only
 by_cases q:n<r
 · rw[if_pos q]
   refine j9 (wpS_lift (xo ⟨rfl,?_⟩))
   by_cases q2:n<=min (z-lo) r
   · refine j9 (qpj L (c2.bs B) n1 q2 (by rw[c2.sz];omega) u2 λst3 c3 u3=>?_)
     exact h _ st3 (by omega) (by omega) (by omega) (c2.trans c3) u3
   · omega
 · rw[if_neg q]
   exact h n st2 n1 n2 (by omega) c2 u2
theorem qir(L:LtOk M A E s κ rk S)(B:Bs κ rk S st)(hp:pendingOf st=#[])(hf:failedOf st=none)(h2:2<=(arrOf st).size)(h128:(arrOf st).size<128)
   {Q:Unit->SortSt->Prop} (h:∀st',failedOf st'=none->(arrOf st').Perm (arrOf st)->UpR rk (arrOf st') 0 (arrOf st).size->Q () st'):wpS M A E s sortRuns' Q st:=by
 rw[qm5]
 refine j9 (wpS_get ?_)
 dsimp only
 obtain⟨m1,m2⟩:=qjw h2 h128
 generalize minRun' (arrOf st).size (arrOf st).size 0=r at m1 m2
 refine j9 (jx (xh
   (I:=λx (c:U3) st'=>(x=0/\c=(none,0)/\st'=st)∨(x=1/\∃n1,c=(none,n1)/\D1 rk st r n1 st')∨(2<=x/\c=(none,(arrOf st).size)/\D2 rk st st'))
   (Q:=λ(c:U3) st'=>c=(none,(arrOf st).size)/\(D1 rk st r (arrOf st).size st'∨D2 rk st st')) ?step ?fin (.inl ⟨rfl,rfl,rfl⟩)) ?post)
 case fin=>
   rintro c st' (⟨hx,_⟩|⟨hx,_⟩|⟨_,hc,hD⟩)
   · omega
   · omega
   · exact⟨hc,.inr hD⟩
 case step=>
   rintro x c st' _ hx (⟨rfl,rfl,rfl⟩|⟨rfl,n1,rfl,G,r1,z1,n1s,p1,u1⟩|⟨hx1,rfl,hD⟩)
   · refine qha L B rfl (by omega) m1 λn st2 n1 n2 n3 c2 u2=>?_
     rw[k9]at u2
     unfold psh
     refine j9 (wpS_get ?_)
     have pe:(pendingOf st2).back?=none:=by rw[c2.p,hp];rfl
     rw[pe]
     dsimp only
     refine j9 (wpS_modify (jb (.inr (.inl ⟨rfl,n,by rw[k9],⟨c2.k,c2.f.trans hf,c2.a⟩,by omega,by omega,by omega,?_,u2⟩))))
     show(pendingOf st2).push _=_
     rw[c2.p,hp];rfl
   · by_cases full:n1≥(arrOf st).size
     · unfold stp
       rw[if_pos full]
       have e:n1=(arrOf st).size:=by omega
       subst e
       exact jb ⟨rfl,.inl ⟨G,r1,z1,n1s,p1,u1⟩⟩
     · have sz:(arrOf st).size=(arrOf st').size:=G.a.size_eq.symm
       refine qha L (G.bs B) sz (by omega) m1 λn st2 n4 n2 n3 c2 u2=>?_
       have en:n=(arrOf st).size-n1:=by omega
       subst en
       unfold psh
       refine j9 (wpS_get ?_)
       have ps:pendingOf st2=#[(0,n1,0)]:=c2.p.trans p1
       have pe:(pendingOf st2).back?=some (0,n1,0):=by rw[ps];rfl
       rw[pe]
       dsimp only
       refine j9 (jx (xh (I:=λ_ (c:U2) st3=>st3=st2/\c=(none,())) (Q:=λ(c:U2) st3=>st3=st2/\c=(none,())) ?_ (λ_ _ hh=>hh) ⟨rfl,rfl⟩) ?_)
       · rintro _ c st3 _ _ ⟨rfl,rfl⟩
         unfold mrgS
         refine j9 (wpS_get ?_)
         dsimp only
         rw[if_neg (by rw[ps];exact xm 1)]
         exact jb ⟨rfl,rfl⟩
       · rintro c st3 ⟨rfl,rfl⟩
         show wpS M A E s (modify _ >>= λ_=>modify _ >>= λ_=>pure _) _ st3
         refine j9 (wpS_modify (j9 (wpS_modify (jb (.inr (.inr ⟨jc _,by rw[Nat.add_sub_cancel' n1s],⟨c2.k.trans G.k,c2.f.trans G.f,c2.a.trans G.a⟩,n1,power' (arrOf st).size (2*0+n1) (2*0+n1+n1+((arrOf st).size-n1)) (arrOf st).size,z1,by omega,?_,u1.keep c2.o,u2⟩))))))
         show((pendingOf st3).modify ((pendingOf st3).size-1) _).push _=_
         rw[ps]
         simp[Array.modify,Array.modifyM]
   · unfold stp
     rw[if_pos (jc _)]
     exact jb ⟨rfl,.inr hD⟩
 case post=>
   rintro c st' ⟨rfl,hD⟩
   show wpS M A E s (forIn [0:(arrOf st).size] ((none,()):U2) fnl >>= _) Q st'
   refine j9 (jx (xh (I:=λx (c:U2) st2=>c=(none,())/\((x=0/\D2 rk st st2)∨(pendingOf st2).size=1/\(failedOf st2=none/\(arrOf st2).Perm (arrOf st))/\UpR rk (arrOf st2) 0 (arrOf st).size))
     (Q:=λ(c:U2) st2=>c=(none,())/\(failedOf st2=none/\(arrOf st2).Perm (arrOf st))/\UpR rk (arrOf st2) 0 (arrOf st).size) ?_ ?_ ⟨rfl,?_⟩) ?_)
   · rintro x c st2 _ _ ⟨rfl,⟨rfl,G,n1,pw,a1,a2,a3,a4,a5⟩|⟨b1,b2,b3⟩⟩
     · unfold fnl
       refine j9 (wpS_get ?_)
       dsimp only
       rw[if_neg (by rw[a3];exact Nat.not_succ_le_self 1)]
       have ei:(if((if(pendingOf st2).size-2>0 then(pendingOf st2)[(pendingOf st2).size-2-1]?.map (·.2.1)else none).any (·<((pendingOf st2)[(pendingOf st2).size-2+1]?.elim 0 (·.2.1))))=true then(pendingOf st2).size-2-1 else(pendingOf st2).size-2)=0:=by
         rw[a3];rfl
       rw[ei]
       refine j9 (qo0 L (G.bs B) a3 G.f a1 (by omega) (by rw[G.a.size_eq];omega) a4 a5 λst3 c1 c2 c3 c4=>?_)
       exact jb ⟨rfl,.inr ⟨by rw[c1];rfl,⟨c2,c3.trans G.a⟩,by rwa [Nat.add_sub_cancel' (Nat.le_of_lt a2)]at c4⟩⟩
     · unfold fnl
       refine j9 (wpS_get ?_)
       dsimp only
       rw[if_pos (by rw[b1];exact jc 1)]
       exact jb ⟨rfl,b2,b3⟩
   · rintro c st2 ⟨hc,⟨z,_⟩|⟨_,b2,b3⟩⟩
     · omega
     · exact⟨hc,b2,b3⟩
   · rcases hD with⟨G,_,_,_,p,u⟩|hD
     · exact .inr ⟨by rw[p];rfl,⟨G.f,G.a⟩,u⟩
     · exact .inl ⟨rfl,hD⟩
   · rintro c st2 ⟨rfl,G,u⟩
     exact jb (h st2 G.1 G.2 u)
end
end L2
namespace L2
open PySem PySem.Spec PyProof.Rows PySem.W
def Pr(h:Heap)(v:Value)(p:Int×Int):Prop:=∃a o n t u,v=.ref a/\h.get? a=some o/\o.cls=.type "tuple"/\o.data=.seq #[.int p.1 t,.int p.2 u] n
theorem Pr.one{h:Heap}{v:Value}{p q:Int×Int}(x:Pr h v p)(y:Pr h v q):p=q:=by
 obtain⟨a,o,n,t,u,rfl,e,_,d⟩:=x
 obtain⟨a',o',n',t',u',e1,e2,_,d2⟩:=y
 cases e1
 rw[e]at e2
 cases e2
 rw[d]at d2
 simp at d2
 exact Prod.ext d2.1.1.1 d2.1.2.1
def prOf(h:Heap)(v:Value):Int×Int:=by
 classical exact if z:∃p,Pr h v p then z.choose else(0,0)
theorem q2y{h:Heap}{v:Value}{p:Int×Int}(x:Pr h v p):prOf h v=p:=by
 unfold prOf
 rw[dif_pos ⟨p,x⟩]
 exact Pr.one (Exists.choose_spec (⟨p,x⟩:∃p,Pr h v p)) x
def enc(p:Int×Int):Nat:=(p.1*1000+p.2).toNat
def okE(p:Int×Int):Prop:=0<=p.1/\0<=p.2/\p.2<1000
theorem ql8{p q:Int×Int}(h:okE p)(g:okE q)(e:enc p=enc q):p=q:=by
 unfold enc at e
 obtain⟨a,b,c⟩:=h
 obtain⟨a',b',c'⟩:=g
 exact Prod.ext (by omega) (by omega)
section
variable{prog:Program}{w:World}{A:Around}{E:Value->Shared->Prop}{s:Shared}
theorem qq0{v u:Value}{p q:Int×Int}{Q:Bool->Shared->Prop}(hp:Pr s.heap v p)(hq:Pr s.heap u q)(op:okE p)(oq:okE q)(k:Q (decide (enc p<enc q)) s):wpAny (model prog w) A (keyLt' (tuples' true) v u) Q E s:=by
 obtain⟨a,o,n,t1,t2,rfl,e,_,d⟩:=hp
 obtain⟨b,o',n',t3,t4,rfl,e',_,d'⟩:=hq
 obtain⟨a1,a2,a3⟩:=op
 obtain⟨b1,b2,b3⟩:=oq
 refine kat_lt e d e' d' ?_
 show KatLex prog w A true _ Q [(.int p.1 t1,.int q.1 t3),(.int p.2 t2,.int q.2 t4)] 0 s
 refine kat_cons (wpAny_eqBool_int (kat_go (λz=>?_) λz=>?_))
 · have z1:p.1=q.1:=by simpa using z
   refine kat_yes (kat_cons (wpAny_eqBool_int (kat_go (λy=>?_) λy=>?_)))
   · have y1:p.2=q.2:=by simpa using y
     refine kat_yes (kat_nil ?_)
     rw[decide_eq_false (by unfold enc;omega)]at k
     exact k
   · have y1:p.2≠q.2:=by simpa using y
     refine kat_no (kat_one _ _ (PyProof.Rows.lt_int ?_))
     have:decide (p.2<q.2)=decide (enc p<enc q):=by
       rw[decide_eq_decide]
       unfold enc
       omega
     show Q (decide (p.2<q.2)) s
     rw[this]
     exact k
 · have z1:p.1≠q.1:=by simpa using z
   refine kat_no (oneLt_int ?_)
   have:decide (p.1<q.1)=decide (enc p<enc q):=by
     rw[decide_eq_decide]
     unfold enc
     omega
   rw[this]
   exact k
theorem qja:LtOk (model prog w) A E s (tuples' true) (λx=>enc (prOf s.heap x.1)) (λx=>∃p,Pr s.heap x.1 p/\okE p):=by
 rintro x y st Q ⟨p,hp,op⟩ ⟨q,hq,oq⟩ hk h
 simp only[q2y hp,q2y hq]at h
 rw[lt'_eq]
 refine j9 (wpS_get ?_)
 rw[hk]
 refine j9 (wpS_lift (kl (qq0 hp hq op oq ⟨rfl,?_⟩)))
 exact jb h
theorem qjb{vs:List Value}{Q:SortKind->Shared->Prop}(h0:0<vs.length)(h:∀v∈vs,∃p,Pr s.heap v p)(k:Q (tuples' true) s):wpAny (model prog w) A (keyKind' vs.toArray) Q E s:=by
 obtain⟨fs,h1,h2,h3⟩:∃fs:List Value,KatTups s.heap vs fs/\fs.length=vs.length/\∀v∈fs,∃i t,v=.int i t:=by
   clear h0 k
   induction vs with
   |nil=>exact⟨[],by rw[KatTups.eq_def];trivial,rfl,λv hv=>nomatch hv⟩
   | cons v vs ih=>
     obtain⟨fs,a1,a2,a3⟩:=ih λu hu=>h u (jk _ hu)
     obtain⟨p,a,o,n,t,u,rfl,e,c,d⟩:=h v jg
     refine⟨.int p.1 t::fs,by rw[KatTups.eq_def];exact⟨⟨a,o,_,n,rfl,e,c,d,rfl⟩,a1⟩,by rw[jo,jo,a2],λx hx=>?_⟩
     rcases List.mem_cons.mp hx with rfl|hx
     · exact⟨_,_,rfl⟩
     · exact a3 x hx
 refine kat_kind (T:=.type "int") h1 (by omega) (λv hv=>?_) (by decide) k
 obtain⟨i,t,rfl⟩:=h3 v hv
 exact Looks.now
theorem Pr.keep{h h':Heap}{v:Value}{p:Int×Int}(x:Pr h v p)(k:∀a o,v=.ref a->o.cls=.type "tuple"->h.get? a=some o->h'.get? a=some o):Pr h' v p:=
 let ⟨a,o,n,t,u,e,g,c,d⟩:=x;⟨a,o,n,t,u,e,k a o e c g,c,d⟩
theorem qj9{a:Addr}{vs:List Value}{n:Nat}{F:Fin->Shared->Prop}(hg:s.heap.get? a=some (seqObj "list" vs.toArray n))(h:∀v∈vs,∃p,Pr s.heap v p/\okE p)(nd:vs.Pairwise λx y=>enc (prOf s.heap x)≠enc (prOf s.heap y))(hz:vs.length<128)
   (q:∀ws:List Value,ws.Perm vs->(ws.Pairwise λx y=>enc (prOf s.heap x)<enc (prOf s.heap y))->F (.done (.ret .none)) {s with heap:=sortedHeap s.heap a vs ws.toArray}):wpAny (model prog w) A (Builtin.«list.sort» ⟨[.ref a],[]⟩) F E s:=by
 have hzl:vs.length<=sizeLine:=jy (Nat.le_of_lt hz) (by decide)
 rw[list_sort_plain]
 have lt:a<s.heap.objs.size:=jd hg
 refine j7 (listItems_at hg rfl (j7 (listUpdate_at hg rfl ?_ (hsz:=by simpa using hzl) (hsz2:=by simp))))
 obtain⟨e1,g1⟩:∃e1,(s.heap.update a (Obj.mapSeq λ_=>#[])).get? a=some (seqObj "list" #[] e1):=⟨_,get?_update_seq hg _⟩
 refine j7 (seqEpoch_at g1 rfl (j7 (wpAny_newTuple (j7 (wpAny_newList (x5 ?_))))))
 have g2:(((s.heap.update a (Obj.mapSeq λ_=>#[])).push (seqObj "tuple" vs.toArray 0)).push (seqObj "list" #[] 0)).get? a=some (seqObj "list" #[] e1):=by
   rw[Heap.get?_push_ne,Heap.get?_push_ne]
   · exact g1
   · rw[Heap.size_update];exact jj lt
   · rw[size_push',Heap.size_update];exact jj (Nat.lt_succ_of_lt lt)
 have kp:∀b o,b≠a->s.heap.get? b=some o->(((s.heap.update a (Obj.mapSeq λ_=>#[])).push (seqObj "tuple" vs.toArray 0)).push (seqObj "list" #[] 0)).get? b=some o:=λb o hb e=>
   je _ (je _ ((xy s.heap _ (Ne.symm hb)).trans e))
 generalize hh2:((s.heap.update a (Obj.mapSeq λ_=>#[])).push (seqObj "tuple" vs.toArray 0)).push (seqObj "list" #[] 0)=h2' at g2 kp
 have k2:∀v∈vs,∃p,Pr s.heap v p/\Pr h2' v p/\okE p:=λv hv=>by
   obtain⟨p,hp,op⟩:=h v hv
   refine⟨p,hp,hp.keep λb o _ hc e=>kp b o (λz=>?_) e,op⟩
   rw[z,hg]at e
   cases e
   exact absurd (Value.type.inj hc) (by decide)
 have pe:∀v∈vs,prOf h2' v=prOf s.heap v:=λv hv=>by
   obtain⟨p,h1,h2,_⟩:=k2 v hv
   rw[q2y h1,q2y h2]
 show wpAny (model prog w) A _ F E {s with heap:=h2'}
 dsimp only
 have fin:∀out,sortedHeap s.heap a vs out=h2'.update a (Obj.mapSeq λ_=>out):=λout=>by rw[<-hh2];rfl
 have arr:(pairsOf vs).map (·.2)=vs.toArray:=by
   apply Array.ext'
   rw[Array.toList_map,pairsOf_toList]
   exact List.map_snd_zip (jc _)
 have sz:vs.toArray.size=vs.length:=jw
 by_cases h2:vs.toArray.size<2
 · rw[if_pos h2,if_pos h2]
   refine j7 (j8 ?_)
   rw[StateT.run_pure]
   refine j7 (j8 ?_)
   dsimp only
   refine j7 (seqEpoch_at g2 rfl (j7 (listUpdate_at g2 rfl ?_ (hsz2:=?_))))
   · simp only[bne_self_eq_false,Bool.false_eq_true,if_false]
     refine j8 ?_
     have q0:=q vs (.refl _) (by
       match vs,sz,h2 with
       |[],_,_=>exact .nil
       |[_],_,_=>simp
       |_::_::_,_,h2=>simp at h2;omega)
     rw[<-arr,fin]at q0
     exact q0
   · show((pairsOf vs).map (·.2)).size<=_
     rw[arr,sz];omega
 · rw[if_neg h2,if_neg h2]
   refine j7 (qjb (s:={s with heap:=h2'}) (by omega) (λv hv=>let ⟨p,_,h2,_⟩:=k2 v hv;⟨p,h2⟩) ?_)
   have mem:∀i,i<(pairsOf vs).size->∃v∈vs,at_ (pairsOf vs) i=(v,v)/\vs[i]? =some v:=λi hi=>by
     have hi':i<vs.length:=by rw[pairsOf_size]at hi;exact hi
     refine⟨vs[i],List.getElem_mem hi',?_,jf hi'⟩
     unfold at_
     rw[pairsOf_toList,jv,(show(vs.zip vs)[i]? =some (vs[i],vs[i])from List.getElem?_zip_eq_some.mpr ⟨jf hi',jf hi'⟩)]
     rfl
   have B:Bs (tuples' true) (λx:Keyed=>enc (prOf h2' x.1)) (λx=>∃p,Pr h2' x.1 p/\okE p) (SortSt.mk' (tuples' true) (pairsOf vs) #[] 7 none):=by
     refine⟨rfl,λi hi=>?_,λi j hi hj ij=>?_⟩
     · obtain⟨v,hv,e,_⟩:=mem i hi
       obtain⟨p,_,h2,op⟩:=k2 v hv
       show∃p,Pr h2' (at_ (pairsOf vs) i).1 p/\okE p
       rw[e]
       exact⟨p,h2,op⟩
     · obtain⟨v,hv,e,x1⟩:=mem i hi
       obtain⟨u,hu,e',x2⟩:=mem j hj
       show enc (prOf h2' (at_ (pairsOf vs) i).1)≠enc (prOf h2' (at_ (pairsOf vs) j).1)
       rw[e,e']
       show enc (prOf h2' v)≠enc (prOf h2' u)
       rw[pe v hv,pe u hu]
       have hp:=List.pairwise_iff_getElem.mp nd
       obtain⟨l1,x1⟩:=List.getElem?_eq_some_iff.mp x1
       obtain⟨l2,x2⟩:=List.getElem?_eq_some_iff.mp x2
       subst x1 x2
       rcases Nat.lt_or_gt_of_ne ij with c|c
       · exact hp i j l1 l2 c
       · exact(hp j i l2 l1 c).symm
   refine j7 (x9 (qir (s:={s with heap:=h2'}) (st:=SortSt.mk' (tuples' true) (pairsOf vs) #[] 7 none) (Q:=λ_ u=>failedOf u=none/\(arrOf u).Perm (pairsOf vs)/\UpR (λx:Keyed=>enc (prOf h2' x.1)) (arrOf u) 0 (pairsOf vs).size) qja B rfl rfl (by show 2<=(pairsOf vs).size;rw[pairsOf_size];omega) (by show(pairsOf vs).size<128;rw[pairsOf_size];exact hz) λu x y z=>⟨x,y,z⟩) ?_ λ_ _ e=>e)
   rintro⟨⟨⟩,u⟩ s' ⟨rfl,hf,hp,up⟩
   dsimp only
   have same:∀e∈(arrOf u).toList,e.1=e.2/\e.2∈vs:=λe he=>by
     have:=(Array.perm_iff_toList_perm.mp hp).mem_iff.mp he
     rw[pairsOf_toList]at this
     obtain⟨i,hi⟩:=List.mem_iff_getElem?.mp this
     obtain⟨h1,h2⟩:=List.getElem?_zip_eq_some.mp hi
     rw[h1]at h2
     exact⟨jh h2,va (by rw[<-jh h2];exact h1)⟩
   have wp:((arrOf u).toList.map (·.2)).Perm vs:=by
     have:=(Array.perm_iff_toList_perm.mp hp).map (·.2)
     rw[pairsOf_toList,List.map_snd_zip (jc _)]at this
     exact this
   have su:(arrOf u).size=(pairsOf vs).size:=hp.size_eq
   refine j7 (seqEpoch_at g2 rfl (j7 (listUpdate_at g2 rfl ?_ (hsz2:=?_))))
   · rw[hf]
     simp only[bne_self_eq_false,Bool.false_eq_true,if_false]
     refine j8 ?_
     have q0:=q ((arrOf u).toList.map (·.2)) wp (by
       rw[List.pairwise_map]
       refine List.Pairwise.imp_of_mem (λ{x y} hx hy hxy=>?_) (qbl (a:=arrOf u) (rk:=λx:Keyed=>enc (prOf h2' x.1)) (by rw[su];exact up))
       obtain⟨x1,x2⟩:=same x hx
       obtain⟨y1,y2⟩:=same y hy
       dsimp only at hxy
       rw[x1,y1,pe _ x2,pe _ y2]at hxy
       exact hxy)
     rw[fin,show((arrOf u).toList.map (·.2)).toArray=(arrOf u).map (·.2)by apply Array.ext';simp]at q0
     exact q0
   · show((arrOf u).map (·.2)).size<=_
     rw[Array.size_map,su,pairsOf_size];omega
theorem q7g{l:Value}{vs:List Value}{Q:Value->Shared->Prop}{G:Shared->Prop}(hc:∀{Q':List Value->Shared->Prop},(∀s',G s'->Q' vs s')->wpAny (model prog w) A.in1 (collect l) Q' E s)(h:∀s',G s'->∀v∈vs,∃p,Pr s'.heap v p/\okE p)(nd:∀s',G s'->vs.Pairwise λx y=>enc (prOf s'.heap x)≠enc (prOf s'.heap y))(hz:vs.length<128)
   (q:∀s',G s'->∀ws:List Value,ws.Perm vs->(ws.Pairwise λx y=>enc (prOf s'.heap x)<enc (prOf s'.heap y))->Q (.ref s'.heap.objs.size) {s' with heap:=sortedHeap (s'.heap.push (seqObj "list" vs.toArray 0)) s'.heap.objs.size vs ws.toArray}):wpAny (model prog w) A (call (.builtin "sorted") [l]) Q E s:=by
 refine Calls.call_function_entry kind_sorted plain_sorted entry_sorted (args_sorted1 _) ?_
 unfold Builtin.«sorted»
 refine j7 (m:=checkCount "sorted" 1 1 _) (j8 (j7 (hc λs' hs=>j7 (wpAny_newList ?_))))
 have g:(s'.heap.push (seqObj "list" vs.toArray 0)).get? s'.heap.objs.size=some (seqObj "list" vs.toArray 0):=jq _ rfl
 have kp:∀v∈vs,∃p,Pr s'.heap v p/\Pr (s'.heap.push (seqObj "list" vs.toArray 0)) v p/\okE p:=λv hv=>by
   obtain⟨p,hp,op⟩:=h s' hs v hv
   exact⟨p,hp,hp.keep λb o _ _ e=>je _ e,op⟩
 have pe:∀v∈vs,prOf (s'.heap.push (seqObj "list" vs.toArray 0)) v=prOf s'.heap v:=λv hv=>by
   obtain⟨p,h1,h2,_⟩:=kp v hv
   rw[q2y h1,q2y h2]
 refine j7 (x5 (xj slot_list_sort ⟨_,g,rfl⟩ entry_list_sort (qj9 (s:={s' with heap:=s'.heap.push (seqObj "list" vs.toArray 0)}) g (λv hv=>let ⟨p,_,h2,op⟩:=kp v hv;⟨p,h2,op⟩) ((nd s' hs).imp_of_mem λ{x y} hx hy hxy=>by show enc (prOf (s'.heap.push _) x)≠enc (prOf (s'.heap.push _) y);rw[pe x hx,pe y hy];exact hxy) hz λws wp up=>⟨_,rfl,j8 ⟨_,rfl,q s' hs ws wp (up.imp_of_mem λ{x y} hx hy hxy=>?_)⟩⟩) (args_list_sort _)))
 rw[<-pe x (wp.mem_iff.mp hx),<-pe y (wp.mem_iff.mp hy)]
 exact hxy
end
end L2
namespace L2
open PySem PySem.Spec PyProof.Rows PySem.W
section
variable{prog:Program}{w:World}{A:Around}{E:Value->Shared->Prop}{s:Shared}
theorem qbh(hh:A.handled=none)(it d:Addr)(h:d≠it)(es:Array DictEntry)(ep:Nat):Walks prog w A it [it,d] [it] es.size (λi v=>(es[i]?).map (·.key)=some v) (λi h=>i<=es.size/\h.IsKeyIter it d i es.size ep/\DRaw h d es ep) where
 sub:=λb hb=>by
   rw[List.mem_singleton.mp hb]
   simp
 frame:=λi h h' st k=>by
   obtain⟨st0,st1,st2⟩:=st
   refine⟨st0,?_,st2.at_ λo e=>k d (by simp) o e⟩
   obtain⟨o,e,r⟩:=st1
   exact⟨o,k it (by simp) o e,r⟩
 item:=λi s Q E hi st q=>by
   refine qac st.2.1 st.2.2 hi λh' st' sb=>?_
   exact q _ h' s.toks (by rw[Array.getElem?_eq_getElem hi];rfl) ⟨hi,st',st.2.2.at_ λo e=>(sb.2 d h).trans e⟩ λb o nb e=>(sb.2 b (by simpa using nb)).trans e
 done:=λs Q E st q=>by
   refine qdq hh st.2.1 st.2.2 (jc _) λh' eb=>q h' s.toks λb o nb e=>eb b o (by simpa using nb) e
 self:=λi s Q E st h=>wpAny_pyIter_keyiter st.2.1 h
theorem q8f{d:Addr}{es:Array DictEntry}{ep:Nat}{Q:List Value->Shared->Prop}(hh:A.handled=none)(nd:(d==sysModules)=false)(x:DRaw s.heap d es ep)(hz:es.size<=sizeLine)
   (q:∀s',(∀b o,s.heap.get? b=some o->s'.heap.get? b=some o)->s'.gens=s.gens->s'.drawn=s.drawn->s'.os=s.os->Q (es.toList.map (·.key)) s'):wpAny (model prog w) A (collect (.ref d)) Q E s:=by
 have ltd:d<s.heap.objs.size:=by obtain⟨o,e,_⟩:=x;exact jd e
 unfold collect
 refine j7 (wpAny_runValue (kg F.entry_proto_collect ?_))
 rw[ko F.plain_proto_collect]
 refine j7 (xf (j8 ⟨ku F.plain_list_iadd _,kg F.entry_list_iadd ?_⟩))
 rw[ko F.plain_list_iadd]
 have hS:=jq s.heap (o:={cls:=.type "list",data:=.seq #[]}) rfl
 have x1:DRaw (s.heap.push {cls:=.type "list",data:=.seq #[]}) d es ep:=x.at_ λo e=>je _ e
 unfold Builtin.«list.__iadd__»
 refine j7 (xk (a:=(Value.ref s.heap.objs.size,[Value.ref d])) rfl ?_)
 dsimp only
 unfold Builtin.List.listExtendWith
 refine j7 (wpAny_typeOf x1.ty ?_)
 have nsd:(s.heap.objs.size==d)=false:=beq_eq_false_iff_ne.mpr (Nat.ne_of_gt ltd)
 rw[if_neg (by unfold Builtin.List.listSameRef;simp[nsd])]
 refine j7 (qa9 nd x1 ?_)
 have pk:∀b o,s.heap.get? b=some o->((s.heap.push {cls:=.type "list",data:=.seq #[]}).push {cls:=.type "dict_keyiterator",data:=.fields #[.ref d,.int 0 0,.int es.size 0,.int ep 0]}).get? b=some o:=λb o e=>je _ (je _ e)
 have pS:=je ({cls:=.type "dict_keyiterator",data:=.fields #[.ref d,.int 0 0,.int es.size 0,.int ep 0]}:Obj) hS
 have pI:=jq (s.heap.push {cls:=.type "list",data:=.seq #[]}) (o:={cls:=.type "dict_keyiterator",data:=.fields #[.ref d,.int 0 0,.int es.size 0,.int ep 0]}) rfl
 have x2:DRaw ((s.heap.push {cls:=.type "list",data:=.seq #[]}).push {cls:=.type "dict_keyiterator",data:=.fields #[.ref d,.int 0 0,.int es.size 0,.int ep 0]}) d es ep:=x.at_ λo e=>pk d o e
 have sI:(s.heap.push {cls:=.type "list",data:=.seq #[]}).objs.size=s.heap.objs.size+1:=size_push' ..
 rw[sI]at pI ⊢
 generalize (s.heap.push {cls:=.type "list",data:=.seq #[]}).push {cls:=.type "dict_keyiterator",data:=.fields #[.ref d,.int 0 0,.int es.size 0,.int ep 0]}=h2 at pk pS pI x2
 refine j7 (x5 ?_)
 unfold Builtin.List.listLengthHint
 refine j7 (wpAny_specialOf (s:={s with heap:=h2}) x2.ty F.slot_dict_len.lookup ?_)
 refine j7 (km (s:={s with heap:=h2}) x2.ty (b:=true) (by kernel_rfl) ?_)
 refine ka (by rfl) ?_
 refine wpAny_ite_true (by kernel_rfl) (j7 (wpAny_typeOf (s:={s with heap:=h2}) x2.ty ?_))
 refine j8 ?_
 refine wpAny_ite_true (by kernel_rfl) (j7 (xo ?_))
 unfold Builtin.List.listTouch
 refine j7 (j7 (listUpdate_at (s:={s with heap:=h2}) pS rfl ?_ (hsz:=by simp) (hsz2:=by simp)))
 have g1:=get?_update_seq pS (λx=>x.push Value.none)
 refine listUpdate_at (s:={s with heap:=h2.update s.heap.objs.size (Obj.mapSeq λx=>x.push Value.none)}) g1 rfl ?_ (hsz:=by show 1<=_;decide) (hsz2:=by simp)
 have g2:=get?_update_seq g1 (λx=>x.pop)
 have k2:∀b o,b≠s.heap.objs.size->h2.get? b=some o->((h2.update s.heap.objs.size (Obj.mapSeq λx=>x.push Value.none)).update s.heap.objs.size (Obj.mapSeq λx=>x.pop)).get? b=some o:=λb o hb e=>(xy _ _ (Ne.symm hb)).trans ((xy h2 _ (Ne.symm hb)).trans e)
 generalize (h2.update s.heap.objs.size (Obj.mapSeq λx=>x.push Value.none)).update s.heap.objs.size (Obj.mapSeq λx=>x.pop)=h3 at g2 k2
 refine j8 ⟨ku F.plain_extend_loop _,?_⟩
 have ne1:d≠s.heap.objs.size+1:=jj (Nat.lt_succ_of_lt ltd)
 have ne2:d≠s.heap.objs.size:=jj ltd
 refine codeAny_extend_loopS (qbh (A:=A.in1) hh (s.heap.objs.size+1) d ne1 es ep).toS hz s.heap.objs.size (by simp;exact ne2.symm) _ es.size 0 {s with heap:=h3} #[] _ rfl (Nat.zero_le _) ⟨Nat.zero_le _,⟨_,k2 _ _ (Nat.succ_ne_self _) pI,rfl,rfl⟩,x2.at_ λo e=>k2 d o ne2 e⟩ g2 (.nil _) λs' acc c' m e i=>?_
 refine j7 (wpAny_load e ?_)
 refine j8 ?_
 have ea:acc.toList=es.toList.map (·.key):=by
   apply List.ext_getElem?
   intro j
   by_cases hj:j<es.size
   · have hj2:j<acc.size:=by rw[i.1];exact hj
     have v2:=i.2 j acc[j] (Array.getElem?_eq_getElem hj2)
     dsimp only at v2
     rw[Array.getElem?_eq_getElem hj]at v2
     rw[jz,Array.getElem?_toList,Array.getElem?_toList,Array.getElem?_eq_getElem hj2,Array.getElem?_eq_getElem hj]
     exact v2.symm
   · rw[xw (by rw[Array.length_toList,i.1];omega),xw (by rw[ja,Array.length_toList];omega)]
 rw[ea]
 refine q s' (λb o eb=>m.heap b o ?_ (k2 b o (jj (jd eb)) (pk b o eb))) m.gens m.drawn m.os
 have:=jd eb
 simp
 exact⟨jj this,jj (Nat.lt_succ_of_lt this)⟩
end
end L2
namespace L2
open PySem
def itr(m:Nat):Nat->Nat×Nat->Nat×Nat
 |0,p=>p
 |k+1,p=>itr m k (SetTable.leap m p.1 p.2)
section
variable{m:Nat}
theorem q5h(a b:Nat)(p:Nat×Nat):itr m (a+b) p=itr m b (itr m a p):=by
 induction a generalizing p with
 |zero=>rw[k9];rfl
 |succ a ih=>rw[Nat.succ_add];exact ih _
theorem qkf(k:Nat)(p:Nat×Nat):(itr m k p).2=p.2 / 32^k:=by
 induction k generalizing p with
 |zero=>simp[itr]
 | succ k ih=>
   show(itr m k (SetTable.leap m p.1 p.2)).2=_
   rw[ih,Nat.pow_succ,Nat.mul_comm,<-Nat.div_div_eq_div_mul]
   rfl
theorem qoi(k:Nat)(p:Nat×Nat)(h:p.1<=m):(itr m k p).1<=m:=by
 induction k generalizing p with
 |zero=>exact h
 |succ k ih=>exact ih _ (Nat.le_of_lt_succ (Nat.mod_lt _ (Nat.succ_pos m)))
def o5(m:Nat):Nat->Nat×Nat->List (Nat×Nat)
 |0,_=>[]
 |n+1,p=>p::o5 m n (SetTable.leap m p.1 p.2)
theorem qnm{n:Nat}{p q:Nat×Nat}(h:q∈o5 m n p):∃k,k<n/\itr m k p=q:=by
 induction n generalizing p with
 |zero=>cases h
 | succ n ih=>
   rcases List.mem_cons.mp h with rfl|h
   · exact⟨0,Nat.succ_pos _,rfl⟩
   · obtain⟨k,h1,h2⟩:=ih h
     exact⟨k+1,Nat.succ_lt_succ h1,h2⟩
def Full(m:Nat):Prop:=(∀e,e<=m->∃k,k<=m/\itr m k (0,0)=(e,0))/\itr m (m+1) (0,0)=(0,0)
theorem q6v(h:((List.range (m+1)).all λe=>(o5 m (m+1) (0,0)).contains (e,0))=true)(h2:itr m (m+1) (0,0)=(0,0)):Full m:=by
 refine⟨λe he=>?_,h2⟩
 have:=List.all_eq_true.mp h e (List.mem_range.mpr (Nat.lt_succ_of_le he))
 obtain⟨k,h1,h3⟩:=qnm (List.contains_iff_mem.mp this)
 exact⟨k,Nat.le_of_lt_succ h1,h3⟩
theorem qql:Full 7:=q6v (by decide+kernel) (by decide+kernel)
theorem qox:Full 31:=q6v (by decide+kernel) (by decide+kernel)
theorem qkq:Full 127:=q6v (by decide+kernel) (by decide+kernel)
theorem qkp:Full 511:=q6v (by decide+kernel) (by decide+kernel)
theorem reach(F:Full m){i pt e:Nat}(hi:i<=m)(hp:pt<2^64)(he:e<=m):∃k,k<=m+13/\(itr m k (i,pt)).1=e:=by
 have h2:=qkf (m:=m) 13 (i,pt)
 rw[show pt / 32^13=0 from Nat.div_eq_of_lt (jt hp (by decide))]at h2
 have h1:=qoi (m:=m) 13 (i,pt) hi
 obtain⟨a,ha,ea⟩:=F.1 _ h1
 obtain⟨b,hb,eb⟩:=F.1 e he
 have e0:itr m 13 (i,pt)=itr m a (0,0):=by rw[ea];exact Prod.ext rfl h2
 by_cases q:a<=b
 · refine⟨13+(b-a),by omega,?_⟩
   rw[q5h,e0,<-q5h,show a+(b-a)=b by omega,eb]
 · refine⟨13+(m+1-a+b),by omega,?_⟩
   rw[q5h,e0,<-q5h,show a+(m+1-a+b)=(m+1)+b by omega,q5h,F.2,eb]
theorem qhz:∀{l l':List Nat},l.Nodup->(∀x∈l,x∈l')->l.length<=l'.length
 |[],_,_,_=>Nat.zero_le _
 | a::l,l',nd,h=>by
   have ha:=h a jg
   have:=qhz (l:=l) (l':=l'.erase a) (List.nodup_cons.mp nd).2 λx hx=>(List.mem_erase_of_ne λz=>(List.nodup_cons.mp nd).1 (by rw[<-z];exact hx)).mpr (h x (jk _ hx))
   rw[List.length_erase_of_mem ha]at this
   have:=List.length_pos_of_mem ha
   rw[jo]
   omega
end
section
variable{t:SetTable}
theorem q46(hd:t.dummies=#[])(j:Nat):t.slot j=.empty∨∃i,t.slot j=.live i/\i<t.place.size/\j∈t.place.toList:=by
 unfold SetTable.slot
 dsimp only
 split
 · rename_i h
   rw[beq_iff_eq]at h
   obtain⟨h1,h2⟩:=Array.getElem?_eq_some_iff.mp h
   exact .inr ⟨_,rfl,h1,by rw[<-h2];exact Array.getElem_mem_toList h1⟩
 · rw[if_neg]
   · exact .inl rfl
   · rw[hd]
     unfold SetTable.has
     simp
theorem qbw(hd:t.dummies=#[])(hm:t.place.size<=t.mask):∃e,e<=t.mask/\t.slot e=.empty:=by
 apply Classical.byContradiction
 intro n
 have:=qhz (l:=List.range (t.mask+1)) (l':=t.place.toList) List.nodup_range λx hx=>by
   rcases q46 hd x with h|⟨_,_,_,h⟩
   · exact absurd ⟨x,Nat.le_of_lt_succ (List.mem_range.mp hx),h⟩ n
   · exact h
 rw[List.length_range,Array.length_toList]at this
 omega
variable{ha:Nat->Int}{h:Int}
theorem qot(hd:t.dummies=#[])(hh:∀i,i<t.place.size->(ha i==h)=false)(i pt f:Nat):∀(k j:Nat),(∃j',SetTable.probe.go t ha h (k+1+f) ⟨j,k,i,pt,none⟩=some (.empty j' none))∨
   (SetTable.probe.go t ha h (k+1+f) ⟨j,k,i,pt,none⟩=SetTable.probe.go t ha h f ⟨(SetTable.leap t.mask i pt).1,SetTable.runEnd t.mask (SetTable.leap t.mask i pt).1-(SetTable.leap t.mask i pt).1,(SetTable.leap t.mask i pt).1,(SetTable.leap t.mask i pt).2,none⟩):=by
 intro k
 induction k with
 | zero=>
   intro j
   rw[show 0+1+f=f+1 by omega,SetTable.probe.go.eq_def]
   dsimp only
   rcases q46 hd j with q|⟨n,q,hn,_⟩
   · rw[q];exact .inl ⟨_,rfl⟩
   · rw[q]
     dsimp only
     rw[hh n hn,if_neg (by decide)]
     exact .inr rfl
 | succ k ih=>
   intro j
   rw[show k+1+1+f=(k+1+f)+1 by omega,SetTable.probe.go.eq_def]
   dsimp only
   rcases q46 hd j with q|⟨n,q,hn,_⟩
   · rw[q];exact .inl ⟨_,rfl⟩
   · rw[q]
     dsimp only
     rw[hh n hn,if_neg (by decide)]
     have ea:t.advance ⟨j,k+1,i,pt,none⟩=⟨j+1,k,i,pt,none⟩:=by
       unfold SetTable.advance
       rw[if_pos (Nat.succ_pos _)]
       rfl
     rw[ea]
     exact ih (j+1)
theorem qcd(m i:Nat):SetTable.runEnd m i-i<=9:=by unfold SetTable.runEnd;split<;>omega
theorem qou(hd:t.dummies=#[])(hh:∀i,i<t.place.size->(ha i==h)=false):∀(k f i pt:Nat),10*(k+1)<=f->t.slot (itr t.mask k (i,pt)).1=.empty->∃j',SetTable.probe.go t ha h f ⟨i,SetTable.runEnd t.mask i-i,i,pt,none⟩=some (.empty j' none):=by
 intro k
 induction k with
 | zero=>
   intro f i pt hf hs
   obtain⟨f',rfl⟩:∃f',f=f'+1:=⟨f-1,by omega⟩
   rw[SetTable.probe.go.eq_def]
   dsimp only
   rw[show t.slot i=.empty from hs]
   exact⟨_,rfl⟩
 | succ k ih=>
   intro f i pt hf hs
   have hr:=qcd t.mask i
   obtain⟨f',e⟩:∃f',f=(SetTable.runEnd t.mask i-i)+1+f':=⟨f-(SetTable.runEnd t.mask i-i)-1,by omega⟩
   rw[e]
   rcases qot hd hh i pt f' (SetTable.runEnd t.mask i-i) i with r|r
   · exact r
   · rw[r]
     exact ih f' _ _ (by omega) hs
theorem qes(h:Int):SetTable.bits h<2^64:=by unfold SetTable.bits;omega
theorem qfk(F:Full t.mask)(hd:t.dummies=#[])(hm:t.place.size<=t.mask)(hh:∀i,i<t.place.size->(ha i==h)=false):∃j,t.probe ha h (t.probeStart h)=some (.empty j none):=by
 obtain⟨e,he,es⟩:=qbw hd hm
 have hi:SetTable.bits h % (t.mask+1)<=t.mask:=Nat.le_of_lt_succ (Nat.mod_lt _ (Nat.succ_pos _))
 obtain⟨k,hk,ek⟩:=reach F hi (qes h) he
 unfold SetTable.probe SetTable.probeStart
 exact qou hd hh k _ _ _ (by unfold SetTable.turns;omega) (by rw[ek];exact es)
end
section
variable{m:Nat}{ow:Array (Option Nat)}
theorem qkr:∀(k f i pt:Nat),k<f->(ow.getD (itr m k (i,pt)).1 (some 0)).isNone=true->∃j,SetTable.layClean.free m ow f i pt=some j/\(ow.getD j (some 0)).isNone=true:=by
 intro k
 induction k with
 | zero=>
   intro f i pt hf hs
   obtain⟨f',rfl⟩:∃f',f=f'+1:=⟨f-1,by omega⟩
   rw[SetTable.layClean.free.eq_def]
   dsimp only
   cases q:List.find? (λk=>(ow.getD (i+k) (some 0)).isNone) (List.range (SetTable.runEnd m i+1-i))with
   |some k=>exact⟨_,rfl,List.find?_some (p:=λk=>(ow.getD (i+k) (some 0)).isNone) q⟩
   | none=>
     have:=List.find?_eq_none.mp q 0 (List.mem_range.mpr (by unfold SetTable.runEnd;split<;>omega))
     exact absurd hs this
 | succ k ih=>
   intro f i pt hf hs
   obtain⟨f',rfl⟩:∃f',f=f'+1:=⟨f-1,by omega⟩
   rw[SetTable.layClean.free.eq_def]
   dsimp only
   cases q:List.find? (λk=>(ow.getD (i+k) (some 0)).isNone) (List.range (SetTable.runEnd m i+1-i))with
   |some k=>exact⟨_,rfl,List.find?_some (p:=λk=>(ow.getD (i+k) (some 0)).isNone) q⟩
   |none=>exact ih f' _ _ (by omega) hs
def OwOk(m n:Nat)(ow:Array (Option Nat)):Prop:=ow.size=m+1/\(ow.toList.filterMap id).Perm (List.range n)
theorem OwOk.gap{n:Nat}(h:OwOk m n ow)(hn:n<=m):∃e,e<=m/\(ow.getD e (some 0)).isNone=true:=by
 apply Classical.byContradiction
 intro c
 have all:∀(l:List (Option Nat)),(∀x∈l,x≠none)->(l.filterMap id).length=l.length:=by
   intro l
   induction l with
   |nil=>intro _;rfl
   | cons a l ih=>
     intro hl
     cases a with
     |none=>exact absurd rfl (hl _ jg)
     | some a=>
       show(a::l.filterMap id).length=_
       rw[jo,jo,ih λx hx=>hl x (jk _ hx)]
 have h1:=h.2.length_eq
 rw[List.length_range,all _ λx hx z=>?_,Array.length_toList,h.1]at h1
 · omega
 · obtain⟨i,hi,e⟩:=List.getElem_of_mem hx
   rw[Array.length_toList,h.1]at hi
   refine c ⟨i,by omega,?_⟩
   rw[z,Array.getElem_toList]at e
   simp[Array.getD,h.1,hi,e]
theorem OwOk.put{n j:Nat}(h:OwOk m n ow)(hj:(ow.getD j (some 0)).isNone=true):OwOk m (n+1) (ow.setIfInBounds j (some n)):=by
 refine⟨by rw[Array.size_setIfInBounds];exact h.1,?_⟩
 have lt:j<ow.toList.length:=by
   rw[Array.length_toList]
   apply Classical.byContradiction
   intro q
   rw[Array.getD_eq_getD_getElem?,Array.getElem?_eq_none (by omega)]at hj
   cases hj
 have e0:ow.toList[j]=none:=by
   rw[Array.length_toList]at lt
   rw[Array.getD_eq_getD_getElem?,Array.getElem?_eq_getElem lt]at hj
   exact Option.isNone_iff_eq_none.mp hj
 have e1:ow.toList=ow.toList.take j++none::ow.toList.drop (j+1):=by
   rw[<-e0,<-vf lt,List.take_append_drop]
 have e2:(ow.setIfInBounds j (some n)).toList=ow.toList.take j++some n::ow.toList.drop (j+1):=by
   rw[Array.toList_setIfInBounds,List.set_eq_take_append_cons_drop,if_pos lt]
 rw[e2,List.filterMap_append,List.range_succ]
 have h2:=h.2
 rw[e1,List.filterMap_append]at h2
 show(_++n::_).Perm _
 refine List.perm_middle.trans ?_
 refine(List.Perm.cons n h2).trans ?_
 exact(List.perm_append_singleton _ _).symm
theorem qo5(F:Full m)(hs:Array Int)(hz:hs.size<=m+1):∃ow,SetTable.layClean m hs=some ow/\OwOk m hs.size ow:=by
 unfold SetTable.layClean
 have main:∀(l:List Int) (ow:Array (Option Nat)) (n:Nat),OwOk m n ow->n+l.length<=m+1->∃ow',List.foldl (λ(acc:Option (Array (Option Nat)×Nat)) h=>do
       let __x <-acc
       match __x with
         | (owner,k)=>do
           let j <-
             SetTable.layClean.free m owner (SetTable.turns m) (SetTable.bits h % (m+1)) (SetTable.bits h)
           pure (owner.setIfInBounds j (some k),k+1)) (some (ow,n)) l=some (ow',n+l.length)/\OwOk m (n+l.length) ow':=by
   intro l
   induction l with
   |nil=>intro ow n h _;exact⟨ow,rfl,h⟩
   | cons h l ih=>
     intro ow n ok hl
     rw[jo]at hl
     obtain⟨e,he,ee⟩:=ok.gap (by omega)
     have hi:SetTable.bits h % (m+1)<=m:=Nat.le_of_lt_succ (Nat.mod_lt _ (Nat.succ_pos _))
     obtain⟨k,hk,ek⟩:=reach F hi (qes h) he
     obtain⟨j,ej,hj⟩:=qkr (m:=m) (ow:=ow) k (SetTable.turns m) (SetTable.bits h % (m+1)) (SetTable.bits h) (by unfold SetTable.turns;omega) (by rw[ek];exact ee)
     obtain⟨ow',e1,e2⟩:=ih _ (n+1) (ok.put hj) (by omega)
     refine⟨ow',?_,by rw[jo];rw[show n+(l.length+1)=n+1+l.length by omega];exact e2⟩
     rw[List.foldl_cons,jo,show n+(l.length+1)=n+1+l.length by omega,<-e1]
     congr 1
     show (do
           let j <-SetTable.layClean.free m ow (SetTable.turns m) (SetTable.bits h % (m+1)) (SetTable.bits h)
           pure (ow.setIfInBounds j (some n),n+1))=_
     rw[ej]
     rfl
 have ok0:OwOk m 0 (Array.replicate (m+1) none):=⟨by simp,by simp⟩
 obtain⟨ow',e1,e2⟩:=main hs.toList _ 0 ok0 (by rw[Array.length_toList];omega)
 rw[<-Array.foldl_toList,e1]
 refine⟨ow',rfl,?_⟩
 rw[k9,Array.length_toList]at e2
 exact e2
theorem qka(F:Full m){fi mv:Nat}{led pl:Bool}(hs:Array Int)(hz:hs.size<=m+1):∃pc od,SetTable.laid m fi mv led pl hs=some (⟨m,pc,#[],fi,led,mv,pl⟩,od)/\pc.size=hs.size/\od.toList.Perm (List.range hs.size):=by
 obtain⟨ow,e,h1,h2⟩:=qo5 F hs hz
 unfold SetTable.laid
 rw[e]
 refine⟨_,_,rfl,?_,?_⟩
 all_goals
   have e3:(List.filterMap (λj=>Option.map (λx=>(j,x)) (ow.getD j none)) (List.range (m+1))).map (λx=>x.2)=ow.toList.filterMap id:=by
     have e4:ow.toList=(List.range (m+1)).map λj=>ow.getD j none:=by
       apply List.ext_getElem
       · simp[h1]
       · intro i a b
         have hi:i<ow.size:=by simpa using a
         simp[Array.getD,hi]
     rw[List.map_filterMap,e4,List.filterMap_map]
     congr 1
     funext j
     show _=ow.getD j none
     cases ow.getD j none<;>rfl
 · have h3:=congrArg List.length e3
   rw[ja,h2.length_eq,List.length_range]at h3
   rw[jw,ja]
   exact h3
 · rw[List.toList_toArray,e3]
   exact h2
end
end L2
namespace L2
open PySem PyProof.Rows PySem.W
section
variable{P:Program}{w:World}{A:Around}{E:Value->Shared->Prop}{s:Shared}{a b:Addr}{ks:List Int}
theorem qqk{Q:Bool->Shared->Prop}(hk:IsTupleKey (intKind P w) s.heap ks b)(h:Q true s):wpAny (model P w) A (hashByValue 8 (.ref b)) Q E s:=by
 have hT:=IsTupleKey.typeIs hk
 obtain⟨o,its,n,ho,_,hd,hi⟩:=hk
 rw[hashByValue.eq_def]
 refine j7 (wpAny_specialOf hT F.slot_tuple_hash.lookup ?_)
 refine j7 (xu ho hd ?_)
 refine j7 ?_
 show wpAny _ _ (forIn its _ _) _ _ _
 rw[<-Array.forIn_toList]
 refine wpAny_forIn_list _ (λzk r s'=>r.1=none/\s'=s/\∃ns,PySem.ItemsAre (intKind P w) ns zk) _ ?_ ?_ _ _ ⟨rfl,rfl,ks,hi⟩
 · rintro v zk r s' ⟨hr,rfl,ns,hn⟩
   cases hn with
   | cons h1 h2=>
     rename_i k0 ks0
     obtain⟨t,rfl⟩:∃t,v=.int k0 t:=by
       cases v<;>simp_all [intKind,Value.isInt]
     rw[hashByValue.eq_def]
     refine j7 (j8 ?_)
     exact j8 ⟨rfl,rfl,_,h2⟩
 · rintro⟨r1,r2⟩ s' ⟨hr,rfl,_⟩
   dsimp only at hr
   subst hr
   exact j8 h
def maskOk(m n:Nat):Prop:=(m=7/\n<=4)∨(m=31/\n<=18)∨(m=127/\n<=76)∨(m=511/\n<=200)
theorem maskOk.full{m n:Nat}(h:maskOk m n):Full m/\n<m/\n<=200/\m % 2=1:=by
 rcases h with⟨rfl,_⟩|⟨rfl,_⟩|⟨rfl,_⟩|⟨rfl,_⟩
 · exact⟨qql,by omega,by omega,rfl⟩
 · exact⟨qox,by omega,by omega,rfl⟩
 · exact⟨qkq,by omega,by omega,rfl⟩
 · exact⟨qkp,by omega,by omega,rfl⟩
def SetT(h:Heap)(a:Addr)(hs:List Int):Prop:=∃o es ep t,h.get? a=some o/\o.ExactSet/\o.data=.set es ep t/\t.dummies=#[]/\t.place.size=es.size/\maskOk t.mask es.size/\(es.toList.map (·.1)).Perm hs
theorem q53{t:SetTable}{n:Nat}(hd:t.dummies=#[])(hp:t.place.size=n)(hm:maskOk t.mask n):t.fits n=true:=by
 unfold SetTable.fits SetTable.fill
 have:=hm.full.2.1
 rw[hd,hp]
 simp
 omega
theorem qbz{x:Value}{o:Obj}{es:Array (Int×Value)}{ep:Nat}{t:SetTable}{h:Int}{Q:SetFound->Shared->Prop}(ho:s.heap.get? a=some o)(hdt:o.data=.set es ep t)(hd:t.dummies=#[])(hp:t.place.size=es.size)(hm:maskOk t.mask es.size)(hn:∀e∈es.toList,e.1≠h)(k:∀j,Q (.free j false) s):wpAny (model P w) A (setSearch a x h true) Q E s:=by
 obtain⟨F,m1,_,m2⟩:=hm.full
 unfold setSearch
 rw[setSearchFrom.eq_def]
 refine j7 (wpAny_setState_of ho hdt (q53 hd hp hm) ?_)
 dsimp only
 rw[if_neg (by unfold SetTable.gaveWay;rw[m2];decide)]
 obtain⟨j,ej⟩:=qfk (t:=t) (h:=h) (ha:=λi=>(Option.map (λx=>x.1) es[i]?).getD 0) F hd (by omega) λi hi=>by
   rw[hp]at hi
   rw[Array.getElem?_eq_getElem hi]
   have:=hn es[i] (Array.getElem_mem_toList hi)
   simpa using this
 have e2:Option.getD (none:Option SetTable.Probe) (t.probeStart h)=t.probeStart h:=rfl
 rw[e2]
 refine xk (a:=SetFound.free j false) ?_ (k j)
 show(match t.probe (λi=>(Option.map (λx=>x.1) es[i]?).getD 0) h (t.probeStart h)with
   |some met=>_
   |x=>_)=_
 rw[ej]
theorem qe1{m n:Nat}(h:maskOk m n)(hn:n<150):(m*3<=(n+1)*5->maskOk (SetTable.sizeAbove (SetTable.grown (n+1))-1) (n+1)/\SetTable.sizeAbove (SetTable.grown (n+1))<=sizeLine)/\(¬m*3<=(n+1)*5->maskOk m (n+1)):=by
 have a1:SetTable.sizeAbove (SetTable.grown 5)=32:=by decide+kernel
 have a2:SetTable.sizeAbove (SetTable.grown 19)=128:=by decide+kernel
 have a3:SetTable.sizeAbove (SetTable.grown 77)=512:=by decide+kernel
 rcases h with⟨rfl,h⟩|⟨rfl,h⟩|⟨rfl,h⟩|⟨rfl,h⟩
 · refine⟨λq=>?_,λq=>.inl ⟨rfl,by omega⟩⟩
   have e:n+1=5:=by omega
   rw[e,a1]
   exact⟨.inr (.inl ⟨rfl,by omega⟩),by decide⟩
 · refine⟨λq=>?_,λq=>.inr (.inl ⟨rfl,by omega⟩)⟩
   have e:n+1=19:=by omega
   rw[e,a2]
   exact⟨.inr (.inr (.inl ⟨rfl,by omega⟩)),by decide⟩
 · refine⟨λq=>?_,λq=>.inr (.inr (.inl ⟨rfl,by omega⟩))⟩
   have e:n+1=77:=by omega
   rw[e,a3]
   exact⟨.inr (.inr (.inr ⟨rfl,by omega⟩)),by decide⟩
 · exact⟨λq=>by omega,λq=>.inr (.inr (.inr ⟨rfl,by omega⟩))⟩
theorem qgi{es:Array (Int×Value)}:(List.range es.size).filterMap (λi:Nat=>es[i]?)=es.toList:=by
 have:(λi:Nat=>es[i]?)=λi:Nat=>es.toList[i]? :=by funext i;simp
 rw[this,<-Array.length_toList]
 induction es.toList with
 |nil=>rfl
 | cons x l ih=>
   rw[jo,List.range_succ_eq_map,List.filterMap_cons,List.filterMap_map]
   show x::List.filterMap (λi:Nat=>l[i]?) (List.range l.length)=_
   rw[ih]
theorem qfi{o:Obj}{es:Array (Int×Value)}{ep:Nat}{t:SetTable}{wn:Nat}{Q:Unit->Shared->Prop}(ho:s.heap.get? a=some o)(hx:o.ExactSet)(hdt:o.data=.set es ep t)(hf:t.fits es.size=true)(hm:maskOk (SetTable.sizeAbove wn-1) es.size)(hw:SetTable.sizeAbove wn<=sizeLine)
   (k:∀h',Heap.SameBut a s.heap h'->SetT h' a (es.toList.map (·.1))->Q () {s with heap:=h'}):wpAny (model P w) A (setRelay a wn) Q E s:=by
 obtain⟨F,m1,m3,m2⟩:=hm.full
 obtain⟨pc,od,e1,e2,e3⟩:=qka F (fi:=t.finger) (mv:=t.movedTo (SetTable.sizeAbove wn-1)) (led:=t.led) (pl:=t.plain) (es.map (·.1)) (by rw[Array.size_map];omega)
 rw[Array.size_map]at e2 e3
 have er:t.relaid (es.map (·.1)) wn=some (⟨SetTable.sizeAbove wn-1,pc,#[],t.finger,t.led,t.movedTo (SetTable.sizeAbove wn-1),t.plain⟩,od):=e1
 generalize hes:od.filterMap (λi:Nat=>es[i]?)=es'
 have e4:es'.toList.Perm es.toList:=by
   rw[<-hes,Array.toList_filterMap,<-qgi (es:=es)]
   exact e3.filterMap _
 have e5:es'.size=es.size:=by rw[<-Array.length_toList,e4.length_eq,Array.length_toList]
 unfold setRelay
 refine j7 (wpAny_setState_of ho hdt hf ?_)
 dsimp only
 rw[if_neg (by omega)]
 refine j7 (xk (a:=(es',(⟨SetTable.sizeAbove wn-1,pc,#[],t.finger,t.led,t.movedTo (SetTable.sizeAbove wn-1),t.plain⟩:SetTable))) ?_ ?_)
 · rw[er]
   show(if((od.filterMap (λi:Nat=>es[i]?)).size !=es.size)=true then _ else pure (od.filterMap (λi:Nat=>es[i]?),_))=_
   rw[hes,e5,if_neg (by simp)]
 · refine wpAny_storeSet_of ho hdt ?_ (by rw[e5];exact jy (by omega:es.size<=200) (by decide))
   have eo:=putSet_of es' (⟨SetTable.sizeAbove wn-1,pc,#[],t.finger,t.led,t.movedTo (SetTable.sizeAbove wn-1),t.plain⟩:SetTable) hdt
   refine k _ (xn _ _ _) ⟨_,es',ep+1,_,ke _ ho (by rw[eo];rfl),?_,by rw[eo],rfl,?_,?_,e4.map _⟩
   · rw[eo];exact hx
   · rw[e2,e5]
   · rw[e5];exact hm
theorem qpn{h:Int}{hs:List Int}{Q:Bool->Shared->Prop}(hS:SetT s.heap a hs)(hn:h∉hs)(hl:hs.length<150)(hk:IsTupleKey (intKind P w) s.heap ks b)
   (k:∀h',Heap.SameBut a s.heap h'->SetT h' a (h::hs)->Q true {s with heap:=h'}):wpAny (model P w) A (setAddHashed a (.ref b) h) Q E s:=by
 obtain⟨o,es,ep,t,ho,hx,hdt,hd,hp,hm,pm⟩:=hS
 have ez:es.size=hs.length:=by rw[<-pm.length_eq,ja,Array.length_toList]
 have hf:=q53 hd hp hm
 unfold setAddHashed
 rw[setAddHashedIn.eq_def]
 refine x5 (j7 (wpAny_setState_of ho hdt hf ?_))
 dsimp only
 rw[if_neg (by unfold byScan;simp[Value.scannable])]
 refine j7 (qbz ho hdt hd hp hm (λe he z=>hn (pm.mem_iff.mp (List.mem_map.mpr ⟨e,he,z⟩))) λj=>?_)
 dsimp only
 refine j7 (wpAny_setState_of ho hdt hf ?_)
 dsimp only
 have gm:=qe1 hm (by omega)
 have tail:∀byv:Bool,wpAny (model P w) A (do
     storeSet a (SetTable.insertAt es (t.put j).2 (h,.ref b)) (if byv=true then(t.put j).1 else{(t.put j).1 with plain:=false})
     if (!false&&(if byv=true then(t.put j).1 else{(t.put j).1 with plain:=false}).tooFull)=true then do
         setRelay a (SetTable.grown (es.size+1))
         pure true
       else pure true) Q E s:=λbyv=>by
   generalize ht:(if byv=true then(t.put j).1 else{(t.put j).1 with plain:=false})=t'
   have t1:t'.mask=t.mask:=by subst ht;cases byv<;>rfl
   have t2:t'.dummies=#[]:=by
     have:(t.put j).1.dummies=#[]:=by
       unfold SetTable.put
       dsimp only
       rw[hd]
       unfold SetTable.has
       simp
     subst ht;cases byv<;>exact this
   have t3:t'.place.size=es.size+1:=by
     have:(t.put j).1.place.size=es.size+1:=by
       unfold SetTable.put
       dsimp only
       rw[<-Array.length_toList,(SetTable.insertAt_perm _ _ _).length_eq,Array.length_toList,Array.size_push,hp]
     subst ht;cases byv<;>exact this
   generalize hes:SetTable.insertAt es (t.put j).2 (h,Value.ref b)=es'
   have pe:es'.toList.Perm (es.push (h,Value.ref b)).toList:=by rw[<-hes];exact SetTable.insertAt_perm _ _ _
   have e5:es'.size=es.size+1:=by rw[<-Array.length_toList,pe.length_eq,Array.length_toList,Array.size_push]
   have pm':(es'.toList.map (·.1)).Perm (h::hs):=by
     refine(pe.map _).trans ?_
     rw[Array.toList_push,xq]
     exact(List.perm_append_singleton _ _).trans (pm.cons h)
   have eo:=putSet_of es' t' hdt
   refine j7 (wpAny_storeSet_of ho hdt ?_ (by rw[e5];exact jy (by omega:es.size+1<=200) (by decide)))
   have g1:(s.heap.update a (Obj.putSet es' t')).get? a=some (Obj.putSet es' t' o):=ke _ ho (by rw[eo];rfl)
   have x1:(Obj.putSet es' t' o).ExactSet:=by rw[eo];exact hx
   have d1:(Obj.putSet es' t' o).data=.set es' (ep+1) t':=by rw[eo]
   by_cases q:t.mask*3<=(es.size+1)*5
   · have tf:t'.tooFull=true:=by
       unfold SetTable.tooFull SetTable.fill
       rw[t1,t2,t3]
       simp
       omega
     rw[tf,if_pos (by decide)]
     obtain⟨gm1,gm2⟩:=gm.1 q
     have fit:t'.fits es'.size=true:=by
       unfold SetTable.fits SetTable.fill
       rw[t1,t2,t3,e5]
       have:=hm.full.2.1
       simp
       omega
     refine j7 (qfi g1 x1 d1 fit (by rw[e5];exact gm1) gm2 λh' sb st=>j8 ?_)
     refine k h' ⟨sb.1.trans (xn _ _ _).1,λc hc=>(sb.2 c hc).trans ((xn _ _ _).2 c hc)⟩ ?_
     obtain⟨o2,es2,ep2,t2',q1,q2,q3,q4,q5,q6,q7⟩:=st
     exact⟨o2,es2,ep2,t2',q1,q2,q3,q4,q5,q6,q7.trans pm'⟩
   · have tf:t'.tooFull=false:=by
       unfold SetTable.tooFull SetTable.fill
       rw[t1,t2,t3]
       simp
       omega
     rw[tf,if_neg (by decide)]
     exact j8 (k _ (xn _ _ _) ⟨_,es',ep+1,t',g1,x1,d1,t2,by rw[t3,e5],by rw[t1,e5];exact gm.2 q,pm'⟩)
 split
 · exact j7 (qqk hk (tail true))
 · exact j7 (j8 (tail true))
end
end L2
namespace L2
open PySem PyProof.Rows PySem.W
def q2f(ks:List Int):Int:=reduceHash (Builtin.Tuple.tupleHashOf (ks.map hashInt))
section
variable{P:Program}{w:World}{A:Around}{E:Value->Shared->Prop}{s:Shared}
theorem SetT.keep{h h':Heap}{a:Addr}{hs:List Int}(x:SetT h a hs)(k:∀o,h.get? a=some o->h'.get? a=some o):SetT h' a hs:=
 let ⟨o,es,ep,t,ho,r⟩:=x;⟨o,es,ep,t,k o ho,r⟩
theorem q6s{h h':Heap}{b:Addr}{ks:List Int}(x:IsTupleKey (intKind P w) h ks b)(k:∀o,h.get? b=some o->h'.get? b=some o):IsTupleKey (intKind P w) h' ks b:=
 let ⟨o,its,n,ho,r⟩:=x;⟨o,its,n,k o ho,r⟩
theorem qfc{I ax S:Addr}{items:Array Value}{R:Result->Shared->Prop}(hh:A.in1.handled=none)(ha:ax≠I)(SI:S≠I)(Sx:S≠ax)(key:Nat->List Int)(hn:items.size<150)(hu:A.in1.units<cLine)(hd:((List.range items.size).map λi=>q2f (key i)).Nodup):
   ∀(k i:Nat) (s:Shared),items.size-i=k->i<=items.size->s.heap.IsListIter I ax i->s.heap.IsList ax items->
     (∀j v,items[j]? =some v->∃b,v=.ref b/\b≠S/\b≠I/\IsTupleKey (intKind P w) s.heap (key j) b)->
     SetT s.heap S ((List.range i).map λi=>q2f (key i)).reverse->
     (∀s',Moved [S,I] (λa b=>b=a) s s'->SetT s'.heap S ((List.range items.size).map λi=>q2f (key i)).reverse->R (.ok (.ret .none)) s')->
     codeAny (model P w) A (.builtin "set.update.loop" {pos:=[.ref S,.ref I]}) R s:=by
 have W:=(Walks.list (prog:=P) (w:=w) hh I ax ha items).toS
 intro k
 induction k with
 | zero=>
   intro i s hk hi st sl hv hS hR
   have e:i=items.size:=by omega
   subst e
   refine kg F.entry_set_update_loop ?_
   rw[ko F.plain_set_update_loop]
   refine j7 (W.done s _ _ ⟨st,sl⟩ λs' hm=>?_)
   refine j8 (hR s' (Moved.mono hm λb hb=>jk S hb) (hS.keep λo ho=>hm.heap S o (by simpa using SI) ho))
 | succ k ih=>
   intro i s hk hi st sl hv hS hR
   have lt:i<items.size:=by omega
   refine kg F.entry_set_update_loop ?_
   rw[ko F.plain_set_update_loop]
   refine j7 (W.item i s _ _ lt ⟨st,sl⟩ λv s' hP hst hm=>?_)
   obtain⟨b,rfl,bS,bI,hb⟩:=hv i v hP
   have kp:∀c,c≠I->∀o,s.heap.get? c=some o->s'.heap.get? c=some o:=λc hc o e=>hm.heap c o (by simpa using hc) e
   have hb':=q6s hb (kp b bI)
   refine j7 (x5 (x5 (j7 ((tupleKind (intKind P w)).pyHash hu hb' ?_))))
   have hnew:q2f (key i)∉((List.range i).map λi=>q2f (key i)).reverse:=by
     rw[List.mem_reverse]
     have h2:((List.range (i+1)).map λi=>q2f (key i)).Nodup:=by
       refine List.Sublist.nodup (List.Sublist.map _ ?_) hd
       exact List.range_sublist.mpr lt
     rw[List.range_succ,xq,List.nodup_append]at h2
     exact λz=>h2.2.2 _ z _ (by simp) rfl
   refine qpn (s:={s' with toks:=s'.toks+(tupleKind (intKind P w)).draws (key i)}) (hS.keep (kp S SI)) hnew (by simp;omega) hb' λh' sb hS2=>?_
   have kp2:∀c,c≠S->∀o,s'.heap.get? c=some o->h'.get? c=some o:=λc hc o e=>(sb.2 c hc).trans e
   refine j8 ⟨ku F.plain_set_update_loop _,?_⟩
   refine ih (i+1) {s' with heap:=h',toks:=s'.toks+(tupleKind (intKind P w)).draws (key i)} (by omega) lt ?_ ?_ (λj v e=>?_) ?_ λs2 hm2 hS3=>hR s2 ?_ hS3
   · obtain⟨o,e,r⟩:=hst.1
     exact⟨o,kp2 I (Ne.symm SI) o e,r⟩
   · obtain⟨o,e,r⟩:=hst.2
     exact⟨o,kp2 ax (Ne.symm Sx) o e,r⟩
   · obtain⟨c,rfl,cS,cI,hc⟩:=hv j v e
     exact⟨c,rfl,cS,cI,q6s (q6s hc (kp c cI)) (kp2 c cS)⟩
   · rw[List.range_succ,xq,List.reverse_append]
     exact hS2
   · refine⟨λc o nc e=>hm2.heap c o nc (kp2 c (λz=>nc (by rw[z];simp)) o (kp c (λz=>nc (by rw[z];simp)) o e)),hm2.gens.trans hm.gens,hm2.drawn.trans hm.drawn,hm2.os.trans hm.os,jy hm.toks (jy (Nat.le_add_right _ _) hm2.toks)⟩
theorem qgd{S l:Addr}{items:Array Value}{led:Bool}{R:Result->Shared->Prop}(hh:A.handled=none)(hu:A.units+8<cLine)(key:Nat->List Int)(hn:items.size<150)(hd:((List.range items.size).map λi=>q2f (key i)).Nodup)(Sl:S≠l)
   (hS:s.heap.get? S=some {cls:=.type "set",data:=.set #[] 0 (SetTable.fresh 0 0 led)}) (hl:s.heap.IsList l items) (hv:∀j v,items[j]? =some v->∃b,v=.ref b/\b≠S/\IsTupleKey (intKind P w) s.heap (key j) b)
   (hR:∀s',(∀b o,b≠S->s.heap.get? b=some o->s'.heap.get? b=some o)->s'.gens=s.gens->s'.drawn=s.drawn->s'.os=s.os->SetT s'.heap S ((List.range items.size).map λi=>q2f (key i)).reverse->R (.ok (.ret .none)) s'):
   wpAny (model P w) A.in1 (Builtin.«set.__init__» {pos:=[.ref S,.ref l]}) (λfin s'=>match fin with
     |.done f=>R (.ok f) s'
     |.again c'=>c'.quiet=true/\codeAny (model P w) A c' R s') (λe s'=>R (.error e) s') s:=by
 have hT:s.TypeIs (.ref S) "set":=⟨_,hS,rfl⟩
 have hTl:s.TypeIs (.ref l) "list":=by
   obtain⟨o,e,c,_⟩:=hl
   exact⟨o,e,c⟩
 unfold Builtin.«set.__init__»
 refine j7 (wpAny_ite_true (by rfl) (j8 ?_))
 dsimp only
 refine j7 ?_
 unfold typeNameOfCut
 refine j7 ?_
 unfold shownTypeOf
 refine j7 (wpAny_typeOf hT (ka (by rfl) (j8 ?_)))
 show wpAny _ _ (pure "set") _ _ s
 refine j8 ?_
 refine j7 (xk (a:=()) (by rfl) ?_)
 refine j7 (j8 ?_)
 refine j7 ?_
 unfold setUsed
 refine j7 (wpAny_setState_of hS rfl (by rfl) (j8 ?_))
 refine ka (by rfl) ?_
 refine j7 ?_
 unfold Builtin.Frozenset.updateFrom
 refine j7 ?_
 unfold Builtin.Frozenset.isAnySet
 refine j7 (km hTl (b:=false) (by kernel_rfl) ?_)
 show wpAny _ _ (isInstance (.ref l) (.type "frozenset")) _ _ s
 refine km hTl (b:=false) (by kernel_rfl) ?_
 refine ka (by rfl) ?_
 refine j7 (wpAny_typeOf hTl ?_)
 refine ka (by rfl) ?_
 refine j7 (v9 hl ?_)
 have ltS:=jd hS
 have ltl:l<s.heap.objs.size:=by obtain⟨o,e,_⟩:=hl;exact jd e
 have pk:∀b o,s.heap.get? b=some o->(s.heap.push {cls:=.type "list_iterator",data:=.fields #[.ref l,.int 0 0]}).get? b=some o:=λb o e=>je _ e
 refine j7 (wpAny_runValue ?_)
 refine qfc (A:=A.in1) (ax:=l) (items:=items) hh (jj ltl) (jj ltS) Sl key hn (by show A.units+1+1<_;omega) hd items.size 0 _ rfl (Nat.zero_le _) ⟨_,jq _ rfl,rfl,rfl⟩ ?_ (λj v e=>?_) ?_ λs' hm hS2=>?_
 · obtain⟨o,e,r⟩:=hl
   exact⟨o,pk l o e,r⟩
 · obtain⟨b,rfl,bS,hb⟩:=hv j v e
   obtain⟨o,its,n,ho,r⟩:=hb
   exact⟨b,rfl,bS,jj (jd ho),o,its,n,pk b o ho,r⟩
 · exact⟨_,#[],0,_,pk S _ hS,⟨rfl,rfl,rfl⟩,rfl,rfl,rfl,.inl ⟨rfl,Nat.zero_le _⟩,.refl _⟩
 · refine j8 (j8 ?_)
   exact hR s' (λb o nb e=>hm.heap b o (by simp;exact⟨nb,jj (jd e)⟩) (pk b o e)) hm.gens hm.drawn hm.os hS2
def SetR(s:Shared)(hs:List Int):Result->Shared->Prop:=λr s'=>r=.ok (.ret .none)/\(∀b o,s.heap.get? b=some o->s'.heap.get? b=some o)/\s'.gens=s.gens/\s'.drawn=s.drawn/\s'.os=s.os/\SetT s'.heap s.heap.objs.size hs
theorem qh0{l:Addr}{items:Array Value}{Q:Value->Shared->Prop}(hh:A.handled=none)(hu:A.units+32<cLine)(key:Nat->List Int)(hn:items.size<150)(hd:((List.range items.size).map λi=>q2f (key i)).Nodup)
   (hl:s.heap.IsList l items) (hv:∀j v,items[j]? =some v->∃b,v=.ref b/\IsTupleKey (intKind P w) s.heap (key j) b)
   (hQ:∀s',(∀b o,s.heap.get? b=some o->s'.heap.get? b=some o)->s'.gens=s.gens->s'.drawn=s.drawn->s'.os=s.os->SetT s'.heap s.heap.objs.size ((List.range items.size).map λi=>q2f (key i)).reverse->Q (.ref s.heap.objs.size) s'):
   wpAny (model P w) A (call (.type "set") [.ref l]) Q E s:=by
 obtain⟨c,tl,hmro⟩:=F.called_set.mro
 refine wpAny_call (codeAny_of_tree ?_)
 refine xk (a:=PySem.Fin.again (.builtin "type.__call__" {pos:=[.type "set",.ref l]})) rfl ⟨Code.quiet_builtin _ (by kernel_rfl),kg F.entry_type_call ?_⟩
 rw[Around.under_plain (weight_type_call_type "set" [.ref l] []) rfl]
 unfold Builtin.«type.__call__»
 dsimp only
 refine ka (by rfl) (ka (by kernel_rfl) ?_)
 refine j7 (xk (F.typeCall_set_1 _) ?_)
 refine j7 (xk hmro (ka (by rfl) ?_))
 refine j7 (xk F.called_set.made ?_)
 refine j7 (j8 ?_)
 refine j7 (x5 (wpAny_call ?_))
 refine codeAny_mono (code_set_new_1 (E:=E) (Q₁:=λv s1=>∃led,v=.ref s.heap.objs.size/\s1={s with heap:=s.heap.push {cls:=.type "set",data:=.set #[] 0 (SetTable.fresh 0 0 led)}}) (.ref l) λled=>⟨led,rfl,rfl⟩) λr s1 h1=>?_
 cases r with
 |error e=>exact h1
 | ok f=>
   cases f with
   | ret v=>
     obtain⟨led,rfl,rfl⟩:=h1
     have hS:=jq s.heap (o:={cls:=.type "set",data:=.set #[] 0 (SetTable.fresh 0 0 led)}) rfl
     have hT:Shared.TypeIs {s with heap:=s.heap.push {cls:=.type "set",data:=.set #[] 0 (SetTable.fresh 0 0 led)}} (.ref s.heap.objs.size) "set":=⟨_,hS,rfl⟩
     have ltl:l<s.heap.objs.size:=by obtain⟨o,e,_⟩:=hl;exact jd e
     refine j7 (km hT F.called_set.sub (ka (by rfl) ?_))
     refine j7 (x5 ?_)
     unfold callSpecial?
     refine j7 (wpAny_specialOf hT F.called_set.init.lookup ?_)
     refine x5 (j7 (xk (F.called_set.init.bind _) ?_))
     refine j7 (wpAny_call ?_)
     refine codeAny_mono (R:=SetR s ((List.range items.size).map λi=>q2f (key i)).reverse) ?_ λr s' h'=>?_
     · refine codeAny_call_builtin F.called_set.init.plain F.entry_set_init ?_
       refine check_set_init_1 hT ?_
       refine qgd (A:=A.in1) (s:={s with heap:=s.heap.push {cls:=.type "set",data:=.set #[] 0 (SetTable.fresh 0 0 led)}}) (led:=led) (P:=P) (w:=w) (R:=SetR s ((List.range items.size).map λi=>q2f (key i)).reverse) hh (by show A.units+1+8<_;omega) key hn hd (Nat.ne_of_gt ltl) hS ?_ (λj v e=>?_) λs' k1 k2 k3 k4 k5=>⟨rfl,λb o e=>k1 b o (jj (jd e)) (je _ e),k2,k3,k4,k5⟩
       · obtain⟨o,e,r⟩:=hl
         exact⟨o,je _ e,r⟩
       · obtain⟨b,rfl,hb⟩:=hv j v e
         obtain⟨o,its,n,ho,r⟩:=hb
         exact⟨b,rfl,jj (jd ho),o,its,n,je _ ho,r⟩
     · obtain⟨rfl,k1,k2,k3,k4,k5⟩:=h'
       exact j8 (ka (by rfl) (j8 (hQ s' k1 k2 k3 k4 k5)))
   |_=>exact h1.elim
theorem qk1{a:Addr}{hs:List Int}{Q:Value->Shared->Prop}(hS:SetT s.heap a hs)(hl:hs.length<=200)(h:∀t t',Q (.int hs.length t) {s with toks:=t'}):wpAny (model P w) A (call (.builtin "len") [.ref a]) Q E s:=by
 obtain⟨o,es,ep,t,ho,hx,hdt,hd,hp,hm,pm⟩:=hS
 have ez:es.size=hs.length:=by rw[<-pm.length_eq,ja,Array.length_toList]
 refine call_len_set ho hx hdt (q53 hd hp hm) (by omega) ?_
 rw[ez]
 exact h _ _
end
end L2
namespace L2
open PySem PySem.Spec PyProof.Rows
inductive Pss(H:Hp):List Addr->List (Int×Int)->Prop
 |nil:Pss H [] []
 |cons {b:Addr} {bs:List Addr} {p:Int×Int} {ps:List (Int×Int)}:H b=some (.tup [.int p.1,.int p.2])->Pss H bs ps->Pss H (b::bs) (p::ps)
def rSrt(K:PySem.W.Frag):List V->Hp->VK->Prop:=λxs H Q=>∃a ps,xs=[.ref a]/\((∃bs,SqL K H a (bs.map V.ref)/\Pss H bs ps)∨∃kvs:List (List Key×V),H a=some (.dT kvs)/\kvs.map (·.1)=ps.map λp=>[.inl p.1,.inl p.2])/\(∀p∈ps,okE p)/\ps.Nodup/\ps.length<128/\
 ∀l cs qs,H l=none->Pss H cs qs->qs.Perm ps->(qs.Pairwise λx y=>enc x<enc y)->Q (.ref l) (upd H l (.lst (cs.map V.ref)))
section
variable{X:Cx}{K:PySem.W.Frag}{z4:List (Addr×Obj)}{σ:St}{H:Hp}{s:Shared}
theorem qck(I:Inv X z4 σ H s):∀{bs:List Addr} {ps:List (Int×Int)},Pss H bs ps->(∀b∈bs,∃p∈ps,Pr s.heap (.ref b) p/\H b=some (.tup [.int p.1,.int p.2]))/\bs.map (λb=>prOf s.heap (.ref b))=ps
 |[],_,.nil=>⟨λb hb=>(nomatch hb),rfl⟩
 | b::bs,_,.cons (p:=p) (ps:=ps) h t=>by
   obtain⟨h1,h2⟩:=qck I t
   have hp:Pr s.heap (.ref b) p:=by
     obtain⟨its,rv,⟨o,e,c,n,d⟩,_⟩:=I.tuple (SqT.of h)
     cases rv with
     |cons r1 rv=>
     cases rv with
     |cons r2 rv=>
     cases rv
     obtain⟨t1,rfl⟩:=r1
     obtain⟨t2,rfl⟩:=r2
     exact⟨b,o,n,t1,t2,rfl,e,c,d⟩
   refine⟨λx hx=>?_,by rw[ji,h2,q2y hp]⟩
   rcases List.mem_cons.mp hx with rfl|hx
   · exact⟨p,jg,hp,h⟩
   · obtain⟨q,hq,r⟩:=h1 x hx
     exact⟨q,jk _ hq,r⟩
theorem qhg{H:Hp}:∀{bs:List Addr} {ps:List (Int×Int)},bs.length=ps.length->(∀(i:Nat) (b:Addr) (p:Int×Int),bs[i]? =some b->ps[i]? =some p->H b=some (.tup [.int p.1,.int p.2]))->Pss H bs ps
 |[],[],_,_=>.nil
 |b::bs,p::ps,e,h=>.cons (h 0 b p rfl rfl) (qhg (Nat.succ.inj e) λi b p h1 h2=>h (i+1) b p h1 h2)
def aOf:Value->Addr
 |.ref b=>b
 |_=>0
theorem q4y:∀{bs:List Addr} {us:List Value},Vals (bs.map V.ref) us->us=bs.map Value.ref
 |[],_,.nil=>rfl
 | b::bs,_,.cons r t=>by
   cases r
   rw[ji,q4y t]
theorem q7e:∀{bs:List Addr},Vals (bs.map V.ref) (bs.map Value.ref)
 |[]=>.nil
 |b::bs=>.cons rfl q7e
theorem qbv{bs:List Addr}{ps:List (Int×Int)}{h':Heap}{tk:Nat}{Q:VK}{ws:List Value}(I:Inv X z4 σ H {s with heap:=h',toks:=tk})(pb:∀b∈bs,∃p∈ps,Pr h' (.ref b) p/\H b=some (.tup [.int p.1,.int p.2]))(pm:bs.map (λb=>prOf h' (.ref b))=ps)(hl:ps.length<128)(wp:ws.Perm (bs.map Value.ref))(up:ws.Pairwise λx y=>enc (prOf h' x)<enc (prOf h' y))
   (q:∀l cs qs,H l=none->Pss H cs qs->qs.Perm ps->(qs.Pairwise λx y=>enc x<enc y)->Q (.ref l) (upd H l (.lst (cs.map V.ref)))):EP X z4 σ Q (.ref h'.objs.size) {s with heap:=sortedHeap (h'.push (seqObj "list" (bs.map Value.ref).toArray 0)) h'.objs.size (bs.map Value.ref) ws.toArray,toks:=tk}:=by
 have ew:ws=(ws.map aOf).map Value.ref:=by
   rw[ju]
   conv=>lhs;rw[<-List.map_id ws]
   apply List.map_congr_left
   intro v hv
   obtain⟨b,_,rfl⟩:=List.mem_map.mp (wp.mem_iff.mp hv)
   rfl
 have ec:(ws.map aOf).Perm bs:=by
   have:=wp.map aOf
   rw[ju]at this
   have e2:bs.map (aOf∘Value.ref)=bs:=by
     conv=>rhs;rw[<-List.map_id bs]
     rfl
   rw[e2]at this
   exact this
 generalize hcs:ws.map aOf=cs at ew ec
 subst ew
 have lz:cs.length<128:=by rw[ec.length_eq,<-ja (λb=>prOf h' (Value.ref b)),pm];exact hl
 have ps':Pss H cs (cs.map λb=>prOf h' (.ref b)):=by
   have hm:∀b∈cs,∃p∈ps,Pr h' (.ref b) p/\H b=some (.tup [.int p.1,.int p.2]):=λb hb=>pb b (ec.mem_iff.mp hb)
   clear hcs ec wp up lz
   induction cs with
   |nil=>exact .nil
   | cons b cs ih=>
     obtain⟨p,_,h1,h2⟩:=hm b jg
     refine .cons (by show H b=some (.tup [.int (prOf h' (.ref b)).1,.int (prOf h' (.ref b)).2]);rw[q2y h1];exact h2) (ih λx hx=>hm x (jk _ hx))
 have g:(h'.push (seqObj "list" (bs.map Value.ref).toArray 0)).get? h'.objs.size=some (seqObj "list" (bs.map Value.ref).toArray 0):=jq _ rfl
 obtain⟨e,he⟩:∃e,(sortedHeap (h'.push (seqObj "list" (bs.map Value.ref).toArray 0)) h'.objs.size (bs.map Value.ref) (cs.map Value.ref).toArray).get? h'.objs.size=some (seqObj "list" (cs.map Value.ref).toArray e):=sortedHeap_at g
 refine⟨.ref h'.objs.size,upd H h'.objs.size (.lst (cs.map V.ref)),I.laid (λb u z=>?_) (jc _) ⟨by rw[ja];exact jy (Nat.le_of_lt lz) (by decide),_,e,q7e,he⟩,rfl,q _ cs _ (I.hok.fresh (jc _)) ps' (by rw[<-pm];exact ec.map _) ?_⟩
 · have lt:=jd z
   rw[sortedHeap_old (jj lt) (jt lt (by rw[size_push'];exact Nat.le_succ _))]
   exact je _ z
 · rw[List.pairwise_map]at up ⊢
   exact up
end
section
variable{X:Cx}{K:PySem.W.Frag}
theorem qar(hK:X.K=K)(hc:X.calm=true):q4h X (.builtin "sorted") (rSrt K):=by
 subst hK
 intro z4 s σ H xs us Q I r h
 obtain⟨a,ps,rfl,hcase,ok,nd,hl,q⟩:=h
 obtain⟨u,rfl,ru⟩:=vals1 r
 cases ru
 have hh:X.A.in1.handled=none:=I.ok.hd hc
 have uniq:∀{h':Heap} {bs:List Addr},bs.map (λb=>prOf h' (.ref b))=ps->(bs.map Value.ref).Pairwise λx y=>enc (prOf h' x)≠enc (prOf h' y):=λ{h' bs} e=>by
   rw[List.pairwise_map]
   have nd':=nd
   rw[<-e]at nd'
   refine List.Pairwise.imp_of_mem (λ{x y} hx hy hxy z=>?_) (List.pairwise_map.mp nd')
   exact hxy (ql8 (ok _ (by rw[<-e];exact List.mem_map.mpr ⟨x,hx,rfl⟩)) (ok _ (by rw[<-e];exact List.mem_map.mpr ⟨y,hy,rfl⟩)) z)
 rcases hcase with⟨bs,hq,hp⟩|⟨kvs,hq,hk⟩
 · obtain⟨its,rv,pl,hz⟩:=I.list hq
   have ei:=q4y rv
   subst ei
   have I1:=I.kept (h':=(s.heap.push (seqObj "list" #[] 0)).update s.heap.objs.size (Obj.mapSeq λx=>x++(bs.map Value.ref).toArray)) (t':=s.toks) λb o e=>(xy _ _ (Nat.ne_of_gt (jd e))).trans (je _ e)
   obtain⟨pb,pm⟩:=qck I1 hp
   refine q7g (G:=λs'=>s'={s with heap:=(s.heap.push (seqObj "list" #[] 0)).update s.heap.objs.size (Obj.mapSeq λx=>x++(bs.map Value.ref).toArray)}) (λk=>collect_list pl.isList (k _ rfl) (by rw[<-rv.length];exact hz)) (λs' hs v hv=>?_) (λs' hs=>by subst hs;exact uniq pm) (by rw[ja,<-ja (λb=>prOf _ (Value.ref b)),pm];exact hl) λs' hs ws wp up=>by subst hs;exact qbv I1 pb pm hl wp up q
   subst hs
   obtain⟨b,hb,rfl⟩:=List.mem_map.mp hv
   obtain⟨p,hp,h1,_⟩:=pb b hb
   exact⟨p,h1,ok p hp⟩
 · obtain⟨y,es,z,dr,al⟩:=q55 I hq
   have hz:es.size<=sizeLine:=by rw[z];obtain⟨z,_⟩:=(show ObjOk X.prog X.w H s.heap a (.dT kvs)from I.hok a _ hq);exact z
   have lk:kvs.length=ps.length:=by have:=congrArg List.length hk;simpa using this
   generalize hbs:es.toList.map (λe=>aOf e.key)=bs
   have at_k:∀(i:Nat) (p:Int×Int),ps[i]? =some p->∃b,bs[i]? =some b/\(es.toList.map (·.key))[i]? =some (.ref b)/\H b=some (.tup [.int p.1,.int p.2]):=λi p hp=>by
     have hi:i<kvs.length:=by rw[lk];exact(List.getElem?_eq_some_iff.mp hp).1
     have hkv:kvs[i]? =some kvs[i]:=jf hi
     obtain⟨b,u,h1,_,hi2,h3,_⟩:=al i _ hkv
     have e1:kvs[i].1=[.inl p.1,.inl p.2]:=by
       have:=congrArg (λl=>l[i]?) hk
       simp only[List.getElem?_map,hkv,hp,Option.map_some]at this
       exact jh this
     have e2:es.toList[i]? =some es[i]:=by rw[Array.getElem?_toList,Array.getElem?_eq_getElem hi2]
     refine⟨b,?_,?_,?_⟩
     · rw[<-hbs,jz,e2,Option.map_some,h3]
       rfl
     · rw[jz,e2,Option.map_some,h3]
     · rw[e1]at h1;exact h1
   have lb:bs.length=ps.length:=by rw[<-hbs,ja,Array.length_toList,z,lk]
   have ek:es.toList.map (·.key)=bs.map Value.ref:=by
     apply List.ext_getElem?
     intro i
     by_cases hi:i<ps.length
     · obtain⟨b,h1,h2,_⟩:=at_k i _ (jf hi)
       rw[h2,jz,h1]
       rfl
     · rw[xw (by rw[ja,Array.length_toList,z];omega),xw (by rw[ja];omega)]
   have hp:Pss H bs ps:=qhg lb λi b p h1 h2=>by
     obtain⟨b',h3,_,h4⟩:=at_k i p h2
     rw[h1]at h3
     cases h3
     exact h4
   have all:∀s',Inv X z4 σ H s'->_:=λs' I'=>qck I' hp
   refine q7g (vs:=bs.map Value.ref) (G:=Inv X z4 σ H) (λk=>q8f hh y dr hz λs' k1 k2 k3 k4=>by rw[ek];exact k s' (qa8 I ⟨k1,k2,k3,k4⟩)) (λs' hs v hv=>?_) (λs' hs=>uniq (all s' hs).2) (by rw[ja,lb];exact hl) λs' hs ws wp up=>qbv (s:=s') (h':=s'.heap) (tk:=s'.toks) hs (all s' hs).1 (all s' hs).2 hl wp up q
   obtain⟨b,hb,rfl⟩:=List.mem_map.mp hv
   obtain⟨p,hp,h1,_⟩:=(all s' hs).1 b hb
   exact⟨p,h1,ok p hp⟩
end
def prD(p:Int×Int):D:=.tup [.int p.1,.int p.2]
def prsD:List D->Option (List (Int×Int))
 |[]=>some []
 |.tup [.int i,.int j]::r=>(prsD r).map ((i,j):: ·)
 |_=>none
def prsK:List (List Key)->Option (List (Int×Int))
 |[]=>some []
 |[.inl i,.inl j]::r=>(prsK r).map ((i,j):: ·)
 |_=>none
def Srtd(ps qs:List (Int×Int)):Prop:=qs.Perm ps/\qs.Pairwise λx y=>enc x<enc y
theorem q9f:∀{l l':List (Int×Int)},l.Perm l'->(l.Pairwise λx y=>enc x<enc y)->(l'.Pairwise λx y=>enc x<enc y)->l=l'
 |[],l',p,_,_=>p.symm.eq_nil.symm
 |a::l,[],p,_,_=>absurd p.length_eq (by simp)
 | a::l,b::l',p,h,g=>by
   have e:a=b:=by
     apply Classical.byContradiction
     intro n
     have h1:=List.rel_of_pairwise_cons h (show b∈l from(List.mem_cons.mp (p.mem_iff.mpr jg)).resolve_left λz=>n z.symm)
     have h2:=List.rel_of_pairwise_cons g (show a∈l' from(List.mem_cons.mp (p.mem_iff.mp jg)).resolve_left n)
     omega
   subst e
   rw[q9f ((List.perm_cons a).mp p) (List.pairwise_cons.mp h).2 (List.pairwise_cons.mp g).2]
def CanS(ps:List (Int×Int)):Prop:=(∀p∈ps,okE p)/\ps.Nodup/\ps.length<128
def srtP(ps:List (Int×Int)):Option (List (Int×Int)):=by
 classical exact if h:CanS ps/\∃qs,Srtd ps qs then some h.2.choose else none
theorem q8p{ps qs:List (Int×Int)}(c:CanS ps)(h:Srtd ps qs):srtP ps=some qs:=by
 unfold srtP
 have z:CanS ps/\∃qs,Srtd ps qs:=⟨c,qs,h⟩
 rw[dif_pos z]
 have:=z.2.choose_spec
 rw[q9f (this.1.trans h.1.symm) this.2 h.2]
theorem q65{ps qs:List (Int×Int)}(h:srtP ps=some qs):CanS ps/\Srtd ps qs:=by
 unfold srtP at h
 split at h
 · rename_i z
   rw[<-jh h]
   exact⟨z.1,z.2.choose_spec⟩
 · cases h
def dSrt:D->Option (List D)
 |.lst ds=>((prsD ds).bind srtP).map (·.map prD)
 |.dit gs=>((prsK (gs.map (·.1))).bind srtP).map (·.map prD)
 |_=>none
def allT(H R:Hp):Hp:=λa=>match R a with
 |some o=>some o
 | none=>match H a with
   |some (.tup xs)=>some (.tup xs)
   |_=>none
theorem qh6{H R:Hp}(s:∀a o,R a=some o->H a=some o):Ext H R H (allT H R):=by
 refine⟨Same.refl _,λa o e=>by unfold allT;rw[e],λa o e=>?_,λa e=>?_⟩
 · unfold allT at e
   split at e
   · rename_i u q;cases e;exact s _ _ q
   · split at e
     · rename_i q;cases e;exact q
     · cases e
 · unfold allT at e
   split at e
   · rename_i u q;exact .inl (by rw[q];exact λz=>nomatch z)
   · split at e
     · rename_i xs q;exact .inr (.inr ⟨xs,q⟩)
     · exact absurd rfl e
theorem qpm{H R:Hp}(s:∀a o,R a=some o->H a=some o){a:Addr}{xs:List V}(h:H a=some (.tup xs)):allT H R a=some (.tup xs):=by
 unfold allT
 cases q:R a with
 |some o=>have:=s _ _ q;rw[h]at this;rw[<-this]
 |none=>dsimp only;rw[h]
section
variable{K:PySem.W.Frag}{O:List Nat}{t:TE}{fa:RhD}
theorem q6c{R:Hp}:∀{ds:List D} {vs:List V} {ps:List (Int×Int)},Rps K R vs ds->prsD ds=some ps->∃bs,vs=bs.map V.ref/\Pss R bs ps
 |[],_,ps,.nil,e=>by cases e;exact⟨[],rfl,.nil⟩
 | d::ds,_,ps,.cons r tl,e=>by
   unfold prsD at e
   split at e
   · rename_i heq;cases heq
   · rename_i i j ds' heq
     cases heq
     obtain⟨qs,e1,rfl⟩:=Option.map_eq_some_iff.mp e
     obtain⟨bs,rfl,hp⟩:=q6c tl e1
     obtain⟨a,xs,rfl,h,rx⟩:=r.isT
     cases rx with
     |cons r1 rx=>
     cases rx with
     |cons r2 rx=>
     cases rx
     obtain rfl:=r1.isI
     obtain rfl:=r2.isI
     exact⟨a::bs,rfl,.cons h hp⟩
   · cases e
theorem qcl:∀{ks:List (List Key)} {ps:List (Int×Int)},prsK ks=some ps->ks=ps.map λp=>[.inl p.1,.inl p.2]
 |[],ps,e=>by cases e;rfl
 | k::ks,ps,e=>by
   unfold prsK at e
   split at e
   · rename_i heq;cases heq
   · rename_i i j ds' heq
     cases heq
     obtain⟨qs,e1,rfl⟩:=Option.map_eq_some_iff.mp e
     rw[qcl e1]
     rfl
   · cases e
theorem qci{H R:Hp}(s:∀a o,R a=some o->H a=some o):∀{bs:List Addr} {ps:List (Int×Int)},Pss H bs ps->Rps K (allT H R) (bs.map V.ref) (ps.map prD)
 |_,_,.nil=>.nil
 |_,_,.cons h r=>.cons (.tup (qpm s h) (.cons (.int _) (.cons (.int _) .nil))) (qci s r)
theorem q9j{R:Hp}:∀{kvs:List (List Key×V)} {gs:List (List Key×D)},Rkt K R kvs gs->kvs.map (·.1)=gs.map (·.1)
 |_,_,.nil=>rfl
 |_,_,.cons r t=>by rw[ji,ji,q9j t]
theorem qhs(ha:MB K O t fa):MN K O (tCB (rSrt K) (q2x t tNil)) (q90 dSrt fa):=λZ σ H R ρ ds ρ' Q S e k=>by
 obtain⟨x,ρ1,e1,e⟩:=q02 e
 obtain⟨e2,rfl⟩:=q0b e
 refine ha Z σ H R ρ x _ _ S e1 λv H1 R1 S1 st1 r1=>?_
 have fin:∀ps qs,srtP ps=some qs->ds=qs.map prD->∀l cs qs',H1 l=none->Pss H1 cs qs'->qs'.Perm ps->(qs'.Pairwise λx y=>enc x<enc y)->Q (.ref l) (upd H1 l (.lst (cs.map V.ref))):=λps qs hs ed l cs qs' hl pss pm up=>by
   have eq:=q8p (q65 hs).1 ⟨pm,up⟩
   rw[hs]at eq
   cases eq
   have y0:=qh6 S1.sub
   have S2:=S1.ext y0
   have y:=Ext.hid (o:=.lst (cs.map V.ref)) S2.sub hl
   refine k l _ _ _ (S2.ext y) (st1.trans (y0.trans y).stp) (st1.new hl) q0h (S2.out hl) ?_
   rw[ed]
   exact qci S1.sub pss
 cases r1 with
 | @lst a xs es h r=>
   obtain⟨qs,e3,e4⟩:=Option.map_eq_some_iff.mp (show((prsD es).bind srtP).map (·.map prD)=some ds from e2)
   obtain⟨ps,e5,e6⟩:=Option.bind_eq_some_iff.mp e3
   obtain⟨bs,rfl,pss⟩:=q6c r e5
   obtain⟨⟨c1,c2,c3⟩,_⟩:=q65 e6
   exact⟨a,ps,rfl,.inl ⟨bs,h,pss⟩,c1,c2,c3,fin ps qs e6 e4.symm⟩
 | @dit a kvs gs h r=>
   obtain⟨qs,e3,e4⟩:=Option.map_eq_some_iff.mp (show((prsK (gs.map (·.1))).bind srtP).map (·.map prD)=some ds from e2)
   obtain⟨ps,e5,e6⟩:=Option.bind_eq_some_iff.mp e3
   obtain⟨⟨c1,c2,c3⟩,_⟩:=q65 e6
   exact⟨a,ps,rfl,.inr ⟨kvs,h,by rw[q9j r];exact qcl e5⟩,c1,c2,c3,fin ps qs e6 e4.symm⟩
 |_=>cases e2
end
section
variable{X:Cx}{K:PySem.W.Frag}{O:List Nat}{a:Expr}{ta:TE}{p p2 pos zm:Pos}{fe:RhD}
def LsOk(K:PySem.W.Frag)(Q:VK)(vs:List V)(H1:Hp):Prop:=∃(l:Addr) (bs:List Addr) (ps:List (Int×Int)),vs=[V.ref l]/\SqL K H1 l (bs.map V.ref)/\Pss H1 bs ps/\(ps.map λp=>q2f [p.1,p.2]).Nodup/\ps.length<128/\Q (.int ps.length) H1
def qbr(K:PySem.W.Frag)(ta:TE):TE:=λσ H Q=>ta σ H λx H1=>LsOk K Q [x] H1
def qg5(ps:List (Int×Int))(i:Nat):List Int:=[(ps.getD i (0,0)).1,(ps.getD i (0,0)).2]
theorem hashes(ps:List (Int×Int))(n:Nat)(h:n=ps.length):((List.range n).map λi=>q2f (qg5 ps i))=ps.map λp=>q2f [p.1,p.2]:=by
 subst h
 generalize q2f=T
 apply List.ext_getElem
 · simp
 · intro i h1 h2
   have hi:i<ps.length:=by simpa using h2
   simp[qg5,hi]
theorem Pss.mono{H H':Hp}(s:∀a o,H a=some o->H' a=some o):∀{bs:List Addr} {ps:List (Int×Int)},Pss H bs ps->Pss H' bs ps
 |_,_,.nil=>.nil
 |_,_,.cons h r=>.cons (s _ _ h) (Pss.mono s r)
theorem qcj{H:Hp}:∀{bs:List Addr} {ps:List (Int×Int)},Pss H bs ps->bs.length=ps.length/\∀(i:Nat) (b:Addr),bs[i]? =some b->∃p,ps[i]? =some p/\H b=some (.tup [.int p.1,.int p.2])
 |_,_,.nil=>⟨rfl,λi b e=>by simp at e⟩
 | _,_,.cons h r=>by
   obtain⟨h1,h2⟩:=qcj r
   refine⟨by rw[jo,jo,h1],λi b e=>?_⟩
   cases i with
   |zero=>cases e;exact⟨_,rfl,h⟩
   |succ i=>exact h2 i b e
theorem qcv(hK:X.K=K)(hc:X.calm=true)(hu:X.A.units+64<cLine)(hgl:Gl X "len")(hml:X.mg "len"=none)(hgs:Gl X "set")(hms:X.mg "set"=none)(ha:PE X a ta)
   (he:starEach [.Call (.Name "set" p2) [a] [] zm] X.env=(false,eval (.Call (.Name "set" p2) [a] [] zm) X.env)::starEach [] X.env:=by rfl) (hpl:(backTo pos (starEach [] X.env)).any (·.1)=false:=by rfl)
   (he2:starEach [a] X.env=(false,eval a X.env)::starEach [] X.env:=by rfl) (hpl2:(backTo zm (starEach [] X.env)).any (·.1)=false:=by rfl):
   PE X (.Call (.Name "len" p) [.Call (.Name "set" p2) [a] [] zm] [] pos) (qbr K ta):=by
 subst hK
 intro z4 s σ H Q I h
 refine kj (q42 I hgl hml (u:=.builtin "len") (by rfl) ?_)
 refine PyProof.Rows.callWith_builtin1 ?_ he hpl
 rw[he]
 show wpAny _ _ (spliced ((false,eval (.Call (.Name "set" p2) [a] [] zm) X.env)::backTo pos (starEach [] X.env))) _ _ s
 refine Calls.spliced_cons ?_
 refine kj (q42 I hgs hms (u:=.type "set") (by rfl) ?_)
 refine PyProof.Rows.callWith_type1 (thn ((q00 ha q04 he2) zm z4 s σ H (LsOk X.K Q) I h) λus s1 h1=>?_) he2 hpl2
 obtain⟨vs,H1,I1,r1,l,bs,ps,rfl,q1,pss,nd,hl,k⟩:=h1
 obtain⟨u,rfl,ru⟩:=vals1 r1
 cases(show u=Value.ref l from ru)
 obtain⟨its,rv,pl,hz⟩:=I1.list q1
 obtain⟨lb,gt⟩:=qcj pss
 have ei:=q4y rv
 subst ei
 have sz:(bs.map Value.ref).toArray.size=ps.length:=by rw[jw,ja,lb]
 have hh:X.A.handled=none:=I1.ok.hd hc
 have ek:=hashes ps _ sz
 refine qh0 (items:=(bs.map Value.ref).toArray) hh (by omega) (qg5 ps) (by rw[sz];omega) (by rw[ek];exact nd) pl.isList (λj v e=>?_) λs' k1 k2 k3 k4 k5=>?_
 · have e2:(bs.map Value.ref)[j]? =some v:=by simpa using e
   rw[jz]at e2
   cases q0:bs[j]? with
   |none=>rw[q0]at e2;cases e2
   | some b=>
     rw[q0]at e2
     cases e2
     obtain⟨p,hp,hb⟩:=gt j b q0
     refine⟨b,rfl,?_⟩
     obtain⟨its,rv,⟨o,e,c,n,d⟩,_⟩:=I1.tuple (SqT.of hb)
     cases rv with
     |cons r1 rv=>
     cases rv with
     |cons r2 rv=>
     cases rv
     obtain⟨t1,rfl⟩:=r1
     obtain⟨t2,rfl⟩:=r2
     refine⟨o,_,n,e,c,d,?_⟩
     unfold qg5
     rw[jv,hp]
     exact .cons (intKind_is _ _ _ _) (.cons (intKind_is _ _ _ _) .nil)
 · rw[ek]at k5
   have I2:=qa8 I1 ⟨k1,k2,k3,k4⟩
   refine Calls.spliced_nil ?_
   refine qk1 k5 (by rw[List.length_reverse,ja];omega) λt t'=>⟨.int ps.length,H1,I2.kept (t':=t') λb o e=>e,⟨t,by rw[List.length_reverse,ja]⟩,k⟩
def q37:D->Option D
 | .lst ds=>match prsD ds with
   |some ps=>if(ps.map λp=>q2f [p.1,p.2]).Nodup/\ps.length<128 then some (.int ps.length)else none
   |none=>none
 |_=>none
theorem qdj(h:ME K O ta fe):ME K O (qbr K ta) (mOp1 q37 fe):=λZ σ H R ρ d ρ' Q S e k=>by
 obtain⟨x,ρ1,e1,e⟩:=q02 e
 obtain⟨e3,rfl⟩:=q0b e
 refine h Z σ H R ρ x _ _ S e1 λv H1 R1 S1 st1 r1=>?_
 cases r1 with
 | @lst a xs es q r=>
   unfold q37 at e3
   dsimp only at e3
   split at e3
   · rename_i ps z
     split at e3
     · rename_i hn
       cases e3
       obtain⟨bs,rfl,pss⟩:=q6c r z
       exact⟨a,bs,ps,rfl,SqL.keepX S1.sub q,pss.mono S1.sub,hn.1,hn.2,k _ H1 R1 S1 st1 (.int _)⟩
     · cases e3
   · cases e3
 |_=>cases e3
end
section
variable{prog:Program}{w:World}{K:Type}[DecidableEq K]{knd:HeapKind prog w K}{A:Around}{E:Value->Shared->Prop}{s:Shared}
end
def SmT(H:Hp)(x y:V):Prop:=∃(a b:Addr) (kvs:List (List Key×V)) (ns:List Int),x=.ref a/\y=.ref b/\H a=some (.dT kvs)/\(∃kws:List (List Key×V),H b=some (.dT kws)/\kws.map (·.1)=kvs.map (·.1)/\kws.map (·.2)=ns.map V.int)/\kvs.map (·.2)=ns.map V.int/\∀p∈kvs,∀c∈p.1,c.isLeft=true
section
variable{X:Cx}{K:PySem.W.Frag}{z4:List (Addr×Obj)}{σ:St}{H:Hp}{s:Shared}
inductive SmL(H:Hp):List V->List V->Prop
 |nil:SmL H [] []
 |cons {x y:V} {xs ys:List V}:SmT H x y->SmL H xs ys->SmL H (x::xs) (y::ys)
theorem SmL.get{H:Hp}{xs ys:List V}(h:SmL H xs ys):xs.length=ys.length/\∀(i:Nat) (x y:V),xs[i]? =some x->ys[i]? =some y->SmT H x y:=by
 induction h with
 |nil=>exact⟨rfl,λi x y e=>by simp at e⟩
 | cons h _ ih=>
   refine⟨by rw[jo,jo,ih.1],λi x y e f=>?_⟩
   cases i with
   |zero=>simp at e f;subst e f;exact h
   |succ i=>exact ih.2 i x y (by simpa using e) (by simpa using f)
end
section
variable{K:PySem.W.Frag}{R:Hp}
end
section
variable{K:PySem.W.Frag}{O:List Nat}{td:TE}{fd:RhD}
end
mutual
def onT:D->Bool
 |.non=>true
 |.bl _=>true
 |.int _=>true
 |.str _=>true
 |.tup xs=>onTs xs
 |_=>false
def onTs:List D->Bool
 |[]=>true
 |d::r=>onT d&&onTs r
end
def tupR(R:Hp):Hp:=λa=>match R a with
 |some (.tup xs)=>some (.tup xs)
 |some (.lam p q)=>some (.lam p q)
 |_=>none
theorem q64{R:Hp}{a:Addr}{o:HO}(h:tupR R a=some o):R a=some o/\((∃xs,o=.tup xs)∨∃p q,o=.lam p q):=by
 unfold tupR at h
 split at h
 · rename_i e;cases h;exact⟨e,.inl ⟨_,rfl⟩⟩
 · rename_i e;cases h;exact⟨e,.inr ⟨_,_,rfl⟩⟩
 · cases h
theorem qm0{R:Hp}{a:Addr}{xs:List V}(h:R a=some (.tup xs)):tupR R a=some (.tup xs):=by unfold tupR;rw[h]
section
variable{K:PySem.W.Frag}{R:Hp}
theorem Rp.tups{v:V}{d:D}(h:Rp K R v d):onT d=true->Rp K (tupR R) v d:=by
 refine Rp.rec (motive_1:=λv d _=>onT d=true->Rp K (tupR R) v d) (motive_2:=λxs ds _=>onTs ds=true->Rps K (tupR R) xs ds) (motive_3:=λ_ _ _=>True) (motive_4:=λ_ _ _=>True) (motive_5:=λ_ _ _=>True) ?_ ?_ ?_ ?_ ?_ ?_ ?_ ?_ ?_ ?_ ?_ ?_ ?_ ?_ ?_ ?_ ?_ ?_ ?_ ?_ h
 · intro _;exact .non
 · intro b _;exact .bl b
 · intro i _;exact .int i
 · intro x _;exact .str x
 · intro a xs ds _ _ _ e;cases e
 · intro a xs ds h _ r e
   rw[onT]at e
   exact .tup (qm0 h) (r e)
 · intro a C dx x fs gs _ _ _ _ e;cases e
 · intro a kvs gs _ _ _ e;cases e
 · intro a kvs gs _ _ _ e;cases e
 · intro a C x _ _ _ e;cases e
 · intro l x _ e;cases e
 · intro P pos q _ e;cases e
 · intro _;exact .nil
 · intro x xs d ds _ _ h r e
   rw[onTs,Bool.and_eq_true]at e
   exact .cons (h e.1) (r e.2)
 · trivial
 · intros;trivial
 · trivial
 · intros;trivial
 · trivial
 · intros;trivial
theorem Rps.tups:∀{vs:List V} {ds:List D},Rps K R vs ds->onTs ds=true->Rps K (tupR R) vs ds
 |_,_,.nil,_=>.nil
 | _,_,.cons r t,e=>by
   rw[onTs,Bool.and_eq_true]at e
   exact .cons (r.tups e.1) (Rps.tups t e.2)
end
section
variable{K:PySem.W.Frag}
theorem qf9{H R:Hp}{n:Nat}{Nms:List Str}{vs:List V}{ds:List D}(sub:∀a o,R a=some o->H a=some o)(hn:vs.length=n)(hl:ds.length=n)(r:Rps K R vs ds):StR K ⟨H,R,λ_=>False,[]⟩ [] (start Nms vs) H R (ds.map some++List.replicate (Nms.length-n) none):=by
 refine⟨sub,?_,λi d _ q=>?_,λi hi=>(nomatch hi),λi j hi=>(nomatch hi),λa o q _=>q,Same.refl _,λa q=>.inl q,λa q=>.refl q,λi hi=>(nomatch hi),λi hi=>(nomatch hi)⟩
 · unfold start
   rw[jr,jr,ja,ja,kc,kc,hn,hl]
 · obtain⟨v,h1,h2⟩:=r.get (q52 q)
   exact⟨v,q51 h1,h2⟩
theorem StR.toExt{H R H' R':Hp}{O:List Nat}{σ:St}{ρ:Rho}(S:StR K ⟨H,R,λ_=>False,[]⟩ O σ H' R' ρ):Ext H R H' R':=⟨λa o q=>S.ah a o q (λz=>z),S.ar,S.sub,S.an⟩
end
theorem Same.none{H H':Hp}(s:Same H H'){a:Addr}(h:H' a=none):H a=none:=by
 cases q:H a with
 |none=>rfl
 |some o=>rw[s a o q]at h;cases h
section
variable{K:PySem.W.Frag}{P:Addr}{lp:Pos}{qq:Str}
end
section
variable{K:PySem.W.Frag}{Z:Anc}{i j q:Nat}{σ:St}{H R H' R':Hp}{ρ ρ':Rho}
theorem StR.whole(S:StR K Z [] σ H R ρ):StR K ⟨H,H,λ_=>False,[]⟩ [] σ H H ρ:=
 ⟨λ_ _ z=>z,S.len,λj d hj z=>by
   obtain⟨v,h1,h2⟩:=S.env j d hj z
   exact⟨v,h1,h2.mono S.sub⟩,λi hi=>(nomatch hi),λi j hi _=>(nomatch hi),λ_ _ z _=>z,Same.refl _,λ_ z=>.inl z,λ_ z=>.refl z,λi hi _=>(nomatch hi),λi hi _=>(nomatch hi)⟩
theorem StR.lend{v:V}{d:D}(S:StR K Z [] σ H R ρ)(e:σ[j]? =some (some v))(r:Rp K R v d):StR K Z [] σ H R (ρ.set j (some d)):=
 ⟨S.sub,by rw[xg];exact S.len,λk d' hk z=>by
   by_cases q:j=k
   · subst q
     have hl:j<ρ.length:=by rw[<-S.len];exact(List.getElem?_eq_some_iff.mp e).1
     rw[x6 hl]at z
     cases z
     exact⟨v,e,r⟩
   · rw[jm q]at z
     exact S.env k d' hk z,λi hi=>(nomatch hi),λi j hi _=>(nomatch hi),S.ah,S.ar,S.an,S.ad,λi hi _=>(nomatch hi),λi hi _=>(nomatch hi)⟩
def k99:List Key:=[.inl 9,.inl 9]
end
def spO(K:PySem.W.Frag)(n:Nat)(f:List D->Option D):Sp:=λvs H Q _=>vs.length=n/\∃R ds d,(∀a o,R a=some o->H a=some o)/\Rps K R vs ds/\f ds=some d/\(d=.non->∀H' R',Ext H R H' R'->Q .non H')/\
 ∀es,d=.lst es->∀l us H' R',Ext H R H' R'->H l=none->H' l=some (.lst us)->R' l=none->Rps K R' us es->Q (.ref l) H'
def onNx(f:RhO):Prop:=∀ρ o,f ρ=some o->∃ρ',o=.nx ρ'
theorem qby{i:Nat}{f:RhD}:onNx (sSet i f):=λρ o e=>by
 unfold sSet at e
 split at e
 · cases e
 · cases e;exact⟨_,rfl⟩
section
variable{K:PySem.W.Frag}{H R:Hp}
theorem qfa{n:Nat}{Nms:List Str}{t1 t2 t3:TS}{f1 f2 f3:RhO}{tt:TT}{ft:RhB}{te:TE}{fn:RhL}{vs:List V}{Q:VK}{E:XK}{X:St->Hp->Prop}(h1:MS ⟨K,false,[],[]⟩ [] [] t1 f1)(h2:MS ⟨K,false,[],[]⟩ [] [] t2 f2)(h3:MS ⟨K,false,[],[]⟩ [] [] t3 f3)(n1:onNx f1)(n2:onNx f2)(n3:onNx f3)(ht:MT K [] tt ft)(hn:MN K [] te fn)
   (h:spO K n (runP false n Nms.length (sSeq f1 (sSeq f2 (sSeq f3 (sRet (mIf ft (mOf fn) (mRet .non))))))) vs H Q E):(tSeq t1 (tSeq t2 (tSeq t3 (tRet (tIf tt te (tC .non)))))) {nx:=X,rt:=Q} (start Nms vs) H:=by
 obtain⟨hn',R,ds,d,sub,r,e,k1,k2⟩:=h
 unfold runP at e
 split at e
 · rename_i hl
   have S:=qf9 (Nms:=Nms) sub hn' hl r
   generalize ds.map some++List.replicate (Nms.length-n) none=ρ0 at e S
   unfold sSeq at e
   cases e1:f1 ρ0 with
   |none=>rw[e1]at e;cases e
   | some o1=>
     obtain⟨ρ1,rfl⟩:=n1 _ _ e1
     rw[e1]at e
     dsimp only at e
     cases e2:f2 ρ1 with
     |none=>rw[e2]at e;cases e
     | some o2=>
       obtain⟨ρ2,rfl⟩:=n2 _ _ e2
       rw[e2]at e
       dsimp only at e
       cases e3:f3 ρ2 with
       |none=>rw[e3]at e;cases e
       | some o3=>
         obtain⟨ρ3,rfl⟩:=n3 _ _ e3
         rw[e3]at e
         dsimp only at e
         refine h1 _ _ _ _ _ _ (.nx ρ1) rfl S e1 λσ1 H1 R1 S1 s1=>?_
         refine h2 _ _ _ _ _ _ (.nx ρ2) rfl S1 e2 λσ2 H2 R2 S2 s2=>?_
         refine h3 _ _ _ _ _ _ (.nx ρ3) rfl S2 e3 λσ3 H3 R3 S3 s3=>?_
         unfold sRet at e
         cases e4:(mIf ft (mOf fn) (mRet D.non)) ρ3 with
         |none=>rw[e4]at e;cases e
         | some p=>
           rw[e4]at e
           dsimp only at e
           cases e
           obtain⟨c,ρ4,e5,e6⟩:=q02 e4
           refine ht _ _ _ _ _ c _ _ S3 e5 λH4 R4 S4 st4=>?_
           cases c with
           | true=>
             obtain⟨es,ρ5,e7,e8⟩:=q02 (show q11 fn (λds=>mRet (D.lst ds)) ρ4=some p from e6)
             cases e8
             refine iteT (hn _ _ _ _ _ es _ _ S4 e7 λl us H5 R5 S5 st5 a1 a2 a3 a4=>?_)
             have x4:=S4.toExt
             exact k2 es rfl l us H5 R5 S5.toExt (x4.h.none a1) a2 a3 a4
           | false=>
             cases(show mRet D.non ρ4=some p from e6)
             exact iteF (k1 rfl H4 R4 S4.toExt)
 · cases e
end
section
variable{K:PySem.W.Frag}{Z:Anc}{i j:Nat}{σ:St}{H R:Hp}{ρ:Rho}
theorem qa5{tt:TT}{f:RhB}{b:Bool}{Q:Bool->Hp->Prop}{v u:V}{d g:D}(S:StR K Z [] σ H R ρ)(h:MT K [] tt f)(ai:σ[i]? =some (some v))(aj:σ[j]? =some (some u))(ri:Rp K H v d)(rj:Rp K H u g)(e:(f ((ρ.set j (some g)).set i (some d))).map (·.1)=some b)(k:∀H',Same H H'->StR K Z [] σ H' R ρ->Q b H'):tt σ H Q:=by
 cases z:f ((ρ.set j (some g)).set i (some d))with
 |none=>rw[z]at e;cases e
 | some p=>
   rw[z]at e
   have e':p=(b,p.2):=by rw[<-jh e]
   rw[e']at z
   refine h _ σ H H _ b p.2 Q ((S.whole.lend aj rj).lend ai ri) z λH' R' S' st=>?_
   have sm:Same H H':=λa o z=>st.h a o z λi hi=>(nomatch hi)
   exact k H' sm (S.ext ⟨sm,Same.refl _,λa o z=>sm _ _ (S.sub _ _ z),λ_ z=>.inl z⟩)
def t31(i j:Nat)(dq dr:D)(ft0 ft1 ft2 ft3 ft4:RhB)(ρ:Rho):Option Out:=match dq,dr with
 | .lst (x::xs),_=>if xs.length+1<sizeLine/\(ft0 ((ρ.set j (some dr)).set i (some dq))).map (·.1)=some true/\(ft1 ((ρ.set j (some dr)).set i (some dq))).map (·.1)=some false then(match ft2 ρ with
   |some (false,ρ')=>some (.nx ρ')
   |_=>none)else none
 | .non,.dit g0=>if g0.length<sizeLine/\(ft0 ((ρ.set j (some dr)).set i (some dq))).map (·.1)=some false/\(ft3 ((ρ.set j (some dr)).set i (some dq))).map (·.1)=some false then(match ft4 ρ with
   |some (false,ρ')=>some (.nx ρ')
   |_=>none)else none
 |_,_=>none
def q47(i j:Nat)(gq gr:List D->Option D)(fs1 fs2:RhL)(ft0 ft1 ft2 ft3 ft4:RhB):RhO:=λρ=>match fs1 ρ with
 | some (ds,ρ1)=>if onTs ds=true/\i<ρ1.length/\j<ρ1.length then(match gq ds with
   | some dq=>(match fs2 (ρ1.set i none)with
     | some (es,ρ2)=>if onTs es=true then(match gr es with
       |some dr=>t31 i j dq dr ft0 ft1 ft2 ft3 ft4 (ρ2.set j none)
       |none=>none)else none
     |none=>none)
   |none=>none)else none
 |none=>none
theorem qde{c:MC}{gq gr:List D->Option D}{fs1 fs2:RhL}{ft0 ft1 ft2 ft3 ft4:RhB}{ta1 ta2:TA}{tt0 tt1 tt2 tt3 tt4:TT}{tf1 tf2 tf3 tf4:TS}{E1 E2:XK}(hq:q22 1 gq)(hg:q22 1 gr)(ij:i≠j)(ha1:MA c.K [] ta1 fs1)(ha2:MA c.K [] ta2 fs2)(h0:MT c.K [] tt0 ft0)(h1:MT c.K [] tt1 ft1)(h2:MT c.K [] tt2 ft2)(h3:MT c.K [] tt3 ft3)(h4:MT c.K [] tt4 ft4):
   MS c [] [] (tSeq (tAsg (q79 (spO c.K 1 gq) [] E1 ta1) (q2u i)) (tSeq (tAsg (q79 (spP c.K false 1 gr) [] E2 ta2) (q2u j)) (tIfS tt0
     (tSeq (tIfS tt1 tf1 q5l) (tSeq (qbs (tBM c.K "list" q68 (tVar i) (q2x (tOp (rIx c.K) (tVar i) (tC (.int 0))) tNil))) (tIfS tt2 tf2 q5l)))
     (tSeq (tIfS tt3 tf3 q5l) (tSeq (qfe (tVar j) (tTup (q2x (tC (.int 9)) (q2x (tC (.int 9)) tNil))) (tC (.int 1))) (tIfS tt4 tf4 q5l)))))) (q47 i j gq gr fs1 fs2 ft0 ft1 ft2 ft3 ft4):=λZ E σ H R ρ o hP S e k=>by
 unfold q47 at e
 split at e
 · rename_i ds ρ1 ea
   split at e
   · rename_i z
     obtain⟨hT,il,jl⟩:=z
     split at e
     · rename_i dq eq
       split at e
       · rename_i es ρ2 eb
         split at e
         · rename_i hT2
           split at e
           · rename_i dr er
             refine ha1 Z σ H R ρ ds ρ1 _ S ea λvs H1 R1 S1 st1 r1=>?_
             show spO c.K 1 gq (vs++[]) H1 _ E1
             rw[List.append_nil]
             -- what follows the first call
             have zk:∀v H2,Same H1 H2->Rp c.K H2 v dq->(∀xs,dq=.lst xs->∃l us,v=.ref l/\H1 l=none/\H2 l=some (.lst us)/\us.length=xs.length)->(tSeq (tAsg (q79 (spP c.K false 1 gr) [] E2 ta2) (q2u j)) (tIfS tt0
     (tSeq (tIfS tt1 tf1 q5l) (tSeq (qbs (tBM c.K "list" q68 (tVar i) (q2x (tOp (rIx c.K) (tVar i) (tC (.int 0))) tNil))) (tIfS tt2 tf2 q5l)))
     (tSeq (tIfS tt3 tf3 q5l) (tSeq (qfe (tVar j) (tTup (q2x (tC (.int 9)) (q2x (tC (.int 9)) tNil))) (tC (.int 1))) (tIfS tt4 tf4 q5l))))) E (σ.set i (some v)) H2:=λv H2 s2 rv fr=>by
               have S2:StR c.K Z [] (σ.set i (some v)) H2 R1 (ρ1.set i none):=(S1.ext (H':=H2) (R':=R1) ⟨s2,Same.refl _,λa o h=>s2 _ _ (S1.sub _ _ h),λ_ h=>.inl h⟩).blind (λh=>nomatch h)
               have isg:(σ.set i (some v))[i]? =some (some v):=x6 (by rw[S1.len];exact il)
               refine ha2 Z _ H2 R1 _ es ρ2 _ S2 eb λus H3 R3 S3 st3 r3=>?_
               have s3:Same H2 H3:=λa o h=>st3.h a o h λi hi=>(nomatch hi)
               show spP c.K false 1 gr (us++[]) H3 _ E2
               rw[List.append_nil]
               refine⟨by rw[r3.length];exact hg es _ er,tupR R3,es,dr,λa o h=>S3.sub _ _ (q64 h).1,r3.tups hT2,er,λw H4 R4 x4 rw4=>?_⟩
               have rw4':Rp c.K R4 w dr:=rw4
               have s4:Same H3 H4:=x4.h
               have S4:StR c.K Z [] ((σ.set i (some v)).set j (some w)) H4 R3 (ρ2.set j none):=(S3.ext (H':=H4) (R':=R3) ⟨s4,Same.refl _,λa o h=>s4 _ _ (S3.sub _ _ h),λ_ h=>.inl h⟩).blind (λh=>nomatch h)
               have isg2:((σ.set i (some v)).set j (some w))[i]? =some (some v):=by rw[jm (Ne.symm ij)];exact isg
               have jsg:((σ.set i (some v)).set j (some w))[j]? =some (some w):=x6 (by rw[xg,S1.len];exact jl)
               have rvi:∀{H5},Same H4 H5->Rp c.K H5 v dq:=λs5=>rv.mono λa o h=>s5 _ _ (s4 _ _ (s3 _ _ h))
               have rwj:∀{H5},Same H4 H5->Rp c.K H5 w dr:=λs5=>rw4'.mono λa o h=>s5 _ _ (x4.s _ _ h)
               have sR:Same R R3:=st1.r.trans st3.r
               unfold t31 at e
               split at e
               · rename_i x xs
                 split at e
                 · rename_i z
                   obtain⟨z0,z1,z2⟩:=z
                   split at e
                   · rename_i ρ' e2
                     cases e
                     obtain⟨l,us',rfl,hl,hl',ln⟩:=fr _ rfl
                     refine qa5 S4 h0 isg2 jsg (rvi (Same.refl _)) (rwj (Same.refl _)) z1 λH5 s5 S5=>iteT ?_
                     refine qa5 S5 h1 isg2 jsg (rvi s5) (rwj s5) z2 λH6 s6 S6=>iteF ?_
                     have hl6:H6 l=some (.lst us'):=s6 _ _ (s5 _ _ (s4 _ _ (s3 _ _ hl')))
                     cases us' with
                     |nil=>cases ln
                     | cons u0 us'=>
                       refine⟨.ref l,isg2,.inl ⟨rfl,_,SqL.of hl6⟩,.ref l,isg2,.inl ⟨l,_,0,u0,rfl,rfl,SqL.of hl6,(by simp[atI,ixN]),?_⟩⟩
                       refine⟨l,_,u0,rfl,rfl,hl6,by rw[ln,jo];exact z0,?_⟩
                       have R3l:R3 l=none:=by
                         cases w:R3 l with
                         |none=>rfl
                         | some y=>
                           rcases st3.n l (by rw[w];exact λz=>nomatch z)with w2|w2|⟨ys,w2⟩
                           · exact absurd (S1.out hl) w2
                           · rw[hl']at w2;cases w2
                           · rw[hl']at w2;cases w2
                       have S7:=S6.put (o:=.lst (u0::us'++[u0])) R3l (λi hi=>nomatch hi) (S1.new0 hl)
                       refine h2 Z _ _ R3 _ false ρ' _ S7 e2 λH8 R8 S8 st8=>iteF ?_
                       exact k _ H8 R8 S8 (sR.trans st8.r)
                   · cases e
                 · cases e
               · rename_i g0
                 split at e
                 · rename_i z
                   obtain⟨z0,z1,z2⟩:=z
                   split at e
                   · rename_i ρ' e2
                     cases e
                     cases rw4' with
                     |@dit p kvs _ hp rk=>
                     have p3:H3 p=none:=by
                       rcases x4.n p (by rw[hp];exact λz=>nomatch z)with y|y|⟨ys,y⟩
                       · cases q:tupR R3 p with
                         |none=>exact absurd q y
                         | some o=>
                           have:=x4.r _ _ q
                           rw[hp]at this
                           rcases(q64 q).2 with⟨xs,rfl⟩|⟨a,b,rfl⟩<;>cases this
                       · exact y
                       · have:=x4.h _ _ y
                         rw[x4.s _ _ hp]at this
                         cases this
                     refine qa5 S4 h0 isg2 jsg (rvi (Same.refl _)) (rwj (Same.refl _)) z1 λH5 s5 S5=>iteF ?_
                     refine qa5 S5 h3 isg2 jsg (rvi s5) (rwj s5) z2 λH6 s6 S6=>iteF ?_
                     have hp6:H6 p=some (.dT kvs):=s6 _ _ (s5 _ _ (x4.s _ _ hp))
                     refine⟨.ref p,jsg,show 2<=sizeLine by decide,λt ht=>⟨p,_,rfl,DPut.t (k:=k99) (by rw[q0d λz=>by rw[z,ht]at hp6;cases hp6];exact hp6) q0h (by rw[rk.length];exact z0),?_⟩⟩
                     have S7:=(S6.ext (Ext.hid (o:=.tup [V.int 9,V.int 9]) S6.sub ht)).put (o:=.dT (putK kvs k99 (.int 1))) (S3.out p3) (λi hi=>nomatch hi) (S3.new0 p3)
                     refine h4 Z _ _ R3 _ false ρ' _ S7 e2 λH8 R8 S8 st8=>iteF ?_
                     exact k _ H8 R8 S8 (sR.trans st8.r)
                   · cases e
                 · cases e
               · cases e
             refine⟨by rw[r1.length];exact hq ds _ eq,tupR R1,ds,dq,λa o h=>S1.sub _ _ (q64 h).1,r1.tups hT,eq,λz H2 R2 x2=>zk .non H2 x2.h (by rw[z];exact .non) (λxs z2=>by rw[z]at z2;cases z2),λxs z l us H2 R2 x2 hl hl' lr rs=>?_⟩
             exact zk (.ref l) H2 x2.h (by rw[z];exact .lst (SqL.of hl') (rs.mono x2.s)) (λys z2=>by rw[z]at z2;cases z2;exact⟨l,us,rfl,hl,hl',rs.length⟩)
           · cases e
         · cases e
       · cases e
     · cases e
   · cases e
 · cases e
end
def anyO:D->Option (List D)
 |.lst xs=>some xs
 |.tup xs=>some xs
 |.dit gs=>some (gs.map λg=>.tup (g.1.map keyD))
 |_=>none
def qoq(K:PySem.W.Frag)(tl:TE):TI:=λσ H R=>iSeq K tl σ H R∨qkm tl σ H R
theorem qjg{X:Cx}{K:PySem.W.Frag}{tg l:Expr}{tl:TE}(h:X.K=K)(hl:PE X l tl):PI X tg l (qoq K tl):=λz4 s σ H R I q=>by
 rcases q with q|q
 · exact q1n h hl z4 s σ H R I q
 · exact q6d hl z4 s σ H R I q
def q7y(f:RhD):RhL:=q11 f λd=>q1p (anyO d)
theorem qe6{fa:RhD}{ρ:Rho}:q7y fa ρ=(fa ρ).bind λp=>(anyO p.1).map λx=>(x,p.2):=by
 unfold q7y
 rw[q0j]
 congr 1;funext p
 rw[q1e]
theorem qjx{K:PySem.W.Frag}{O:List Nat}{t:TE}{fa:RhD}(h:ME K O t fa):MI K O (qoq K t) (q7y fa):=λZ σ H R ρ ds ρ' Q S e k=>by
 obtain⟨d,ρ1,e1,e⟩:=q02 e
 obtain⟨e2,rfl⟩:=q0b e
 cases d with
 | dit gs=>
   refine .inr (q6n h Z σ H R ρ ds _ Q S ?_ k)
   unfold q80 q11 q1p
   rw[e1]
   cases e2
   rfl
 | lst xs=>
   refine .inl (q2s h Z σ H R ρ ds _ Q S ?_ k)
   unfold mSeq q11 q1p
   rw[e1]
   cases e2
   rfl
 | tup xs=>
   refine .inl (q2s h Z σ H R ρ ds _ Q S ?_ k)
   unfold mSeq q11 q1p
   rw[e1]
   cases e2
   rfl
 |_=>cases e2
section
variable{X:Cx}{tg elt ze:Expr}{ifs:List Expr}{scope:Scope}{pos:Pos}{N N0:List Str}{js:List Nat}{sc:Scope}{wi:TI}{g:TG}{tt:TT}{te:TE}
end
end L2
namespace K31
open PySem L2
local macro_rules|`(tactic|walk_at "ev")=>`(tactic|simp[runS,runP,q0j,qe9,q1e,qai,qi9,qp3,ql2,qp7,qks,qp4,qqo,qqq,qp5,ql4,qp0,qp6,qqp,ql6,qgp,qgo,ql5,qi8,qe8,qe7,qoz,q97,qp1,qi7,qe5,qkt,qkv,ql1,qp2,qku,qaj,qgl,qkw,qkx,qkz,qgk,qky,ql3,ql0,q0z,ixO,blO,lsO,qdl,rng1,rng2,zip2,inO,slO,setI,q3f,q0y,q36,dI2,dI0,dB0,dAdd,q4f,dIx,dLen,dInt,dSum,dAll,q2d,dSeq,qeh,q8d,q4e,dIsi,tyN,q27,q1u,qjp,q9u,qnk,qjq,qb3,qnj,at0,at1,at2,ixN,dEq,dNe,ql7,qgn,qgm,q6x,q89,ditO,q0u,qbc,qea,q8a,q2v,qe6,anyO, *])
local macro_rules|`(tactic|walk_at "sc")=>`(tactic|exact⟨rfl,rfl,rfl,by decide+kernel,rfl,by decide+kernel,by decide+kernel⟩)
local macro_rules|`(tactic|walk_at "lr")=>`(tactic|first|exact Or.inl rfl|exact Or.inr rfl)
def top(i:Nat):Stmt:=PySem.Challenge.pw_trellisway_k31_quiet_or_ranked.main.body.getD i (.Pass ⟨0,0,0,0⟩)
abbrev s_y0:Stmt:=top 1
theorem qpw:q0t ["reach"] ["reach"] (q05 s_y0):=by walk_at "sc"
abbrev s_y1:Stmt:=top 2
theorem qpv:q0t ["scheme"] ["scheme"] (q05 s_y1):=by walk_at "sc"
abbrev s_y2:Stmt:=top 3
theorem sc_y2:q0t ["number","left","odd"] ["number"] (q05 s_y2):=by walk_at "sc"
abbrev s_y3:Stmt:=top 4
theorem sc_y3:q0t ["scheme","room","bit","window","signs"] ["scheme","room","bit"] (q05 s_y3):=by walk_at "sc"
abbrev s_y4:Stmt:=top 5
theorem sc_y4:q0t ["scheme","number","signs","rows","row"] ["scheme","number","signs"] (q05 s_y4):=by walk_at "sc"
abbrev s_y5:Stmt:=top 7
theorem sc_y5:q0t ["scheme","found","phase"] ["scheme"] (q05 s_y5):=by walk_at "sc"
abbrev s_y6:Stmt:=top 8
theorem sc_y6:q0t ["scheme","node","phase","found","bit","led","ones"] ["scheme","node"] (q05 s_y6):=by walk_at "sc"
abbrev s_y7:Stmt:=top 9
theorem sc_y7:q0t ["scheme","found","node"] ["scheme"] (q05 s_y7):=by walk_at "sc"
abbrev s_y8:Stmt:=top 10
theorem sc_y8:q0t ["scheme","found","node","paces"] ["scheme"] (q05 s_y8):=by walk_at "sc"
abbrev s_y9:Stmt:=top 11
theorem qm8:q0t ["nodes","ranked"] ["nodes","ranked"] (q05 s_y9):=by walk_at "sc"
abbrev q8r:Stmt:=top 12
theorem sc_y10:q0t ["leads","ranked","left"] ["leads","ranked"] (q05 q8r):=by walk_at "sc"
abbrev qc9:Stmt:=top 13
theorem sc_y11:q0t ["leads","ranked","ready","node"] ["leads"] (q05 qc9):=by walk_at "sc"
abbrev qc8:Stmt:=top 14
theorem sc_y12:q0t ["scheme","leads","ranked"] ["scheme"] (q05 qc8):=by walk_at "sc"
abbrev qay:Stmt:=top 15
theorem sc_y13:q0t ["first","leads","ranked","way","node"] ["first","leads","ranked"] (q05 qay):=by walk_at "sc"
abbrev q8q:Stmt:=top 16
theorem sc_y14:q0t ["scheme","leads","ranked","left"] ["scheme"] (q05 q8q):=by walk_at "sc"
abbrev qc7:Stmt:=top 18
theorem qma:q0t ["_law_state","_law_many"] ["_law_state","_law_many"] (q05 qc7):=by walk_at "sc"
abbrev qc6:Stmt:=top 19
theorem sc_y16:q0t ["_law_state","_law_most","_law_ending","_law_reach","_law_taps","_law_rows","_law_k"] ["_law_state","_law_most","_law_ending"] (q05 qc6):=by walk_at "sc"
abbrev qc5:Stmt:=top 20
theorem sc_y17:q0t ["_law_scheme_here","_law_room","_law_bit","_law_phase","_law_shifted","_law_ones","_law_tap","_law_keeps","_law_odd"] ["_law_scheme_here","_law_room","_law_bit","_law_phase"] (q05 qc5):=by walk_at "sc"
abbrev qc4:Stmt:=top 21
theorem sc_y18:q0t ["_law_scheme_here","_law_some","_law_phase"] ["_law_scheme_here"] (q05 qc4):=by walk_at "sc"
abbrev qc3:Stmt:=top 22
theorem sc_y19:q0t ["_law_scheme_here","_law_node","_law_some","_law_bit","_law_room","_law_ones"] ["_law_scheme_here","_law_node"] (q05 qc3):=by walk_at "sc"
abbrev qax:Stmt:=top 23
theorem qm9:q0t ["_law_scheme_here","_law_node"] ["_law_scheme_here","_law_node"] (q05 qax):=by walk_at "sc"
abbrev qc2:Stmt:=top 24
theorem sc_y21:q0t ["_law_scheme_here","_law_way","_law_k"] ["_law_scheme_here","_law_way"] (q05 qc2):=by walk_at "sc"
abbrev qc1:Stmt:=top 25
theorem sc_y22:q0t ["_law_scheme_here","_law_told","_law_some","_law_node","_law_due"] ["_law_scheme_here","_law_told"] (q05 qc1):=by walk_at "sc"
abbrev qca:Stmt:=top 26
theorem sc_law:q0t ["_law_script","_law_cell","_law_state","_law_scheme_here","_law_way","_law_told"] ["_law_script"] (q05 qca):=by walk_at "sc"
structure Ad where
 f_y0:Addr
 fd_y0:FuncData
 f_y1:Addr
 fd_y1:FuncData
 f_y2:Addr
 fd_y2:FuncData
 f_y3:Addr
 fd_y3:FuncData
 f_y4:Addr
 fd_y4:FuncData
 f_y5:Addr
 fd_y5:FuncData
 f_y6:Addr
 fd_y6:FuncData
 f_y7:Addr
 fd_y7:FuncData
 f_y8:Addr
 fd_y8:FuncData
 f_y9:Addr
 fd_y9:FuncData
 f_y10:Addr
 fd_y10:FuncData
 f_y11:Addr
 fd_y11:FuncData
 f_y12:Addr
 fd_y12:FuncData
 f_y13:Addr
 fd_y13:FuncData
 f_y14:Addr
 fd_y14:FuncData
 f_y15:Addr
 fd_y15:FuncData
 f_y16:Addr
 fd_y16:FuncData
 f_y17:Addr
 fd_y17:FuncData
 f_y18:Addr
 fd_y18:FuncData
 f_y19:Addr
 fd_y19:FuncData
 f_y20:Addr
 fd_y20:FuncData
 f_y21:Addr
 fd_y21:FuncData
 f_y22:Addr
 fd_y22:FuncData
 f_law:Addr
 fd_law:FuncData
structure Txt(K:PySem.W.Frag)(mg:Str->Option Value)(a:Ad):Prop where
 F_y0:Fun K "rooms_at" "rooms_at" s_y0 a.f_y0 a.fd_y0
 B_y0:Binds K a.fd_y0 ["reach"] []
 mg_y0:mg "rooms_at"=some (.ref a.f_y0)
 kp_y0:PySem.W.keepIn K (.ref a.f_y0)=true
 F_y1:Fun K "rooms" "rooms" s_y1 a.f_y1 a.fd_y1
 B_y1:Binds K a.fd_y1 ["scheme"] []
 mg_y1:mg "rooms"=some (.ref a.f_y1)
 kp_y1:PySem.W.keepIn K (.ref a.f_y1)=true
 F_y2:Fun K "parity" "parity" s_y2 a.f_y2 a.fd_y2
 B_y2:Binds K a.fd_y2 ["number"] []
 mg_y2:mg "parity"=some (.ref a.f_y2)
 kp_y2:PySem.W.keepIn K (.ref a.f_y2)=true
 F_y3:Fun K "step" "step" s_y3 a.f_y3 a.fd_y3
 B_y3:Binds K a.fd_y3 ["scheme","room","bit"] []
 mg_y3:mg "step"=some (.ref a.f_y3)
 kp_y3:PySem.W.keepIn K (.ref a.f_y3)=true
 F_y4:Fun K "sent_at" "sent_at" s_y4 a.f_y4 a.fd_y4
 B_y4:Binds K a.fd_y4 ["scheme","number","signs"] []
 mg_y4:mg "sent_at"=some (.ref a.f_y4)
 kp_y4:PySem.W.keepIn K (.ref a.f_y4)=true
 F_y5:Fun K "nodes_of" "nodes_of" s_y5 a.f_y5 a.fd_y5
 B_y5:Binds K a.fd_y5 ["scheme"] []
 mg_y5:mg "nodes_of"=some (.ref a.f_y5)
 kp_y5:PySem.W.keepIn K (.ref a.f_y5)=true
 F_y6:Fun K "paces_from" "paces_from" s_y6 a.f_y6 a.fd_y6
 B_y6:Binds K a.fd_y6 ["scheme","node"] []
 mg_y6:mg "paces_from"=some (.ref a.f_y6)
 kp_y6:PySem.W.keepIn K (.ref a.f_y6)=true
 F_y7:Fun K "paces_of" "paces_of" s_y7 a.f_y7 a.fd_y7
 B_y7:Binds K a.fd_y7 ["scheme"] []
 mg_y7:mg "paces_of"=some (.ref a.f_y7)
 kp_y7:PySem.W.keepIn K (.ref a.f_y7)=true
 F_y8:Fun K "quiet_leads" "quiet_leads" s_y8 a.f_y8 a.fd_y8
 B_y8:Binds K a.fd_y8 ["scheme"] []
 mg_y8:mg "quiet_leads"=some (.ref a.f_y8)
 kp_y8:PySem.W.keepIn K (.ref a.f_y8)=true
 F_y9:Fun K "all_ranked" "all_ranked" s_y9 a.f_y9 a.fd_y9
 B_y9:Binds K a.fd_y9 ["nodes","ranked"] []
 mg_y9:mg "all_ranked"=some (.ref a.f_y9)
 kp_y9:PySem.W.keepIn K (.ref a.f_y9)=true
 F_y10:Fun K "ready_nodes" "ready_nodes" q8r a.f_y10 a.fd_y10
 B_y10:Binds K a.fd_y10 ["leads","ranked"] []
 mg_y10:mg "ready_nodes"=some (.ref a.f_y10)
 kp_y10:PySem.W.keepIn K (.ref a.f_y10)=true
 F_y11:Fun K "ranks_by" "ranks_by" qc9 a.f_y11 a.fd_y11
 B_y11:Binds K a.fd_y11 ["leads"] []
 mg_y11:mg "ranks_by"=some (.ref a.f_y11)
 kp_y11:PySem.W.keepIn K (.ref a.f_y11)=true
 F_y12:Fun K "ranks" "ranks" qc8 a.f_y12 a.fd_y12
 B_y12:Binds K a.fd_y12 ["scheme"] []
 mg_y12:mg "ranks"=some (.ref a.f_y12)
 kp_y12:PySem.W.keepIn K (.ref a.f_y12)=true
 F_y13:Fun K "ring_from" "ring_from" qay a.f_y13 a.fd_y13
 B_y13:Binds K a.fd_y13 ["first","leads","ranked"] []
 mg_y13:mg "ring_from"=some (.ref a.f_y13)
 kp_y13:PySem.W.keepIn K (.ref a.f_y13)=true
 F_y14:Fun K "quiet" "quiet" q8q a.f_y14 a.fd_y14
 B_y14:Binds K a.fd_y14 ["scheme"] []
 mg_y14:mg "quiet"=some (.ref a.f_y14)
 kp_y14:PySem.W.keepIn K (.ref a.f_y14)=true
 F_y15:Fun K "_law_next" "_law_next" qc7 a.f_y15 a.fd_y15
 B_y15:Binds K a.fd_y15 ["_law_state","_law_many"] []
 mg_y15:mg "_law_next"=some (.ref a.f_y15)
 kp_y15:PySem.W.keepIn K (.ref a.f_y15)=true
 F_y16:Fun K "_law_scheme" "_law_scheme" qc6 a.f_y16 a.fd_y16
 B_y16:Binds K a.fd_y16 ["_law_state","_law_most","_law_ending"] []
 mg_y16:mg "_law_scheme"=some (.ref a.f_y16)
 kp_y16:PySem.W.keepIn K (.ref a.f_y16)=true
 F_y17:Fun K "_law_led" "_law_led" qc5 a.f_y17 a.fd_y17
 B_y17:Binds K a.fd_y17 ["_law_scheme_here","_law_room","_law_bit","_law_phase"] []
 mg_y17:mg "_law_led"=some (.ref a.f_y17)
 kp_y17:PySem.W.keepIn K (.ref a.f_y17)=true
 F_y18:Fun K "_law_nodes" "_law_nodes" qc4 a.f_y18 a.fd_y18
 B_y18:Binds K a.fd_y18 ["_law_scheme_here"] []
 mg_y18:mg "_law_nodes"=some (.ref a.f_y18)
 kp_y18:PySem.W.keepIn K (.ref a.f_y18)=true
 F_y19:Fun K "_law_ways" "_law_ways" qc3 a.f_y19 a.fd_y19
 B_y19:Binds K a.fd_y19 ["_law_scheme_here","_law_node"] []
 mg_y19:mg "_law_ways"=some (.ref a.f_y19)
 kp_y19:PySem.W.keepIn K (.ref a.f_y19)=true
 F_y20:Fun K "_law_quiet" "_law_quiet" qax a.f_y20 a.fd_y20
 B_y20:Binds K a.fd_y20 ["_law_scheme_here","_law_node"] []
 mg_y20:mg "_law_quiet"=some (.ref a.f_y20)
 kp_y20:PySem.W.keepIn K (.ref a.f_y20)=true
 F_y21:Fun K "_law_ring" "_law_ring" qc2 a.f_y21 a.fd_y21
 B_y21:Binds K a.fd_y21 ["_law_scheme_here","_law_way"] []
 mg_y21:mg "_law_ring"=some (.ref a.f_y21)
 kp_y21:PySem.W.keepIn K (.ref a.f_y21)=true
 F_y22:Fun K "_law_ranked" "_law_ranked" qc1 a.f_y22 a.fd_y22
 B_y22:Binds K a.fd_y22 ["_law_scheme_here","_law_told"] []
 mg_y22:mg "_law_ranked"=some (.ref a.f_y22)
 kp_y22:PySem.W.keepIn K (.ref a.f_y22)=true
 F_law:Fun K "law" "law" qca a.f_law a.fd_law
 B_law:Binds K a.fd_law ["_law_script"] []
 mg_law:mg "law"=some (.ref a.f_law)
 kp_law:PySem.W.keepIn K (.ref a.f_law)=true
 z_all:mg "all"=none
 z_bool:mg "bool"=none
 z_dict:mg "dict"=none
 z_int:mg "int"=none
 z_isinstance:mg "isinstance"=none
 z_len:mg "len"=none
 z_list:mg "list"=none
 z_max:mg "max"=none
 z_range:mg "range"=none
 z_set:mg "set"=none
 z_sorted:mg "sorted"=none
 z_sum:mg "sum"=none
 z_tuple:mg "tuple"=none
 z_zip:mg "zip"=none
 kit_ty_NoneType_ty_bool:PySem.W.kitOne K (.type "NoneType") (.type "bool")=some false
 kit_ty_bool_ty_bool:PySem.W.kitOne K (.type "bool") (.type "bool")=some true
 kit_ty_int_ty_bool:PySem.W.kitOne K (.type "int") (.type "bool")=some false
 kit_ty_str_ty_bool:PySem.W.kitOne K (.type "str") (.type "bool")=some false
 kit_ty_list_ty_bool:PySem.W.kitOne K (.type "list") (.type "bool")=some false
 kit_ty_tuple_ty_bool:PySem.W.kitOne K (.type "tuple") (.type "bool")=some false
 kit_ty_dict_ty_bool:PySem.W.kitOne K (.type "dict") (.type "bool")=some false
 kit_ty_NoneType_ty_dict:PySem.W.kitOne K (.type "NoneType") (.type "dict")=some false
 kit_ty_bool_ty_dict:PySem.W.kitOne K (.type "bool") (.type "dict")=some false
 kit_ty_int_ty_dict:PySem.W.kitOne K (.type "int") (.type "dict")=some false
 kit_ty_str_ty_dict:PySem.W.kitOne K (.type "str") (.type "dict")=some false
 kit_ty_list_ty_dict:PySem.W.kitOne K (.type "list") (.type "dict")=some false
 kit_ty_tuple_ty_dict:PySem.W.kitOne K (.type "tuple") (.type "dict")=some false
 kit_ty_dict_ty_dict:PySem.W.kitOne K (.type "dict") (.type "dict")=some true
 kit_ty_NoneType_ty_int:PySem.W.kitOne K (.type "NoneType") (.type "int")=some false
 kit_ty_bool_ty_int:PySem.W.kitOne K (.type "bool") (.type "int")=some true
 kit_ty_int_ty_int:PySem.W.kitOne K (.type "int") (.type "int")=some true
 kit_ty_str_ty_int:PySem.W.kitOne K (.type "str") (.type "int")=some false
 kit_ty_list_ty_int:PySem.W.kitOne K (.type "list") (.type "int")=some false
 kit_ty_tuple_ty_int:PySem.W.kitOne K (.type "tuple") (.type "int")=some false
 kit_ty_dict_ty_int:PySem.W.kitOne K (.type "dict") (.type "int")=some false
 kit_ty_NoneType_ty_list:PySem.W.kitOne K (.type "NoneType") (.type "list")=some false
 kit_ty_bool_ty_list:PySem.W.kitOne K (.type "bool") (.type "list")=some false
 kit_ty_int_ty_list:PySem.W.kitOne K (.type "int") (.type "list")=some false
 kit_ty_str_ty_list:PySem.W.kitOne K (.type "str") (.type "list")=some false
 kit_ty_list_ty_list:PySem.W.kitOne K (.type "list") (.type "list")=some true
 kit_ty_tuple_ty_list:PySem.W.kitOne K (.type "tuple") (.type "list")=some false
 kit_ty_dict_ty_list:PySem.W.kitOne K (.type "dict") (.type "list")=some false
theorem qgc{K:PySem.W.Frag}{mg:Str->Option Value}{a:Ad}(T:Txt K mg a):KitB K "bool" (q27 "bool"):=q6q T.kit_ty_NoneType_ty_bool T.kit_ty_bool_ty_bool T.kit_ty_int_ty_bool T.kit_ty_str_ty_bool T.kit_ty_list_ty_bool T.kit_ty_tuple_ty_bool T.kit_ty_dict_ty_bool
theorem qgb{K:PySem.W.Frag}{mg:Str->Option Value}{a:Ad}(T:Txt K mg a):KitB K "dict" (q27 "dict"):=q6q T.kit_ty_NoneType_ty_dict T.kit_ty_bool_ty_dict T.kit_ty_int_ty_dict T.kit_ty_str_ty_dict T.kit_ty_list_ty_dict T.kit_ty_tuple_ty_dict T.kit_ty_dict_ty_dict
theorem qki{K:PySem.W.Frag}{mg:Str->Option Value}{a:Ad}(T:Txt K mg a):KitB K "int" (q27 "int"):=q6q T.kit_ty_NoneType_ty_int T.kit_ty_bool_ty_int T.kit_ty_int_ty_int T.kit_ty_str_ty_int T.kit_ty_list_ty_int T.kit_ty_tuple_ty_int T.kit_ty_dict_ty_int
theorem qga{K:PySem.W.Frag}{mg:Str->Option Value}{a:Ad}(T:Txt K mg a):KitB K "list" (q27 "list"):=q6q T.kit_ty_NoneType_ty_list T.kit_ty_bool_ty_list T.kit_ty_int_ty_list T.kit_ty_str_ty_list T.kit_ty_list_ty_list T.kit_ty_tuple_ty_list T.kit_ty_dict_ty_list
noncomputable section
variable{P:Program}{w:World}{K:PySem.W.Frag}{mg:Str->Option Value}{base:Heap}{a:Ad}
local macro_rules|`(tactic|walk_at "og")=>`(tactic|first|exact q5o|exact q5w|exact q7n|exact qd8|exact q9v|exact qhr|exact q9w|exact qd9|exact qnl|exact qhq)
local macro_rules|`(tactic|walk_at "os")=>`(tactic|first|exact qfu|exact os_eq|exact qft|exact qjj)
local macro_rules|`(tactic|walk_at "cs")=>`(tactic|first|exact qam|exact qia|exact qic|exact qib)
local macro_rules|`(tactic|walk_at "m")=>`(tactic|repeat' (first|with_reducible exact q06|with_reducible exact q2c|with_reducible exact q0o|with_reducible apply q09|with_reducible exact me_int|with_reducible refine q1q (by walk_at "og") ?_ ?_|with_reducible exact qa3|with_reducible apply q1y|with_reducible refine q1v (by walk_at "os") ?_ ?_|with_reducible apply q1c|with_reducible apply q1g|with_reducible exact q0i|with_reducible apply q7x|with_reducible apply q7u|with_reducible refine q2h (by walk_at "cs") ?_|with_reducible apply q2s|with_reducible exact q3i|with_reducible exact qhu|with_reducible exact qg0|with_reducible apply q3z|with_reducible apply q5x|with_reducible apply qa1|with_reducible apply q8v|with_reducible apply qny|with_reducible apply qfy|with_reducible exact qdh|with_reducible apply qdg|with_reducible apply qht|with_reducible apply q1j|with_reducible apply q5y|with_reducible apply q1s|with_reducible exact q4d|with_reducible apply ME.mb|exact q1l|apply q1y|decide))
section
open PySem.Spec PyProof.Rows
theorem zc1{X:Cx}{elt ze:Expr}{scope:Scope}{pos xp:Pos}{x:Str}{N0 ps:List Str}{sc:Scope}{wi:TI}{te:TE}(_S:q0t N0 ps sc)(N:List Str)(js:List Nat)(hi:PI X (.Name x xp) ze wi)(he:∀{s H C cl fp},PE (cxB X N scope s H C cl fp) elt te)(hc:X.calm=true:=by rfl)(hsc:X.env.scope=sc:=by rfl)(hN0:X.N=N0:=by rfl)(ok:q21 sc N0 N 1 js scope=true:=by decide+kernel)(hnd:N.Nodup:=by decide+kernel)(h0:N[0]? =some x:=by rfl)(hx:∀{s H C cl fp},Loc (cxB X N scope s H C cl fp).env.scope x:=by exact Or.inl rfl)(hf:∀{s H C cl fp},(cxB X N scope s H C cl fp).fn x=true∨(cxB X N scope s H C cl fp).env.scope.names.lookup x=some .local:=by first|exact .inl rfl|exact .inr rfl)(hs:∀x,foldedSetIterable ze X.env x=pure x:=by intro _;rfl):PE X (.ListComp elt [⟨.Name x xp,ze,[],0⟩] scope pos) (qbt 1 js wi (q2u 0) tYes te):=q4a hc hsc hN0 ok hi (λ_ _ _ _ _=>q0r (i:=0) hnd h0 hx hf) (q2g (by decide)) (λ_ _ _ _ _=>qcq) (λ_ _ _ _ _=>he) hs
theorem zs1{X:Cx}{elt ze:Expr}{scope:Scope}{pos xp py zy:Pos}{x y:Str}{N0 ps:List Str}{sc:Scope}{wi:TI}{te:TE}(k:Nat)(S:q0t N0 ps sc)(N:List Str)(js:List Nat)(hi:PI X (.Name x xp) ze wi)(he:∀{s H C cl fp},PE (cxB X N scope s H C cl fp) elt te)(hc:X.calm=true:=by rfl)(hsc:X.env.scope=sc:=by rfl)(hN0:X.N=N0:=by rfl)(ok:q21 sc N0 N 1 js scope=true:=by decide+kernel)(hnd:N.Nodup:=by decide+kernel)(h0:N[0]? =some x:=by rfl)(hx:∀{s H C cl fp},Loc (cxB X N scope s H C cl fp).env.scope x:=by exact Or.inl rfl)(hf:∀{s H C cl fp},(cxB X N scope s H C cl fp).fn x=true∨(cxB X N scope s H C cl fp).env.scope.names.lookup x=some .local:=by first|exact .inl rfl|exact .inr rfl)(hk:X.N[k]? =some y:=by rfl)(hy:Loc X.env.scope y:=by exact Or.inl rfl)(hsw:swapsWith (.ListComp elt [⟨.Name x xp,ze,[],0⟩] scope pos) (some (.Name y py)) zy.line X.env=pure true:=by rfl)(hs:∀x,foldedSetIterable ze X.env x=pure x:=by intro _;rfl)(hf2:X.fn y=true∨X.env.scope.names.lookup y=some .local:=by first|exact .inl rfl|exact .inr rfl):PS X (.Assign [.Name y py] (.ListComp elt [⟨.Name x xp,ze,[],0⟩] scope pos) zy) (qiq k 1 js wi (q2u 0) tYes te):=q6b hc hsc hN0 ok (hN0▸S.nd) hk hy hi (λ_ _ _ _ _=>q0r (i:=0) hnd h0 hx hf) (q2g (by decide)) (λ_ _ _ _ _=>qcq) (λ_ _ _ _ _=>he) hsw hs hf2
end
def b_y0:RhO:=
 (sRet (mOp2 dShl (mRet (.int 1)) (mVar 0)))
def f_y0:List D->Option D:=runP false 1 1 b_y0
theorem n_y0:q22 1 f_y0:=q1l
theorem qqb(T:Txt K mg a):FnOk P w K mg base CX0 1 a.f_y0 a.fd_y0 ["reach"] (spP K false 1 f_y0):=by
 refine T.F_y0.ok qpw (λ_ _ _ _ h=>h.1) (λcdv A outer s H vs Q E hr h=>?_)
 · refine⟨_,(q0a (q10 (q19 q9r q07 (pv 0)))),?_⟩
   exact q0w (O':=[]) (Nms:=["reach"]) (f:=b_y0) (by
     unfold b_y0
     exact(q1m rfl (q1q q9w me_int (q06 (i:=0))) rfl)) h
def b_y1:RhO:=
 (sRet (q0q f_y0 (q01 (mOp2 dIx (mVar 0) (mRet (.int 0))) mNil)))
def f_y1:List D->Option D:=runP false 1 1 b_y1
theorem n_y1:q22 1 f_y1:=q1l
theorem qnh(T:Txt K mg a):FnOk P w K mg base CX0 2 a.f_y1 a.fd_y1 ["scheme"] (spP K false 1 f_y1):=by
 have G_y0:=qqb (P:=P) (w:=w) (base:=base) T
 refine T.F_y1.ok qpv (λ_ _ _ _ h=>h.1) (λcdv A outer s H vs Q E hr h=>?_)
 · refine⟨_,(q0a (q10 (q0f G_y0 hr.m (by rfl) T.mg_y0 T.kp_y0 T.B_y0 .nil q18 (q00 (q1o (q0k (K:=K) rfl) (pv 0) q07) q04)))),?_⟩
   exact q0w (O':=[]) (Nms:=["scheme"]) (f:=b_y1) (by
     unfold b_y1
     refine(q1m rfl ?_ rfl)<;>walk_at "m") h
def b_y2:RhO:=
 (sSeq (sSet 1 (mVar 0))
 (sSeq (sSet 2 (mRet (.int 0)))
 (sSeq (q1a (q0c (mOp2 dGt (mVar 1) (mRet (.int 0))))
   (sSeq (sSet 2 (mOp2 dXor (mVar 2) (mOp2 dAnd (mVar 1) (mRet (.int 1)))))
 (sSet 1 (mOp2 dDiv (mVar 1) (mRet (.int 2))))) 1000)
 (sRet (mVar 2)))))
def f_y2:List D->Option D:=runP false 1 3 b_y2
theorem n_y2:q22 1 f_y2:=q1l
theorem qqa(T:Txt K mg a):FnOk P w K mg base CX0 1 a.f_y2 a.fd_y2 ["number"] (spP K false 1 f_y2):=by
 refine T.F_y2.ok sc_y2 (λ_ _ _ _ h=>h.1) (λcdv A outer s H vs Q E hr h=>?_)
 · refine⟨_,(q03 (q0l (i:=1) sc_y2.nd rfl (by walk_at "lr") (pv 0)) (q03 (q0l (i:=2) sc_y2.nd rfl (by walk_at "lr") q07) (q03 (q69 xl (q12 qb1 (pv 1) q07 (q1z _)) (q03 (q0l (i:=2) sc_y2.nd rfl (by walk_at "lr") (q19 qn6 (pv 2) (q19 q9t (pv 1) q07))) (q0a (q0l (i:=1) sc_y2.nd rfl (by walk_at "lr") (q19 qd4 (pv 1) q07))))) (q0a (q10 (pv 2)))))),?_⟩
   exact q0w (O':=[]) (Nms:=["number","left","odd"]) (f:=b_y2) (by
     unfold b_y2
     refine(q0g (O1:=[]) (q17 ?_) (q0g (O1:=[]) (q17 ?_) (q0g (O1:=[]) (q6l (O':=[]) ?_ rfl (q0g (O1:=[]) (q17 ?_) (q17 ?_))) (q1m rfl ?_ rfl))))<;>walk_at "m") h
def b_y3:RhO:=
 (sSeq (sSet 3 (mOp2 dAdd (mOp2 q4f (mRet (.int 2)) (mVar 1)) (mVar 2)))
 (sSeq (sSet 4 (mOf (q15 1 [3] none (mSeq (mOp2 dIx (mVar 0) (mRet (.int 1)))) (gSet 0) (mRet true) (q0q f_y2 (q01 (mOp2 dAnd (mVar 1) (mVar 0)) mNil)))))
 (sRet (mTup (q01 (mOp2 dMod (mVar 3) (q0q f_y1 (q01 (mVar 0) mNil))) (q01 (mOp1 q2d (mVar 4)) mNil))))))
def f_y3:List D->Option D:=runP false 3 5 b_y3
theorem n_y3:q22 3 f_y3:=q1l
theorem qq9(T:Txt K mg a):FnOk P w K mg base CX0 3 a.f_y3 a.fd_y3 ["scheme","room","bit"] (spP K false 3 f_y3):=by
 have G_y2:=qqa (P:=P) (w:=w) (base:=base) T
 have G_y1:=qnh (P:=P) (w:=w) (base:=base) T
 refine T.F_y3.ok sc_y3 (λ_ _ _ _ h=>h.1) (λcdv A outer s H vs Q E hr h=>?_)
 · refine⟨_,(q03 (q0l (i:=3) sc_y3.nd rfl (by walk_at "lr") (q19 (q2i (K:=K) rfl) (q19 (q5c (K:=K) rfl) q07 (pv 1)) (pv 2))) (q03 (zs1 4 sc_y3 ["tap","window"] [3] (q1n (K:=K) rfl (q1o (q0k (K:=K) rfl) (pv 0) q07)) (q0f G_y2 hr.m (by rfl) T.mg_y2 T.kp_y2 T.B_y2 .nil q18 (q00 (q19 q9t (pv 1) (pv 0)) q04))) (q0a (q10 (q30 (q00 (q19 q3x (pv 3) (q0f G_y1 hr.m (by rfl) T.mg_y1 T.kp_y1 T.B_y1 .nil q18 (q00 (pv 0) q04))) (q00 (q2a (q23 (K:=K) rfl) (by rfl) T.z_tuple (by rfl) (q00 (pv 4) q04)) q04))))))),?_⟩
   exact q0w (O':=[]) (Nms:=["scheme","room","bit","window","signs"]) (f:=b_y3) (by
     unfold b_y3
     refine(q0g (O1:=[]) (q17 ?_) (q0g (O1:=[]) (q5f ?_ rfl (by decide)) (q1m rfl (q7x (q09 (q1q q7n (q06 (i:=3)) (q1y n_y1 (q09 (q06 (i:=0)) q0o))) (q09 (q3c q3d (q06 (i:=4))) q0o))) rfl)))<;>walk_at "m") h
def b_y4:RhO:=
 (sSeq (sSet 3 (mOp2 dIx (mVar 0) (mRet (.int 2))))
 (sSeq (sSet 4 (mOp2 dIx (mVar 3) (mOp2 dMod (mVar 1) (mOp1 dLen (mVar 3)))))
 (sRet (mOp1 q2d (mOf (q15 2 [] none (mZip (q01 (mVar 2) (q01 (mVar 4) mNil))) (q36 2 (q0y (gSet 0) (q0y (gSet 1) q3f))) (q0c (mOp2 dEq (mVar 1) (mRet (.int 1)))) (mVar 0)))))))
def f_y4:List D->Option D:=runP false 3 5 b_y4
theorem n_y4:q22 3 f_y4:=q1l
theorem qq8(T:Txt K mg a):FnOk P w K mg base CX0 1 a.f_y4 a.fd_y4 ["scheme","number","signs"] (spP K false 3 f_y4):=by
 refine T.F_y4.ok sc_y4 (λ_ _ _ _ h=>h.1) (λcdv A outer s H vs Q E hr h=>?_)
 · refine⟨_,(q03 (q0l (i:=3) sc_y4.nd rfl (by walk_at "lr") (q1o (q0k (K:=K) rfl) (pv 0) q07)) (q03 (q0l (i:=4) sc_y4.nd rfl (by walk_at "lr") (q1o (q0k (K:=K) rfl) (pv 3) (q19 q3x (pv 1) (q13 (q1r (K:=K) rfl) (by rfl) T.z_len (by rfl) (q00 (pv 3) q04))))) (q0a (q10 (q2a (q23 (K:=K) rfl) (by rfl) T.z_tuple (by rfl) (q00 (q4a (sc:=q05 s_y4) (N0:=["scheme","number","signs","rows","row"]) rfl rfl rfl (show q21 _ _ ["sign","chosen"] 2 [] _=true by decide+kernel) (qcr (K:=K) rfl (by rfl) T.z_zip (q00 (pv 2) (q00 (pv 4) q04))) (λ_ _ _ _ _=>(q58 (K:=K) rfl rfl (q1w (q0r (i:=0) (show List.Nodup (["sign","chosen"]:List Str)from(by decide+kernel)) rfl (Or.inl rfl)) (q1w (q0r (i:=1) (show List.Nodup (["sign","chosen"]:List Str)from(by decide+kernel)) rfl (Or.inl rfl)) q57)))) (qfs (by decide) (by decide)) (λ_ _ _ _ _=>(q2z (q12 (q5v (K:=K) rfl hr.units) (pv 1) q07 (q1z _)))) (λ_ _ _ _ _=>(pv 0))) q04)))))),?_⟩
   exact q0w (O':=[]) (Nms:=["scheme","number","signs","rows","row"]) (f:=b_y4) (by
     unfold b_y4
     refine(q0g (O1:=[]) (q17 ?_) (q0g (O1:=[]) (q17 ?_) (q1m rfl (q3c q3d (q1g (q1j (bw:=none) (qht (q09 (q06 (i:=2)) (q09 (q06 (i:=4)) q0o))) (q5y (q1s (q0i (i:=0)) (q1s (q0i (i:=1)) q4d))) (q1c (q1v os_eq (q06 (i:=1)) me_int.mb)) (q06 (i:=0))))) rfl)))<;>walk_at "m") h
def b_y5:RhO:=
 (sSeq (sOwn 1 (mLst mNil))
 (sSeq (sFor (q3m (q01 (mOp1 dLen (mOp2 dIx (mVar 0) (mRet (.int 2)))) mNil)) (gSet 2)
   (sExt 1 (q15 1 [2] none (q7z (q01 (mRet (.int 1)) (q01 (q0q f_y1 (q01 (mVar 0) mNil)) mNil))) (gSet 0) (mRet true) (mTup (q01 (mVar 1) (q01 (mVar 0) mNil))))))
 (q54 1)))
def f_y5:List D->Option D:=runP true 1 3 b_y5
theorem n_y5:q22 1 f_y5:=q1l
theorem qq7(T:Txt K mg a):FnOk P w K mg base CX0 3 a.f_y5 a.fd_y5 ["scheme"] (spP K true 1 f_y5):=by
 have G_y1:=qnh (P:=P) (w:=w) (base:=base) T
 refine T.F_y5.ok sc_y5 (λ_ _ _ _ h=>h.1) (λcdv A outer s H vs Q E hr h=>?_)
 · refine⟨_,(q03 (q0l (i:=1) sc_y5.nd rfl (by walk_at "lr") (q31 q04)) (q03 (q2q xl rfl (q2j (by rfl) T.z_range (q00 (q13 (q1r (K:=K) rfl) (by rfl) T.z_len (by rfl) (q00 (q1o (q0k (K:=K) rfl) (pv 0) q07) q04)) q04)) (q0r (i:=2) sc_y5.nd rfl (by walk_at "lr")) (q0a (q49 (q8t PySem.F.plainAttrs_list PySem.F.slot_list_extend PySem.F.type_list_extend qdd (pv 1) (q00 (zc1 sc_y5 ["room","phase"] [2] (q7j (by rfl) T.z_range (q00 q07 (q00 (q0f G_y1 hr.m (by rfl) T.mg_y1 T.kp_y1 T.B_y1 .nil q18 (q00 (pv 0) q04)) q04))) (q30 (q00 (pv 1) (q00 (pv 0) q04)))) q04))))) (q0a (q10 (pv 1))))),?_⟩
   exact q0w (O':=[]) (Nms:=["scheme","found","phase"]) (f:=b_y5) (by
     unfold b_y5
     refine(q0g (O1:=[1]) (q5g ?_ rfl) (q0g (O1:=[1]) (q2r (O':=[1]) ?_ rfl (q0i (i:=2)) (qnr (by decide) (q1j (bw:=none) (q7w (q09 me_int (q09 (q1y n_y1 (q09 (q06 (i:=0)) q0o)) q0o))) (q0i (i:=0)) q3i (q7x (q09 (q06 (i:=1)) (q09 (q06 (i:=0)) q0o)))) rfl)) (q6m rfl (by first|decide|simp) rfl (by first|decide|simp))))<;>walk_at "m") h
def b_y6:RhO:=
 (sSeq (sSet 2 (mOp2 dIx (mVar 1) (mRet (.int 0))))
 (sSeq (sOwn 3 (mLst mNil))
 (sSeq (sFor (mSeq (mTup (q01 (mRet (.int 0)) (q01 (mRet (.int 1)) mNil)))) (gSet 4)
   (sSeq (sSet 5 (q0q f_y3 (q01 (mVar 0) (q01 (mOp2 dIx (mVar 1) (mRet (.int 1))) (q01 (mVar 4) mNil)))))
 (sIf (q0c (mOp2 dNe (mOp2 dIx (mVar 5) (mRet (.int 0))) (mRet (.int 0))))
   (sSeq (sSet 6 (mOp1 qbc (q0q f_y4 (q01 (mVar 0) (q01 (mVar 2) (q01 (mOp2 dIx (mVar 5) (mRet (.int 1))) mNil))))))
 (sMut q1u 3 (q01 (mTup (q01 (mVar 4) (q01 (mVar 6) (q01 (mTup (q01 (mOp2 dMod (mOp2 dAdd (mVar 2) (mRet (.int 1))) (mOp1 dLen (mOp2 dIx (mVar 0) (mRet (.int 2))))) (q01 (mOp2 dIx (mVar 5) (mRet (.int 0))) mNil))) mNil)))) mNil)))
   sNil)))
 (q54 3))))
def f_y6:List D->Option D:=runP true 2 7 b_y6
theorem n_y6:q22 2 f_y6:=q1l
theorem qq6(T:Txt K mg a):FnOk P w K mg base CX0 4 a.f_y6 a.fd_y6 ["scheme","node"] (spP K true 2 f_y6):=by
 have G_y3:=qq9 (P:=P) (w:=w) (base:=base) T
 have G_y4:=qq8 (P:=P) (w:=w) (base:=base) T
 refine T.F_y6.ok sc_y6 (λ_ _ _ _ h=>h.1) (λcdv A outer s H vs Q E hr h=>?_)
 · refine⟨_,(q03 (q0l (i:=2) sc_y6.nd rfl (by walk_at "lr") (q1o (q0k (K:=K) rfl) (pv 1) q07)) (q03 (q0l (i:=3) sc_y6.nd rfl (by walk_at "lr") (q31 q04)) (q03 (q2q xl rfl (q1n (K:=K) rfl (q30 (q00 q07 (q00 q07 q04)))) (q0r (i:=4) sc_y6.nd rfl (by walk_at "lr")) (q03 (q0l (i:=5) sc_y6.nd rfl (by walk_at "lr") (q0f G_y3 hr.m (by rfl) T.mg_y3 T.kp_y3 T.B_y3 .nil q18 (q00 (pv 0) (q00 (q1o (q0k (K:=K) rfl) (pv 1) q07) (q00 (pv 4) q04))))) (q0a (q48 (q12 (q9s (K:=K) rfl hr.units) (q1o (q0k (K:=K) rfl) (pv 5) q07) q07 (q1z _)) (q03 (q0l (i:=6) sc_y6.nd rfl (by walk_at "lr") (q13 (qeo (K:=K) rfl rfl) (by rfl) T.z_sum (by rfl) (q00 (q0f G_y4 hr.m (by rfl) T.mg_y4 T.kp_y4 T.B_y4 .nil q18 (q00 (pv 0) (q00 (pv 2) (q00 (q1o (q0k (K:=K) rfl) (pv 5) q07) q04)))) q04))) (q0a (q49 (q8t PySem.F.plainAttrs_list PySem.F.slot_list_append PySem.F.type_list_append q33 (pv 3) (q00 (q30 (q00 (pv 4) (q00 (pv 6) (q00 (q30 (q00 (q19 q3x (q19 (q2i (K:=K) rfl) (pv 2) q07) (q13 (q1r (K:=K) rfl) (by rfl) T.z_len (by rfl) (q00 (q1o (q0k (K:=K) rfl) (pv 0) q07) q04))) (q00 (q1o (q0k (K:=K) rfl) (pv 5) q07) q04))) q04)))) q04))))) q25)))) (q0a (q10 (pv 3)))))),?_⟩
   exact q0w (O':=[]) (Nms:=["scheme","node","phase","found","bit","led","ones"]) (f:=b_y6) (by
     unfold b_y6
     refine(q0g (O1:=[]) (q17 ?_) (q0g (O1:=[3]) (q5g ?_ rfl) (q0g (O1:=[3]) (q2r (O':=[3]) ?_ rfl (q0i (i:=4)) (q0g (O1:=[3]) (q17 ?_) (q7t ?_ (q0g (O1:=[3]) (q17 (q2h qld (q1y n_y4 (q09 (q06 (i:=0)) (q09 (q06 (i:=2)) (q09 (q1q q5o (q06 (i:=5)) me_int) q0o)))).mb)) (qa2 q3y (by decide) ?_ rfl)) (q4j rfl)))) (q6m rfl (by first|decide|simp) rfl (by first|decide|simp)))))<;>walk_at "m") h
def b_y7:RhO:=
 (sSeq (q67 1)
 (sSeq (sFor (mSeq (mOf (q20 f_y5 (q01 (mVar 0) mNil)))) (gSet 2)
   (q3u 1 (mOf (q20 f_y6 (q01 (mVar 0) (q01 (mVar 2) mNil)))) (mVar 2)))
 (sRet (mVar 1))))
def f_y7:List D->Option D:=runP false 1 3 b_y7
theorem n_y7:q22 1 f_y7:=q1l
theorem qq5(T:Txt K mg a):FnOk P w K mg base CX0 5 a.f_y7 a.fd_y7 ["scheme"] (spP K false 1 f_y7):=by
 have G_y5:=qq7 (P:=P) (w:=w) (base:=base) T
 have G_y6:=qq6 (P:=P) (w:=w) (base:=base) T
 refine T.F_y7.ok sc_y7 (λ_ _ _ _ h=>h.1) (λcdv A outer s H vs Q E hr h=>?_)
 · refine⟨_,(q03 (q0l (i:=1) sc_y7.nd rfl (by walk_at "lr") q6f) (q03 (q2q xl rfl (q1n (K:=K) rfl (q0f G_y5 hr.m (by rfl) T.mg_y5 T.kp_y5 T.B_y5 .nil q18 (q00 (pv 0) q04))) (q0r (i:=2) sc_y7.nd rfl (by walk_at "lr")) (q0a (q6a (q35 hr) (pv 1) (pv 2) (q0f G_y6 hr.m (by rfl) T.mg_y6 T.kp_y6 T.B_y6 .nil q18 (q00 (pv 0) (q00 (pv 2) q04))) rfl))) (q0a (q10 (pv 1))))),?_⟩
   exact q0w (O':=[]) (Nms:=["scheme","found","node"]) (f:=b_y7) (by
     unfold b_y7
     exact(q0g (O1:=[1]) (q8x rfl) (q0g (O1:=[]) (q5e (q2r (O':=[1]) (q2s (q1g (q2m n_y5 (q09 (q06 (i:=0)) q0o)))) rfl (q0i (i:=2)) (q8w (by decide) (q1g (q2m n_y6 (q09 (q06 (i:=0)) (q09 (q06 (i:=2)) q0o)))) (q06 (i:=2)) rfl)) rfl) (q1m rfl (q06 (i:=1)) rfl)))) h
def b_y8:RhO:=
 (sSeq (q67 1)
 (sSeq (sFor (q81 (q0q f_y7 (q01 (mVar 0) mNil))) (q36 2 (q0y (gSet 2) (q0y (gSet 3) q3f)))
   (q3u 1 (mOf (q15 1 [] none (mSeq (mVar 3)) (gSet 0) (q0c (mOp2 dEq (mOp2 dIx (mVar 0) (mRet (.int 1))) (mRet (.int 0)))) (mOp2 dIx (mVar 0) (mRet (.int 2))))) (mVar 2)))
 (sRet (mVar 1))))
def f_y8:List D->Option D:=runP false 1 4 b_y8
theorem n_y8:q22 1 f_y8:=q1l
theorem qjo(T:Txt K mg a):FnOk P w K mg base CX0 6 a.f_y8 a.fd_y8 ["scheme"] (spP K false 1 f_y8):=by
 have G_y7:=qq5 (P:=P) (w:=w) (base:=base) T
 refine T.F_y8.ok sc_y8 (λ_ _ _ _ h=>h.1) (λcdv A outer s H vs Q E hr h=>?_)
 · refine⟨_,(q03 (q0l (i:=1) sc_y8.nd rfl (by walk_at "lr") q6f) (q03 (q2q xl rfl (qfo (q0f G_y7 hr.m (by rfl) T.mg_y7 T.kp_y7 T.B_y7 .nil q18 (q00 (pv 0) q04))) (q58 (K:=K) rfl rfl (q1w (q0r (i:=2) sc_y8.nd rfl (by walk_at "lr")) (q1w (q0r (i:=3) sc_y8.nd rfl (by walk_at "lr")) q57))) (q0a (q6a (q35 hr) (pv 1) (pv 2) (q4a (sc:=q05 s_y8) (N0:=["scheme","found","node","paces"]) rfl rfl rfl (show q21 _ _ ["pace"] 1 [] _=true by decide+kernel) (q1n (K:=K) rfl (pv 3)) (λ_ _ _ _ _=>(q0r (i:=0) (show List.Nodup (["pace"]:List Str)from(by decide+kernel)) rfl (Or.inl rfl))) (q2g (by decide)) (λ_ _ _ _ _=>(q2z (q12 (q5v (K:=K) rfl hr.units) (q1o (q0k (K:=K) rfl) (pv 0) q07) q07 (q1z _)))) (λ_ _ _ _ _=>(q1o (q0k (K:=K) rfl) (pv 0) q07))) rfl))) (q0a (q10 (pv 1))))),?_⟩
   exact q0w (O':=[]) (Nms:=["scheme","found","node","paces"]) (f:=b_y8) (by
     unfold b_y8
     refine(q0g (O1:=[1]) (q8x rfl) (q0g (O1:=[]) (q5e (q2r (O':=[1]) (qfx (q1y n_y7 (q09 (q06 (i:=0)) q0o))) rfl (q5y (q1s (q0i (i:=2)) (q1s (q0i (i:=3)) q4d))) (q8w (by decide) ?_ ?_ rfl)) rfl) (q1m rfl ?_ rfl)))<;>walk_at "m") h
def b_y9:RhO:=
 (sRet (mOp1 dAll (mOf (q15 1 [1] none (q7y (mVar 0)) (gSet 0) (mRet true) (mOp2 (q2e false) (mVar 0) (mVar 1))))))
def f_y9:List D->Option D:=runP false 2 2 b_y9
theorem n_y9:q22 2 f_y9:=q1l
theorem qn8(T:Txt K mg a):FnOk P w K mg base CX0 1 a.f_y9 a.fd_y9 ["nodes","ranked"] (spP K false 2 f_y9):=by
 refine T.F_y9.ok qm8 (λ_ _ _ _ h=>h.1) (λcdv A outer s H vs Q E hr h=>?_)
 · refine⟨_,(q0a (q10 (q13 (qh2 (K:=K) rfl rfl) (by rfl) T.z_all (by rfl) (q00 (zc1 qm8 ["node","ranked"] [1] (qjg (K:=K) rfl (pv 0)) (qcw (qn7 (q35 hr)) (pv 0) (pv 1) (by with_unfolding_all rfl))) q04)))),?_⟩
   exact q0w (O':=[]) (Nms:=["nodes","ranked"]) (f:=b_y9) (by
     unfold b_y9
     exact(q1m rfl (q2h qic (q1g (q1j (bw:=none) (qjx (q06 (i:=0))) (q0i (i:=0)) q3i (q1v q7m (q06 (i:=0)) q2c))).mb) rfl)) h
def qln:RhO:=
 (sSeq (sSet 2 (mOf (q15 1 [1] none (q80 (mVar 0)) (gSet 0) (q0c (mOp2 (q2e true) (mVar 0) (mVar 1))) (mVar 0))))
 (q5m (q15 1 [1,0] none (mSeq (mVar 2)) (gSet 0) (q0c (q0q f_y9 (q01 (mOp2 q0u (mVar 2) (mVar 0)) (q01 (mVar 1) mNil)))) (mVar 0))))
def f_y10:List D->Option D:=runP true 2 3 qln
theorem qnq:q22 2 f_y10:=q1l
theorem qng(T:Txt K mg a):FnOk P w K mg base CX0 2 a.f_y10 a.fd_y10 ["leads","ranked"] (spP K true 2 f_y10):=by
 have G_y9:=qn8 (P:=P) (w:=w) (base:=base) T
 refine T.F_y10.ok sc_y10 (λ_ _ _ _ h=>h.1) (λcdv A outer s H vs Q E hr h=>?_)
 · refine⟨_,(q03 (q6b (k:=2) (sc:=q05 q8r) (N0:=["leads","ranked","left"]) rfl rfl rfl (show q21 _ _ ["node","ranked"] 1 [1] _=true by decide+kernel) sc_y10.nd rfl (Or.inl rfl) (q6d (pv 0)) (λ_ _ _ _ _=>(q0r (i:=0) (show List.Nodup (["node","ranked"]:List Str)from(by decide+kernel)) rfl (Or.inl rfl))) (q2g (by decide)) (λ_ _ _ _ _=>(q2z (q12 (q3w (q35 hr)) (pv 0) (pv 1) (by with_unfolding_all rfl)))) (λ_ _ _ _ _=>(pv 0))) (q0a (q10 (q4a (sc:=q05 q8r) (N0:=["leads","ranked","left"]) rfl rfl rfl (show q21 _ _ ["node","ranked","leads"] 1 [1,0] _=true by decide+kernel) (q1n (K:=K) rfl (pv 2)) (λ_ _ _ _ _=>(q0r (i:=0) (show List.Nodup (["node","ranked","leads"]:List Str)from(by decide+kernel)) rfl (Or.inl rfl))) (q2g (by decide)) (λ_ _ _ _ _=>(q2z (q3g (q0f G_y9 hr.m (by rfl) T.mg_y9 T.kp_y9 T.B_y9 .nil q18 (q00 (q32 (q35 hr) (pv 2) (pv 0) (λ_ o=>rfl)) (q00 (pv 1) q04)))))) (λ_ _ _ _ _=>(pv 0)))))),?_⟩
   exact q0w (O':=[]) (Nms:=["leads","ranked","left"]) (f:=qln) (by
     unfold qln
     exact(q0g (O1:=[]) (q5f (q1j (bw:=none) (q6n (q06 (i:=0))) (q0i (i:=0)) (q1c (q1v q7m (q06 (i:=0)) q2c)) (q06 (i:=0))) rfl (by decide)) (qdf rfl (q1j (bw:=none) (q2s (q06 (i:=2))) (q0i (i:=0)) (q5x (q1y n_y9 (q09 (q3l (q06 (i:=2)) (q06 (i:=0))) (q09 (q06 (i:=1)) q0o)))) (q06 (i:=0))) rfl))) h
def qlm:RhO:=
 (sSeq (q67 1)
 (sSeq (sSet 2 (mOf (q2n f_y10 (q01 (mVar 0) (q01 (mVar 1) mNil)))))
 (sSeq (q1a (q0c (mOp2 dGt (mOp1 dLen (mVar 2)) (mRet (.int 0))))
   (sSeq (sFor (mSeq (mVar 2)) (gSet 3)
   (q3u 1 (mOp2 dAdd (mRet (.int 1)) (mOp1 (q2v (-1)) (mOf (q15 1 [1] (some (1,1)) (mSeq (mOp2 q0u (mVar 0) (mVar 3))) (gSet 0) (mRet true) (q6p 1 (mVar 0)))))) (mVar 3)))
 (sSet 2 (mOf (q2n f_y10 (q01 (mVar 0) (q01 (mVar 1) mNil)))))) 1000)
 (sRet (mVar 1)))))
def f_y11:List D->Option D:=runP false 1 4 qlm
theorem qqh:q22 1 f_y11:=q1l
theorem qd6(T:Txt K mg a):FnOk P w K mg base CX0 3 a.f_y11 a.fd_y11 ["leads"] (spP K false 1 f_y11):=by
 have G_y10:=qng (P:=P) (w:=w) (base:=base) T
 refine T.F_y11.ok sc_y11 (λ_ _ _ _ h=>h.1) (λcdv A outer s H vs Q E hr h=>?_)
 · refine⟨_,(q03 (q0l (i:=1) sc_y11.nd rfl (by walk_at "lr") q6f) (q03 (q0l (i:=2) sc_y11.nd rfl (by walk_at "lr") (q0f G_y10 hr.m (by rfl) T.mg_y10 T.kp_y10 T.B_y10 .nil q18 (q00 (pv 0) (q00 (pv 1) q04)))) (q03 (q69 xl (q12 qb1 (q13 (q1r (K:=K) rfl) (by rfl) T.z_len (by rfl) (q00 (pv 2) q04)) q07 (q1z _)) (q03 (q2q xl rfl (q1n (K:=K) rfl (pv 2)) (q0r (i:=3) sc_y11.nd rfl (by walk_at "lr")) (q0a (q6a (q35 hr) (pv 1) (pv 3) (q19 (q2i (K:=K) rfl) q07 (qcu (K:=K) (n:= -1) rfl rfl (by rfl) T.z_max (zc1 sc_y11 ["led","ranked"] [1] (q1n (K:=K) rfl (q32 (q35 hr) (pv 0) (pv 3) (λ_ o=>rfl))) (q32 (q35 hr) (pv 1) (pv 0) (λ_ o=>rfl))) (qq2 qlx q07) (λ_ _ _ q=>⟨_,rfl,q⟩))) rfl))) (q0a (q0l (i:=2) sc_y11.nd rfl (by walk_at "lr") (q0f G_y10 hr.m (by rfl) T.mg_y10 T.kp_y10 T.B_y10 .nil q18 (q00 (pv 0) (q00 (pv 1) q04))))))) (q0a (q10 (pv 1)))))),?_⟩
   exact q0w (O':=[]) (Nms:=["leads","ranked","ready","node"]) (f:=qlm) (by
     unfold qlm
     refine(q0g (O1:=[1]) (q8x rfl) (q0g (O1:=[1]) (q17 (q1g (q7v qnq (q4t qa0 (q4t qa0 qdc))))) (q0g (O1:=[]) (q5e (q6l (O':=[1]) ?_ rfl (q0g (O1:=[1]) (q2r (O':=[1]) ?_ rfl (q0i (i:=3)) (q8w (by decide) (q1q q5w me_int (qdi (q1g (q1j (bw:=(some (1,1))) (q2s (q3l (q06 (i:=0)) (q06 (i:=3)))) (q0i (i:=0)) q3i (qfz (i:=1) (by decide) (q06 (i:=0))))).mb)) ?_ rfl)) (q17 (q1g (q7v qnq (q4t qa0 (q4t qa0 qdc))))))) rfl) (q1m rfl ?_ rfl))))<;>walk_at "m") h
def qh5:RhO:=
 (sSeq (sSet 1 (q0q f_y8 (q01 (mVar 0) mNil)))
 (sSeq (sSet 2 (q0q f_y11 (q01 (mVar 1) mNil)))
 (sRet (mIf (q0c (q0q f_y9 (q01 (mVar 1) (q01 (mVar 2) mNil)))) (mVar 2) (mRet .non)))))
def f_y12:List D->Option D:=runP false 1 3 qh5
theorem qqg:q22 1 f_y12:=q1l
theorem qnf(T:Txt K mg a):FnOk P w K mg base CX0 7 a.f_y12 a.fd_y12 ["scheme"] (spP K false 1 f_y12):=by
 have G_y8:=qjo (P:=P) (w:=w) (base:=base) T
 have G_y11:=qd6 (P:=P) (w:=w) (base:=base) T
 have G_y9:=qn8 (P:=P) (w:=w) (base:=base) T
 refine T.F_y12.ok sc_y12 (λ_ _ _ _ h=>h.1) (λcdv A outer s H vs Q E hr h=>?_)
 · refine⟨_,(q03 (q0l (i:=1) sc_y12.nd rfl (by walk_at "lr") (q0f G_y8 hr.m (by rfl) T.mg_y8 T.kp_y8 T.B_y8 .nil q18 (q00 (pv 0) q04))) (q03 (q0l (i:=2) sc_y12.nd rfl (by walk_at "lr") (q0f G_y11 hr.m (by rfl) T.mg_y11 T.kp_y11 T.B_y11 .nil q18 (q00 (pv 1) q04))) (q0a (q10 (q6e (q3g (q0f G_y9 hr.m (by rfl) T.mg_y9 T.kp_y9 T.B_y9 .nil q18 (q00 (pv 1) (q00 (pv 2) q04)))) (pv 2) q7k))))),?_⟩
   exact q0w (O':=[]) (Nms:=["scheme","leads","ranked"]) (f:=qh5) (by
     unfold qh5
     refine(q0g (O1:=[]) (q17 ?_) (q0g (O1:=[]) (q17 ?_) (q1m rfl ?_ rfl)))<;>walk_at "m") h
def qll:RhO:=
 (sSeq (sOwn 3 (mLst mNil))
 (sSeq (sSet 4 (mVar 0))
 (sSeq (q1a (q0c (mOp2 q1f (mVar 4) (mVar 3)))
   (sSeq (sMut q1u 3 (q01 (mVar 4) mNil))
 (sSet 4 (mOp2 dIx (mOf (q15 1 [2] none (mSeq (mOp2 q0u (mVar 1) (mVar 4))) (gSet 0) (q0c (mOp2 (q2e true) (mVar 0) (mVar 1))) (mVar 0))) (mRet (.int 0))))) 1000)
 (q5m (mSlL (mVar 3) (q6o (mOp2 q5q (mVar 3) (mVar 4))) (mRet none))))))
def f_y13:List D->Option D:=runP true 3 5 qll
theorem qnp:q22 3 f_y13:=q1l
theorem qho(T:Txt K mg a):FnOk P w K mg base CX0 1 a.f_y13 a.fd_y13 ["first","leads","ranked"] (spP K true 3 f_y13):=by
 refine T.F_y13.ok sc_y13 (λ_ _ _ _ h=>h.1) (λcdv A outer s H vs Q E hr h=>?_)
 · refine⟨_,(q03 (q0l (i:=3) sc_y13.nd rfl (by walk_at "lr") (q31 q04)) (q03 (q0l (i:=4) sc_y13.nd rfl (by walk_at "lr") (pv 0)) (q03 (q69 xl (q12 (q5b (K:=K) rfl hr.units) (pv 4) (pv 3) (by with_unfolding_all rfl)) (q03 (q49 (q8t PySem.F.plainAttrs_list PySem.F.slot_list_append PySem.F.type_list_append q33 (pv 3) (q00 (pv 4) q04))) (q0a (q0l (i:=4) sc_y13.nd rfl (by walk_at "lr") (q1o (q0k (K:=K) rfl) (q4a (sc:=q05 qay) (N0:=["first","leads","ranked","way","node"]) rfl rfl rfl (show q21 _ _ ["led","ranked"] 1 [2] _=true by decide+kernel) (q1n (K:=K) rfl (q32 (q35 hr) (pv 1) (pv 4) (λ_ o=>rfl))) (λ_ _ _ _ _=>(q0r (i:=0) (show List.Nodup (["led","ranked"]:List Str)from(by decide+kernel)) rfl (Or.inl rfl))) (q2g (by decide)) (λ_ _ _ _ _=>(q2z (q12 (q3w (q35 hr)) (pv 0) (pv 1) (by with_unfolding_all rfl)))) (λ_ _ _ _ _=>(pv 0))) q07))))) (q0a (q10 (q9q (qbx (K:=K) rfl) (pv 3) (qco (q8t PySem.F.plainAttrs_list PySem.F.slot_list_index PySem.F.type_list_index (qjt (K:=K) rfl hr.units) (pv 3) (q00 (pv 4) q04))) qcp)))))),?_⟩
   exact q0w (O':=[]) (Nms:=["first","leads","ranked","way","node"]) (f:=qll) (by
     unfold qll
     refine(q0g (O1:=[3]) (q5g ?_ rfl) (q0g (O1:=[3]) (q17 ?_) (q0g (O1:=[]) (q5e (q6l (O':=[3]) (q1c (q1v q5a (q06 (i:=4)) q2c)) rfl (q0g (O1:=[3]) (qa2 q3y (by decide) ?_ rfl) (q17 (q1q q5o (q1g (q1j (bw:=none) (q2s (q3l (q06 (i:=1)) (q06 (i:=4)))) (q0i (i:=0)) (q1c (q1v q7m (q06 (i:=0)) q2c)) (q06 (i:=0)))) me_int)))) rfl) (qdf rfl (qfw (q06 (i:=3)) (qdg (qjy (q06 (i:=3)) (q06 (i:=4)))) qdh) rfl))))<;>walk_at "m") h
def qh4:RhO:=
 (sSeq (sSet 1 (q0q f_y8 (q01 (mVar 0) mNil)))
 (sSeq (sSet 2 (q0q f_y11 (q01 (mVar 1) mNil)))
 (sSeq (sSet 3 (mOf (q15 1 [2] none (q80 (mVar 1)) (gSet 0) (q0c (mOp2 (q2e true) (mVar 0) (mVar 1))) (mVar 0))))
 (sRet (mIf (q0c (mOp2 dGt (mOp1 dLen (mVar 3)) (mRet (.int 0)))) (mOf (q20 f_y13 (q01 (mOp2 dIx (mVar 3) (mRet (.int 0))) (q01 (mVar 1) (q01 (mVar 2) mNil))))) (mRet .non))))))
def f_y14:List D->Option D:=runP false 1 4 qh4
theorem qqf:q22 1 f_y14:=q1l
theorem qne(T:Txt K mg a):FnOk P w K mg base CX0 7 a.f_y14 a.fd_y14 ["scheme"] (spP K false 1 f_y14):=by
 have G_y8:=qjo (P:=P) (w:=w) (base:=base) T
 have G_y11:=qd6 (P:=P) (w:=w) (base:=base) T
 have G_y13:=qho (P:=P) (w:=w) (base:=base) T
 refine T.F_y14.ok sc_y14 (λ_ _ _ _ h=>h.1) (λcdv A outer s H vs Q E hr h=>?_)
 · refine⟨_,(q03 (q0l (i:=1) sc_y14.nd rfl (by walk_at "lr") (q0f G_y8 hr.m (by rfl) T.mg_y8 T.kp_y8 T.B_y8 .nil q18 (q00 (pv 0) q04))) (q03 (q0l (i:=2) sc_y14.nd rfl (by walk_at "lr") (q0f G_y11 hr.m (by rfl) T.mg_y11 T.kp_y11 T.B_y11 .nil q18 (q00 (pv 1) q04))) (q03 (q6b (k:=3) (sc:=q05 q8q) (N0:=["scheme","leads","ranked","left"]) rfl rfl rfl (show q21 _ _ ["node","ranked"] 1 [2] _=true by decide+kernel) sc_y14.nd rfl (Or.inl rfl) (q6d (pv 1)) (λ_ _ _ _ _=>(q0r (i:=0) (show List.Nodup (["node","ranked"]:List Str)from(by decide+kernel)) rfl (Or.inl rfl))) (q2g (by decide)) (λ_ _ _ _ _=>(q2z (q12 (q3w (q35 hr)) (pv 0) (pv 1) (by with_unfolding_all rfl)))) (λ_ _ _ _ _=>(pv 0))) (q0a (q10 (q6e (q12 qb1 (q13 (q1r (K:=K) rfl) (by rfl) T.z_len (by rfl) (q00 (pv 3) q04)) q07 (q1z _)) (q0f G_y13 hr.m (by rfl) T.mg_y13 T.kp_y13 T.B_y13 .nil q18 (q00 (q1o (q0k (K:=K) rfl) (pv 3) q07) (q00 (pv 1) (q00 (pv 2) q04)))) q7k)))))),?_⟩
   exact q0w (O':=[]) (Nms:=["scheme","leads","ranked","left"]) (f:=qh4) (by
     unfold qh4
     refine(q0g (O1:=[]) (q17 ?_) (q0g (O1:=[]) (q17 ?_) (q0g (O1:=[]) (q5f (q1j (bw:=none) (q6n (q06 (i:=1))) (q0i (i:=0)) (q1c (q1v q7m (q06 (i:=0)) q2c)) (q06 (i:=0))) rfl (by decide)) (q1m rfl (qny (q1c (q1v qfu (q2h qam q2c) me_int.mb)) (q1g (q2m qnp (q09 (q1q q5o (q06 (i:=3)) me_int) (q09 (q06 (i:=1)) (q09 (q06 (i:=2)) q0o))))) qhu) rfl))))<;>walk_at "m") h
theorem qjr(T:Txt K mg a):FnOk P w K mg base CX0 7 a.f_y14 a.fd_y14 ["scheme"] (spO K 1 f_y14):=by
 have G_y8:=qjo (P:=P) (w:=w) (base:=base) T
 have G_y11:=qd6 (P:=P) (w:=w) (base:=base) T
 have G_y13:=qho (P:=P) (w:=w) (base:=base) T
 refine T.F_y14.ok sc_y14 (λ_ _ _ _ h=>h.1) (λcdv A outer s H vs Q E hr h=>?_)
 · refine⟨_,(q03 (q0l (i:=1) sc_y14.nd rfl (by walk_at "lr") (q0f G_y8 hr.m (by rfl) T.mg_y8 T.kp_y8 T.B_y8 .nil q18 (q00 (pv 0) q04))) (q03 (q0l (i:=2) sc_y14.nd rfl (by walk_at "lr") (q0f G_y11 hr.m (by rfl) T.mg_y11 T.kp_y11 T.B_y11 .nil q18 (q00 (pv 1) q04))) (q03 (q6b (k:=3) (sc:=q05 q8q) (N0:=["scheme","leads","ranked","left"]) rfl rfl rfl (show q21 _ _ ["node","ranked"] 1 [2] _=true by decide+kernel) sc_y14.nd rfl (Or.inl rfl) (q6d (pv 1)) (λ_ _ _ _ _=>(q0r (i:=0) (show List.Nodup (["node","ranked"]:List Str)from(by decide+kernel)) rfl (Or.inl rfl))) (q2g (by decide)) (λ_ _ _ _ _=>(q2z (q12 (q3w (q35 hr)) (pv 0) (pv 1) (by with_unfolding_all rfl)))) (λ_ _ _ _ _=>(pv 0))) (q0a (q10 (q6e (q12 qb1 (q13 (q1r (K:=K) rfl) (by rfl) T.z_len (by rfl) (q00 (pv 3) q04)) q07 (q1z _)) (q0f G_y13 hr.m (by rfl) T.mg_y13 T.kp_y13 T.B_y13 .nil q18 (q00 (q1o (q0k (K:=K) rfl) (pv 3) q07) (q00 (pv 1) (q00 (pv 2) q04)))) q7k)))))),?_⟩
   exact(by
     unfold f_y14 qh4 at h
     exact qfa (Nms:=["scheme","leads","ranked","left"]) (q17 (q1y n_y8 (q09 (q06 (i:=0)) q0o))) (q17 (q1y qqh (q09 (q06 (i:=1)) q0o))) (q5f (q1j (bw:=none) (q6n (q06 (i:=1))) (q0i (i:=0)) (q1c (q1v q7m (q06 (i:=0)) q2c)) (q06 (i:=0))) rfl (by decide)) qby qby qby (q1c (q1v qfu (q2h qam q2c) me_int.mb)) (q2m qnp (q09 (q1q q5o (q06 (i:=3)) me_int) (q09 (q06 (i:=1)) (q09 (q06 (i:=2)) q0o)))) h)
def qh3:RhO:=
 (sSeq (qcb 0 (mOp2 dMod (mOp2 dAdd (mOp2 q4f (mIxO 0 (mRet (.int 0))) (mRet (.int 1181783497276652981))) (mRet (.int 12345678910987))) (mOp2 dSub (mOp2 dPow (mRet (.int 2)) (mRet (.int 61))) (mRet (.int 1)))) (mRet (.int 0)))
 (sRet (mOp2 dMod (mOp2 dDiv (mIxO 0 (mRet (.int 0))) (mRet (.int 65537))) (mVar 1))))
def f_y15:List D->List D->Option (D×List D):=runS false 2 2 qh3
theorem q7s:qff 2 f_y15:=qhb
theorem qhn(T:Txt K mg a):FnOk P w K mg base CX0 1 a.f_y15 a.fd_y15 ["_law_state","_law_many"] (spS K false 2 f_y15):=by
 refine T.F_y15.ok qma (λ_ _ _ _ h=>h.1) (λcdv A outer s H vs Q E hr h=>?_)
 · refine⟨_,(q03 (qhi (q19 q3x (q19 (q2i (K:=K) rfl) (q19 (q5c (K:=K) rfl) (q1o (q0k (K:=K) rfl) (pv 0) q07) q07) q07) (q19 qd1 (q19 qhk q07 q07) q07)) (qmz (pv 0) q07 set_list)) (q0a (q10 (q19 q3x (q19 qd4 (q1o (q0k (K:=K) rfl) (pv 0) q07) q07) (pv 1))))),?_⟩
   exact q9g (O':=[]) (Nms:=["_law_state","_law_many"]) (f:=qh3) (by
     unfold qh3
     exact(q0g (O1:=[0]) (qju (by decide) (q1q q7n (q1q q5w (q1q qd8 (qhv (i:=0) (by decide) me_int) me_int) me_int) (q1q q9v (q1q qhq me_int me_int) me_int)) me_int rfl) (q1m rfl (q1q q7n (q1q qhr (qhv (i:=0) (by decide) me_int) me_int) (q06 (i:=1))) rfl))) h
def qeu:RhO:=
 (sSeq (sSet 3 (q14 f_y15 0 (q01 (mVar 1) mNil)))
 (sSeq (sIf (q0c (mOp2 dEq (q14 f_y15 0 (q01 (mRet (.int 9)) mNil)) (mRet (.int 0))))
   (sSet 3 (mRet (.int 4)))
   sNil)
 (sSeq (sSet 4 (mOf (q15 1 [0,3] (some (0,1)) (q3m (q01 (mOp2 dAdd (mRet (.int 1)) (q14 f_y15 0 (q01 (mRet (.int 4)) mNil))) mNil)) (gSet 0) (mRet true) (q14 f_y15 1 (q01 (mOp2 dShl (mRet (.int 2)) (mVar 2)) mNil)))))
 (sSeq (sOwn 5 (mLst mNil))
 (sSeq (sFor (q3m (q01 (mOp2 dAdd (mRet (.int 1)) (q14 f_y15 0 (q01 (mRet (.int 6)) mNil))) mNil)) (gSet 6)
   (sMut q1u 5 (q01 (mOp1 q2d (mOf (q15 1 [0] (some (0,1)) (mSeq (mVar 4)) (gSet 0) (mRet true) (mOp1 dInt (mOp2 dGt (q14 f_y15 1 (q01 (mRet (.int 4)) mNil)) (mRet (.int 0))))))) mNil)))
 (sSeq (sIf (q0c (mOp2 dEq (q14 f_y15 0 (q01 (mRet (.int 12)) mNil)) (mRet (.int 0))))
   (sSet 5 (mOf (mLst (q01 (mOp1 q2d (mOf (q15 1 [] none (mSeq (mVar 4)) (gSet 0) (mRet true) (mRet (.int 0))))) mNil))))
   sNil)
 (sRet (mTup (q01 (mVar 3) (q01 (mOp1 q2d (mVar 4)) (q01 (mOp1 q2d (mVar 5)) (q01 (mVar 2) mNil))))))))))))
def f_y16:List D->List D->Option (D×List D):=runS false 3 7 qeu
theorem qqe:qff 3 f_y16:=qhb
theorem qnd(T:Txt K mg a):FnOk P w K mg base CX0 2 a.f_y16 a.fd_y16 ["_law_state","_law_most","_law_ending"] (spS K false 3 f_y16):=by
 have G_y15:=qhn (P:=P) (w:=w) (base:=base) T
 refine T.F_y16.ok sc_y16 (λ_ _ _ _ h=>h.1) (λcdv A outer s H vs Q E hr h=>?_)
 · refine⟨_,(q03 (q0l (i:=3) sc_y16.nd rfl (by walk_at "lr") (q0f G_y15 hr.m (by rfl) T.mg_y15 T.kp_y15 T.B_y15 .nil q18 (q00 (pv 0) (q00 (pv 1) q04)))) (q03 (q48 (q12 (q5v (K:=K) rfl hr.units) (q0f G_y15 hr.m (by rfl) T.mg_y15 T.kp_y15 T.B_y15 .nil q18 (q00 (pv 0) (q00 q07 q04))) q07 (q1z _)) (q0a (q0l (i:=3) sc_y16.nd rfl (by walk_at "lr") q07)) q25) (q03 (zs1 4 sc_y16 ["_law_k","_law_state","_law_reach"] [0,3] (q2j (by rfl) T.z_range (q00 (q19 (q2i (K:=K) rfl) q07 (q0f G_y15 hr.m (by rfl) T.mg_y15 T.kp_y15 T.B_y15 .nil q18 (q00 (pv 0) (q00 q07 q04)))) q04)) (q0f G_y15 hr.m (by rfl) T.mg_y15 T.kp_y15 T.B_y15 .nil q18 (q00 (pv 1) (q00 (q19 q9r q07 (pv 2)) q04)))) (q03 (q0l (i:=5) sc_y16.nd rfl (by walk_at "lr") (q31 q04)) (q03 (q2q xl rfl (q2j (by rfl) T.z_range (q00 (q19 (q2i (K:=K) rfl) q07 (q0f G_y15 hr.m (by rfl) T.mg_y15 T.kp_y15 T.B_y15 .nil q18 (q00 (pv 0) (q00 q07 q04)))) q04)) (q0r (i:=6) sc_y16.nd rfl (by walk_at "lr")) (q0a (q49 (q8t PySem.F.plainAttrs_list PySem.F.slot_list_append PySem.F.type_list_append q33 (pv 5) (q00 (q2a (q23 (K:=K) rfl) (by rfl) T.z_tuple (by rfl) (q00 (zc1 sc_y16 ["_law_tap","_law_state"] [0] (q1n (K:=K) rfl (pv 4)) (q2a qeq (by rfl) T.z_int (by rfl) (q00 (qcw qb1 (q0f G_y15 hr.m (by rfl) T.mg_y15 T.kp_y15 T.B_y15 .nil q18 (q00 (pv 1) (q00 q07 q04))) q07 (q1z _)) q04))) q04)) q04))))) (q03 (q48 (q12 (q5v (K:=K) rfl hr.units) (q0f G_y15 hr.m (by rfl) T.mg_y15 T.kp_y15 T.B_y15 .nil q18 (q00 (pv 0) (q00 q07 q04))) q07 (q1z _)) (q0a (q0l (i:=5) sc_y16.nd rfl (by walk_at "lr") (q31 (q00 (q2a (q23 (K:=K) rfl) (by rfl) T.z_tuple (by rfl) (q00 (zc1 sc_y16 ["_law_tap"] [] (q1n (K:=K) rfl (pv 4)) q07) q04)) q04)))) q25) (q0a (q10 (q30 (q00 (pv 3) (q00 (q2a (q23 (K:=K) rfl) (by rfl) T.z_tuple (by rfl) (q00 (pv 4) q04)) (q00 (q2a (q23 (K:=K) rfl) (by rfl) T.z_tuple (by rfl) (q00 (pv 5) q04)) (q00 (pv 2) q04))))))))))))),?_⟩
   exact q9g (O':=[]) (Nms:=["_law_state","_law_most","_law_ending","_law_reach","_law_taps","_law_rows","_law_k"]) (f:=qeu) (by
     unfold qeu
     exact(q0g (O1:=[0]) (q17 (q28 (i:=0) q7s (by decide) (q09 (q06 (i:=1)) q0o))) (q0g (O1:=[0]) (q7t (q1c (q1v os_eq (q28 (i:=0) q7s (by decide) (q09 me_int q0o)) me_int.mb)) (q17 me_int) (q4j rfl)) (q0g (O1:=[0]) (q5f (q1j (bw:=(some (0,1))) (q3z (q09 (q1q q5w me_int (q28 (i:=0) q7s (by decide) (q09 me_int q0o))) q0o)) (q0i (i:=0)) q3i (q28 (i:=1) q7s (by decide) (q09 (q1q q9w me_int (q06 (i:=2))) q0o))) rfl (by decide)) (q0g (O1:=[0,5]) (q5g (q7u q0o) rfl) (q0g (O1:=[0]) (q5e (q2r (O':=[0,5]) (q3z (q09 (q1q q5w me_int (q28 (i:=0) q7s (by decide) (q09 me_int q0o))) q0o)) rfl (q0i (i:=6)) (qa2 q3y (by decide) (q09 (q3c q3d (q1g (q1j (bw:=(some (0,1))) (q2s (q06 (i:=4))) (q0i (i:=0)) q3i (q2h qib (q1v qfu (q28 (i:=1) q7s (by decide) (q09 me_int q0o)) me_int.mb).mb)))) q0o) rfl)) rfl) (q0g (O1:=[0]) (q7t (q1c (q1v os_eq (q28 (i:=0) q7s (by decide) (q09 me_int q0o)) me_int.mb)) (q17 (q1g (q7u (q09 (q3c q3d (q1g (q1j (bw:=none) (q2s (q06 (i:=4))) (q0i (i:=0)) q3i me_int))) q0o)))) (q4j rfl)) (q1m rfl (q7x (q09 (q06 (i:=3)) (q09 (q3c q3d (q06 (i:=4))) (q09 (q3c q3d (q06 (i:=5))) (q09 (q06 (i:=2)) q0o))))) rfl)))))))) h
def qlk:RhO:=
 (sSeq (sSet 4 (mOp2 dAdd (mOp2 q4f (mRet (.int 2)) (mVar 1)) (mVar 2)))
 (sSeq (sSet 5 (mRet (.int 0)))
 (sSeq (sFor (mZip (q01 (mOp2 dIx (mVar 0) (mRet (.int 1))) (q01 (mOp2 dIx (mOp2 dIx (mVar 0) (mRet (.int 2))) (mVar 3)) mNil))) (q36 2 (q0y (gSet 6) (q0y (gSet 7) q3f)))
   (sSeq (sSet 8 (mOp2 dMod (mOp1 dSum (mOf (q15 1 [4,6] none (q3m (q01 (mRet (.int 5)) mNil)) (gSet 0) (mRet true) (mOp2 dAnd (mOp2 dAnd (mOp2 dShr (mVar 1) (mVar 0)) (mOp2 dShr (mVar 2) (mVar 0))) (mRet (.int 1)))))) (mRet (.int 2))))
 (sAug (λi j=>i+j) 5 (mOp2 q4f (mVar 8) (mVar 7)))))
 (sRet (mTup (q01 (mOp2 dMod (mVar 4) (mOp2 dShl (mRet (.int 1)) (mOp2 dIx (mVar 0) (mRet (.int 0))))) (q01 (mVar 5) mNil)))))))
def f_y17:List D->Option D:=runP false 4 9 qlk
theorem qqx:q22 4 f_y17:=q1l
theorem qnc(T:Txt K mg a):FnOk P w K mg base CX0 1 a.f_y17 a.fd_y17 ["_law_scheme_here","_law_room","_law_bit","_law_phase"] (spP K false 4 f_y17):=by
 refine T.F_y17.ok sc_y17 (λ_ _ _ _ h=>h.1) (λcdv A outer s H vs Q E hr h=>?_)
 · refine⟨_,(q03 (q0l (i:=4) sc_y17.nd rfl (by walk_at "lr") (q19 (q2i (K:=K) rfl) (q19 (q5c (K:=K) rfl) q07 (pv 1)) (pv 2))) (q03 (q0l (i:=5) sc_y17.nd rfl (by walk_at "lr") q07) (q03 (q2q xl rfl (qcr (K:=K) rfl (by rfl) T.z_zip (q00 (q1o (q0k (K:=K) rfl) (pv 0) q07) (q00 (q1o (q0k (K:=K) rfl) (q1o (q0k (K:=K) rfl) (pv 0) q07) (pv 3)) q04))) (q58 (K:=K) rfl rfl (q1w (q0r (i:=6) sc_y17.nd rfl (by walk_at "lr")) (q1w (q0r (i:=7) sc_y17.nd rfl (by walk_at "lr")) q57))) (q03 (q0l (i:=8) sc_y17.nd rfl (by walk_at "lr") (q19 q3x (q13 (qgz (K:=K) rfl rfl) (by rfl) T.z_sum (by rfl) (q00 (zc1 sc_y17 ["_law_k","_law_shifted","_law_tap"] [4,6] (q2j (by rfl) T.z_range (q00 q07 q04)) (q19 q9t (q19 q9t (q19 qhj (pv 1) (pv 0)) (q19 qhj (pv 2) (pv 0))) q07)) q04)) q07)) (q0a (qhh (i:=5) sc_y17.nd rfl (by walk_at "lr") (q19 (q5c (K:=K) rfl) (pv 8) (pv 7)) qol)))) (q0a (q10 (q30 (q00 (q19 q3x (pv 4) (q19 q9r q07 (q1o (q0k (K:=K) rfl) (pv 0) q07))) (q00 (pv 5) q04)))))))),?_⟩
   exact q0w (O':=[]) (Nms:=["_law_scheme_here","_law_room","_law_bit","_law_phase","_law_shifted","_law_ones","_law_tap","_law_keeps","_law_odd"]) (f:=qlk) (by
     unfold qlk
     refine(q0g (O1:=[]) (q17 ?_) (q0g (O1:=[]) (q17 ?_) (q0g (O1:=[]) (q2r (O':=[]) ?_ rfl (q5y (q1s (q0i (i:=6)) (q1s (q0i (i:=7)) q4d))) (q0g (O1:=[]) (q17 (q1q q7n (q2h qia (q1g (q1j (bw:=none) (q3z (q09 me_int q0o)) (q0i (i:=0)) q3i (q1q qd9 (q1q qd9 (q1q qhp (q06 (i:=1)) (q06 (i:=0))) (q1q qhp (q06 (i:=2)) (q06 (i:=0)))) me_int))).mb) me_int)) (qns (by decide) (by decide) ?_ rfl))) (q1m rfl ?_ rfl))))<;>walk_at "m") h
def qlj:RhO:=
 (sSeq (sOwn 1 (mLst mNil))
 (sSeq (sFor (q3m (q01 (mOp1 dLen (mOp2 dIx (mVar 0) (mRet (.int 2)))) mNil)) (gSet 2)
   (sExt 1 (q15 1 [2] none (q7z (q01 (mRet (.int 1)) (q01 (mOp2 dShl (mRet (.int 1)) (mOp2 dIx (mVar 0) (mRet (.int 0)))) mNil))) (gSet 0) (mRet true) (mTup (q01 (mVar 1) (q01 (mVar 0) mNil))))))
 (q54 1)))
def f_y18:List D->Option D:=runP true 1 3 qlj
theorem qno:q22 1 f_y18:=q1l
theorem qhm(T:Txt K mg a):FnOk P w K mg base CX0 1 a.f_y18 a.fd_y18 ["_law_scheme_here"] (spP K true 1 f_y18):=by
 refine T.F_y18.ok sc_y18 (λ_ _ _ _ h=>h.1) (λcdv A outer s H vs Q E hr h=>?_)
 · refine⟨_,(q03 (q0l (i:=1) sc_y18.nd rfl (by walk_at "lr") (q31 q04)) (q03 (q2q xl rfl (q2j (by rfl) T.z_range (q00 (q13 (q1r (K:=K) rfl) (by rfl) T.z_len (by rfl) (q00 (q1o (q0k (K:=K) rfl) (pv 0) q07) q04)) q04)) (q0r (i:=2) sc_y18.nd rfl (by walk_at "lr")) (q0a (qhh (i:=1) sc_y18.nd rfl (by walk_at "lr") (zc1 sc_y18 ["_law_room","_law_phase"] [2] (q7j (by rfl) T.z_range (q00 q07 (q00 (q19 q9r q07 (q1o (q0k (K:=K) rfl) (pv 0) q07)) q04))) (q30 (q00 (pv 1) (q00 (pv 0) q04)))) qkj))) (q0a (q10 (pv 1))))),?_⟩
   exact q0w (O':=[]) (Nms:=["_law_scheme_here","_law_some","_law_phase"]) (f:=qlj) (by
     unfold qlj
     refine(q0g (O1:=[1]) (q5g ?_ rfl) (q0g (O1:=[1]) (q2r (O':=[1]) ?_ rfl (q0i (i:=2)) (qjv (i:=1) (by decide) (q1j (bw:=none) (q7w (q09 me_int (q09 (q1q q9w me_int (q1q q5o (q06 (i:=0)) me_int)) q0o))) (q0i (i:=0)) q3i (q7x (q09 (q06 (i:=1)) (q09 (q06 (i:=0)) q0o)))) rfl)) (q6m rfl (by first|decide|simp) rfl (by first|decide|simp))))<;>walk_at "m") h
def qli:RhO:=
 (sSeq (sOwn 2 (mLst mNil))
 (sSeq (sFor (mSeq (mOf (mLst (q01 (mRet (.int 0)) (q01 (mRet (.int 1)) mNil))))) (gSet 3)
   (sSeq (sAsg (q0q f_y17 (q01 (mVar 0) (q01 (mOp2 dIx (mVar 1) (mRet (.int 1))) (q01 (mVar 3) (q01 (mOp2 dIx (mVar 1) (mRet (.int 0))) mNil))))) (q36 2 (q0y (gSet 4) (q0y (gSet 5) q3f))))
 (sIf (q0c (mOp2 dGt (mVar 4) (mRet (.int 0))))
   (sMut q1u 2 (q01 (mTup (q01 (mVar 3) (q01 (mVar 5) (q01 (mTup (q01 (mOp2 dMod (mOp2 dAdd (mOp2 dIx (mVar 1) (mRet (.int 0))) (mRet (.int 1))) (mOp1 dLen (mOp2 dIx (mVar 0) (mRet (.int 2))))) (q01 (mVar 4) mNil))) mNil)))) mNil))
   sNil)))
 (q54 2)))
def f_y19:List D->Option D:=runP true 2 6 qli
theorem qqd:q22 2 f_y19:=q1l
theorem qnb(T:Txt K mg a):FnOk P w K mg base CX0 2 a.f_y19 a.fd_y19 ["_law_scheme_here","_law_node"] (spP K true 2 f_y19):=by
 have G_y17:=qnc (P:=P) (w:=w) (base:=base) T
 refine T.F_y19.ok sc_y19 (λ_ _ _ _ h=>h.1) (λcdv A outer s H vs Q E hr h=>?_)
 · refine⟨_,(q03 (q0l (i:=2) sc_y19.nd rfl (by walk_at "lr") (q31 q04)) (q03 (q2q xl rfl (q1n (K:=K) rfl (q31 (q00 q07 (q00 q07 q04)))) (q0r (i:=3) sc_y19.nd rfl (by walk_at "lr")) (q03 (qhi (q0f G_y17 hr.m (by rfl) T.mg_y17 T.kp_y17 T.B_y17 .nil q18 (q00 (pv 0) (q00 (q1o (q0k (K:=K) rfl) (pv 1) q07) (q00 (pv 3) (q00 (q1o (q0k (K:=K) rfl) (pv 1) q07) q04))))) (q58 (K:=K) rfl rfl (q1w (q0r (i:=4) sc_y19.nd rfl (by walk_at "lr")) (q1w (q0r (i:=5) sc_y19.nd rfl (by walk_at "lr")) q57)))) (q0a (q48 (q12 qb1 (pv 4) q07 (q1z _)) (q0a (q49 (q8t PySem.F.plainAttrs_list PySem.F.slot_list_append PySem.F.type_list_append q33 (pv 2) (q00 (q30 (q00 (pv 3) (q00 (pv 5) (q00 (q30 (q00 (q19 q3x (q19 (q2i (K:=K) rfl) (q1o (q0k (K:=K) rfl) (pv 1) q07) q07) (q13 (q1r (K:=K) rfl) (by rfl) T.z_len (by rfl) (q00 (q1o (q0k (K:=K) rfl) (pv 0) q07) q04))) (q00 (pv 4) q04))) q04)))) q04)))) q25)))) (q0a (q10 (pv 2))))),?_⟩
   exact q0w (O':=[]) (Nms:=["_law_scheme_here","_law_node","_law_some","_law_bit","_law_room","_law_ones"]) (f:=qli) (by
     unfold qli
     refine(q0g (O1:=[2]) (q5g ?_ rfl) (q0g (O1:=[2]) (q2r (O':=[2]) ?_ rfl (q0i (i:=3)) (q0g (O1:=[2]) (qnt ?_ rfl (q5y (q1s (q0i (i:=4)) (q1s (q0i (i:=5)) q4d)))) (q7t ?_ (qa2 q3y (by decide) ?_ rfl) (q4j rfl)))) (q6m rfl (by first|decide|simp) rfl (by first|decide|simp))))<;>walk_at "m") h
def qlh:RhO:=
 (sRet (mOf (q15 3 [] none (mSeq (mOf (q20 f_y19 (q01 (mVar 0) (q01 (mVar 1) mNil))))) (q36 3 (q0y (gSet 0) (q0y (gSet 1) (q0y (gSet 2) q3f)))) (q0c (mOp2 dEq (mVar 1) (mRet (.int 0)))) (mVar 2))))
def f_y20:List D->Option D:=runP false 2 2 qlh
theorem qnn:q22 2 f_y20:=q1l
theorem qhl(T:Txt K mg a):FnOk P w K mg base CX0 3 a.f_y20 a.fd_y20 ["_law_scheme_here","_law_node"] (spP K false 2 f_y20):=by
 have G_y19:=qnb (P:=P) (w:=w) (base:=base) T
 refine T.F_y20.ok qm9 (λ_ _ _ _ h=>h.1) (λcdv A outer s H vs Q E hr h=>?_)
 · refine⟨_,(q0a (q10 (q4a (sc:=q05 qax) (N0:=["_law_scheme_here","_law_node"]) rfl rfl rfl (show q21 _ _ ["_law_bit","_law_ones","_law_other"] 3 [] _=true by decide+kernel) (q1n (K:=K) rfl (q0f G_y19 hr.m (by rfl) T.mg_y19 T.kp_y19 T.B_y19 .nil q18 (q00 (pv 0) (q00 (pv 1) q04)))) (λ_ _ _ _ _=>(q58 (K:=K) rfl rfl (q1w (q0r (i:=0) (show List.Nodup (["_law_bit","_law_ones","_law_other"]:List Str)from(by decide+kernel)) rfl (Or.inl rfl)) (q1w (q0r (i:=1) (show List.Nodup (["_law_bit","_law_ones","_law_other"]:List Str)from(by decide+kernel)) rfl (Or.inl rfl)) (q1w (q0r (i:=2) (show List.Nodup (["_law_bit","_law_ones","_law_other"]:List Str)from(by decide+kernel)) rfl (Or.inl rfl)) q57))))) (qfr (by decide) (by decide) (by decide)) (λ_ _ _ _ _=>(q2z (q12 (q5v (K:=K) rfl hr.units) (pv 1) q07 (q1z _)))) (λ_ _ _ _ _=>(pv 2))))),?_⟩
   exact q0w (O':=[]) (Nms:=["_law_scheme_here","_law_node"]) (f:=qlh) (by
     unfold qlh
     exact(q1m rfl (q1g (q1j (bw:=none) (q2s (q1g (q2m qqd (q09 (q06 (i:=0)) (q09 (q06 (i:=1)) q0o))))) (q5y (q1s (q0i (i:=0)) (q1s (q0i (i:=1)) (q1s (q0i (i:=2)) q4d)))) (q1c (q1v os_eq (q06 (i:=1)) me_int.mb)) (q06 (i:=2)))) rfl)) h
def qlg:RhO:=
 (sSeq (sIf (mOr (mNot (q0c (mOp1 (dIsi (q27 "list")) (mVar 1)))) (mOr (q0c (mOp2 dEq (mVar 1) (mOf (mLst mNil)))) (q0c (mOp2 dNe (mOp1 q37 (mVar 1)) (mOp1 dLen (mVar 1))))))
   (sRet (mRet (.bl false)))
   sNil)
 (sSeq (sFor (q3m (q01 (mOp1 dLen (mVar 1)) mNil)) (gSet 2)
   (sIf (mOr (q0c (mOp2 q1f (mOp2 dIx (mVar 1) (mOp2 dSub (mVar 2) (mRet (.int 1)))) (mOf (q20 f_y18 (q01 (mVar 0) mNil))))) (q0c (mOp2 q1f (mOp2 dIx (mVar 1) (mVar 2)) (q0q f_y20 (q01 (mVar 0) (q01 (mOp2 dIx (mVar 1) (mOp2 dSub (mVar 2) (mRet (.int 1)))) mNil))))))
   (sRet (mRet (.bl false)))
   sNil))
 (sRet (mRet (.bl true)))))
def f_y21:List D->Option D:=runP false 2 3 qlg
theorem qqw:q22 2 f_y21:=q1l
theorem qna(T:Txt K mg a):FnOk P w K mg base CX0 4 a.f_y21 a.fd_y21 ["_law_scheme_here","_law_way"] (spP K false 2 f_y21):=by
 have G_y20:=qhl (P:=P) (w:=w) (base:=base) T
 have G_y18:=qhm (P:=P) (w:=w) (base:=base) T
 refine T.F_y21.ok sc_y21 (λ_ _ _ _ h=>h.1) (λcdv A outer s H vs Q E hr h=>?_)
 · refine⟨_,(q03 (q48 (PW.pt (pw_or (q56 (q3g (q13 (q4x (K:=K) rfl) (by rfl) T.z_isinstance (by rfl) (q00 (pv 1) (q00 (q6g (v:=.ty "list") (by rfl) T.z_list (by rfl) rfl) q04))))) (pw_or (q12 (q5v (K:=K) rfl hr.units) (pv 1) (q31 q04) (q1z _)) (pw_or1 (q12 (q9s (K:=K) rfl hr.units) (qcv (K:=K) rfl rfl hr.units (by rfl) T.z_len (by rfl) T.z_set (pv 1)) (q13 (q1r (K:=K) rfl) (by rfl) T.z_len (by rfl) (q00 (pv 1) q04)) (q1z _)))))) (q0a (q10 q59)) q25) (q03 (q2q xl rfl (q2j (by rfl) T.z_range (q00 (q13 (q1r (K:=K) rfl) (by rfl) T.z_len (by rfl) (q00 (pv 1) q04)) q04)) (q0r (i:=2) sc_y21.nd rfl (by walk_at "lr")) (q0a (q48 (PW.pt (pw_or (q12 (q5b (K:=K) rfl hr.units) (q1o (q0k (K:=K) rfl) (pv 1) (q19 qd1 (pv 2) q07)) (q0f G_y18 hr.m (by rfl) T.mg_y18 T.kp_y18 T.B_y18 .nil q18 (q00 (pv 0) q04)) (by with_unfolding_all rfl)) (pw_or1 (q12 (q5b (K:=K) rfl hr.units) (q1o (q0k (K:=K) rfl) (pv 1) (pv 2)) (q0f G_y20 hr.m (by rfl) T.mg_y20 T.kp_y20 T.B_y20 .nil q18 (q00 (pv 0) (q00 (q1o (q0k (K:=K) rfl) (pv 1) (q19 qd1 (pv 2) q07)) q04))) (by with_unfolding_all rfl))))) (q0a (q10 q59)) q25))) (q0a (q10 q59)))),?_⟩
   exact q0w (O':=[]) (Nms:=["_law_scheme_here","_law_way","_law_k"]) (f:=qlg) (by
     unfold qlg
     refine(q0g (O1:=[]) (q7t (q8v (qa1 (q5x (qa4 (qga T) q2c))) (q8v (q1c (q1v os_eq (q06 (i:=1)) (q1g (q7u q0o)).mb)) (q1c (q1v qft (qdj (q06 (i:=1))) (q2h qam q2c).mb)))) (q1m rfl ?_ rfl) (q4j rfl)) (q0g (O1:=[]) (q2r (O':=[]) ?_ rfl (q0i (i:=2)) (q7t (q8v (q1c (q1v q5a (q1q q5o (q06 (i:=1)) (q1q q9v (q06 (i:=2)) me_int)) (q1g (q2m qno (q09 (q06 (i:=0)) q0o))).mb)) (q1c (q1v q5a (q1q q5o (q06 (i:=1)) (q06 (i:=2))) (q1y qnn (q09 (q06 (i:=0)) (q09 (q1q q5o (q06 (i:=1)) (q1q q9v (q06 (i:=2)) me_int)) q0o))).mb))) (q1m rfl ?_ rfl) (q4j rfl))) (q1m rfl ?_ rfl)))<;>walk_at "m") h
def qlf:RhO:=
 (sSeq (sSet 2 (mOf (q20 f_y18 (q01 (mVar 0) mNil))))
 (sSeq (sIf (mOr (mNot (q0c (mOp1 (dIsi (q27 "dict")) (mVar 1)))) (q0c (mOp2 dNe (mOf (q90 dSrt (mVar 1))) (mOf (q90 dSrt (mVar 2))))))
   (sRet (mRet (.bl false)))
   sNil)
 (sSeq (sFor (mSeq (mVar 2)) (gSet 3)
   (sSeq (sSet 4 (mOp1 (q2v 0) (mOf (q15 1 [1] none (mSeq (q0q f_y20 (q01 (mVar 0) (q01 (mVar 3) mNil)))) (gSet 0) (mRet true) (mOp2 dAdd (mOp2 q0u (mVar 1) (mVar 0)) (mRet (.int 1)))))))
 (sIf (mOr (mNot (q0c (mOp1 (dIsi (q27 "int")) (mOp2 q0u (mVar 1) (mVar 3))))) (mOr (q0c (mOp1 (dIsi (q27 "bool")) (mOp2 q0u (mVar 1) (mVar 3)))) (q0c (mOp2 dNe (mOp2 q0u (mVar 1) (mVar 3)) (mVar 4)))))
   (sRet (mRet (.bl false)))
   sNil)))
 (sRet (mRet (.bl true))))))
def f_y22:List D->Option D:=runP false 2 5 qlf
theorem qqv:q22 2 f_y22:=q1l
theorem qn9(T:Txt K mg a):FnOk P w K mg base CX0 4 a.f_y22 a.fd_y22 ["_law_scheme_here","_law_told"] (spP K false 2 f_y22):=by
 have G_y18:=qhm (P:=P) (w:=w) (base:=base) T
 have G_y20:=qhl (P:=P) (w:=w) (base:=base) T
 refine T.F_y22.ok sc_y22 (λ_ _ _ _ h=>h.1) (λcdv A outer s H vs Q E hr h=>?_)
 · refine⟨_,(q03 (q0l (i:=2) sc_y22.nd rfl (by walk_at "lr") (q0f G_y18 hr.m (by rfl) T.mg_y18 T.kp_y18 T.B_y18 .nil q18 (q00 (pv 0) q04))) (q03 (q48 (PW.pt (pw_or (q56 (q3g (q13 (q4x (K:=K) rfl) (by rfl) T.z_isinstance (by rfl) (q00 (pv 1) (q00 (q6g (v:=.ty "dict") (by rfl) T.z_dict (by rfl) rfl) q04))))) (pw_or1 (q12 (q9s (K:=K) rfl hr.units) (q13 (qar (K:=K) rfl rfl) (by rfl) T.z_sorted (by rfl) (q00 (pv 1) q04)) (q13 (qar (K:=K) rfl rfl) (by rfl) T.z_sorted (by rfl) (q00 (pv 2) q04)) (q1z _))))) (q0a (q10 q59)) q25) (q03 (q2q xl rfl (q1n (K:=K) rfl (pv 2)) (q0r (i:=3) sc_y22.nd rfl (by walk_at "lr")) (q03 (q0l (i:=4) sc_y22.nd rfl (by walk_at "lr") (qcu (K:=K) (n:=0) rfl rfl (by rfl) T.z_max (zc1 sc_y22 ["_law_other","_law_told"] [1] (q1n (K:=K) rfl (q0f G_y20 hr.m (by rfl) T.mg_y20 T.kp_y20 T.B_y20 .nil q18 (q00 (pv 0) (q00 (pv 3) q04)))) (q19 (q2i (K:=K) rfl) (q32 (q35 hr) (pv 1) (pv 0) (λ_ o=>rfl)) q07)) q07 (λ_ _ _ q=>q))) (q0a (q48 (PW.pt (pw_or (q56 (q3g (q13 (q4x (K:=K) rfl) (by rfl) T.z_isinstance (by rfl) (q00 (q32 (q35 hr) (pv 1) (pv 3) (λ_ o=>rfl)) (q00 (q6g (v:=.ty "int") (by rfl) T.z_int (by rfl) rfl) q04))))) (pw_or (q3g (q13 (q4x (K:=K) rfl) (by rfl) T.z_isinstance (by rfl) (q00 (q32 (q35 hr) (pv 1) (pv 3) (λ_ o=>rfl)) (q00 (q6g (v:=.ty "bool") (by rfl) T.z_bool (by rfl) rfl) q04)))) (pw_or1 (q12 (q9s (K:=K) rfl hr.units) (q32 (q35 hr) (pv 1) (pv 3) (λ_ o=>rfl)) (pv 4) (q1z _)))))) (q0a (q10 q59)) q25)))) (q0a (q10 q59))))),?_⟩
   exact q0w (O':=[]) (Nms:=["_law_scheme_here","_law_told","_law_some","_law_node","_law_due"]) (f:=qlf) (by
     unfold qlf
     exact(q0g (O1:=[]) (q17 (q1g (q2m qno (q09 (q06 (i:=0)) q0o)))) (q0g (O1:=[]) (q7t (q8v (qa1 (q5x (qa4 (qgb T) q2c))) (q1c (q1v qft (q1g (qhs q2c)) (q1g (qhs q2c)).mb))) (q1m rfl qg0 rfl) (q4j rfl)) (q0g (O1:=[]) (q2r (O':=[]) (q2s (q06 (i:=2))) rfl (q0i (i:=3)) (q0g (O1:=[]) (q17 (qdi (q1g (q1j (bw:=none) (q2s (q1y qnn (q09 (q06 (i:=0)) (q09 (q06 (i:=3)) q0o)))) (q0i (i:=0)) q3i (q1q q5w (q3l (q06 (i:=1)) (q06 (i:=0))) me_int))).mb)) (q7t (q8v (qa1 (q5x (qa4 (qki T) (q3l (q06 (i:=1)) (q06 (i:=3))).mb))) (q8v (q5x (qa4 (qgc T) (q3l (q06 (i:=1)) (q06 (i:=3))).mb)) (q1c (q1v qft (q3l (q06 (i:=1)) (q06 (i:=3))) q2c)))) (q1m rfl qg0 rfl) (q4j rfl)))) (q1m rfl qg0 rfl))))) h
def qlo:RhO:=
 (sSeq (sFor (mSeq (mSl (mVar 0) (mRet none) (q6o (mRet (.int 10))))) (gSet 1)
   (sSeq (sOwn 2 (mLst (q01 (mOp2 dAdd (mOp2 q4f (mOp2 dMod (mVar 1) (mOp2 dPow (mRet (.int 10)) (mRet (.int 30)))) (mRet (.int 7368787))) (mRet (.int 1000003))) mNil)))
 (sSeq (sSet 3 (q14 f_y16 2 (q01 (mRet (.int 4)) (q01 (mOp2 dIx (mOf (mLst (q01 (mRet (.str "open")) (q01 (mRet (.str "ended")) (q01 (mRet (.str "ring")) mNil))))) (q14 f_y15 2 (q01 (mRet (.int 3)) mNil))) mNil))))
 (q47 4 5 f_y14 f_y12 (q01 (mVar 3) mNil) (q01 (mVar 3) mNil)
 (q0c (mOp2 q4e (mVar 4) (mRet .non)))
 (mOr (mNot (q0c (q0q f_y21 (q01 (mVar 3) (q01 (mVar 4) mNil))))) (q0c (mOp2 q4e (mVar 5) (mRet .non))))
 (mNot (q0c (q0q f_y21 (q01 (mVar 3) (q01 (q0q f_y14 (q01 (mVar 3) mNil)) mNil)))))
 (mNot (q0c (q0q f_y22 (q01 (mVar 3) (q01 (mVar 5) mNil)))))
 (mNot (q0c (q0q f_y22 (q01 (mVar 3) (q01 (q0q f_y12 (q01 (mVar 3) mNil)) mNil)))))))))
 (sRet (mRet (.bl true))))
def f_law:List D->Option D:=runP false 1 6 qlo
theorem qni(T:Txt K mg a):FnOk P w K mg base CX0 8 a.f_law a.fd_law ["_law_script"] (spP K false 1 f_law):=by
 have G_y15:=qhn (P:=P) (w:=w) (base:=base) T
 have G_y16:=qnd (P:=P) (w:=w) (base:=base) T
 have G_y14:=qne (P:=P) (w:=w) (base:=base) T
 have G_y12:=qnf (P:=P) (w:=w) (base:=base) T
 have G_y21:=qna (P:=P) (w:=w) (base:=base) T
 have G_y22:=qn9 (P:=P) (w:=w) (base:=base) T
 have GD_y14:=qjr (P:=P) (w:=w) (base:=base) T
 refine T.F_law.ok sc_law (λ_ _ _ _ h=>h.1) (λcdv A outer s H vs Q E hr h=>?_)
 · refine⟨_,(q03 (q2q xl rfl (q1n (K:=K) rfl (q9q (qbx (K:=K) rfl) (pv 0) qcp (qco q07))) (q0r (i:=1) sc_law.nd rfl (by walk_at "lr")) (q03 (q0l (i:=2) sc_law.nd rfl (by walk_at "lr") (q31 (q00 (q19 (q2i (K:=K) rfl) (q19 (q5c (K:=K) rfl) (q19 q3x (pv 1) (q19 qhk q07 q07)) q07) q07) q04))) (q03 (q0l (i:=3) sc_law.nd rfl (by walk_at "lr") (q0f G_y16 hr.m (by rfl) T.mg_y16 T.kp_y16 T.B_y16 .nil q18 (q00 (pv 2) (q00 q07 (q00 (q1o (q0k (K:=K) rfl) (q31 (q00 qct (q00 qct (q00 qct q04)))) (q0f G_y15 hr.m (by rfl) T.mg_y15 T.kp_y15 T.B_y15 .nil q18 (q00 (pv 2) (q00 q07 q04)))) q04))))) (q03 (q0l (i:=4) sc_law.nd rfl (by walk_at "lr") (q0f GD_y14 hr.m (by rfl) T.mg_y14 T.kp_y14 T.B_y14 .nil q18 (q00 (pv 3) q04))) (q03 (q0l (i:=5) sc_law.nd rfl (by walk_at "lr") (q0f G_y12 hr.m (by rfl) T.mg_y12 T.kp_y12 T.B_y12 .nil q18 (q00 (pv 3) q04))) (q0a (q48 (q12 qd3 (pv 4) q7k (q1z _)) (q03 (q48 (PW.pt (pw_or (q56 (q3g (q0f G_y21 hr.m (by rfl) T.mg_y21 T.kp_y21 T.B_y21 .nil q18 (q00 (pv 3) (q00 (pv 4) q04))))) (pw_or1 (q12 qd3 (pv 5) q7k (q1z _))))) (q0a (q10 q59)) q25) (q03 (q49 (q8t PySem.F.plainAttrs_list PySem.F.slot_list_append PySem.F.type_list_append q33 (pv 4) (q00 (q1o (q0k (K:=K) rfl) (pv 4) q07) q04))) (q0a (q48 (q56 (q3g (q0f G_y21 hr.m (by rfl) T.mg_y21 T.kp_y21 T.B_y21 .nil q18 (q00 (pv 3) (q00 (q0f G_y14 hr.m (by rfl) T.mg_y14 T.kp_y14 T.B_y14 .nil q18 (q00 (pv 3) q04)) q04))))) (q0a (q10 q59)) q25)))) (q03 (q48 (q56 (q3g (q0f G_y22 hr.m (by rfl) T.mg_y22 T.kp_y22 T.B_y22 .nil q18 (q00 (pv 3) (q00 (pv 5) q04))))) (q0a (q10 q59)) q25) (q03 (q6a (q35 hr) (pv 5) (q30 (q00 q07 (q00 q07 q04))) q07 rfl) (q0a (q48 (q56 (q3g (q0f G_y22 hr.m (by rfl) T.mg_y22 T.kp_y22 T.B_y22 .nil q18 (q00 (pv 3) (q00 (q0f G_y12 hr.m (by rfl) T.mg_y12 T.kp_y12 T.B_y12 .nil q18 (q00 (pv 3) q04)) q04))))) (q0a (q10 q59)) q25))))))))))) (q0a (q10 q59))),?_⟩
   exact q0w (O':=[]) (Nms:=["_law_script","_law_cell","_law_state","_law_scheme_here","_law_way","_law_told"]) (f:=qlo) (by
     unfold qlo
     refine(q0g (O1:=[]) (q2r (O':=[]) ?_ rfl (q0i (i:=1)) (q0g (O1:=[2]) (q5g ?_ rfl) (q0g (O1:=[]) (q17 (q28 (i:=2) qqe (by decide) (q09 me_int (q09 (q1q q5o (q1g (q7u (q09 qa3 (q09 qa3 (q09 qa3 q0o))))) (q28 (i:=2) q7s (by decide) (q09 me_int q0o))) q0o)))) (qde qqf qqg (by decide) ?_ ?_ ?_ ?_ ?_ ?_ ?_)))) (q1m rfl ?_ rfl))<;>walk_at "m") h
end
section
variable{r:Int}{taps:List Int}{rows:List (List Int)}{e:Str}
theorem p_y1(ok:q1i r taps rows e):f_y1 [schD r taps rows e]=some (.int (2^r.toNat)):=by
 have r0:=ok.r0
 have r4:=ok.r4
 have r6:r<=1000000:=by omega
 have hr:f_y0 [.int r]=some (.int (2^r.toNat)):=by
   unfold f_y0 b_y0
   clear ok
   walk_at "ev"
 unfold f_y1 b_y1 schD
 clear ok
 walk_at "ev"
theorem qcy(n:D):∀(f fuel:Nat) (l o:Int),0<=l->l.toNat<2^f->(o=0∨o=1)->f<fuel->∃l':Int,q1a (q0c (mOp2 dGt (mVar 1) (mRet (.int 0))))
   (sSeq (sSet 2 (mOp2 dXor (mVar 2) (mOp2 dAnd (mVar 1) (mRet (.int 1)))))
 (sSet 1 (mOp2 dDiv (mVar 1) (mRet (.int 2))))) fuel [some n,some (.int l),some (.int o)]=some (.nx [some n,some (.int l'),some (.int ((o+(parF f l.toNat:Nat)) % 2))])
 |_,0,_,_,_,_,_,h=>absurd h (Nat.not_lt_zero _)
 | f,fuel+1,l,o,l0,lf,ho,hf=>by
   have ht:(q0c (mOp2 dGt (mVar 1) (mRet (.int 0)))) [some n,some (.int l),some (.int o)]=some (decide (0<l),[some n,some (.int l),some (.int o)]):=by
     walk_at "ev"
   by_cases hl:0<l
   · cases f with
     |zero=>exact absurd lf (by omega)
     | succ f=>
       have hb:(sSeq (sSet 2 (mOp2 dXor (mVar 2) (mOp2 dAnd (mVar 1) (mRet (.int 1))))) (sSet 1 (mOp2 dDiv (mVar 1) (mRet (.int 2))))) [some n,some (.int l),some (.int o)]=some (.nx [some n,some (.int (l / 2)),some (.int (Builtin.bitXor o (Builtin.bitAnd l 1)))]):=by
         clear ht
         walk_at "ev"
       have ex:Builtin.bitXor o (Builtin.bitAnd l 1)=(o+l % 2) % 2:=by rw[qf0 l0];exact qf4 ho (by omega)
       have e2:(l / 2).toNat=l.toNat / 2:=by omega
       have lt2:(l / 2).toNat<2^f:=by rw[e2];rw[Nat.pow_succ]at lf;omega
       obtain⟨l',ih⟩:=qcy n f fuel (l / 2) (Builtin.bitXor o (Builtin.bitAnd l 1)) (by omega) lt2 (by rw[ex];omega) (by omega)
       refine⟨l',?_⟩
       rw[decide_eq_true hl]at ht
       unfold q1a
       rw[ht]
       dsimp only
       rw[hb]
       dsimp only
       rw[ih,ex,e2]
       have u:parF (f+1) l.toNat=(l.toNat % 2+parF f (l.toNat / 2)) % 2:=rfl
       rw[u]
       have ev:((o+l % 2) % 2+(parF f (l.toNat / 2):Nat)) % 2=(o+(((l.toNat % 2+parF f (l.toNat / 2)) % 2:Nat):Int)) % 2:=by omega
       rw[ev]
   · rw[decide_eq_false hl]at ht
     refine⟨l,?_⟩
     unfold q1a
     rw[ht]
     dsimp only
     have e0:l=0:=by omega
     subst e0
     rw[show((0:Int)).toNat=0 from rfl,q7l]
     have ev:(o+((0:Nat):Int)) % 2=o:=by omega
     rw[ev]
theorem p_y2(n:Int)(h0:0<=n)(h:n<32):f_y2 [.int n]=some (.int (parF 5 n.toNat:Nat)):=by
 obtain⟨l',hw⟩:=qcy (.int n) 5 1000 n 0 h0 (by omega) (.inl rfl) (by decide)
 have e1:((0:Int)+(parF 5 n.toNat:Nat)) % 2=(parF 5 n.toNat:Nat):=by
   have:=qcx 5 n.toNat
   omega
 rw[e1]at hw
 generalize parF 5 n.toNat=p at hw ⊢
 unfold f_y2 b_y2
 generalize (1000:Nat)=fuel at hw ⊢
 clear h0 h e1
 walk_at "ev"
theorem p_y3(ok:q1i r taps rows e)(room bit:Int)(a0:0<=room)(a1:room<2^r.toNat)(hb:bit=0∨bit=1):
   f_y3 [schD r taps rows e,.int room,.int bit]=some (.tup [.int ((2*room+bit) % 2^r.toNat),.tup ((taps.map (sgn (2*room+bit))).map D.int)]):=by
 have p16:=q3k ok.r0 ok.r4
 have hr:=p_y1 ok
 have hp:=p_y2
 have m0:(0:Int)<2^r.toNat:=by omega
 have cm:=q5k (n:=1) (js:=[3]) (fg:=gSet 0) (fe:=q0q f_y2 (q01 (mOp2 dAnd (mVar 1) (mVar 0)) mNil)) (ρ:=[some (schD r taps rows e),some (.int room),some (.int bit),some (.int (2*room+bit)),none]) (λd=>match d with|.int t=>.int (sgn (2*room+bit) t)|d=>d) (taps.map D.int) (λx hx=>by
       obtain⟨t,ht,rfl⟩:=List.mem_map.mp hx
       refine⟨[some (.int t),some (.int (2*room+bit))],rfl,?_⟩
       have tb:=ok.tb t ht
       have w0:0<=2*room+bit:=by omega
       have ea:=qf1 w0 tb.1
       have lt:(2*room+bit).toNat &&& t.toNat<32:=Nat.lt_of_le_of_lt Nat.and_le_left (by omega)
       have hq:=p_y2 (((2*room+bit).toNat &&& t.toNat:Nat):Int) (by omega) (by omega)
       rw[kh,<-ea]at hq
       show _=some (D.int (sgn (2*room+bit) t))
       unfold sgn
       generalize 2*room+bit=W at hq ⊢
       generalize parF 5 (W.toNat &&& t.toNat)=z at hq ⊢
       clear hx ht tb w0 ea lt hr hp hb a0 a1 m0 p16
       walk_at "ev")
 have e2:(taps.map D.int).map (λd=>match d with|.int t=>D.int (sgn (2*room+bit) t)|d=>d)=(taps.map (sgn (2*room+bit))).map D.int:=by
   rw[ju,ju]
   rfl
 rw[e2]at cm
 have ll:(taps.map D.int).length<=sizeLine:=by rw[ja];exact q1d (by have:=ok.t4;omega)
 unfold f_y3 b_y3
 unfold schD at cm hr ⊢
 generalize (taps.map (sgn (2*room+bit))).map D.int=S at cm ⊢
 generalize taps.map D.int=TS at cm hr ll ⊢
 generalize (2:Int)^r.toNat=m at hr m0 a1 p16 ⊢
 have two:2<=sizeLine:=by decide
 clear ok hp hb a0 a1 p16 e2
 walk_at "ev"
theorem qhc(ok:q1i r taps rows e)(k:Nat):atI (rows.map rowD) ((k:Int) % ((rows.map rowD).length:Nat))=some (.tup ((rowAt rows k).map D.int)):=by
 have m1:=ok.m1
 have hk:k % rows.length<rows.length:=Nat.mod_lt _ (by omega)
 have e1:((k:Int) % ((rows.map rowD).length:Nat))=((k % rows.length:Nat):Int):=by rw[ja];exact(Int.natCast_emod k rows.length).symm
 rw[e1,q8l (by omega) (by rw[ja];omega),kh,jz]
 unfold rowAt
 rw[jf hk]
 rfl
theorem qfq(ok:q1i r taps rows e)(k:Nat)(signs:List Int)(hl:signs.length<=1000):
   f_y4 [schD r taps rows e,.int k,.tup (signs.map D.int)]=some (.tup ((q5n (rowAt rows k) signs).map D.int)):=by
 have hr:=qhc ok k
 have z9:0<(rows.map rowD).length:=by have:=ok.m1;rw[ja];omega
 have hz:zipD (signs.map D.int) ((rowAt rows k).map D.int)=(signs.zip (rowAt rows k)).map λq=>D.tup [.int q.1,.int q.2]:=q74 _ _
 have cm:∀ρ:Rho,q0e 2 [] none (q36 2 (q0y (gSet 0) (q0y (gSet 1) q3f))) (q0c (mOp2 dEq (mVar 1) (mRet (.int 1)))) (mVar 0) ((signs.zip (rowAt rows k)).map λq=>D.tup [.int q.1,.int q.2]) ρ=some ((q5n (rowAt rows k) signs).map D.int,ρ):=λρ=>by
   have:=q45 (n:=2) (js:=[]) (fg:=q36 2 (q0y (gSet 0) (q0y (gSet 1) q3f))) (ft:=q0c (mOp2 dEq (mVar 1) (mRet (.int 1)))) (fe:=mVar 0) (ρ:=ρ) (λd=>match d with|.tup [_,.int b]=>b==1|_=>false) (λd=>match d with|.tup [x,_]=>x|d=>d) ((signs.zip (rowAt rows k)).map λq=>D.tup [.int q.1,.int q.2]) (λx hx=>by
       obtain⟨q,_,rfl⟩:=List.mem_map.mp hx
       refine⟨[some (.int q.1),some (.int q.2)],rfl,?_,λ_=>rfl⟩
       clear hr hz hx
       walk_at "ev")
   rw[this,List.filter_map,ju]
   unfold q5n
   rw[ju]
   rfl
 have ll:((signs.zip (rowAt rows k)).map λq=>D.tup [.int q.1,.int q.2]).length<=sizeLine:=by
   rw[ja,List.length_zip]
   exact q1d (by have:=Nat.min_le_left signs.length (rowAt rows k).length;omega)
 unfold f_y4 b_y4 schD
 generalize (signs.zip (rowAt rows k)).map (λq=>D.tup [.int q.1,.int q.2])=Z at hz cm ll
 generalize (q5n (rowAt rows k) signs).map D.int=Y at cm ⊢
 generalize (rowAt rows k).map D.int=R at hr hz
 generalize rows.map rowD=RS at hr z9 ⊢
 generalize signs.map D.int=S at hz ⊢
 clear ok hl
 walk_at "ev"
theorem q7b{ρ ρ1:Rho}{fs:RhL}{n:Int}(h:fs ρ=some ([.int n],ρ1))(bg:big n=true):q3m fs ρ=some (q16 0 n.toNat,ρ1):=by
 rw[qe8,h]
 show((if big n=true then some (q16 0 n.toNat)else none).map λx=>(x,ρ1))=_
 rw[if_pos bg]
 rfl
theorem q3t{f g:RhO}{ρ ρ1:Rho}(h:f ρ=some (.nx ρ1)):sSeq f g ρ=g ρ1:=by
 rw[qe5,h]
 rfl
theorem qjh(N:Nat):((N:Int) / 2^(0:Int).toNat % 2+((N:Int) / 2^(1:Int).toNat % 2+((N:Int) / 2^(2:Int).toNat % 2+((N:Int) / 2^(3:Int).toNat % 2+((N:Int) / 2^(4:Int).toNat % 2+0))))) % 2=(parF 5 N:Nat):=by
 have e0:(2:Int)^(0:Int).toNat=1:=rfl
 have e1:(2:Int)^(1:Int).toNat=2:=rfl
 have e2:(2:Int)^(2:Int).toNat=4:=rfl
 have e3:(2:Int)^(3:Int).toNat=8:=rfl
 have e4:(2:Int)^(4:Int).toNat=16:=rfl
 rw[e0,e1,e2,e3,e4]
 have f1:(N:Int) / 2=((N / 2:Nat):Int):=by omega
 have f2:(N:Int) / 4=((N / 2 / 2:Nat):Int):=by omega
 have f3:(N:Int) / 8=((N / 2 / 2 / 2:Nat):Int):=by omega
 have f4:(N:Int) / 16=((N / 2 / 2 / 2 / 2:Nat):Int):=by omega
 have f0:(N:Int) / 1=(N:Int):=by omega
 rw[f0,f1,f2,f3,f4]
 have u:parF 5 N=(N % 2+(N / 2 % 2+(N / 2 / 2 % 2+(N / 2 / 2 / 2 % 2+(N / 2 / 2 / 2 / 2 % 2+0) % 2) % 2) % 2) % 2) % 2:=rfl
 rw[u]
 generalize N / 2 / 2 / 2 / 2=a4
 generalize N / 2 / 2 / 2=a3
 generalize N / 2 / 2=a2
 generalize N / 2=a1
 omega
def nxK(s:Int):Int:=(s*1181783497276652981+12345678910987) % 2305843009213693951
def drK(s m:Int):Int:=nxK s / 65537 % m
theorem q8b(s:Int){m:Int}(h:0<m):0<=drK s m:=Int.emod_nonneg _ (by omega)
theorem q8c(s:Int){m:Int}(h:0<m):drK s m<m:=Int.emod_lt_of_pos _ h
theorem q3q(s m:Int)(h:0<m):f_y15 [.int s] [.int m]=some (.int (drK s m),[.int (nxK s)]):=by
 unfold f_y15 qh3
 walk_at "ev"
 simp[nxK,drK]
theorem s1e(x s m:Int)(r:Int)(hm:dShl (.int 2) (.int r)=some (.int m))(h0:0<m):(q14 f_y15 1 (q01 (mOp2 dShl (mRet (.int 2)) (mVar 2)) mNil)) [some (.int x),some (.lst [.int s]),some (.int r)]=some (.int (drK s m),[some (.int x),some (.lst [.int (nxK s)]),some (.int r)]):=by
 have h:=q3q s m h0
 generalize dShl=SH at hm ⊢
 walk_at "ev"
theorem s1r(s:Int)(v1 v2 v3 v4 v5 v6:Option D):(q01 (mOp2 dAdd (mRet (.int 1)) (q14 f_y15 0 (q01 (mRet (.int 4)) mNil))) mNil) [some (.lst [.int s]),v1,v2,v3,v4,v5,v6]=some ([.int (1+drK s 4)],[some (.lst [.int (nxK s)]),v1,v2,v3,v4,v5,v6]):=by
 have h:=q3q s 4 (by decide)
 walk_at "ev"
theorem s1x(s s1 s2 r:Int)(E:D)(X Y:List D)(FI:RhL)(FE:RhD)(lx:X.length<=sizeLine)
   (hI:FI [some (.lst [.int s]),some (.int 4),some E,some (.int r),none,none,none]=some (X,[some (.lst [.int s1]),some (.int 4),some E,some (.int r),none,none,none]))
   (cm:q0e 1 [0,3] (some (0,1)) (gSet 0) (mRet true) FE X [some (.lst [.int s1]),some (.int 4),some E,some (.int r),none,none,none]=some (Y,[some (.lst [.int s2]),some (.int 4),some E,some (.int r),none,none,none])):
   (sSet 4 (mOf (q15 1 [0,3] (some (0,1)) FI (gSet 0) (mRet true) FE))) [some (.lst [.int s]),some (.int 4),some E,some (.int r),none,none,none]=some (.nx [some (.lst [.int s2]),some (.int 4),some E,some (.int r),some (.lst Y),none,none]):=by
 walk_at "ev"
theorem qce{ρ ρ1:Rho}{fs:RhL}{n:Int}(h:fs ρ=some ([.int n],ρ1))(n0:0<=n)(n1:n<=1000):q3m fs ρ=some (q16 0 n.toNat,ρ1):=by
 refine q7b h ?_
 unfold big
 simp
 omega
theorem s1(s r:Int)(E:D)(r0:0<=r)(r4:r<=4):∃(ts:List Int) (s':Int),(sSet 4 (mOf (q15 1 [0,3] (some (0,1)) (q3m (q01 (mOp2 dAdd (mRet (.int 1)) (q14 f_y15 0 (q01 (mRet (.int 4)) mNil))) mNil)) (gSet 0) (mRet true) (q14 f_y15 1 (q01 (mOp2 dShl (mRet (.int 2)) (mVar 2)) mNil))))) [some (.lst [.int s]),some (.int 4),some E,some (.int r),none,none,none]=some (.nx [some (.lst [.int s']),some (.int 4),some E,some (.int r),some (.lst (ts.map D.int)),none,none])
   /\1<=ts.length/\ts.length<=4/\∀t∈ts,0<=t/\t<2*2^r.toNat:=by
 have d0:=q8b s (m:=4) (by decide)
 have d3:=q8c s (m:=4) (by decide)
 have zm:(0:Int)<2*2^r.toNat:=Int.mul_pos (by decide) (Int.pow_pos (by decide))
 have hsh:dShl (.int 2) (.int r)=some (.int (2*2^r.toNat)):=by
   have r6:r<=1000000:=by omega
   simp[dShl,dI2,qb3,r0,r6]
 obtain⟨ys,s2,c1,c2,c3⟩:=q71 (n:=1) (p:=0) (q:=1) (js:=[0,3]) (fg:=gSet 0) (fe:=q14 f_y15 1 (q01 (mOp2 dShl (mRet (.int 2)) (mVar 2)) mNil))
   (λs:Int=>[some (.lst [.int s]),some (.int 4),some E,some (.int r),none,none,none]) (λy=>∃t:Int,y=.int t/\0<=t/\t<2*2^r.toNat) (q16 0 (1+drK s 4).toNat) (λx hx s=>by
     obtain⟨k,hk⟩:=List.mem_iff_getElem?.mp hx
     obtain⟨_,rfl⟩:=q39 hk
     exact⟨[some (.int (0+(k:Int))),some (.lst [.int s]),some (.int r)],[some (.int (0+(k:Int))),some (.lst [.int (nxK s)]),some (.int r)],.int (drK s (2*2^r.toNat)),nxK s,rfl,s1e _ _ _ _ hsh zm,rfl,_,rfl,q8b s zm,q8c s zm⟩) (nxK s)
 obtain⟨ts,rfl,tb⟩:=q92 c3
 rw[ja,q29]at c2
 exact⟨ts,s2,s1x _ _ _ _ _ _ _ _ _ (by rw[q29];exact q1d (by omega)) (qce (s1r _ _ _ _ _ _ _) (by omega) (by omega)) c1,by omega,by omega,tb⟩
theorem s4e(x s:Int)(h:(0:Int)<4):(mOp1 dInt (mOp2 dGt (q14 f_y15 1 (q01 (mRet (.int 4)) mNil)) (mRet (.int 0)))) [some (.int x),some (.lst [.int s])]=some (.int (if drK s 4>0 then 1 else 0),[some (.int x),some (.lst [.int (nxK s)])]):=by
 have h4:=q3q s 4 h
 walk_at "ev"
theorem s4r(s:Int)(v1 v2 v3 v4 v5 v6:Option D):(q01 (mOp2 dAdd (mRet (.int 1)) (q14 f_y15 0 (q01 (mRet (.int 6)) mNil))) mNil) [some (.lst [.int s]),v1,v2,v3,v4,v5,v6]=some ([.int (1+drK s 6)],[some (.lst [.int (nxK s)]),v1,v2,v3,v4,v5,v6]):=by
 have h:=q3q s 6 (by decide)
 walk_at "ev"
theorem s4t(s s' r:Int)(E k:D)(TS RS RW:List D)(FE:RhD)(l3:TS.length<=sizeLine)(l6:RS.length<sizeLine)
   (g1:q0e 1 [0] (some (0,1)) (gSet 0) (mRet true) FE TS [some (.lst [.int s]),some (.int 4),some E,some (.int r),some (.lst TS),some (.lst RS),some k]=some (RW,[some (.lst [.int s']),some (.int 4),some E,some (.int r),some (.lst TS),some (.lst RS),some k])):
   (sMut q1u 5 (q01 (mOp1 q2d (mOf (q15 1 [0] (some (0,1)) (mSeq (mVar 4)) (gSet 0) (mRet true) FE))) mNil)) [some (.lst [.int s]),some (.int 4),some E,some (.int r),some (.lst TS),some (.lst RS),some k]=some (.nx [some (.lst [.int s']),some (.int 4),some E,some (.int r),some (.lst TS),some (.lst (RS++[.tup RW])),some k]):=by
 walk_at "ev"
theorem s4f(s s1:Int)(s' r:Int)(E:D)(v:Option D)(X TS RS:List D)(FI:RhL)(FB:RhO)
   (hI:FI [some (.lst [.int s]),some (.int 4),some E,some (.int r),some (.lst TS),some (.lst []),none]=some (X,[some (.lst [.int s1]),some (.int 4),some E,some (.int r),some (.lst TS),some (.lst []),none]))
   (f1:q0z (gSet 6) FB X [some (.lst [.int s1]),some (.int 4),some E,some (.int r),some (.lst TS),some (.lst []),none]=some (.nx [some (.lst [.int s']),some (.int 4),some E,some (.int r),some (.lst TS),some (.lst RS),v])):
   (sFor FI (gSet 6) FB) [some (.lst [.int s]),some (.int 4),some E,some (.int r),some (.lst TS),some (.lst []),none]=some (.nx [some (.lst [.int s']),some (.int 4),some E,some (.int r),some (.lst TS),some (.lst RS),v]):=by
 walk_at "ev"
theorem s4(s r:Int)(E:D)(taps:List Int)(h1:1<=taps.length)(h4:taps.length<=4):∃(rows:List (List Int)) (s':Int) (v:Option D),(sFor (q3m (q01 (mOp2 dAdd (mRet (.int 1)) (q14 f_y15 0 (q01 (mRet (.int 6)) mNil))) mNil)) (gSet 6)
   (sMut q1u 5 (q01 (mOp1 q2d (mOf (q15 1 [0] (some (0,1)) (mSeq (mVar 4)) (gSet 0) (mRet true) (mOp1 dInt (mOp2 dGt (q14 f_y15 1 (q01 (mRet (.int 4)) mNil)) (mRet (.int 0))))))) mNil))) [some (.lst [.int s]),some (.int 4),some E,some (.int r),some (.lst (taps.map D.int)),some (.lst []),none]=some (.nx [some (.lst [.int s']),some (.int 4),some E,some (.int r),some (.lst (taps.map D.int)),some (.lst (rows.map rowD)),v])
   /\1<=rows.length/\rows.length<=6/\∀row∈rows,row.length=taps.length/\∀b∈row,b=0∨b=1:=by
 have d0:=q8b s (m:=6) (by decide)
 have d6:=q8c s (m:=6) (by decide)
 obtain⟨ρ',f1,rows,s3,v,rfl,lr,zp⟩:=q6w (fg:=gSet 6) (fb:=(sMut q1u 5 (q01 (mOp1 q2d (mOf (q15 1 [0] (some (0,1)) (mSeq (mVar 4)) (gSet 0) (mRet true) (mOp1 dInt (mOp2 dGt (q14 f_y15 1 (q01 (mRet (.int 4)) mNil)) (mRet (.int 0))))))) mNil)))
   (λi ρ=>∃(rows:List (List Int)) (s:Int) (v:Option D),ρ=[some (.lst [.int s]),some (.int 4),some E,some (.int r),some (.lst (taps.map D.int)),some (.lst (rows.map rowD)),v]/\rows.length=i/\∀row∈rows,row.length=taps.length/\∀b∈row,b=0∨b=1)
   (q16 0 (1+drK s 6).toNat) 0 [some (.lst [.int (nxK s)]),some (.int 4),some E,some (.int r),some (.lst (taps.map D.int)),some (.lst []),none] ⟨[],_,none,rfl,rfl,λ_ h=>nomatch h⟩ (by
     rintro i x ρ hx ⟨rows,s,v,rfl,lr,zp⟩
     obtain⟨hi,rfl⟩:=q39 hx
     obtain⟨bs,s4,g1,g2,g3⟩:=q71 (n:=1) (p:=0) (q:=1) (js:=[0]) (fg:=gSet 0) (fe:=mOp1 dInt (mOp2 dGt (q14 f_y15 1 (q01 (mRet (.int 4)) mNil)) (mRet (.int 0))))
       (λs':Int=>[some (.lst [.int s']),some (.int 4),some E,some (.int r),some (.lst (taps.map D.int)),some (.lst (rows.map rowD)),some (.int (0+(i:Int)))]) (λy=>∃t:Int,y=.int t/\(t=0∨t=1)) (taps.map D.int) (λx hx s'=>by
         obtain⟨z,_,rfl⟩:=List.mem_map.mp hx
         refine⟨[some (.int z),some (.lst [.int s'])],[some (.int z),some (.lst [.int (nxK s')])],_,nxK s',rfl,s4e z s' (by decide),rfl,_,rfl,?_⟩
         split
         · exact .inr rfl
         · exact .inl rfl) s
     obtain⟨row,rfl,hb⟩:=q92 g3
     rw[ja,ja]at g2
     refine⟨_,[some (.lst [.int s4]),some (.int 4),some E,some (.int r),some (.lst (taps.map D.int)),some (.lst ((rows++[row]).map rowD)),some (.int (0+(i:Int)))],rfl,.inl ?_,rows++[row],s4,_,rfl,by rw[jr,lr];simp,λz hz=>?_⟩
     · have e6:(rows++[row]).map rowD=rows.map rowD++[.tup (row.map D.int)]:=by rw[xq];rfl
       rw[e6]
       exact s4t _ _ _ _ _ _ _ _ _ (by rw[ja];exact q1d (by omega)) (by rw[ja];exact jt (by omega:rows.length<1000) (by decide)) g1
     · rcases List.mem_append.mp hz with hz|hz
       · exact zp z hz
       · rw[List.mem_singleton.mp hz]
         exact⟨g2,hb⟩)
 rw[q29]at lr
 exact⟨rows,s3,v,s4f _ _ _ _ _ _ _ _ _ _ _ (qce (s4r _ _ _ _ _ _ _) (by omega) (by omega)) f1,by omega,by omega,zp⟩
theorem s3(s r:Int)(E T:D)(z0:0<=sizeLine):(sOwn 5 (mLst mNil)) [some (.lst [.int s]),some (.int 4),some E,some (.int r),some T,none,none]=some (.nx [some (.lst [.int s]),some (.int 4),some E,some (.int r),some T,some (.lst []),none]):=by
 walk_at "ev"
end
section
variable{r:Int}{taps:List Int}{rows:List (List Int)}{e:Str}
theorem qcf{ρ ρ1:Rho}{fs:RhL}{a b:Int}(h:fs ρ=some ([.int a,.int b],ρ1))(h1:big a=true)(h2:big b=true):q7z fs ρ=some (q16 a (b-a).toNat,ρ1):=by
 rw[qe7,h]
 show((if(big a&&big b)=true then some (q16 a (b-a).toNat)else none).map λx=>(x,ρ1))=_
 rw[h1,h2]
 rfl
theorem q5z{fg:RhG}{fb:RhO}{x:D}{xs:List D}{ρ ρ1 ρ2:Rho}(h1:fg x ρ=some ρ1)(h2:fb ρ1=some (.nx ρ2)):q0z fg fb (x::xs) ρ=q0z fg fb xs ρ2:=by
 rw[q0z,h1]
 dsimp only
 rw[h2]
theorem qgj(S:D)(F X Y:List D)(i:Int)(FI:RhL)(FE:RhD)(lx:X.length<=sizeLine)(ly:F.length+Y.length<=sizeLine)(hI:FI [some S,some (.lst F),some (.int i)]=some (X,[some S,some (.lst F),some (.int i)]))
   (cm:q0e 1 [2] none (gSet 0) (mRet true) FE X [some S,some (.lst F),some (.int i)]=some (Y,[some S,some (.lst F),some (.int i)])):(sExt 1 (q15 1 [2] none FI (gSet 0) (mRet true) FE)) [some S,some (.lst F),some (.int i)]=some (.nx [some S,some (.lst (F++Y)),some (.int i)]):=by
 walk_at "ev"
theorem qb4(i:Nat):q08 r (i+1)=q08 r i++(List.range (2^r.toNat-1:Int).toNat).map λ(q:Nat)=>[(i:Int),1+(q:Int)]:=q88 _ _
theorem q7q(S:D)(FI:RhL)(r0:0<=r)(r4:r<=4)(N:Nat)(hN:N<=6)(hI:∀(F:List D) (i:Int),FI [some S,some (.lst F),some (.int i)]=some (q16 1 (2^r.toNat-1:Int).toNat,[some S,some (.lst F),some (.int i)])):
   ∃v,q0z (gSet 2) (sExt 1 (q15 1 [2] none FI (gSet 0) (mRet true) (mTup (q01 (mVar 1) (q01 (mVar 0) mNil))))) (q16 0 N) [some S,some (.lst []),none]=some (.nx [some S,some (.lst ((q08 r N).map tupD)),v]):=by
 have p16:=q3k r0 r4
 obtain⟨ρ',f1,v,rfl⟩:=q6w (fg:=gSet 2) (fb:=sExt 1 (q15 1 [2] none FI (gSet 0) (mRet true) (mTup (q01 (mVar 1) (q01 (mVar 0) mNil)))))
   (λi ρ=>∃v,ρ=[some S,some (.lst ((q08 r i).map tupD)),v]) (q16 0 N) 0 [some S,some (.lst []),none] ⟨none,rfl⟩ (by
     rintro i x ρ hx ⟨v,rfl⟩
     obtain⟨hi,rfl⟩:=q39 hx
     rw[k9]at*
     rw[Int.zero_add]
     have cm:=q5k (n:=1) (js:=[2]) (fg:=gSet 0) (fe:=mTup (q01 (mVar 1) (q01 (mVar 0) mNil))) (ρ:=[some S,some (.lst ((q08 r i).map tupD)),some (.int (i:Int))])
       (λd=>.tup [.int (i:Int),d]) (q16 1 (2^r.toNat-1:Int).toNat) (λy hy=>by
         refine⟨[some y,some (.int (i:Int))],rfl,?_⟩
         have two:2<=sizeLine:=by decide
         clear hy hI hx
         walk_at "ev")
     have e2:(q16 1 (2^r.toNat-1:Int).toNat).map (λd=>D.tup [.int (i:Int),d])=((List.range (2^r.toNat-1:Int).toNat).map λ(q:Nat)=>[(i:Int),1+(q:Int)]).map tupD:=by
       unfold q16
       rw[ju,ju]
       rfl
     rw[e2]at cm
     have hl:=q1x (N:=i) r0 r4 (by omega)
     refine⟨_,_,rfl,.inl (qgj S _ _ _ (i:Int) FI _ (by rw[q29];exact q1d (by omega)) ?_ (hI _ _) cm),some (.int (i:Int)),?_⟩
     · rw[ja,ja,ja,List.length_range]
       exact q1d (by omega)
     · rw[qb4,xq])
 rw[q29,k9]at f1
 exact⟨v,f1⟩
theorem q7p(S:D)(N:Nat)(v:Option D)(F:List D)(FI:RhL)(FB:RhO)(z0:0<=sizeLine)(hI:FI [some S,some (.lst []),none]=some (q16 0 N,[some S,some (.lst []),none]))(hf:q0z (gSet 2) FB (q16 0 N) [some S,some (.lst []),none]=some (.nx [some S,some (.lst F),v])):
   runP true 1 3 (sSeq (sOwn 1 (mLst mNil)) (sSeq (sFor FI (gSet 2) FB) (q54 1))) [S]=some (.lst F):=by
 walk_at "ev"
theorem q9i(A B E:D)(RS:List D)(v1 v2:Option D):(q01 (mOp1 dLen (mOp2 dIx (mVar 0) (mRet (.int 2)))) mNil) [some (.tup [A,B,.tup RS,E]),v1,v2]=some ([.int (RS.length:Nat)],[some (.tup [A,B,.tup RS,E]),v1,v2]):=by
 walk_at "ev"
theorem qaz(S:D)(m:Int)(h:f_y1 [S]=some (.int m))(v1 v2:Option D):(q01 (mRet (.int 1)) (q01 (q0q f_y1 (q01 (mVar 0) mNil)) mNil)) [some S,v1,v2]=some ([.int 1,.int m],[some S,v1,v2]):=by
 walk_at "ev"
theorem qji(ok:q1i r taps rows e):f_y5 [schD r taps rows e]=some (.lst ((q08 r rows.length).map tupD)):=by
 have p16:=q3k ok.r0 ok.r4
 have m6:=ok.m6
 have hr:=p_y1 ok
 obtain⟨v,hf⟩:=q7q (schD r taps rows e) (q7z (q01 (mRet (.int 1)) (q01 (q0q f_y1 (q01 (mVar 0) mNil)) mNil))) ok.r0 ok.r4 rows.length m6 (λF i=>qcf (qaz _ _ hr _ _) (by decide) (by unfold big;simp;omega))
 have h1:=q7b (q9i (.int r) (.tup (taps.map D.int)) (.str e) (rows.map rowD) (some (.lst [])) none) (by unfold big;rw[ja];simp;omega)
 rw[ja,kh]at h1
 exact q7p _ _ _ _ _ _ (by decide) h1 hf
theorem qn0(S:D)(p q b L m o:Int)(SG PK:List D)(zs:List Int)(F:List D)(A B E:D)(RS:List D)(v5 v6:Option D)(hS:S=.tup [A,B,.tup RS,E])(hl:0<RS.length)(lF:F.length<sizeLine)(two:2<=sizeLine)(zx:3<=sizeLine)
   (hs:f_y3 [S,.int q,.int b]=some (.tup [.int L,.tup SG])) (ht:f_y4 [S,.int p,.tup SG]=some (.tup PK)) (hi:q2l PK=some zs) (hL:(L==0)=false):
   (sSeq (sSet 5 (q0q f_y3 (q01 (mVar 0) (q01 (mOp2 dIx (mVar 1) (mRet (.int 1))) (q01 (mVar 4) mNil)))))
 (sIf (q0c (mOp2 dNe (mOp2 dIx (mVar 5) (mRet (.int 0))) (mRet (.int 0))))
   (sSeq (sSet 6 (mOp1 qbc (q0q f_y4 (q01 (mVar 0) (q01 (mVar 2) (q01 (mOp2 dIx (mVar 5) (mRet (.int 1))) mNil))))))
 (sMut q1u 3 (q01 (mTup (q01 (mVar 4) (q01 (mVar 6) (q01 (mTup (q01 (mOp2 dMod (mOp2 dAdd (mVar 2) (mRet (.int 1))) (mOp1 dLen (mOp2 dIx (mVar 0) (mRet (.int 2))))) (q01 (mOp2 dIx (mVar 5) (mRet (.int 0))) mNil))) mNil)))) mNil)))
   sNil)) [some S,some (.tup [.int p,.int q]),some (.int p),some (.lst F),some (.int b),v5,v6]=some (.nx [some S,some (.tup [.int p,.int q]),some (.int p),some (.lst (F++[.tup [.int b,.int zs.sum,.tup [.int ((p+1) % (RS.length:Nat)),.int L]]])),some (.int b),some (.tup [.int L,.tup SG]),some (.int zs.sum)]):=by
 subst hS
 walk_at "ev"
theorem qq1(S:D)(p q b:Int)(SG:List D)(F:List D)(v5 v6:Option D)
   (hs:f_y3 [S,.int q,.int b]=some (.tup [.int 0,.tup SG])) (FA:RhO):
   (sSeq (sSet 5 (q0q f_y3 (q01 (mVar 0) (q01 (mOp2 dIx (mVar 1) (mRet (.int 1))) (q01 (mVar 4) mNil)))))
 (sIf (q0c (mOp2 dNe (mOp2 dIx (mVar 5) (mRet (.int 0))) (mRet (.int 0)))) FA
   sNil)) [some S,some (.tup [.int p,.int q]),some (.int p),some (.lst F),some (.int b),v5,v6]=some (.nx [some S,some (.tup [.int p,.int q]),some (.int p),some (.lst F),some (.int b),some (.tup [.int 0,.tup SG]),v6]):=by
 walk_at "ev"
theorem qcs(ok:q1i r taps rows e)(p q:Int)(p0:0<=p)(q0:1<=q)(q1:q<2^r.toNat):∀(bs:List Int),(∀b∈bs,b=0∨b=1)->∀(F:List D) (v4 v5 v6:Option D),F.length+bs.length<=1000->∃v4' v5' v6',
   q0z (gSet 4) (sSeq (sSet 5 (q0q f_y3 (q01 (mVar 0) (q01 (mOp2 dIx (mVar 1) (mRet (.int 1))) (q01 (mVar 4) mNil)))))
 (sIf (q0c (mOp2 dNe (mOp2 dIx (mVar 5) (mRet (.int 0))) (mRet (.int 0))))
   (sSeq (sSet 6 (mOp1 qbc (q0q f_y4 (q01 (mVar 0) (q01 (mVar 2) (q01 (mOp2 dIx (mVar 5) (mRet (.int 1))) mNil))))))
 (sMut q1u 3 (q01 (mTup (q01 (mVar 4) (q01 (mVar 6) (q01 (mTup (q01 (mOp2 dMod (mOp2 dAdd (mVar 2) (mRet (.int 1))) (mOp1 dLen (mOp2 dIx (mVar 0) (mRet (.int 2))))) (q01 (mOp2 dIx (mVar 5) (mRet (.int 0))) mNil))) mNil)))) mNil)))
   sNil)) (bs.map D.int) [some (schD r taps rows e),some (.tup [.int p,.int q]),some (.int p),some (.lst F),v4,v5,v6]=some (.nx [some (schD r taps rows e),some (.tup [.int p,.int q]),some (.int p),some (.lst (F++((bs.filter λb=>decide ((2*q+b) % 2^r.toNat≠0)).map (q6h r taps rows p q)).map q2t)),v4',v5',v6'])
 |[],_,F,v4,v5,v6,_=>⟨v4,v5,v6,by rw[List.filter_nil,List.map_nil,List.map_nil,List.map_nil,List.append_nil];rfl⟩
 | b::bs,hb,F,v4,v5,v6,hl=>by
   have b01:=hb b jg
   have hs:=p_y3 ok q b (by omega) q1 b01
   have t4:=ok.t4
   have ht:=qfq ok p.toNat (taps.map (sgn (2*q+b))) (by rw[ja];omega)
   rw[Int.toNat_of_nonneg p0]at ht
   have hl0:0<(rows.map rowD).length:=by have:=ok.m1;rw[ja];omega
   rw[jo]at hl
   have lF:F.length<sizeLine:=jt (by omega:F.length<1001) (by decide)
   rw[ji]
   by_cases z:(2*q+b) % 2^r.toNat=0
   · rw[z]at hs
     have hh:=λFA=>qq1 _ p q b _ F v5 v6 hs FA
     obtain⟨w4,w5,w6,ih⟩:=qcs ok p q p0 q0 q1 bs (λx hx=>hb x (jk _ hx)) F (some (.int b)) _ v6 (by omega)
     refine⟨w4,w5,w6,?_⟩
     rw[q5z (ρ1:=[some (schD r taps rows e),some (.tup [.int p,.int q]),some (.int p),some (.lst F),some (.int b),v5,v6]) rfl (hh _),ih,List.filter_cons_of_neg (by simpa using z)]
   · have hL:((2*q+b) % 2^r.toNat==0)=false:=beq_eq_false_iff_ne.mpr z
     have hh:=qn0 (schD r taps rows e) p q b _ 0 0 _ _ _ F _ _ _ _ v5 v6 rfl hl0 lF (by decide) (by decide) hs ht (q24 _) hL
     obtain⟨w4,w5,w6,ih⟩:=qcs ok p q p0 q0 q1 bs (λx hx=>hb x (jk _ hx)) (F++[q2t (q6h r taps rows p q b)]) (some (.int b)) (some (.tup [.int ((2*q+b) % 2^r.toNat),.tup ((taps.map (sgn (2*q+b))).map D.int)])) (some (.int (q5n (rowAt rows p.toNat) (taps.map (sgn (2*q+b)))).sum)) (by rw[jr];simp;omega)
     refine⟨w4,w5,w6,?_⟩
     have e1:D.tup [.int b,.int (q5n (rowAt rows p.toNat) (taps.map (sgn (2*q+b)))).sum,.tup [.int ((p+1) % ((rows.map rowD).length:Nat)),.int ((2*q+b) % 2^r.toNat)]]=q2t (q6h r taps rows p q b):=by
       rw[ja]
       rfl
     rw[e1]at hh
     rw[q5z (ρ1:=[some (schD r taps rows e),some (.tup [.int p,.int q]),some (.int p),some (.lst F),some (.int b),v5,v6]) rfl hh,ih,List.filter_cons_of_pos (by simpa using z),ji,ji,List.append_assoc]
     rfl
theorem qn1(S:D)(p q:Int)(F X:List D)(v4 v5 v6:Option D)(FI:RhL)(FB:RhO)(z0:0<=sizeLine)(hI:FI [some S,some (.tup [.int p,.int q]),some (.int p),some (.lst []),none,none,none]=some (X,[some S,some (.tup [.int p,.int q]),some (.int p),some (.lst []),none,none,none]))(hf:q0z (gSet 4) FB X [some S,some (.tup [.int p,.int q]),some (.int p),some (.lst []),none,none,none]=some (.nx [some S,some (.tup [.int p,.int q]),some (.int p),some (.lst F),v4,v5,v6])):
   runP true 2 7 (sSeq (sSet 2 (mOp2 dIx (mVar 1) (mRet (.int 0))))
 (sSeq (sOwn 3 (mLst mNil))
 (sSeq (sFor FI (gSet 4) FB) (q54 3)))) [S,.tup [.int p,.int q]]=some (.lst F):=by
 walk_at "ev"
theorem qlz(ρ:Rho)(two:2<=sizeLine):(mSeq (mTup (q01 (mRet (.int 0)) (q01 (mRet (.int 1)) mNil)))) ρ=some ([.int 0,.int 1],ρ):=by
 walk_at "ev"
theorem q8u(ok:q1i r taps rows e){n:List Int}(hn:n∈q08 r rows.length):f_y6 [schD r taps rows e,tupD n]=some (.lst ((q4b r taps rows n).map q2t)):=by
 obtain⟨p,q,rfl,p0,p1,q0,q1⟩:=mem_nodes.mp hn
 obtain⟨v4,v5,v6,hf⟩:=qcs ok p q p0 q0 q1 [0,1] (by simp) [] none none none (by decide)
 exact qn1 _ _ _ _ _ _ _ _ _ _ (by decide) (qlz _ (by decide)) hf
theorem qjd(S V N:D)(v:Option D)(ks:List Key)(gs:List (List Key×D))(L:List D)(hv:V=.lst L)(lg:gs.length<sizeLine)(hk:keyT N=some ks)(hp:f_y6 [S,N]=some (.lst L)):
   (q3u 1 (mOf (q20 f_y6 (q01 (mVar 0) (q01 (mVar 2) mNil)))) (mVar 2)) [some S,some (.dit gs),some N]=some (.nx [some S,some (.dit (putD gs ks V)),some N]):=by
 subst hv
 walk_at "ev"
theorem qmw(S G:D)(v:Option D)(NL:List D)(FB:RhO)(hn:f_y5 [S]=some (.lst NL))(hf:q0z (gSet 2) FB NL [some S,some (.dit []),none]=some (.nx [some S,some G,v])):
   runP false 1 3 (sSeq (q67 1)
 (sSeq (sFor (mSeq (mOf (q20 f_y5 (q01 (mVar 0) mNil)))) (gSet 2) FB)
 (sRet (mVar 1)))) [S]=some G:=by
 walk_at "ev"
theorem qd0(ok:q1i r taps rows e):f_y7 [schD r taps rows e]=some (dctD (λn=>.lst ((q4b r taps rows n).map q2t)) (q08 r rows.length)):=by
 obtain⟨v,hf⟩:=qe4 (fg:=gSet 2) (fb:=q3u 1 (mOf (q20 f_y6 (q01 (mVar 0) (q01 (mVar 2) mNil)))) (mVar 2)) (λn=>.lst ((q4b r taps rows n).map q2t)) (λv G=>[some (schD r taps rows e),some G,v]) tupD (q08 r rows.length) (q2b _) (q1x ok.r0 ok.r4 ok.m6)
   (λn hn v gs lg=>⟨[some (schD r taps rows e),some (.dit gs),some (tupD n)],rfl,some (tupD n),qjd _ _ _ v _ _ _ rfl lg (q2o n) (q8u ok hn)⟩) none
 exact qmw _ _ _ _ _ (qji ok) hf
end
section
variable{r:Int}{taps:List Int}{rows:List (List Int)}{e:Str}
theorem qez(a b k:Nat):(a / 2^k) &&& (b / 2^k)=(a &&& b) / 2^k:=by
 apply Nat.eq_of_testBit_eq
 intro i
 rw[Nat.testBit_and,Nat.testBit_div_two_pow,Nat.testBit_div_two_pow,Nat.testBit_div_two_pow,Nat.testBit_and]
theorem qk7(W t:Int)(hW:0<=W)(ht:0<=t)(k:Nat):Builtin.bitAnd (Builtin.bitAnd (W / 2^k) (t / 2^k)) 1=((W.toNat &&& t.toNat:Nat):Int) / 2^k % 2:=by
 have p0:(0:Int)<2^k:=Int.pow_pos (by decide)
 have w1:0<=W / 2^k:=Int.ediv_nonneg hW (Int.le_of_lt p0)
 have t1:0<=t / 2^k:=Int.ediv_nonneg ht (Int.le_of_lt p0)
 have ea:=qf1 w1 t1
 have half:∀x:Int,0<=x->(x / 2^k).toNat=x.toNat / 2^k:=λx hx=>by
   obtain⟨n,rfl⟩:=Int.eq_ofNat_of_zero_le hx
   have:(((n:Nat):Int) / 2^k)=((n / 2^k:Nat):Int):=by simp
   rw[this,kh]
   rfl
 rw[ea,half W hW,half t ht,qez,qf0 (Int.natCast_nonneg _)]
 simp
theorem qk6(k W t:Int)(k0:0<=k):(mOp2 dAnd (mOp2 dAnd (mOp2 dShr (mVar 1) (mVar 0)) (mOp2 dShr (mVar 2) (mVar 0))) (mRet (.int 1))) [some (.int k),some (.int W),some (.int t)]=some (.int (Builtin.bitAnd (Builtin.bitAnd (W / 2^k.toNat) (t / 2^k.toNat)) 1),[some (.int k),some (.int W),some (.int t)]):=by
 walk_at "ev"
theorem qk3(ρ:Rho)(R5 YD:List D)(Y:List Int)(FI:RhL)(FE:RhD)(l5:R5.length<=sizeLine)(hFI:FI ρ=some (R5,ρ))(ci:q0e 1 [4,6] none (gSet 0) (mRet true) FE R5 ρ=some (YD,ρ))(hi:q2l YD=some Y):
   (mOp2 dMod (mOp1 dSum (mOf (q15 1 [4,6] none FI (gSet 0) (mRet true) FE))) (mRet (.int 2))) ρ=some (.int (Y.sum % 2),ρ):=by
 walk_at "ev"
theorem qk5(S A B C:Option D)(W t tot kp:Int)(v8:Option D)(hW:0<=W)(ht:0<=t):(mOp2 dMod (mOp1 dSum (mOf (q15 1 [4,6] none (q3m (q01 (mRet (.int 5)) mNil)) (gSet 0) (mRet true) (mOp2 dAnd (mOp2 dAnd (mOp2 dShr (mVar 1) (mVar 0)) (mOp2 dShr (mVar 2) (mVar 0))) (mRet (.int 1)))))) (mRet (.int 2))) [S,A,B,C,some (.int W),some (.int tot),some (.int t),some (.int kp),v8]=some (.int (sgn W t),[S,A,B,C,some (.int W),some (.int tot),some (.int t),some (.int kp),v8]):=by
 generalize hN:W.toNat &&& t.toNat=N
 have ci:=q5k (n:=1) (js:=[4,6]) (fg:=gSet 0) (fe:=mOp2 dAnd (mOp2 dAnd (mOp2 dShr (mVar 1) (mVar 0)) (mOp2 dShr (mVar 2) (mVar 0))) (mRet (.int 1))) (ρ:=[S,A,B,C,some (.int W),some (.int tot),some (.int t),some (.int kp),v8])
   (λd=>match d with|.int k=>.int ((N:Int) / 2^k.toNat % 2)|d=>d) (q16 0 5) (λy hy=>by
     obtain⟨k,hk⟩:=List.mem_iff_getElem?.mp hy
     obtain⟨hk1,rfl⟩:=q39 hk
     rw[Int.zero_add]
     refine⟨[some (.int (k:Int)),some (.int W),some (.int t)],rfl,?_⟩
     rw[qk6 _ _ _ (by omega),kh,qk7 W t hW ht k,hN]
     rfl)
 have er:(q16 0 5).map (λd=>match d with|.int k=>D.int ((N:Int) / 2^k.toNat % 2)|d=>d)=[(N:Int) / 2^(0:Int).toNat % 2,(N:Int) / 2^(1:Int).toNat % 2,(N:Int) / 2^(2:Int).toNat % 2,(N:Int) / 2^(3:Int).toNat % 2,(N:Int) / 2^(4:Int).toNat % 2].map D.int:=rfl
 rw[er]at ci
 have hp:=qjh N
 have es:[(N:Int) / 2^(0:Int).toNat % 2,(N:Int) / 2^(1:Int).toNat % 2,(N:Int) / 2^(2:Int).toNat % 2,(N:Int) / 2^(3:Int).toNat % 2,(N:Int) / 2^(4:Int).toNat % 2].sum=((N:Int) / 2^(0:Int).toNat % 2+((N:Int) / 2^(1:Int).toNat % 2+((N:Int) / 2^(2:Int).toNat % 2+((N:Int) / 2^(3:Int).toNat % 2+((N:Int) / 2^(4:Int).toNat % 2+0))))):=rfl
 rw[<-es]at hp
 have e0:sgn W t=(parF 5 N:Nat):=by unfold sgn;rw[hN]
 rw[e0,<-hp]
 exact qk3 _ _ _ _ _ _ (by decide) (q7b rfl (by decide)) ci (q24 _)
theorem qg2(S A B C:Option D)(W t tot kp o:Int)(v8:Option D)(FO:RhD)(ho:o=0∨o=1)(hk:kp=0∨kp=1)(hf:FO [S,A,B,C,some (.int W),some (.int tot),some (.int t),some (.int kp),v8]=some (.int o,[S,A,B,C,some (.int W),some (.int tot),some (.int t),some (.int kp),v8])):
   (sSeq (sSet 8 FO) (sAug (λi j=>i+j) 5 (mOp2 q4f (mVar 8) (mVar 7)))) [S,A,B,C,some (.int W),some (.int tot),some (.int t),some (.int kp),v8]=some (.nx [S,A,B,C,some (.int W),some (.int (tot+o*kp)),some (.int t),some (.int kp),some (.int o)]):=by
 rcases ho with rfl|rfl<;>rcases hk with rfl|rfl<;>walk_at "ev"
theorem qdo(S A B C:Option D)(W:Int)(hW:0<=W):∀(ps:List (Int×Int)),(∀q∈ps,0<=q.1/\(q.2=0∨q.2=1))->∀(tot:Int) (v6 v7 v8:Option D),∃v6' v7' v8',q0z (q36 2 (q0y (gSet 6) (q0y (gSet 7) q3f)))
   (sSeq (sSet 8 (mOp2 dMod (mOp1 dSum (mOf (q15 1 [4,6] none (q3m (q01 (mRet (.int 5)) mNil)) (gSet 0) (mRet true) (mOp2 dAnd (mOp2 dAnd (mOp2 dShr (mVar 1) (mVar 0)) (mOp2 dShr (mVar 2) (mVar 0))) (mRet (.int 1)))))) (mRet (.int 2))))
 (sAug (λi j=>i+j) 5 (mOp2 q4f (mVar 8) (mVar 7)))) (ps.map λq=>D.tup [.int q.1,.int q.2]) [S,A,B,C,some (.int W),some (.int tot),v6,v7,v8]=some (.nx [S,A,B,C,some (.int W),some (.int (tot+(ps.map λq=>sgn W q.1*q.2).sum)),v6',v7',v8'])
 |[],_,tot,v6,v7,v8=>⟨v6,v7,v8,by rw[List.map_nil,List.map_nil,List.sum_nil,Int.add_zero];rfl⟩
 | q::ps,h,tot,v6,v7,v8=>by
   obtain⟨t0,hk⟩:=h q jg
   obtain⟨w6,w7,w8,ih⟩:=qdo S A B C W hW ps (λx hx=>h x (jk _ hx)) (tot+sgn W q.1*q.2) (some (.int q.1)) (some (.int q.2)) (some (.int (sgn W q.1)))
   refine⟨w6,w7,w8,?_⟩
   rw[ji,q5z (ρ1:=[S,A,B,C,some (.int W),some (.int tot),some (.int q.1),some (.int q.2),v8]) rfl (qg2 S A B C W q.1 tot q.2 _ v8 _ (qip _ _) hk (qk5 S A B C W q.1 tot q.2 v8 hW t0)),ih,ji,List.sum_cons,Int.add_assoc]
theorem qk2(A E:D)(TS RS R Z:List D)(p:Int)(v1 v2 v4 v5 v6 v7 v8:Option D)(hr:atI RS p=some (.tup R))(hz:zipD TS R=Z):
   (mZip (q01 (mOp2 dIx (mVar 0) (mRet (.int 1))) (q01 (mOp2 dIx (mOp2 dIx (mVar 0) (mRet (.int 2))) (mVar 3)) mNil))) [some (.tup [A,.tup TS,.tup RS,E]),v1,v2,some (.int p),v4,v5,v6,v7,v8]=some (Z,[some (.tup [A,.tup TS,.tup RS,E]),v1,v2,some (.int p),v4,v5,v6,v7,v8]):=by
 walk_at "ev"
theorem qk4(r q b p tot m:Int)(T RS E:D)(Z:List D)(v6 v7 v8:Option D)(FI:RhL)(FG:RhG)(FB:RhO)(two:2<=sizeLine)(r0:0<=r)(r6:r<=1000000)(hm:2^r.toNat=m)(m0:0<m)
   (hI:FI [some (.tup [.int r,T,RS,E]),some (.int q),some (.int b),some (.int p),some (.int (2*q+b)),some (.int 0),none,none,none]=some (Z,[some (.tup [.int r,T,RS,E]),some (.int q),some (.int b),some (.int p),some (.int (2*q+b)),some (.int 0),none,none,none]))
   (hf:q0z FG FB Z [some (.tup [.int r,T,RS,E]),some (.int q),some (.int b),some (.int p),some (.int (2*q+b)),some (.int 0),none,none,none]=some (.nx [some (.tup [.int r,T,RS,E]),some (.int q),some (.int b),some (.int p),some (.int (2*q+b)),some (.int tot),v6,v7,v8])):
   runP false 4 9 (sSeq (sSet 4 (mOp2 dAdd (mOp2 q4f (mRet (.int 2)) (mVar 1)) (mVar 2)))
 (sSeq (sSet 5 (mRet (.int 0)))
 (sSeq (sFor FI FG FB)
 (sRet (mTup (q01 (mOp2 dMod (mVar 4) (mOp2 dShl (mRet (.int 1)) (mOp2 dIx (mVar 0) (mRet (.int 0))))) (q01 (mVar 5) mNil))))))) [.tup [.int r,T,RS,E],.int q,.int b,.int p]=some (.tup [.int ((2*q+b) % m),.int tot]):=by
 subst hm
 walk_at "ev"
theorem qpt(ok:q1i r taps rows e)(p q b:Int)(p0:0<=p)(p1:p<(rows.length:Nat))(q0:0<=q)(hb:b=0∨b=1):f_y17 [schD r taps rows e,.int q,.int b,.int p]=some (.tup [.int ((2*q+b) % 2^r.toNat),.int (qd5 taps rows p (2*q+b))]):=by
 have r4:=ok.r4
 have hr:=qhc ok p.toNat
 rw[ja,Int.toNat_of_nonneg p0,Int.emod_eq_of_lt p0 p1]at hr
 have hz:zipD (taps.map D.int) ((rowAt rows p.toNat).map D.int)=(taps.zip (rowAt rows p.toNat)).map λq=>D.tup [.int q.1,.int q.2]:=q74 _ _
 have zp:∀b∈rowAt rows p.toNat,b=0∨b=1:=by
   unfold rowAt
   have hk:p.toNat % rows.length<rows.length:=Nat.mod_lt _ (by have:=ok.m1;omega)
   rw[jf hk]
   exact(ok.rw _ (List.getElem_mem hk)).2
 obtain⟨v6,v7,v8,hf⟩:=qdo (some (schD r taps rows e)) (some (.int q)) (some (.int b)) (some (.int p)) (2*q+b) (by omega) (taps.zip (rowAt rows p.toNat)) (λx hx=>⟨(ok.tb _ (List.of_mem_zip hx).1).1,zp _ (List.of_mem_zip hx).2⟩) 0 none none none
 rw[Int.zero_add,<-q9d (sgn (2*q+b)) taps _ zp]at hf
 exact qk4 r q b p _ _ _ _ _ _ _ _ _ _ _ _ (by decide) ok.r0 (by omega) rfl (Int.pow_pos (by decide)) (qk2 _ _ _ _ _ _ _ _ _ _ _ _ _ _ hr hz) hf
theorem qfb(r m:Int)(T RS E:D)(r0:0<=r)(r6:r<=1000000)(hm:1*2^r.toNat=m)(v1 v2:Option D):(q01 (mRet (.int 1)) (q01 (mOp2 dShl (mRet (.int 1)) (mOp2 dIx (mVar 0) (mRet (.int 0)))) mNil)) [some (.tup [.int r,T,RS,E]),v1,v2]=some ([.int 1,.int m],[some (.tup [.int r,T,RS,E]),v1,v2]):=by
 subst hm
 walk_at "ev"
theorem qbk(ok:q1i r taps rows e):f_y18 [schD r taps rows e]=some (.lst ((q08 r rows.length).map tupD)):=by
 have p16:=q3k ok.r0 ok.r4
 have m6:=ok.m6
 have r4:=ok.r4
 obtain⟨v,hf⟩:=q7q (schD r taps rows e) (q7z (q01 (mRet (.int 1)) (q01 (mOp2 dShl (mRet (.int 1)) (mOp2 dIx (mVar 0) (mRet (.int 0)))) mNil))) ok.r0 ok.r4 rows.length m6 (λF i=>qcf (qfb r (2^r.toNat) _ _ _ ok.r0 (by omega) (Int.one_mul _) _ _) (by decide) (by unfold big;simp;omega))
 have h1:=q7b (q9i (.int r) (.tup (taps.map D.int)) (.str e) (rows.map rowD) (some (.lst [])) none) (by unfold big;rw[ja];simp;omega)
 rw[ja,kh]at h1
 exact q7p _ _ _ _ _ _ (by decide) h1 hf
theorem qlr(S:D)(p q b L o:Int)(F:List D)(A B E:D)(RS:List D)(v4 v5:Option D)(hS:S=.tup [A,B,.tup RS,E])(hl:0<RS.length)(lF:F.length<sizeLine)(two:2<=sizeLine)(zx:3<=sizeLine)
   (hs:f_y17 [S,.int q,.int b,.int p]=some (.tup [.int L,.int o])) (hL:0<L):
   (sSeq (sAsg (q0q f_y17 (q01 (mVar 0) (q01 (mOp2 dIx (mVar 1) (mRet (.int 1))) (q01 (mVar 3) (q01 (mOp2 dIx (mVar 1) (mRet (.int 0))) mNil))))) (q36 2 (q0y (gSet 4) (q0y (gSet 5) q3f))))
 (sIf (q0c (mOp2 dGt (mVar 4) (mRet (.int 0))))
   (sMut q1u 2 (q01 (mTup (q01 (mVar 3) (q01 (mVar 5) (q01 (mTup (q01 (mOp2 dMod (mOp2 dAdd (mOp2 dIx (mVar 1) (mRet (.int 0))) (mRet (.int 1))) (mOp1 dLen (mOp2 dIx (mVar 0) (mRet (.int 2))))) (q01 (mVar 4) mNil))) mNil)))) mNil))
   sNil)) [some S,some (.tup [.int p,.int q]),some (.lst F),some (.int b),v4,v5]=some (.nx [some S,some (.tup [.int p,.int q]),some (.lst (F++[.tup [.int b,.int o,.tup [.int ((p+1) % (RS.length:Nat)),.int L]]])),some (.int b),some (.int L),some (.int o)]):=by
 subst hS
 walk_at "ev"
theorem qps(S:D)(p q b L o:Int)(F:List D)(v4 v5:Option D)(hs:f_y17 [S,.int q,.int b,.int p]=some (.tup [.int L,.int o]))(hL:¬0<L)(FA:RhO):
   (sSeq (sAsg (q0q f_y17 (q01 (mVar 0) (q01 (mOp2 dIx (mVar 1) (mRet (.int 1))) (q01 (mVar 3) (q01 (mOp2 dIx (mVar 1) (mRet (.int 0))) mNil))))) (q36 2 (q0y (gSet 4) (q0y (gSet 5) q3f))))
 (sIf (q0c (mOp2 dGt (mVar 4) (mRet (.int 0)))) FA sNil)) [some S,some (.tup [.int p,.int q]),some (.lst F),some (.int b),v4,v5]=some (.nx [some S,some (.tup [.int p,.int q]),some (.lst F),some (.int b),some (.int L),some (.int o)]):=by
 walk_at "ev"
theorem qbg(ok:q1i r taps rows e)(p q:Int)(p0:0<=p)(p1:p<(rows.length:Nat))(q0:1<=q):∀(bs:List Int),(∀b∈bs,b=0∨b=1)->∀(F:List D) (v3 v4 v5:Option D),F.length+bs.length<=1000->∃v3' v4' v5',
   q0z (gSet 3) (sSeq (sAsg (q0q f_y17 (q01 (mVar 0) (q01 (mOp2 dIx (mVar 1) (mRet (.int 1))) (q01 (mVar 3) (q01 (mOp2 dIx (mVar 1) (mRet (.int 0))) mNil))))) (q36 2 (q0y (gSet 4) (q0y (gSet 5) q3f))))
 (sIf (q0c (mOp2 dGt (mVar 4) (mRet (.int 0))))
   (sMut q1u 2 (q01 (mTup (q01 (mVar 3) (q01 (mVar 5) (q01 (mTup (q01 (mOp2 dMod (mOp2 dAdd (mOp2 dIx (mVar 1) (mRet (.int 0))) (mRet (.int 1))) (mOp1 dLen (mOp2 dIx (mVar 0) (mRet (.int 2))))) (q01 (mVar 4) mNil))) mNil)))) mNil))
   sNil)) (bs.map D.int) [some (schD r taps rows e),some (.tup [.int p,.int q]),some (.lst F),v3,v4,v5]=some (.nx [some (schD r taps rows e),some (.tup [.int p,.int q]),some (.lst (F++((bs.filter λb=>decide ((2*q+b) % 2^r.toNat≠0)).map (q6h r taps rows p q)).map q2t)),v3',v4',v5'])
 |[],_,F,v4,v5,v6,_=>⟨v4,v5,v6,by rw[List.filter_nil,List.map_nil,List.map_nil,List.map_nil,List.append_nil];rfl⟩
 | b::bs,hb,F,v3,v4,v5,hl=>by
   have b01:=hb b jg
   have hs:=qpt ok p q b p0 p1 (by omega) b01
   have hl0:0<(rows.map rowD).length:=by have:=ok.m1;rw[ja];omega
   rw[jo]at hl
   have lF:F.length<sizeLine:=jt (by omega:F.length<1001) (by decide)
   have m0:(0:Int)<2^r.toNat:=Int.pow_pos (by decide)
   have w0:=Int.emod_nonneg (2*q+b) (show(2:Int)^r.toNat≠0 by omega)
   rw[ji]
   by_cases z:(2*q+b) % 2^r.toNat=0
   · have hh:=λFA=>qps _ p q b _ _ F v4 v5 hs (by omega) FA
     obtain⟨w3,w4,w5,ih⟩:=qbg ok p q p0 p1 q0 bs (λx hx=>hb x (jk _ hx)) F (some (.int b)) (some (.int ((2*q+b) % 2^r.toNat))) (some (.int (qd5 taps rows p (2*q+b)))) (by omega)
     refine⟨w3,w4,w5,?_⟩
     rw[q5z (ρ1:=[some (schD r taps rows e),some (.tup [.int p,.int q]),some (.lst F),some (.int b),v4,v5]) rfl (hh _),ih,List.filter_cons_of_neg (by simpa using z)]
   · have hh:=qlr (schD r taps rows e) p q b _ _ F _ _ _ _ v4 v5 rfl hl0 lF (by decide) (by decide) hs (by omega)
     obtain⟨w3,w4,w5,ih⟩:=qbg ok p q p0 p1 q0 bs (λx hx=>hb x (jk _ hx)) (F++[q2t (q6h r taps rows p q b)]) (some (.int b)) (some (.int ((2*q+b) % 2^r.toNat))) (some (.int (qd5 taps rows p (2*q+b)))) (by rw[jr];simp;omega)
     refine⟨w3,w4,w5,?_⟩
     have e1:D.tup [.int b,.int (qd5 taps rows p (2*q+b)),.tup [.int ((p+1) % ((rows.map rowD).length:Nat)),.int ((2*q+b) % 2^r.toNat)]]=q2t (q6h r taps rows p q b):=by
       rw[ja]
       rfl
     rw[e1]at hh
     rw[q5z (ρ1:=[some (schD r taps rows e),some (.tup [.int p,.int q]),some (.lst F),some (.int b),v4,v5]) rfl hh,ih,List.filter_cons_of_pos (by simpa using z),ji,ji,List.append_assoc]
     rfl
theorem qls(S N:D)(F X:List D)(v3 v4 v5:Option D)(FI:RhL)(FB:RhO)(z0:0<=sizeLine)(hI:FI [some S,some N,some (.lst []),none,none,none]=some (X,[some S,some N,some (.lst []),none,none,none]))(hf:q0z (gSet 3) FB X [some S,some N,some (.lst []),none,none,none]=some (.nx [some S,some N,some (.lst F),v3,v4,v5])):
   runP true 2 6 (sSeq (sOwn 2 (mLst mNil)) (sSeq (sFor FI (gSet 3) FB) (q54 2))) [S,N]=some (.lst F):=by
 walk_at "ev"
theorem qih(ρ:Rho)(two:2<=sizeLine):(mSeq (mOf (mLst (q01 (mRet (.int 0)) (q01 (mRet (.int 1)) mNil))))) ρ=some ([.int 0,.int 1],ρ):=by
 walk_at "ev"
theorem qlu(ok:q1i r taps rows e){n:List Int}(hn:n∈q08 r rows.length):f_y19 [schD r taps rows e,tupD n]=some (.lst ((q4b r taps rows n).map q2t)):=by
 obtain⟨p,q,rfl,p0,p1,q0,q1⟩:=mem_nodes.mp hn
 obtain⟨v4,v5,v6,hf⟩:=qbg ok p q p0 p1 q0 [0,1] (by simp) [] none none none (by decide)
 exact qls _ _ _ _ _ _ _ _ _ (by decide) (qih _ (by decide)) hf
end
theorem qek{n p q:Nat}{js:List Nat}{fg:RhG}{fe:RhD}{ρ:Rho}(g:D->D):∀(xs:List D),(∀x∈xs,∃ρ1 ρ2,fg x (q3p n js ρ)=some ρ1/\fe ρ1=some (g x,ρ2)/\q2w (some (p,q)) ρ ρ2=ρ)->q0e n js (some (p,q)) fg (mRet true) fe xs ρ=some (xs.map g,ρ)
 |[],_=>rfl
 | x::xs,h=>by
   obtain⟨ρ1,ρ2,h1,h2,h3⟩:=h x jg
   have ih:=qek (n:=n) (p:=p) (q:=q) (js:=js) (fg:=fg) (fe:=fe) (ρ:=ρ) g xs λy hy=>h y (jk _ hy)
   simp only[q0e,h1,mRet,h2,h3]
   rw[ih]
   rfl
section
variable{r:Int}{taps:List Int}{rows:List (List Int)}{e:Str}{P0:Addr}
theorem z0a(s:Int)(E:D):(sSet 3 (q14 f_y15 0 (q01 (mVar 1) mNil))) [some (.lst [.int s]),some (.int 4),some E,none,none,none,none]=some (.nx [some (.lst [.int (nxK s)]),some (.int 4),some E,some (.int (drK s 4)),none,none,none]):=by
 have h:=q3q s 4 (by decide)
 walk_at "ev"
theorem z0b(s x:Int)(E:D)(v4 v5 v6:Option D):(sIf (q0c (mOp2 dEq (q14 f_y15 0 (q01 (mRet (.int 9)) mNil)) (mRet (.int 0)))) (sSet 3 (mRet (.int 4))) sNil) [some (.lst [.int s]),some (.int 4),some E,some (.int x),v4,v5,v6]=some (.nx [some (.lst [.int (nxK s)]),some (.int 4),some E,some (.int (if(drK s 9==0)=true then 4 else x)),v4,v5,v6]):=by
 have h:=q3q s 9 (by decide)
 generalize drK s 9=d at h ⊢
 cases z:(d==0)<;>walk_at "ev"
theorem z5n(s:Int)(E X T R:D)(v6:Option D)(hd:(drK s 12==0)=false)(FA:RhO):(sIf (q0c (mOp2 dEq (q14 f_y15 0 (q01 (mRet (.int 12)) mNil)) (mRet (.int 0)))) FA sNil) [some (.lst [.int s]),some (.int 4),some E,some X,some T,some R,v6]=some (.nx [some (.lst [.int (nxK s)]),some (.int 4),some E,some X,some T,some R,v6]):=by
 have h:=q3q s 12 (by decide)
 generalize drK s 12=d at h hd
 walk_at "ev"
theorem z5y(s:Int)(E X R:D)(TS Z:List D)(v6:Option D)(hd:(drK s 12==0)=true)(one:1<=sizeLine)(lt:TS.length<=sizeLine)(cm:q0e 1 [] none (gSet 0) (mRet true) (mRet (.int 0)) TS [some (.lst [.int (nxK s)]),some (.int 4),some E,some X,some (.lst TS),some R,v6]=some (Z,[some (.lst [.int (nxK s)]),some (.int 4),some E,some X,some (.lst TS),some R,v6])):
   (sIf (q0c (mOp2 dEq (q14 f_y15 0 (q01 (mRet (.int 12)) mNil)) (mRet (.int 0)))) (sSet 5 (mOf (mLst (q01 (mOp1 q2d (mOf (q15 1 [] none (mSeq (mVar 4)) (gSet 0) (mRet true) (mRet (.int 0))))) mNil)))) sNil) [some (.lst [.int s]),some (.int 4),some E,some X,some (.lst TS),some R,v6]=some (.nx [some (.lst [.int (nxK s)]),some (.int 4),some E,some X,some (.lst TS),some (.lst [.tup Z]),v6]):=by
 have h:=q3q s 12 (by decide)
 generalize drK s 12=d at h hd
 walk_at "ev"
theorem z6(s r:Int)(E:D)(TS RS:List D)(v:Option D)(four:4<=sizeLine):(sRet (mTup (q01 (mVar 3) (q01 (mOp1 q2d (mVar 4)) (q01 (mOp1 q2d (mVar 5)) (q01 (mVar 2) mNil)))))) [some (.lst [.int s]),some (.int 4),some E,some (.int r),some (.lst TS),some (.lst RS),v]=some (.rt (.tup [.int r,.tup TS,.tup RS,E]) [some (.lst [.int s]),some (.int 4),some E,some (.int r),some (.lst TS),some (.lst RS),v]):=by
 walk_at "ev"
theorem q8m(s:Int)(e:Str)(he:e="open"∨e="ended"∨e="ring"):∃r taps rows s',f_y16 [.int s] [.int 4,.str e]=some (schD r taps rows e,[.int s'])/\q1i r taps rows e:=by
 have d0:=q8b s (m:=4) (by decide)
 have d4:=q8c s (m:=4) (by decide)
 have a0:=z0a s (.str e)
 have a0b:=z0b (nxK s) (drK s 4) (.str e) none none none
 obtain⟨r,hr⟩:∃r,(if(drK (nxK s) 9==0)=true then 4 else drK s 4)=r:=⟨_,rfl⟩
 have r0:0<=r/\r<=4:=by split at hr<;>omega
 rw[hr]at a0b
 obtain⟨taps,s1',a1,b1,b4,tb⟩:=s1 (nxK (nxK s)) r (.str e) r0.1 r0.2
 have a3:=s3 s1' r (.str e) (.lst (taps.map D.int)) (by decide)
 obtain⟨rows,s4',v,a4,m1,m6,zp⟩:=s4 s1' r (.str e) taps b1 b4
 obtain⟨rows',a5,m1',m6',hrow'⟩:∃rows':List (List Int),(sIf (q0c (mOp2 dEq (q14 f_y15 0 (q01 (mRet (.int 12)) mNil)) (mRet (.int 0)))) (sSet 5 (mOf (mLst (q01 (mOp1 q2d (mOf (q15 1 [] none (mSeq (mVar 4)) (gSet 0) (mRet true) (mRet (.int 0))))) mNil)))) sNil) [some (.lst [.int s4']),some (.int 4),some (.str e),some (.int r),some (.lst (taps.map D.int)),some (.lst (rows.map rowD)),v]=some (.nx [some (.lst [.int (nxK s4')]),some (.int 4),some (.str e),some (.int r),some (.lst (taps.map D.int)),some (.lst (rows'.map rowD)),v])/\1<=rows'.length/\rows'.length<=6/\∀row∈rows',row.length=taps.length/\∀b∈row,b=0∨b=1:=by
   cases hd:(drK s4' 12==0)with
   |false=>exact⟨rows,z5n _ _ _ _ _ _ hd _,m1,m6,zp⟩
   | true=>
     have cm:=q5k (n:=1) (js:=[]) (fg:=gSet 0) (fe:=mRet (.int 0)) (ρ:=[some (.lst [.int (nxK s4')]),some (.int 4),some (.str e),some (.int r),some (.lst (taps.map D.int)),some (.lst (rows.map rowD)),v]) (λ_=>.int 0) (taps.map D.int) (λx _=>⟨[some x],rfl,rfl⟩)
     have e2:(taps.map D.int).map (λ_=>D.int 0)=(taps.map λ_=>(0:Int)).map D.int:=by rw[ju,ju];rfl
     rw[e2]at cm
     refine⟨[taps.map λ_=>0],z5y _ _ _ _ _ _ _ hd (by decide) (by rw[ja];exact q1d (by omega)) cm,by simp,by simp,λrow zp=>?_⟩
     rw[List.mem_singleton.mp zp]
     refine⟨ja _,λb hb=>?_⟩
     obtain⟨_,_,rfl⟩:=List.mem_map.mp hb
     exact .inl rfl
 have a6:=z6 (nxK s4') r (.str e) (taps.map D.int) (rows'.map rowD) v (by decide)
 refine⟨r,taps,rows',nxK s4',?_,⟨r0.1,r0.2,b1,b4,tb,m1',m6',hrow',he⟩⟩
 have body:=(q3t a0).trans<|(q3t a0b).trans<|(q3t a1).trans<|(q3t a3).trans<|(q3t a4).trans<|(q3t a5).trans a6
 unfold f_y16 runS
 rw[if_pos (show [D.int 4,D.str e].length+1=3 from rfl)]
 show(match qeu [some (.lst [.int s]),some (.int 4),some (.str e),none,none,none,none]with
   | some (.rt d ρ)=>(match (ρ[0]? :Option (Option D))with
     |some (some (D.lst ys))=>some (d,ys)
     |_=>none)
   | some (.nx ρ)=>if false=true then none else(match (ρ[0]? :Option (Option D))with
     |some (some (D.lst ys))=>some (.non,ys)
     |_=>none)
   |_=>none)=_
 unfold qeu
 rw[body]
 rfl
end
section
variable{r:Int}{taps:List Int}{rows:List (List Int)}{e:Str}
def q1t(r:Int)(taps:List Int)(rows:List (List Int)):D:=dctD (λn=>.lst ((q0s r taps rows n).map tupD)) (q08 r rows.length)
theorem qkb(f:List Int->D)(ns:List (List Int))(v1 v2:Option D):(q80 (mVar 0)) [some (dctD f ns),v1,v2]=some (ns.map tupD,[some (dctD f ns),v1,v2]):=by
 rw[q6x]
 show some ((ns.map λn=>(ky n,f n)).map (λg=>D.tup (g.1.map keyD)),_)=_
 rw[qab]
theorem q41(n:List Int):(q0s r taps rows n).length<=2:=by
 unfold q0s
 rw[ja]
 refine jy (List.length_filter_le _ _) ?_
 unfold q4b
 rw[ja]
 exact List.length_filter_le _ _
theorem qj4(b o:Int)(N:D):(q0c (mOp2 dEq (mOp2 dIx (mVar 0) (mRet (.int 1))) (mRet (.int 0)))) [some (.tup [.int b,.int o,N])]=some (o==0,[some (.tup [.int b,.int o,N])]):=by
 walk_at "ev"
theorem qmu(b o:Int)(N:D):(mOp2 dIx (mVar 0) (mRet (.int 2))) [some (.tup [.int b,.int o,N])]=some (N,[some (.tup [.int b,.int o,N])]):=by
 walk_at "ev"
theorem qj5(ρ:Rho)(ps:List (Int×Int×List Int)):q0e 1 [] none (gSet 0) (q0c (mOp2 dEq (mOp2 dIx (mVar 0) (mRet (.int 1))) (mRet (.int 0)))) (mOp2 dIx (mVar 0) (mRet (.int 2))) (ps.map q2t) ρ=some (((ps.filter λp=>p.2.1==0).map (·.2.2)).map tupD,ρ):=by
 have cm:=q45 (n:=1) (js:=[]) (fg:=gSet 0) (ft:=q0c (mOp2 dEq (mOp2 dIx (mVar 0) (mRet (.int 1))) (mRet (.int 0)))) (fe:=mOp2 dIx (mVar 0) (mRet (.int 2))) (ρ:=ρ)
   (λd=>match d with|.tup [_,.int o,_]=>o==0|_=>false) (λd=>match d with|.tup [_,_,x]=>x|d=>d) (ps.map q2t) (λx hx=>by
     obtain⟨p,_,rfl⟩:=List.mem_map.mp hx
     refine⟨[some (q2t p)],rfl,qj4 _ _ _,λ_=>?_⟩
     show Option.map _ ((mOp2 dIx (mVar 0) (mRet (.int 2))) [some (.tup [.int p.1,.int p.2.1,tupD p.2.2])])=_
     rw[qmu]
     rfl)
 rw[cm,List.filter_map,ju,ju]
 rfl
theorem qj3(S N PS:D)(ks:List Key)(gs:List (List Key×D))(L Y:List D)(FT:RhB)(FE:RhD)(hL:PS=.lst L)(lg:gs.length<sizeLine)(ll:L.length<=sizeLine)(hk:keyT N=some ks)(cm:q0e 1 [] none (gSet 0) FT FE L [some S,some (.dit gs),some N,some PS]=some (Y,[some S,some (.dit gs),some N,some PS])):
   (q3u 1 (mOf (q15 1 [] none (mSeq (mVar 3)) (gSet 0) FT FE)) (mVar 2)) [some S,some (.dit gs),some N,some PS]=some (.nx [some S,some (.dit (putD gs ks (.lst Y))),some N,some PS]):=by
 subst hL
 walk_at "ev"
theorem qmt(S G:D)(v2 v3:Option D)(NL:List D)(FB:RhO)(FI:RhL)(FG:RhG)(hI:FI [some S,some (.dit []),none,none]=some (NL,[some S,some (.dit []),none,none]))(hf:q0z FG FB NL [some S,some (.dit []),none,none]=some (.nx [some S,some G,v2,v3])):
   runP false 1 4 (sSeq (q67 1) (sSeq (sFor FI FG FB) (sRet (mVar 1)))) [S]=some G:=by
 walk_at "ev"
theorem qpy(S:D)(f:List Int->D)(ns:List (List Int))(v1 v2 v3:Option D)(h:f_y7 [S]=some (dctD f ns)):(q81 (q0q f_y7 (q01 (mVar 0) mNil))) [some S,v1,v2,v3]=some (ns.map λn=>.tup [tupD n,f n],[some S,v1,v2,v3]):=by
 have h1:(q0q f_y7 (q01 (mVar 0) mNil)) [some S,v1,v2,v3]=some (dctD f ns,[some S,v1,v2,v3]):=by
   generalize dctD f ns=G at h ⊢
   walk_at "ev"
 rw[q89,h1]
 show some (q4k (ns.map λn=>(ky n,f n)),_)=_
 rw[qdv]
theorem q6i(ok:q1i r taps rows e):f_y8 [schD r taps rows e]=some (q1t r taps rows):=by
 obtain⟨v,hf⟩:=qe4 (fg:=q36 2 (q0y (gSet 2) (q0y (gSet 3) q3f))) (fb:=q3u 1 (mOf (q15 1 [] none (mSeq (mVar 3)) (gSet 0) (q0c (mOp2 dEq (mOp2 dIx (mVar 0) (mRet (.int 1))) (mRet (.int 0)))) (mOp2 dIx (mVar 0) (mRet (.int 2))))) (mVar 2)) (λn=>.lst ((q0s r taps rows n).map tupD))
   (λv G=>[some (schD r taps rows e),some G,v.bind λd=>(match d with|.tup [a,b]=>some a|_=>none),v.bind λd=>(match d with|.tup [a,b]=>some b|_=>none)]) (λn=>.tup [tupD n,.lst ((q4b r taps rows n).map q2t)]) (q08 r rows.length) (q2b _) (q1x ok.r0 ok.r4 ok.m6)
   (λn hn v gs lg=>⟨[some (schD r taps rows e),some (.dit gs),some (tupD n),some (.lst ((q4b r taps rows n).map q2t))],rfl,some (.tup [tupD n,.lst ((q4b r taps rows n).map q2t)]),qj3 _ _ _ _ _ _ _ _ _ rfl lg (by
     have:(q4b r taps rows n).length<=2:=by unfold q4b;rw[ja];exact List.length_filter_le _ _
     rw[ja];exact q1d (by omega)) (q2o n) (qj5 _ _)⟩) none
 exact qmt _ _ _ _ _ _ _ _ (qpy _ _ _ _ _ _ (qd0 ok)) hf
theorem q9a:∀bs:List Bool,q38 (bs.map D.bl)=some bs
 |[]=>rfl
 | b::bs=>by
   show(q38 (bs.map D.bl)).map (λx=>b::x)=_
   rw[q9a bs]
   rfl
theorem qey(A R:D)(dn:List (List Int×Int))(hR:R=dicP dn)(ms:List (List Int)):q0e 1 [1] none (gSet 0) (mRet true) (mOp2 (q2e false) (mVar 0) (mVar 1)) (ms.map tupD) [some A,some R]=some ((ms.map λm=>decide (m∈nsP dn)).map D.bl,[some A,some R]):=by
 have cm:=q5k (n:=1) (js:=[1]) (fg:=gSet 0) (fe:=mOp2 (q2e false) (mVar 0) (mVar 1)) (ρ:=[some A,some R]) (λd=>(q2e false d R).getD .non) (ms.map tupD) (λx hx=>by
   obtain⟨m,_,rfl⟩:=List.mem_map.mp hx
   refine⟨[some (tupD m),some R],rfl,?_⟩
   have h:=q6z false dn m
   rw[<-hR]at h
   show _=some ((q2e false (tupD m) R).getD .non)
   rw[h]
   generalize tupD m=T at h ⊢
   clear hx hR
   generalize q2e false=G at h ⊢
   walk_at "ev")
 rw[cm,ju,ju]
 congr 2
 refine List.map_congr_left λm _=>?_
 show(q2e false (tupD m) R).getD .non=_
 rw[hR,q6z]
 rfl
theorem qpl(R:D)(L Y:List D)(x:D)(FE:RhD)(ll:L.length<=sizeLine)(cm:q0e 1 [1] none (gSet 0) (mRet true) FE L [some (.lst L),some R]=some (Y,[some (.lst L),some R]))(ha:dAll (.lst Y)=some x):
   runP false 2 2 (sRet (mOp1 dAll (mOf (q15 1 [1] none (q7y (mVar 0)) (gSet 0) (mRet true) FE)))) [.lst L,R]=some x:=by
 generalize dAll=AA at ha ⊢
 walk_at "ev"
theorem qq4(dn:List (List Int×Int))(ms:List (List Int))(hl:ms.length<=1000):f_y9 [.lst (ms.map tupD),dicP dn]=some (.bl (ms.all λm=>decide (m∈nsP dn))):=by
 refine qpl _ _ _ _ _ (by rw[ja];exact q1d (by omega)) (qey _ _ dn rfl ms) ?_
 show(q38 ((ms.map λm=>decide (m∈nsP dn)).map D.bl)).map (λbs=>D.bl (bs.all id))=_
 rw[q9a,Option.map_some,List.all_map]
 rfl
theorem qis(N R:D)(b:Bool)(h:q2e true N R=some (.bl b)):(q0c (mOp2 (q2e true) (mVar 0) (mVar 1))) [some N,some R]=some (b,[some N,some R]):=by
 generalize q2e true=G at h ⊢
 walk_at "ev"
theorem q6j(j:Nat)(ρ:Rho)(dn:List (List Int×Int))(hj:(ρ[j]?).join=some (dicP dn))(ms:List (List Int)):q0e 1 [j] none (gSet 0) (q0c (mOp2 (q2e true) (mVar 0) (mVar 1))) (mVar 0) (ms.map tupD) ρ=some ((ms.filter λm=>!decide (m∈nsP dn)).map tupD,ρ):=by
 have cm:=q45 (n:=1) (js:=[j]) (fg:=gSet 0) (ft:=q0c (mOp2 (q2e true) (mVar 0) (mVar 1))) (fe:=mVar 0) (ρ:=ρ) (λd=>match q2e true d (dicP dn)with|some (.bl b)=>b|_=>false) (λd=>d) (ms.map tupD) (λx hx=>by
   obtain⟨m,_,rfl⟩:=List.mem_map.mp hx
   have h:=q6z true dn m
   refine⟨[some (tupD m),some (dicP dn)],by show some [some (tupD m),(ρ[j]?).join]=_;rw[hj],?_,λ_=>rfl⟩
   show _=some ((match q2e true (tupD m) (dicP dn)with|some (.bl b)=>b|_=>false),_)
   rw[h]
   exact qis _ _ _ h)
 rw[cm,List.filter_map,ju]
 congr 2
 have e1:(((λd=>match q2e true d (dicP dn)with|some (.bl b)=>b|_=>false):D->Bool)∘tupD)=λm=>!decide (m∈nsP dn):=by
   funext m
   show(match q2e true (tupD m) (dicP dn)with|some (.bl b)=>b|_=>false)=_
   rw[q6z]
   rfl
 rw[e1]
 rfl
theorem qfg(N R LD L:D)(b:Bool)(h:q0u LD N=some L)(ha:f_y9 [L,R]=some (.bl b)):(q0c (q0q f_y9 (q01 (mOp2 q0u (mVar 2) (mVar 0)) (q01 (mVar 1) mNil)))) [some N,some R,some LD]=some (b,[some N,some R,some LD]):=by
 generalize q0u=G at h ⊢
 walk_at "ev"
theorem qit(dn:List (List Int×Int))(V:Option D)(ms:List (List Int))(hm:∀m∈ms,m∈q08 r rows.length):q0e 1 [1,0] none (gSet 0) (q0c (q0q f_y9 (q01 (mOp2 q0u (mVar 2) (mVar 0)) (q01 (mVar 1) mNil)))) (mVar 0) (ms.map tupD) [some (q1t r taps rows),some (dicP dn),V]=some ((ms.filter λn=>(q0s r taps rows n).all λm=>decide (m∈nsP dn)).map tupD,[some (q1t r taps rows),some (dicP dn),V]):=by
 have key:∀m∈ms,(q0c (q0q f_y9 (q01 (mOp2 q0u (mVar 2) (mVar 0)) (q01 (mVar 1) mNil)))) [some (tupD m),some (dicP dn),some (q1t r taps rows)]=some ((q0s r taps rows m).all λm=>decide (m∈nsP dn),[some (tupD m),some (dicP dn),some (q1t r taps rows)]):=λm h=>
   qfg _ _ _ _ _ (q70 (λn=>.lst ((q0s r taps rows n).map tupD)) (hm m h)) (qq4 dn _ (by have:=q41 (r:=r) (taps:=taps) (rows:=rows) m;omega))
 induction ms with
 |nil=>rfl
 | cons m ms ih=>
   have h1:=key m jg
   have h2:=ih (λx hx=>hm x (jk _ hx)) λx hx=>key x (jk _ hx)
   rw[ji]
   have h0:gSet 0 (tupD m) (q3p 1 [1,0] [some (q1t r taps rows),some (dicP dn),V])=some [some (tupD m),some (dicP dn),some (q1t r taps rows)]:=rfl
   cases hb:(q0s r taps rows m).all λm=>decide (m∈nsP dn)with
   | false=>
     rw[hb]at h1
     rw[List.filter_cons_of_neg (by rw[hb];exact Bool.false_ne_true)]
     simp only[q0e,h0,h1,q2w]
     exact h2
   | true=>
     rw[hb]at h1
     rw[List.filter_cons_of_pos (p:=λn=>(q0s r taps rows n).all λm=>decide (m∈nsP dn)) hb,ji]
     have h3:(mVar 0) [some (tupD m),some (dicP dn),some (q1t r taps rows)]=some (tupD m,[some (tupD m),some (dicP dn),some (q1t r taps rows)]):=rfl
     simp only[q0e,h0,h1,h3,q2w]
     rw[h2]
theorem qmd(LD R:D)(NL LF Y:List D)(FI:RhL)(FT1 FT2:RhB)(FE:RhD)(l1:NL.length<=sizeLine)(l2:LF.length<=sizeLine)(hI:FI [some LD,some R,none]=some (NL,[some LD,some R,none]))(c1:q0e 1 [1] none (gSet 0) FT1 FE NL [some LD,some R,none]=some (LF,[some LD,some R,none]))
   (c2:q0e 1 [1,0] none (gSet 0) FT2 FE LF [some LD,some R,some (.lst LF)]=some (Y,[some LD,some R,some (.lst LF)])):
   runP true 2 3 (sSeq (sSet 2 (mOf (q15 1 [1] none FI (gSet 0) FT1 FE))) (q5m (q15 1 [1,0] none (mSeq (mVar 2)) (gSet 0) FT2 FE))) [LD,R]=some (.lst Y):=by
 walk_at "ev"
theorem qcz(ok:q1i r taps rows e)(dn:List (List Int×Int)):f_y10 [q1t r taps rows,dicP dn]=some (.lst ((rdy r taps rows (nsP dn)).map tupD)):=by
 have z9:=q1x ok.r0 ok.r4 ok.m6
 have c1:=q6j 1 [some (q1t r taps rows),some (dicP dn),none] dn rfl (q08 r rows.length)
 have c2:=qit (taps:=taps) (rows:=rows) (r:=r) dn (some (.lst (((q08 r rows.length).filter λm=>!decide (m∈nsP dn)).map tupD))) ((q08 r rows.length).filter λm=>!decide (m∈nsP dn)) (λm hm=>(List.mem_filter.mp hm).1)
 have e1:((q08 r rows.length).filter λm=>!decide (m∈nsP dn)).filter (λn=>(q0s r taps rows n).all λm=>decide (m∈nsP dn))=rdy r taps rows (nsP dn):=by
   unfold rdy
   rw[List.filter_filter]
   congr 1
   funext n
   rw[Bool.and_comm]
 rw[e1]at c2
 exact qmd _ _ _ _ _ _ _ _ _ (by rw[ja];exact q1d (by omega)) (by rw[ja];exact q1d (jy (List.length_filter_le _ _) (by omega))) (qkb _ _ _ _) c1 c2
end
section
variable{r:Int}{taps:List Int}{rows:List (List Int)}{e:Str}
def rkOf(dn:List (List Int×Int))(m:List Int):Int:=match q0u (dicP dn) (tupD m)with
 |some (.int v)=>v
 |_=>0
theorem q7c{dn:List (List Int×Int)}{m:List Int}(h:m∈nsP dn):q0u (dicP dn) (tupD m)=some (.int (rkOf dn m)):=by
 obtain⟨v,e⟩:=qal h
 unfold rkOf
 rw[e]
def RkOk(r:Int)(taps:List Int)(rows:List (List Int))(dn:List (List Int×Int)):Prop:=∀n∈nsP dn,(∀m∈q0s r taps rows n,m∈nsP dn)/\rkOf dn n=1+(maxI ((q0s r taps rows n).map (rkOf dn))).getD (-1)
theorem qe2(dn:List (List Int×Int))(m:List Int):q0u (dicP dn) (tupD m)=valD (dn.map λp=>(ky p.1,D.int p.2)) (ky m):=by
 show(match keyT (tupD m)with
   |some k=>valD (dn.map λ(p:List Int×Int)=>(ky p.1,D.int p.2)) k
   |none=>none)=_
 unfold tupD
 rw[q2o]
theorem qcg{dn:List (List Int×Int)}{m n:List Int}(v:Int)(h:m∈nsP dn):rkOf (dn++[(n,v)]) m=rkOf dn m:=by
 obtain⟨x,e⟩:=qal h
 have e2:q0u (dicP (dn++[(n,v)])) (tupD m)=some (.int x):=by
   rw[qe2]at e ⊢
   unfold valD at e ⊢
   rw[xq,List.find?_append]
   cases q:List.find? (λg=>decide (g.1=ky m)) (dn.map λp=>(ky p.1,D.int p.2))with
   |none=>rw[q]at e;cases e
   |some g=>rw[q]at e;exact e
 unfold rkOf
 rw[e,e2]
theorem qiu{dn:List (List Int×Int)}{n:List Int}(v:Int)(h:n∉nsP dn):rkOf (dn++[(n,v)]) n=v:=by
 have e2:q0u (dicP (dn++[(n,v)])) (tupD n)=some (.int v):=by
   rw[qe2]
   unfold valD
   rw[xq,List.find?_append]
   have:List.find? (λg=>decide (g.1=ky n)) (dn.map λp=>(ky p.1,D.int p.2))=none:=by
     rw[List.find?_eq_none]
     rintro g hg z
     obtain⟨p,hp,rfl⟩:=List.mem_map.mp hg
     exact h (List.mem_map.mpr ⟨p,hp,qa7 (of_decide_eq_true z)⟩)
   rw[this]
   simp
 unfold rkOf
 rw[e2]
theorem qme{dn:List (List Int×Int)}{n:List Int}(h:RkOk r taps rows dn)(hn:n∉nsP dn)(hl:∀m∈q0s r taps rows n,m∈nsP dn):RkOk r taps rows (dn++[(n,1+(maxI ((q0s r taps rows n).map (rkOf dn))).getD (-1))]):=by
 have e1:∀v,nsP (dn++[(n,v)])=nsP dn++[n]:=λv=>by unfold nsP;rw[xq];rfl
 intro k hk
 rw[e1]at hk ⊢
 have cg:∀v (l:List (List Int)),(∀m∈l,m∈nsP dn)->l.map (rkOf (dn++[(n,v)]))=l.map (rkOf dn):=λv l hl=>List.map_congr_left λm hm=>qcg v (hl m hm)
 rcases List.mem_append.mp hk with q|q
 · obtain⟨h1,h2⟩:=h k q
   refine⟨λm hm=>List.mem_append_left _ (h1 m hm),?_⟩
   rw[qcg _ q,cg _ _ h1]
   exact h2
 · have ek:=List.mem_singleton.mp q
   subst ek
   refine⟨λm hm=>List.mem_append_left _ (hl m hm),?_⟩
   rw[qiu _ hn,cg _ _ hl]
theorem q3r:∀ns:List (List Int),q3e (ns.map tupD)=some ns
 |[]=>rfl
 | m::ns=>by
   rw[ji,q3e,q3r ns,show tupI (tupD m)=some m from q24 m]
theorem qmk(N R:D)(x:Int)(h:q0u R N=some (.int x)):(q6p 1 (mVar 0)) [some N,some R]=some (.int x,[some N,some R]):=by
 generalize hG:q0u R N=g at h
 subst h
 rw[qea]
 show((some R).bind λx=>(q0u x N).map λd=>(d,[some N,some R]))=_
 show(q0u R N).map (λd=>(d,[some N,some R]))=_
 rw[hG]
 rfl
theorem qj1(LD A N:Option D)(dn:List (List Int×Int))(ms:List (List Int))(hm:∀m∈ms,m∈nsP dn):q0e 1 [1] (some (1,1)) (gSet 0) (mRet true) (q6p 1 (mVar 0)) (ms.map tupD) [LD,some (dicP dn),A,N]=some ((ms.map (rkOf dn)).map D.int,[LD,some (dicP dn),A,N]):=by
 have cm:=qek (n:=1) (p:=1) (q:=1) (js:=[1]) (fg:=gSet 0) (fe:=q6p 1 (mVar 0)) (ρ:=[LD,some (dicP dn),A,N]) (λd=>(q0u (dicP dn) d).getD .non) (ms.map tupD) (λx hx=>by
   obtain⟨m,h,rfl⟩:=List.mem_map.mp hx
   have hr:=q7c (hm m h)
   refine⟨[some (tupD m),some (dicP dn)],[some (tupD m),some (dicP dn)],rfl,?_,rfl⟩
   show _=some ((q0u (dicP dn) (tupD m)).getD .non,_)
   rw[qmk _ _ _ hr,hr]
   rfl)
 rw[cm,ju,ju]
 congr 2
 refine List.map_congr_left λm h=>?_
 show(q0u (dicP dn) (tupD m)).getD .non=_
 rw[q7c (hm m h)]
 rfl
theorem qiz(LD R RD N:D)(ks:List Key)(gs:List (List Key×D))(L Y:List D)(x:Int)(FE:RhD)(hR:R=.dit gs)(lg:gs.length<sizeLine)(ll:L.length<=sizeLine)(hk:keyT N=some ks)(hl:q0u LD N=some (.lst L))(cm:q0e 1 [1] (some (1,1)) (gSet 0) (mRet true) FE L [some LD,some R,some RD,some N]=some (Y,[some LD,some R,some RD,some N]))(hm:q2v (-1) (.lst Y)=some (.int x)):
   (q3u 1 (mOp2 dAdd (mRet (.int 1)) (mOp1 (q2v (-1)) (mOf (q15 1 [1] (some (1,1)) (mSeq (mOp2 q0u (mVar 0) (mVar 3))) (gSet 0) (mRet true) FE)))) (mVar 3)) [some LD,some R,some RD,some N]=some (.nx [some LD,some (.dit (putD gs ks (.int (1+x)))),some RD,some N]):=by
 subst hR
 generalize q0u=GG at hl ⊢
 generalize q2v (-1)=MM at hm ⊢
 walk_at "ev"
theorem qhe(RD:D):∀(rd:List (List Int)) (dn:List (List Int×Int)),(∀n∈rd,n∈q08 r rows.length)->rd.Nodup->(∀n∈rd,n∉nsP dn)->(∀n∈rd,∀m∈q0s r taps rows n,m∈nsP dn)->dn.length+rd.length<=1000->RkOk r taps rows dn->∀v3,∃dn' v3',q0z (gSet 3)
   (q3u 1 (mOp2 dAdd (mRet (.int 1)) (mOp1 (q2v (-1)) (mOf (q15 1 [1] (some (1,1)) (mSeq (mOp2 q0u (mVar 0) (mVar 3))) (gSet 0) (mRet true) (q6p 1 (mVar 0)))))) (mVar 3)) (rd.map tupD) [some (q1t r taps rows),some (dicP dn),some RD,v3]=some (.nx [some (q1t r taps rows),some (dicP dn'),some RD,v3'])/\nsP dn'=nsP dn++rd/\RkOk r taps rows dn'
 |[],dn,_,_,_,_,_,hk,v3=>⟨dn,v3,rfl,by rw[List.append_nil],hk⟩
 | n::rd,dn,hn,nd,hd,hl,hle,hrk,v3=>by
   have hnd:=List.nodup_cons.mp nd
   have cm:=qj1 (some (q1t r taps rows)) (some RD) (some (tupD n)) dn (q0s r taps rows n) (hl n jg)
   have hm:q2v (-1) (.lst (((q0s r taps rows n).map (rkOf dn)).map D.int))=some (.int ((maxI ((q0s r taps rows n).map (rkOf dn))).getD (-1))):=by
     unfold q2v
     dsimp only
     rw[q24]
     rfl
   rw[jo]at hle
   have ht:=qiz (q1t r taps rows) (dicP dn) RD (tupD n) _ _ _ _ _ _ rfl (by rw[ja];exact jt (by omega:dn.length<1001) (by decide)) (by rw[ja];exact q1d (by have:=q41 (r:=r) (taps:=taps) (rows:=rows) n;omega)) (q2o n) (q70 (λn=>.lst ((q0s r taps rows n).map tupD)) (hn n jg)) cm hm
   rw[qj6 _ (hd n jg)]at ht
   have e1:nsP (dn++[(n,1+(maxI ((q0s r taps rows n).map (rkOf dn))).getD (-1))])=nsP dn++[n]:=by unfold nsP;rw[xq];rfl
   obtain⟨dn',w3,ih,e2,hrk'⟩:=qhe RD rd (dn++[(n,1+(maxI ((q0s r taps rows n).map (rkOf dn))).getD (-1))]) (λm h=>hn m (jk _ h)) hnd.2 (λm h z=>by
       rw[e1]at z
       rcases List.mem_append.mp z with z|z
       · exact hd m (jk _ h) z
       · rw[List.mem_singleton.mp z]at h;exact hnd.1 h) (λm h q hq=>by rw[e1];exact List.mem_append_left _ (hl m (jk _ h) q hq)) (by rw[jr];simp;omega) (qme hrk (hd n jg) (hl n jg)) (some (tupD n))
   refine⟨dn',w3,?_,by rw[e2,e1,List.append_assoc];rfl,hrk'⟩
   rw[ji,q5z (ρ1:=[some (q1t r taps rows),some (dicP dn),some RD,some (tupD n)]) rfl ht]
   exact ih
theorem q9m(LD R:D)(NL:List D)(v2 v3:Option D)(h:f_y10 [LD,R]=some (.lst NL))(ht:(q3e NL).isSome=true):(sSet 2 (mOf (q2n f_y10 (q01 (mVar 0) (q01 (mVar 1) mNil))))) [some LD,some R,v2,v3]=some (.nx [some LD,some R,some (.lst NL),v3]):=by
 have h2:(q2n f_y10 (q01 (mVar 0) (q01 (mVar 1) mNil))) [some LD,some R,v2,v3]=some (NL,[some LD,some R,v2,v3]):=by
   rw[q8a]
   have:(q01 (mVar 0) (q01 (mVar 1) mNil)) [some LD,some R,v2,v3]=some ([LD,R],[some LD,some R,v2,v3]):=rfl
   rw[this]
   show(((f_y10 [LD,R]).bind tlsO).map λd=>(d,[some LD,some R,v2,v3]))=_
   rw[h]
   show((if(q3e NL).isSome=true then some NL else none).map λd=>(d,[some LD,some R,v2,v3]))=_
   rw[if_pos ht]
   rfl
 generalize (q2n f_y10 (q01 (mVar 0) (q01 (mVar 1) mNil)))=FC at h2 ⊢
 walk_at "ev"
theorem qj0(LD R:D)(NL:List D)(v3:Option D):(q0c (mOp2 dGt (mOp1 dLen (mVar 2)) (mRet (.int 0)))) [some LD,some R,some (.lst NL),v3]=some (decide ((0:Int)<(NL.length:Nat)),[some LD,some R,some (.lst NL),v3]):=by
 walk_at "ev"
theorem qj2(LD R R':D)(NL NL2:List D)(v3 v3':Option D)(FB FS:RhO)(hf:q0z (gSet 3) FB NL [some LD,some R,some (.lst NL),v3]=some (.nx [some LD,some R',some (.lst NL),v3']))(hs:FS [some LD,some R',some (.lst NL),v3']=some (.nx [some LD,some R',some (.lst NL2),v3'])):
   (sSeq (sFor (mSeq (mVar 2)) (gSet 3) FB) FS) [some LD,some R,some (.lst NL),v3]=some (.nx [some LD,some R',some (.lst NL2),v3']):=by
 walk_at "ev"
theorem q9l(ok:q1i r taps rows e):∀(fuel:Nat) (dn:List (List Int×Int)) (v3:Option D),Done r taps rows (nsP dn)->RkOk r taps rows dn->(q08 r rows.length).length-dn.length<fuel->∃dn' v3',q1a (q0c (mOp2 dGt (mOp1 dLen (mVar 2)) (mRet (.int 0))))
   (sSeq (sFor (mSeq (mVar 2)) (gSet 3)
   (q3u 1 (mOp2 dAdd (mRet (.int 1)) (mOp1 (q2v (-1)) (mOf (q15 1 [1] (some (1,1)) (mSeq (mOp2 q0u (mVar 0) (mVar 3))) (gSet 0) (mRet true) (q6p 1 (mVar 0)))))) (mVar 3)))
 (sSet 2 (mOf (q2n f_y10 (q01 (mVar 0) (q01 (mVar 1) mNil)))))) fuel [some (q1t r taps rows),some (dicP dn),some (.lst ((rdy r taps rows (nsP dn)).map tupD)),v3]=some (.nx [some (q1t r taps rows),some (dicP dn'),some (.lst []),v3'])/\Done r taps rows (nsP dn')/\rdy r taps rows (nsP dn')=[]/\RkOk r taps rows dn'
 |0,dn,_,_,_,h=>absurd h (Nat.not_lt_zero _)
 | fuel+1,dn,v3,hd,hrk,hf=>by
   have ht:=qj0 (q1t r taps rows) (dicP dn) ((rdy r taps rows (nsP dn)).map tupD) v3
   rw[ja]at ht
   unfold q1a
   rw[ht]
   by_cases z:rdy r taps rows (nsP dn)=[]
   · rw[z]
     exact⟨dn,v3,rfl,hd,z,hrk⟩
   · have zl:=List.length_pos_iff.mpr z
     rw[decide_eq_true (by omega)]
     dsimp only
     have ha:=qgt hd
     have hla:=q7o ha
     have hln:(nsP dn).length=dn.length:=by unfold nsP;rw[ja]
     rw[jr,hln]at hla
     have z9:=q1x ok.r0 ok.r4 ok.m6
     obtain⟨dn',w3,hfor,e2,hrk'⟩:=qhe (r:=r) (taps:=taps) (rows:=rows) (.lst ((rdy r taps rows (nsP dn)).map tupD)) (rdy r taps rows (nsP dn)) dn (λn h=>(rdy_mem.mp h).1) q7f (λn h=>(rdy_mem.mp h).2.1) (λn h=>(rdy_mem.mp h).2.2) (by omega) hrk v3
     rw[qj2 _ _ _ _ _ _ _ _ _ hfor (q9m _ _ _ _ _ (qcz ok dn') (by rw[q3r];rfl))]
     have hl2:dn'.length=dn.length+(rdy r taps rows (nsP dn)).length:=by
       have:=congrArg List.length e2
       unfold nsP at this
       rw[ja,jr,ja]at this
       exact this
     exact q9l ok fuel dn' w3 (by rw[e2];exact ha) hrk' (by omega)
theorem qmj(LD R:D)(NL:List D)(v2 v3:Option D)(W FS:RhO)(hs:FS [some LD,some (.dit []),none,none]=some (.nx [some LD,some (.dit []),some (.lst NL),none]))(hw:W [some LD,some (.dit []),some (.lst NL),none]=some (.nx [some LD,some R,v2,v3])):
   runP false 1 4 (sSeq (q67 1) (sSeq FS (sSeq W (sRet (mVar 1))))) [LD]=some R:=by
 walk_at "ev"
theorem qq3(ok:q1i r taps rows e):∃dn,f_y11 [q1t r taps rows]=some (dicP dn)/\Done r taps rows (nsP dn)/\rdy r taps rows (nsP dn)=[]/\RkOk r taps rows dn:=by
 have z9:=q1x ok.r0 ok.r4 ok.m6
 have hlen2:(q08 r rows.length).length<1000:=by
   have:=q43 (λ(p:Nat)=>(List.range (2^r.toNat-1:Int).toNat).map λ(q:Nat)=>[(p:Int),1+(q:Int)]) 16 (λk=>by rw[ja,List.length_range];have:=q3k ok.r0 ok.r4;omega) rows.length
   unfold q08
   have:=ok.m6
   omega
 obtain⟨dn,v3,hw,h1,h2,h3⟩:=q9l ok 1000 [] none qgs (λn h=>nomatch h) (by simp;omega)
 exact⟨dn,qmj _ _ _ _ _ _ _ (q9m _ _ _ _ _ (qcz ok []) (by rw[q3r];rfl)) hw,h1,h2,h3⟩
def Chn(r:Int)(taps:List Int)(rows:List (List Int))(way:List (List Int))(n:List Int):Prop:=∀(i:Nat) (x y:List Int),way[i]? =some x->(way++[n])[i+1]? =some y->y∈q0s r taps rows x
theorem qgv{way:List (List Int)}{n m:List Int}(h:Chn r taps rows way n)(hm:m∈q0s r taps rows n):Chn r taps rows (way++[n]) m:=λi x y hx hy=>by
 by_cases z:i<way.length
 · rw[xx z]at hx
   have hl:i+1<(way++[n]).length:=by rw[jr];simp;omega
   rw[xx hl]at hy
   exact h i x y hx hy
 · have zi:i=way.length:=by
     have:=(List.getElem?_eq_some_iff.mp hx).1
     rw[jr]at this
     simp at this
     omega
   subst zi
   rw[xr (jc _),Nat.sub_self]at hx
   cases hx
   have hl:(way++[n]).length<=way.length+1:=by rw[jr];simp
   rw[xr hl]at hy
   have e0:way.length+1-(way++[n]).length=0:=by rw[jr];simp
   rw[e0]at hy
   cases hy
   exact hm
theorem qdb(way:List (List Int))(n:List Int):q1f (tupD n) (.lst (way.map tupD))=some (.bl (!decide (n∈way))):=by
 unfold q1f
 dsimp only
 rw[show tupI (tupD n)=some n from q24 n,q3r]
 dsimp only
 congr 3
 rw[Bool.eq_iff_iff,decide_eq_true_eq,List.contains_iff_mem]
theorem qix(A B C W N:D)(b:Bool)(h:q1f N W=some (.bl b)):(q0c (mOp2 q1f (mVar 4) (mVar 3))) [some A,some B,some C,some W,some N]=some (b,[some A,some B,some C,some W,some N]):=by
 generalize q1f=NI at h ⊢
 walk_at "ev"
theorem qiy(A LD R N M:D)(F L Y:List D)(FT:RhB)(FE:RhD)(lF:F.length<sizeLine)(ll:L.length<=sizeLine)(hl:q0u LD N=some (.lst L))(cm:q0e 1 [2] none (gSet 0) FT FE L [some A,some LD,some R,some (.lst (F++[N])),some N]=some (Y,[some A,some LD,some R,some (.lst (F++[N])),some N]))(hy:atI Y 0=some M):
   (sSeq (sMut q1u 3 (q01 (mVar 4) mNil)) (sSet 4 (mOp2 dIx (mOf (q15 1 [2] none (mSeq (mOp2 q0u (mVar 1) (mVar 4))) (gSet 0) FT FE)) (mRet (.int 0))))) [some A,some LD,some R,some (.lst F),some N]=some (.nx [some A,some LD,some R,some (.lst (F++[N])),some M]):=by
 generalize q0u=GG at hl ⊢
 walk_at "ev"
theorem q9k(ok:q1i r taps rows e)(A:D)(dn:List (List Int×Int))(hr:rdy r taps rows (nsP dn)=[]):∀(fuel:Nat) (way:List (List Int)) (n:List Int),way.Nodup->(∀m∈way,m∈q08 r rows.length)->n∈q08 r rows.length->n∉nsP dn->Chn r taps rows way n->(q08 r rows.length).length-way.length<fuel->
   ∃way' n',q1a (q0c (mOp2 q1f (mVar 4) (mVar 3)))
   (sSeq (sMut q1u 3 (q01 (mVar 4) mNil))
 (sSet 4 (mOp2 dIx (mOf (q15 1 [2] none (mSeq (mOp2 q0u (mVar 1) (mVar 4))) (gSet 0) (q0c (mOp2 (q2e true) (mVar 0) (mVar 1))) (mVar 0))) (mRet (.int 0))))) fuel [some A,some (q1t r taps rows),some (dicP dn),some (.lst (way.map tupD)),some (tupD n)]=some (.nx [some A,some (q1t r taps rows),some (dicP dn),some (.lst (way'.map tupD)),some (tupD n')])/\n'∈way'/\Chn r taps rows way' n'/\(∀m∈way',m∈q08 r rows.length)/\way'.length<=1000/\way'.Nodup
 |0,_,_,_,_,_,_,_,h=>absurd h (Nat.not_lt_zero _)
 | fuel+1,way,n,nd,hw,hn,hd,hc,hf=>by
   have z9:=q1x ok.r0 ok.r4 ok.m6
   have hwl:way.length<=(q08 r rows.length).length:=List.Nodup.length_le_of_subset nd λm h=>hw m h
   have ht:=qix A (q1t r taps rows) (dicP dn) (.lst (way.map tupD)) (tupD n) _ (qdb way n)
   unfold q1a
   rw[ht]
   by_cases z:n∈way
   · rw[decide_eq_true z]
     exact⟨way,n,rfl,z,hc,hw,by omega,nd⟩
   · rw[decide_eq_false z,Bool.not_false]
     dsimp only
     obtain⟨m0,hm0,hm1⟩:=q8n ok hr hn hd
     have cm:=q6j 2 [some A,some (q1t r taps rows),some (dicP dn),some (.lst (way.map tupD++[tupD n])),some (tupD n)] dn rfl (q0s r taps rows n)
     cases hq:(q0s r taps rows n).filter λm=>!decide (m∈nsP dn)with
     | nil=>
       have:m0∈(q0s r taps rows n).filter λm=>!decide (m∈nsP dn):=List.mem_filter.mpr ⟨hm0,by simpa using hm1⟩
       rw[hq]at this
       exact nomatch this
     | cons m ms=>
       have hmem:m∈(q0s r taps rows n).filter λm=>!decide (m∈nsP dn):=by rw[hq];exact jg
       obtain⟨g1,g2⟩:=List.mem_filter.mp hmem
       have g2:m∉nsP dn:=by simpa using g2
       rw[hq]at cm
       have nd2:(way++[n]).Nodup:=by
         rw[List.nodup_append]
         exact⟨nd,by simp,λa ha b hb q=>by rw[List.mem_singleton.mp hb]at q;exact z (q▸ha)⟩
       have hw2:∀m∈way++[n],m∈q08 r rows.length:=λq hq=>by
         rcases List.mem_append.mp hq with h|h
         · exact hw q h
         · rw[List.mem_singleton.mp h];exact hn
       have hwl2:(way++[n]).length<=(q08 r rows.length).length:=List.Nodup.length_le_of_subset nd2 λm h=>hw2 m h
       rw[jr]at hwl2
       simp only[List.length_cons,List.length_nil]at hwl2
       rw[qiy A (q1t r taps rows) (dicP dn) (tupD n) (tupD m) (way.map tupD) _ _ _ _ (by rw[ja];exact jt (by omega:way.length<1001) (by decide)) (by rw[ja];exact q1d (by have:=q41 (r:=r) (taps:=taps) (rows:=rows) n;omega)) (q70 (λn=>.lst ((q0s r taps rows n).map tupD)) hn) cm (at0 _ _)]
       have e1:way.map tupD++[tupD n]=(way++[n]).map tupD:=by rw[xq];rfl
       rw[e1]
       exact q9k ok A dn hr fuel (way++[n]) m nd2 hw2 (qdp ok hn g1) g2 (qgv hc g1) (by rw[jr];simp;omega)
theorem qmg(A LD R N:D)(F Y:List D)(k:Int)(W:RhO)(z0:0<=sizeLine)(hw:W [some A,some LD,some R,some (.lst []),some A]=some (.nx [some A,some LD,some R,some (.lst F),some N]))(hi:q5q (.lst F) N=some (.int k))(hs:dSl (.lst F) (some k) none=some (.lst Y)):
   runP true 3 5 (sSeq (sOwn 3 (mLst mNil)) (sSeq (sSet 4 (mVar 0)) (sSeq W (q5m (mSlL (mVar 3) (q6o (mOp2 q5q (mVar 3) (mVar 4))) (mRet none)))))) [A,LD,R]=some (.lst Y):=by
 have h1:(q5m (mSlL (mVar 3) (q6o (mOp2 q5q (mVar 3) (mVar 4))) (mRet none))) [some A,some LD,some R,some (.lst F),some N]=some (.rt (.lst Y) [some A,some LD,some R,some (.lst F),some N]):=by
   have hs2:slO (.lst F) (some k) none=some Y:=by
     have e:dSl (.lst F) (some k) none=some (.lst (cutD F (some k) none)):=rfl
     rw[e]at hs
     cases hs
     rfl
   rw[qaj,qi7]
   generalize slO=SO at hs2 ⊢
   generalize q5q=IX at hi ⊢
   simp[qai,q97,qi9,qe9,q0j,hi,inO,hs2]
 generalize (q5m (mSlL (mVar 3) (q6o (mOp2 q5q (mVar 3) (mVar 4))) (mRet none)))=FR at h1 ⊢
 clear hi hs
 walk_at "ev"
structure Ring(r:Int)(taps:List Int)(rows:List (List Int))(z5:List (List Int)):Prop where
 ne:z5≠[]
 sub:∀n∈z5,n∈q08 r rows.length
 cyc:∀(i:Nat) (x y:List Int),z5[i]? =some x->(z5++z5.take 1)[i+1]? =some y->y∈q0s r taps rows x
 len:z5.length<=1000
 nd:z5.Nodup
theorem qn3(ok:q1i r taps rows e)(dn:List (List Int×Int))(hr:rdy r taps rows (nsP dn)=[]){n:List Int}(hn:n∈q08 r rows.length)(hd:n∉nsP dn):∃z5,f_y13 [tupD n,q1t r taps rows,dicP dn]=some (.lst (z5.map tupD))/\Ring r taps rows z5:=by
 have hlen2:(q08 r rows.length).length<1000:=by
   have:=q43 (λ(p:Nat)=>(List.range (2^r.toNat-1:Int).toNat).map λ(q:Nat)=>[(p:Int),1+(q:Int)]) 16 (λk=>by rw[ja,List.length_range];have:=q3k ok.r0 ok.r4;omega) rows.length
   unfold q08
   have:=ok.m6
   omega
 obtain⟨way,n',hw,h1,h2,h3,h4,h5⟩:=q9k ok (tupD n) dn hr 1000 [] n List.nodup_nil (λ_ h=>nomatch h) hn hd (λi x y h=>by simp at h) (by simp;omega)
 have hj:way.idxOf n'<way.length:=List.idxOf_lt_length_iff.mpr h1
 have ej:way[way.idxOf n']=n':=List.getElem_idxOf hj
 have hi:q5q (.lst (way.map tupD)) (tupD n')=some (.int (way.idxOf n':Nat)):=by
   unfold q5q
   dsimp only
   rw[show tupI (tupD n')=some n' from q24 n',q3r]
   dsimp only
   rw[if_pos h1]
 have hs:dSl (.lst (way.map tupD)) (some ((way.idxOf n':Nat):Int)) none=some (.lst ((way.drop (way.idxOf n')).map tupD)):=by
   rw[q8d (by omega),kh,List.map_drop]
 refine⟨way.drop (way.idxOf n'),qmg _ _ _ _ _ _ _ _ (by decide) hw hi hs,?_,λm hm=>h3 m (List.mem_of_mem_drop hm),?_,by rw[vc];omega,h5.sublist (List.drop_sublist _ _)⟩
 · intro z
   have:=List.drop_eq_nil_iff.mp z
   omega
 · intro i x y hx hy
   have e1:(way.drop (way.idxOf n')).take 1=[n']:=by
     rw[vf hj,ej]
     rfl
   rw[e1]at hy
   have e2:way.drop (way.idxOf n')++[n']=(way++[n']).drop (way.idxOf n'):=(List.drop_append_of_le_length (by omega)).symm
   rw[e2,List.getElem?_drop]at hy
   rw[List.getElem?_drop]at hx
   exact h2 _ x y hx (by rw[<-hy];congr 1)
theorem qhf(S LD R Q:D)(NL LF:List D)(FI:RhL)(FT:RhB)(FE:RhD)(FQ:RhD)(l1:NL.length<=sizeLine)(hl:f_y8 [S]=some LD)(hr:f_y11 [LD]=some R)(hI:FI [some S,some LD,some R,none]=some (NL,[some S,some LD,some R,none]))(c1:q0e 1 [2] none (gSet 0) FT FE NL [some S,some LD,some R,none]=some (LF,[some S,some LD,some R,none]))(hq:FQ [some S,some LD,some R,some (.lst LF)]=some (Q,[some S,some LD,some R,some (.lst LF)])):
   runP false 1 4 (sSeq (sSet 1 (q0q f_y8 (q01 (mVar 0) mNil))) (sSeq (sSet 2 (q0q f_y11 (q01 (mVar 1) mNil))) (sSeq (sSet 3 (mOf (q15 1 [2] none FI (gSet 0) FT FE))) (sRet FQ)))) [S]=some Q:=by
 walk_at "ev"
theorem qms(S LD R:D):(mIf (q0c (mOp2 dGt (mOp1 dLen (mVar 3)) (mRet (.int 0)))) (mOf (q20 f_y13 (q01 (mOp2 dIx (mVar 3) (mRet (.int 0))) (q01 (mVar 1) (q01 (mVar 2) mNil))))) (mRet .non)) [some S,some LD,some R,some (.lst [])]=some (.non,[some S,some LD,some R,some (.lst [])]):=by
 walk_at "ev"
theorem qaa(S:Option D)(f:List Int->D)(ns:List (List Int))(v2 v3:Option D):(q80 (mVar 1)) [S,some (dctD f ns),v2,v3]=some (ns.map tupD,[S,some (dctD f ns),v2,v3]):=by
 rw[q6x]
 show some ((ns.map λn=>(ky n,f n)).map (λg=>D.tup (g.1.map keyD)),_)=_
 rw[qab]
theorem qpx(S LD R:D)(X:D)(LF Y:List D)(h:f_y13 [X,LD,R]=some (.lst Y)):(mIf (q0c (mOp2 dGt (mOp1 dLen (mVar 3)) (mRet (.int 0)))) (mOf (q20 f_y13 (q01 (mOp2 dIx (mVar 3) (mRet (.int 0))) (q01 (mVar 1) (q01 (mVar 2) mNil))))) (mRet .non)) [some S,some LD,some R,some (.lst (X::LF))]=some (.lst Y,[some S,some LD,some R,some (.lst (X::LF))]):=by
 walk_at "ev"
theorem qhd(S LD R Q:D)(b:Bool)(hl:f_y8 [S]=some LD)(hr:f_y11 [LD]=some R)(ha:f_y9 [LD,R]=some (.bl b))(hQ:Q=if b=true then R else .non):f_y12 [S]=some Q:=by
 unfold f_y12 qh5
 subst hQ
 cases b<;>walk_at "ev"
theorem qlp(R LD:D)(L Y:List D)(x:D)(FE:RhD)(hL:anyO LD=some L)(ll:L.length<=sizeLine)(cm:q0e 1 [1] none (gSet 0) (mRet true) FE L [some LD,some R]=some (Y,[some LD,some R]))(ha:dAll (.lst Y)=some x):
   runP false 2 2 (sRet (mOp1 dAll (mOf (q15 1 [1] none (q7y (mVar 0)) (gSet 0) (mRet true) FE)))) [LD,R]=some x:=by
 have hI:(q7y (mVar 0)) [some LD,some R]=some (L,[some LD,some R]):=by
   rw[qe6]
   show(anyO LD).map _=_
   rw[hL]
   rfl
 generalize (q7y (mVar 0))=FI at hI ⊢
 generalize dAll=DA at ha ⊢
 clear hL
 walk_at "ev"
theorem qn5(ok:q1i r taps rows e)(dn:List (List Int×Int)):f_y9 [q1t r taps rows,dicP dn]=some (.bl ((q08 r rows.length).all λm=>decide (m∈nsP dn))):=by
 have z9:=q1x ok.r0 ok.r4 ok.m6
 have cm:=qey (q1t r taps rows) (dicP dn) dn rfl (q08 r rows.length)
 have hL:anyO (q1t r taps rows)=some ((q08 r rows.length).map tupD):=by
   unfold q1t dctD anyO
   dsimp only
   rw[ju]
   congr 1
   refine List.map_congr_left λn hn=>?_
   show D.tup ((ky n).map keyD)=tupD n
   unfold ky tupD
   rw[ju]
   rfl
 refine qlp _ _ _ _ _ _ hL (by rw[ja];exact q1d (by omega)) cm ?_
 unfold dAll
 dsimp only
 rw[q9a]
 simp
theorem qn4(ok:q1i r taps rows e):∃dn,Done r taps rows (nsP dn)/\RkOk r taps rows dn/\(((∀n∈q08 r rows.length,n∈nsP dn)/\f_y14 [schD r taps rows e]=some .non/\f_y12 [schD r taps rows e]=some (dicP dn))∨∃z5,f_y14 [schD r taps rows e]=some (.lst (z5.map tupD))/\Ring r taps rows z5/\f_y12 [schD r taps rows e]=some .non):=by
 have z9:=q1x ok.r0 ok.r4 ok.m6
 obtain⟨dn,h1,h2,h3,h4⟩:=qq3 ok
 refine⟨dn,h2,h4,?_⟩
 have ha:=qn5 ok dn
 have c1:=q6j 2 [some (schD r taps rows e),some (q1t r taps rows),some (dicP dn),none] dn rfl (q08 r rows.length)
 have l1:((q08 r rows.length).map tupD).length<=sizeLine:=by rw[ja];exact q1d (by omega)
 cases hq:(q08 r rows.length).filter λm=>!decide (m∈nsP dn)with
 | nil=>
   rw[hq]at c1
   have all:∀n∈q08 r rows.length,n∈nsP dn:=λn hn=>Classical.byContradiction λz=>by
     have:n∈(q08 r rows.length).filter λm=>!decide (m∈nsP dn):=List.mem_filter.mpr ⟨hn,by simpa using z⟩
     rw[hq]at this
     exact nomatch this
   have eb:((q08 r rows.length).all λm=>decide (m∈nsP dn))=true:=List.all_eq_true.mpr λm hm=>decide_eq_true (all m hm)
   rw[eb]at ha
   exact .inl ⟨all,qhf _ _ _ _ _ _ _ _ _ _ l1 (q6i ok) h1 (qaa _ _ _ _ _) c1 (qms _ _ _),qhd _ _ _ _ true (q6i ok) h1 ha rfl⟩
 | cons n ns=>
   have hmem:n∈(q08 r rows.length).filter λm=>!decide (m∈nsP dn):=by rw[hq];exact jg
   obtain⟨g1,g2⟩:=List.mem_filter.mp hmem
   have g3:n∉nsP dn:=by simpa using g2
   rw[hq]at c1
   obtain⟨z5,hring,hR⟩:=qn3 ok dn h3 g1 g3
   have eb:((q08 r rows.length).all λm=>decide (m∈nsP dn))=false:=by
     rw[Bool.eq_false_iff]
     intro z
     exact g3 (of_decide_eq_true (List.all_eq_true.mp z n g1))
   rw[eb]at ha
   exact .inr ⟨z5,qhf _ _ _ _ _ _ _ _ _ _ l1 (q6i ok) h1 (qaa _ _ _ _ _) c1 (qpx _ _ _ _ _ _ hring),hR,qhd _ _ _ _ false (q6i ok) h1 ha rfl⟩
end
section
variable{r:Int}{taps:List Int}{rows:List (List Int)}{e:Str}
theorem qk0(ρ:Rho)(ps:List (Int×Int×List Int)):q0e 3 [] none (q36 3 (q0y (gSet 0) (q0y (gSet 1) (q0y (gSet 2) q3f)))) (q0c (mOp2 dEq (mVar 1) (mRet (.int 0)))) (mVar 2) (ps.map q2t) ρ=some (((ps.filter λp=>p.2.1==0).map (·.2.2)).map tupD,ρ):=by
 have key:∀p:Int×Int×List Int,(q0c (mOp2 dEq (mVar 1) (mRet (.int 0)))) [some (.int p.1),some (.int p.2.1),some (tupD p.2.2)]=some (p.2.1==0,[some (.int p.1),some (.int p.2.1),some (tupD p.2.2)]):=λp=>by
   generalize tupD p.2.2=N
   walk_at "ev"
 induction ps with
 |nil=>rfl
 | cons p ps ih=>
   have h1:=key p
   rw[ji]
   have h0:q36 3 (q0y (gSet 0) (q0y (gSet 1) (q0y (gSet 2) q3f))) (q2t p) (q3p 3 [] ρ)=some [some (.int p.1),some (.int p.2.1),some (tupD p.2.2)]:=rfl
   cases hb:(p.2.1==0)with
   | false=>
     rw[hb]at h1
     rw[List.filter_cons_of_neg (by rw[hb];exact Bool.false_ne_true)]
     simp only[q0e,h0,h1,q2w]
     exact ih
   | true=>
     rw[hb]at h1
     rw[List.filter_cons_of_pos (p:=λp:Int×Int×List Int=>p.2.1==0) hb,ji,ji]
     have h3:(mVar 2) [some (.int p.1),some (.int p.2.1),some (tupD p.2.2)]=some (tupD p.2.2,[some (.int p.1),some (.int p.2.1),some (tupD p.2.2)]):=rfl
     simp only[q0e,h0,h1,h3,q2w]
     rw[ih]
theorem qo2(S N:D)(L Z:List D)(FG:RhG)(FT:RhB)(FE:RhD)(ll:L.length<=sizeLine)(hw:f_y19 [S,N]=some (.lst L))(cm:q0e 3 [] none FG FT FE L [some S,some N]=some (Z,[some S,some N])):
   runP false 2 2 (sRet (mOf (q15 3 [] none (mSeq (mOf (q20 f_y19 (q01 (mVar 0) (q01 (mVar 1) mNil))))) FG FT FE))) [S,N]=some (.lst Z):=by
 walk_at "ev"
theorem qlt(ok:q1i r taps rows e){n:List Int}(hn:n∈q08 r rows.length):f_y20 [schD r taps rows e,tupD n]=some (.lst ((q0s r taps rows n).map tupD)):=by
 refine qo2 _ _ _ _ _ _ _ ?_ (qlu ok hn) (qk0 _ _)
 rw[ja]
 unfold q4b
 rw[ja]
 exact q1d (jy (List.length_filter_le _ _) (by simp))
def prI(n:List Int):Int×Int:=(n.getD 0 0,n.getD 1 0)
theorem qmv{n:List Int}{N:Nat}(h:n∈q08 r N):n=[(prI n).1,(prI n).2]/\0<=(prI n).1/\(prI n).1<(N:Int)/\1<=(prI n).2/\(prI n).2<2^r.toNat:=by
 obtain⟨p,q,rfl,h1,h2,h3,h4⟩:=mem_nodes.mp h
 exact⟨rfl,h1,h2,h3,h4⟩
theorem q8s{N:Nat}:∀{ns:List (List Int)},(∀n∈ns,n∈q08 r N)->prsD (ns.map tupD)=some (ns.map prI)
 |[],_=>rfl
 | n::ns,h=>by
   have ih:=q8s (ns:=ns) λm hm=>h m (jk _ hm)
   obtain⟨p,q,rfl,_⟩:=mem_nodes.mp (h n jg)
   rw[ji]
   show(prsD (ns.map tupD)).map ((p,q):: ·)=_
   rw[ih]
   rfl
theorem qcm{N:Nat}{ns:List (List Int)}(h:∀n∈ns,n∈q08 r N):(ns.map prI).map prD=ns.map tupD:=by
 rw[ju]
 refine List.map_congr_left λn hn=>?_
 obtain⟨p,q,rfl,_⟩:=mem_nodes.mp (h n hn)
 rfl
theorem qjc{N:Nat}{n m:List Int}(h:n∈q08 r N)(g:m∈q08 r N)(e:prI n=prI m):n=m:=by
 obtain⟨a,b,rfl,_⟩:=mem_nodes.mp h
 obtain⟨c,d,rfl,_⟩:=mem_nodes.mp g
 have h1:a=c:=congrArg Prod.fst e
 have h2:b=d:=congrArg Prod.snd e
 rw[h1,h2]
theorem qfl(ok:q1i r taps rows e):(2:Int)^r.toNat<=16:=by
 have h0:=ok.r0
 have h4:=ok.r4
 rcases(by omega:r=0∨r=1∨r=2∨r=3∨r=4)with z|z|z|z|z<;>rw[z]<;>decide
def uniP:List (Nat×Nat):=(List.range 6).flatMap λp=>(List.range 16).map λq=>(p,q)
theorem qlw:(uniP.map λp=>q2f [(p.1:Int),(p.2:Int)]).Nodup:=by decide+kernel
theorem qgg{a b c d:Nat}(ha:a<6)(hb:b<16)(hc:c<6)(hd:d<16)(h:q2f [(a:Int),(b:Int)]=q2f [(c:Int),(d:Int)]):a=c/\b=d:=by
 have m1:(a,b)∈uniP:=List.mem_flatMap.mpr ⟨a,List.mem_range.mpr ha,List.mem_map.mpr ⟨b,List.mem_range.mpr hb,rfl⟩⟩
 have m2:(c,d)∈uniP:=List.mem_flatMap.mpr ⟨c,List.mem_range.mpr hc,List.mem_map.mpr ⟨d,List.mem_range.mpr hd,rfl⟩⟩
 have hu:=qlw
 generalize q2f=T at h hu
 rw[List.Nodup,List.pairwise_map,List.pairwise_iff_getElem]at hu
 obtain⟨i,hi,ei⟩:=List.getElem_of_mem m1
 obtain⟨j,hj,ej⟩:=List.getElem_of_mem m2
 rcases Nat.lt_trichotomy i j with z|z|z
 · have:=hu i j hi hj z
   rw[ei,ej]at this
   exact absurd h this
 · subst z
   rw[ei]at ej
   cases ej
   exact⟨rfl,rfl⟩
 · have:=hu j i hj hi z
   rw[ei,ej]at this
   exact absurd h.symm this
theorem qgf{T:List Int->Int}(inj:∀{a b c d:Nat},a<6->b<16->c<6->d<16->T [(a:Int),(b:Int)]=T [(c:Int),(d:Int)]->a=c/\b=d)(ok:q1i r taps rows e){ns:List (List Int)}(nd:ns.Nodup)(h:∀n∈ns,n∈q08 r rows.length):((ns.map prI).map λp=>T [p.1,p.2]).Nodup:=by
 have p16:=qfl ok
 have m6:=ok.m6
 rw[ju,List.Nodup,List.pairwise_map]
 refine List.Pairwise.imp_of_mem (λ{n m} hn hm hne z=>hne ?_) nd
 obtain⟨a,b,rfl,a0,a1,b0,b1⟩:=mem_nodes.mp (h n hn)
 obtain⟨c,d,rfl,c0,c1,d0,d1⟩:=mem_nodes.mp (h m hm)
 have ea:a=(a.toNat:Int):=by omega
 have eb:b=(b.toNat:Int):=by omega
 have ec:c=(c.toNat:Int):=by omega
 have ed:d=(d.toNat:Int):=by omega
 have z':T [a,b]=T [c,d]:=z
 rw[ea,eb,ec,ed]at z'
 obtain⟨h1,h2⟩:=inj (by omega) (by omega) (by omega) (by omega) z'
 have h3:a=c:=by omega
 have h4:b=d:=by omega
 rw[h3,h4]
theorem qkn(ok:q1i r taps rows e){ns:List (List Int)}(nd:ns.Nodup)(h:∀n∈ns,n∈q08 r rows.length):((ns.map prI).map λp=>q2f [p.1,p.2]).Nodup:=qgf qgg ok nd h
theorem q6k(ok:q1i r taps rows e):(q08 r rows.length).length<=96:=by
 have:=q43 (λ(p:Nat)=>(List.range (2^r.toNat-1:Int).toNat).map λ(q:Nat)=>[(p:Int),1+(q:Int)]) 16 (λk=>by rw[ja,List.length_range];have:=qfl ok;omega) rows.length
 unfold q08
 have:=ok.m6
 omega
theorem at_neg{α:Type}(xs:List α){x:α}(h:xs[xs.length-1]? =some x):atI xs (-1)=some x:=by
 have h0:xs.length-1<xs.length:=(List.getElem?_eq_some_iff.mp h).1
 unfold atI
 have e1:ixN xs.length (-1)=some (xs.length-1):=by
   unfold ixN
   rw[if_neg (by decide),if_pos (by omega)]
   congr 1
   omega
 rw[e1]
 exact h
theorem qbo(n:List Int):DOk 1 (tupD n):=DOks.tup (.all λd hd=>by
 obtain⟨i,_,rfl⟩:=List.mem_map.mp hd
 exact .int _ i)
theorem qfh(S:D)(W:List D)(k:Int)(v:Option D)(FA:RhO)(z0:0<=sizeLine)(h1:eqD (.lst W) (.lst [])=some false)(h2:q37 (.lst W)=some (.int k))(h3:((W.length:Nat):Int)=k):
   (sIf (mOr (mNot (q0c (mOp1 (dIsi (q27 "list")) (mVar 1)))) (mOr (q0c (mOp2 dEq (mVar 1) (mOf (mLst mNil)))) (q0c (mOp2 dNe (mOp1 q37 (mVar 1)) (mOp1 dLen (mVar 1)))))) FA sNil) [some S,some (.lst W),v]=some (.nx [some S,some (.lst W),v]):=by
 have hl:dLen (.lst W)=some (.int k):=by rw[<-h3];rfl
 have hn:dNe (.int k) (.int k)=some (.bl false):=by
   unfold dNe
   rw[q6y (DOk.int 0 k) (by decide)]
   rfl
 have he:dEq (.lst W) (.lst [])=some (.bl false):=by
   unfold dEq
   rw[h1]
   rfl
 have hi:dIsi (q27 "list") (.lst W)=some (.bl true):=rfl
 generalize q37=LS at h2 ⊢
 generalize dIsi (q27 "list")=IS at hi ⊢
 generalize dNe=NE at hn ⊢
 generalize dEq=EQ at he ⊢
 generalize dLen=LN at hl ⊢
 clear h1 h3
 walk_at "ev"
theorem qiv(S X Y Q:D)(W NL:List D)(k:Int)(FA:RhO)(hx:atI W (k-1)=some X)(hy:atI W k=some Y)(hn:f_y18 [S]=some (.lst NL))(h1:q1f X (.lst NL)=some (.bl false))(hq:f_y20 [S,X]=some Q)(h2:q1f Y Q=some (.bl false)):
   (sIf (mOr (q0c (mOp2 q1f (mOp2 dIx (mVar 1) (mOp2 dSub (mVar 2) (mRet (.int 1)))) (mOf (q20 f_y18 (q01 (mVar 0) mNil))))) (q0c (mOp2 q1f (mOp2 dIx (mVar 1) (mVar 2)) (q0q f_y20 (q01 (mVar 0) (q01 (mOp2 dIx (mVar 1) (mOp2 dSub (mVar 2) (mRet (.int 1)))) mNil)))))) FA sNil) [some S,some (.lst W),some (.int k)]=some (.nx [some S,some (.lst W),some (.int k)]):=by
 generalize q1f=NI at h1 h2 ⊢
 walk_at "ev"
theorem qmf(S W:D)(X:List D)(v:Option D)(FS:RhO)(FI:RhL)(FB:RhO)(hs:FS [some S,some W,none]=some (.nx [some S,some W,none]))(hI:FI [some S,some W,none]=some (X,[some S,some W,none]))(hf:q0z (gSet 2) FB X [some S,some W,none]=some (.nx [some S,some W,v])):
   runP false 2 3 (sSeq FS (sSeq (sFor FI (gSet 2) FB) (sRet (mRet (.bl true))))) [S,W]=some (.bl true):=by
 walk_at "ev"
theorem qiw(S:D)(W:List D)(v:Option D):(q01 (mOp1 dLen (mVar 1)) mNil) [some S,some (.lst W),v]=some ([.int (W.length:Nat)],[some S,some (.lst W),v]):=by
 walk_at "ev"
theorem qlv(ok:q1i r taps rows e){z5:List (List Int)}(hR:Ring r taps rows z5):f_y21 [schD r taps rows e,.lst (z5.map tupD)]=some (.bl true):=by
 have n90:=q6k ok
 have hl:z5.length<=(q08 r rows.length).length:=List.Nodup.length_le_of_subset hR.nd λm h=>hR.sub m h
 have pos:=List.length_pos_iff.mpr hR.ne
 have ne:eqD (.lst (z5.map tupD)) (.lst [])=some false:=by
   cases hr:z5 with
   |nil=>exact absurd hr hR.ne
   | cons n ns=>
     rw[ji]
     exact q98 (qbo n) (.all λd hd=>by
       obtain⟨m,_,rfl⟩:=List.mem_map.mp hd
       exact qbo m) (by decide)
 have hs:q37 (.lst (z5.map tupD))=some (.int (z5.length:Nat)):=by
   unfold q37
   dsimp only
   rw[q8s hR.sub]
   dsimp only
   rw[if_pos ⟨qkn ok hR.nd hR.sub,by rw[ja];omega⟩,ja]
 have a1:=λFA=>qfh (schD r taps rows e) (z5.map tupD) (z5.length:Nat) none FA (by decide) ne hs (by rw[ja])
 have hI:=q7b (qiw (schD r taps rows e) (z5.map tupD) none) (by
   rw[ja]
   unfold big
   simp
   omega)
 obtain⟨ρ',hf,v,rfl⟩:=q96 (fg:=gSet 2) (fb:=(sIf (mOr (q0c (mOp2 q1f (mOp2 dIx (mVar 1) (mOp2 dSub (mVar 2) (mRet (.int 1)))) (mOf (q20 f_y18 (q01 (mVar 0) mNil))))) (q0c (mOp2 q1f (mOp2 dIx (mVar 1) (mVar 2)) (q0q f_y20 (q01 (mVar 0) (q01 (mOp2 dIx (mVar 1) (mOp2 dSub (mVar 2) (mRet (.int 1)))) mNil)))))) (sRet (mRet (.bl false))) sNil))
   (λρ=>∃v,ρ=[some (schD r taps rows e),some (.lst (z5.map tupD)),v]) (q16 0 ((z5.map tupD).length)) [some (schD r taps rows e),some (.lst (z5.map tupD)),none] ⟨_,rfl⟩ (by
     rintro x ρ hx ⟨v,rfl⟩
     obtain⟨k,hk,rfl⟩:∃k:Nat,k<z5.length/\x=.int (k:Int):=by
       unfold q16 at hx
       obtain⟨k,hk,rfl⟩:=List.mem_map.mp hx
       rw[ja]at hk
       exact⟨k,List.mem_range.mp hk,by simp⟩
     -- the one ahead
     obtain⟨X,hX,hXY⟩:∃X,atI z5 ((k:Int)-1)=some X/\X∈z5/\z5[k]∈q0s r taps rows X:=by
       by_cases z:k=0
       · subst z
         have hi:z5.length-1<z5.length:=by omega
         refine⟨z5[z5.length-1],?_,List.getElem_mem hi,hR.cyc (z5.length-1) _ _ (jf hi) ?_⟩
         · exact at_neg _ (jf hi)
         · rw[show z5.length-1+1=z5.length by omega,xr (jc _),Nat.sub_self]
           rw[List.getElem?_take_of_lt (by decide),jf hk]
       · have hi:k-1<z5.length:=by omega
         refine⟨z5[k-1],?_,List.getElem_mem hi,hR.cyc (k-1) _ _ (jf hi) ?_⟩
         · rw[q8l (by omega) (by omega),show((k:Int)-1).toNat=k-1 by omega,jf hi]
         · rw[show k-1+1=k by omega,xx hk,jf hk]
     have hx':atI (z5.map tupD) ((k:Int)-1)=some (tupD X):=by
       by_cases z:k=0
       · subst z
         have hi:z5.length-1<z5.length:=by omega
         have e1:=at_neg z5 (jf hi)
         have e2:atI z5 (((0:Nat):Int)-1)=some z5[z5.length-1]:=e1
         rw[hX]at e2
         cases e2
         refine at_neg _ ?_
         rw[ja,jz,jf hi]
         rfl
       · rw[q8l (by omega) (by omega)]at hX
         rw[q8l (by omega) (by rw[ja];omega),jz,hX]
         rfl
     have hy':atI (z5.map tupD) (k:Int)=some (tupD z5[k]):=by
       rw[q8l (by omega) (by rw[ja];omega),jz,kh,jf hk]
       rfl
     have hXn:=hR.sub X hXY.1
     exact⟨_,_,rfl,.inl (qiv _ _ _ _ _ _ _ _ hx' hy' (qbk ok) (by rw[qdb,decide_eq_true hXn];rfl) (qlt ok hXn) (by rw[qdb,decide_eq_true hXY.2];rfl)),_,rfl⟩)
 exact qmf _ _ _ _ _ _ _ (a1 _) hI hf
end
section
variable{r:Int}{taps:List Int}{rows:List (List Int)}{e:Str}
theorem q9z(ok:q1i r taps rows e)(N:Nat):((q08 r N).map prI).Pairwise λx y=>enc x<enc y:=by
 have p16:=qfl ok
 rw[List.pairwise_map]
 unfold q08
 rw[List.pairwise_flatMap]
 constructor
 · intro p _
   rw[List.pairwise_map]
   refine List.Pairwise.imp_of_mem (λ{a b} ha hb hab=>?_) List.pairwise_lt_range
   have h1:=List.mem_range.mp ha
   have h2:=List.mem_range.mp hb
   show enc ((p:Int),1+(a:Int))<enc ((p:Int),1+(b:Int))
   unfold enc
   dsimp only
   omega
 · refine List.Pairwise.imp (λ{p q} hpq x hx y hy=>?_) List.pairwise_lt_range
   obtain⟨a,ha,rfl⟩:=List.mem_map.mp hx
   obtain⟨b,hb,rfl⟩:=List.mem_map.mp hy
   have h1:=List.mem_range.mp ha
   have h2:=List.mem_range.mp hb
   show enc ((p:Int),1+(a:Int))<enc ((q:Int),1+(b:Int))
   unfold enc
   dsimp only
   omega
theorem qph(ok:q1i r taps rows e){ns:List (List Int)}(nd:ns.Nodup)(h:∀n∈ns,n∈q08 r rows.length):CanS (ns.map prI):=by
 have p16:=qfl ok
 have n90:=q6k ok
 refine⟨λp hp=>?_,?_,?_⟩
 · obtain⟨n,hn,rfl⟩:=List.mem_map.mp hp
   obtain⟨_,h1,_,h3,h4⟩:=qmv (h n hn)
   exact⟨h1,by omega,by omega⟩
 · rw[List.Nodup,List.pairwise_map]
   exact List.Pairwise.imp_of_mem (λ{n m} hn hm hne z=>hne (qjc (h n hn) (h m hm) z)) nd
 · rw[ja]
   have:=List.Nodup.length_le_of_subset nd λm hm=>h m hm
   omega
theorem qim(ok:q1i r taps rows e):dSrt (.lst ((q08 r rows.length).map tupD))=some ((q08 r rows.length).map tupD):=by
 have hs:=q8p (qph ok (q2b (r:=r) rows.length) λn h=>h) ⟨.refl _,q9z ok rows.length⟩
 unfold dSrt
 dsimp only
 rw[q8s λn h=>h]
 show(srtP _).map _=_
 rw[hs,Option.map_some,qcm λn h=>h]
theorem q9o{N:Nat}:∀{dn:List (List Int×Int)},(∀n∈nsP dn,n∈q08 r N)->prsK ((dn.map λp=>(ky p.1,D.int p.2)).map (·.1))=some ((nsP dn).map prI)
 |[],_=>rfl
 | p::dn,h=>by
   have ih:=q9o (dn:=dn) λm hm=>h m (jk _ hm)
   obtain⟨a,b,ep,_⟩:=mem_nodes.mp (h p.1 jg)
   rw[ji,ji]
   show prsK (ky p.1::_)=some (prI p.1::(nsP dn).map prI)
   rw[ep]
   show(prsK _).map ((a,b):: ·)=_
   rw[ih]
   rfl
theorem qin(ok:q1i r taps rows e){dn:List (List Int×Int)}(hd:Done r taps rows (nsP dn))(all:∀n∈q08 r rows.length,n∈nsP dn):dSrt (dicP dn)=some ((q08 r rows.length).map tupD):=by
 have pm:(q08 r rows.length).Perm (nsP dn):=(List.perm_ext_iff_of_nodup (q2b rows.length) hd.nd).mpr λn=>⟨all n,hd.sub n⟩
 have hs:=q8p (qph ok hd.nd hd.sub) ⟨pm.map prI,q9z ok rows.length⟩
 unfold dSrt dicP
 dsimp only
 rw[q9o hd.sub]
 show(srtP _).map _=_
 rw[hs,Option.map_some,qcm λn h=>h]
theorem qg1:∀(l:List Int),l.length<=2->(maxI (l.map (·+1))).getD 0=1+(maxI l).getD (-1)
 |[],_=>rfl
 | [a],_=>by
   show a+1=1+a
   omega
 | [a,b],_=>by
   unfold maxI
   simp only[List.map_cons,List.map_nil,Option.getD_some,List.length_cons,List.length_nil]
   by_cases h:a<b
   · have e1:argBest (btG [a+1,b+1]) (0+1+1-1)=1:=by
       show(if btG [a+1,b+1] 1 0=true then 1 else 0)=1
       rw[if_pos (show btG [a+1,b+1] 1 0=true from decide_eq_true (by show a+1<b+1;omega))]
     have e2:argBest (btG [a,b]) (0+1+1-1)=1:=by
       show(if btG [a,b] 1 0=true then 1 else 0)=1
       rw[if_pos (show btG [a,b] 1 0=true from decide_eq_true (by show a<b;omega))]
     rw[e1,e2]
     show b+1=1+b
     omega
   · have e1:argBest (btG [a+1,b+1]) (0+1+1-1)=0:=by
       show(if btG [a+1,b+1] 1 0=true then 1 else 0)=0
       rw[if_neg (by rw[show btG [a+1,b+1] 1 0=false from decide_eq_false (by show¬a+1<b+1;omega)];decide)]
     have e2:argBest (btG [a,b]) (0+1+1-1)=0:=by
       show(if btG [a,b] 1 0=true then 1 else 0)=0
       rw[if_neg (by rw[show btG [a,b] 1 0=false from decide_eq_false (by show¬a<b;omega)];decide)]
     rw[e1,e2]
     show a+1=1+a
     omega
 |_::_::_::_,h=>absurd h (by simp)
theorem qof(N R:D)(x:Int)(h:q0u R N=some (.int x)):(mOp2 dAdd (mOp2 q0u (mVar 1) (mVar 0)) (mRet (.int 1))) [some N,some R]=some (.int (x+1),[some N,some R]):=by
 generalize q0u=GG at h ⊢
 walk_at "ev"
theorem qke(S A N B:Option D)(dn:List (List Int×Int))(ms:List (List Int))(hm:∀m∈ms,m∈nsP dn):q0e 1 [1] none (gSet 0) (mRet true) (mOp2 dAdd (mOp2 q0u (mVar 1) (mVar 0)) (mRet (.int 1))) (ms.map tupD) [S,some (dicP dn),A,N,B]=some ((ms.map λm=>rkOf dn m+1).map D.int,[S,some (dicP dn),A,N,B]):=by
 have cm:=q5k (n:=1) (js:=[1]) (fg:=gSet 0) (fe:=mOp2 dAdd (mOp2 q0u (mVar 1) (mVar 0)) (mRet (.int 1))) (ρ:=[S,some (dicP dn),A,N,B]) (λd=>match q0u (dicP dn) d with|some (.int v)=>.int (v+1)|_=>.non) (ms.map tupD) (λx hx=>by
   obtain⟨m,h,rfl⟩:=List.mem_map.mp hx
   have hr:=q7c (hm m h)
   refine⟨[some (tupD m),some (dicP dn)],rfl,?_⟩
   rw[qof _ _ _ hr,hr]
   rfl)
 rw[cm,ju,ju]
 congr 2
 refine List.map_congr_left λm h=>?_
 show(match q0u (dicP dn) (tupD m)with|some (.int v)=>D.int (v+1)|_=>.non)=_
 rw[q7c (hm m h)]
 rfl
theorem qod(S R NL N:D)(L Y:List D)(x:Int)(v4:Option D)(FE:RhD)(ll:L.length<=sizeLine)(hq:f_y20 [S,N]=some (.lst L))(cm:q0e 1 [1] none (gSet 0) (mRet true) FE L [some S,some R,some NL,some N,v4]=some (Y,[some S,some R,some NL,some N,v4]))(hm:q2v 0 (.lst Y)=some (.int x)):
   (sSet 4 (mOp1 (q2v 0) (mOf (q15 1 [1] none (mSeq (q0q f_y20 (q01 (mVar 0) (q01 (mVar 3) mNil)))) (gSet 0) (mRet true) FE)))) [some S,some R,some NL,some N,v4]=some (.nx [some S,some R,some NL,some N,some (.int x)]):=by
 generalize q2v 0=MM at hm ⊢
 walk_at "ev"
theorem qqj(S R NL N:D)(x:Int)(FA:RhO)(hg:q0u R N=some (.int x)):
   (sIf (mOr (mNot (q0c (mOp1 (dIsi (q27 "int")) (mOp2 q0u (mVar 1) (mVar 3))))) (mOr (q0c (mOp1 (dIsi (q27 "bool")) (mOp2 q0u (mVar 1) (mVar 3)))) (q0c (mOp2 dNe (mOp2 q0u (mVar 1) (mVar 3)) (mVar 4))))) FA sNil) [some S,some R,some NL,some N,some (.int x)]=some (.nx [some S,some R,some NL,some N,some (.int x)]):=by
 have hn:dNe (.int x) (.int x)=some (.bl false):=by
   unfold dNe
   rw[q6y (DOk.int 0 x) (by decide)]
   rfl
 have h1:dIsi (q27 "int") (.int x)=some (.bl true):=rfl
 have h2:dIsi (q27 "bool") (.int x)=some (.bl false):=rfl
 generalize dIsi (q27 "int")=I1 at h1 ⊢
 generalize dIsi (q27 "bool")=I2 at h2 ⊢
 generalize dNe=NE at hn ⊢
 generalize q0u=GG at hg ⊢
 walk_at "ev"
theorem qg6(S:D)(R:D)(L NL:List D)(v3 v4:Option D)(FA:RhO)(h0:dIsi (q27 "dict") R=some (.bl true))(l1:L.length<=sizeLine)(h1:dSrt R=some L)(h2:dSrt (.lst NL)=some L)(h3:dNe (.lst L) (.lst L)=some (.bl false)):
   (sIf (mOr (mNot (q0c (mOp1 (dIsi (q27 "dict")) (mVar 1)))) (q0c (mOp2 dNe (mOf (q90 dSrt (mVar 1))) (mOf (q90 dSrt (mVar 2)))))) FA sNil) [some S,some R,some (.lst NL),v3,v4]=some (.nx [some S,some R,some (.lst NL),v3,v4]):=by
 generalize dIsi (q27 "dict")=I1 at h0 ⊢
 generalize dNe=NE at h3 ⊢
 generalize dSrt=SS at h1 h2 ⊢
 walk_at "ev"
theorem qoe(S R:D)(NL:List D)(v3 v4:Option D)(FS:RhO)(FB:RhO)(hn:f_y18 [S]=some (.lst NL))(hs:FS [some S,some R,some (.lst NL),none,none]=some (.nx [some S,some R,some (.lst NL),none,none]))(hf:q0z (gSet 3) FB NL [some S,some R,some (.lst NL),none,none]=some (.nx [some S,some R,some (.lst NL),v3,v4])):
   runP false 2 5 (sSeq (sSet 2 (mOf (q20 f_y18 (q01 (mVar 0) mNil)))) (sSeq FS (sSeq (sFor (mSeq (mVar 2)) (gSet 3) FB) (sRet (mRet (.bl true)))))) [S,R]=some (.bl true):=by
 walk_at "ev"
theorem qf5(ok:q1i r taps rows e){dn:List (List Int×Int)}(hd:Done r taps rows (nsP dn))(hk:RkOk r taps rows dn)(all:∀n∈q08 r rows.length,n∈nsP dn):f_y22 [schD r taps rows e,dicP dn]=some (.bl true):=by
 have n90:=q6k ok
 have same:dNe (.lst ((q08 r rows.length).map tupD)) (.lst ((q08 r rows.length).map tupD))=some (.bl false):=by
   unfold dNe
   rw[q6y (n:=2) (DOks.lst (.all λd hd=>by
     obtain⟨m,_,rfl⟩:=List.mem_map.mp hd
     exact qbo m)) (by decide)]
   rfl
 have a1:=λFA=>qg6 (schD r taps rows e) (dicP dn) ((q08 r rows.length).map tupD) ((q08 r rows.length).map tupD) none none FA rfl (by rw[ja];exact q1d (by omega)) (qin ok hd all) (qim ok) same
 obtain⟨ρ',hf,v3,v4,rfl⟩:=q96 (fg:=gSet 3) (fb:=(sSeq (sSet 4 (mOp1 (q2v 0) (mOf (q15 1 [1] none (mSeq (q0q f_y20 (q01 (mVar 0) (q01 (mVar 3) mNil)))) (gSet 0) (mRet true) (mOp2 dAdd (mOp2 q0u (mVar 1) (mVar 0)) (mRet (.int 1)))))))
 (sIf (mOr (mNot (q0c (mOp1 (dIsi (q27 "int")) (mOp2 q0u (mVar 1) (mVar 3))))) (mOr (q0c (mOp1 (dIsi (q27 "bool")) (mOp2 q0u (mVar 1) (mVar 3)))) (q0c (mOp2 dNe (mOp2 q0u (mVar 1) (mVar 3)) (mVar 4)))))
   (sRet (mRet (.bl false)))
   sNil)))
   (λρ=>∃v3 v4,ρ=[some (schD r taps rows e),some (dicP dn),some (.lst ((q08 r rows.length).map tupD)),v3,v4]) ((q08 r rows.length).map tupD) [some (schD r taps rows e),some (dicP dn),some (.lst ((q08 r rows.length).map tupD)),none,none] ⟨_,_,rfl⟩ (by
     rintro x ρ hx ⟨v3,v4,rfl⟩
     obtain⟨n,hn,rfl⟩:=List.mem_map.mp hx
     obtain⟨h1,h2⟩:=hk n (all n hn)
     have ll:=q41 (r:=r) (taps:=taps) (rows:=rows) n
     have cm:=qke (some (schD r taps rows e)) (some (.lst ((q08 r rows.length).map tupD))) (some (tupD n)) v4 dn (q0s r taps rows n) h1
     have hm:q2v 0 (.lst (((q0s r taps rows n).map λm=>rkOf dn m+1).map D.int))=some (.int (rkOf dn n)):=by
       unfold q2v
       dsimp only
       rw[q24]
       show some (D.int ((maxI _).getD 0))=_
       rw[h2,<-qg1 _ (by rw[ja];exact ll),ju]
       rfl
     have a2:=qod _ _ _ _ _ _ _ v4 _ (by rw[ja];exact q1d (by omega)) (qlt ok hn) cm hm
     have a3:=λFA=>qqj (schD r taps rows e) (dicP dn) (.lst ((q08 r rows.length).map tupD)) (tupD n) _ FA (q7c (all n hn))
     exact⟨_,_,rfl,.inl ((q3t a2).trans (a3 _)),_,_,rfl⟩)
 exact qoe _ _ _ _ _ _ _ (qbk ok) (a1 _) hf
end
section
variable{r:Int}{taps:List Int}{rows:List (List Int)}{e:Str}
theorem l0(A:D)(c:Int)(v2 v3 v4 v5:Option D)(one:1<=sizeLine):∃y:Int,(sOwn 2 (mLst (q01 (mOp2 dAdd (mOp2 q4f (mOp2 dMod (mVar 1) (mOp2 dPow (mRet (.int 10)) (mRet (.int 30)))) (mRet (.int 7368787))) (mRet (.int 1000003))) mNil))) [some A,some (.int c),v2,v3,v4,v5]=some (.nx [some A,some (.int c),some (.lst [.int y]),v3,v4,v5]):=by
 refine⟨c % 10^30*7368787+1000003,?_⟩
 walk_at "ev"
theorem qil(ρ:Rho)(zx:3<=sizeLine):(mOf (mLst (q01 (mRet (.str "open")) (q01 (mRet (.str "ended")) (q01 (mRet (.str "ring")) mNil))))) ρ=some (.lst [.str "open",.str "ended",.str "ring"],ρ):=by
 walk_at "ev"
theorem l1(A C S:D)(y s' d:Int)(X:D)(v3 v4 v5:Option D)(zx:3<=sizeLine)(hd:drK y 3=d)(hx:atI [D.str "open",D.str "ended",D.str "ring"] d=some X)(hs:f_y16 [.int (nxK y)] [.int 4,X]=some (S,[.int s'])):
   (sSet 3 (q14 f_y16 2 (q01 (mRet (.int 4)) (q01 (mOp2 dIx (mOf (mLst (q01 (mRet (.str "open")) (q01 (mRet (.str "ended")) (q01 (mRet (.str "ring")) mNil))))) (q14 f_y15 2 (q01 (mRet (.int 3)) mNil))) mNil)))) [some A,some C,some (.lst [.int y]),v3,v4,v5]=some (.nx [some A,some C,some (.lst [.int s']),some S,v4,v5]):=by
 have h:=q3q y 3 (by decide)
 rw[hd]at h
 generalize hL:[D.str "open",D.str "ended",D.str "ring"]=L at hx
 have hl:(mOf (mLst (q01 (mRet (.str "open")) (q01 (mRet (.str "ended")) (q01 (mRet (.str "ring")) mNil))))) [some A,some C,some (.lst [.int y]),v3,v4,v5]=some (.lst L,[some A,some C,some (.lst [.int y]),v3,v4,v5]):=by
   rw[<-hL]
   exact qil _ zx
 generalize (mOf (mLst (q01 (mRet (.str "open")) (q01 (mRet (.str "ended")) (q01 (mRet (.str "ring")) mNil)))))=FL at hl ⊢
 clear hL
 walk_at "ev"
theorem qa6(A C Y S:D)(v4 v5:Option D):(q01 (mVar 3) mNil) [some A,some C,some Y,some S,v4,v5]=some ([S],[some A,some C,some Y,some S,v4,v5]):=by
 walk_at "ev"
theorem tail_at{i j:Nat}{gq gr:List D->Option D}{fs1 fs2:RhL}{ft0 ft1 ft2 ft3 ft4:RhB}{ρ ρ1 ρ2:Rho}{ds es:List D}{dq dr:D}{o:Out}
   (h1:fs1 ρ=some (ds,ρ1)) (hT:onTs ds=true) (il:i<ρ1.length) (jl:j<ρ1.length) (hq:gq ds=some dq) (h2:fs2 (ρ1.set i none)=some (es,ρ2)) (hT2:onTs es=true) (hr:gr es=some dr) (ht:t31 i j dq dr ft0 ft1 ft2 ft3 ft4 (ρ2.set j none)=some o):q47 i j gq gr fs1 fs2 ft0 ft1 ft2 ft3 ft4 ρ=some o:=by
 unfold q47
 rw[h1]
 dsimp only
 rw[if_pos ⟨hT,il,jl⟩,hq]
 dsimp only
 rw[h2]
 dsimp only
 rw[if_pos hT2,hr]
 exact ht
theorem qf7{i j:Nat}{x:D}{xs:List D}{dr:D}{ft0 ft1 ft2 ft3 ft4:RhB}{ρ ρ':Rho}(hl:xs.length+1<sizeLine)(h0:(ft0 ((ρ.set j (some dr)).set i (some (.lst (x::xs))))).map (·.1)=some true)(h1:(ft1 ((ρ.set j (some dr)).set i (some (.lst (x::xs))))).map (·.1)=some false)(h2:ft2 ρ=some (false,ρ')):t31 i j (.lst (x::xs)) dr ft0 ft1 ft2 ft3 ft4 ρ=some (.nx ρ'):=by
 unfold t31
 dsimp only
 rw[if_pos ⟨hl,h0,h1⟩,h2]
theorem qf8{i j:Nat}{g0:List (List Key×D)}{ft0 ft1 ft2 ft3 ft4:RhB}{ρ ρ':Rho}(hl:g0.length<sizeLine)(h0:(ft0 ((ρ.set j (some (.dit g0))).set i (some .non))).map (·.1)=some false)(h1:(ft3 ((ρ.set j (some (.dit g0))).set i (some .non))).map (·.1)=some false)(h2:ft4 ρ=some (false,ρ')):t31 i j .non (.dit g0) ft0 ft1 ft2 ft3 ft4 ρ=some (.nx ρ'):=by
 unfold t31
 dsimp only
 rw[if_pos ⟨hl,h0,h1⟩,h2]
theorem q0(A C Y S R:D)(W:List D):(q0c (mOp2 q4e (mVar 4) (mRet .non))) [some A,some C,some Y,some S,some (.lst W),some R]=some (true,[some A,some C,some Y,some S,some (.lst W),some R]):=by
 walk_at "ev"
theorem q0n(A C Y S R:D):(q0c (mOp2 q4e (mVar 4) (mRet .non))) [some A,some C,some Y,some S,some .non,some R]=some (false,[some A,some C,some Y,some S,some .non,some R]):=by
 walk_at "ev"
theorem q1(A C Y S:D)(W:List D)(h:f_y21 [S,.lst W]=some (.bl true)):(mOr (mNot (q0c (q0q f_y21 (q01 (mVar 3) (q01 (mVar 4) mNil))))) (q0c (mOp2 q4e (mVar 5) (mRet .non)))) [some A,some C,some Y,some S,some (.lst W),some .non]=some (false,[some A,some C,some Y,some S,some (.lst W),some .non]):=by
 walk_at "ev"
theorem q2(A C Y S Q:D)(hq:f_y14 [S]=some Q)(h:f_y21 [S,Q]=some (.bl true)):(mNot (q0c (q0q f_y21 (q01 (mVar 3) (q01 (q0q f_y14 (q01 (mVar 3) mNil)) mNil))))) [some A,some C,some Y,some S,none,none]=some (false,[some A,some C,some Y,some S,none,none]):=by
 walk_at "ev"
theorem q3(A C Y S R:D)(h:f_y22 [S,R]=some (.bl true)):(mNot (q0c (q0q f_y22 (q01 (mVar 3) (q01 (mVar 5) mNil))))) [some A,some C,some Y,some S,some .non,some R]=some (false,[some A,some C,some Y,some S,some .non,some R]):=by
 walk_at "ev"
theorem q4(A C Y S R:D)(hq:f_y12 [S]=some R)(h:f_y22 [S,R]=some (.bl true)):(mNot (q0c (q0q f_y22 (q01 (mVar 3) (q01 (q0q f_y12 (q01 (mVar 3) mNil)) mNil))))) [some A,some C,some Y,some S,none,none]=some (false,[some A,some C,some Y,some S,none,none]):=by
 walk_at "ev"
def lawT:RhO:=(q47 4 5 f_y14 f_y12 (q01 (mVar 3) mNil) (q01 (mVar 3) mNil)
 (q0c (mOp2 q4e (mVar 4) (mRet .non)))
 (mOr (mNot (q0c (q0q f_y21 (q01 (mVar 3) (q01 (mVar 4) mNil))))) (q0c (mOp2 q4e (mVar 5) (mRet .non))))
 (mNot (q0c (q0q f_y21 (q01 (mVar 3) (q01 (q0q f_y14 (q01 (mVar 3) mNil)) mNil)))))
 (mNot (q0c (q0q f_y22 (q01 (mVar 3) (q01 (mVar 5) mNil)))))
 (mNot (q0c (q0q f_y22 (q01 (mVar 3) (q01 (q0q f_y12 (q01 (mVar 3) mNil)) mNil))))))
theorem q5d:∀ns:List Int,onTs (ns.map D.int)=true
 |[]=>rfl
 |n::ns=>by rw[ji,onTs,q5d ns];rfl
theorem qfd(r:Int)(taps:List Int)(rows:List (List Int))(e:Str):onTs [schD r taps rows e]=true:=by
 have h2:∀rs:List (List Int),onTs (rs.map rowD)=true:=λrs=>by
   induction rs with
   |nil=>rfl
   | cons n ns ih=>
     rw[ji,onTs,ih]
     show(onTs (n.map D.int)&&true)=true
     rw[q5d]
     rfl
 show(onT (.tup [.int r,.tup (taps.map D.int),.tup (rows.map rowD),.str e])&&true)=true
 simp[onT,onTs,q5d,h2]
theorem qo8(ok:q1i r taps rows e)(A C Y:D)(v4 v5:Option D):lawT [some A,some C,some Y,some (schD r taps rows e),v4,v5]=some (.nx [some A,some C,some Y,some (schD r taps rows e),none,none]):=by
 have n90:=q6k ok
 obtain⟨dn,hd,hk,⟨all,hq,hr⟩|⟨z5,hq,hR,hr⟩⟩:=qn4 ok
 · have hv:=qf5 ok hd hk all
   have hl:(dn.map λp=>(ky p.1,D.int p.2)).length<sizeLine:=by
     have:=q7o hd
     unfold nsP at this
     rw[ja]at this ⊢
     exact jt (by omega:dn.length<1000) (by decide)
   refine tail_at (qa6 A C Y _ v4 v5) (qfd r taps rows e) (by decide:4<6) (by decide:5<6) hq (qa6 A C Y _ none v5) (qfd r taps rows e) hr (qf8 hl ?_ ?_ (q4 A C Y _ _ hr hv))
   · show(Option.map _ ((q0c (mOp2 q4e (mVar 4) (mRet .non))) [some A,some C,some Y,some (schD r taps rows e),some .non,some (dicP dn)]))=_
     rw[q0n]
     rfl
   · show(Option.map _ ((mNot (q0c (q0q f_y22 (q01 (mVar 3) (q01 (mVar 5) mNil))))) [some A,some C,some Y,some (schD r taps rows e),some .non,some (dicP dn)]))=_
     rw[q3 A C Y _ _ hv]
     rfl
 · have hv:=qlv ok hR
   have z9:=List.Nodup.length_le_of_subset hR.nd λm h=>hR.sub m h
   cases he:z5 with
   |nil=>exact absurd he hR.ne
   | cons n ns=>
     rw[he]at hq hv z9
     rw[jo]at z9
     rw[ji]at hq hv
     refine tail_at (qa6 A C Y _ v4 v5) (qfd r taps rows e) (by decide:4<6) (by decide:5<6) hq (qa6 A C Y _ none v5) (qfd r taps rows e) hr (qf7 (by rw[ja];exact jt (by omega:ns.length+1<1000) (by decide)) ?_ ?_ (q2 A C Y _ _ hq hv))
     · show(Option.map _ ((q0c (mOp2 q4e (mVar 4) (mRet .non))) [some A,some C,some Y,some (schD r taps rows e),some (.lst (tupD n::ns.map tupD)),some .non]))=_
       rw[q0]
       rfl
     · show(Option.map _ ((mOr (mNot (q0c (q0q f_y21 (q01 (mVar 3) (q01 (mVar 4) mNil))))) (q0c (mOp2 q4e (mVar 5) (mRet .non)))) [some A,some C,some Y,some (schD r taps rows e),some (.lst (tupD n::ns.map tupD)),some .non]))=_
       rw[q1 A C Y _ _ hv]
       rfl
def lawB:RhO:=(sSeq (sOwn 2 (mLst (q01 (mOp2 dAdd (mOp2 q4f (mOp2 dMod (mVar 1) (mOp2 dPow (mRet (.int 10)) (mRet (.int 30)))) (mRet (.int 7368787))) (mRet (.int 1000003))) mNil)))
 (sSeq (sSet 3 (q14 f_y16 2 (q01 (mRet (.int 4)) (q01 (mOp2 dIx (mOf (mLst (q01 (mRet (.str "open")) (q01 (mRet (.str "ended")) (q01 (mRet (.str "ring")) mNil))))) (q14 f_y15 2 (q01 (mRet (.int 3)) mNil))) mNil)))) lawT))
theorem qg3(A:D)(c:Int)(v2 v3 v4 v5:Option D):∃w2 w3 w4 w5,lawB [some A,some (.int c),v2,v3,v4,v5]=some (.nx [some A,some (.int c),w2,w3,w4,w5]):=by
 obtain⟨y,a0⟩:=l0 A c v2 v3 v4 v5 (by decide)
 have d0:=q8b y (m:=3) (by decide)
 have d3:=q8c y (m:=3) (by decide)
 obtain⟨e,hx,he⟩:∃e:Str,atI [D.str "open",D.str "ended",D.str "ring"] (drK y 3)=some (.str e)/\(e="open"∨e="ended"∨e="ring"):=by
   rcases(by omega:drK y 3=0∨drK y 3=1∨drK y 3=2)with q|q|q
   · rw[q];exact⟨_,rfl,.inl rfl⟩
   · rw[q];exact⟨_,rfl,.inr (.inl rfl)⟩
   · rw[q];exact⟨_,rfl,.inr (.inr rfl)⟩
 obtain⟨r,taps,rows,s',hs,ok⟩:=q8m (nxK y) e he
 have a1:=l1 A (.int c) (schD r taps rows e) y s' _ _ v3 v4 v5 (by decide) rfl hx hs
 have a2:=qo8 ok A (.int c) (.lst [.int s']) v4 v5
 unfold lawB
 exact⟨_,_,_,_,(q3t a0).trans<|(q3t a1).trans a2⟩
theorem qk9(A:D)(X:List D)(w1 w2 w3 w4 w5:Option D)(FI:RhL)(FB:RhO)(hI:FI [some A,none,none,none,none,none]=some (X,[some A,none,none,none,none,none]))(hf:q0z (gSet 1) FB X [some A,none,none,none,none,none]=some (.nx [some A,w1,w2,w3,w4,w5])):
   runP false 1 6 (sSeq (sFor FI (gSet 1) FB) (sRet (mRet (.bl true)))) [A]=some (.bl true):=by
 walk_at "ev"
theorem qpe(A:List D)(X:List D)(v1 v2 v3 v4 v5:Option D)(h:dSl (.lst A) none (some 10)=some (.lst X)):(mSeq (mSl (mVar 0) (mRet none) (q6o (mRet (.int 10))))) [some (.lst A),v1,v2,v3,v4,v5]=some (X,[some (.lst A),v1,v2,v3,v4,v5]):=by
 simp[qi8,qp1,qai,qe9,q97,inO,h,q0j,dSeq]
theorem law_true(ns:List Int)(hn:ns.length<=63):f_law [.lst (ns.map D.int)]=some (.bl true):=by
 have hs:dSl (.lst (ns.map D.int)) none (some 10)=some (.lst ((ns.take 10).map D.int)):=by
   rw[qeh (by decide),List.map_take]
   rfl
 obtain⟨ρ',hf,w1,w2,w3,w4,w5,rfl⟩:=q96 (fg:=gSet 1) (fb:=lawB)
   (λρ=>∃w1 w2 w3 w4 w5,ρ=[some (.lst (ns.map D.int)),w1,w2,w3,w4,w5]) ((ns.take 10).map D.int) [some (.lst (ns.map D.int)),none,none,none,none,none] ⟨_,_,_,_,_,rfl⟩ (by
     rintro x ρ hx ⟨w1,w2,w3,w4,w5,rfl⟩
     obtain⟨c,_,rfl⟩:=List.mem_map.mp hx
     obtain⟨u2,u3,u4,u5,ht⟩:=qg3 (.lst (ns.map D.int)) c w2 w3 w4 w5
     exact⟨[some (.lst (ns.map D.int)),some (.int c),w2,w3,w4,w5],_,rfl,.inl ht,_,_,_,_,_,rfl⟩)
 exact qk9 _ _ _ _ _ _ _ _ _ (qpe _ _ _ _ _ _ _ hs) hf
end
theorem qo6{P:Program}{w:World}{K mg a base}(T:Txt K mg a):FnOk P w K mg base CX0 8 a.f_law a.fd_law ["_law_script"] (qio K 63):=qo7 (qni T) law_true
local macro_rules|`(tactic|walk_at "k")=>`(tactic|as_aux_lemma=>kernel_rfl)
local macro_rules|`(tactic|walk_at "f")=>`(tactic|exact qow (oc:=.type "function") (od:=none) (osl:=#[]) (by walk_at "k") (by walk_at "k") (by walk_at "k"))
def ad:Ad:=⟨21,(PySem.W.fnOf "rooms_at" "rooms_at" (q0x s_y0) (q0v s_y0) (q05 s_y0) .none (.none) (.none) (.str "trellisway.schemes" 187) none (.ref 20) (.none)),28,(PySem.W.fnOf "rooms" "rooms" (q0x s_y1) (q0v s_y1) (q05 s_y1) .none (.none) (.none) (.str "trellisway.schemes" 187) none (.ref 27) (.none)),35,(PySem.W.fnOf "parity" "parity" (q0x s_y2) (q0v s_y2) (q05 s_y2) .none (.none) (.none) (.str "trellisway.schemes" 187) none (.ref 34) (.none)),40,(PySem.W.fnOf "step" "step" (q0x s_y3) (q0v s_y3) (q05 s_y3) .none (.none) (.none) (.str "trellisway.schemes" 187) none (.ref 39) (.none)),45,(PySem.W.fnOf "sent_at" "sent_at" (q0x s_y4) (q0v s_y4) (q05 s_y4) .none (.none) (.none) (.str "trellisway.schemes" 187) none (.ref 44) (.none)),50,(PySem.W.fnOf "nodes_of" "nodes_of" (q0x s_y5) (q0v s_y5) (q05 s_y5) .none (.none) (.none) (.str "trellisway.quiet" 224) none (.ref 49) (.none)),57,(PySem.W.fnOf "paces_from" "paces_from" (q0x s_y6) (q0v s_y6) (q05 s_y6) .none (.none) (.none) (.str "trellisway.quiet" 224) none (.ref 56) (.none)),64,(PySem.W.fnOf "paces_of" "paces_of" (q0x s_y7) (q0v s_y7) (q05 s_y7) .none (.none) (.none) (.str "trellisway.quiet" 224) none (.ref 63) (.none)),69,(PySem.W.fnOf "quiet_leads" "quiet_leads" (q0x s_y8) (q0v s_y8) (q05 s_y8) .none (.none) (.none) (.str "trellisway.quiet" 224) none (.ref 68) (.none)),74,(PySem.W.fnOf "all_ranked" "all_ranked" (q0x s_y9) (q0v s_y9) (q05 s_y9) .none (.none) (.none) (.str "trellisway.quiet" 224) none (.ref 73) (.none)),79,(PySem.W.fnOf "ready_nodes" "ready_nodes" (q0x q8r) (q0v q8r) (q05 q8r) .none (.none) (.none) (.str "trellisway.quiet" 224) none (.ref 78) (.none)),84,(PySem.W.fnOf "ranks_by" "ranks_by" (q0x qc9) (q0v qc9) (q05 qc9) .none (.none) (.none) (.str "trellisway.quiet" 224) none (.ref 83) (.none)),91,(PySem.W.fnOf "ranks" "ranks" (q0x qc8) (q0v qc8) (q05 qc8) .none (.none) (.none) (.str "trellisway.quiet" 224) none (.ref 90) (.none)),96,(PySem.W.fnOf "ring_from" "ring_from" (q0x qay) (q0v qay) (q05 qay) .none (.none) (.none) (.str "trellisway.quiet" 224) none (.ref 95) (.none)),101,(PySem.W.fnOf "quiet" "quiet" (q0x q8q) (q0v q8q) (q05 q8q) .none (.none) (.none) (.str "trellisway.quiet" 224) none (.ref 100) (.none)),108,(PySem.W.fnOf "_law_next" "_law_next" (q0x qc7) (q0v qc7) (q05 qc7) .none (.none) (.none) (.str "law_trellisway_k31_quiet_or_ranked" 299) none (.ref 107) (.none)),113,(PySem.W.fnOf "_law_scheme" "_law_scheme" (q0x qc6) (q0v qc6) (q05 qc6) .none (.none) (.none) (.str "law_trellisway_k31_quiet_or_ranked" 299) none (.ref 112) (.none)),118,(PySem.W.fnOf "_law_led" "_law_led" (q0x qc5) (q0v qc5) (q05 qc5) .none (.none) (.none) (.str "law_trellisway_k31_quiet_or_ranked" 299) none (.ref 117) (.none)),123,(PySem.W.fnOf "_law_nodes" "_law_nodes" (q0x qc4) (q0v qc4) (q05 qc4) .none (.none) (.none) (.str "law_trellisway_k31_quiet_or_ranked" 299) none (.ref 122) (.none)),130,(PySem.W.fnOf "_law_ways" "_law_ways" (q0x qc3) (q0v qc3) (q05 qc3) .none (.none) (.none) (.str "law_trellisway_k31_quiet_or_ranked" 299) none (.ref 129) (.none)),135,(PySem.W.fnOf "_law_quiet" "_law_quiet" (q0x qax) (q0v qax) (q05 qax) .none (.none) (.none) (.str "law_trellisway_k31_quiet_or_ranked" 299) none (.ref 134) (.none)),142,(PySem.W.fnOf "_law_ring" "_law_ring" (q0x qc2) (q0v qc2) (q05 qc2) .none (.none) (.none) (.str "law_trellisway_k31_quiet_or_ranked" 299) none (.ref 141) (.none)),147,(PySem.W.fnOf "_law_ranked" "_law_ranked" (q0x qc1) (q0v qc1) (q05 qc1) .none (.none) (.none) (.str "law_trellisway_k31_quiet_or_ranked" 299) none (.ref 146) (.none)),154,(PySem.W.fnOf "law" "law" (q0x qca) (q0v qca) (q05 qca) .none (.none) (.none) (.str "law_trellisway_k31_quiet_or_ranked" 299) none (.ref 153) (.none))⟩
theorem txt{P:Params}{h:Heap}{mg:Str->Option Value}{fa:Addr}(X:(H31.KH P).In h)(G:h.Ns mainGlobals mg)(hfa:mg "law"=some (.ref fa)):∃a:Ad,Txt (H31.KH P) mg a/\a.f_law=fa/\∀(s:Shared) (v:Value),BindsTo s a.fd_law ⟨[v],[]⟩ [("_law_script",v)]:=by
 have e0:154=fa:=Value.ref.inj (jh ((PySem.W.mg_of X G (show PySem.W.nsIn (H31.KH P) mainGlobals "law"=some (some (.ref 154))from by walk_at "k")).symm.trans hfa))
 subst e0
 have g {x:Str} {v:Value} (h:PySem.W.nsIn (H31.KH P) mainGlobals x=some (some v)):mg x=some v:=PySem.W.mg_of X G h
 refine⟨ad,⟨(by walk_at "f"),.all λus hl=>match us,hl with|[_],_=>rfl,g ?_,?_,(by walk_at "f"),.all λus hl=>match us,hl with|[_],_=>rfl,g ?_,?_,(by walk_at "f"),.all λus hl=>match us,hl with|[_],_=>rfl,g ?_,?_,(by walk_at "f"),.all λus hl=>match us,hl with|[_,_,_],_=>rfl,g ?_,?_,(by walk_at "f"),.all λus hl=>match us,hl with|[_,_,_],_=>rfl,g ?_,?_,(by walk_at "f"),.all λus hl=>match us,hl with|[_],_=>rfl,g ?_,?_,(by walk_at "f"),.all λus hl=>match us,hl with|[_,_],_=>rfl,g ?_,?_,(by walk_at "f"),.all λus hl=>match us,hl with|[_],_=>rfl,g ?_,?_,(by walk_at "f"),.all λus hl=>match us,hl with|[_],_=>rfl,g ?_,?_,(by walk_at "f"),.all λus hl=>match us,hl with|[_,_],_=>rfl,g ?_,?_,(by walk_at "f"),.all λus hl=>match us,hl with|[_,_],_=>rfl,g ?_,?_,(by walk_at "f"),.all λus hl=>match us,hl with|[_],_=>rfl,g ?_,?_,(by walk_at "f"),.all λus hl=>match us,hl with|[_],_=>rfl,g ?_,?_,(by walk_at "f"),.all λus hl=>match us,hl with|[_,_,_],_=>rfl,g ?_,?_,(by walk_at "f"),.all λus hl=>match us,hl with|[_],_=>rfl,g ?_,?_,(by walk_at "f"),.all λus hl=>match us,hl with|[_,_],_=>rfl,g ?_,?_,(by walk_at "f"),.all λus hl=>match us,hl with|[_,_,_],_=>rfl,g ?_,?_,(by walk_at "f"),.all λus hl=>match us,hl with|[_,_,_,_],_=>rfl,g ?_,?_,(by walk_at "f"),.all λus hl=>match us,hl with|[_],_=>rfl,g ?_,?_,(by walk_at "f"),.all λus hl=>match us,hl with|[_,_],_=>rfl,g ?_,?_,(by walk_at "f"),.all λus hl=>match us,hl with|[_,_],_=>rfl,g ?_,?_,(by walk_at "f"),.all λus hl=>match us,hl with|[_,_],_=>rfl,g ?_,?_,(by walk_at "f"),.all λus hl=>match us,hl with|[_,_],_=>rfl,g ?_,?_,(by walk_at "f"),.all λus hl=>match us,hl with|[_],_=>rfl,g ?_,?_,PySem.W.mg_none_of X G ?_,PySem.W.mg_none_of X G ?_,PySem.W.mg_none_of X G ?_,PySem.W.mg_none_of X G ?_,PySem.W.mg_none_of X G ?_,PySem.W.mg_none_of X G ?_,PySem.W.mg_none_of X G ?_,PySem.W.mg_none_of X G ?_,PySem.W.mg_none_of X G ?_,PySem.W.mg_none_of X G ?_,PySem.W.mg_none_of X G ?_,PySem.W.mg_none_of X G ?_,PySem.W.mg_none_of X G ?_,PySem.W.mg_none_of X G ?_,q1h (by decide+kernel) ?_ (by decide+kernel),q4u,q1h (by decide+kernel) ?_ (by decide+kernel),q1h (by decide+kernel) ?_ (by decide+kernel),q1h (by decide+kernel) ?_ (by decide+kernel),q1h (by decide+kernel) ?_ (by decide+kernel),q1h (by decide+kernel) ?_ (by decide+kernel),q1h (by decide+kernel) ?_ (by decide+kernel),q1h (by decide+kernel) ?_ (by decide+kernel),q1h (by decide+kernel) ?_ (by decide+kernel),q1h (by decide+kernel) ?_ (by decide+kernel),q1h (by decide+kernel) ?_ (by decide+kernel),q1h (by decide+kernel) ?_ (by decide+kernel),q4u,q1h (by decide+kernel) ?_ (by decide+kernel),q1h (by decide+kernel) ?_ (by decide+kernel),q4u,q1h (by decide+kernel) ?_ (by decide+kernel),q1h (by decide+kernel) ?_ (by decide+kernel),q1h (by decide+kernel) ?_ (by decide+kernel),q1h (by decide+kernel) ?_ (by decide+kernel),q1h (by decide+kernel) ?_ (by decide+kernel),q1h (by decide+kernel) ?_ (by decide+kernel),q1h (by decide+kernel) ?_ (by decide+kernel),q1h (by decide+kernel) ?_ (by decide+kernel),q4u,q1h (by decide+kernel) ?_ (by decide+kernel),q1h (by decide+kernel) ?_ (by decide+kernel)⟩,rfl,λs v=>.of_eq rfl⟩<;>walk_at "k"
theorem walk{l:PySem.W.OpenLaw}{q:Program}{loose:List Str}{XP:(Str->Option Value)->Heap->Prop}{YP:World->Heap->Prop}{d:DefRec}{K:Params->PySem.W.Frag}(hn:l.most=some 63)(hdf:d.params.defaults=[])(hd:d.name="law")
   (hY:∀(w:World) (h:Heap),YP w h->(K w.params).In h)
   (F:∀(w:World) (mg:Str->Option Value) (fa:Addr) (h:Heap),(K w.params).In h->h.Ns mainGlobals mg->mg "law"=some (.ref fa)->∃a:Ad,Txt (K w.params) mg a/\a.f_law=fa/\∀(s:Shared) (v:Value),BindsTo s a.fd_law ⟨[v],[]⟩ [("_law_script",v)]):
   PySem.W.WalkO q loose XP YP l.row.toRowW d [] (λf vs=>PySem.call f vs):=
 L2.walk_of (n:=63) (k:=8) (x:="_law_script") (CX:=λ_=>CX0) (sp:=λw=>qio (K w.params) 63) hn (by decide) hdf ⟨rfl,by decide,by decide⟩ hY
   (λw mg fa h KX G hm=>by
     rw[hd]at hm
     obtain⟨a,T,e,b⟩:=F w mg fa h KX G hm
     subst e
     exact⟨a.fd_law,b,λbase _ _=>qo6 T⟩)
   (λ_ _ a ns hl _ hS=>⟨a,ns,rfl,hS,hl,λ_=>rfl⟩) λ_ _ _ _ _ z=>z
end K31
open PySem PySem.W PyProof.Rows
set_option maxRecDepth 100000 in
set_option maxHeartbeats 0 in
theorem PySem.Challenge.cw_trellisway_k31_quiet_or_ranked_holds : PySem.Challenge.rw_trellisway_k31_quiet_or_ranked.Holds := by
 w_on;o_law
 refine holds_open (r:=PySem.Challenge.rw_trellisway_k31_quiet_or_ranked.row) (q:=H31.V) (loose:=[]) (Xt:=(λs=>xlAt H31.V [] s&&recOk (RowW.records (OpenRow.toRowW PySem.Challenge.rw_trellisway_k31_quiet_or_ranked.row)) s)) (XP:=XL H31.V []) (Yf:=Hook.obs (kHook H31.KH H31.KA H31.ka_eq)) (Ya:=Hook.val (kHook H31.KH H31.KA H31.ka_eq)) (YP:=Hook.says (kHook H31.KH H31.KA H31.ka_eq)) (N:=1538) H31.leftR (Hook.of (kHook H31.KH H31.KA H31.ka_eq)) (Hook.keeps (kHook H31.KH H31.KA H31.ka_eq)) (λs e=>xl_of s (Bool.and_eq_true_iff.mp e).1) XL.keeps (by rfl) (by rfl) (by rfl) (λs e=>recFacts_of (Bool.and_eq_true_iff.mp e).2) (by rfl) (by first|assumption|decide+kernel) (by decide+kernel) ⟨rfl,rfl,rfl,rfl,rfl,by decide+kernel⟩ ?hw ?hc
 case hw=>w_witness2
 case hc=>exact K31.walk (l:=PySem.Challenge.rw_trellisway_k31_quiet_or_ranked) rfl rfl rfl (λw h Y=>PySem.W.kIn_of Y) λw mg fa h KX G hmg=>K31.txt KX G hmg
