import PyProof.Rows.All
import Wide.All
import OpenK.AllK
import Wide.FinOn
import Lean
import KE.KTryMore
import KE.KRevIter
import KE.KMinKey
import KE.KIntText
import PyProof.EqAt
import PyProof.EqKinds
import PyProof.TupleCall
import PySem.Challenge.RW_trellisway_k25_whole_settled_stays
set_option Elab.async false
set_option linter.all false
set_option maxRecDepth 100000
set_option maxHeartbeats 4000000
abbrev FrG:=PySem.W.Frag
abbrev zlw:PySem.Str:="law_trellisway_k25_whole_settled_stays"
namespace H25
open PySem PySem.W
def q6y(tb:String->Option Builtin)(p:Program)(w:World)(n₀:Nat)(ann:Option Value):Nat->SharedT->Thread->Option SharedT
 |0,_,_=>none
 | n+1,s,t=>match through t with
  |true=>some s
  | false=>match stepOk n₀ ann t with
   |false=>none
   | true=>match stepT (denote tb) p w s t with
    |some (s',t')=>q6y tb p w n₀ ann n s' t'
    |none=>none
theorem q80{tb:String->Option Builtin}{p:Program}{w:World}{n₀:Nat}{ann:Option Value}:∀{n:Nat} {s s':SharedT} {t:Thread},q6y tb p w n₀ ann n s t=some s'->topRun tb p w n₀ ann n s.abs t=some s'.abs
 |0,_,_,_,h=>by cases h
 | n+1,s,s',t,h=>by
  unfold q6y at h;unfold topRun;split at h
  ·rename_i q;rw[q];cases h;rfl
  ·rename_i q;rw[q];split at h
   ·cases h
   ·rename_i q2;dsimp only;rw[q2];split at h
    ·rename_i s1 t1 q3;dsimp only;rw[stepT_spec q3];exact q80 h
    ·cases h
def qlz:List Obj->Nat->BT->BT
 |[],_,t=>t
 |o::r,n,t=>qlz r (n+1) (t.ins n o)
noncomputable def qoj(P:Params)(os:OsState):SharedT:=⟨qlz (boot_heap P).objs.toList 0 .nil,(boot_heap P).objs.size,(boot_heap P).life,Array.mk [],boot_drawn,boot_toks,os⟩
theorem qi3(P:Params)(os:OsState):(qoj P os).abs=⟨boot_heap P,Array.mk [],boot_drawn,boot_toks,os⟩:=by kernel_rfl
theorem qh4{p q:Program}{loose:List Str}{Xt:Shared->Bool}{α:Type}{Yf:Shared->α}{Ya:World->α}{N m₀:Nat}{ann:Option Value}(e:opening p=plainProg p.main.scope.names)(hN:Nat.ble 600 N=true)(f:∀s,fenceModules? p s=some s)
 (size:∀P:Params,((boot_heap P).isNs mainGlobals,(boot_heap P).objs.size,(boot_heap P).nsMap mainGlobals "__annotations__")=(true,m₀,ann))
 (run:∀(w:World) (os:OsState),(q6y treeTable p w m₀ ann N (qoj w.params os) (topStub p)).map (λs=>(staticsOk (importedModules p.main.body) (boot_heap w.params) s.abs.heap&&namesBound p s.abs.heap&&gensDone s.abs&&laidKept (boot_heap w.params) s.abs.heap,
   openSeen q loose (importedModules p.main.body) Xt true s.abs,Yf s.abs))=some (true,openGood q loose,Ya w)):LeftO p q loose Xt Yf Ya N:=λw=>by
 obtain⟨⟨h,gs,d,k,os⟩,e,e'⟩:=Option.map_eq_some_iff.mp (boot_open e hN f w);obtain⟨rfl,rfl,rfl,rfl⟩:h=boot_heap w.params/\gs=Array.mk []/\d=boot_drawn/\k=boot_toks:=by simpa using e'
 obtain⟨z1,z2,z3⟩:_/\_/\_:=by simpa only[Prod.mk.injEq]using size w.params
 obtain⟨s,r,l⟩:=Option.map_eq_some_iff.mp (run w os);obtain⟨l1,l2,l3⟩:_/\_/\_:=by simpa only[Prod.mk.injEq]using l
 have r:=q80 r;rw[qi3]at r;have t:topFrom treeTable p w N ⟨boot_heap w.params,Array.mk [],boot_drawn,boot_toks,os⟩=some s.abs:=by unfold topFrom;dsimp only;rw[z1,z2,z3,r];show(match staticsOk (importedModules p.main.body) (boot_heap w.params) s.abs.heap&&namesBound p s.abs.heap&&gensDone s.abs&&laidKept (boot_heap w.params) s.abs.heap with|true=>_|false=>_)=_;rw[l1]
 unfold openEnds;rw[e];show(topFrom treeTable p w N _).map _=_;rw[t];exact congrArg some (Prod.ext l2 l3)
def tp(i:Nat):Stmt:=PySem.Challenge.pw_trellisway_k25_whole_settled_stays.main.body.getD i (.Pass ⟨0,0,0,0⟩)
def ic(s:Stmt)(j:Nat):Stmt:=match s with
 |.ClassDef _ _ _ b _ _ _ _ _ _ _=>b.getD j (.Pass ⟨0,0,0,0⟩)
 |_=>.Pass ⟨0,0,0,0⟩
def dA(s:Stmt):Arguments:=match s with
 |.FunctionDef _ a _ _ _ _ _ _ _ _=>a
 |_=>{posonlyargs:=[],args:=[],vararg:=none,kwonlyargs:=[],kw_defaults:=[],kwarg:=none,defaults:=[]}
def dB(s:Stmt):List Stmt:=match s with
 |.FunctionDef _ _ b _ _ _ _ _ _ _=>b
 |_=>[]
def dS(s:Stmt):Scope:=match s with
 |.FunctionDef _ _ _ _ _ _ sc _ _ _=>sc
 |_=>{kind:=.function,names:=[],isGenerator:=false,isCoroutine:=false}
def V:Program:={PySem.Challenge.pw_trellisway_k25_whole_settled_stays with main:={PySem.Challenge.pw_trellisway_k25_whole_settled_stays.main with body:=[tp 1,tp 2,tp 3,tp 5,tp 6,tp 7,tp 8,tp 9,tp 11,tp 12,tp 13,tp 14,tp 15,tp 16,tp 18,tp 19,tp 20,tp 21,tp 22,tp 24,tp 25,tp 26,tp 27,tp 28,tp 29,tp 30,tp 31,tp 32,tp 33,tp 34,tp 36,tp 37,tp 38,tp 39,tp 40,tp 41,tp 42,tp 44,tp 45,tp 47,tp 48,tp 49,tp 50,tp 51,tp 52,tp 53,tp 54,tp 55,tp 56,tp 57,tp 58,tp 59,tp 60]}}
def eS(P:Params)(x:Str)(t:Nat)(v:Value):DictEntry:=⟨PyData.keyHash P x,.str x t,v⟩
def fO(x:Str)(s:Stmt)(pm:Value)(cd:Nat):Obj:=⟨.type "function",none,.func (W.fnOf x x (dA s) (dB s) (dS s) .none .none .none pm none (.ref cd) .none),#[]⟩
def cO(x:Str)(t:Nat)(y:Str)(u a2 a3 a4 a7 a8 a10 a11 a13 a14 a15 a16 a17 a18:Nat):Obj:=⟨.type "code",none,.fields #[.str x t,.str y u,.str "/claim/cut.py" a2,.int a3 0,.int a4 0,.int 0 0,.int 0 0,.int a7 0,.ref a8,.bool true,.int a10 0,.ref a11,.none,.ref a13,.ref a14,.ref a15,.int a16 0,.int a17 0,.str "/claim/cut.py" a18],#[]⟩
def KH(P:Params):W.Frag:=[(3,⟨.type "dict",none,.dict #[eS P "__name__" 165 (.str zlw 641),eS P "__doc__" 166 (.none),eS P "__package__" 167 (.none),eS P "__loader__" 168 (.builtin "__main__.__loader__#opaque"),eS P "__spec__" 169 (.none),eS P "__annotations__" 170 (.ref 6),eS P "__builtins__" 171 (.ref 4),eS P "__file__" 173 (.str "/claim/cut.py" 172),eS P "__cached__" 174 (.none),eS P "WayError" 206 (.ref 24),eS P "NoWord" 222 (.ref 37),eS P "NoSigns" 238 (.ref 49),eS P "rooms_at" 247 (.ref 58),eS P "rooms" 254 (.ref 65),eS P "parity" 263 (.ref 72),eS P "step" 269 (.ref 77),eS P "sent_at" 275 (.ref 82),eS P "is_ring" 284 (.ref 89),eS P "check_size" 292 (.ref 96),eS P "bits_behind" 299 (.ref 103),eS P "first_rooms" 306 (.ref 110),eS P "steps_of" 314 (.ref 117),eS P "places_of" 325 (.ref 124),eS P "Sign" 347 (.ref 134),eS P "Clear" 387 (.ref 169),eS P "Gap" 418 (.ref 195),eS P "Soft" 460 (.ref 228),eS P "sign_of" 467 (.ref 237),eS P "check_heard" 479 (.ref 244),eS P "signs_cost" 485 (.ref 249),eS P "signs_by_step" 491 (.ref 254),eS P "move" 503 (.ref 261),eS P "moves_from" 509 (.ref 266),eS P "moves" 515 (.ref 271),eS P "end_costs" 521 (.ref 276),eS P "cost_by" 530 (.ref 283),eS P "least_by" 536 (.ref 288),eS P "ahead_by" 542 (.ref 293),eS P "ahead_by_start" 552 (.ref 300),eS P "opened" 561 (.ref 307),eS P "kept_at_first" 567 (.ref 312),eS P "better" 575 (.ref 319),eS P "kept_on" 589 (.ref 326),eS P "kept" 600 (.ref 333),eS P "begun_alike" 611 (.ref 340),eS P "settled" 617 (.ref 345),eS P "nearest_from" 634 (.ref 352),eS P "nearest" 640 (.ref 357),eS P "_law_cell_at" 650 (.ref 364),eS P "_law_state" 658 (.ref 371),eS P "_law_next" 666 (.ref 378),eS P "_law_scheme" 672 (.ref 383),eS P "_law_odd" 680 (.ref 390),eS P "_law_step" 686 (.ref 395),eS P "_law_start" 696 (.ref 402),eS P "_law_sent" 709 (.ref 409),eS P "_law_sign" 720 (.ref 416),eS P "_law_heard" 732 (.ref 423),eS P "_law_whole" 739 (.ref 430),eS P "_law_is_word" 745 (.ref 435),eS P "_law_many" 751 (.ref 440),eS P "law" 757 (.ref 445)] 62,#[]⟩),
 (23,⟨.type "dict",none,.dict #[eS P "__module__" 196 (.str "trellisway.errors" 187),eS P "__firstlineno__" 200 (.int 2 199),eS P "__static_attributes__" 201 (.ref 22),eS P "__weakref__" 203 (.ref 25),eS P "__doc__" 204 (.none)] 3,#[]⟩),
 (24,⟨.type "type",none,.cls ⟨"WayError",[.type "ValueError"],[.ref 24,.type "ValueError",.type "Exception",.type "BaseException",.type "object"],23,"WayError",true,[],[.ref 37,.ref 49],false,none,false⟩,#[some (.ref 15),none,some (.str "WayError" 189),some (.str "WayError" 197),some (.builtin "ValueError.__new__"),some (.bool true)]⟩),
 (36,⟨.type "dict",none,.dict #[eS P "__module__" 214 (.str "trellisway.errors" 187),eS P "__firstlineno__" 218 (.int 4 217),eS P "__static_attributes__" 219 (.ref 35),eS P "__doc__" 220 (.none)] 2,#[]⟩),
 (37,⟨.type "type",none,.cls ⟨"NoWord",[.ref 24],[.ref 37,.ref 24,.type "ValueError",.type "Exception",.type "BaseException",.type "object"],36,"NoWord",true,[],[],false,none,false⟩,#[some (.ref 28),none,some (.str "NoWord" 207),some (.str "NoWord" 215),some (.builtin "ValueError.__new__"),some (.bool true)]⟩),
 (48,⟨.type "dict",none,.dict #[eS P "__module__" 230 (.str "trellisway.errors" 187),eS P "__firstlineno__" 234 (.int 6 233),eS P "__static_attributes__" 235 (.ref 47),eS P "__doc__" 236 (.none)] 2,#[]⟩),
 (49,⟨.type "type",none,.cls ⟨"NoSigns",[.ref 24],[.ref 49,.ref 24,.type "ValueError",.type "Exception",.type "BaseException",.type "object"],48,"NoSigns",true,[],[],false,none,false⟩,#[some (.ref 40),none,some (.str "NoSigns" 223),some (.str "NoSigns" 231),some (.builtin "ValueError.__new__"),some (.bool true)]⟩),
 (57,cO "rooms_at" 241 "rooms_at" 242 243 9 1 3 52 181 53 54 55 56 245 9 246),
 (58,fO "rooms_at" (tp 5) (.str "trellisway.schemes" 239) 57),
 (64,cO "rooms" 248 "rooms" 249 250 11 1 3 59 181 60 61 62 63 252 11 253),
 (65,fO "rooms" (tp 6) (.str "trellisway.schemes" 239) 64),
 (71,cO "parity" 255 "parity" 256 257 13 1 3 66 181 67 68 69 70 261 13 262),
 (72,fO "parity" (tp 7) (.str "trellisway.schemes" 239) 71),
 (76,⟨.type "code",none,.fields #[.str "step" 264,.str "step" 265,.str "/claim/cut.py" 266,.int 20 0,.int 3 0,.int 0 0,.int 0 0,.int 3 0,.ref 73,.bool true,.int 181 0,.ref 74,.none,.none,.none,.ref 75,.int 267 0,.int 20 0,.str "/claim/cut.py" 268],#[]⟩),
 (77,fO "step" (tp 8) (.str "trellisway.schemes" 239) 76),
 (81,⟨.type "code",none,.fields #[.str "sent_at" 270,.str "sent_at" 271,.str "/claim/cut.py" 272,.int 24 0,.int 3 0,.int 0 0,.int 0 0,.int 3 0,.ref 78,.bool true,.int 181 0,.ref 79,.none,.none,.none,.ref 80,.int 273 0,.int 24 0,.str "/claim/cut.py" 274],#[]⟩),
 (82,fO "sent_at" (tp 9) (.str "trellisway.schemes" 239) 81),
 (88,cO "is_ring" 278 "is_ring" 279 280 29 1 3 83 181 84 85 86 87 282 29 283),
 (89,fO "is_ring" (tp 11) (.str "trellisway.sending" 276) 88),
 (95,cO "check_size" 285 "check_size" 286 287 31 2 3 90 181 91 92 93 94 290 31 291),
 (96,fO "check_size" (tp 12) (.str "trellisway.sending" 276) 95),
 (102,cO "bits_behind" 293 "bits_behind" 294 295 34 1 3 97 181 98 99 100 101 297 34 298),
 (103,fO "bits_behind" (tp 13) (.str "trellisway.sending" 276) 102),
 (109,cO "first_rooms" 300 "first_rooms" 301 302 36 1 3 104 181 105 106 107 108 304 36 305),
 (110,fO "first_rooms" (tp 14) (.str "trellisway.sending" 276) 109),
 (116,cO "steps_of" 307 "steps_of" 308 309 38 2 3 111 181 112 113 114 115 312 38 313),
 (117,fO "steps_of" (tp 15) (.str "trellisway.sending" 276) 116),
 (123,cO "places_of" 315 "places_of" 316 317 41 2 3 118 181 119 120 121 122 323 41 324),
 (124,fO "places_of" (tp 16) (.str "trellisway.sending" 276) 123),
 (133,⟨.type "dict",none,.dict #[eS P "__module__" 335 (.str "trellisway.signs" 326),eS P "__firstlineno__" 339 (.int 48 338),eS P "__static_attributes__" 340 (.ref 132),eS P "__dict__" 342 (.ref 135),eS P "__weakref__" 344 (.ref 136),eS P "__doc__" 345 (.none)] 4,#[]⟩),
 (134,⟨.type "type",none,.cls ⟨"Sign",[.type "object"],[.ref 134,.type "object"],133,"Sign",true,[],[.ref 169,.ref 195,.ref 228],false,none,false⟩,#[none,none,some (.str "Sign" 328),some (.str "Sign" 336),some (.builtin "object.__new__"),some (.bool true)]⟩),
 (151,cO "__init__" 360 "Clear.__init__" 361 362 52 2 3 146 181 147 148 149 150 365 52 366),
 (152,⟨.type "function",none,.func (W.fnOf "__init__" "Clear.__init__" (dA (ic (tp 19) 0)) (dB (ic (tp 19) 0)) (dS (ic (tp 19) 0)) (.none) (.none) (.none) (.str "trellisway.signs" 326) none (.ref 151) (.none)),#[]⟩),
 (158,cO "told" 368 "Clear.told" 369 370 55 1 3 153 181 154 155 156 157 372 55 373),
 (159,⟨.type "function",none,.func (W.fnOf "told" "Clear.told" (dA (ic (tp 19) 1)) (dB (ic (tp 19) 1)) (dS (ic (tp 19) 1)) (.none) (.none) (.none) (.str "trellisway.signs" 326) none (.ref 158) (.none)),#[]⟩),
 (165,cO "cost" 375 "Clear.cost" 376 377 58 2 3 160 181 161 162 163 164 380 58 381),
 (166,⟨.type "function",none,.func (W.fnOf "cost" "Clear.cost" (dA (ic (tp 19) 2)) (dB (ic (tp 19) 2)) (dS (ic (tp 19) 2)) (.none) (.none) (.none) (.str "trellisway.signs" 326) none (.ref 165) (.none)),#[]⟩),
 (168,⟨.type "dict",none,.dict #[eS P "__module__" 355 (.str "trellisway.signs" 326),eS P "__firstlineno__" 359 (.int 50 358),eS P "__init__" 367 (.ref 152),eS P "told" 374 (.ref 159),eS P "cost" 382 (.ref 166),eS P "__static_attributes__" 384 (.ref 167),eS P "__doc__" 385 (.none)] 2,#[]⟩),
 (169,⟨.type "type",none,.cls ⟨"Clear",[.ref 134],[.ref 169,.ref 134,.type "object"],168,"Clear",true,[],[],false,none,false⟩,#[some (.ref 139),none,some (.str "Clear" 348),some (.str "Clear" 356),some (.builtin "object.__new__"),some (.bool true)]⟩),
 (184,cO "told" 400 "Gap.told" 401 402 62 1 3 179 181 180 181 182 183 404 62 405),
 (185,⟨.type "function",none,.func (W.fnOf "told" "Gap.told" (dA (ic (tp 20) 0)) (dB (ic (tp 20) 0)) (dS (ic (tp 20) 0)) (.none) (.none) (.none) (.str "trellisway.signs" 326) none (.ref 184) (.none)),#[]⟩),
 (191,cO "cost" 407 "Gap.cost" 408 409 65 2 3 186 181 187 188 189 190 412 65 413),
 (192,⟨.type "function",none,.func (W.fnOf "cost" "Gap.cost" (dA (ic (tp 20) 1)) (dB (ic (tp 20) 1)) (dS (ic (tp 20) 1)) (.none) (.none) (.none) (.str "trellisway.signs" 326) none (.ref 191) (.none)),#[]⟩),
 (194,⟨.type "dict",none,.dict #[eS P "__module__" 395 (.str "trellisway.signs" 326),eS P "__firstlineno__" 399 (.int 60 398),eS P "told" 406 (.ref 185),eS P "cost" 414 (.ref 192),eS P "__static_attributes__" 415 (.ref 193),eS P "__doc__" 416 (.none)] 2,#[]⟩),
 (195,⟨.type "type",none,.cls ⟨"Gap",[.ref 134],[.ref 195,.ref 134,.type "object"],194,"Gap",true,[],[],false,none,false⟩,#[some (.ref 172),none,some (.str "Gap" 388),some (.str "Gap" 396),some (.builtin "object.__new__"),some (.bool true)]⟩),
 (210,cO "__init__" 431 "Soft.__init__" 432 433 69 3 3 205 181 206 207 208 209 437 69 438),
 (211,⟨.type "function",none,.func (W.fnOf "__init__" "Soft.__init__" (dA (ic (tp 21) 0)) (dB (ic (tp 21) 0)) (dS (ic (tp 21) 0)) (.none) (.none) (.none) (.str "trellisway.signs" 326) none (.ref 210) (.none)),#[]⟩),
 (217,cO "told" 440 "Soft.told" 441 442 73 1 3 212 181 213 214 215 216 444 73 445),
 (218,⟨.type "function",none,.func (W.fnOf "told" "Soft.told" (dA (ic (tp 21) 1)) (dB (ic (tp 21) 1)) (dS (ic (tp 21) 1)) (.none) (.none) (.none) (.str "trellisway.signs" 326) none (.ref 217) (.none)),#[]⟩),
 (224,cO "cost" 447 "Soft.cost" 448 449 76 2 3 219 181 220 221 222 223 452 76 453),
 (225,⟨.type "function",none,.func (W.fnOf "cost" "Soft.cost" (dA (ic (tp 21) 2)) (dB (ic (tp 21) 2)) (dS (ic (tp 21) 2)) (.none) (.none) (.none) (.str "trellisway.signs" 326) none (.ref 224) (.none)),#[]⟩),
 (227,⟨.type "dict",none,.dict #[eS P "__module__" 426 (.str "trellisway.signs" 326),eS P "__firstlineno__" 430 (.int 67 429),eS P "__init__" 439 (.ref 211),eS P "told" 446 (.ref 218),eS P "cost" 454 (.ref 225),eS P "__static_attributes__" 457 (.ref 226),eS P "__doc__" 458 (.none)] 2,#[]⟩),
 (228,⟨.type "type",none,.cls ⟨"Soft",[.ref 134],[.ref 228,.ref 134,.type "object"],227,"Soft",true,[],[],false,none,false⟩,#[some (.ref 198),none,some (.str "Soft" 419),some (.str "Soft" 427),some (.builtin "object.__new__"),some (.bool true)]⟩),
 (236,cO "sign_of" 461 "sign_of" 462 463 78 1 3 231 181 232 233 234 235 465 78 466),
 (237,fO "sign_of" (tp 22) (.str "trellisway.signs" 326) 236),
 (243,cO "check_heard" 470 "check_heard" 471 472 85 3 3 238 181 239 240 241 242 477 85 478),
 (244,fO "check_heard" (tp 24) (.str "trellisway.costs" 468) 243),
 (248,⟨.type "code",none,.fields #[.str "signs_cost" 480,.str "signs_cost" 481,.str "/claim/cut.py" 482,.int 89 0,.int 2 0,.int 0 0,.int 0 0,.int 3 0,.ref 245,.bool true,.int 181 0,.ref 246,.none,.none,.none,.ref 247,.int 483 0,.int 89 0,.str "/claim/cut.py" 484],#[]⟩),
 (249,fO "signs_cost" (tp 25) (.str "trellisway.costs" 468) 248),
 (253,⟨.type "code",none,.fields #[.str "signs_by_step" 486,.str "signs_by_step" 487,.str "/claim/cut.py" 488,.int 91 0,.int 3 0,.int 0 0,.int 0 0,.int 3 0,.ref 250,.bool true,.int 181 0,.ref 251,.none,.none,.none,.ref 252,.int 489 0,.int 91 0,.str "/claim/cut.py" 490],#[]⟩),
 (254,fO "signs_by_step" (tp 26) (.str "trellisway.costs" 468) 253),
 (260,cO "move" 492 "move" 493 494 96 5 3 255 181 256 257 258 259 501 96 502),
 (261,fO "move" (tp 27) (.str "trellisway.costs" 468) 260),
 (265,⟨.type "code",none,.fields #[.str "moves_from" 504,.str "moves_from" 505,.str "/claim/cut.py" 506,.int 99 0,.int 5 0,.int 0 0,.int 0 0,.int 3 0,.ref 262,.bool true,.int 181 0,.ref 263,.none,.none,.none,.ref 264,.int 507 0,.int 99 0,.str "/claim/cut.py" 508],#[]⟩),
 (266,fO "moves_from" (tp 28) (.str "trellisway.costs" 468) 265),
 (270,⟨.type "code",none,.fields #[.str "moves" 510,.str "moves" 511,.str "/claim/cut.py" 512,.int 101 0,.int 3 0,.int 0 0,.int 0 0,.int 3 0,.ref 267,.bool true,.int 181 0,.ref 268,.none,.none,.none,.ref 269,.int 513 0,.int 101 0,.str "/claim/cut.py" 514],#[]⟩),
 (271,fO "moves" (tp 29) (.str "trellisway.costs" 468) 270),
 (275,⟨.type "code",none,.fields #[.str "end_costs" 516,.str "end_costs" 517,.str "/claim/cut.py" 518,.int 108 0,.int 2 0,.int 0 0,.int 0 0,.int 3 0,.ref 272,.bool true,.int 181 0,.ref 273,.none,.none,.none,.ref 274,.int 519 0,.int 108 0,.str "/claim/cut.py" 520],#[]⟩),
 (276,fO "end_costs" (tp 30) (.str "trellisway.costs" 468) 275),
 (282,cO "cost_by" 522 "cost_by" 523 524 113 2 3 277 181 278 279 280 281 528 113 529),
 (283,fO "cost_by" (tp 31) (.str "trellisway.costs" 468) 282),
 (287,⟨.type "code",none,.fields #[.str "least_by" 531,.str "least_by" 532,.str "/claim/cut.py" 533,.int 116 0,.int 2 0,.int 0 0,.int 0 0,.int 3 0,.ref 284,.bool true,.int 181 0,.ref 285,.none,.none,.none,.ref 286,.int 534 0,.int 116 0,.str "/claim/cut.py" 535],#[]⟩),
 (288,fO "least_by" (tp 32) (.str "trellisway.costs" 468) 287),
 (292,⟨.type "code",none,.fields #[.str "ahead_by" 537,.str "ahead_by" 538,.str "/claim/cut.py" 539,.int 119 0,.int 2 0,.int 0 0,.int 0 0,.int 3 0,.ref 289,.bool true,.int 181 0,.ref 290,.none,.none,.none,.ref 291,.int 540 0,.int 119 0,.str "/claim/cut.py" 541],#[]⟩),
 (293,fO "ahead_by" (tp 33) (.str "trellisway.costs" 468) 292),
 (299,cO "ahead_by_start" 543 "ahead_by_start" 544 545 125 2 3 294 181 295 296 297 298 550 125 551),
 (300,fO "ahead_by_start" (tp 34) (.str "trellisway.costs" 468) 299),
 (306,cO "opened" 555 "opened" 556 557 131 1 3 301 181 302 303 304 305 559 131 560),
 (307,fO "opened" (tp 36) (.str "trellisway.pieces" 553) 306),
 (311,⟨.type "code",none,.fields #[.str "kept_at_first" 562,.str "kept_at_first" 563,.str "/claim/cut.py" 564,.int 133 0,.int 1 0,.int 0 0,.int 0 0,.int 3 0,.ref 308,.bool true,.int 181 0,.ref 309,.none,.none,.none,.ref 310,.int 565 0,.int 133 0,.str "/claim/cut.py" 566],#[]⟩),
 (312,fO "kept_at_first" (tp 37) (.str "trellisway.pieces" 553) 311),
 (318,cO "better" 568 "better" 569 570 135 2 3 313 181 314 315 316 317 573 135 574),
 (319,fO "better" (tp 38) (.str "trellisway.pieces" 553) 318),
 (325,cO "kept_on" 576 "kept_on" 577 578 137 2 3 320 181 321 322 323 324 587 137 588),
 (326,fO "kept_on" (tp 39) (.str "trellisway.pieces" 553) 325),
 (332,cO "kept" 590 "kept" 591 592 145 3 3 327 181 328 329 330 331 598 145 599),
 (333,fO "kept" (tp 40) (.str "trellisway.pieces" 553) 332),
 (339,cO "begun_alike" 601 "begun_alike" 602 603 150 2 3 334 181 335 336 337 338 609 150 610),
 (340,fO "begun_alike" (tp 41) (.str "trellisway.pieces" 553) 339),
 (344,⟨.type "code",none,.fields #[.str "settled" 612,.str "settled" 613,.str "/claim/cut.py" 614,.int 157 0,.int 3 0,.int 0 0,.int 0 0,.int 3 0,.ref 341,.bool true,.int 181 0,.ref 342,.none,.none,.none,.ref 343,.int 615 0,.int 157 0,.str "/claim/cut.py" 616],#[]⟩),
 (345,fO "settled" (tp 42) (.str "trellisway.pieces" 553) 344),
 (351,cO "nearest_from" 620 "nearest_from" 621 622 164 4 3 346 181 347 348 349 350 632 164 633),
 (352,fO "nearest_from" (tp 44) (.str "trellisway.nearest" 618) 351),
 (356,⟨.type "code",none,.fields #[.str "nearest" 635,.str "nearest" 636,.str "/claim/cut.py" 637,.int 173 0,.int 3 0,.int 0 0,.int 0 0,.int 3 0,.ref 353,.bool true,.int 181 0,.ref 354,.none,.none,.none,.ref 355,.int 638 0,.int 173 0,.str "/claim/cut.py" 639],#[]⟩),
 (357,fO "nearest" (tp 45) (.str "trellisway.nearest" 618) 356),
 (363,cO "_law_cell_at" 643 "_law_cell_at" 644 645 178 2 3 358 181 359 360 361 362 648 178 649),
 (364,fO "_law_cell_at" (tp 47) (.str zlw 641) 363),
 (370,cO "_law_state" 651 "_law_state" 652 653 182 2 3 365 181 366 367 368 369 656 182 657),
 (371,fO "_law_state" (tp 48) (.str zlw 641) 370),
 (377,cO "_law_next" 659 "_law_next" 660 661 184 2 3 372 181 373 374 375 376 664 184 665),
 (378,fO "_law_next" (tp 49) (.str zlw 641) 377),
 (382,⟨.type "code",none,.fields #[.str "_law_scheme" 667,.str "_law_scheme" 668,.str "/claim/cut.py" 669,.int 187 0,.int 3 0,.int 0 0,.int 0 0,.int 3 0,.ref 379,.bool true,.int 181 0,.ref 380,.none,.none,.none,.ref 381,.int 670 0,.int 187 0,.str "/claim/cut.py" 671],#[]⟩),
 (383,fO "_law_scheme" (tp 50) (.str zlw 641) 382),
 (389,cO "_law_odd" 673 "_law_odd" 674 675 194 1 3 384 181 385 386 387 388 678 194 679),
 (390,fO "_law_odd" (tp 51) (.str zlw 641) 389),
 (394,⟨.type "code",none,.fields #[.str "_law_step" 681,.str "_law_step" 682,.str "/claim/cut.py" 683,.int 200 0,.int 4 0,.int 0 0,.int 0 0,.int 3 0,.ref 391,.bool true,.int 181 0,.ref 392,.none,.none,.none,.ref 393,.int 684 0,.int 200 0,.str "/claim/cut.py" 685],#[]⟩),
 (395,fO "_law_step" (tp 52) (.str zlw 641) 394),
 (401,cO "_law_start" 687 "_law_start" 688 689 205 2 3 396 181 397 398 399 400 694 205 695),
 (402,fO "_law_start" (tp 53) (.str zlw 641) 401),
 (408,cO "_law_sent" 697 "_law_sent" 698 699 211 2 3 403 181 404 405 406 407 707 211 708),
 (409,fO "_law_sent" (tp 54) (.str zlw 641) 408),
 (415,cO "_law_sign" 710 "_law_sign" 711 712 221 3 3 410 181 411 412 413 414 718 221 719),
 (416,fO "_law_sign" (tp 55) (.str zlw 641) 415),
 (422,cO "_law_heard" 721 "_law_heard" 722 723 233 3 3 417 181 418 419 420 421 730 233 731),
 (423,fO "_law_heard" (tp 56) (.str zlw 641) 422),
 (429,cO "_law_whole" 733 "_law_whole" 734 735 238 1 3 424 181 425 426 427 428 737 238 738),
 (430,fO "_law_whole" (tp 57) (.str zlw 641) 429),
 (434,⟨.type "code",none,.fields #[.str "_law_is_word" 740,.str "_law_is_word" 741,.str "/claim/cut.py" 742,.int 240 0,.int 2 0,.int 0 0,.int 0 0,.int 3 0,.ref 431,.bool true,.int 181 0,.ref 432,.none,.none,.none,.ref 433,.int 743 0,.int 240 0,.str "/claim/cut.py" 744],#[]⟩),
 (435,fO "_law_is_word" (tp 58) (.str zlw 641) 434),
 (439,⟨.type "code",none,.fields #[.str "_law_many" 746,.str "_law_many" 747,.str "/claim/cut.py" 748,.int 244 0,.int 2 0,.int 0 0,.int 0 0,.int 3 0,.ref 436,.bool true,.int 181 0,.ref 437,.none,.none,.none,.ref 438,.int 749 0,.int 244 0,.str "/claim/cut.py" 750],#[]⟩),
 (440,fO "_law_many" (tp 59) (.str zlw 641) 439),
 (444,⟨.type "code",none,.fields #[.str "law" 752,.str "law" 753,.str "/claim/cut.py" 754,.int 246 0,.int 1 0,.int 0 0,.int 0 0,.int 3 0,.ref 441,.bool true,.int 181 0,.ref 442,.none,.none,.none,.ref 443,.int 755 0,.int 246 0,.str "/claim/cut.py" 756],#[]⟩),
 (445,fO "law" (tp 60) (.str zlw 641) 444)]
def KA:List Addr:=[3,23,24,36,37,48,49,57,58,64,65,71,72,76,77,81,82,88,89,95,96,102,103,109,110,116,117,123,124,133,134,151,152,158,159,165,166,168,169,184,185,191,192,194,195,210,211,217,218,224,225,227,228,236,237,243,244,248,249,253,254,260,261,265,266,270,271,275,276,282,283,287,288,292,293,299,300,306,307,311,312,318,319,325,326,332,333,339,340,344,345,351,352,356,357,363,364,370,371,377,378,382,383,389,390,394,395,401,402,408,409,415,416,422,423,429,430,434,435,439,440,444,445]
theorem ka_eq:∀P,KA=(KH P).map (·.1):=λ_=>rfl
theorem run(w:World)(os:OsState):(q6y treeTable PySem.Challenge.pw_trellisway_k25_whole_settled_stays w 11 (some (.ref 6)) 6360 (qoj w.params os) (topStub PySem.Challenge.pw_trellisway_k25_whole_settled_stays)).map (λs=>(staticsOk (importedModules PySem.Challenge.pw_trellisway_k25_whole_settled_stays.main.body) (boot_heap w.params) s.abs.heap&&namesBound PySem.Challenge.pw_trellisway_k25_whole_settled_stays s.abs.heap&&gensDone s.abs&&laidKept (boot_heap w.params) s.abs.heap,
 openSeen V [] (importedModules PySem.Challenge.pw_trellisway_k25_whole_settled_stays.main.body) (λs=>xlAt V [] s&&recOk (RowW.records (OpenRow.toRowW PySem.Challenge.rw_trellisway_k25_whole_settled_stays.row)) s) true s.abs,Hook.obs (kHook KH KA ka_eq) s.abs))=some (true,openGood V [],Hook.val (kHook KH KA ka_eq) w):=by kernel_rfl
theorem left:LeftO PySem.Challenge.pw_trellisway_k25_whole_settled_stays V [] (λs=>xlAt V [] s&&recOk (RowW.records (OpenRow.toRowW PySem.Challenge.rw_trellisway_k25_whole_settled_stays.row)) s) (Hook.obs (kHook KH KA ka_eq)) (Hook.val (kHook KH KA ka_eq)) 6360:=qh4 (by kernel_rfl) (by kernel_rfl) (λs=>by kernel_rfl) (λP=>by kernel_rfl) run
theorem qmi:(OpenRow.toRowW PySem.Challenge.rw_trellisway_k25_whole_settled_stays.row).prog=PySem.Challenge.pw_trellisway_k25_whole_settled_stays:=by kernel_rfl
theorem leftR:LeftO (OpenRow.toRowW PySem.Challenge.rw_trellisway_k25_whole_settled_stays.row).prog V [] (λs=>xlAt V [] s&&recOk (RowW.records (OpenRow.toRowW PySem.Challenge.rw_trellisway_k25_whole_settled_stays.row)) s) (Hook.obs (kHook KH KA ka_eq)) (Hook.val (kHook KH KA ka_eq)) 6360:=by rw[qmi];exact left
end H25
abbrev j3:=@PySem.wpAny_bind
abbrev j4:=@List.length_map
abbrev j5:=@PySem.wpAny_pure
abbrev j6:=@PySem.Heap.lt_size
abbrev j7:=@PySem.Heap.get?_push_of_some
abbrev j8:=@Nat.le_refl
abbrev j9:=@List.getElem?_map
abbrev ja:=@Option.some.inj
abbrev jb:=@List.getElem?_eq_getElem
abbrev jc:=@List.getElem?_set_ne
abbrev jd:=@Nat.ne_of_lt
abbrev je:=@List.length_append
abbrev jf:=@PySem.Heap.get?_push_size
abbrev jg:=@List.mem_cons_self
abbrev jh:=@List.mem_cons_of_mem
abbrev ji:=@List.length_cons
abbrev jj:=@List.length_replicate
abbrev jk:=@List.getD_eq_getElem?_getD
abbrev jl:=@List.map_map
abbrev jm:=@Int.toNat_natCast
abbrev jn:=@Nat.lt_of_lt_of_le
abbrev jo:=@Nat.zero_add
abbrev jq:=@List.size_toArray
abbrev jr:=@List.map_cons
abbrev jt:=@List.map_append
abbrev ju:=@Nat.le_trans
abbrev jv:=@PySem.PassesOwn.never
abbrev jw:=@List.getElem?_set_self
abbrev jx:=@List.length_set
abbrev jy:=@PySem.Heap.size_push
abbrev jz:=@Nat.lt_irrefl
abbrev x5:=@List.mem_append_right
abbrev x6:=@List.length_take
abbrev x8:=@PySem.wpAny_seqItems
abbrev x9:=@PySem.wpAny_mono
abbrev xc:=@PySem.wpAny_field
abbrev xf:=@List.length_drop
abbrev xg:=@List.getElem?_eq_none
abbrev xh:=@PySem.F.plain_min_loop
abbrev xi:=@PySem.wpAny_holding
abbrev xj:=@PySem.wpAny_Call_Name_kw
abbrev xk:=@List.mem_of_getElem?
abbrev xl:=@PySem.wpAny_newObj_type
abbrev xm:=@PySem.Heap.get?_update_other
abbrev xn:=@List.getElem?_range
abbrev xo:=@List.getElem_mem
abbrev xp:=@PySem.wpAny_letGo
abbrev xq:=@List.getElem?_append_right
abbrev xr:=@List.drop_eq_getElem_cons
abbrev xu:=@PySem.plainId_quiet
abbrev xv:=@PySem.wpAny_call_entry
abbrev xw:=@PySem.Heap.get?_update_self
abbrev xx:=@PySem.wpAny_truthy_bool
abbrev xy:=@List.getElem?_replicate
abbrev k6:=@PySem.wpAny_callSpecial?_slot
abbrev k7:=@PySem.codeAny_builtin
abbrev k8:=@PySem.Around.under_plainId
abbrev k9:=@PySem.wpAny_tryCatch
abbrev ka:=@PySem.wpAny_passesOwn
abbrev kb:=@PySem.wpAny_updateSeq
abbrev kc:=@List.length_zip
abbrev ke:=@Nat.min_le_left
abbrev kf:=@List.getElem?_append_left
abbrev kg:=@PySem.wpAny_setField_rec
abbrev kh:=@PySem.wpAny_loadPart'
abbrev ki:=@PySem.F.entry_min_loop
abbrev kj:=@PySem.Heap.SameBut.update
abbrev kl:=@PySem.F.slot_tuple_iterator_next
abbrev km:=@PySem.F.slot_dict_keyiterator_next
abbrev kn:=@PySem.wpAny_typeNameOfWhole_keyiter
namespace L2
open PySem PySem.Spec PyProof.Rows
abbrev Key:=Sum Int Str
def qjl:Key->Value->Bool
 |.inl k,v=>Value.isInt k v
 |.inr x,v=>Value.isStrOf x v
def keyH(w:World):Key->Int
 |.inl k=>hashInt k
 |.inr x=>hashStr w x
theorem q24:∀{k:Key} {v:Value},qjl k v=true->(∃i t,k=Sum.inl i/\v=Value.int i t)∨(∃x t,k=Sum.inr x/\v=Value.str x t)
 | .inl i,v,h=>by obtain⟨t,e⟩:=Value.isInt_shape (k:=i) (v:=v) h;exact .inl ⟨i,t,rfl,e⟩
 | .inr x,v,h=>by obtain⟨t,e⟩:=Value.isStrOf_shape (x:=x) (v:=v) h;exact .inr ⟨x,t,rfl,e⟩
theorem qh5(i:Int)(t:Tok):qjl (.inl i) (.int i t)=true:=by simp[qjl,Value.isInt]
theorem qt1(a b:Int):decide ((Sum.inl a:Key)=Sum.inl b)=(a==b):=by
 by_cases e:a=b
 ·subst e;simp
 ·have h:¬(Sum.inl a:Key)=Sum.inl b:=λq=>e (Sum.inl.inj q);rw[decide_eq_false h];exact(beq_eq_false_iff_ne.mpr e).symm
theorem qsy(a b:Str):decide ((Sum.inr a:Key)=Sum.inr b)=decide (a=b):=by
 by_cases e:a=b
 ·subst e;simp
 ·have h:¬(Sum.inr a:Key)=Sum.inr b:=λq=>e (Sum.inr.inj q);rw[decide_eq_false h,decide_eq_false e]
theorem qt0(a:Int)(b:Str):decide ((Sum.inl a:Key)=Sum.inr b)=false:=decide_eq_false (λq=>nomatch q)
theorem qsz(a:Str)(b:Int):decide ((Sum.inr a:Key)=Sum.inl b)=false:=decide_eq_false (λq=>nomatch q)
def q79(prog:Program)(w:World):PySem.KeyKind prog w Key where
 is:=qjl
 hash:=keyH w
 inj:=λv a b ha hb=>by
  rcases q24 ha with⟨i,t,rfl,rfl⟩|⟨x,t,rfl,rfl⟩
  ·rcases q24 hb with⟨j,u,rfl,e⟩|⟨y,u,rfl,e⟩
   ·injection e with e1 _;rw[e1]
   ·exact nomatch e
  ·rcases q24 hb with⟨j,u,rfl,e⟩|⟨y,u,rfl,e⟩
   ·exact nomatch e
   ·injection e with e1 _;rw[e1]
 byValue:=λk v h=>by rcases q24 h with⟨i,t,rfl,rfl⟩|⟨x,t,rfl,rfl⟩<;>rfl
 pyHash:=λhv h=>by
  rcases q24 hv with⟨i,t,rfl,rfl⟩|⟨x,t,rfl,rfl⟩
  ·exact wpAny_pyHash_int h
  ·exact wpAny_pyHash_str h
 eqBool:=λhu hv h=>by
  rcases q24 hu with⟨i,t,rfl,rfl⟩|⟨x,t,rfl,rfl⟩
  ·rcases q24 hv with⟨j,u,rfl,rfl⟩|⟨y,u,rfl,rfl⟩
   ·rw[qt1]at h;exact wpAny_eqBool_int h
   ·rw[qt0]at h;exact SeqAt.EqAt.int_str i t y u _ _ _ _ h
  ·rcases q24 hv with⟨j,u,rfl,rfl⟩|⟨y,u,rfl,rfl⟩
   ·rw[qsz]at h;exact SeqAt.EqAt.str_int x t j u _ _ _ _ h
   ·rw[qsy]at h;exact wpAny_eqBool_str h
 «strs»:=λk x t v h=>by
  rcases q24 h with⟨i,u,rfl,e⟩|⟨y,u,rfl,e⟩
  ·exact nomatch e
  ·injection e with e1 _;subst e1;cases v<;>rfl
theorem q78(prog:Program)(w:World)(i:Int)(t:Tok):(q79 prog w).is (.inl i) (.int i t)=true:=qh5 i t
inductive V where
 |non|bl (b:Bool)|int (i:Int)|str (x:Str)|byt (b:Array UInt8)|flt (b:UInt64)|ref (a:Addr)|ty (n:String)
 deriving DecidableEq
def RelV:V->Value->Prop
 |.non,u=>u=Value.none
 |.bl b,u=>u=Value.bool b
 |.int i,u=>∃t,u=Value.int i t
 |.str x,u=>∃t,u=Value.str x t
 |.byt b,u=>∃t,u=Value.bytes b t
 |.flt b,u=>∃t,u=Value.float b t
 |.ref a,u=>u=Value.ref a
 |.ty n,u=>u=Value.type n
abbrev Vals:List V->List Value->Prop:=Paired RelV
theorem Vals.length{xs:List V}{us:List Value}(r:Vals xs us):xs.length=us.length:=Paired.length r
theorem Vals.get:∀{xs:List V} {us:List Value} {i:Nat} {x:V},Vals xs us->xs[i]? =some x->∃u,us[i]? =some u/\RelV x u
 |_,_,_,_,.nil,e=>by simp at e
 |_,_,0,_,.cons r _,e=>by simp at e;subst e;exact⟨_,rfl,r⟩
 | _,_,i+1,x,.cons _ t,e=>by obtain⟨u,h1,h2⟩:=Vals.get (i:=i) (x:=x) t (by simpa using e);exact⟨u,by simpa using h1,h2⟩
theorem Vals.set{x:V}{u:Value}(r:RelV x u):∀{xs:List V} {us:List Value} (i:Nat),Vals xs us->Vals (xs.set i x) (us.set i u)
 |_,_,_,.nil=>.nil
 |_,_,0,.cons _ t=>.cons r t
 |_,_,i+1,.cons q t=>.cons q (Vals.set r i t)
theorem Vals.append:∀{xs ys:List V} {us ws:List Value},Vals xs us->Vals ys ws->Vals (xs++ys) (us++ws)
 |_,_,_,_,.nil,s=>s
 |_,_,_,_,.cons r t,s=>.cons r (Vals.append t s)
theorem Vals.take:∀{xs:List V} {us:List Value} (n:Nat),Vals xs us->Vals (xs.take n) (us.take n)
 |_,_,0,_=>.nil
 |_,_,_+1,.nil=>.nil
 |_,_,n+1,.cons r t=>.cons r (Vals.take n t)
theorem Vals.drop:∀{xs:List V} {us:List Value} (n:Nat),Vals xs us->Vals (xs.drop n) (us.drop n)
 |_,_,0,r=>r
 |_,_,_+1,.nil=>.nil
 |_,_,n+1,.cons _ t=>Vals.drop n t
def RelO:Option V->Option Value->Prop
 |some v,some u=>RelV v u
 |none,none=>True
 |_,_=>False
def KV{κ:Type}:List (κ×V)->List (κ×Value)->Prop:=Paired λ(p:κ×V) (q:κ×Value)=>p.1=q.1/\RelV p.2 q.2
def kV:Key->V
 |.inl i=>.int i
 |.inr x=>.str x
inductive HO where
 |lst (xs:List V)
 |tup (xs:List V)
 |dK (kvs:List (Key×V))|dT (kvs:List (List Key×V))
 |set (S:Int->Bool) (n:Nat)
 |ins (C dx:Addr) (fs:List (Str×V))
 |own (x:Addr)
 |xd (fs:List (Str×V))
 |met (f x:Addr)
 |rng (lo hi:Int)
 |frz (o:Obj) (u:HO)
 |tbl (ps:Array Value)
 |ext (φ:Heap->Prop)
abbrev Hp:=Addr->Option HO
def upd(H:Hp)(a:Addr)(o:HO):Hp:=λb=>if b=a then some o else H b
theorem q0u{H:Hp}{a:Addr}{o:HO}:upd H a o a=some o:=by unfold upd;rw[if_pos rfl]
theorem q0r{H:Hp}{a b:Addr}{o:HO}(h:b≠a):upd H a o b=H b:=by unfold upd;rw[if_neg h]
theorem qez{H:Hp}{a:Addr}{o u:HO}:upd (upd H a o) a u=upd H a u:=by funext b;unfold upd;split<;>rfl
theorem q1i{H:Hp}{a b:Addr}{o:HO}(h:H a=some o)(h':H b=none):a≠b:=by intro e;subst e;rw[h]at h';cases h'
def TupN(h:Heap)(a:Addr)(items:Array Value):Prop:=∃o,h.get? a=some o/\(o.cls=.type "tuple"/\∃n,o.data=.seq items n)/\o.dict=none
theorem TupN.tup{h:Heap}{a:Addr}{items:Array Value}(x:TupN h a items):IsTup h a items:=let ⟨o,e,c,_⟩:=x;⟨o,e,c⟩
theorem TupN.lt{h:Heap}{a:Addr}{items:Array Value}(x:TupN h a items):a<h.objs.size:=let ⟨_,e,_⟩:=x;j6 e
theorem TupN.new(h:Heap)(items:Array Value):TupN (h.push {cls:=.type "tuple",data:=.seq items}) h.objs.size items:=⟨_,jf _ rfl,⟨rfl,_,rfl⟩,rfl⟩
def DictN{P:Program}{w:World}{κ:Type}[DecidableEq κ](knd:KeyKind P w κ)(h:Heap)(a:Addr)(kvs:List (κ×Value))(n:Nat):Prop:=∃o es,h.get? a=some o/\o.ExactDict/\o.data=.dict es n/\KeysOf knd es/\Pairs knd es.toList kvs/\(kvs.map (·.1)).Nodup
theorem DictN.of{P:Program}{w:World}{κ:Type}[DecidableEq κ]{knd:KeyKind P w κ}{h:Heap}{a:Addr}{kvs:List (κ×Value)}{n:Nat}(x:DictN knd h a kvs n):h.DictOf knd a kvs:=let ⟨o,es,r⟩:=x;⟨o,es,n,r⟩
section
variable(P:Program)(w:World)
def ObjOk(H:Hp)(h:Heap)(a:Addr):HO->Prop
 |.lst xs=>xs.length<=sizeLine/\∃(its:List Value) (n:Nat),Vals xs its/\h.get? a=some {cls:=.type "list",data:=.seq its.toArray n}
 |.tup xs=>xs.length<=sizeLine/\∃its:List Value,Vals xs its/\TupN h a its.toArray
 |.dK kvs=>kvs.length<=sizeLine/\(a==sysModules)=false/\∃vs,KV kvs vs/\DictN (q79 P w) h a vs kvs.length
 |.dT kvs=>kvs.length<=sizeLine/\(a==sysModules)=false/\∃xs:List (List Key×Addr×Value),
  Paired (λ(p:List Key×V) (q:List Key×Addr×Value)=>p.1=q.1/\H q.2.1=some (.tup (p.1.map kV))/\RelV p.2 q.2.2) kvs xs/\
  ∃o es ep,h.get? a=some o/\o.ExactDict/\o.data=.dict es ep/\es.toList=xs.map (entryOfKey (tupleKind (q79 P w)))/\(xs.map (·.1)).Nodup/\ep=kvs.length
 |.set S n=>h.SetOf (intKind P w) a S n
 |.ins C dx fs=>H dx=some (.own a)/\fs.length<=1000/\dx≠a/\h.get? a=some (PySem.W.instObj C dx)/\
  ∃mA,h.Ns1 dx mA/\(∀f,RelO (fs.lookup f) (mA f))/\PySem.Within mA (fs.map (·.1))
 |.own _=>∃o,h.get? a=some o
 |.xd fs=>∃mA,h.Ns1 a mA/\∀f,RelO (fs.lookup f) (mA f)
 |.rng lo hi=>∃t u v,h.get? a=some {cls:=.type "range",data:=.fields #[.int lo t,.int hi u,.int 1 v]}
 |.frz o u=>h.get? a=some o/\ObjOk H h a u
 |.tbl ps=>h.get? a=some {cls:=.none,data:=.fields ps}
 |.met f x=>h.get? a=some (PySem.W.methodObj (.ref f) (.ref x))
 |.ext φ=>φ h/\(∃o,h.get? a=some o)/\∀h1 h2:Heap,φ h1->(∀o,h1.get? a=some o->h2.get? a=some o)->φ h2
def HOk(H:Hp)(h:Heap):Prop:=∀a o,H a=some o->ObjOk P w H h a o
end
section
variable{P:Program}{w:World}{H H':Hp}{h h':Heap}{a:Addr}{o:HO}
theorem ObjOk.lt(x:ObjOk P w H h a o):a<h.objs.size:=by
 cases o with
 |lst xs=>obtain⟨_,_,_,_,e⟩:=x;exact j6 e
 |tup xs=>obtain⟨_,_,_,p⟩:=x;exact p.lt
 |dK kvs=>obtain⟨_,_,_,_,o,_,e,_⟩:=x;exact j6 e
 |dT kvs=>obtain⟨_,_,_,_,o,_,_,e,_⟩:=x;exact j6 e
 |set S n=>obtain⟨o,_,_,_,e,_⟩:=x;exact j6 e
 |ins C dx fs=>obtain⟨_,_,_,e,_⟩:=x;exact j6 e
 |own y=>obtain⟨_,e⟩:=x;exact j6 e
 |xd fs=>obtain⟨_,⟨_,_,_,e,_⟩,_⟩:=x;exact j6 e
 |rng lo hi=>obtain⟨_,_,_,e⟩:=x;exact j6 e
 |frz ob u=>obtain⟨e,_⟩:=x;exact j6 e
 |tbl ps=>exact j6 (show h.get? a=some _ from x)
 |met f y=>exact j6 (show h.get? a=some _ from x)
 |ext φ=>obtain⟨_,⟨_,e⟩,_⟩:=x;exact j6 e
theorem Paired.mapP{α β:Type}{F G:α->β->Prop}:∀{l₁:List α} {l₂:List β},Paired F l₁ l₂->(∀a b,F a b->G a b)->Paired G l₁ l₂
 |_,_,.nil,_=>.nil
 |_,_,.cons r t,f=>.cons (f _ _ r) (Paired.mapP t f)
theorem ObjOk.stay(x:ObjOk P w H h a o)(k:∀b u,(b=a∨H b=some (.own a))->h.get? b=some u->h'.get? b=some u)
 (ho:∀b,H b=some (.own a)->H' b=some (.own a)) (ht:∀b xs,H b=some (.tup xs)->H' b=some (.tup xs)):ObjOk P w H' h' a o:=by
 induction o with
 |lst xs=>obtain⟨z,its,n,r,e⟩:=x;exact⟨z,its,n,r,k _ _ (.inl rfl) e⟩
 |tup xs=>obtain⟨z,its,r,ob,e,c⟩:=x;exact⟨z,its,r,ob,k _ _ (.inl rfl) e,c⟩
 |dK kvs=>obtain⟨z,y,vs,r,ob,es,e,c⟩:=x;exact⟨z,y,vs,r,ob,es,k _ _ (.inl rfl) e,c⟩
 | dT kvs=>
  obtain⟨z,y,xs,r,ob,es,ep,e,c⟩:=x;exact⟨z,y,xs,Paired.mapP r λp q z=>⟨z.1,ht _ _ z.2.1,z.2.2⟩,ob,es,ep,k _ _ (.inl rfl) e,c⟩
 |set S n=>obtain⟨ob,es,ep,t,e,c⟩:=x;exact⟨ob,es,ep,t,k _ _ (.inl rfl) e,c⟩
 | ins C dx fs=>
  obtain⟨d,z,ne,e,mA,⟨od,es,ep,e2,c⟩,r⟩:=x;exact⟨ho _ d,z,ne,k _ _ (.inl rfl) e,mA,⟨od,es,ep,k _ _ (.inr d) e2,c⟩,r⟩
 |own y=>obtain⟨ob,e⟩:=x;exact⟨ob,k _ _ (.inl rfl) e⟩
 |xd fs=>obtain⟨mA,⟨od,es,ep,e,c⟩,r⟩:=x;exact⟨mA,⟨od,es,ep,k _ _ (.inl rfl) e,c⟩,r⟩
 |rng lo hi=>obtain⟨t,u,v,e⟩:=x;exact⟨t,u,v,k _ _ (.inl rfl) e⟩
 |frz ob u ih=>obtain⟨e,q⟩:=x;exact⟨k _ _ (.inl rfl) e,ih q⟩
 | tbl ps=>
  have e:h.get? a=some {cls:=.none,data:=.fields ps}:=x;show h'.get? a=some {cls:=.none,data:=.fields ps};exact k a _ (.inl rfl) e
 | met f y=>
  have e:h.get? a=some (PySem.W.methodObj (.ref f) (.ref y)):=x;show h'.get? a=some (PySem.W.methodObj (.ref f) (.ref y));exact k a _ (.inl rfl) e
 |ext φ=>obtain⟨p,⟨o,e⟩,st⟩:=x;exact⟨st _ _ p λo q=>k _ _ (.inl rfl) q,⟨o,k _ _ (.inl rfl) e⟩,st⟩
theorem HOk.lt(x:HOk P w H h)(e:H a=some o):a<h.objs.size:=(x a o e).lt
theorem HOk.fresh(x:HOk P w H h)(e:h.objs.size<=a):H a=none:=by
 cases q:H a with
 |none=>rfl
 |some u=>exact absurd (jn (x.lt q) e) (jz _)
theorem HOk.kept(x:HOk P w H h)(k:∀b u,h.get? b=some u->h'.get? b=some u):HOk P w H h':=λa o e=>
 (x a o e).stay (λb u _ q=>k b u q) (λ_ q=>q) λ_ _ q=>q
theorem HOk.laid(x:HOk P w H h)(k:∀b u,h.get? b=some u->h'.get? b=some u)(hp:h.objs.size<=a)(new:ObjOk P w (upd H a o) h' a o):HOk P w (upd H a o) h':=λb u e=>by
 have hn:=x.fresh hp;by_cases hb:b=a
 ·subst hb;rw[q0u]at e;cases e;exact new
 ·rw[q0r hb]at e;exact(x b u e).stay (λc v _ q=>k c v q) (λc q=>by rw[q0r (q1i q hn)];exact q) λc xs q=>by rw[q0r (q1i q hn)];exact q
end
def Rd(H:Hp)(a:Addr)(u:HO):Prop:=H a=some u∨∃o,H a=some (.frz o u)
theorem Rd.ok{P:Program}{w:World}{H:Hp}{h:Heap}{a:Addr}{u:HO}(r:Rd H a u)(x:HOk P w H h):ObjOk P w H h a u:=by
 rcases r with r|⟨o,r⟩
 ·exact x a u r
 ·obtain⟨_,q⟩:=x a _ r;exact q
def Mut:Option HO->Prop
 |some (.lst _)=>True
 |some (.dK _)=>True
 |some (.dT _)=>True
 |some (.set _ _)=>True
 |some (.ins _ _ _)=>True
 |some (.ext _)=>True
 |_=>False
section
variable{P:Program}{w:World}{H:Hp}{h h':Heap}{x e:Addr}{o':HO}
theorem HOk.write(ok:HOk P w H h)(mu:Mut (H x))(he:e=x∨H e=some (.own x))(k:∀b u,b≠e->h.get? b=some u->h'.get? b=some u)(heo:∃u,h'.get? e=some u)
 (new:ObjOk P w (upd H x o') h' x o'):HOk P w (upd H x o') h':=λb u q=>by
 have nown:∀c y,H c=some (.own y)->c≠x:=λc y r z=>by subst z;rw[r]at mu;exact mu
 have ntup:∀c xs,H c=some (.tup xs)->c≠x:=λc xs r z=>by subst z;rw[r]at mu;exact mu
 by_cases hb:b=x
 ·subst hb;rw[q0u]at q;cases q;exact new
 ·rw[q0r hb]at q;by_cases hbe:b=e
  ·have q':H b=some (.own x):=by
    rcases he with z|z
    ·exact absurd (hbe.trans z) hb
    ·rw[hbe];exact z
   rw[q]at q';cases q';obtain⟨v,hv⟩:=heo;exact⟨v,by rw[hbe];exact hv⟩
  ·refine(ok b u q).stay (λc v hc r=>k c v ?_ r) (λc r=>by rw[q0r (nown c b r)];exact r) λc xs r=>by rw[q0r (ntup c xs r)];exact r
   rcases hc with rfl|hc
   ·exact hbe
   ·rintro rfl;rcases he with z|z
    ·exact nown c b hc z
    ·rw[hc]at z;cases z;exact hb rfl
end
structure Un(fs ex:List Addr)(H H':Hp)(h h':Heap):Prop where
 keep:∀b o,h.get? b=some o->H b=none->b∉fs->b∉ex->h'.get? b=some o
 slot:∀b o,h.get? b=some o->H b=none->b∈fs->b∉ex->∃sl,h'.get? b=some {o with slots:=sl}
 free:∀b o,h.get? b=some o->H b=none->b∉ex->H' b=none
 there:∀b o,h.get? b=some o->b∉ex->∃o',h'.get? b=some o'
 tups:∀b xs,H b=some (.tup xs)->H' b=some (.tup xs)
 frzs:∀b o u,H b=some (.frz o u)->H' b=some (.frz o u)
 tbls:∀b ps,H b=some (.tbl ps)->∃more,H' b=some (.tbl (ps++more))
section
variable{fs fs' ex ex':List Addr}{H H1 H2:Hp}{h h1 h2 h':Heap}{a x e:Addr}{o:HO}
theorem Un.any(u:Un fs ex H H1 h h1){b:Addr}{ob:Obj}(q:h.get? b=some ob)(n:H b=none)(hx:b∉ex):∃sl,h1.get? b=some {ob with slots:=sl}:=by
 by_cases hb:b∈fs
 ·exact u.slot b ob q n hb hx
 ·exact⟨ob.slots,u.keep b ob q n hb hx⟩
theorem Un.trans(a:Un fs ex H H1 h h1)(b:Un fs ex H1 H2 h1 h2):Un fs ex H H2 h h2 where
 keep:=λc ob q n hc hx=>b.keep c ob (a.keep c ob q n hc hx) (a.free c ob q n hx) hc hx
 slot:=λc ob q n hc hx=>by obtain⟨sl,e1⟩:=a.slot c ob q n hc hx;obtain⟨sl',e2⟩:=b.slot c _ e1 (a.free c ob q n hx) hc hx;exact⟨sl',e2⟩
 free:=λc ob q n hx=>by obtain⟨o',e1⟩:=a.there c ob q hx;exact b.free c o' e1 (a.free c ob q n hx) hx
 there:=λc ob q hx=>by obtain⟨o',e1⟩:=a.there c ob q hx;exact b.there c o' e1 hx
 tups:=λc xs q=>b.tups c xs (a.tups c xs q)
 frzs:=λc ob xs q=>b.frzs c ob xs (a.frzs c ob xs q)
 tbls:=λc ps q=>by obtain⟨m1,e1⟩:=a.tbls c ps q;obtain⟨m2,e2⟩:=b.tbls c _ e1;exact⟨m1++m2,by rw[e2,Array.append_assoc]⟩
theorem Un.kept(k:∀b u,h.get? b=some u->h'.get? b=some u):Un fs ex H H h h':=
 ⟨λb ob q _ _ _=>k b ob q,λb ob q _ _ _=>⟨ob.slots,k b ob q⟩,λ_ _ _ n _=>n,λb ob q _=>⟨ob,k b ob q⟩,λ_ _ q=>q,λ_ _ _ q=>q,λ_ ps q=>⟨#[],by rw[q];simp⟩⟩
theorem Un.refl:Un fs ex H H h h:=Un.kept λ_ _ q=>q
theorem Un.laid(k:∀b u,h.get? b=some u->h'.get? b=some u)(hp:h.objs.size<=a)(hn:H a=none):Un fs ex H (upd H a o) h h' where
 keep:=λb u q _ _ _=>k b u q
 slot:=λb u q _ _ _=>⟨u.slots,k b u q⟩
 free:=λb u q n _=>by rw[q0r (jd (jn (j6 q) hp))];exact n
 there:=λb u q _=>⟨u,k b u q⟩
 tups:=λb xs q=>by rw[q0r (q1i q hn)];exact q
 frzs:=λb u xs q=>by rw[q0r (q1i q hn)];exact q
 tbls:=λb ps q=>⟨#[],by rw[q0r (q1i q hn),q];simp⟩
theorem Un.write(mu:Mut (H x))(he:e=x∨H e=some (.own x))(k:∀b u,b≠e->h.get? b=some u->h'.get? b=some u)(heo:∃u,h'.get? e=some u):Un fs ex H (upd H x o) h h':=by
 have hx:∀b,H b=none->b≠x:=λb n z=>by subst z;rw[n]at mu;exact mu
 have hb:∀b,H b=none->b≠e:=λb n z=>by
  subst z;rcases he with r|r
  ·exact hx b n r
  ·rw[n]at r;cases r
 have hm:∀b u,H b=some u->¬Mut (some u)->b≠x:=λb u q nm z=>by subst z;rw[q]at mu;exact nm mu
 refine⟨λb u q n _ _=>k b u (hb b n) q,λb u q n _ _=>⟨u.slots,k b u (hb b n) q⟩,λb u q n _=>by rw[q0r (hx b n)];exact n,λb u q _=>?_,
  λb xs q=>by rw[q0r (hm b _ q λz=>z)];exact q,λb u xs q=>by rw[q0r (hm b _ q λz=>z)];exact q,λb ps q=>⟨#[],by rw[q0r (hm b _ q λz=>z),q];simp⟩⟩
 by_cases hbe:b=e
 ·subst hbe;exact heo
 ·exact⟨u,k b u hbe q⟩
theorem Un.mono(u:Un fs ex H H1 h h1)(hs:∀b∈fs,b∈fs')(hx:∀b∈ex,b∈ex'):Un fs' ex' H H1 h h1:=
 ⟨λb ob q n hb he=>u.keep b ob q n (λz=>hb (hs b z)) λz=>he (hx b z),λ_ _ q n _ he=>u.any q n λz=>he (hx _ z),λb ob q n he=>u.free b ob q n λz=>he (hx b z),λb ob q he=>u.there b ob q λz=>he (hx b z),u.tups,u.frzs,u.tbls⟩
end
def trk(h:Heap)(H:Hp):List Addr:=(List.range h.objs.size).filter λa=>(H a).isSome
def hidT(h:Heap)(H:Hp):Heap:=PySem.W.hideAll h (trk h H)
theorem qhc(h:Heap)(H:Hp):(hidT h H).objs.size=h.objs.size:=PySem.W.hideAll_size _ _
theorem qjr{h:Heap}{H:Hp}{b:Addr}{o:Obj}(e:h.get? b=some o)(n:H b=none):(hidT h H).get? b=some o:=
 PySem.W.hideAll_get _ e λhm=>by have q:(H b).isSome=true:=(List.mem_filter.mp hm).2;rw[n]at q;simp at q
theorem qn2{h:Heap}{H:Hp}{b:Addr}{o:Obj}(e:(hidT h H).get? b=some o):h.get? b=some o/\H b=none:=by
 have e':h.get? b=some o:=PySem.W.of_hideAll (trk h H) e;refine⟨e',?_⟩;cases q:H b with
 |none=>rfl
 | some x=>
  have hm:b∈trk h H:=List.mem_filter.mpr ⟨List.mem_range.mpr (j6 e'),by simp[q]⟩;have z:(hidT h H).get? b=none:=PySem.W.hideAll_none (trk h H) hm;rw[z]at e;cases e
def qp0(g h:Heap)(L:Addr):List (Addr×Obj):=(List.range h.objs.size).filterMap λa=>if a=L∨(g.get? a).isSome=true then none else(h.get? a).map λo=>(a,o)
def rest(g h:Heap)(L d:Addr):List (Addr×Obj):=(qp0 g h L).filter λp=>decide (p.1≠d)
structure Mod(K:FrG)(mg:Str->Option Value)(base:Heap):Prop where
 kin:K.In base
 glob:base.Ns mainGlobals mg
 blt:∃mb,base.Ns builtinsNs mb/\∀x:Str,x≠"__name__"->mb x=bootBuiltins x
 nolimit:base.NoLimit
structure Cx where
 prog:Program
 w:World
 K:PySem.W.Frag
 mg:Str->Option Value
 base:Heap
 A:Around
 N:List Str
 s₀:Shared
 H₀:Hp
 env:Env
 outer:List Env
 stack:List Env
 ex:List Addr
 fn:Str->Bool
 calm:Bool
 pn:List (Addr×Obj)
 xe:Value->Shared->Prop
def frs(l:List Env):List Addr:=l.filterMap (·.frame)
abbrev Cx.fs(X:Cx):List Addr:=frs X.outer
def Vis(sc:Scope)(x:Str):Prop:=sc.names.lookup x=some .local∨sc.names.lookup x=some .cell∨sc.names.lookup x=some .free
def Loc(sc:Scope)(x:Str):Prop:=sc.names.lookup x=some .local∨sc.names.lookup x=some .cell
def Look(env:Env)(h:Heap)(m:Str->Option Value)(x:Str)(u:Value):Prop:=
 (env.kindOf x=some .local/\m x=some u)∨((env.kindOf x=some .cell∨env.kindOf x=some .free)/\∃c,env.cells.lookup x=some c/\h.IsCell c (some u))
structure Cx.Ok(X:Cx):Prop where
 mod:Mod X.K X.mg X.base
 kind:X.env.scope.kind=.function
 glob:X.env.globals=mainGlobals
 blt:X.env.builtins=builtinsNs
 above:X.s₀.heap.objs.size<=X.env.locals
 inj:∀x y c,X.env.cells.lookup x=some c->X.env.cells.lookup y=some c->x=y
 has:∀x,(X.env.kindOf x=some .cell∨X.env.kindOf x=some .free)->∃c,X.env.cells.lookup x=some c
 cab:∀x c,X.fn x=true->X.env.cells.lookup x=some c->X.s₀.heap.objs.size<=c
 hd:X.calm=true->X.A.handled=none
 frames:X.A.frames=some X.stack
 stk:X.stack=X.outer∨(X.stack=X.env::X.outer/\X.env.frame=some X.env.locals)
 exf:∀b∈X.ex,b≠X.env.locals/\∀x c,X.env.cells.lookup x=some c->c≠b
 bs:∀b o,X.base.get? b=some o->X.s₀.heap.get? b=some o/\X.H₀ b=none
 bsz:X.base.objs.size<=X.s₀.heap.objs.size
 noex:∀b o,X.base.get? b=some o->b∉X.ex
 exfs:∀b∈X.ex,b∉X.fs
 funs:X.s₀.heap.FunFrames X.base X.outer
 frf:∀b∈X.fs,X.H₀ b=none
structure Inv(X:Cx)(z5:List (Addr×Obj))(σ:List (Option V))(H:Hp)(s:Shared):Prop where
 ok:X.Ok
 os:s.os=X.s₀.os
 bare:AllBare s.gens
 base:Un X.fs X.ex X.H₀ H X.s₀.heap s.heap
 loc:∃m,s.heap.Ns X.env.locals m/\∀(i:Nat) (x:Str) (v:V),X.N[i]? =some x->σ[i]? =some (some v)->Vis X.env.scope x->∃u,RelV v u/\Look X.env s.heap m x u
 cell:∀x c,X.env.cells.lookup x=some c->∃v,s.heap.IsCell c v
 free:H X.env.locals=none
 freeC:∀x c,X.env.cells.lookup x=some c->H c=none
 pin:∀p∈X.pn++z5,s.heap.get? p.1=some p.2/\H p.1=none/\p.1≠X.env.locals/\p.1∉X.fs/\∀v,p.2.data≠.cell v
 hok:HOk X.prog X.w H s.heap
 len:σ.length=X.N.length
section
variable{X:Cx}{z5:List (Addr×Obj)}{σ:List (Option V)}{H H':Hp}{s:Shared}{h':Heap}
theorem Cx.Ok.nofr(ok:X.Ok){b:Addr}{o:Obj}(e:X.base.get? b=some o):b∉X.fs:=λhb=>by have:=(ok.funs.mem hb).1;rw[e]at this;cases this
theorem Inv.bs(I:Inv X z5 σ H s):∀b o,X.base.get? b=some o->s.heap.get? b=some o/\H b=none:=λb o e=>
 ⟨I.base.keep b o (I.ok.bs b o e).1 (I.ok.bs b o e).2 (I.ok.nofr e) (I.ok.noex b o e),I.base.free b o (I.ok.bs b o e).1 (I.ok.bs b o e).2 (I.ok.noex b o e)⟩
theorem Inv.bk(I:Inv X z5 σ H s):∀b o,X.base.get? b=some o->s.heap.get? b=some o:=λb o e=>(I.bs b o e).1
theorem Inv.mod(I:Inv X z5 σ H s):Mod X.K X.mg X.base:=I.ok.mod
theorem Inv.kIn(I:Inv X z5 σ H s):X.K.In s.heap:=I.ok.mod.kin.keeps I.bk
theorem Inv.fr(I:Inv X z5 σ H s):∃m,Fr X.base X.env.locals s.heap m:=
 let ⟨m,hn,_⟩:=I.loc
 ⟨m,hn,I.bk,ju I.ok.bsz I.ok.above⟩
theorem Inv.lt(I:Inv X z5 σ H s):X.env.locals<s.heap.objs.size:=let ⟨_,hn,_⟩:=I.loc;hn.lt
theorem Inv.sz(I:Inv X z5 σ H s):X.s₀.heap.objs.size<=s.heap.objs.size:=ju I.ok.above (Nat.le_of_lt I.lt)
theorem Inv.nofs(I:Inv X z5 σ H s){a:Addr}(h:s.heap.objs.size<=a):a∉X.fs:=λhb=>by obtain⟨_,o,ho,_⟩:=I.ok.funs.mem hb;exact absurd (jn (j6 ho) (ju I.sz h)) (jz _)
theorem Inv.cne(I:Inv X z5 σ H s):∀x c,X.env.cells.lookup x=some c->c≠X.env.locals:=λx c e z=>by obtain⟨v,o,ho,hd⟩:=I.cell x c e;obtain⟨m,⟨o',es,ep,ho',hd',_⟩,_⟩:=I.loc;rw[z,ho']at ho;cases ho;rw[hd']at hd;cases hd
theorem Inv.funs(I:Inv X z5 σ H s):s.heap.FunFrames X.base X.outer:=by
 have all:∀(l:List Env),(∀b∈frs l,b∈X.fs)->X.s₀.heap.FunFrames X.base l->s.heap.FunFrames X.base l:=by
  intro l;induction l with
  |nil=>intro _ _;trivial
  | cons env r ih=>
   intro hs hl;obtain⟨hk,⟨L,o,hf,hn,ho,hd⟩,hr⟩:=hl;have hL:L∈X.fs:=hs L (by unfold frs;rw[List.filterMap_cons,hf];exact jg);obtain⟨sl,e⟩:=I.base.slot L o ho (I.ok.frf L hL) hL λz=>I.ok.exfs L z hL;exact⟨hk,⟨L,_,hf,hn,e,hd⟩,ih (λb hb=>hs b (by unfold frs;rw[List.filterMap_cons,hf];exact jh _ hb)) hr⟩
 exact all X.outer (λ_ hb=>hb) I.ok.funs
theorem Inv.stack(I:Inv X z5 σ H s):s.heap.FunFrames X.base X.stack:=by
 rcases I.ok.stk with e|⟨e,hf⟩
 ·rw[e];exact I.funs
 ·rw[e];obtain⟨m,hn,_⟩:=I.loc;refine .cons (by rw[I.ok.kind];decide) hf hn ?_ I.funs;exact Heap.get?_none_of_le (ju I.ok.bsz I.ok.above)
theorem Inv.stkSub(I:Inv X z5 σ H s):∀b∈frs X.stack,b∈X.env.locals::X.fs:=λb hb=>by
 rcases I.ok.stk with e|⟨e,hf⟩
 ·rw[e]at hb;exact jh _ hb
 ·rw[e]at hb;unfold frs at hb;rw[List.filterMap_cons,hf]at hb;exact hb
theorem Inv.stkFree(I:Inv X z5 σ H s):∀b∈frs X.stack,H b=none:=λb hb=>by
 rcases List.mem_cons.mp (I.stkSub b hb)with e|hb
 ·rw[e];exact I.free
 ·obtain⟨_,o,ho,_⟩:=I.ok.funs.mem hb;exact I.base.free b o ho (I.ok.frf b hb) λz=>I.ok.exfs b z hb
theorem Inv.step{g':Array GenState}{t':Nat}{d':Drawn}{ch:List Addr}(I:Inv X z5 σ H s)
 (hch:∀b∈ch,(b∈X.ex∨X.s₀.heap.objs.size<=b)/\b≠X.env.locals/\(∀x c,X.env.cells.lookup x=some c->c≠b)/\∀p∈X.pn++z5,p.1≠b)
 (keep:∀b o,b≠X.env.locals->b∉X.fs->b∉ch->s.heap.get? b=some o->H b=none->h'.get? b=some o)
 (slot:∀b o,b≠X.env.locals->b∈X.fs->b∉ch->s.heap.get? b=some o->H b=none->∃sl,h'.get? b=some {o with slots:=sl}) (free:∀b o,b∉ch->s.heap.get? b=some o->H b=none->H' b=none)
 (there:∀b o,b∉ch->s.heap.get? b=some o->∃o',h'.get? b=some o')
 (tups:∀b xs,H b=some (.tup xs)->H' b=some (.tup xs)) (frzs:∀b o u,H b=some (.frz o u)->H' b=some (.frz o u)) (tbls:∀b ps,H b=some (.tbl ps)->∃more,H' b=some (.tbl (ps++more)))
 (ns:∀m,s.heap.Ns X.env.locals m->h'.Ns X.env.locals m) (hok:HOk X.prog X.w H' h') (hg:AllBare g'):
 Inv X z5 σ H' {s with heap:=h',gens:=g',drawn:=d',toks:=t'}:=by
 have neL:∀b o,X.s₀.heap.get? b=some o->b≠X.env.locals:=λb o e=>jd (jn (j6 e) I.ok.above);have neC:∀b o,X.s₀.heap.get? b=some o->b∉X.ex->b∉ch:=λb o e hx hb=>by
  rcases(hch b hb).1 with z|z
  ·exact hx z
  ·exact absurd (jn (j6 e) z) (jz _)
 have cellK:∀x c,X.env.cells.lookup x=some c->∀v,s.heap.IsCell c v->h'.IsCell c v:=λx c e v ⟨o,ho,hd⟩=>by
  have nch:c∉ch:=λz=>(hch c z).2.2.1 x c e rfl;by_cases hc:c∈X.fs
  ·obtain⟨sl,q⟩:=slot c o (I.cne x c e) hc nch ho (I.freeC x c e);exact⟨_,q,hd⟩
  ·exact⟨o,keep c o (I.cne x c e) hc nch ho (I.freeC x c e),hd⟩
 refine⟨I.ok,I.os,hg,⟨λb o e n hb hx=>?_,λb o e n hb hx=>?_,λb o e n hx=>?_,λb o e hx=>?_,λb xs e=>tups b xs (I.base.tups b xs e),λb o xs e=>frzs b o xs (I.base.frzs b o xs e),λb ps e=>?_⟩,?_,λx c e=>?_,?_,λx c e=>?_,λp hp=>?_,hok,I.len⟩
 ·exact keep b o (neL b o e) hb (neC b o e hx) (I.base.keep b o e n hb hx) (I.base.free b o e n hx)
 ·obtain⟨sl,e1⟩:=I.base.slot b o e n hb hx;obtain⟨sl',e2⟩:=slot b _ (neL b o e) hb (neC b o e hx) e1 (I.base.free b o e n hx);exact⟨sl',e2⟩
 ·obtain⟨o',e1⟩:=I.base.there b o e hx;exact free b o' (neC b o e hx) e1 (I.base.free b o e n hx)
 ·obtain⟨o',e1⟩:=I.base.there b o e hx;exact there b o' (neC b o e hx) e1
 ·obtain⟨m1,e1⟩:=I.base.tbls b ps e;obtain⟨m2,e2⟩:=tbls b _ e1;exact⟨m1++m2,by rw[e2,Array.append_assoc]⟩
 ·obtain⟨m,hn,hl⟩:=I.loc;refine⟨m,ns m hn,λi x v e1 e2 e3=>?_⟩;obtain⟨u,r,l⟩:=hl i x v e1 e2 e3;refine⟨u,r,?_⟩;rcases l with l|⟨k,c,e,z⟩
  ·exact .inl l
  ·exact .inr ⟨k,c,e,cellK x c e _ z⟩
 ·obtain⟨v,z⟩:=I.cell x c e;exact⟨v,cellK x c e v z⟩
 ·obtain⟨m,⟨o,_,_,ho,_⟩,_⟩:=I.loc;exact free _ o (λz=>(hch _ z).2.1 rfl) ho I.free
 ·obtain⟨v,o,ho,hd⟩:=I.cell x c e;exact free c o (λz=>(hch c z).2.2.1 x c e rfl) ho (I.freeC x c e)
 ·obtain⟨e,n,ne,nf,d⟩:=I.pin p hp;have nch:p.1∉ch:=λz=>(hch p.1 z).2.2.2 p hp rfl;exact⟨keep p.1 p.2 ne nf nch e n,free p.1 p.2 nch e n,ne,nf,d⟩
theorem Inv.un{t':Nat}(I:Inv X z5 σ H s)(u:Un X.fs [] H H' s.heap h')(hok:HOk X.prog X.w H' h'):Inv X z5 σ H' {s with heap:=h',toks:=t'}:=by
 obtain⟨m,⟨o,es,ep,ho,r⟩,_⟩:=id I.loc;obtain⟨sl,hL⟩:=u.any ho I.free (by simp);exact I.step (g':=s.gens) (d':=s.drawn) (ch:=[]) (λ_ z=>nomatch z) (λb o _ hb _ e n=>u.keep b o e n hb (by simp)) (λb o _ hb _ e n=>u.slot b o e n hb (by simp)) (λb o _ e n=>u.free b o e n (by simp)) (λb o _ e=>u.there b o e (by simp)) u.tups u.frzs u.tbls (λm' hm=>by obtain⟨o',es',ep',ho',r'⟩:=hm;rw[ho]at ho';cases ho';exact⟨_,es',ep',hL,r'⟩) hok I.bare
theorem Inv.call{g':Array GenState}{t':Nat}{d':Drawn}{ch:List Addr}(I:Inv X z5 σ H s)(u:Un (frs X.stack) ch H H' s.heap h')(hok:HOk X.prog X.w H' h')(hg:AllBare g')
 (hch:∀b∈ch,(b∈X.ex∨X.s₀.heap.objs.size<=b)/\b≠X.env.locals/\(∀x c,X.env.cells.lookup x=some c->c≠b)/\∀p∈X.pn++z5,p.1≠b):
 Inv X z5 σ H' {s with heap:=h',gens:=g',drawn:=d',toks:=t'}:=by
 obtain⟨m,⟨o,es,ep,ho,r⟩,_⟩:=id I.loc;obtain⟨sl,hL⟩:=u.any ho I.free λz=>(hch _ z).2.1 rfl;exact I.step (ch:=ch) hch (λb o hL hb hc e n=>u.keep b o e n (λz=>(List.mem_cons.mp (I.stkSub b z)).elim hL hb) hc) (λb o _ _ hc e n=>u.any e n hc) (λb o hc e n=>u.free b o e n hc) (λb o hc e=>u.there b o e hc) u.tups u.frzs u.tbls (λm' hm=>by obtain⟨o',es',ep',ho',r'⟩:=hm;rw[ho]at ho';cases ho';exact⟨_,es',ep',hL,r'⟩) hok hg
theorem Inv.turned{t':Nat}{it:Addr}(I:Inv X z5 σ H s)(k:∀b o,b≠it->s.heap.get? b=some o->h'.get? b=some o)(hn:H it=none)(hL:it≠X.env.locals)
 (h1:it∈X.ex∨X.s₀.heap.objs.size<=it) (h2:∀x c,X.env.cells.lookup x=some c->c≠it) (h3:∀p∈X.pn++z5,p.1≠it):Inv X z5 σ H {s with heap:=h',toks:=t'}:=by
 have nit:∀b u,H b=some u->b≠it:=λb u e z=>by rw[z,hn]at e;cases e
 refine I.step (g':=s.gens) (d':=s.drawn) (ch:=[it]) (λb hb=>?_) (λb o _ _ hc e _=>k b o (λz=>hc (by simp[z])) e) (λb o _ _ hc e _=>⟨o.slots,k b o (λz=>hc (by simp[z])) e⟩) (λ_ _ _ _ n=>n)
  (λb o hc e=>⟨o,k b o (λz=>hc (by simp[z])) e⟩) (λ_ _ e=>e) (λ_ _ _ e=>e) (λb ps e=>⟨#[],by rw[e];simp⟩) (λm hm=>?_) (λb u e=>?_) I.bare
 ·have e:b=it:=by simpa using hb
  subst e;exact⟨h1,hL,h2,h3⟩
 ·obtain⟨o,es,ep,ho,r⟩:=hm;exact⟨o,es,ep,k _ o (Ne.symm hL) ho,r⟩
 ·refine(I.hok b u e).stay (λc v hc q=>k c v ?_ q) (λ_ q=>q) λ_ _ q=>q;rcases hc with z|z
  ·rw[z];exact nit b u e
  ·exact nit c _ z
theorem Inv.tok(I:Inv X z5 σ H s)(t:Nat):Inv X z5 σ H {s with toks:=t}:=I.un (h':=s.heap) (t':=t) Un.refl I.hok
theorem Inv.kept{t':Nat}(I:Inv X z5 σ H s)(k:∀b u,s.heap.get? b=some u->h'.get? b=some u):Inv X z5 σ H {s with heap:=h',toks:=t'}:=I.un (Un.kept k) (I.hok.kept k)
theorem Inv.laid{a:Addr}{o:HO}{t':Nat}(I:Inv X z5 σ H s)(k:∀b u,s.heap.get? b=some u->h'.get? b=some u)(hp:s.heap.objs.size<=a)(new:ObjOk X.prog X.w (upd H a o) h' a o):
 Inv X z5 σ (upd H a o) {s with heap:=h',toks:=t'}:=I.un (Un.laid k hp (I.hok.fresh hp)) (I.hok.laid k hp new)
theorem Inv.write{x e:Addr}{o:HO}{t':Nat}(I:Inv X z5 σ H s)(mu:Mut (H x))(he:e=x∨H e=some (.own x))(k:∀b u,b≠e->s.heap.get? b=some u->h'.get? b=some u)(heo:∃u,h'.get? e=some u)
 (new:ObjOk X.prog X.w (upd H x o) h' x o):Inv X z5 σ (upd H x o) {s with heap:=h',toks:=t'}:=I.un (Un.write mu he k heo) (I.hok.write mu he k heo new)
theorem Inv.weak{σ':List (Option V)}(I:Inv X z5 σ H s)(hl:σ'.length=σ.length)(w:∀(i:Nat) v,σ'[i]? =some (some v)->σ[i]? =some (some v)):Inv X z5 σ' H s:=
 ⟨I.ok,I.os,I.bare,I.base,let ⟨m,hn,hl'⟩:=I.loc;⟨m,hn,λi x v e1 e2 e3=>hl' i x v e1 (w i v e2) e3⟩,I.cell,I.free,I.freeC,I.pin,I.hok,hl.trans I.len⟩
theorem Inv.pins_of{pins':List (Addr×Obj)}(I:Inv X z5 σ H s)(h:∀p∈pins',s.heap.get? p.1=some p.2/\H p.1=none/\p.1≠X.env.locals/\p.1∉X.fs/\∀v,p.2.data≠.cell v):Inv X pins' σ H s:=
 ⟨I.ok,I.os,I.bare,I.base,I.loc,I.cell,I.free,I.freeC,λp hp=>(List.mem_append.mp hp).elim (λz=>I.pin p (List.mem_append_left _ z)) (h p),I.hok,I.len⟩
theorem qct{N:List Str}(hN:N.Nodup){i j:Nat}{x:Str}(a:N[i]? =some x)(b:N[j]? =some x):i=j:=by obtain⟨h1,e1⟩:=List.getElem?_eq_some_iff.mp a;obtain⟨h2,e2⟩:=List.getElem?_eq_some_iff.mp b;exact(List.getElem_inj hN).mp (e1.trans e2.symm)
theorem qf4{M:Model}{A:Around}{E:Value->Shared->Prop}{i:Nat}{x:Str}{v:V}{u:Value}{Q:Unit->Shared->Prop}(I:Inv X z5 σ H s)(hN:X.N.Nodup)(hi:X.N[i]? =some x)(hx:Loc X.env.scope x)(r:RelV v u)
 (h:∀s',Inv X z5 (σ.set i (some v)) H s'->(∃a,Heap.SameBut a s.heap s'.heap/\(a=X.env.locals∨X.env.cells.lookup x=some a))->Q () s') (hf:X.fn x=true∨X.env.scope.names.lookup x=some .local:=by first|exact .inl rfl|exact .inr rfl|assumption):wpAny M A (storeName X.env x u) Q E s:=by
 obtain⟨m,hn,hl⟩:=id I.loc;have hcls:(X.env.scope.kind==.class||(X.env.scope.kind==.module&&X.env.locals !=X.env.globals))=false:=by rw[I.ok.kind];rfl
 have hiσ:i<σ.length:=by rw[I.len];exact(List.getElem?_eq_some_iff.mp hi).1
 have cne:=I.cne;have tracked:∀{a:Addr} {h':Heap},(∃o,s.heap.get? a=some o/\H a=none)->Heap.SameBut a s.heap h'->HOk X.prog X.w H h':=λ{a h'} ha hs b ob e=>by
  obtain⟨_,_,hfree⟩:=ha;refine(I.hok b ob e).stay (λc w' hc q=>(hs.2 c ?_).trans q) (λ_ q=>q) λ_ _ q=>q;rintro rfl;rcases hc with rfl|hc
  ·rw[hfree]at e;cases e
  ·rw[hfree]at hc;cases hc
 rcases hx with hk|hk
 ·refine wpAny_storeName_local hk hn (λh' hn' hs=>?_) hcls;obtain⟨oL,_,_,hoL,_⟩:=id hn;refine h _ ⟨I.ok,I.os,I.bare,⟨λb o e n hb hx=>?_,λb o e n hb hx=>?_,I.base.free,λb o e hx=>?_,I.base.tups,I.base.frzs,I.base.tbls⟩,⟨_,hn',λj y v' e1 e2 e3=>?_⟩,λy c e=>?_,I.free,I.freeC,λp hp=>?_,tracked ⟨oL,hoL,I.free⟩ hs,by simpa using I.len⟩ ⟨_,hs,.inl rfl⟩
  ·exact(hs.2 b (jd (jn (j6 e) I.ok.above))).trans (I.base.keep b o e n hb hx)
  ·obtain⟨sl,e1⟩:=I.base.slot b o e n hb hx;exact⟨sl,(hs.2 b (jd (jn (j6 e) I.ok.above))).trans e1⟩
  ·obtain⟨o',e1⟩:=I.base.there b o e hx;exact⟨o',(hs.2 b (jd (jn (j6 e) I.ok.above))).trans e1⟩
  ·by_cases hj:j=i
   ·subst hj;rw[hi]at e1;cases e1;rw[jw hiσ]at e2;cases e2;exact⟨u,r,.inl ⟨hk,by simp⟩⟩
   ·rw[jc (Ne.symm hj)]at e2;obtain⟨u',r',q⟩:=hl j y v' e1 e2 e3;refine⟨u',r',?_⟩;rcases q with⟨k,e⟩|⟨k,c,e,z⟩
    ·refine .inl ⟨k,?_⟩;have:y≠x:=λe=>hj (qct hN e1 (e▸hi));simp[this,e]
    ·exact .inr ⟨k,c,e,z.sameBut hs (cne y c e)⟩
  ·obtain⟨w',z⟩:=I.cell y c e;exact⟨w',z.sameBut hs (cne y c e)⟩
  ·obtain⟨e,n,ne,nf,d⟩:=I.pin p hp;exact⟨(hs.2 p.1 ne).trans e,n,ne,nf,d⟩
 ·have hfn:X.fn x=true:=by
   rcases hf with z|z
   ·exact z
   ·rw[z]at hk;cases hk
  obtain⟨c,hc⟩:=I.ok.has x (.inl hk);obtain⟨w',z⟩:=I.cell x c hc;refine wpAny_storeName_cell I.ok.kind hk hc z (λh' hc' hs=>?_);obtain⟨oc,hoc,hocd⟩:=id z;refine h {s with heap:=h'} ⟨I.ok,I.os,I.bare,⟨λb o e n hb hx=>?_,λb o e n hb hx=>?_,I.base.free,λb o e hx=>?_,I.base.tups,I.base.frzs,I.base.tbls⟩,⟨m,hn.sameBut hs (Ne.symm (cne x c hc)),λj y v' e1 e2 e3=>?_⟩,λy c' e=>?_,I.free,I.freeC,λp hp=>?_,tracked ⟨oc,hoc,I.freeC x c hc⟩ hs,by simpa using I.len⟩ ⟨c,hs,.inr hc⟩
  ·exact(hs.2 b (jd (jn (j6 e) (I.ok.cab x c hfn hc)))).trans (I.base.keep b o e n hb hx)
  ·obtain⟨sl,e1⟩:=I.base.slot b o e n hb hx;exact⟨sl,(hs.2 b (jd (jn (j6 e) (I.ok.cab x c hfn hc)))).trans e1⟩
  ·obtain⟨o',e1⟩:=I.base.there b o e hx;exact⟨o',(hs.2 b (jd (jn (j6 e) (I.ok.cab x c hfn hc)))).trans e1⟩
  ·by_cases hj:j=i
   ·subst hj;rw[hi]at e1;cases e1;rw[jw hiσ]at e2;cases e2;exact⟨u,r,.inr ⟨.inl hk,c,hc,hc'⟩⟩
   ·rw[jc (Ne.symm hj)]at e2;obtain⟨u',r',q⟩:=hl j y v' e1 e2 e3;refine⟨u',r',?_⟩;rcases q with q|⟨k,c',e,z'⟩
    ·exact .inl q
    ·refine .inr ⟨k,c',e,z'.sameBut hs ?_⟩;rintro rfl;exact hj (qct hN e1 (I.ok.inj _ _ _ e hc▸hi))
  ·by_cases hcc:c'=c
   ·subst hcc;exact⟨_,hc'⟩
   ·obtain⟨w2,z2⟩:=I.cell y c' e;exact⟨w2,z2.sameBut hs hcc⟩
  ·obtain⟨e,n,ne,nf,d⟩:=I.pin p hp;refine⟨(hs.2 p.1 ?_).trans e,n,ne,nf,d⟩;intro q;rw[q,hoc]at e;have q':oc=p.2:=ja e;exact d w' (by rw[<-q'];exact hocd)
theorem q8m{M:Model}{A:Around}{E:Value->Shared->Prop}{i:Nat}{x:Str}{v:V}{u:Value}{Q:Unit->Shared->Prop}(I:Inv X z5 σ H s)(hN:X.N.Nodup)(hi:X.N[i]? =some x)(hx:Loc X.env.scope x)(r:RelV v u)
 (h:∀s',Inv X z5 (σ.set i (some v)) H s'->Q () s') (hf:X.fn x=true∨X.env.scope.names.lookup x=some .local:=by first|exact .inl rfl|exact .inr rfl|assumption):wpAny M A (storeName X.env x u) Q E s:=
 qf4 I hN hi hx r (λs' I' _=>h s' I') hf
theorem Inv.call'{s':Shared}{ch:List Addr}(I:Inv X z5 σ H s)(ho:s'.os=s.os)(u:Un (frs X.stack) ch H H' s.heap s'.heap)(hok:HOk X.prog X.w H' s'.heap)(hg:AllBare s'.gens)
 (hch:∀b∈ch,(b∈X.ex∨X.s₀.heap.objs.size<=b)/\b≠X.env.locals/\(∀x c,X.env.cells.lookup x=some c->c≠b)/\∀p∈X.pn++z5,p.1≠b):Inv X z5 σ H' s':=by
 obtain⟨h',g',d',t',o'⟩:=s';have e:o'=s.os:=ho;subst e;exact I.call (g':=g') (t':=t') (d':=d') u hok hg hch
end
abbrev XK:=Value->Option Addr->Hp->Prop
abbrev St:=List (Option V)
abbrev VK:=V->Hp->Prop
abbrev TE:=St->Hp->VK->Prop
abbrev TT:=St->Hp->(Bool->Hp->Prop)->Prop
abbrev TA:=St->Hp->(List V->Hp->Prop)->Prop
structure Ends where
 nx:St->Hp->Prop
 rt:VK
 bk:St->Hp->Prop:=λ_ _=>False
 ct:St->Hp->Prop:=λ_ _=>False
abbrev TS:=Ends->St->Hp->Prop
def EP(X:Cx)(z5:List (Addr×Obj))(σ:St)(Q:VK)(u:Value)(s':Shared):Prop:=∃v H',Inv X z5 σ H' s'/\RelV v u/\Q v H'
def TP(X:Cx)(z5:List (Addr×Obj))(σ:St)(Q:Bool->Hp->Prop)(b:Bool)(s':Shared):Prop:=∃H',Inv X z5 σ H' s'/\Q b H'
def AP(X:Cx)(z5:List (Addr×Obj))(σ:St)(Q:List V->Hp->Prop)(us:List Value)(s':Shared):Prop:=∃vs H',Inv X z5 σ H' s'/\Vals vs us/\Q vs H'
def SP(X:Cx)(z5:List (Addr×Obj))(D:Ends)(f:Flow)(s':Shared):Prop:=
 match f with
 |.next=>∃σ' H',Inv X z5 σ' H' s'/\D.nx σ' H'
 |.brk=>∃σ' H',Inv X z5 σ' H' s'/\D.bk σ' H'
 |.cont=>∃σ' H',Inv X z5 σ' H' s'/\D.ct σ' H'
 |.ret u=>∃v σ' H',Inv X z5 σ' H' s'/\RelV v u/\D.rt v H'
def PE(X:Cx)(e:Expr)(t:TE):Prop:=
 ∀(z5:List (Addr×Obj)) (s:Shared) (σ:St) (H:Hp) (Q:VK),Inv X z5 σ H s->t σ H Q->wpAny (model X.prog X.w) X.A (eval e X.env) (EP X z5 σ Q) X.xe s
def PT(X:Cx)(e:Expr)(t:TT):Prop:=
 ∀(z5:List (Addr×Obj)) (s:Shared) (σ:St) (H:Hp) (Q:Bool->Hp->Prop),Inv X z5 σ H s->t σ H Q->wpAny (model X.prog X.w) X.A (isTrue e X.env (eval e X.env)) (TP X z5 σ Q) X.xe s
def PW(X:Cx)(e:Expr)(t:TT):Prop:=
 ∀(zv:Sem Value) (z5:List (Addr×Obj)) (s:Shared) (σ:St) (H:Hp) (Q:Bool->Hp->Prop),Inv X z5 σ H s->t σ H Q->wpAny (model X.prog X.w) X.A (isTrue e X.env zv) (TP X z5 σ Q) X.xe s
theorem PW.pt{X:Cx}{e:Expr}{t:TT}(h:PW X e t):PT X e t:=h _
def PA(X:Cx)(es:List Expr)(t:TA):Prop:=
 ∀(pos:Pos) (z5:List (Addr×Obj)) (s:Shared) (σ:St) (H:Hp) (Q:List V->Hp->Prop),Inv X z5 σ H s->t σ H Q->wpAny (model X.prog X.w) X.A (spliced (backTo pos (starEach es X.env))) (AP X z5 σ Q) X.xe s
def PS(X:Cx)(st:Stmt)(t:TS):Prop:=
 ∀(z5:List (Addr×Obj)) (s:Shared) (σ:St) (H:Hp) (D:Ends),Inv X z5 σ H s->t D σ H->wpAny (model X.prog X.w) X.A (exec st X.env) (SP X z5 D) X.xe s
def PSs(X:Cx)(st:List Stmt)(t:TS):Prop:=
 ∀(z5:List (Addr×Obj)) (s:Shared) (σ:St) (H:Hp) (D:Ends),Inv X z5 σ H s->t D σ H->wpAny (model X.prog X.w) X.A (execs st X.env) (SP X z5 D) X.xe s
theorem thn{α:Type}{t:Sem α}{Q Q':α->Shared->Prop}{M:Model}{A:Around}{E:Value->Shared->Prop}{s:Shared}(h:wpAny M A t Q E s)(hQ:∀a s,Q a s->Q' a s):wpAny M A t Q' E s:=x9 h hQ λ_ _ x=>x
section
variable{X:Cx}
def tVar(i:Nat):TE:=λσ H Q=>∃v,σ[i]? =some (some v)/\Q v H
def tC(v:V):TE:=λ_ H Q=>Q v H
theorem qqn{i:Nat}{x:Str}{pos:Pos}(hN:X.N[i]? =some x)(hv:Vis X.env.scope x)(hd:(x==("__debug__":Str))=false:=by decide)(hcd:(x==("__classdict__":Str))=false:=by decide):PE X (.Name x pos) (tVar i):=by
 intro z5 s σ H Q I h;obtain⟨v,e,h⟩:=h;obtain⟨m,hn,hl⟩:=I.loc;obtain⟨u,r,l⟩:=hl i x v hN e hv;have fin:EP X z5 σ Q u s:=⟨v,H,I,r,h⟩;rcases l with⟨hk,hm⟩|⟨hk,c,hc,hcell⟩
 ·exact wpAny_Name (wpAny_loadName_local I.ok.kind hk hn hm fin) hd
 ·rcases hk with hk|hk
  ·exact wpAny_Name (wpAny_loadName_cell I.ok.kind hk hc hcell fin) hd
  ·exact wpAny_Name (wpAny_loadName_free I.ok.kind hk hc hcell fin hcd) hd
theorem q07{i j pos}:PE X (.Constant (.int i) j pos) (tC (.int i)):=λ_ _ _ H _ I h=>wpAny_Constant_int ⟨.int i,H,I.tok _,⟨_,rfl⟩,h⟩
theorem qe5{b j pos}:PE X (.Constant (.bool b) j pos) (tC (.bl b)):=λ_ _ _ H _ I h=>Constant_bool ⟨.bl b,H,I,rfl,h⟩
theorem q52{j pos}:PE X (.Constant .none j pos) (tC .non):=λ_ _ _ H _ I h=>Constant_none ⟨.non,H,I,rfl,h⟩
theorem q38{x j pos}:PE X (.Constant (.str x) j pos) (tC (.str x)):=λ_ _ _ H _ I h=>Calls.Constant_str ⟨.str x,H,I.tok _,⟨_,rfl⟩,h⟩
def Gl(X:Cx)(x:Str):Prop:=X.env.kindOf x=some .globalImplicit
theorem qbh{E:Value->Shared->Prop}{z5:List (Addr×Obj)}{s:Shared}{σ:St}{H:Hp}{x:Str}{u:Value}{pos:Pos}{Q:Value->Shared->Prop}(I:Inv X z5 σ H s)(hg:Gl X x)(hm:X.mg x=some u)(h:Q u s)
 (hd:(x==("__debug__":Str))=false:=by decide):wpAny (model X.prog X.w) X.A (eval (.Name x pos) X.env) Q E s:=
 Calls.Name_function_global I.ok.kind hg (Calls.loadGlobal_global (by rw[I.ok.glob];exact I.mod.glob.keeps I.bk) hm h) hd
theorem q41{E:Value->Shared->Prop}{z5:List (Addr×Obj)}{s:Shared}{σ:St}{H:Hp}{x:Str}{u:Value}{pos:Pos}{Q:Value->Shared->Prop}(I:Inv X z5 σ H s)(hg:Gl X x)(hm:X.mg x=none)(hv:bootBuiltins x=some u)(h:Q u s)
 (hn:x≠"__name__":=by decide) (hd:(x==("__debug__":Str))=false:=by decide):wpAny (model X.prog X.w) X.A (eval (.Name x pos) X.env) Q E s:=by
 obtain⟨mb,h1,h2⟩:=I.mod.blt;exact Calls.Name_function_global I.ok.kind hg (Calls.loadGlobal_builtin (by rw[I.ok.glob];exact I.mod.glob.keeps I.bk) hm (by rw[I.ok.blt];exact h1.keeps I.bk) ((h2 x hn).trans hv) h) hd
theorem qb1{x:Str}{v:V}{u:Value}{pos:Pos}(hg:Gl X x)(hm:X.mg x=none)(hv:bootBuiltins x=some u)(r:RelV v u)(hn:x≠"__name__":=by decide)(hd:(x==("__debug__":Str))=false:=by decide):PE X (.Name x pos) (tC v):=
 λ_ _ _ H _ I h=>q41 I hg hm hv ⟨v,H,I,r,h⟩ hn hd
variable{a b:Expr}{ta tb:TE}{pos:Pos}
def tB(t:TE):TT:=λσ H Q=>t σ H λx H1=>∃c,x=.bl c/\Q c H1
theorem q9m{e:Expr}{t:TE}(h:PE X e t)(he:∀zv,isTrue e X.env zv=(do let v <-zv;standAt e.pos;holding [v] (truthy v)):=by intro _;rfl):PT X e (tB t):=by intro z5 s σ H Q I hw;refine isTrue_plain (thn (h z5 s σ H _ I hw) λv s1 ⟨x,H1,I1,r1,q1⟩=>?_) (he _);obtain⟨d,rfl,q⟩:=q1;cases r1;exact xx ⟨H1,I1,q⟩
variable{tA tB':TT}{rest:List Expr}
def tAnd(t u:TT):TT:=λσ H Q=>t σ H λc H1=>if c=true then u σ H1 Q else Q false H1
def tOr(t u:TT):TT:=λσ H Q=>t σ H λc H1=>if c=true then Q true H1 else u σ H1 Q
def tNot(t:TT):TT:=λσ H Q=>t σ H λc H1=>Q (!c) H1
theorem pw_and1(ha:PT X a tA):PW X (.BoolOp .And [a] pos) tA:=by
 intro wh z5 s σ H Q I h;refine isTrue_and (thn (ha z5 s σ H Q I h) λc s1 e=>?_);cases c with
 |true=>exact isTrue_and_nil e
 |false=>exact e
theorem pw_or1(ha:PT X a tA):PW X (.BoolOp .Or [a] pos) tA:=by
 intro wh z5 s σ H Q I h;refine isTrue_or (thn (ha z5 s σ H Q I h) λc s1 e=>?_);cases c with
 |false=>exact isTrue_or_nil e
 |true=>exact e
theorem pw_and(ha:PT X a tA)(hb:PW X (.BoolOp .And (b::rest) pos) tB'):PW X (.BoolOp .And (a::b::rest) pos) (tAnd tA tB'):=by
 intro wh z5 s σ H Q I h;refine isTrue_and (thn (ha z5 s σ H _ I h) λc s1 ⟨H1,I1,q1⟩=>?_);cases c with
 |true=>exact hb wh z5 s1 σ H1 Q I1 q1
 |false=>exact⟨H1,I1,q1⟩
theorem pw_or(ha:PT X a tA)(hb:PW X (.BoolOp .Or (b::rest) pos) tB'):PW X (.BoolOp .Or (a::b::rest) pos) (tOr tA tB'):=by
 intro wh z5 s σ H Q I h;refine isTrue_or (thn (ha z5 s σ H _ I h) λc s1 ⟨H1,I1,q1⟩=>?_);cases c with
 |true=>exact⟨H1,I1,q1⟩
 |false=>exact hb wh z5 s1 σ H1 Q I1 q1
theorem qlh(ha:PT X a tA):PT X (.UnaryOp .Not a pos) (tNot tA):=by intro z5 s σ H Q I h;exact isTrue_not (ha z5 s σ H (λc H1=>Q (!c) H1) I h)
def qpk(ta tb:TE):TE:=λσ H Q=>ta σ H λx H1=>∃c,x=.bl c/\if c=true then tb σ H1 Q else Q (.bl false) H1
def qpc(ta:TE):TE:=λσ H Q=>ta σ H λx H1=>∃c,x=.bl c/\Q (.bl (!c)) H1
theorem qli{op}{t:TE}(h:PE X a t):PE X (.BoolOp op [a] pos) t:=λz5 s σ H Q I hw=>BoolOp_one (h z5 s σ H Q I hw)
theorem qlj(ha:PE X a ta)(hb:PE X (.BoolOp .And (b::rest) pos) tb):PE X (.BoolOp .And (a::b::rest) pos) (qpk ta tb):=by
 intro z5 s σ H Q I h;refine BoolOp_and (thn (ha z5 s σ H _ I h) λv s1 ⟨x,H1,I1,r1,q1⟩=>?_);obtain⟨c,rfl,q1⟩:=q1;cases r1;refine xx ?_;cases c with
 |true=>exact hb z5 s1 σ H1 Q I1 q1
 |false=>exact⟨.bl false,H1,I1,rfl,q1⟩
theorem qqo(ha:PE X a ta):PE X (.UnaryOp .Not a pos) (qpc ta):=by intro z5 s σ H Q I h;refine UnaryOp_ (thn (ha z5 s σ H _ I h) λv s1 ⟨x,H1,I1,r1,q1⟩=>?_);obtain⟨c,rfl,q1⟩:=q1;cases r1;exact not_of (xx ⟨.bl (!c),H1,I1,rfl,q1⟩)
def tIf(t:TT)(ta tb:TE):TE:=λσ H Q=>t σ H λc H1=>if c=true then ta σ H1 Q else tb σ H1 Q
theorem q2u{c:Expr}(hc:PT X c tA)(ha:PE X a ta)(hb:PE X b tb):PE X (.IfExp c a b pos) (tIf tA ta tb):=by
 intro z5 s σ H Q I h;refine wpAny_IfExp (thn (hc z5 s σ H _ I h) λd s1 ⟨H1,I1,q1⟩=>?_);cases d with
 |true=>exact ha z5 s1 σ H1 Q I1 q1
 |false=>exact hb z5 s1 σ H1 Q I1 q1
end
def SqL(K:FrG)(H:Hp)(a:Addr)(xs:List V):Prop:=
 Rd H a (.lst xs)∨
  ∃(o:Obj) (its:Array Value) (n:Nat),K.lookup a=some o/\o.cls=.type "list"/\o.dict=none/\o.data=.seq its n/\its.size<=sizeLine/\Vals xs its.toList
def SqT(K:FrG)(H:Hp)(a:Addr)(xs:List V):Prop:=
 Rd H a (.tup xs)∨
  ∃(o:Obj) (its:Array Value) (n:Nat),K.lookup a=some o/\o.cls=.type "tuple"/\o.dict=none/\o.data=.seq its n/\its.size<=sizeLine/\Vals xs its.toList
def absV:Value->Option V
 |.none=>some .non
 |.bool b=>some (.bl b)
 |.int i _=>some (.int i)
 |.str x _=>some (.str x)
 |.bytes b _=>some (.byt b)
 |.float b _=>some (.flt b)
 |.ref a=>some (.ref a)
 |.type n=>some (.ty n)
 |_=>none
theorem RelV.abs{x:V}{u:Value}(r:RelV x u):absV u=some x:=by
 cases x with
 |non=>cases r;rfl
 |bl _=>cases r;rfl
 |int _=>obtain⟨t,rfl⟩:=r;rfl
 |str _=>obtain⟨t,rfl⟩:=r;rfl
 |byt _=>obtain⟨t,rfl⟩:=r;rfl
 |flt _=>obtain⟨t,rfl⟩:=r;rfl
 |ref _=>cases r;rfl
 |ty _=>cases r;rfl
theorem RelV.inj{x y:V}{u:Value}(r:RelV x u)(q:RelV y u):x=y:=ja (r.abs.symm.trans q.abs)
theorem Vals.inj:∀{xs ys:List V} {us:List Value},Vals xs us->Vals ys us->xs=ys
 |_,_,_,.nil,.nil=>rfl
 |_,_,_,.cons r t,.cons r' t'=>by rw[r.inj r',Vals.inj t t']
section
variable{X:Cx}{z5:List (Addr×Obj)}{σ:St}{H:Hp}{s:Shared}{a:Addr}{xs ys:List V}
theorem SqL.of{K:FrG}(h:H a=some (.lst xs)):SqL K H a xs:=.inl (.inl h)
theorem SqT.of{K:FrG}(h:H a=some (.tup xs)):SqT K H a xs:=.inl (.inl h)
theorem Inv.list(I:Inv X z5 σ H s)(h:SqL X.K H a xs):∃its:List Value,Vals xs its/\PlainL s.heap a its.toArray/\xs.length<=sizeLine:=by
 rcases h with h|⟨o,its,n,hk,hc,hd,hs,hz,r⟩
 ·obtain⟨z,its,n,r,e⟩:=h.ok I.hok;exact⟨its,r,⟨_,n,e,rfl,rfl,rfl⟩,z⟩
 ·refine⟨its.toList,r,⟨o,n,I.kIn a o hk,hc,hd,by simpa using hs⟩,?_⟩;have e:=r.length;simp only[Array.length_toList]at e;omega
theorem Inv.tupN(I:Inv X z5 σ H s)(h:SqT X.K H a xs):∃its:List Value,Vals xs its/\TupN s.heap a its.toArray/\xs.length<=sizeLine:=by
 rcases h with h|⟨o,its,n,hk,hc,hd,hs,hz,r⟩
 ·obtain⟨z,its,r,p⟩:=h.ok I.hok;exact⟨its,r,p,z⟩
 ·refine⟨its.toList,r,⟨o,I.kIn a o hk,⟨hc,n,by simpa using hs⟩,hd⟩,?_⟩;have e:=r.length;simp only[Array.length_toList]at e;omega
theorem Inv.tuple(I:Inv X z5 σ H s)(h:SqT X.K H a xs):∃its:List Value,Vals xs its/\IsTup s.heap a its.toArray/\xs.length<=sizeLine:=let ⟨its,r,p,z⟩:=I.tupN h;⟨its,r,p.tup,z⟩
theorem Inv.list_inj(I:Inv X z5 σ H s)(h:SqL X.K H a xs)(h':SqL X.K H a ys):xs=ys:=by
 obtain⟨its,r,⟨o,n,e,_,_,d⟩,_⟩:=I.list h;obtain⟨its',r',⟨o',n',e',_,_,d'⟩,_⟩:=I.list h';rw[e]at e';cases e';rw[d]at d';injection d' with d1 _;have:its=its':=by simpa using congrArg Array.toList d1
 subst this;exact r.inj r'
theorem Inv.tuple_inj(I:Inv X z5 σ H s)(h:SqT X.K H a xs)(h':SqT X.K H a ys):xs=ys:=by
 obtain⟨its,r,⟨o,e,_,n,d⟩,_⟩:=I.tuple h;obtain⟨its',r',⟨o',e',_,n',d'⟩,_⟩:=I.tuple h';rw[e]at e';cases e';rw[d]at d';injection d' with d1 _;have:its=its':=by simpa using congrArg Array.toList d1
 subst this;exact r.inj r'
end
abbrev Cx.wish(X:Cx)(E:Value->Shared->Prop):Cx:={X with xe:=E}
abbrev Cx.nox(X:Cx):Cx:=X.wish λ_ _=>False
theorem Cx.Ok.wish{X:Cx}(ok:X.Ok)(E:Value->Shared->Prop):(X.wish E).Ok:=
 ⟨ok.mod,ok.kind,ok.glob,ok.blt,ok.above,ok.inj,ok.has,ok.cab,ok.hd,ok.frames,ok.stk,ok.exf,ok.bs,ok.bsz,ok.noex,ok.exfs,ok.funs,ok.frf⟩
theorem Cx.Ok.unwish{X:Cx}{E:Value->Shared->Prop}(ok:(X.wish E).Ok):X.Ok:=
 ⟨ok.mod,ok.kind,ok.glob,ok.blt,ok.above,ok.inj,ok.has,ok.cab,ok.hd,ok.frames,ok.stk,ok.exf,ok.bs,ok.bsz,ok.noex,ok.exfs,ok.funs,ok.frf⟩
section
variable{X:Cx}{z5:List (Addr×Obj)}{σ:St}{H:Hp}{s:Shared}{E:Value->Shared->Prop}
theorem Inv.wish(I:Inv X z5 σ H s)(E:Value->Shared->Prop):Inv (X.wish E) z5 σ H s:=⟨I.ok.wish E,I.os,I.bare,I.base,I.loc,I.cell,I.free,I.freeC,I.pin,I.hok,I.len⟩
theorem Inv.unwish(I:Inv (X.wish E) z5 σ H s):Inv X z5 σ H s:=⟨I.ok.unwish,I.os,I.bare,I.base,I.loc,I.cell,I.free,I.freeC,I.pin,I.hok,I.len⟩
theorem SP.unwish{D:Ends}{f:Flow}{s':Shared}(h:SP (X.wish E) z5 D f s'):SP X z5 D f s':=by
 cases f with
 |next=>obtain⟨σ',H',I,q⟩:=h;exact⟨σ',H',I.unwish,q⟩
 |brk=>obtain⟨σ',H',I,q⟩:=h;exact⟨σ',H',I.unwish,q⟩
 |cont=>obtain⟨σ',H',I,q⟩:=h;exact⟨σ',H',I.unwish,q⟩
 |ret u=>obtain⟨v,σ',H',I,r,q⟩:=h;exact⟨v,σ',H',I.unwish,r,q⟩
theorem PE.nox{e:Expr}{t:TE}(h:PE X.nox e t):PE X e t:=λz5 s σ H Q I hw=>
 x9 (h z5 s σ H Q (I.wish _) hw) (λ_ _ ⟨v,H',I',r,q⟩=>⟨v,H',I'.unwish,r,q⟩) λ_ _ z=>False.elim z
theorem PT.nox{e:Expr}{t:TT}(h:PT X.nox e t):PT X e t:=λz5 s σ H Q I hw=>
 x9 (h z5 s σ H Q (I.wish _) hw) (λ_ _ ⟨H',I',q⟩=>⟨H',I'.unwish,q⟩) λ_ _ z=>False.elim z
theorem PSs.nox{st:List Stmt}{t:TS}(h:PSs X.nox st t):PSs X st t:=λz5 s σ H D I hw=>
 x9 (h z5 s σ H D (I.wish _) hw) (λ_ _ q=>q.unwish) λ_ _ z=>False.elim z
end
section
variable{X:Cx}{st:Stmt}{rest:List Stmt}{t u:TS}{e:Expr}{te:TE}{pos:Pos}
def qpd:TS:=λD σ H=>D.nx σ H
def tSeq(t u:TS):TS:=λD σ H=>t {D with nx:=u D} σ H
theorem q26:PSs X [] qpd:=λ_ _ σ H _ I h=>wpAny_execs_nil ⟨σ,H,I,h⟩
theorem q06(h1:PS X st t)(h2:PSs X rest u):PSs X (st::rest) (tSeq t u):=by
 intro z5 s σ H D I h;refine wpAny_execs_cons (thn (h1 z5 s σ H {D with nx:=u D} I h) λf s1 q=>?_);cases f with
 | next=>
  obtain⟨σ',H',I',q⟩:=q;exact h2 z5 s1 σ' H' D I' q
 |ret v=>exact q
 |brk=>exact q
 |cont=>exact q
theorem q0b(h1:PS X st t):PSs X [st] t:=by
 intro z5 s σ H D I h;refine wpAny_execs_cons (thn (h1 z5 s σ H D I h) λf s1 q=>?_);cases f with
 |next=>exact wpAny_execs_nil q
 |ret v=>exact q
 |brk=>exact q
 |cont=>exact q
def qlc:TS:=λD σ H=>D.bk σ H
theorem qiu:PS X (.Break pos) qlc:=λ_ _ σ H _ I h=>wpAny_Break ⟨σ,H,I,h⟩
theorem Inv.quiet{z5:List (Addr×Obj)}{σ:St}{H:Hp}{s:Shared}(I:Inv X z5 σ H s):interactive X.env=false:=by simp[interactive,I.ok.kind]
def qf3(te:TE):TS:=λD σ H=>te σ H λ_ H1=>D.nx σ H1
theorem q3u(he:PE X e te)(hs:swapsWith e none pos.line X.env=pure false:=by rfl):PS X (.Expr e pos) (qf3 te):=by intro z5 s σ H D I h;exact wpAny_Expr_any (thn (he z5 s σ H _ I h) λv s1 ⟨x,H1,I1,r1,q1⟩=>⟨σ,H1,I1,q1⟩) I.quiet hs
def tRet(te:TE):TS:=λD σ H=>te σ H D.rt
theorem q0y(he:PE X e te):PS X (.Return (some e) pos) (tRet te):=by intro z5 s σ H D I h;exact wpAny_Return_some (thn (he z5 s σ H _ I h) λv s1 ⟨x,H1,I1,r1,q1⟩=>⟨x,σ,H1,I1,r1,q1⟩)
def tIfS(c:TT)(t u:TS):TS:=λD σ H=>c σ H λb H1=>if b=true then t D σ H1 else u D σ H1
theorem q3y{c:Expr}{a b:List Stmt}{tc:TT}(hc:PT X c tc)(ha:PSs X a t)(hb:PSs X b u):PS X (.If c a b pos) (tIfS tc t u):=by
 intro z5 s σ H D I h;refine wpAny_If (thn (hc z5 s σ H _ I h) λd s1 ⟨H1,I1,q1⟩=>?_);cases d with
 |true=>exact ha z5 s1 σ H1 D I1 q1
 |false=>exact hb z5 s1 σ H1 D I1 q1
def ql8:TS:=λ_ _ _=>False
theorem qc8:PS X st ql8:=λ_ _ _ _ _ _ h=>h.elim
end
abbrev TG:=V->St->Hp->(St->Hp->Prop)->Prop
abbrev TGs:=List V->St->Hp->(St->Hp->Prop)->Prop
def PG(X:Cx)(zk:Expr)(t:TG):Prop:=
 ∀(z5:List (Addr×Obj)) (s:Shared) (σ:St) (H:Hp) (v:V) (u:Value) (Q:St->Hp->Prop),Inv X z5 σ H s->RelV v u->t v σ H Q->
   wpAny (model X.prog X.w) X.A (assign zk X.env u) (λ_ s'=>∃σ' H',Inv X z5 σ' H' s'/\Q σ' H') X.xe s
def PGs(X:Cx)(ts:List Expr)(t:TGs):Prop:=
 ∀(z5:List (Addr×Obj)) (s:Shared) (σ:St) (H:Hp) (vs:List V) (us:List Value) (Q:St->Hp->Prop),Inv X z5 σ H s->Vals vs us->t vs σ H Q->
   wpAny (model X.prog X.w) X.A (assignInOrder ((assignEach ts X.env).map (·.2)) us) (λ_ s'=>∃σ' H',Inv X z5 σ' H' s'/\Q σ' H') X.xe s
abbrev TSet:=V->V->V->Hp->(Hp->Prop)->Prop
def PSet(X:Cx)(t:TSet):Prop:=
 ∀(z5:List (Addr×Obj)) (s:Shared) (σ:St) (H:Hp) (o i v:V) (ov iv u:Value) (Q:Hp->Prop),Inv X z5 σ H s->RelV o ov->RelV i iv->RelV v u->t o i v H Q->
   wpAny (model X.prog X.w) X.A (setItem ov iv u) (λ_ s'=>∃H',Inv X z5 σ H' s'/\Q H') X.xe s
section
variable{X:Cx}{pos:Pos}
def q6m(i:Nat):TG:=λv σ H Q=>Q (σ.set i (some v)) H
theorem q0s{i:Nat}{x:Str}(hN:X.N.Nodup)(hi:X.N[i]? =some x)(hx:Loc X.env.scope x)(hf:X.fn x=true∨X.env.scope.names.lookup x=some .local:=by first|exact .inl rfl|exact .inr rfl|assumption):PG X (.Name x pos) (q6m i):=by intro z5 s σ H v u Q I r h;exact wpAny_assign_Name (q8m I hN hi hx r (λs' I'=>⟨_,H,I',h⟩) hf)
theorem zgA(i:Nat){x:Str}(hN:X.N.Nodup)(hi:X.N[i]? =some x:=by rfl)(hx:Loc X.env.scope x:=by first|exact .inl rfl|exact .inr rfl)(hf:X.fn x=true∨X.env.scope.names.lookup x=some .local:=by first|exact .inl rfl|exact .inr rfl|assumption):PG X (.Name x pos) (q6m i):=q0s hN hi hx hf
def gNil:TGs:=λvs σ H Q=>vs=[]/\Q σ H
def qju(t:TG)(u:TGs):TGs:=λvs σ H Q=>∃v r,vs=v::r/\t v σ H λσ' H'=>u r σ' H' Q
theorem q4a:PGs X [] gNil:=by intro z5 s σ H vs us Q I r h;obtain⟨e,h⟩:=h;subst e;cases r;exact assignInOrder_nil ⟨σ,H,I,h⟩
theorem q1v{e:Expr}{es:List Expr}{t:TG}{u:TGs}(h1:PG X e t)(h2:PGs X es u)
 (hs:(assignEach (e::es) X.env).map (·.2)=assign e X.env::(assignEach es X.env).map (·.2):=by rfl):PGs X (e::es) (qju t u):=by
 intro z5 s σ H vs us Q I r h;obtain⟨v,vr,e1,h⟩:=h;subst e1;cases r with
 | cons r rr=>
  rw[hs];refine assignInOrder_cons (thn (h1 z5 s σ H _ _ _ I r h) λ_ s1 ⟨σ1,H1,I1,q1⟩=>?_);exact h2 z5 s1 σ1 H1 _ _ Q I1 rr q1
def gTup(K:FrG)(n:Nat)(t:TGs):TG:=λv σ H Q=>∃a xs,v=.ref a/\SqT K H a xs/\xs.length=n/\t xs σ H Q
theorem qqm{es:List Expr}{k:Nat}{t:TGs}{n:Nat}(hc:X.calm=true)(h:PGs X es t)
 (hn:(assignEach es X.env).length=n:=by rfl) (hst:(assignEach es X.env).findIdx? (·.1)=none:=by rfl):PG X (.Tuple es k pos) (gTup X.K n t):=by
 intro z5 s σ H v u Q I r hw;obtain⟨a,xs,e1,hq,hl,hw⟩:=hw;subst e1;cases r;obtain⟨its,rv,ht,hz⟩:=I.tuple hq;refine assign_Tuple_tuple (I.ok.hd hc) ht (by simp[hn,<-hl,rv.length]) hst λh' hx=>?_;have I1:Inv X z5 σ H {s with heap:=h'}:=I.kept (t':=s.toks) λb o e=>hx b o (jd (j6 e)) e;exact h z5 _ σ H xs _ Q I1 (by simpa using rv) hw
def gSub(to ti:TE)(t:TSet):TG:=λv σ H Q=>to σ H λo H1=>ti σ H1 λi H2=>t o i v H2 λH3=>Q σ H3
theorem qcb{o i:Expr}{to ti:TE}{t:TSet}(ho:PE X o to)(hi:PE X i ti)(hs:PSet X t)
 (ha:∀v,assign (.Subscript o i pos) X.env v=(do
   let ov <-holding [v] (eval o X.env)
   let iv <-holding [v,ov] (eval i X.env)
   standAt pos
   holding [v,ov,iv] (setItem ov iv v)
   release [v,ov,iv] []):=by intro _;rfl):PG X (.Subscript o i pos) (gSub to ti t):=by
 intro z5 s σ H v u Q I r h;rw[ha];refine j3 (xi (thn (ho z5 s σ H _ I h) λov s1 ⟨x,H1,I1,r1,q1⟩=>?_));refine j3 (xi (thn (hi z5 s1 σ H1 _ I1 q1) λiv s2 ⟨y,H2,I2,r2,q2⟩=>?_));refine j3 (wpAny_standAt (j3 (xi (thn (hs z5 s2 σ H2 x y v ov iv u _ I2 r1 r2 r q2) λ_ s3 ⟨H3,I3,q3⟩=>?_))));exact wpAny_release ⟨σ,H3,I3,q3⟩
def tAsg(te:TE)(g:TG):TS:=λD σ H=>te σ H λx H1=>g x σ H1 D.nx
theorem q9n{tg e:Expr}{te:TE}{g:TG}(he:PE X e te)(hg:PG X tg g)(hs:swapsWithSole [tg] e pos.line X.env=pure false:=by rfl)(hw:swappedStores [tg] e X.env=pure none:=by rfl)
 (h1:(assignEach [tg] X.env).map (·.2)=[assign tg X.env]:=by rfl):PS X (.Assign [tg] e pos) (tAsg te g):=by
 intro z5 s σ H D I h;refine wpAny_Assign_stores (thn (he z5 s σ H _ I h) λv s1 ⟨x,H1,I1,r1,q1⟩=>?_) hs hw;rw[h1];exact thn (hg z5 s1 σ H1 x v _ I1 r1 q1) λ_ s2 q=>q
theorem q0w{i:Nat}{x:Str}{e:Expr}{te:TE}{zy:Pos}(hN:X.N.Nodup)(hi:X.N[i]? =some x)(hx:Loc X.env.scope x)(he:PE X e te)(hs:swapsWith e (some (.Name x zy)) pos.line X.env=pure false:=by rfl)(hf:X.fn x=true∨X.env.scope.names.lookup x=some .local:=by first|exact .inl rfl|exact .inr rfl|assumption):
 PS X (.Assign [.Name x zy] e pos) (tAsg te (q6m i)):=by
 intro z5 s σ H D I h;refine wpAny_Assign_Name (thn (he z5 s σ H _ I h) λv s1 ⟨y,H1,I1,r1,q1⟩=>?_) hs;exact q8m I1 hN hi hx r1 (λs2 I2=>⟨_,H1,I2,q1⟩) hf
theorem zsA(i:Nat){x:Str}{e:Expr}{te:TE}{zy:Pos}(hN:X.N.Nodup)(he:PE X e te)(hi:X.N[i]? =some x:=by rfl)(hx:Loc X.env.scope x:=by first|exact .inl rfl|exact .inr rfl)(hs:swapsWith e (some (.Name x zy)) pos.line X.env=pure false:=by rfl)(hf:X.fn x=true∨X.env.scope.names.lookup x=some .local:=by first|exact .inl rfl|exact .inr rfl|assumption): PS X (.Assign [.Name x zy] e pos) (tAsg te (q6m i)):=q0w hN hi hx he hs hf
end
section
variable{X:Cx}{pos:Pos}
def ql7(c:TT)(tb:TS):TS:=λD σ H=>∃W:Nat->St->Hp->Prop,(∃m,W m σ H)/\∀m σ H,W m σ H->
 c σ H λb H1=>if b=true then∃N:St->Hp->Prop,(∀σ' H',N σ' H'->∃m',m'<m/\W m' σ' H')/\tb {D with nx:=N,ct:=N,bk:=D.nx} σ H1 else D.nx σ H1
theorem qc7{c:Expr}{body:List Stmt}{tc:TT}{tb:TS}(hp:PassesOwn (model X.prog X.w) X.A X.env X.xe)(hc:PT X c tc)(hb:PSs X body tb):PS X (.While c body [] pos) (ql7 tc tb):=by
 intro z5 s σ H D I h;obtain⟨W,⟨m0,w0⟩,turn⟩:=h;refine wpAny_While (codeAny_whileLoop (λn s'=>∃σ' H',Inv X z5 σ' H' s'/\W n σ' H') ?_ m0 ⟨σ,H,I,w0⟩);rintro n s1 ⟨σ1,H1,I1,w1⟩;refine ka hp (thn (hc z5 s1 σ1 H1 _ I1 (turn n σ1 H1 w1)) λb s2 ⟨H2,I2,q2⟩=>?_);cases b with
 | true=>
  obtain⟨N,hN,q2⟩:=q2;rw[if_pos rfl];refine ka hp (thn (hb z5 s2 σ1 H2 _ I2 q2) λf s3 q3=>?_);cases f with
  | next=>
   obtain⟨σ3,H3,I3,n3⟩:=q3;obtain⟨m',hm,w3⟩:=hN σ3 H3 n3;exact⟨m',hm,σ3,H3,I3,w3⟩
  | cont=>
   obtain⟨σ3,H3,I3,n3⟩:=q3;obtain⟨m',hm,w3⟩:=hN σ3 H3 n3;exact⟨m',hm,σ3,H3,I3,w3⟩
  |brk=>exact q3
  |ret v=>exact q3
 | false=>
  rw[if_neg Bool.false_ne_true];exact wpAny_execs_nil ⟨σ1,H2,I2,q2⟩
end
structure It where
 go:Nat->Hp->Prop
 yld:Nat->Hp->V->Hp->Prop
 stop:Nat->Hp->Prop
def FpOk(X:Cx)(z5:List (Addr×Obj))(H:Hp)(b:Addr):Prop:=
 H b=none/\b≠X.env.locals/\b∉X.fs/\(b∈X.ex∨X.s₀.heap.objs.size<=b)/\(∀x c,X.env.cells.lookup x=some c->c≠b)/\∀p∈X.pn++z5,p.1≠b
theorem Inv.fpOk{X:Cx}{z5:List (Addr×Obj)}{σ:St}{H H':Hp}{s:Shared}{b:Addr}(I:Inv X z5 σ H s)(hb:s.heap.objs.size<=b)(hn:H' b=none):FpOk X z5 H' b:=by
 refine⟨hn,Nat.ne_of_gt (jn I.lt hb),I.nofs hb,.inr (ju I.sz hb),λx c e z=>?_,λp hp z=>?_⟩
 ·obtain⟨v,q⟩:=I.cell x c e;exact absurd (jn q.lt (by rw[z];exact hb)) (jz _)
 ·exact absurd (jn (j6 (I.pin p hp).1) (by rw[z];exact hb)) (jz _)
structure Turn(P:Program)(w:World)(K:FrG)(tg:Expr)(J:It)(fp:List Addr)(it:Addr)(tn:Nat->Heap->Prop):Prop where
 mem:it∈fp
 obj:∀i h,tn i h->∀b∈fp,∃o,h.get? b=some o/\∀v,o.data≠.cell v
 keep:∀i h h',tn i h->(∀b∈fp,∀o,h.get? b=some o->h'.get? b=some o)->tn i h'
 item:∀(X:Cx),X.prog=P->X.w=w->X.K=K->X.calm=true->∀(i:Nat) (z5:List (Addr×Obj)) (s:Shared) (σ:St) (H:Hp) (E:Value->Shared->Prop),Inv X z5 σ H s->(∀b∈fp,FpOk X z5 H b)->tn i s.heap->J.go i H->
  wpAny (model P w) X.A (pyNext (.ref it)) (λr s1=>∃u,r=some u/\
   wpAny (model P w) X.A (letOwnedTupleGo tg (.ref it) u) (λ_ s2=>∃x H',Inv X z5 σ H' s2/\RelV x u/\J.yld i H x H'/\tn (i+1) s2.heap/\∀b∈fp,H' b=none) E s1) E s
 done:∀(X:Cx),X.prog=P->X.w=w->X.K=K->X.calm=true->∀(i:Nat) (z5:List (Addr×Obj)) (s:Shared) (σ:St) (H:Hp) (E:Value->Shared->Prop),Inv X z5 σ H s->(∀b∈fp,FpOk X z5 H b)->tn i s.heap->J.stop i H->
  wpAny (model P w) X.A (pyNext (.ref it)) (λr s1=>r=none/\Inv X z5 σ H s1) E s
 self:∀(A:Around) (i:Nat) (s:Shared) (Q:Value->Shared->Prop) (E:Value->Shared->Prop),tn i s.heap->Q (.ref it) s->wpAny (model P w) A (pyIter (.ref it)) Q E s
abbrev TI:=St->Hp->(It->Hp->Prop)->Prop
def PIE(X:Cx)(z5:List (Addr×Obj))(σ:St)(tg:Expr)(R:It->Hp->Prop)(itv:Value)(s2:Shared):Prop:=
 ∃(it:Addr) (fp:List Addr) (tn:Nat->Heap->Prop) (J:It) (H':Hp),itv=.ref it/\Inv X z5 σ H' s2/\Turn X.prog X.w X.K tg J fp it tn/\tn 0 s2.heap/\(∀b∈fp,FpOk X z5 H' b)/\R J H'
def PI(X:Cx)(tg zg:Expr)(wi:TI):Prop:=
 ∀(z5:List (Addr×Obj)) (s:Shared) (σ:St) (H:Hp) (R:It->Hp->Prop),Inv X z5 σ H s->wi σ H R->
   wpAny (model X.prog X.w) X.A (eval zg X.env) (λv s1=>wpAny (model X.prog X.w) X.A (pyIter v) (PIE X z5 σ tg R) X.xe s1) X.xe s
theorem qhe{M:Model}{A:Around}{E:Value->Shared->Prop}{s:Shared}{tg:Expr}{it:Addr}{u:Value}{o:Obj}{n:String}{vs:Array Value}{Q:Unit->Shared->Prop}(ho:s.heap.get? it=some o)(hc:o.cls=.type n)(hd:o.data=.fields vs)
 (hn:["enumerate","zip","dict_itemiterator","dict_reverseitemiterator","odict_iterator","itertools.zip_longest","itertools.pairwise"].contains n=false) (hQ:Q () s):wpAny M A (letOwnedTupleGo tg (.ref it) u) Q E s:=by
 unfold letOwnedTupleGo;cases tg<;>first
  |exact j5 hQ
  |(cases u<;>first
     |exact j5 hQ
     | (refine j3 (wpAny_load ho ?_)
        rw[hc,hd];show wpAny M A (if(["enumerate","zip","dict_itemiterator","dict_reverseitemiterator","odict_iterator","itertools.zip_longest","itertools.pairwise"].contains n&&vs[0]? ==some (rawInt _))=true then _ else _) Q E s;rw[if_neg (by intro h;rw[hn,Bool.false_and]at h;cases h)];exact j5 hQ))
def Itl(K:FrG)(a:Addr):It:=
 ⟨λi H=>∃xs x,SqL K H a xs/\xs[i]? =some x,λi H x H'=>H'=H/\∀xs,SqL K H a xs->xs[i]? =some x,λi H=>∃xs,SqL K H a xs/\xs.length<=i⟩
def Itt(K:FrG)(a:Addr):It:=
 ⟨λi H=>∃xs x,SqT K H a xs/\xs[i]? =some x,λi H x H'=>H'=H/\∀xs,SqT K H a xs->xs[i]? =some x,λi H=>∃xs,SqT K H a xs/\xs.length<=i⟩
def Itr(lo:Int)(n:Nat):It:=⟨λi _=>i<n,λi H x H'=>H'=H/\x=.int (lo+i),λi _=>n<=i⟩
theorem qf0{P:Program}{w:World}{K:FrG}{tg:Expr}(a it:Addr):Turn P w K tg (Itl K a) [it] it (λi h=>h.IsListIter it a i) where
 mem:=by simp
 obj:=λi h st b hb=>by
  have e:b=it:=by simpa using hb
  subst e;obtain⟨o,e,c,d⟩:=st;exact⟨o,e,λv z=>by rw[d]at z;cases z⟩
 keep:=λi h h' st k=>st.at λo e=>k it (by simp) o e
 item:=by intro X hP hw hK hc i z5 s σ H E I hf st hg;subst hP hw hK;obtain⟨xs,x,hq,hx⟩:=hg;obtain⟨its,rv,p,hz⟩:=I.list hq;obtain⟨u,hu,ru⟩:=rv.get hx;obtain⟨f0,f1,f2,f3,f4,f5⟩:=hf it (by simp);refine wpAny_pyNext_list_item st p.isList (x:=u) (by simpa using hu) λh' st' sb=>?_;have I1:Inv X z5 σ H {s with heap:=h'}:=I.turned (t':=s.toks) (λb o hb e=>(sb.2 b hb).trans e) f0 f1 f3 f4 f5;obtain⟨o,e,c,d⟩:=id st';exact⟨u,rfl,qhe (s:={s with heap:=h'}) e c d (by decide) ⟨x,H,I1,ru,⟨rfl,λys hy=>by rw[I.list_inj hy hq];exact hx⟩,st',λb hb=>(hf b hb).1⟩⟩
 done:=by intro X hP hw hK hc i z5 s σ H E I hf st hg;subst hP hw hK;obtain⟨xs,hq,hx⟩:=hg;obtain⟨its,rv,p,hz⟩:=I.list hq;obtain⟨f0,f1,f2,f3,f4,f5⟩:=hf it (by simp);have hl:=rv.length;exact wpAny_pyNext_list_end (I.ok.hd hc) st p.isList (by simp;omega) λh' eb=>⟨rfl,I.turned (t':=s.toks) (λb o hb e=>eb b o hb e) f0 f1 f3 f4 f5⟩
 self:=λ_ _ _ _ _ st h=>wpAny_pyIter_listiter st h
theorem qdg{P:Program}{w:World}{K:FrG}{tg:Expr}(a it:Addr):Turn P w K tg (Itt K a) [it] it (λi h=>h.IsTupleIter it a i) where
 mem:=by simp
 obj:=λi h st b hb=>by
  have e:b=it:=by simpa using hb
  subst e;obtain⟨o,e,c,d⟩:=st;exact⟨o,e,λv z=>by rw[d]at z;cases z⟩
 keep:=λi h h' st k=>st.at λo e=>k it (by simp) o e
 item:=by intro X hP hw hK hc i z5 s σ H E I hf st hg;subst hP hw hK;obtain⟨xs,x,hq,hx⟩:=hg;obtain⟨its,rv,p,hz⟩:=I.tuple hq;obtain⟨u,hu,ru⟩:=rv.get hx;obtain⟨f0,f1,f2,f3,f4,f5⟩:=hf it (by simp);refine wpAny_pyNext_tuple_item st (show s.heap.IsTuple a its.toArray from p) (x:=u) (by simpa using hu) λh' st' sb=>?_;have I1:Inv X z5 σ H {s with heap:=h'}:=I.turned (t':=s.toks) (λb o hb e=>(sb.2 b hb).trans e) f0 f1 f3 f4 f5;obtain⟨o,e,c,d⟩:=id st';exact⟨u,rfl,qhe (s:={s with heap:=h'}) e c d (by decide) ⟨x,H,I1,ru,⟨rfl,λys hy=>by rw[I.tuple_inj hy hq];exact hx⟩,st',λb hb=>(hf b hb).1⟩⟩
 done:=by intro X hP hw hK hc i z5 s σ H E I hf st hg;subst hP hw hK;obtain⟨xs,hq,hx⟩:=hg;obtain⟨its,rv,p,hz⟩:=I.tuple hq;obtain⟨f0,f1,f2,f3,f4,f5⟩:=hf it (by simp);have hl:=rv.length;exact wpAny_pyNext_tuple_end (I.ok.hd hc) st (show s.heap.IsTuple a its.toArray from p) (by simp;omega) λh' eb=>⟨rfl,I.turned (t':=s.toks) (λb o hb e=>eb b o hb e) f0 f1 f3 f4 f5⟩
 self:=λ_ _ _ _ _ st h=>wpAny_pyIter_tupleiter st h
theorem qdh{P:Program}{w:World}{K:FrG}{tg:Expr}(it:Addr)(lo:Int)(n:Nat):Turn P w K tg (Itr lo n) [it] it (λi h=>IsRangeIter h it (lo+(i:Nat)*1) ((n:Int)-(i:Nat)) 1) where
 mem:=by simp
 obj:=λi h st b hb=>by
  have e:b=it:=by simpa using hb
  subst e;exact⟨_,st,λv z=>by have z':Data.fields _=Data.cell v:=z;cases z'⟩
 keep:=λi h h' st k=>k it (by simp) _ st
 item:=by intro X hP hw hK hc i z5 s σ H E I hf st hg;subst hP hw hK;obtain⟨f0,f1,f2,f3,f4,f5⟩:=hf it (by simp);have W:=Walks.range (prog:=X.prog) (w:=X.w) (I.ok.hd hc) it lo 1 n;refine W.item i s _ _ hg st λv h' tk hv st' kk=>?_;obtain⟨t,rfl⟩:=hv;have I1:Inv X z5 σ H {s with heap:=h',toks:=tk}:=I.turned (λb o hb e=>kk b o (by simpa using hb) e) f0 f1 f3 f4 f5;refine⟨_,rfl,qhe (s:={s with heap:=h',toks:=tk}) (n:="range_iterator") st' rfl rfl (by decide) ⟨.int (lo+i),H,I1,⟨t,?_⟩,⟨rfl,rfl⟩,st',λb hb=>(hf b hb).1⟩⟩;rw[Int.mul_one]
 done:=by intro X hP hw hK hc i z5 s σ H E I hf st hg;subst hP hw hK;obtain⟨f0,f1,f2,f3,f4,f5⟩:=hf it (by simp);exact wpAny_pyNext_range_end (I.ok.hd hc) st (by have:n<=i:=hg;omega) λh' eb=>⟨rfl,I.turned (t':=s.toks) (λb o hb e=>eb b o hb e) f0 f1 f3 f4 f5⟩
 self:=λ_ _ _ _ _ st h=>wpAny_pyIter_rangeiter st h
section
variable{X:Cx}{tg:Expr}
def qnm(K:FrG)(tl:TE):TI:=λσ H R=>tl σ H λx H1=>∃a,x=.ref a/\(∃xs,SqL K H1 a xs)/\R (Itl K a) H1
def iTup(K:FrG)(tl:TE):TI:=λσ H R=>tl σ H λx H1=>∃a,x=.ref a/\(∃xs,SqT K H1 a xs)/\R (Itt K a) H1
theorem qmk{l:Expr}{tl:TE}(hl:PE X l tl):PI X tg l (qnm X.K tl):=by
 intro z5 s σ H R I h;refine thn (hl z5 s σ H _ I h) λv s1 ⟨x,H1,I1,r1,q1⟩=>?_;obtain⟨a,e,⟨xs,hq⟩,q⟩:=q1;subst e;cases r1;obtain⟨its,rv,p,hz⟩:=I1.list hq;refine wpAny_pyIter_list p.isList ?_;refine⟨s1.heap.objs.size,[s1.heap.objs.size],_,_,H1,rfl,I1.kept (t':=s1.toks) λb o e=>j7 _ e,qf0 a _,⟨_,jf _ rfl,rfl,rfl⟩,λb hb=>?_,q⟩;have e:b=s1.heap.objs.size:=by simpa using hb
 subst e;exact I1.fpOk (j8 _) (I1.hok.fresh (j8 _))
theorem qqk{l:Expr}{tl:TE}(hl:PE X l tl):PI X tg l (iTup X.K tl):=by
 intro z5 s σ H R I h;refine thn (hl z5 s σ H _ I h) λv s1 ⟨x,H1,I1,r1,q1⟩=>?_;obtain⟨a,e,⟨xs,hq⟩,q⟩:=q1;subst e;cases r1;obtain⟨its,rv,p,hz⟩:=I1.tuple hq;refine wpAny_pyIter_tuple (show s1.heap.IsTuple a its.toArray from p) ?_;refine⟨s1.heap.objs.size,[s1.heap.objs.size],_,_,H1,rfl,I1.kept (t':=s1.toks) λb o e=>j7 _ e,qdg a _,⟨_,jf _ rfl,rfl,rfl⟩,λb hb=>?_,q⟩;have e:b=s1.heap.objs.size:=by simpa using hb
 subst e;exact I1.fpOk (j8 _) (I1.hok.fresh (j8 _))
theorem qc3{z5:List (Addr×Obj)}{σ:St}{H:Hp}{s:Shared}{R:It->Hp->Prop}{E:Value->Shared->Prop}{lo hi:Int}{t u v:Tok}{tk:Nat}(I:Inv X z5 σ H s)(h1: -(2^62)<=lo)(h2:lo<2^62)(h3: -(2^62)<=hi)(h4:hi<2^62)
 (q:R (Itr lo (hi-lo).toNat) H):wpAny (model X.prog X.w) X.A (pyIter (.ref s.heap.objs.size)) (PIE X z5 σ tg R) E {s with heap:=s.heap.push {cls:=.type "range",data:=.fields #[.int lo t,.int hi u,.int 1 v]},toks:=tk}:=by
 refine wpAny_pyIter_range (IsRange.new ..) (small_one h1 h2 h3 h4) ?_;have I1:Inv X z5 σ H {s with heap:=s.heap.push {cls:=.type "range",data:=.fields #[.int lo t,.int hi u,.int 1 v]},toks:=tk}:=I.kept λb o e=>j7 _ e;refine⟨(s.heap.push {cls:=.type "range",data:=.fields #[.int lo t,.int hi u,.int 1 v]}).objs.size,[(s.heap.push {cls:=.type "range",data:=.fields #[.int lo t,.int hi u,.int 1 v]}).objs.size],_,_,H,rfl,
  I1.kept (t':=tk) λb o e=>j7 _ e,qdh _ lo (hi-lo).toNat,?_,λb hb=>?_,q⟩
 ·have e1:lo+((0:Nat):Int)*1=lo:=by simp
  have e2:(((hi-lo).toNat:Nat):Int)-((0:Nat):Int)=Builtin.Range.rangeSize lo hi 1:=by rw[rangeSize_one];split<;>omega
  show IsRangeIter _ _ (lo+((0:Nat):Int)*1) ((((hi-lo).toNat:Nat):Int)-((0:Nat):Int)) 1;rw[e1,e2];exact jf _ rfl
 ·have e:b=(s.heap.push {cls:=.type "range",data:=.fields #[.int lo t,.int hi u,.int 1 v]}).objs.size:=by simpa using hb
  subst e;exact I1.fpOk (j8 _) (I1.hok.fresh (j8 _))
def qtb(ta:TA):TI:=λσ H R=>ta σ H λvs H1=>∃j:Int,vs=[.int j]/\ -(2^62)<=j/\j<2^62/\R (Itr 0 j.toNat) H1
def qta(ta:TA):TI:=λσ H R=>ta σ H λvs H1=>∃i j:Int,vs=[.int i,.int j]/\(-(2^62)<=i/\i<2^62/\ -(2^62)<=j/\j<2^62)/\R (Itr i (j-i).toNat) H1
theorem q20{a:Expr}{ta:TA}{p pos:Pos}(hg:Gl X "range")(hm:X.mg "range"=none)(ha:PA X [a] ta)(hs:starEach [a] X.env=[(false,eval a X.env)]:=by rfl):PI X tg (.Call (.Name "range" p) [a] [] pos) (qtb ta):=by
 intro z5 s σ H R I h;refine Call_ (q41 I hg hm boot_range (PyProof.Rows.callWith_type1 (thn (ha pos z5 s σ H _ I h) λus s1 ⟨vs,H1,I1,r1,q1⟩=>?_) hs rfl));obtain⟨j,e,q1,q2,q⟩:=q1;subst e;cases r1 with
 | cons r rr=>
  cases rr;obtain⟨t,rfl⟩:=r;exact call_range_1 (qc3 I1 (by omega) (by omega) q1 q2 (by simpa using q))
theorem qg7{a b:Expr}{ta:TA}{p pos:Pos}(hg:Gl X "range")(hm:X.mg "range"=none)(ha:PA X [a,b] ta)(hs:starEach [a,b] X.env=[(false,eval a X.env),(false,eval b X.env)]:=by rfl)(hs2:starEach [b] X.env=[(false,eval b X.env)]:=by rfl):
 PI X tg (.Call (.Name "range" p) [a,b] [] pos) (qta ta):=by
 intro z5 s σ H R I h;refine Call_ (q41 I hg hm boot_range (PyProof.Rows.callWith_type1 (thn (ha pos z5 s σ H _ I h) λus s1 ⟨vs,H1,I1,r1,q1⟩=>?_) (by rw[hs,hs2]) (by rw[hs2];rfl)));obtain⟨i,j,e,⟨q1,q2,q3,q4⟩,q⟩:=q1;subst e;cases r1 with
 | cons r rr=>
  cases rr with
  | cons r' rr=>
   cases rr;obtain⟨t,rfl⟩:=r;obtain⟨t',rfl⟩:=r';exact call_range_2 (qc3 I1 q1 q2 q3 q4 q)
def tFor(wi:TI)(g:TG)(tb:TS):TS:=λD σ H=>wi σ H λJ H1=>∃W:Nat->Nat->St->Hp->Prop,(∃m,W 0 m σ H1)/\∀i m σ H,W i m σ H->
 (J.stop i H/\D.nx σ H)∨(J.go i H/\∃N:St->Hp->Prop,(∀σ' H',N σ' H'->∃m',m'<m/\W (i+1) m' σ' H')/\∀x H',J.yld i H x H'->g x σ H' λσ2 H2=>tb {D with nx:=N,ct:=N,bk:=D.nx} σ2 H2)
def q9o(fp:List Addr)(h:Heap):List (Addr×Obj):=fp.filterMap λb=>(h.get? b).map λo=>(b,o)
theorem q4t{fp:List Addr}{h:Heap}{b:Addr}{o:Obj}(hb:b∈fp)(e:h.get? b=some o):(b,o)∈q9o fp h:=List.mem_filterMap.mpr ⟨b,hb,by rw[e];rfl⟩
theorem qgk{fp:List Addr}{h:Heap}{p:Addr×Obj}(hp:p∈q9o fp h):p.1∈fp/\h.get? p.1=some p.2:=by
 obtain⟨b,hb,e⟩:=List.mem_filterMap.mp hp;cases q:h.get? b with
 |none=>rw[q]at e;cases e
 | some o=>
  rw[q]at e;have e':(b,o)=p:=ja e;subst e';exact⟨hb,q⟩
theorem Inv.pinned{z5:List (Addr×Obj)}{σ:St}{H:Hp}{s:Shared}{fp:List Addr}(I:Inv X z5 σ H s)(hf:∀b∈fp,FpOk X z5 H b)(ho:∀b∈fp,∃o,s.heap.get? b=some o/\∀v,o.data≠.cell v):Inv X (z5++q9o fp s.heap) σ H s:=
 I.pins_of λp hp=>(List.mem_append.mp hp).elim (λz=>I.pin p (x5 _ z)) λz=>by obtain⟨hb,e⟩:=qgk z;obtain⟨f0,f1,f2,_⟩:=hf p.1 hb;obtain⟨o,e',d⟩:=ho p.1 hb;rw[e]at e';cases e';exact⟨e,f0,f1,f2,d⟩
theorem Inv.unpinned{z5 pl:List (Addr×Obj)}{σ:St}{H:Hp}{s:Shared}(I:Inv X (z5++pl) σ H s):Inv X z5 σ H s:=I.pins_of λp hp=>I.pin p (x5 _ (List.mem_append_left _ hp))
theorem q31{zg:Expr}{body:List Stmt}{wi:TI}{g:TG}{tb:TS}{pos:Pos}(hp:PassesOwn (model X.prog X.w) X.A X.env X.xe)(hc:X.calm=true)(hi:PI X tg zg wi)(hg:PG X tg g)(hb:PSs X body tb)
 (hs:∀x,foldedSetIterable zg X.env x=pure x:=by intro _;rfl):PS X (.For tg zg body [] pos) (tFor wi g tb):=by
 intro z5 s σ H D I h;refine wpAny_For (thn (hi z5 s σ H _ I h) λv s1 h1=>thn h1 λitv s2 h2=>?_) hs;obtain⟨it,fp,tn,J,H2,e,I2,T,st2,f2,W,⟨m0,w0⟩,turn⟩:=h2;subst e
 -- what stays true of the iterator's objects through the loop
 have stat:∀{H':Hp},(∀b∈fp,H' b=none)->∀b∈fp,FpOk X z5 H' b:=λhn b hb=>⟨hn b hb,(f2 b hb).2⟩;refine codeAny_forLoop_any (λn s'=>∃i σ' H',Inv X z5 σ' H' s'/\tn i s'.heap/\(∀b∈fp,H' b=none)/\W i n σ' H') ?_ m0 ⟨0,σ,H2,I2,st2,λb hb=>(f2 b hb).1,w0⟩;rintro n s3 ⟨i,σ3,H3,I3,st3,fr3,w3⟩;rcases turn i n σ3 H3 w3 with⟨stop,qn⟩|⟨go,N,hN,step⟩
 ·refine ka hp (thn (T.done X rfl rfl rfl hc i z5 s3 σ3 H3 X.xe I3 (stat fr3) st3 stop) λr s4 ⟨hr,I4⟩=>?_);subst hr;exact wpAny_execs_nil ⟨σ3,H3,I4,qn⟩
 ·refine ka hp (thn (T.item X rfl rfl rfl hc i z5 s3 σ3 H3 X.xe I3 (stat fr3) st3 go) λr s4 ⟨u,hr,h4⟩=>?_);subst hr;refine ka hp (thn h4 λ_ s5 ⟨x,H5,I5,r5,y5,st5,fr5⟩=>?_);have I5':=I5.pinned (stat fr5) (T.obj _ _ st5);refine ka hp (thn (hg _ s5 σ3 H5 x u _ I5' r5 (step x H5 y5)) λ_ s6 ⟨σ6,H6,I6,q6⟩=>?_);refine ka hp (thn (hb _ s6 σ6 H6 _ I6 q6) λf s7 q7=>?_);have again:∀{σ7:St} {H7:Hp},Inv X (z5++q9o fp s5.heap) σ7 H7 s7->N σ7 H7->∃m,m<n/\∃i σ' H',Inv X z5 σ' H' s7/\tn i s7.heap/\(∀b∈fp,H' b=none)/\W i m σ' H':=λ{σ7 H7} I7 n7=>by
   obtain⟨m',hm,w7⟩:=hN σ7 H7 n7;refine⟨m',hm,i+1,σ7,H7,I7.unpinned,T.keep _ _ _ st5 λb hb o e=>(I7.pin (b,o) (x5 _ (x5 _ (q4t hb e)))).1,λb hb=>?_,w7⟩;obtain⟨o,e,d⟩:=T.obj _ _ st5 b hb;exact(I7.pin (b,o) (x5 _ (x5 _ (q4t hb e)))).2.1
  cases f with
  |next=>obtain⟨σ7,H7,I7,n7⟩:=q7;exact again I7 n7
  |cont=>obtain⟨σ7,H7,I7,n7⟩:=q7;exact again I7 n7
  |brk=>obtain⟨σ7,H7,I7,q7⟩:=q7;exact⟨σ7,H7,I7.unpinned,q7⟩
  |ret v=>obtain⟨x7,σ7,H7,I7,r7,q7⟩:=q7;exact⟨x7,σ7,H7,I7.unpinned,r7,q7⟩
end
abbrev R2:=V->V->Hp->VK->Prop
def OpR(X:Cx)(f:Value->Value->Sem Value)(r:R2):Prop:=
 ∀(z5:List (Addr×Obj)) (s:Shared) (σ:St) (H:Hp) (x y:V) (v u:Value) (Q:VK),Inv X z5 σ H s->RelV x v->RelV y u->r x y H Q->
   wpAny (model X.prog X.w) X.A (f v u) (EP X z5 σ Q) X.xe s
def UnR(X:Cx)(f:Value->Sem Value)(r:V->Hp->VK->Prop):Prop:=
 ∀(z5:List (Addr×Obj)) (s:Shared) (σ:St) (H:Hp) (x:V) (v:Value) (Q:VK),Inv X z5 σ H s->RelV x v->r x H Q->
   wpAny (model X.prog X.w) X.A (f v) (EP X z5 σ Q) X.xe s
def q4i(X:Cx)(f:Value)(r:List V->Hp->VK->Prop):Prop:=
 ∀(z5:List (Addr×Obj)) (s:Shared) (σ:St) (H:Hp) (xs:List V) (us:List Value) (Q:VK),Inv X z5 σ H s->Vals xs us->r xs H Q->
   wpAny (model X.prog X.w) X.A (call f us) (EP X z5 σ Q) X.xe s
def tOp(r:R2)(ta tb:TE):TE:=λσ H Q=>ta σ H λx H1=>tb σ H1 λy H2=>r x y H2 Q
def tUn(r:V->Hp->VK->Prop)(ta:TE):TE:=λσ H Q=>ta σ H λx H1=>r x H1 Q
def rI(C:Int->Int->Prop)(g:Int->Int->V):R2:=λx y H Q=>∃i j,x=.int i/\y=.int j/\C i j/\Q (g i j) H
def rI0(g:Int->Int->V):R2:=λx y H Q=>∃i j,x=.int i/\y=.int j/\Q (g i j) H
def rU(g:Int->V):V->Hp->VK->Prop:=λx H Q=>∃i,x=.int i/\Q (g i) H
section
variable{X:Cx}{a b c:Expr}{ta tb tc:TE}{pos:Pos}
theorem binT(ha:PE X a ta)(hb:PE X b tb){z5:List (Addr×Obj)}{s:Shared}{σ:St}{H:Hp}{R:V->V->Hp->Prop}(I:Inv X z5 σ H s)
 (h:ta σ H λx H1=>tb σ H1 λy H2=>R x y H2) {Q:Value->Shared->Prop} {f:Value->Value->Sem Value}
 (hf:∀v u s2 x y H2,Inv X z5 σ H2 s2->RelV x v->RelV y u->R x y H2->wpAny (model X.prog X.w) X.A (f v u) Q X.xe s2):
 wpAny (model X.prog X.w) X.A (eval a X.env) (λv s₁=>wpAny (model X.prog X.w) X.A (eval b X.env) (λu s₂=>wpAny (model X.prog X.w) X.A (f v u) Q X.xe s₂) X.xe s₁) X.xe s:=by
 refine thn (ha z5 s σ H _ I h) λv s1 ⟨x,H1,I1,r1,q1⟩=>?_;refine thn (hb z5 s1 σ H1 _ I1 q1) λu s2 ⟨y,H2,I2,r2,q2⟩=>?_;exact hf v u s2 x y H2 I2 r1 r2 q2
theorem q13{op:Operator}{r:R2}(ho:OpR X (binaryOp op) r)(ha:PE X a ta)(hb:PE X b tb):PE X (.BinOp a op b pos) (tOp r ta tb):=by intro z5 s σ H Q I h;exact wpAny_BinOp (binT ha hb I h λv u s2 x y H2 I2 rx ry q=>ho z5 s2 σ H2 x y v u Q I2 rx ry q)
theorem quu{op:UnaryOp}{r:V->Hp->VK->Prop}(ho:UnR X (unaryOp op) r)(ha:PE X a ta):PE X (.UnaryOp op a pos) (tUn r ta):=by intro z5 s σ H Q I h;exact UnaryOp_ (thn (ha z5 s σ H _ I h) λv s1 ⟨x,H1,I1,r1,q1⟩=>ho z5 s1 σ H1 x v Q I1 r1 q1)
theorem opI{f:Value->Value->Sem Value}{C:Int->Int->Prop}{g:Int->Int->Int}
 (rule:∀(i j:Int) (t u:Tok) (s:Shared) (Q:Value->Shared->Prop) (E:Value->Shared->Prop),C i j->Q (.int (g i j) s.toks) {s with toks:=s.toks+1}->wpAny (model X.prog X.w) X.A (f (.int i t) (.int j u)) Q E s):
 OpR X f (rI C λi j=>.int (g i j)):=by
 intro z5 s σ H x y v u Q I rx ry h;obtain⟨i,j,rfl,rfl,hc,q⟩:=h;obtain⟨t,rfl⟩:=rx;obtain⟨t',rfl⟩:=ry;exact rule i j t t' s _ _ hc ⟨.int (g i j),H,I.tok _,⟨_,rfl⟩,q⟩
theorem opI0{f:Value->Value->Sem Value}{g:Int->Int->Int}
 (rule:∀(i j:Int) (t u:Tok) (s:Shared) (Q:Value->Shared->Prop) (E:Value->Shared->Prop),Q (.int (g i j) s.toks) {s with toks:=s.toks+1}->wpAny (model X.prog X.w) X.A (f (.int i t) (.int j u)) Q E s):
 OpR X f (rI0 λi j=>.int (g i j)):=by
 intro z5 s σ H x y v u Q I rx ry h;obtain⟨i,j,rfl,rfl,q⟩:=h;obtain⟨t,rfl⟩:=rx;obtain⟨t',rfl⟩:=ry;exact rule i j t t' s _ _ ⟨.int (g i j),H,I.tok _,⟨_,rfl⟩,q⟩
theorem opB0{f:Value->Value->Sem Value}{g:Int->Int->Bool}
 (rule:∀(i j:Int) (t u:Tok) (s:Shared) (Q:Value->Shared->Prop) (E:Value->Shared->Prop),Q (.bool (g i j)) s->wpAny (model X.prog X.w) X.A (f (.int i t) (.int j u)) Q E s):
 OpR X f (rI0 λi j=>.bl (g i j)):=by
 intro z5 s σ H x y v u Q I rx ry h;obtain⟨i,j,rfl,rfl,q⟩:=h;obtain⟨t,rfl⟩:=rx;obtain⟨t',rfl⟩:=ry;exact rule i j t t' s _ _ ⟨.bl (g i j),H,I,rfl,q⟩
def CDiv(i j:Int):Prop:=0<j/\j<1073741824
def CPow(i j:Int):Prop:=0<=j/\j<=1000000/\i.natAbs<2^64
def CMul(i j:Int):Prop:=(-(2^64)<i/\i<2^64)∨(-(2^64)<j/\j<2^64)
theorem CMul.ok{i j:Int}(h:CMul i j):IntMulOk i j:=by
 rcases h with⟨h1,h2⟩|⟨h1,h2⟩
 ·exact .of_left (intBits_le_64 h1 h2)
 ·exact .of_right (intBits_le_64 h1 h2)
theorem op_add:OpR X (binaryOp .Add) (rI0 λi j=>.int (i+j)):=opI0 λ_ _ _ _ _ _ _ q=>add_int q
theorem qcj:OpR X (binaryOp .Sub) (rI0 λi j=>.int (i-j)):=opI0 λ_ _ _ _ _ _ _ q=>sub_int q
theorem q55:OpR X (binaryOp .FloorDiv) (rI CDiv λi j=>.int (i / j)):=opI λi j _ _ _ _ _ hc q=>by have h1:(0:Int)<j:=hc.1;have h2:j<1073741824:=hc.2;exact floordiv_int (by omega) (by rw[Int.fdiv_eq_ediv_of_nonneg i (by omega)];exact q) (.inl (PyProof.noPylong_small (by omega)))
theorem q2k:OpR X (binaryOp .Mod) (rI (λ_ j=>0<j) λi j=>.int (i % j)):=opI λi j _ _ _ _ _ hc q=>by have h1:(0:Int)<j:=hc;exact mod_int' (by omega) (by rw[Int.fmod_eq_emod_of_nonneg i (by omega)];exact q)
theorem qcm:OpR X (binaryOp .Pow) (rI CPow λi j=>.int (i^j.toNat)):=opI λ_ _ _ _ _ _ _ hc q=>pow_int_small hc.1 hc.2.1 hc.2.2 q
theorem qck:OpR X (binaryOp .LShift) (rI CPow λi j=>.int (i*2^j.toNat)):=opI λ_ _ _ _ _ _ _ hc q=>lshift_int_small hc.1 hc.2.1 hc.2.2 q
theorem qgg:OpR X (binaryOp .BitAnd) (rI0 λi j=>.int (Builtin.bitAnd i j)):=opI0 λ_ _ _ _ _ _ _ q=>and_int q
theorem qqt:OpR X (binaryOp .BitXor) (rI0 λi j=>.int (Builtin.bitXor i j)):=opI0 λ_ _ _ _ _ _ _ q=>xor_int q
theorem unI{f:Value->Sem Value}{g:Int->Int}
 (rule:∀(i:Int) (t:Tok) (s:Shared) (Q:Value->Shared->Prop) (E:Value->Shared->Prop),Q (.int (g i) s.toks) {s with toks:=s.toks+1}->wpAny (model X.prog X.w) X.A (f (.int i t)) Q E s):
 UnR X f (rU λi=>.int (g i)):=by
 intro z5 s σ H x v Q I rx h;obtain⟨i,rfl,q⟩:=h;obtain⟨t,rfl⟩:=rx;exact rule i t s _ _ ⟨.int (g i),H,I.tok _,⟨_,rfl⟩,q⟩
theorem qp6:UnR X (unaryOp .USub) (rU λi=>.int (-i)):=unI λ_ _ _ _ _ q=>neg_int q
end
section
variable{X:Cx}{a b c:Expr}{ta tb tc:TE}{pos:Pos}
theorem qm1{z5:List (Addr×Obj)}{σ:St}{H:Hp}{s:Shared}{Q:VK}{k k':Bool}(I:Inv X z5 σ H s)(q:Q (.bl k) H)(e:k=k'):EP X z5 σ Q (.bool k') s:=by subst e;exact⟨.bl k,H,I,rfl,q⟩
theorem qj7:OpR X (compareOp .Lt) (rI0 λi j=>.bl (decide (i<j))):=opB0 λ_ _ _ _ _ _ _ q=>lt_int q
theorem qqu:OpR X (compareOp .LtE) (rI0 λi j=>.bl (decide (i<=j))):=opB0 λ_ _ _ _ _ _ _ q=>le_int q
theorem qj8:OpR X (compareOp .Gt) (rI0 λi j=>.bl (decide (j<i))):=opB0 λ_ _ _ _ _ _ _ q=>gt_int q
theorem qll:OpR X (compareOp .Is) (λx y H Q=>y=.non/\Q (.bl (decide (x=.non))) H):=by
 intro z5 s σ H x y v u Q I rx ry h;obtain⟨rfl,q⟩:=h;cases ry;refine is_none_gen (qm1 I q ?_);cases x<;>first
  |(cases rx;rfl)
  |(obtain⟨t,rfl⟩:=rx;rfl)
theorem qb7:OpR X (compareOp .IsNot) (λx y H Q=>y=.non/\Q (.bl (!decide (x=.non))) H):=by
 intro z5 s σ H x y v u Q I rx ry h;obtain⟨rfl,q⟩:=h;cases ry;refine isnot_none_gen (qm1 I q ?_);cases x<;>first
  |(cases rx;rfl)
  |(obtain⟨t,rfl⟩:=rx;rfl)
theorem OpR.or{f:Value->Value->Sem Value}{r r':R2}(h:OpR X f r)(h':OpR X f r'):OpR X f (λx y H Q=>r x y H Q∨r' x y H Q):=by
 intro z5 s σ H x y v u Q I rx ry q;rcases q with q|q
 ·exact h z5 s σ H x y v u Q I rx ry q
 ·exact h' z5 s σ H x y v u Q I rx ry q
theorem q1m(b:Expr){op:CmpOp}(h:op≠.In:=by decide)(h2:op≠.NotIn:=by decide):behindInMarks op b=false:=by
 have e1:(op==CmpOp.In)=false:=by cases op<;>first|rfl|exact absurd rfl h
 have e2:(op==CmpOp.NotIn)=false:=by cases op<;>first|rfl|exact absurd rfl h2
 cases b<;>simp[behindInMarks,e1,e2]
theorem qg9{op:CmpOp}{r:R2}(ho:OpR X (compareOp op) r)(ha:PE X a ta)(hb:PE X b tb)(hm:behindInMarks op b=false):PE X (.Compare a [op] [b] pos) (tOp r ta tb):=by intro z5 s σ H Q I h;exact wpAny_Compare1 (binT ha hb I h λv u s2 x y H2 I2 rx ry q=>ho z5 s2 σ H2 x y v u Q I2 rx ry q) hm
def qpa(t:TE):TT:=λσ H Q=>t σ H λx H'=>∃k,x=.bl k/\Q k H'
theorem q1b{op:CmpOp}{r:R2}(ho:OpR X (compareOp op) r)(ha:PE X a ta)(hb:PE X b tb)(hm:behindInMarks op b=false):PT X (.Compare a [op] [b] pos) (qpa (tOp r ta tb)):=by
 intro z5 s σ H Q I h;refine wpAny_isTrue_Compare1 (thn (ha z5 s σ H _ I h) λv s1 ⟨x,H1,I1,r1,q1⟩=>thn (hb z5 s1 σ H1 _ I1 q1) λu s2 ⟨y,H2,I2,r2,q2⟩=>
  thn (ho z5 s2 σ H2 x y v u _ I2 r1 r2 q2) λc s3 ⟨z,H3,I3,r3,k,e,q3⟩=>?_) hm
 subst e;cases r3;exact xx ⟨H3,I3,q3⟩
def qlb(r r':R2)(ta tb tc:TE):TE:=λσ H Q=>ta σ H λx H1=>tb σ H1 λy H2=>r x y H2 λz H3=>∃k,z=.bl k/\
 (if k=true then tc σ H3 λw' H4=>r' y w' H4 Q else Q (.bl false) H3)
theorem qiz{op op':CmpOp}{r r':R2}(ho:OpR X (compareOp op) r)(ho':OpR X (compareOp op') r')(ha:PE X a ta)(hb:PE X b tb)(hc:PE X c tc)
 (hm:lastMarks [op,op'] [b,c]=false:=by with_unfolding_all rfl):PE X (.Compare a [op,op'] [b,c] pos) (qlb r r' ta tb tc):=by
 intro z5 s σ H Q I h;refine Compare_chain (thn (ha z5 s σ H _ I h) λv s1 ⟨x,H1,I1,r1,q1⟩=>chain_link (thn (hb z5 s1 σ H1 _ I1 q1) λu s2 ⟨y,H2,I2,r2,q2⟩=>
  thn (ho z5 s2 σ H2 x y v u _ I2 r1 r2 q2) λd s3 ⟨z,H3,I3,r3,k,e,q3⟩=>?_)) hm
 subst e;cases r3;refine xx ?_;cases k with
 |false=>exact ite_ff ⟨.bl false,H3,I3,rfl,q3⟩
 |true=>exact ite_tt (chain_last (thn (hc z5 s3 σ H3 _ I3 q3) λw' s4 ⟨z',H4,I4,r4,q4⟩=>ho' z5 s4 σ H4 y z' u w' Q I4 r2 r4 q4))
theorem qa0:(sizeLine:Nat)<2^63:=by rw[sizeLine_eq];decide
theorem qe8:OpR X (binaryOp .Add) (λx y H Q=>∃i j,x=.str i/\y=.str j/\i.length+j.length<=sizeLine/\Q (.str (i++j)) H):=by intro z5 s σ H x y v u Q I rx ry h;obtain⟨i,j,rfl,rfl,hz,q⟩:=h;obtain⟨t,rfl⟩:=rx;obtain⟨t',rfl⟩:=ry;exact add_str (λt' tk=>⟨.str (i++j),H,I.tok _,⟨_,rfl⟩,q⟩) hz
theorem vals1{x:V}{us:List Value}(r:Vals [x] us):∃u,us=[u]/\RelV x u:=by
 cases r with
 |cons r1 r2=>cases r2;exact⟨_,rfl,r1⟩
theorem vals2{x y:V}{us:List Value}(r:Vals [x,y] us):∃u w',us=[u,w']/\RelV x u/\RelV y w':=by
 cases r with
 | cons r1 r2=>
  cases r2 with
  |cons r3 r4=>cases r4;exact⟨_,_,rfl,r1,r3⟩
theorem qi1(hc:X.calm=true):q4i X (.builtin "max") (λxs H Q=>∃i j,xs=[.int i,.int j]/\Q (.int (if j>i then j else i)) H):=by
 intro z5 s σ H xs us Q I r h;obtain⟨i,j,rfl,q⟩:=h;obtain⟨u,w',rfl,⟨t,rfl⟩,⟨t',rfl⟩⟩:=vals2 r;refine max_two_ints (I.ok.hd hc) λh' tk k=>⟨_,H,I.kept k,?_,q⟩;by_cases hj:j>i
 ·rw[if_pos hj,if_pos hj];exact⟨_,rfl⟩
 ·rw[if_neg hj,if_neg hj];exact⟨_,rfl⟩
theorem qi0(hc:X.calm=true):q4i X (.builtin "min") (λxs H Q=>∃i j,xs=[.int i,.int j]/\Q (.int (if j<i then j else i)) H):=by
 intro z5 s σ H xs us Q I r h;obtain⟨i,j,rfl,q⟩:=h;obtain⟨u,w',rfl,⟨t,rfl⟩,⟨t',rfl⟩⟩:=vals2 r;refine min_two_ints (I.ok.hd hc) λh' tk k=>⟨_,H,I.kept k,?_,q⟩;by_cases hj:j<i
 ·rw[if_pos hj,if_pos hj];exact⟨_,rfl⟩
 ·rw[if_neg hj,if_neg hj];exact⟨_,rfl⟩
theorem qi2:q4i X (.type "int") (λxs H Q=>(∃i,xs=[.int i]/\Q (.int i) H)∨∃k,xs=[.bl k]/\Q (.int (if k then 1 else 0)) H):=by
 intro z5 s σ H xs us Q I r h;rcases h with⟨i,rfl,q⟩|⟨k,rfl,q⟩
 ·obtain⟨u,rfl,t,rfl⟩:=vals1 r;exact call_int_int ⟨.int i,H,I,⟨_,rfl⟩,q⟩
 ·obtain⟨u,rfl,r1⟩:=vals1 r;cases r1;exact call_int_bool ⟨.int (if k then 1 else 0),H,I.tok _,⟨_,rfl⟩,q⟩
end
structure ObjM(h:Heap)(x dx C:Addr)(mA:Str->Option Value):Prop where
 obj:h.get? x=some (PySem.W.instObj C dx)
 ns:h.Ns1 dx mA
 ne:dx≠x
theorem qh3{h:Heap}{dx:Addr}{mA:Str->Option Value}(n:h.Ns1 dx mA):∃od,h.get? dx=some od/\∀name,PySem.W.lookIn name od=some (mA name):=by
 obtain⟨o,es,ep,ho,hd,hk,_,hm⟩:=n;refine⟨o,ho,λname=>?_⟩;have e:=hm name;unfold nsFind findBy at e;rw[<-Array.find?_toList]at e;unfold PySem.W.lookIn;rw[hd];dsimp only;split
 ·rename_i y q;rw[q]at e;exact congrArg some e
 ·rename_i q;rw[q]at e;have a:es.toList.any (·.refKey)=false:=by
   rw[List.any_eq_false];intro y hy;obtain⟨z,t,hkey⟩:=hk y (Array.mem_toList_iff.mp hy);simp[DictEntry.refKey,hkey]
  have a':¬es.toList.any (·.refKey)=true:=by rw[a];exact Bool.false_ne_true
  rw[if_neg a'];exact congrArg some e
theorem ObjM.look{h:Heap}{x dx C:Addr}{mA:Str->Option Value}(I:ObjM h x dx C mA):∃od,PySem.W.InstAt h x (PySem.W.instObj C dx) C (some od)/\∀name,PySem.W.lookIn name od=some (mA name):=
 let ⟨od,ho,hl⟩:=qh3 I.ns
 ⟨od,⟨I.obj,rfl,rfl,ho⟩,hl⟩
section
variable{prog:Program}{w:World}{A:Around}{E:Value->Shared->Prop}{s:Shared}{K:FrG}{x dx C f:Addr}{mA:Str->Option Value}{name:Str}{v:Value}
theorem get_map{expr:Bool}{Q:Value->Shared->Prop}(X:K.In s.heap)(I:ObjM s.heap x dx C mA)(hg:PySem.W.plainGet K C name=true)(hh:PySem.W.hasDictIn K C=true)
 (ha:PySem.W.findIn K (.ref C) name=some none) (hv:mA name=some v) (hv':PySem.W.handedIn v=true) (h:Q v {s with toks:=s.toks+1}):
 wpAny (model prog w) A (getAttr (.ref x) name expr) Q E s:=by
 obtain⟨od,J,hl⟩:=I.look;exact PySem.W.get_value X J (PySem.W.plainGet_of hg).1 (PySem.W.findObj_own hh ha rfl (by rw[hl,hv])) hv' h
theorem qjs{pl:Sem Bool}{Q:Value×List Value->Shared->Prop}(X:K.In s.heap)(I:ObjM s.heap x dx C mA)(hg:PySem.W.plainGet K C name=true)
 (hf:PySem.W.findIn K (.ref C) name=some (some (.ref f))) (ht:PySem.W.isFn K (.ref f)=true) (hv:mA name=none) (h:Q (.ref f,[.ref x]) s):
 wpAny (model prog w) A (getMethod (.ref x) name pl) Q E s:=by
 obtain⟨od,J,hl⟩:=I.look;exact PySem.W.method_fn X J (PySem.W.plainGet_of hg).1 (PySem.W.plainGet_of hg).2 hf (beq_iff_eq.mp ht) (by show(PySem.W.lookIn name od).map (·.isSome)=some false;rw[hl,hv];rfl) h
theorem qmc{ns:List Str}{Q:Unit->Shared->Prop}(X:K.In s.heap)(I:ObjM s.heap x dx C mA)
 (hs:PySem.W.findIn K (.ref C) "__setattr__"=some (some (.builtin "object.__setattr__"))) (hp:PySem.W.plainOver K C=true) (ht:PySem.W.takerIn K C name=some none) (hh:PySem.W.hasDictIn K C=true)
 (hw:PySem.Within mA ns) (hsz:ns.length<=sizeLine)
 (h:∀h',ObjM h' x dx C (λy=>if y=name then some v else mA y)->Heap.SameBut dx s.heap h'->Q () {s with heap:=h',toks:=s.toks+2}):
 wpAny (model prog w) A (setAttr (.ref x) name v) Q E s:=by
 obtain⟨od,J,hl⟩:=I.look;refine PySem.W.set_plain X J hs (PySem.W.osa_open (s:={s with toks:=s.toks+1}) (r:=none) X J hp ht λb=>?_);obtain⟨cd,hc,hd'⟩:=PySem.W.any_some hh;have hx:s.heap.get? x=some ⟨.ref C,some dx,.plain,#[]⟩:=I.obj;refine j3 (j5 (j3 (j3 (wpAny_loadPart hx (j3 (PySem.W.Looks.here (s:={s with toks:=s.toks+1}) (PySem.W.looks_clsIn X hc) ?_))))));rw[hd'];refine j5 (a:=some dx) (j3 (j5 (j3 ?_)));refine wpAny_nsSet1 (s:={s with toks:=s.toks+1}) I.ns λh' hn2 hs2=>?_;obtain⟨oD,esD,epD,hoD,hdD,hcD⟩:=hn2.count (PySem.Within.cons name v hw);refine j3 (wpAny_lookBehind hoD (by rw[hdD];exact pastItsLine_dict (ju hcD (by rw[ji];omega))) ?_);exact j5 (h _ ⟨(hs2.2 _ (Ne.symm I.ne)).trans I.obj,hn2,I.ne⟩ hs2)
theorem qjf{R:Result->Shared->Prop}{vs:List Value}{kw:List (Str×Value)}(X:K.In s.heap)(hm:PySem.W.makesIn K C=true)
 (hi:PySem.W.findIn K (.ref C) "__init__"=some (some (.ref f))) (hf:PySem.W.typeIn K (.ref f)=some (.type "function"))
 (h:codeAny (model prog w) (A.under (.builtin "type.__call__" ⟨.ref C::vs,kw⟩)) (.call (.ref f) ⟨.ref (s.heap.objs.size+1)::vs,kw⟩) (PySem.W.InitBack (s.heap.objs.size+1) R)
   {s with heap:=(s.heap.push PySem.W.emptyDict).push (PySem.W.instObj C s.heap.objs.size)}):
 codeAny (model prog w) A (.call (.ref C) ⟨vs,kw⟩) R s:=by
 obtain⟨hh,g,d,t,os⟩:=s;exact PySem.W.make_core (PySem.W.makes_of X hm) (PySem.W.looks_findIn X hi) (λself=>PySem.W.bind_fn X self hf) (.inl rfl) h
theorem qgz{R:Result->Shared->Prop}(X:K.In s.heap)(hm:PySem.W.makesIn K C=true)
 (hi:PySem.W.findIn K (.ref C) "__init__"=some (some (.builtin "object.__init__")))
 (hb:∀self,PySem.W.Looks (model prog w) s.heap (bindSpecial (.builtin "object.__init__") self) (.builtin "object.__init__",[self]))
 (h:codeAny (model prog w) (A.under (.builtin "type.__call__" ⟨[.ref C],[]⟩)) (.call (.builtin "object.__init__") ⟨[.ref (s.heap.objs.size+1)],[]⟩) (PySem.W.InitBack (s.heap.objs.size+1) R)
   {s with heap:=(s.heap.push PySem.W.emptyDict).push (PySem.W.instObj C s.heap.objs.size)}):
 codeAny (model prog w) A (.call (.ref C) ⟨[],[]⟩) R s:=by
 obtain⟨hh,g,d,t,os⟩:=s;exact PySem.W.make_core (PySem.W.makes_of X hm) (PySem.W.looks_findIn X hi) hb (.inr ⟨rfl,rfl⟩) h
end
def putF(f:Str)(v:V):List (Str×V)->List (Str×V)
 |[]=>[(f,v)]
 |(g,x)::r=>if g=f then(g,v)::r else(g,x)::putF f v r
theorem q7f(f g:Str)(v:V):∀fs:List (Str×V),(putF f v fs).lookup g=if g=f then some v else fs.lookup g
 | []=>by
  show List.lookup g [(f,v)]=_;by_cases h:g=f
  ·have hb:(g==f)=true:=beq_iff_eq.mpr h;simp only[List.lookup,hb,if_pos h]
  ·have hb:(g==f)=false:=beq_eq_false_iff_ne.mpr h;simp only[List.lookup,hb,if_neg h]
 | (k,x)::r=>by
  have ih:=q7f f g v r;rw[show putF f v ((k,x)::r)=(if k=f then(k,v)::r else(k,x)::putF f v r)from rfl];by_cases hk:k=f
  ·rw[if_pos hk];by_cases h:g=k
   ·have hb:(g==k)=true:=beq_iff_eq.mpr h;simp only[List.lookup,hb,if_pos (h.trans hk)]
   ·have hb:(g==k)=false:=beq_eq_false_iff_ne.mpr h;simp only[List.lookup,hb,if_neg (λe:g=f=>h (e.trans hk.symm))]
  ·rw[if_neg hk];by_cases h:g=k
   ·have hb:(g==k)=true:=beq_iff_eq.mpr h;simp only[List.lookup,hb,if_neg (λe:g=f=>hk (h.symm.trans e))]
   ·have hb:(g==k)=false:=beq_eq_false_iff_ne.mpr h;simp only[List.lookup,hb];exact ih
theorem q7h(f:Str)(v:V):∀fs:List (Str×V),f∈(putF f v fs).map (·.1)/\∀g,g∈fs.map (·.1)->g∈(putF f v fs).map (·.1)
 |[]=>⟨by simp[putF],λg h=>by simp at h⟩
 | (k,x)::r=>by
  obtain⟨i1,i2⟩:=q7h f v r;rw[show putF f v ((k,x)::r)=(if k=f then(k,v)::r else(k,x)::putF f v r)from rfl];by_cases hk:k=f
  ·rw[if_pos hk];subst hk;exact⟨by simp,λg h=>by simpa using h⟩
  ·rw[if_neg hk];refine⟨?_,λg h=>?_⟩
   ·rw[jr];exact jh _ i1
   ·rw[jr]at h ⊢;rcases List.mem_cons.mp h with e|e
    ·exact List.mem_cons.mpr (.inl e)
    ·exact jh _ (i2 g e)
theorem q7g(f:Str)(v:V):∀fs:List (Str×V),(putF f v fs).length<=fs.length+1
 |[]=>by simp[putF]
 | (k,x)::r=>by
  have ih:=q7g f v r;rw[show putF f v ((k,x)::r)=(if k=f then(k,v)::r else(k,x)::putF f v r)from rfl];by_cases hk:k=f
  ·rw[if_pos hk,ji,ji];omega
  ·rw[if_neg hk,ji,ji];omega
theorem RelO.some_of{v:V}{o:Option Value}(r:RelO (some v) o):∃u,o=some u/\RelV v u:=by
 cases o with
 |none=>exact(show False from r).elim
 |some u=>exact⟨u,rfl,r⟩
theorem RelO.none_of{o:Option Value}(r:RelO none o):o=none:=by
 cases o with
 |none=>rfl
 |some u=>exact(show False from r).elim
theorem qhd{v:V}{u:Value}(r:RelV v u):PySem.W.handedIn u=true:=by
 cases v with
 |non=>cases(show u=Value.none from r);rfl
 |bl b=>cases(show u=Value.bool b from r);rfl
 |int i=>obtain⟨t,e⟩:=(show∃t,u=Value.int i t from r);cases e;rfl
 |str x=>obtain⟨t,e⟩:=(show∃t,u=Value.str x t from r);cases e;rfl
 |byt b=>obtain⟨t,e⟩:=(show∃t,u=Value.bytes b t from r);cases e;rfl
 |flt b=>obtain⟨t,e⟩:=(show∃t,u=Value.float b t from r);cases e;rfl
 |ref a=>cases(show u=Value.ref a from r);rfl
 |ty n=>cases(show u=Value.type n from r);rfl
section
variable{P:Program}{w:World}{H H':Hp}{h h':Heap}{a C dx:Addr}{fs fs':List (Str×V)}
theorem q90(hok:HOk P w H h)(e:H a=some (.ins C dx fs)):∃mA,ObjM h a dx C mA/\(∀f,RelO (fs.lookup f) (mA f))/\PySem.Within mA (fs.map (·.1))/\fs.length<=1000/\H dx=some (.own a):=by obtain⟨d,z,ne,ob,mA,n,r,q⟩:=(show ObjOk P w H h a (.ins C dx fs)from hok a _ e);exact⟨mA,⟨ob,n,ne⟩,r,q,z,d⟩
end
structure Cls(K:FrG)(C:Addr):Prop where
 pg:PySem.W.plainGet K C Str.empty=true
 hd:PySem.W.hasDictIn K C=true
 po:PySem.W.plainOver K C=true
 sa:PySem.W.findIn K (.ref C) "__setattr__"=some (some (.builtin "object.__setattr__"))
theorem Cls.get{K:FrG}{C:Addr}(c:Cls K C)(f:Str):PySem.W.plainGet K C f=true:=c.pg
def NoAttr(K:FrG)(C:Addr)(f:Str):Prop:=PySem.W.findIn K (.ref C) f=some none
theorem NoAttr.taker{K:FrG}{C:Addr}{f:Str}(n:NoAttr K C f):PySem.W.takerIn K C f=some none:=by unfold PySem.W.takerIn;rw[show PySem.W.findIn K (.ref C) f=some none from n];rfl
structure Con(K:FrG)(C:Addr)(f:Str)(v:V)(u:Value):Prop where
 at_:PySem.W.findIn K (.ref C) f=some (some u)
 rel:RelV v u
 get:PySem.W.specialIn K u "__get__"=some none
 cp:PySem.W.copiedNames.contains f=false
structure Meth(K:FrG)(C:Addr)(m:Str)(f:Addr):Prop where
 at_:PySem.W.findIn K (.ref C) m=some (some (.ref f))
 fn:PySem.W.isFn K (.ref f)=true
 kp:PySem.W.keepIn K (.ref f)=true
section
variable{X:Cx}{z5:List (Addr×Obj)}{σ:St}{H:Hp}{s:Shared}{a C dx:Addr}{fs:List (Str×V)}{f:Str}{v:V}{A:Around}{E:Value->Shared->Prop}
theorem qek{b:Bool}{Q:Value->Shared->Prop}(I:Inv X z5 σ H s)(e:H a=some (.ins C dx fs))(c:Cls X.K C)(n:NoAttr X.K C f)(l:fs.lookup f=some v)
 (h:∀u s',Inv X z5 σ H s'->RelV v u->Q u s'):wpAny (model X.prog X.w) A (getAttr (.ref a) f b) Q E s:=by
 obtain⟨mA,O,r,_,_,_⟩:=q90 I.hok e;obtain⟨u,hu,ru⟩:=RelO.some_of (v:=v) (o:=mA f) (by rw[<-l];exact r f);exact get_map I.kIn O (c.get f) c.hd n hu (qhd ru) (h u _ (I.tok _) ru)
theorem qej{m:Str}{g:Addr}{pl:Sem Bool}{Q:Value×List Value->Shared->Prop}(I:Inv X z5 σ H s)(e:H a=some (.ins C dx fs))(c:Cls X.K C)(k:Meth X.K C m g)(l:fs.lookup m=none)
 (h:Q (.ref g,[.ref a]) s):wpAny (model X.prog X.w) A (getMethod (.ref a) m pl) Q E s:=by
 obtain⟨mA,O,r,_,_,_⟩:=q90 I.hok e;have hn:mA m=none:=RelO.none_of (by rw[<-l];exact r m);exact qjs I.kIn O (c.get m) k.at_ k.fn hn h
theorem qdo{y:V}{u:Value}{Q:Unit->Shared->Prop}(I:Inv X z5 σ H s)(e:H a=some (.ins C dx fs))(c:Cls X.K C)(n:NoAttr X.K C f)(hl:fs.length<1000)(ry:RelV y u)
 (h:∀s',Inv X z5 σ (upd H a (.ins C dx (putF f y fs))) s'->Q () s'):wpAny (model X.prog X.w) A (setAttr (.ref a) f u) Q E s:=by
 obtain⟨mA,O,r,wi,_,ho⟩:=q90 I.hok e;have hz:(fs.map (·.1)).length<=sizeLine:=by rw[j4,sizeLine_eq];omega
 refine qmc I.kIn O c.sa c.po n.taker c.hd wi hz λh' O' sb=>h _ ?_;have hd:∃o,h'.get? dx=some o:=let ⟨o,_,_,e',_⟩:=O'.ns;⟨o,e'⟩
 refine I.write (x:=a) (e:=dx) (by rw[e];exact True.intro) (.inr ho) (λb q hb z=>(sb.2 b hb).trans z) hd ?_;refine⟨by rw[q0r O.ne];exact ho,?_,O.ne,O'.obj,_,O'.ns,λg=>?_,λg hg=>?_⟩
 ·have:=q7g f y fs;omega
 ·show RelO ((putF f y fs).lookup g) (if g=f then some u else mA g);rw[q7f];by_cases q:g=f
  ·rw[if_pos q,if_pos q];exact ry
  ·rw[if_neg q,if_neg q];exact r g
 ·by_cases q:g=f
  ·rw[q];exact(q7h f y fs).1
  ·refine(q7h f y fs).2 g (wi g λz=>hg ?_);show(if g=f then some u else mA g)=none;rw[if_neg q];exact z
theorem Inv.made(I:Inv X z5 σ H s):Inv X z5 σ (upd (upd H s.heap.objs.size (.own (s.heap.objs.size+1))) (s.heap.objs.size+1) (.ins C s.heap.objs.size []))
 {s with heap:=(s.heap.push PySem.W.emptyDict).push (PySem.W.instObj C s.heap.objs.size)}:=by
 have e1:(s.heap.push PySem.W.emptyDict).get? s.heap.objs.size=some PySem.W.emptyDict:=jf s.heap rfl;have e2:((s.heap.push PySem.W.emptyDict).push (PySem.W.instObj C s.heap.objs.size)).get? (s.heap.objs.size+1)=some (PySem.W.instObj C s.heap.objs.size):=by
  have:=jf (s.heap.push PySem.W.emptyDict) (o:=PySem.W.instObj C s.heap.objs.size) rfl
  rwa [jy]at this
 have e3:(s.heap.push PySem.W.emptyDict).Ns s.heap.objs.size (λ_=>none):=⟨PySem.W.emptyDict,#[],_,e1,rfl,(λe he=>absurd he (by simp)),λ_=>rfl⟩;have I1:=I.laid (a:=s.heap.objs.size) (o:=.own (s.heap.objs.size+1)) (h':=s.heap.push PySem.W.emptyDict) (t':=s.toks) (λb u q=>j7 _ q) (j8 _) ⟨_,e1⟩;refine I1.laid (a:=s.heap.objs.size+1) (o:=.ins C s.heap.objs.size []) (t':=s.toks) (λb u q=>j7 _ q) (Nat.le_of_eq (jy _ _)) ?_;have ne:s.heap.objs.size≠s.heap.objs.size+1:=jd (Nat.lt_succ_self _);refine⟨by rw[q0r ne,q0u],Nat.zero_le _,ne,e2,λ_=>none,(Heap.Ns1.of_empty e3).at λo q=>j7 _ q,λ_=>True.intro,λy hy=>absurd rfl hy⟩
theorem qox{prog:Program}{w:World}{env:Env}{e:Expr}{f:Str}{pos:Pos}{s:Shared}{Q:Value->Shared->Prop}(hb:attributeBase e f env (eval e env)=eval e env)
 (h:wpAny (model prog w) A (eval e env) (λo s₁=>wpAny (model prog w) A (getAttr o f true) Q E s₁) E s):wpAny (model prog w) A (eval (.Attribute e f pos) env) Q E s:=
 Attribute_any_ h (by rw[arm_eval_Attribute,hb])
end
def tFld(K:FrG)(ta:TE)(f:Str):TE:=λσ H Q=>ta σ H λx H1=>∃a C dx fs v,x=.ref a/\H1 a=some (.ins C dx fs)/\Cls K C/\NoAttr K C f/\fs.lookup f=some v/\Q v H1
def sFld(K:FrG)(ta tv:TE)(f:Str):TS:=λD σ H=>tv σ H λy H1=>ta σ H1 λx H2=>∃a C dx fs,x=.ref a/\H2 a=some (.ins C dx fs)/\Cls K C/\NoAttr K C f/\fs.length<1000/\
 D.nx σ (upd H2 a (.ins C dx (putF f y fs)))
section
variable{X:Cx}{o e value:Expr}{f:Str}{pos zy tpos:Pos}{ta tv:TE}
theorem qqp(he:PE X e ta)(hb:attributeBase e f X.env (eval e X.env)=eval e X.env):PE X (.Attribute e f pos) (tFld X.K ta f):=by intro z5 s σ H Q I h;refine qox hb (thn (he z5 s σ H _ I h) λu s1 ⟨x,H1,I1,rx,a,C,dx,fs,v,ex,ea,c,n,l,q⟩=>?_);subst ex;obtain rfl:u=Value.ref a:=rx;exact qek I1 ea c n l λu' s2 I2 ru=>⟨v,H1,I2,ru,q⟩
theorem qg5(ha:PE X o ta)(hv:PE X value tv)(hs:swapsWith value (some (.Attribute o f zy)) pos.line X.env=pure false):PS X (.Assign [.Attribute o f zy] value pos) (sFld X.K ta tv f):=by intro z5 s σ H D I h;refine plainObj_wpAny_Assign_Attribute (thn (hv z5 s σ H _ I h) λu s1 ⟨y,H1,I1,ry,q⟩=>thn (ha z5 s1 σ H1 _ I1 q) λov s2 ⟨x,H2,I2,rx,a,C,dx,fs,ex,ea,c,n,l,q2⟩=>?_) hs;subst ex;obtain rfl:ov=Value.ref a:=rx;exact qdo I2 ea c n l ry λs3 I3=>⟨σ,_,I3,q2⟩
end
section
variable{X:Cx}{z5:List (Addr×Obj)}{σ:St}{H:Hp}{s:Shared}{A:Around}{E:Value->Shared->Prop}{Q:Value->Shared->Prop}{c:Value}{b:Bool}
inductive TyOf(K:FrG)(H:Hp):V->Value->Prop where
 |non:TyOf K H .non (.type "NoneType")
 |bl (x:Bool):TyOf K H (.bl x) (.type "bool")
 |int (i:Int):TyOf K H (.int i) (.type "int")
 |str (x:Str):TyOf K H (.str x) (.type "str")
 |flt (x:UInt64):TyOf K H (.flt x) (.type "float")
 |lst {a:Addr} {xs:List V} (e:H a=some (.lst xs)):TyOf K H (.ref a) (.type "list")
 |frz {a:Addr} {o:Obj} {xs:List V} (e:H a=some (.frz o (.lst xs))):TyOf K H (.ref a) (.type "list")
 |tup {a:Addr} {xs:List V} (e:H a=some (.tup xs)):TyOf K H (.ref a) (.type "tuple")
 |dK {a:Addr} {kvs:List (Key×V)} (e:H a=some (.dK kvs)):TyOf K H (.ref a) (.type "dict")
 |dT {a:Addr} {kvs:List (List Key×V)} (e:H a=some (.dT kvs)):TyOf K H (.ref a) (.type "dict")
 |ins {a C dx:Addr} {fs:List (Str×V)} (e:H a=some (.ins C dx fs)) (cl:Cls K C) (ha:PySem.W.findIn K (.ref C) "__class__"=some (some (.builtin "object.__class__")))
  (hn:PySem.W.specialIn K (.builtin "object.__class__") "__get__"=some (some (.builtin "getset_descriptor.__get__"))) (htk:PySem.W.takesIn K (.builtin "object.__class__")=some true)
  (hm:PySem.W.mroIn K C (.type "object")=some true):TyOf K H (.ref a) (.ref C)
theorem qh9{x:V}{u t:Value}(I:Inv X z5 σ H s)(rx:RelV x u)(ty:TyOf X.K H x t)(e:PySem.W.kitOne X.K t c=some b)(h:∀tk,Q (.bool b) {s with toks:=tk}):
 wpAny (model X.prog X.w) A (call (.builtin "isinstance") [u,c]) Q E s:=by
 cases ty with
 |non=>cases(show u=Value.none from rx);exact PySem.W.kia_one PySem.W.kitx_none I.kIn True.intro e (λz=>nomatch z) h
 |bl y=>cases(show u=Value.bool y from rx);exact PySem.W.kia_one PySem.W.kitx_bool I.kIn True.intro e (λz=>nomatch z) h
 |int i=>obtain⟨t,q⟩:=(show∃t,u=Value.int i t from rx);cases q;exact PySem.W.kia_one PySem.W.kitx_int I.kIn True.intro e (λz=>nomatch z) h
 |str y=>obtain⟨t,q⟩:=(show∃t,u=Value.str y t from rx);cases q;exact PySem.W.kia_one PySem.W.kitx_str I.kIn True.intro e (λz=>nomatch z) h
 |flt y=>obtain⟨t,q⟩:=(show∃t,u=Value.float y t from rx);cases q;exact PySem.W.kia_one PySem.W.kitx_float I.kIn True.intro e (λz=>nomatch z) h
 | @lst a xs ea=>
  cases(show u=Value.ref a from rx);obtain⟨_,_,n,_,h1⟩:=(show ObjOk X.prog X.w H s.heap a (.lst xs)from I.hok a _ ea);exact PySem.W.kia_one PySem.W.kitx_list I.kIn ⟨_,h1,rfl⟩ e (λz=>nomatch z) h
 | @frz a ob xs ea=>
  cases(show u=Value.ref a from rx);obtain⟨_,_,_,n,_,h1⟩:=(show ObjOk X.prog X.w H s.heap a (.frz ob (.lst xs))from I.hok a _ ea);exact PySem.W.kia_one PySem.W.kitx_list I.kIn ⟨_,h1,rfl⟩ e (λz=>nomatch z) h
 | @tup a xs ea=>
  cases(show u=Value.ref a from rx);obtain⟨_,_,_,p⟩:=(show ObjOk X.prog X.w H s.heap a (.tup xs)from I.hok a _ ea);obtain⟨o,h1,⟨h2,_⟩,_⟩:=p;exact PySem.W.kia_one PySem.W.kitx_tuple I.kIn ⟨o,h1,h2⟩ e (λz=>nomatch z) h
 | @dK a kvs ea=>
  cases(show u=Value.ref a from rx);obtain⟨_,_,vs,_,p⟩:=(show ObjOk X.prog X.w H s.heap a (.dK kvs)from I.hok a _ ea);obtain⟨o,es,h1,h2,_⟩:=p;exact PySem.W.kia_one PySem.W.kitx_dict I.kIn ⟨o,h1,h2.1⟩ e (λz=>nomatch z) h
 | @dT a kvs ea=>
  cases(show u=Value.ref a from rx);obtain⟨_,_,xs,_,o,es,ep,h1,h2,_⟩:=(show ObjOk X.prog X.w H s.heap a (.dT kvs)from I.hok a _ ea);exact PySem.W.kia_one PySem.W.kitx_dict I.kIn ⟨o,h1,h2.1⟩ e (λz=>nomatch z) h
 | @ins a C dx fs ea cl ha hn htk hm=>
  cases(show u=Value.ref a from rx);obtain⟨mA,O,_⟩:=q90 I.hok ea;obtain⟨od,J,_⟩:=O.look;exact PySem.W.kia_one (PySem.W.kitx_own (cl.get _) cl.hd ha hn htk hm) I.kIn J e (λz=>nomatch z) h
end
structure Room(k:Nat)(A:Around):Prop where
 hd:A.handled=none
 dp:A.depth+3*k+5<recursionLimit
 un:A.units+16*k+200<cLine
theorem Room.mono{j k:Nat}{A:Around}(r:Room k A)(h:j<=k):Room j A:=⟨r.hd,by have:=r.dp;omega,by have:=r.un;omega⟩
theorem Room.m{j k:Nat}{A:Around}(r:Room k A)(h:j<=k:=by decide):Room j A:=r.mono h
theorem Room.deeper{k:Nat}{A:Around}(r:Room (k+1) A)(env:Env):Room k (A.deeper env):=
 ⟨r.hd,by have:=r.dp;show A.depth+1+3*k+5<_;omega,by have:=r.un;show A.units+3+16*k+200<_;omega⟩
theorem Room.in1{k:Nat}{A:Around}(r:Room (k+1) A):Room k A.in1:=
 ⟨r.hd,by have:=r.dp;show A.depth+3*k+5<_;omega,by have:=r.un;show A.units+1+16*k+200<_;omega⟩
theorem qeg{A:Around}{C:Addr}{us:List Value}{kw:List (Str×Value)}:(A.under (.builtin "type.__call__" ⟨.ref C::us,kw⟩)).depth=A.depth+1:=by first|rfl|simp[Around.under,Code.weight,Code.isCreation,Code.isGuard,Code.isCaller,Code.frames,Code.isFrame,guardIds]
theorem qef{A:Around}{C:Addr}{us:List Value}{kw:List (Str×Value)}:(A.under (.builtin "type.__call__" ⟨.ref C::us,kw⟩)).units=A.units+1:=by first|rfl|simp[Around.under,Code.cUnits,Code.frames,Code.isFrame]
theorem Room.make{k:Nat}{A:Around}(r:Room (k+1) A)(C:Addr)(us:List Value)(kw:List (Str×Value)):Room k (A.under (.builtin "type.__call__" ⟨.ref C::us,kw⟩)):=
 ⟨r.hd,by have:=r.dp;rw[qeg];omega,by have:=r.un;rw[qef];omega⟩
theorem Room.depth{k:Nat}{A:Around}(r:Room k A):A.depth<recursionLimit:=by have:=r.dp;omega
theorem Room.units{k:Nat}{A:Around}(r:Room k A):A.units+64<cLine:=by have:=r.un;omega
def tNil:TA:=λ_ H Q=>Q [] H
def q8l(ta:TE)(tr:TA):TA:=λσ H Q=>ta σ H λx H1=>tr σ H1 λxs H2=>Q (x::xs) H2
section
variable{X:Cx}{e:Expr}{es:List Expr}{te:TE}{t:TA}{pos:Pos}
theorem q05:PA X [] tNil:=λ_ _ _ _ H Q I h=>Calls.spliced_nil ⟨[],H,I,.nil,h⟩
theorem q01(ha:PE X e te)(hr:PA X es t)(hs:starEach (e::es) X.env=(false,eval e X.env)::starEach es X.env:=by rfl):PA X (e::es) (q8l te t):=by intro pos z5 s σ H Q I h;rw[hs];show wpAny _ _ (spliced ((false,eval e X.env)::backTo pos (starEach es X.env))) _ _ s;refine Calls.spliced_cons (thn (ha z5 s σ H _ I h) λu s1 ⟨x,H1,I1,r1,q1⟩=>?_);exact thn (hr pos z5 s1 σ H1 _ I1 q1) λus s2 ⟨xs,H2,I2,r2,q2⟩=>⟨x::xs,H2,I2,.cons r1 r2,q2⟩
def tTup(t:TA):TE:=λσ H Q=>t σ H λxs H1=>xs.length<=sizeLine/\∀p,H1 p=none->Q (.ref p) (upd H1 p (.tup xs))
def tLst(t:TA):TE:=λσ H Q=>t σ H λxs H1=>xs.length<=sizeLine/\∀p,H1 p=none->Q (.ref p) (upd H1 p (.lst xs))
theorem q37{x1}(h:PA X es t):PE X (.Tuple es x1 pos) (tTup t):=by intro z5 s σ H Q I hq;refine wpAny_Tuple_spliced (thn (h pos z5 s σ H _ I hq) λus s1 ⟨xs,H1,I1,r,z,q⟩=>⟨by rw[<-r.length];exact z,?_⟩);have hf:H1 s1.heap.objs.size=none:=I1.hok.fresh (j8 _);refine⟨.ref s1.heap.objs.size,upd H1 s1.heap.objs.size (.tup xs),I1.laid (t':=s1.toks) (λb u e=>j7 _ e) (j8 _) ?_,rfl,q _ hf⟩;exact⟨z,us,r,⟨_,jf _ rfl,⟨rfl,_,rfl⟩,rfl⟩⟩
theorem q2r(h:PA X es t):PE X (.List es pos) (tLst t):=by intro z5 s σ H Q I hq;refine wpAny_List_spliced (thn (h pos z5 s σ H _ I hq) λus s1 ⟨xs,H1,I1,r,z,q⟩=>⟨by rw[<-r.length];exact z,?_⟩);have hf:H1 s1.heap.objs.size=none:=I1.hok.fresh (j8 _);refine⟨.ref s1.heap.objs.size,upd H1 s1.heap.objs.size (.lst xs),I1.laid (t':=s1.toks) (λb u e=>j7 _ e) (j8 _) ?_,rfl,q _ hf⟩;exact⟨z,us,0,r,jf _ rfl⟩
end
abbrev Sp:=List V->Hp->VK->XK->Prop
abbrev CXT:=List Env->Hp->Shared->XK->Value->Shared->Prop
structure Env0(P:Program)(w:World)(K:FrG)(mg:Str->Option Value)(base:Heap)(A:Around)(outer:List Env)(s:Shared)(H:Hp):Prop where
 frames:A.frames=some outer
 mod:Mod K mg base
 bs:∀b o,base.get? b=some o->s.heap.get? b=some o/\H b=none
 bsz:base.objs.size<=s.heap.objs.size
 funs:s.heap.FunFrames base outer
 frf:∀b∈frs outer,H b=none
 hok:HOk P w H s.heap
 bare:AllBare s.gens
def CE(outer:List Env)(P:Program)(w:World)(H:Hp)(s:Shared)(Q:VK)(u:Value)(s':Shared):Prop:=
 ∃v H',s'.os=s.os/\AllBare s'.gens/\Un (frs outer) [] H H' s.heap s'.heap/\HOk P w H' s'.heap/\RelV v u/\Q v H'
def CR(CX:CXT)(outer:List Env)(P:Program)(w:World)(H:Hp)(s:Shared)(Q:VK)(E:XK)(r:Result)(s':Shared):Prop:=
 match r with
 |.ok (.ret u)=>CE outer P w H s Q u s'
 |.ok _=>False
 |.error e=>CX outer H s E e s'
structure FnOk(P:Program)(w:World)(K:FrG)(mg:Str->Option Value)(base:Heap)(CX:CXT)(k:Nat)(f:Addr)(fd:FuncData)(ps:List Str)(sp:Sp):Prop where
 len:∀vs H Q E,sp vs H Q E->vs.length=ps.length
 run:∀(A:Around) (outer:List Env) (s:Shared) (H:Hp) (args:Args) (us:List Value) (vs:List V) (Q:VK) (E:XK),Room k A->Env0 P w K mg base A outer s H->BindsTo s fd args (ps.zip us)->Vals vs us->sp vs H Q E->
  codeAny (model P w) A (.call (.ref f) args) (CR CX outer P w H s Q E) s
theorem FnOk.mono{P:Program}{w:World}{K:FrG}{mg:Str->Option Value}{base:Heap}{CX:CXT}{j k:Nat}{f:Addr}{fd:FuncData}{ps:List Str}{sp:Sp}(F:FnOk P w K mg base CX j f fd ps sp)(h:j<=k):
 FnOk P w K mg base CX k f fd ps sp:=⟨F.len,λA outer s H args us vs Q E hr=>F.run A outer s H args us vs Q E (hr.mono h)⟩
theorem FnOk.imp{P:Program}{w:World}{K:FrG}{mg:Str->Option Value}{base:Heap}{CX:CXT}{k:Nat}{f:Addr}{fd:FuncData}{ps:List Str}{sp sp':Sp}(F:FnOk P w K mg base CX k f fd ps sp)
 (h:∀vs H Q E,sp' vs H Q E->sp vs H Q E):FnOk P w K mg base CX k f fd ps sp':=
 ⟨λvs H Q E q=>F.len vs H Q E (h _ _ _ _ q),λA outer s H args us vs Q E hr he hb hv hs=>F.run A outer s H args us vs Q E hr he hb hv (h _ _ _ _ hs)⟩
theorem Env0.make{P:Program}{w:World}{K:FrG}{mg:Str->Option Value}{base:Heap}{A:Around}{outer:List Env}{s:Shared}{H:Hp}(e:Env0 P w K mg base A outer s H)(C:Addr)(us:List Value)(kw:List (Str×Value)):
 Env0 P w K mg base (A.under (.builtin "type.__call__" ⟨.ref C::us,kw⟩)) outer s H:=⟨by first|exact e.frames|(simpa[Around.under,Code.envs,Code.isFrame,pushEnvs]using e.frames),e.mod,e.bs,e.bsz,e.funs,e.frf,e.hok,e.bare⟩
theorem Env0.in1{P:Program}{w:World}{K:FrG}{mg:Str->Option Value}{base:Heap}{A:Around}{outer:List Env}{s:Shared}{H:Hp}(e:Env0 P w K mg base A outer s H):
 Env0 P w K mg base A.in1 outer s H:=⟨e.frames,e.mod,e.bs,e.bsz,e.funs,e.frf,e.hok,e.bare⟩
section
variable{X:Cx}{z5:List (Addr×Obj)}{σ:St}{H:Hp}{s s':Shared}
theorem Inv.env0(I:Inv X z5 σ H s):Env0 X.prog X.w X.K X.mg X.base X.A X.stack s H:=
 ⟨I.ok.frames,I.ok.mod,I.bs,ju I.ok.bsz I.sz,I.stack,I.stkFree,I.hok,I.bare⟩
theorem Inv.after{Q:VK}{u:Value}(I:Inv X z5 σ H s)(h:CE X.stack X.prog X.w H s Q u s'):EP X z5 σ Q u s':=by obtain⟨v,H',os,bare,un,hok,r,q⟩:=h;obtain⟨hh,g,d,t,os'⟩:=s';obtain rfl:os'=s.os:=os;exact⟨v,H',I.call (h':=hh) (g':=g) (d':=d) (t':=t) (ch:=[]) un hok bare (λb z=>absurd z (by simp)),r,q⟩
end
def qik(sp:Sp)(dvs:List V)(E:XK)(t:TA):TE:=λσ H Q=>t σ H λvs H1=>sp (vs++dvs) H1 Q E
def qpg(C:Addr)(m:Str)(sp:Sp)(dvs:List V)(E:XK)(ta:TE)(t:TA):TE:=λσ H Q=>ta σ H λx H1=>∃a dx fs,x=.ref a/\H1 a=some (.ins C dx fs)/\fs.lookup m=none/\
 t σ H1 λvs H2=>sp (x::(vs++dvs)) H2 Q E
def qph(C:Addr)(sp:Sp)(dvs:List V)(E:XK)(t:TA):TE:=λσ H Q=>t σ H λvs H1=>∀x dx,H1 x=none->H1 dx=none->dx≠x->
 sp (.ref x::(vs++dvs)) (upd (upd H1 dx (.own x)) x (.ins C dx [])) (λv H2=>v=.non/\Q (.ref x) H2) E
def Binds(K:FrG)(fd:FuncData)(ps:List Str)(ds:List Value):Prop:=
 ∀(s:Shared) (us:List Value),K.In s.heap->(us++ds).length=ps.length->BindsTo s fd ⟨us,[]⟩ (ps.zip (us++ds))
theorem Binds.all{K:FrG}{fd:FuncData}{ps:List Str}(h:∀us:List Value,us.length=ps.length->bindArgs fd ⟨us,[]⟩=pure (ps.zip us)):Binds K fd ps []:=λs us _ hl=>by rw[List.append_nil]at hl ⊢;exact .of_eq (h us hl)
def q8h(CX:CXT)(X:Cx)(E:XK):Prop:=∀(z5:List (Addr×Obj)) (σ:St) (H:Hp) (s:Shared) (e:Value) (s':Shared),Inv X z5 σ H s->CX X.stack H s E e s'->X.xe e s'
section
variable{X:Cx}{CX:CXT}{k:Nat}{f C:Addr}{fd:FuncData}{ps:List Str}{sp:Sp}{dvs:List V}{ds:List Value}{E:XK}{x m:Str}{p pos zu:Pos}{e o:Expr}{es:List Expr}{ta:TE}{t:TA}
theorem qld{z5:List (Addr×Obj)}{σ:St}{H:Hp}{s:Shared}{Q:VK}{us:List Value}{vs:List V}(F:FnOk X.prog X.w X.K X.mg X.base CX k f fd ps sp)(hr:Room k X.A)(hb:Binds X.K fd ps ds)(hd:Vals dvs ds)(hx:q8h CX X E)
 (I:Inv X z5 σ H s) (r:Vals vs us) (h:sp (vs++dvs) H Q E):wpAny (model X.prog X.w) X.A (call (.ref f) us) (EP X z5 σ Q) X.xe s:=by
 have r2:Vals (vs++dvs) (us++ds):=r.append hd;have hl:(us++ds).length=ps.length:=by rw[<-r2.length];exact F.len _ _ _ _ h
 refine wpAny_call (codeAny_mono (F.run X.A X.stack s H ⟨us,[]⟩ (us++ds) (vs++dvs) Q E hr I.env0 (hb s us I.kIn hl) r2 h) λr s' hq=>?_);cases r with
 |error e=>exact hx z5 σ H s e s' I hq
 | ok fl=>
  cases fl with
  |ret u=>exact I.after hq
  |next=>exact False.elim hq
  |brk=>exact False.elim hq
  |cont=>exact False.elim hq
theorem q0d(F:FnOk X.prog X.w X.K X.mg X.base CX k f fd ps sp)(hr:Room k X.A)(hg:Gl X x)(hm:X.mg x=some (.ref f))(hk:PySem.W.keepIn X.K (.ref f)=true)(hb:Binds X.K fd ps ds)(hd:Vals dvs ds)(hx:q8h CX X E)
 (ha:PA X (e::es) t) (hdb:(x==("__debug__":Str))=false:=by decide) (he:starEach (e::es) X.env=(false,eval e X.env)::starEach es X.env:=by rfl) (hpl:(backTo pos (starEach es X.env)).any (·.1)=false:=by rfl):
 PE X (.Call (.Name x p) (e::es) [] pos) (qik sp dvs E t):=by
 intro z5 s σ H Q I h;refine xj (qbh I hg hm ?_ hdb);refine PySem.W.callWith_K (h₀:=X.base) I.ok.mod.kin hk (thn (ha pos z5 s σ H _ I h) λus s1 ⟨vs,H1,I1,r,q⟩=>⟨I1.kIn,?_⟩) he hpl;exact qld F hr hb hd hx I1 r q
theorem qaz{pl:Sem Bool}(he:PE X o ta)(c:Cls X.K C)(hm:Meth X.K C m f)(F:FnOk X.prog X.w X.K X.mg X.base CX k f fd ps sp)(hr:Room k X.A)(hb:Binds X.K fd ps ds)(hd:Vals dvs ds)(hx:q8h CX X E)(ha:PA X (e::es) t)
 (hst:starEach (e::es) X.env=(false,eval e X.env)::starEach es X.env:=by rfl) (hpl:(backTo pos (starEach es X.env)).any (·.1)=false:=by rfl)
 (ht:eval (.Call (.Attribute o m zu) (e::es) [] pos) X.env=(do
   let ov <-eval o X.env
   standAt zu.atName
   let (f,first) <-holding [ov] (getMethod ov m pl)
   callWith pos f first (backTo pos (starEach (e::es) X.env)) (backToKw pos (keywordEach [] X.env))):=by rfl):
 PE X (.Call (.Attribute o m zu) (e::es) [] pos) (qpg C m sp dvs E ta t):=by
 intro z5 s σ H Q I h;refine PySem.W.methodCall_KW (pl:=pl) (thn (he z5 s σ H _ I h) λu s1 ⟨x,H1,I1,rx,a,dx,fs,ex,ea,l,q⟩=>?_) ht;subst ex;obtain rfl:u=Value.ref a:=rx;refine qej I1 ea c hm l ?_;refine PySem.W.callWith_K (first:=[.ref a]) (h₀:=X.base) I.ok.mod.kin hm.kp (thn (ha pos z5 s1 σ H1 _ I1 q) λus s2 ⟨vs,H2,I2,r,q2⟩=>⟨I2.kIn,?_⟩) hst hpl;exact qld (us:=.ref a::us) (vs:=.ref a::vs) F hr hb hd hx I2 (.cons rfl r) q2
structure Mk(K:FrG)(C f:Addr):Prop where
 makes:PySem.W.makesIn K C=true
 init:PySem.W.findIn K (.ref C) "__init__"=some (some (.ref f))
 fn:PySem.W.isFn K (.ref f)=true
 kp:PySem.W.keepIn K (.ref C)=true
theorem qiq{z5:List (Addr×Obj)}{σ:St}{H:Hp}{s:Shared}{Q:VK}{us:List Value}{vs:List V}(M:Mk X.K C f)(F:FnOk X.prog X.w X.K X.mg X.base CX k f fd ps sp)(hr:Room (k+1) X.A)(hb:Binds X.K fd ps ds)(hd:Vals dvs ds)
 (hx:q8h CX X E) (I:Inv X z5 σ H s) (r:Vals vs us)
 (h:∀x dx,H x=none->H dx=none->dx≠x->sp (.ref x::(vs++dvs)) (upd (upd H dx (.own x)) x (.ins C dx [])) (λv H2=>v=.non/\Q (.ref x) H2) E):
 wpAny (model X.prog X.w) X.A (call (.ref C) us) (EP X z5 σ Q) X.xe s:=by
 have hq:=h (s.heap.objs.size+1) s.heap.objs.size (I.hok.fresh (Nat.le_succ _)) (I.hok.fresh (j8 _)) (jd (Nat.lt_succ_self _));have I2:=Inv.made (C:=C) I;have r2:Vals (V.ref (s.heap.objs.size+1)::(vs++dvs)) (Value.ref (s.heap.objs.size+1)::(us++ds)):=.cons rfl (r.append hd);have hl:(Value.ref (s.heap.objs.size+1)::us++ds).length=ps.length:=by have e:=r2.length;rw[F.len _ _ _ _ hq]at e;exact e.symm
 refine wpAny_call (qjf (f:=f) I.kIn M.makes M.init (beq_iff_eq.mp M.fn) (codeAny_mono (F.run _ X.stack _ _ ⟨Value.ref (s.heap.objs.size+1)::us,[]⟩ (Value.ref (s.heap.objs.size+1)::(us++ds)) _ _ E (hr.make C us [])
  (I2.env0.make C us []) (hb _ (Value.ref (s.heap.objs.size+1)::us) I2.kIn hl) r2 hq) λr s' hq'=>?_))
 cases r with
 |error e=>exact hx z5 σ _ _ e s' I2 hq'
 | ok fl=>
  cases fl with
  | ret u=>
   obtain⟨v,H',I3,rv,ev,q3⟩:=I2.after hq';subst ev;exact⟨rv,⟨V.ref (s.heap.objs.size+1),H',I3,rfl,q3⟩⟩
  |next=>exact False.elim hq'
  |brk=>exact False.elim hq'
  |cont=>exact False.elim hq'
theorem qg8(M:Mk X.K C f)(F:FnOk X.prog X.w X.K X.mg X.base CX k f fd ps sp)(hr:Room (k+1) X.A)(hg:Gl X x)(hm:X.mg x=some (.ref C))(hb:Binds X.K fd ps ds)(hd:Vals dvs ds)(hx:q8h CX X E)
 (ha:PA X (e::es) t) (hdb:(x==("__debug__":Str))=false:=by decide) (he:starEach (e::es) X.env=(false,eval e X.env)::starEach es X.env:=by rfl) (hpl:(backTo pos (starEach es X.env)).any (·.1)=false:=by rfl):
 PE X (.Call (.Name x p) (e::es) [] pos) (qph C sp dvs E t):=by
 intro z5 s σ H Q I h;refine xj (qbh I hg hm ?_ hdb);refine PySem.W.callWith_K (h₀:=X.base) I.ok.mod.kin M.kp (thn (ha pos z5 s σ H _ I h) λus s1 ⟨vs,H1,I1,r,q⟩=>⟨I1.kIn,?_⟩) he hpl;exact qiq M F hr hb hd hx I1 r q
end
section
variable{X:Cx}{CX:CXT}{k:Nat}{f C:Addr}{fd:FuncData}{ps ks:List Str}{sp:Sp}{E:XK}{x m:Str}{p pos zu kpos:Pos}{e o:Expr}{es:List Expr}{kws:List Keyword}{te ta:TE}{t tk:TA}{nm:Option Str}
structure qwe(K:FrG)(fd:FuncData)(ps ks:List Str)(g:List Value->List Value->List Value)(gV:List V->List V->List V):Prop where
 to:∀(s:Shared) (us ws:List Value),K.In s.heap->(g us ws).length=ps.length->BindsTo s fd ⟨us,ks.zip ws⟩ (ps.zip (g us ws))
 rel:∀{vs:List V} {us:List Value} {zs:List V} {ws:List Value},Vals vs us->Vals zs ws->Vals (gV vs zs) (g us ws)
variable{g:List Value->List Value->List Value}{gV:List V->List V->List V}
end
structure q0p(N P:List Str)(sc:Scope):Prop where
 kind:sc.kind=.function
 co:sc.isCoroutine=false
 gen:sc.isGenerator=false
 nd:N.Nodup
 pre:N.take P.length=P
 par:∀x∈P,sc.names.lookup x=some .local∨sc.names.lookup x=some .cell
 nofree:∀y∈sc.names,y.2≠.free
theorem qaf{kindOf:Str->Option NameKind}{x:Str}:∀{zt:List (Str×Value)} {m:Str->Option Value},(∀v,(x,v)∉zt)->bindL kindOf zt m x=m x
 |[],_,_=>rfl
 | (n,v)::r,m,h=>by
  unfold bindL;rw[qaf λw hw=>h w (jh _ hw)];split
  ·have:x≠n:=by rintro rfl;exact h v jg
   simp[this]
  ·rfl
theorem qah{kindOf:Str->Option NameKind}{x:Str}:∀{zt:List (Str×Value)} {m:Str->Option Value},(∀v,(x,v)∉zt)->bindC kindOf zt m x=m x
 |[],_,_=>rfl
 | (n,v)::r,m,h=>by
  unfold bindC;rw[qah λw hw=>h w (jh _ hw)];split
  ·rfl
  ·have:x≠n:=by rintro rfl;exact h v jg
   simp[this]
theorem qag{kindOf:Str->Option NameKind}{x:Str}{v:Value}:∀{P:List Str} {vs:List Value} {i:Nat} {m:Str->Option Value},P.Nodup->P[i]? =some x->vs[i]? =some v->kindOf x=some .local->
 bindL kindOf (P.zip vs) m x=some v
 |[],_,_,_,_,h,_,_=>by simp at h
 |_::_,[],_,_,_,_,h,_=>by simp at h
 | p::P,w::vs,0,m,nd,h1,h2,hk=>by simp at h1 h2;subst h1;subst h2;show bindL kindOf ((p,w)::P.zip vs) m p=_;unfold bindL;rw[qaf λv hv=>(List.nodup_cons.mp nd).1 (List.of_mem_zip hv).1,if_pos hk];simp
 | p::P,w::vs,i+1,m,nd,h1,h2,hk=>by show bindL kindOf ((p,w)::P.zip vs) m x=_;unfold bindL;exact qag (i:=i) (List.nodup_cons.mp nd).2 (by simpa using h1) (by simpa using h2) hk
theorem qai{kindOf:Str->Option NameKind}{x:Str}{v:Value}:∀{P:List Str} {vs:List Value} {i:Nat} {m:Str->Option Value},P.Nodup->P[i]? =some x->vs[i]? =some v->kindOf x≠some .local->
 bindC kindOf (P.zip vs) m x=some v
 |[],_,_,_,_,h,_,_=>by simp at h
 |_::_,[],_,_,_,_,h,_=>by simp at h
 | p::P,w::vs,0,m,nd,h1,h2,hk=>by simp at h1 h2;subst h1;subst h2;show bindC kindOf ((p,w)::P.zip vs) m p=_;unfold bindC;rw[qah λv hv=>(List.nodup_cons.mp nd).1 (List.of_mem_zip hv).1,if_neg hk];simp
 | p::P,w::vs,i+1,m,nd,h1,h2,hk=>by show bindC kindOf ((p,w)::P.zip vs) m x=_;unfold bindC;exact qai (i:=i) (List.nodup_cons.mp nd).2 (by simpa using h1) (by simpa using h2) hk
def start(N:List Str)(vs:List V):St:=vs.map some++List.replicate (N.length-vs.length) none
def cxOf(CX:CXT)(P:Program)(w:World)(K:FrG)(mg:Str->Option Value)(base:Heap)(N:List Str)(qual:Str)(scope:Scope)(f:Addr)(cd:Value)(A:Around)(outer:List Env)(s:Shared)(H:Hp)(E:XK):Cx where
 prog:=P
 w:=w
 K:=K
 mg:=mg
 base:=base
 A:=A.deeper (envOfC qual scope s.heap.objs.size f cd)
 N:=N
 s₀:=s
 H₀:=H
 env:=envOfC qual scope s.heap.objs.size f cd
 outer:=outer
 stack:=envOfC qual scope s.heap.objs.size f cd::outer
 ex:=[]
 calm:=true
 fn:=λ_=>true
 pn:=[]
 xe:=λe s'=>wpAny (model P w) (A.deeper (envOfC qual scope s.heap.objs.size f cd)) (leaving (envOfC qual scope s.heap.objs.size f cd) e) (λ_ s''=>CX outer H s E e s'') (λe' s''=>CX outer H s E e' s'') s'
theorem qda{sc:Scope}{n:Nat}{x:Str}(h:sc.names.lookup x=some .cell):∃c,(cellsFrom n sc.names []).lookup x=some c:=by have q:=PySem.W.cellsFrom_some sc.names n [] (.inl h);exact Option.isSome_iff_exists.mp q
theorem qha{CX:CXT}{P:Program}{w:World}{K:FrG}{mg:Str->Option Value}{base:Heap}{N ps:List Str}{qual:Str}{scope:Scope}{f:Addr}{cd:Value}{A:Around}{outer:List Env}{s s1:Shared}{H:Hp}{E:XK}{us:List Value}{vs:List V}
 (S:q0p N ps scope) (hd:A.handled=none) (e0:Env0 P w K mg base A outer s H) (hl:vs.length=ps.length) (r:Vals vs us)
 (x:InCallC s s.heap.objs.size (bindL (envOfC qual scope s.heap.objs.size f cd).kindOf (ps.zip us) λ_=>none) (cellsFrom (s.heap.objs.size+1) scope.names []) (bindC (envOfC qual scope s.heap.objs.size f cd).kindOf (ps.zip us) λ_=>none) s1):
 Inv (cxOf CX P w K mg base N qual scope f cd A outer s H E) [] (start N vs) H s1:=by
 have hpl:ps.length<=N.length:=by have:=congrArg List.length S.pre;rw[x6]at this;omega
 obtain⟨h1,tk,rfl,hk⟩:=x.done;have noA:∀b:Addr,b∉(cxOf CX P w K mg base N qual scope f cd A outer s H E).ex:=λb z=>absurd (show b∈([]:List Addr)from z) (by simp);refine⟨⟨e0.mod,S.kind,rfl,rfl,j8 _,λy z c h1 h2=>?_,λy hy=>?_,λy c _ h=>?_,λ_=>hd,Around.frames_deeper e0.frames,.inr ⟨rfl,rfl⟩,λb z=>absurd z (noA b),e0.bs,e0.bsz,λb _ _=>noA b,λb z=>absurd z (noA b),e0.funs,e0.frf⟩,
  rfl,e0.bare,Un.kept hk,⟨_,x.toInCall.ns,λi y v h1 h2 h3=>?_⟩,λy c h=>⟨_,x.cell y c h⟩,e0.hok.fresh (j8 _),λy c h=>?_,λp hp=>absurd (show p∈([]:List (Addr×Obj))from hp) (by simp),e0.hok.kept hk,?_⟩
 ·exact name_of_addr x.apart (PySem.mem_of_lookup h1) (PySem.mem_of_lookup h2)
 ·have hy:scope.names.lookup y=some .cell∨scope.names.lookup y=some .free:=hy;rcases hy with hy|hy
  ·exact qda hy
  ·exact absurd rfl (S.nofree _ (PySem.mem_of_lookup hy))
 ·exact Nat.le_of_lt (x.above y c (PySem.mem_of_lookup h))
 ·have hi:i<vs.length:=by
   unfold start at h2;by_cases hi:i<vs.length
   ·exact hi
   ·rw[xq (by simpa using hi)]at h2;rw[xy]at h2;split at h2<;>cases h2
  have ha:vs[i]? =some v:=by
   unfold start at h2;rw[kf (by simpa using hi),j9]at h2;cases e:vs[i]? with
   |none=>rw[e]at h2;cases h2
   |some a=>rw[e]at h2;cases h2;rfl
  obtain⟨u,hu,rv⟩:=r.get ha;have hp:ps[i]? =some y:=by rw[<-S.pre,List.getElem?_take_of_lt (by omega)];exact h1
  have ndP:ps.Nodup:=by rw[<-S.pre];exact S.nd.sublist (List.take_sublist _ _)
  refine⟨u,rv,?_⟩;rcases S.par y (xk hp)with k|k
  ·exact .inl ⟨k,qag ndP hp hu k⟩
  ·obtain⟨c,e⟩:=qda (n:=s.heap.objs.size+1) k;refine .inr ⟨.inl k,c,e,?_⟩;have q:=x.cell y c e;rw[qai ndP hp hu (by show scope.names.lookup y≠_;rw[k];decide)]at q;exact q
 ·exact e0.hok.fresh (Nat.le_of_lt (x.above y c (PySem.mem_of_lookup h)))
 ·unfold start;show _=N.length;rw[je,j4,jj];omega
theorem qtf{CX:CXT}{P:Program}{w:World}{K:FrG}{mg:Str->Option Value}{base:Heap}{k:Nat}{f:Addr}{name qual:Str}{params:Arguments}{body:List Stmt}{scope:Scope}{dV kV doc pm cdv ct oc:Value}{an od:Option Addr}
 {osl:Array (Option Value)} {N ps:List Str} {sp:Sp} (lk:K.lookup f=some ⟨oc,od,.func (PySem.W.fnOf name qual params body scope dV kV doc pm an cdv ct),osl⟩) (hcd:PySem.W.codeIn K cdv qual=true) (S:q0p N ps scope)
 (len:∀vs H Q E,sp vs H Q E->vs.length=ps.length)
 (zr:∀(A:Around) (outer:List Env) (s:Shared) (H:Hp) (vs:List V) (Q:VK) (E:XK),Room k (A.deeper (envOfC qual scope s.heap.objs.size f cdv))->sp vs H Q E->
   ∃t,PSs (cxOf CX P w K mg base N qual scope f cdv A outer s H E) body t/\t {nx:=λ_ H'=>Q .non H',rt:=Q} (start N vs) H):
 FnOk P w K mg base CX (k+1) f (PySem.W.fnOf name qual params body scope dV kV doc pm an cdv ct) ps sp:=by
 refine⟨len,λA outer s H args us vs Q E hr e0 hb r hsp=>?_⟩;have hl:=len _ _ _ _ hsp;have KX:K.In s.heap:=e0.mod.kin.keeps λb o e=>(e0.bs b o e).1;have lim:s.heap.NoLimit:=e0.mod.nolimit.keeps λb o e=>(e0.bs b o e).1;have hkind:∀y∈ps.zip us,scope.names.lookup y.1=some .local∨(scope.names.lookup y.1=some .cell/\((cellsFrom (s.heap.objs.size+1) scope.names []).lookup y.1).isSome=true):=λ⟨n,v⟩ hy=>by
  rcases S.par n (List.of_mem_zip hy).1 with q|q
  ·exact .inl q
  ·exact .inr ⟨q,PySem.W.cellsFrom_some _ _ _ (.inl q)⟩
 refine codeAny_call_function hr.depth (KX _ _ lk) rfl S.co S.gen rfl (PySem.W.codeRec_of KX hcd) (hb _ _ _ _ ?_);refine wpAny_newFunctionEnv_cells S.kind hkind λenv he s1 x=>?_;subst he;refine⟨lim.keeps x.toInCall.keep,codeAny_func ?_⟩;obtain⟨t,ht,hq⟩:=zr A outer s H vs Q E (hr.deeper _) hsp;have I:Inv (cxOf CX P w K mg base N qual scope f cdv A outer s H E) [] (start N vs) H s1:=qha S hr.hd e0 hl r x;refine x9 (ht [] s1 (start N vs) H _ I hq) (λfl s' hs=>?_) λe s' hs=>hs;have fin:∀{σ':St} {H':Hp} {v:V} {u:Value},Inv (cxOf CX P w K mg base N qual scope f cdv A outer s H E) [] σ' H' s'->RelV v u->Q v H'->CE outer P w H s Q u s':=
  λ{σ' H' v u} J rv q=>⟨v,H',J.os,J.bare,J.base,J.hok,rv,q⟩
 cases fl with
 | ret u=>
  obtain⟨v,σ',H',J,rv,q⟩:=hs;exact fin J rv q
 | next=>
  obtain⟨σ',H',J,q⟩:=hs;exact fin (v:=V.non) (u:=Value.none) J rfl q
 | brk=>
  obtain⟨_,_,_,q⟩:=hs;exact False.elim q
 | cont=>
  obtain⟨_,_,_,q⟩:=hs;exact False.elim q
section
variable{X:Cx}{x:Str}{p pos:Pos}{e:Expr}{es:List Expr}{t:TA}{id T:String}{r:List V->Hp->VK->Prop}
def tCB(r:List V->Hp->VK->Prop)(t:TA):TE:=λσ H Q=>t σ H λvs H1=>r vs H1 Q
theorem q11(hc:q4i X (.builtin id) r)(hg:Gl X x)(hm:X.mg x=none)(hv:bootBuiltins x=some (.builtin id))(ha:PA X (e::es) t)(hn:x≠"__name__":=by decide)(hdb:(x==("__debug__":Str))=false:=by decide)
 (he:starEach (e::es) X.env=(false,eval e X.env)::starEach es X.env:=by rfl) (hpl:(backTo pos (starEach es X.env)).any (·.1)=false:=by rfl):PE X (.Call (.Name x p) (e::es) [] pos) (tCB r t):=by
 intro z5 s σ H Q I h;refine xj (q41 I hg hm hv ?_ hn hdb);exact PyProof.Rows.callWith_builtin1 (thn (ha pos z5 s σ H _ I h) λus s1 ⟨vs,H1,I1,r1,q1⟩=>hc z5 s1 σ H1 vs us Q I1 r1 q1) he hpl
theorem q2v(hc:q4i X (.type T) r)(hg:Gl X x)(hm:X.mg x=none)(hv:bootBuiltins x=some (.type T))(ha:PA X (e::es) t)(hn:x≠"__name__":=by decide)(hdb:(x==("__debug__":Str))=false:=by decide)
 (he:starEach (e::es) X.env=(false,eval e X.env)::starEach es X.env:=by rfl) (hpl:(backTo pos (starEach es X.env)).any (·.1)=false:=by rfl):PE X (.Call (.Name x p) (e::es) [] pos) (tCB r t):=by
 intro z5 s σ H Q I h;refine xj (q41 I hg hm hv ?_ hn hdb);exact PyProof.Rows.callWith_type1 (thn (ha pos z5 s σ H _ I h) λus s1 ⟨vs,H1,I1,r1,q1⟩=>hc z5 s1 σ H1 vs us Q I1 r1 q1) he hpl
end
end L2
namespace HT
open PySem PyProof.Rows
def lexLt:List Int->List Int->Bool
 |[],[]=>false
 |[],_::_=>true
 |_::_,[]=>false
 |x::xs,y::ys=>if x=y then lexLt xs ys else decide (x<y)
theorem lexLt_cons(x y:Int)(xs ys:List Int):lexLt (x::xs) (y::ys)=if x=y then lexLt xs ys else decide (x<y):=rfl
theorem eqAt_int(A:Around)(s:Shared)(a:Int)(t:Tok)(c:Int)(u:Tok):∃e,SeqAt.EqAt A s (.int a t) (.int c u) e/\(e=true↔a=c):=
 ⟨(a==c),SeqAt.EqAt.int_int a t c u,by simp⟩
theorem rcLt_int(A:Around)(s:Shared)(a:Int)(t:Tok)(c:Int)(u:Tok)(prog:Program)(w:World)(E:Value->Shared->Prop)(Q:Value->Shared->Prop)(h:Q (.bool (decide (a<c))) s):
 wpAny (model prog w) A (richCompare .Lt (.int a t) (.int c u)) Q E s:=
 (PyProof.Rows.lt_int h:wpAny (model prog w) A (compareOp .Lt (.int a t) (.int c u)) Q E s)
section
open PySem.SeqAt
open PySem.AutoSeq1 (wpAny_loadPart')
open PySem.MeetsSeq PySem.MeetsSeq2 PySem.MeetsSeq3
end
section
variable{prog:Program}{w:World}{A:Around}{E:Value->Shared->Prop}{s:Shared}
def sIx(n d:Nat):Option Int->Nat
 |none=>d
 |some v=>if v<0 then(v+(n:Int)).toNat else min v.toNat n
theorem sIx_none(n d:Nat):sIx n d none=d:=rfl
theorem qq9(n d:Nat)(hd:d<=n)(o:Option Int):sIx n d o<=n:=by
 cases o with
 |none=>exact hd
 | some v=>
  show(if v<0 then(v+(n:Int)).toNat else min v.toNat n)<=n;by_cases hv:v<0
  ·rw[if_pos hv];omega
  ·rw[if_neg hv];exact Nat.min_le_right _ _
theorem qhs(v:Int)(n d:Nat):(if v<0 then max (v+(n:Int)) 0 else min v (n:Int))=((sIx n d (some v):Nat):Int):=by
 show(if v<0 then max (v+(n:Int)) 0 else min v (n:Int))=(((if v<0 then(v+(n:Int)).toNat else min v.toNat n):Nat):Int);by_cases hv:v<0
 ·simp only[if_pos hv];omega
 ·simp only[if_neg hv];omega
theorem qev(lo hi:Option Int)(n:Nat):Builtin.Slice.sliceAdjust lo hi 1 (n:Int)=(((sIx n 0 lo:Nat):Int),((sIx n n hi:Nat):Int)):=by
 have h1:¬((1:Int)<0):=by omega
 unfold Builtin.Slice.sliceAdjust;simp only[h1,if_false];refine Prod.ext ?_ ?_
 ·cases lo with
  |none=>rfl
  |some v=>exact qhs v n 0
 ·cases hi with
  |none=>rfl
  |some v=>exact qhs v n n
theorem qe4(i j:Nat):Builtin.Slice.slicePlaces (i:Int) (j:Int) 1=j-i:=by
 unfold Builtin.Slice.slicePlaces;have h1:(1:Int)>0:=by omega
 simp only[h1,if_true,Int.ediv_one];split<;>omega
theorem q81{v:Value}{o:Option Int}{Q:Option Int->Shared->Prop}(p:IsPart v o)(h:Q o s):wpAny (model prog w) A (Builtin.Slice.slicePartIndex v) Q E s:=by
 cases p with
 |none=>exact slicePart_none h
 |int i t=>exact slicePart_int h
theorem q6g{sl:Addr}{vl vu:Value}{lo hi:Option Int}{n:Nat}{Q:Int×Int×Nat->Shared->Prop}(hs:s.heap.IsSliceOf sl vl vu .none)(pl:IsPart vl lo)(pu:IsPart vu hi)
 (h:Q (((sIx n 0 lo:Nat):Int),1,sIx n n hi-sIx n 0 lo) s):wpAny (model prog w) A (Builtin.Slice.sliceApplied (.ref sl) (pure (n:Int))) Q E s:=by
 obtain⟨os,hos,hcs,hds⟩:=id hs;unfold Builtin.Slice.sliceApplied Builtin.Slice.sliceFields;refine j3 (j3 (xc hos hds (x:=vl) rfl (j3 (xc hos hds (x:=vu) rfl (j3 (xc hos hds (x:=.none) rfl (j5 ?_)))))));refine j3 (slicePart_none ?_);show wpAny _ _ (if((1:Int)==0)=true then _ else _) _ _ s;rw[if_neg (by decide)];refine j3 (q81 pl (j3 (q81 pu (j3 (j5 ?_)))));show wpAny _ _ (match Builtin.Slice.sliceAdjust lo hi 1 (n:Int)with|(lo,hi)=>pure (lo,(1:Int),Builtin.Slice.slicePlaces lo hi 1)) _ _ s;rw[qev lo hi n];show wpAny _ _ (pure (((sIx n 0 lo:Nat):Int),(1:Int),Builtin.Slice.slicePlaces ((sIx n 0 lo:Nat):Int) ((sIx n n hi:Nat):Int) 1)) _ _ s;rw[qe4];exact j5 h
theorem qiv(xs:Array Value)(i k:Nat):((List.range k).filterMap λ(m:Nat)=>xs[((i:Int)+(m:Int)*1).toNat]?).toArray=((xs.toList.drop i).take k).toArray:=by
 have e:(λ(m:Nat)=>xs[((i:Int)+(m:Int)*1).toNat]?)=λm=>xs[i+m]? :=by
  funext m;have:((i:Int)+(m:Int)*1).toNat=i+m:=by omega
  rw[this]
 rw[e];have:=pick_run xs i k;rw[List.filterMap_map]at this;have e2:((λx=>xs[x]?)∘λx=>i+x)=λm=>xs[i+m]? :=rfl;rw[e2]at this;rw[this]
theorem getItem_tuple_cut{t sl:Addr}{items:Array Value}{vl vu:Value}{lo hi:Option Int}{Q:Value->Shared->Prop}(ht:IsTup s.heap t items)(hs:s.heap.IsSliceOf sl vl vu .none)(pl:IsPart vl lo)(pu:IsPart vu hi)
 (hw:¬(sIx items.size 0 lo=0/\sIx items.size items.size hi=items.size))
 (h:Q (.ref s.heap.objs.size) {s with heap:=s.heap.push {cls:=.type "tuple",data:=.seq ((items.toList.drop (sIx items.size 0 lo)).take (sIx items.size items.size hi-sIx items.size 0 lo)).toArray}})
 (hsz:items.size<=sizeLine):wpAny (model prog w) A (getItem (.ref t) (.ref sl)) Q E s:=by
 have htake:sizeOk (.seq ((items.toList.drop (sIx items.size 0 lo)).take (sIx items.size items.size hi-sIx items.size 0 lo)).toArray):=by show((items.toList.drop (sIx items.size 0 lo)).take (sIx items.size items.size hi-sIx items.size 0 lo)).toArray.size<=sizeLine;rw[jq,x6,xf,Array.length_toList];omega
 have hj:sIx items.size items.size hi<=items.size:=qq9 _ _ (j8 _) hi;obtain⟨os,hos,hcs,hds⟩:=id hs;have hTs:s.TypeIs (.ref sl) "slice":=⟨os,hos,hcs⟩;unfold getItem
 try with_reducible refine xi ?_
 first|refine j3 (j5 ?_)|skip
 refine j3 (wpAny_sequenceKey ht.typeIs (by decide) ?_);refine j3 (k6 (name:=Str.ofString "__getitem__") ht.typeIs PyProof.Rows.slot_tuple_getitem
  (xv PyProof.Rows.slot_tuple_getitem ht.typeIs entry_tuple_getitem ?_ (args_tuple_getitem _ _)))
 show wpAny _ _ (Builtin.Tuple.tupleItemsOf (.ref t) >>= _) _ _ s;refine j3 (tupleItemsOf_ ht ?_);refine j3 (wpAny_typeOf hTs ?_);rw[if_pos (by decide)];refine j3 (q6g hs pl pu ?_);have hno:¬((((sIx items.size 0 lo:Nat):Int)==0&&(1:Int)==1&&(sIx items.size items.size hi-sIx items.size 0 lo)==items.size)=true):=by intro q;rw[Bool.and_eq_true,Bool.and_eq_true]at q;have q1:((sIx items.size 0 lo:Nat):Int)=0:=eq_of_beq q.1.1;have q2:sIx items.size items.size hi-sIx items.size 0 lo=items.size:=eq_of_beq q.2;exact hw ⟨by omega,by omega⟩
 show wpAny _ _ (if(((sIx items.size 0 lo:Nat):Int)==0&&(1:Int)==1&&(sIx items.size items.size hi-sIx items.size 0 lo)==items.size)=true then _ else _) _ _ s;rw[if_neg hno,qiv]
 first
  |exact j3 (m:=Builtin.Tuple.tupleExact _) (xl (j5 ⟨_,rfl,j5 h⟩) htake)
  |exact j3 (m:=Builtin.Tuple.tupleExact _) (xl (j3 (j5 (j5 ⟨_,rfl,j5 h⟩))) htake)
  |exact j3 (j3 (m:=Builtin.Tuple.tupleExact _) (xl (j5 (j5 ⟨_,rfl,j5 h⟩)) htake))
  |exact j3 (j3 (m:=Builtin.Tuple.tupleExact _) (xl (j5 ⟨_,rfl,j5 h⟩) htake))
end
end HT
namespace L2
open PySem PySem.Spec PyProof.Rows
abbrev TO:=St->Hp->(Option Int->Hp->Prop)->Prop
def PO(X:Cx)(e:Option Expr)(t:TO):Prop:=
 ∀(z5:List (Addr×Obj)) (s:Shared) (σ:St) (H:Hp) (Q:Option Int->Hp->Prop),Inv X z5 σ H s->t σ H Q->
   wpAny (model X.prog X.w) X.A (evalPart e X.env) (λu s'=>∃o H',Inv X z5 σ H' s'/\IsPart u o/\Q o H') X.xe s
def qf2:TO:=λ_ H Q=>Q none H
def qpb(t:TE):TO:=λσ H Q=>t σ H λx H1=>∃i,x=.int i/\Q (some i) H1
theorem intsAre_of{ns:List Int}:∀{us:List Value},Vals (ns.map V.int) us->IntsAre us ns:=by
 induction ns with
 |nil=>intro us r;rw[List.map_nil]at r;cases r;exact .nil
 | cons n ns ih=>
  intro us r;rw[jr]at r;cases r with
  | cons r1 r2=>
   obtain⟨t,e⟩:=r1;subst e;exact .cons n t (ih r2)
section
variable{X:Cx}{e:Expr}{te:TE}{lo hi:Option Expr}{tl th:TO}{pos p2:Pos}
theorem q48:PO X none qf2:=by intro z5 s σ H Q I h;rw[evalPart_none];exact j5 ⟨none,H,I,.none,h⟩
theorem q3f(h:PE X e te):PO X (some e) (qpb te):=by intro z5 s σ H Q I hw;rw[evalPart_some];refine thn (h z5 s σ H _ I hw) λu s1 ⟨x,H1,I1,r1,q1⟩=>?_;obtain⟨i,rfl,q⟩:=q1;obtain⟨t,rfl⟩:=r1;exact⟨some i,H1,I1,.int i t,q⟩
def SlR(X:Cx)(r:V->Option Int->Option Int->Hp->VK->Prop):Prop:=
 ∀(z5:List (Addr×Obj)) (s:Shared) (σ:St) (H:Hp) (x:V) (v vl vu:Value) (lo hi:Option Int) (sl:Addr) (Q:VK),Inv X z5 σ H s->RelV x v->s.heap.IsSliceOf sl vl vu .none->IsPart vl lo->IsPart vu hi->r x lo hi H Q->
   ∃T id,typeLookup (.type T) "__getitem__"=pure (some (.builtin id))/\s.TypeIs v T/\wpAny (model X.prog X.w) X.A (getItem v (.ref sl)) (EP X z5 σ Q) X.xe s
theorem SlR.or{r r':V->Option Int->Option Int->Hp->VK->Prop}(h:SlR X r)(h':SlR X r'):SlR X (λx lo hi H Q=>r x lo hi H Q∨r' x lo hi H Q):=by
 intro z5 s σ H x v vl vu lo hi sl Q I rx hs pl pu q;rcases q with q|q
 ·exact h z5 s σ H x v vl vu lo hi sl Q I rx hs pl pu q
 ·exact h' z5 s σ H x v vl vu lo hi sl Q I rx hs pl pu q
def tSl(r:V->Option Int->Option Int->Hp->VK->Prop)(te:TE)(tl th:TO):TE:=λσ H Q=>te σ H λx H1=>tl σ H1 λl H2=>th σ H2 λu H3=>r x l u H3 Q
theorem q34{r:V->Option Int->Option Int->Hp->VK->Prop}(hr:SlR X r)(he:PE X e te)(hl:PO X lo tl)(hu:PO X hi th):PE X (.Subscript e (.Slice lo hi none p2) pos) (tSl r te tl th):=by intro z5 s σ H Q I h;refine Subscript_ (thn (he z5 s σ H _ I h) λv s1 ⟨x,H1,I1,r1,q1⟩=>?_);refine wpAny_Slice (thn (hl z5 s1 σ H1 _ I1 q1) λvl s2 ⟨l,H2,I2,pl,q2⟩=>thn (hu z5 s2 σ H2 _ I2 q2) λvu s3 ⟨u,H3,I3,pu,q3⟩=>?_);rw[evalPart_none];refine j5 ?_;have I4:Inv X z5 σ H3 {s3 with heap:=s3.heap.push {cls:=.type "slice",data:=.fields #[vl,vu,.none]}}:=I3.kept (t':=s3.toks) λb ob q=>j7 _ q;obtain⟨T,id,hT,ht,hg⟩:=hr z5 {s3 with heap:=s3.heap.push {cls:=.type "slice",data:=.fields #[vl,vu,.none]}} σ H3 x v vl vu l u s3.heap.objs.size Q I4 r1 (Heap.IsSliceOf.new ..) pl pu q3;show wpAny (model X.prog X.w) X.A (subscriptTail e (.Slice lo hi none p2) v (.ref s3.heap.objs.size)) (EP X z5 σ Q) X.xe {s3 with heap:=s3.heap.push {cls:=.type "slice",data:=.fields #[vl,vu,.none]}};exact tail_any (ops:=[.ref s3.heap.objs.size,v]) ht hT hg (by with_unfolding_all rfl)
def cutV(xs:List V)(lo hi:Option Int):List V:=(xs.drop (HT.sIx xs.length 0 lo)).take (HT.sIx xs.length xs.length hi-HT.sIx xs.length 0 lo)
theorem q7n(xs:List V)(lo hi:Option Int):(cutV xs lo hi).length<=xs.length:=by unfold cutV;rw[x6,xf];omega
def rSlT(K:FrG):V->Option Int->Option Int->Hp->VK->Prop:=λx lo hi H Q=>∃a xs,x=.ref a/\SqT K H a xs/\
 ¬(HT.sIx xs.length 0 lo=0/\HT.sIx xs.length xs.length hi=xs.length)/\∀p,H p=none->Q (.ref p) (upd H p (.tup (cutV xs lo hi)))
theorem qpn:SlR X (rSlT X.K):=by
 intro z5 s σ H x v vl vu lo hi sl Q I rx hs pl pu h;obtain⟨a,xs,rfl,hx,hw,q⟩:=h;cases rx;obtain⟨its,r,ht,hz⟩:=I.tuple hx;have ze:its.toArray.size=xs.length:=by rw[jq];exact r.length.symm
 refine⟨"tuple",_,PyProof.Rows.slot_tuple_getitem.lookup,ht.typeIs,?_⟩;refine HT.getItem_tuple_cut ht hs pl pu (by rw[ze];exact hw) ?_ (by rw[ze];exact hz);rw[ze];refine⟨.ref s.heap.objs.size,_,I.laid (t':=s.toks) (o:=.tup (cutV xs lo hi)) (λb ob q=>j7 _ q) (j8 _) ?_,rfl,q _ (I.hok.fresh (j8 _))⟩;exact⟨ju (q7n xs lo hi) hz,_,(r.drop (HT.sIx xs.length 0 lo)).take (HT.sIx xs.length xs.length hi-HT.sIx xs.length 0 lo),TupN.new _ _⟩
theorem Vals.nil_iff{xs:List V}{us:List Value}(r:Vals xs us):us=[]↔xs=[]:=by
 cases r with
 |nil=>simp
 |cons _ _=>simp
end
def ixN(n:Nat)(i:Int):Option Nat:=if 0<=i then(if i<n then some i.toNat else none)else if -(n:Int)<=i then some (i+n).toNat else none
def atI{α:Type}(xs:List α)(i:Int):Option α:=(ixN xs.length i).bind λj=>xs[j]?
theorem qh8{n:Nat}{i:Int}{j:Nat}(h:ixN n i=some j):seqIndex? i n=some j/\j<n/\ -(n:Int)<=i/\i<n:=by
 unfold ixN at h;by_cases h0:0<=i
 ·rw[if_pos h0]at h;by_cases h1:i<n
  ·rw[if_pos h1]at h;have e:i.toNat=j:=ja h;exact⟨by rw[seqIndex_of h0 h1,e],by omega,by omega,h1⟩
  ·rw[if_neg h1]at h;cases h
 ·rw[if_neg h0]at h;by_cases h1: -(n:Int)<=i
  ·rw[if_pos h1]at h;have e:(i+n).toNat=j:=ja h;exact⟨by rw[seqIndex_neg (by omega) h1,e],by omega,h1,by omega⟩
  ·rw[if_neg h1]at h;cases h
theorem qbx{α:Type}{xs:List α}{i:Int}{v:α}(h:atI xs i=some v):∃j,seqIndex? i xs.length=some j/\xs[j]? =some v/\j<xs.length/\ -(xs.length:Int)<=i/\i<xs.length:=by
 unfold atI at h;cases e:ixN xs.length i with
 |none=>rw[e]at h;cases h
 | some j=>
  rw[e]at h;obtain⟨h1,h2,h3,h4⟩:=qh8 e;exact⟨j,h1,h,h2,h3,h4⟩
theorem qbw{α:Type}{xs:List α}{j:Nat}{v:α}(h:xs[j]? =some v):atI xs (j:Int)=some v:=by
 have hj:j<xs.length:=(List.getElem?_eq_some_iff.mp h).1;have e:ixN xs.length (j:Int)=some j:=by unfold ixN;rw[if_pos (by omega),if_pos (by omega)];simp
 unfold atI;rw[e];exact h
def qp2(b:Expr):Prop:=∀o i,subscripted b false o i=operate [o,i] (getItem o i)
def IxR(X:Cx)(r:R2):Prop:=
 ∀(value zi:Expr) (z5:List (Addr×Obj)) (s:Shared) (σ:St) (H:Hp) (x y:V) (v u:Value) (Q:VK),Inv X z5 σ H s->RelV x v->RelV y u->r x y H Q->
   subscripted zi false v u=operate [v,u] (getItem v u)->wpAny (model X.prog X.w) X.A (subscriptTail value zi v u) (EP X z5 σ Q) X.xe s
def MtR(X:Cx)(id:String)(r:V->List V->Hp->VK->Prop):Prop:=
 ∀(z5:List (Addr×Obj)) (s:Shared) (σ:St) (H:Hp) (x:V) (xs:List V) (v:Value) (us:List Value) (Q:VK),Inv X z5 σ H s->RelV x v->Vals xs us->r x xs H Q->
   wpAny (model X.prog X.w) X.A (call (.builtin id) (v::us)) (EP X z5 σ Q) X.xe s
section
variable{X:Cx}{a b:Expr}{ta tb:TE}{pos:Pos}
theorem IxR.or{r r':R2}(h:IxR X r)(h':IxR X r'):IxR X (λx y H Q=>r x y H Q∨r' x y H Q):=by
 intro value zi z5 s σ H x y v u Q I rx ry q hs;rcases q with q|q
 ·exact h value zi z5 s σ H x y v u Q I rx ry q hs
 ·exact h' value zi z5 s σ H x y v u Q I rx ry q hs
theorem q1g{r:R2}(hr:IxR X r)(ha:PE X a ta)(hb:PE X b tb)(hs:qp2 b:=by exact λ_ _=>rfl):PE X (.Subscript a b pos) (tOp r ta tb):=by intro z5 s σ H Q I h;exact Subscript_ (binT ha hb I h λv u s2 x y H2 I2 rx ry q=>hr a b z5 s2 σ H2 x y v u Q I2 rx ry q (hs _ _))
def rIxL(K:FrG):R2:=λx y H Q=>∃p xs i v,x=.ref p/\y=.int i/\SqL K H p xs/\atI xs i=some v/\Q v H
def rIxT(K:FrG):R2:=λx y H Q=>∃p xs i v,x=.ref p/\y=.int i/\SqT K H p xs/\atI xs i=some v/\Q v H
def rIxS:R2:=λx y H Q=>∃z i c,x=.str z/\y=.int i/\z.length<=sizeLine/\atI z.cps.toList i=some c/\Q (.str ⟨#[c]⟩) H
theorem ix_list:IxR X (rIxL X.K):=by
 intro value zi z5 s σ H x y v u Q I rx ry h hs;obtain⟨p,xs,i,z,rfl,rfl,hq,he,q⟩:=h;cases rx;obtain⟨t,rfl⟩:=ry;obtain⟨its,r,pl,hz⟩:=I.list hq;obtain⟨j,h1,h2,h3,h4,h5⟩:=qbx he;obtain⟨w,ew,rw'⟩:=r.get h2;have hl:=r.length;have hn:=qa0;have fin:EP X z5 σ Q w s:=⟨z,H,I,rw',q⟩;by_cases h0:0<=i
 ·have hj:i.toNat=j:=by
   rw[seqIndex_of h0 h5]at h1;exact ja h1
  exact item_listR pl.isList h0 (by omega) (by rw[hj];simpa using ew) fin hs
 ·have hj:(i+(its.toArray.size:Int)).toNat=j:=by
   rw[seqIndex_neg (by omega) h4]at h1;rw[jq,<-hl];exact ja h1
  exact subscriptTail_builtinR (x:=w) pl.isList.typeIs slot_list_getitem.lookup
   (wpAny_getItem_list_neg (Q:=λr s'=>r=w/\EP X z5 σ Q r s') pl.isList (by omega) (by rw[jq]<;>omega) (by omega) (by rw[hj];simpa using ew) ⟨rfl,fin⟩) hs
theorem ix_tup:IxR X (rIxT X.K):=by
 intro value zi z5 s σ H x y v u Q I rx ry h hs;obtain⟨p,xs,i,z,rfl,rfl,hq,he,q⟩:=h;cases rx;obtain⟨t,rfl⟩:=ry;obtain⟨its,r,pl,hz⟩:=I.tuple hq;obtain⟨j,h1,h2,h3,h4,h5⟩:=qbx he;obtain⟨w,ew,rw'⟩:=r.get h2;have hl:=r.length;have hn:=qa0;have fin:EP X z5 σ Q w s:=⟨z,H,I,rw',q⟩;exact subscriptTail_builtinR (x:=w) pl.typeIs slot_tuple_getitem.lookup
  (getItem_tuple (j:=j) (Q:=λr s'=>r=w/\EP X z5 σ Q r s') pl (by omega) (by omega) (by rw[jq,<-hl];exact h1) (by simpa using ew) ⟨rfl,fin⟩) hs
theorem qt2:IxR X rIxS:=by
 intro value zi z5 s σ H x y v u Q I rx ry h hs;obtain⟨z,i,c,rfl,rfl,hz,he,q⟩:=h;obtain⟨t,rfl⟩:=rx;obtain⟨t',rfl⟩:=ry;obtain⟨j,h1,h2,h3,h4,h5⟩:=qbx he;have hl:z.cps.toList.length=z.length:=by simp[Str.length]
 rw[hl]at h1 h4 h5;have hn:=qa0;exact tail_any (typeIs_str s z t) slot_str_getitem.lookup (getItem_str (c:=c) (by have e1:decide (i< -(2^63:Int))=false:=decide_eq_false (by omega);have e2:decide (i≥2^63)=false:=decide_eq_false (by omega);rw[e1,e2,Bool.or_false]) (by rw[h1];simpa using h2) ⟨.str ⟨#[c]⟩,H,I.tok _,⟨_,rfl⟩,q⟩) hs
def rIx(K:FrG):R2:=λx y H Q=>rIxL K x y H Q∨rIxT K x y H Q∨rIxS x y H Q
theorem qt3:IxR X (rIx X.K):=ix_list.or (ix_tup.or qt2)
theorem qee(its:List Value)(n j:Nat)(u:Value):Obj.mapSeq (·.setIfInBounds j u) {cls:=.type "list",data:=.seq its.toArray n}={cls:=.type "list",data:=.seq (its.set j u).toArray n}:=by simp[Obj.mapSeq]
theorem Inv.lst{z5:List (Addr×Obj)}{σ:St}{H:Hp}{s:Shared}{p:Addr}{xs:List V}(I:Inv X z5 σ H s)(h:H p=some (.lst xs)):
 ∃(its:List Value) (n:Nat),Vals xs its/\s.heap.get? p=some {cls:=.type "list",data:=.seq its.toArray n}/\xs.length<=sizeLine:=by
 obtain⟨z,its,n,r,e⟩:=I.hok p _ h;exact⟨its,n,r,e,z⟩
theorem Inv.lstUpd{z5:List (Addr×Obj)}{σ:St}{H:Hp}{s:Shared}{p:Addr}{xs ys:List V}{its its':List Value}{n n':Nat}{f:Obj->Obj}(I:Inv X z5 σ H s)(h:H p=some (.lst xs))
 (ho:s.heap.get? p=some {cls:=.type "list",data:=.seq its.toArray n}) (hf:f {cls:=.type "list",data:=.seq its.toArray n}={cls:=.type "list",data:=.seq its'.toArray n'}) (r:Vals ys its') (hz:ys.length<=sizeLine) (t:Nat):
 Inv X z5 σ (upd H p (.lst ys)) {s with heap:=s.heap.update p f,toks:=t}:=by
 have e:(s.heap.update p f).get? p=some {cls:=.type "list",data:=.seq its'.toArray n'}:=by rw[xw f ho (by rw[hf]<;>rfl),hf]
 refine I.write (x:=p) (e:=p) (by rw[h];trivial) (.inl rfl) (λb u hb q=>(xm _ _ (Ne.symm hb)).trans q) ⟨_,e⟩ ?_;exact⟨hz,its',n',r,e⟩
def qqb:V->V->V->Hp->(Hp->Prop)->Prop:=λo i v H Q=>∃p xs k j,o=.ref p/\i=.int k/\H p=some (.lst xs)/\ixN xs.length k=some j/\Q (upd H p (.lst (xs.set j v)))
theorem set_list:PSet X qqb:=by
 intro z5 s σ H o i v ov iv u Q I ro ri rv h;obtain⟨p,xs,k,j,rfl,rfl,hp,hj,q⟩:=h;cases ro;obtain⟨t,rfl⟩:=ri;obtain⟨its,n,r,ho,hz⟩:=I.lst hp;obtain⟨h1,h2,h3,h4⟩:=qh8 hj;have hl:=r.length;have hn:=qa0;have I':Inv X z5 σ (upd H p (.lst (xs.set j v))) {s with heap:=s.heap.update p (Obj.mapSeq (·.setIfInBounds j u))}:=
  I.lstUpd hp ho (qee its n j u) (r.set rv j) (by rw[jx];exact hz) s.toks
 by_cases h0:0<=k
 ·have hk:k.toNat=j:=by
   rw[seqIndex_of h0 h4]at h1;exact ja h1
  exact PySem.W.ki_setAt ho h0 (by omega) (by rw[jq,<-hl];exact h4) (by rw[hk];exact⟨_,I',q⟩)
 ·have hk:(k+(its.toArray.size:Int)).toNat=j:=by
   rw[seqIndex_neg (by omega) h3]at h1;rw[jq,<-hl];exact ja h1
  exact PySem.W.ki_setBack ho (by omega) (by rw[jq,<-hl];exact h3) (by omega) (by rw[hk];exact⟨_,I',q⟩)
theorem q9i(lo hi:Option Int)(n:Nat):(sliceBounds lo hi none n).1=((HT.sIx n 0 lo:Nat):Int)/\(sliceBounds lo hi none n).2.1=((HT.sIx n n hi:Nat):Int)/\(sliceBounds lo hi none n).2.2=1:=by
 refine⟨?_,?_,rfl⟩
 ·cases lo with
  |none=>simp[sliceBounds,HT.sIx]
  | some i=>
   simp only[sliceBounds,HT.sIx,Option.getD_none,show(1:Int)>0 by decide,if_true];by_cases h:i<0
   ·simp only[h,if_true]<;>omega
   ·simp only[h,if_false]<;>omega
 ·cases hi with
  |none=>simp[sliceBounds,HT.sIx]
  | some i=>
   simp only[sliceBounds,HT.sIx,Option.getD_none,show(1:Int)>0 by decide,if_true];by_cases h:i<0
   ·simp only[h,if_true]<;>omega
   ·simp only[h,if_false]<;>omega
theorem q8n(its:List Value)(lo hi:Option Int):slicePick its.toArray lo hi none=((its.drop (HT.sIx its.length 0 lo)).take (HT.sIx its.length its.length hi-HT.sIx its.length 0 lo)).toArray:=by obtain⟨h1,h2,h3⟩:=q9i lo hi its.toArray.size;unfold slicePick;rw[h1,h2,h3];simp only[sliceRange_one,pick_run,List.size_toArray]<;>rfl
def rSlL(K:FrG):V->Option Int->Option Int->Hp->VK->Prop:=λx lo hi H Q=>∃a xs,x=.ref a/\SqL K H a xs/\∀p,H p=none->Q (.ref p) (upd H p (.lst (cutV xs lo hi)))
theorem sl_list:SlR X (rSlL X.K):=by intro z5 s σ H x v vl vu lo hi sl Q I rx hs pl pu h;obtain⟨a,xs,rfl,hx,q⟩:=h;cases rx;obtain⟨its,r,ht,hz⟩:=I.list hx;have ze:=r.length;refine⟨"list",_,slot_list_getitem.lookup,ht.isList.typeIs,?_⟩;refine wpAny_getItem_list_slice ht.isList hs pl pu .none (by simp) ?_ (by rw[List.size_toArray]<;>omega);rw[q8n,<-ze];refine⟨.ref s.heap.objs.size,_,I.laid (t':=s.toks) (o:=.lst (cutV xs lo hi)) (λb ob q=>j7 _ q) (j8 _) ?_,rfl,q _ (I.hok.fresh (j8 _))⟩;exact⟨ju (q7n xs lo hi) hz,_,0,(r.drop (HT.sIx xs.length 0 lo)).take (HT.sIx xs.length xs.length hi-HT.sIx xs.length 0 lo),jf _ rfl⟩
theorem qae:q4i X (.builtin "len") (λxs H Q=>∃p ys,xs=[.ref p]/\(SqL X.K H p ys∨SqT X.K H p ys)/\Q (.int ys.length) H):=by
 intro z5 s σ H xs us Q I r h;obtain⟨p,ys,rfl,hq,q⟩:=h;obtain⟨u,rfl,rx⟩:=vals1 r;cases rx;have hn:=qa0;rcases hq with hq|hq
 ·obtain⟨its,r',pl,hz⟩:=I.list hq;have ze:=r'.length;exact Calls.call_len_list pl.isList (by simp only[List.size_toArray]<;>omega) ⟨.int ys.length,H,I.tok _,⟨s.toks+1,by rw[jq,ze]⟩,q⟩
 ·obtain⟨its,r',pl,hz⟩:=I.tuple hq;have ze:=r'.length;exact len_tuple pl (by simp only[List.size_toArray]<;>omega) ⟨.int ys.length,H,I.tok _,⟨s.toks+1,by rw[jq,ze]⟩,q⟩
theorem qad:q4i X (.type "list") (λxs H Q=>∃p ys,xs=[.ref p]/\(SqL X.K H p ys∨SqT X.K H p ys)/\∀l,H l=none->Q (.ref l) (upd H l (.lst ys))):=by
 intro z5 s σ H xs us Q I r h;obtain⟨p,ys,rfl,hq,q⟩:=h;obtain⟨u,rfl,rx⟩:=vals1 r;cases rx;have fin:∀(its:List Value),Vals ys its->ys.length<=sizeLine->∀(h':Heap) (c':Nat),(∀b o',s.heap.get? b=some o'->h'.get? b=some o')->
  h'.get? s.heap.objs.size=some {cls:=.type "list",dict:=none,data:=.seq its.toArray c',slots:=#[]}->EP X z5 σ Q (.ref s.heap.objs.size) {s with heap:=h'}:=λits r' hz h' c' kp e=>
  ⟨.ref s.heap.objs.size,_,I.laid (t':=s.toks) kp (j8 _) (show ObjOk X.prog X.w _ h' _ (.lst ys)from⟨hz,its,c',r',e⟩),rfl,q _ (I.hok.fresh (j8 _))⟩
 rcases hq with hq|hq
 ·obtain⟨its,r',pl,hz⟩:=I.list hq;have ze:=r'.length;obtain⟨o,ho,hc,n,hd⟩:=pl.isList;exact call_list_seq p (.inl rfl) ho hc hd (λh' c' kp e=>fin its r' hz h' c' kp e) (by simp only[List.size_toArray]<;>omega)
 ·obtain⟨its,r',pl,hz⟩:=I.tuple hq;have ze:=r'.length;obtain⟨o,ho,hc,n,hd⟩:=pl;exact call_list_seq p (.inr rfl) ho hc hd (λh' c' kp e=>fin its r' hz h' c' kp e) (by simp only[List.size_toArray]<;>omega)
theorem q97:q4i X (.type "tuple") (λxs H Q=>∃p ys,xs=[.ref p]/\((SqL X.K H p ys/\∀l,H l=none->Q (.ref l) (upd H l (.tup ys)))∨(SqT X.K H p ys/\Q (.ref p) H))):=by
 intro z5 s σ H xs us Q I r h;obtain⟨p,ys,rfl,h⟩:=h;obtain⟨u,rfl,rx⟩:=vals1 r;cases rx;rcases h with⟨hq,q⟩|⟨hq,q⟩
 ·obtain⟨its,r',pl,hz⟩:=I.list hq;have ze:=r'.length;refine call_tuple_list pl.isList (λh' kp=>?_) (by simp only[List.size_toArray]<;>omega);have I1:Inv X z5 σ H {s with heap:=h'}:=I.kept (t':=s.toks) kp;have I2:Inv X z5 σ (upd H h'.objs.size (.tup ys)) {s with heap:=h'.push {cls:=.type "tuple",data:=.seq its.toArray}}:=
   I1.laid (t':=s.toks) (λb o e=>j7 _ e) (j8 _) (show ObjOk X.prog X.w _ _ _ (.tup ys)from⟨hz,its,r',TupN.new _ _⟩)
  exact⟨.ref h'.objs.size,_,I2,rfl,q _ (I1.hok.fresh (j8 _))⟩
 ·obtain⟨its,r',pl,hz⟩:=I.tuple hq;exact call_tuple_same pl ⟨.ref p,H,I,rfl,q⟩
def tyV(K:FrG)(T:String)(x:V)(H:Hp):Prop:=match x with
 |.str _=>T="str"
 |.int _=>T="int"
 |.ref p=>(T="list"/\∃xs,SqL K H p xs)∨(T="tuple"/\∃o,K.lookup p=some o/\o.cls=.type "tuple"/\o.dict=none)∨
  (T="dict"/\((∃kvs,H p=some (.dK kvs))∨∃kvs,H p=some (.dT kvs)))∨(T="set"/\∃S n,H p=some (.set S n))
 |_=>False
theorem qp7{z5:List (Addr×Obj)}{σ:St}{H:Hp}{s:Shared}{T:String}{x:V}{v:Value}(I:Inv X z5 σ H s)(r:RelV x v)(ty:tyV X.K T x H):
 s.TypeIs v T/\∀a,v=.ref a->∃ob,s.heap.get? a=some ob/\ob.dict=none:=by
 cases x with
 | str z=>
  obtain⟨t,rfl⟩:=r;cases(show T="str" from ty);exact⟨typeIs_str s z t,λ_ e=>nomatch e⟩
 | int i=>
  obtain⟨t,rfl⟩:=r;cases(show T="int" from ty);exact⟨typeIs_int s i t,λ_ e=>nomatch e⟩
 | ref p=>
  cases r;rcases ty with⟨rfl,xs,hq⟩|⟨rfl,o,hk,hc,hd⟩|⟨rfl,hk⟩|⟨rfl,S,n,hk⟩
  ·obtain⟨its,_,pl,_⟩:=I.list hq;refine⟨pl.isList.typeIs,λa e=>?_⟩;cases e;obtain⟨o,n,e,c,hd,_⟩:=pl;exact⟨o,e,hd⟩
  ·refine⟨⟨o,I.kIn p o hk,hc⟩,λa e=>?_⟩;cases e;exact⟨o,I.kIn _ o hk,hd⟩
  ·have z:∃o,s.heap.get? p=some o/\o.ExactDict:=by
    rcases hk with⟨kvs,hk⟩|⟨kvs,hk⟩
    ·obtain⟨_,_,_,_,o,_,e,ex,_⟩:=I.hok p _ hk;exact⟨o,e,ex⟩
    ·obtain⟨_,_,_,_,o,_,_,e,ex,_⟩:=I.hok p _ hk;exact⟨o,e,ex⟩
   obtain⟨o,e,ex⟩:=z;refine⟨⟨o,e,ex.1⟩,λa e2=>?_⟩;cases e2;exact⟨o,e,ex.2.1⟩
  ·obtain⟨o,_,_,_,e,ex,_⟩:=I.hok p _ hk;refine⟨⟨o,e,ex.1⟩,λa e2=>?_⟩;cases e2;exact⟨o,e,ex.2.1⟩
 |_=>exact False.elim ty
def tBM(K:FrG)(T:String)(r:V->List V->Hp->VK->Prop)(to:TE)(t:TA):TE:=λσ H Q=>to σ H λx H1=>tyV K T x H1/\t σ H1 λxs H2=>r x xs H2 Q
variable{o e:Expr}{es:List Expr}{to:TE}{t:TA}{name:Str}{zu zq:Pos}{T id:String}{r:V->List V->Hp->VK->Prop}
theorem q9q(pa:PlainAttrs T)(slot:Slot T name id)(hty:typeOf (.builtin id)=pure (.type "method_descriptor"))(hm:MtR X id r)(ho:PE X o to)(ha:PA X (e::es) t)
 (hbase:attributeBase o name X.env (eval o X.env)=eval o X.env:=by rfl)
 (hfew:((backTo zq (starEach (e::es) X.env)).all (λx=>!x.1)&&(backToKw zq (keywordEach [] X.env)).all (λx=>x.1.isSome)
   &&decide ((e::es).length+([]:List Keyword).length+(if([]:List Keyword).isEmpty then 0 else 1)<30))=true:=by rfl)
 (hline:(zu.endLine==zq.line)=true:=by rfl) (hs:starEach (e::es) X.env=(false,eval e X.env)::starEach es X.env:=by rfl) (hplain:(backTo zq (starEach es X.env)).any (·.1)=false:=by rfl):
 PE X (.Call (.Attribute o name zu) (e::es) [] zq) (tBM X.K T r to t):=by
 intro z5 s σ H Q I h;refine wpAny_Call_method_late hbase hfew hline rfl (thn (ho z5 s σ H _ I h) λv s1 ⟨x,H1,I1,r1,ty,q1⟩=>?_);obtain⟨h1,h2⟩:=qp7 I1 r1 ty;refine⟨T,id,pa,slot,hty,h1,h2,?_⟩;have hA:=ha zq z5 s1 σ H1 _ I1 q1;rw[hs]at hA ⊢;refine Calls.callWith_builtin (by show(false||(backTo zq (starEach es X.env)).any (·.1))=false;rw[hplain]<;>rfl) (Calls.evalArgs_plain ?_);exact thn hA λus s2 ⟨vs,H2,I2,r2,q2⟩=>hm z5 s2 σ H2 x vs v us Q I2 r1 r2 q2
end
def MtM(X:Cx)(id:String)(r:V->List V->Hp->VK->Prop):Prop:=
 ∀(z5:List (Addr×Obj)) (s:Shared) (σ:St) (H:Hp) (x:V) (xs:List V) (v:Value) (us:List Value) (Q:VK),Inv X z5 σ H s->RelV x v->Vals xs us->r x xs H Q->
   wpAny (model X.prog X.w) X.A (call (.builtin id) (v::us)) (EP X z5 σ Q) X.xe s
theorem Vals.one:∀{x:V} {us:List Value},Vals [x] us->∃u,us=[u]/\RelV x u
 |_,_,.cons r .nil=>⟨_,rfl,r⟩
theorem Vals.reverse{xs:List V}{us:List Value}(h:Vals xs us):Vals xs.reverse us.reverse:=by
 induction h with
 |nil=>exact .nil
 |cons r t ih=>rw[List.reverse_cons,List.reverse_cons];exact Vals.append ih (.cons r .nil)
theorem Vals.rep{xs:List V}{us:List Value}(h:Vals xs us):∀k:Nat,Vals (List.replicate k xs).flatten (List.replicate k us).flatten
 |0=>.nil
 | k+1=>by rw[List.replicate_succ,List.replicate_succ,List.flatten_cons,List.flatten_cons];exact Vals.append h (Vals.rep h k)
theorem foldl_rep(its:List Value):∀(k:Nat) (acc:List Value),
 List.foldl (λx1 x2=>x1++x2) acc.toArray (List.replicate k its.toArray)=(acc++(List.replicate k its).flatten).toArray
 |0,acc=>by simp
 | k+1,acc=>by
  have e:acc.toArray++its.toArray=(acc++its).toArray:=by simp
  have e2:(acc++its)++(List.replicate k its).flatten=acc++(List.replicate (k+1) its).flatten:=by rw[List.replicate_succ,List.flatten_cons,List.append_assoc]
  rw[<-e2,<-foldl_rep its k (acc++its),<-e,List.replicate_succ,List.foldl_cons]
section
variable{X:Cx}{z5:List (Addr×Obj)}{σ:St}{H:Hp}{s:Shared}{l b:Addr}{xs ys zs:List V}
theorem Inv.lset{its its':List Value}{n:Nat}{f:Array Value->Array Value}{t':Nat}(I:Inv X z5 σ H s)(hH:H l=some (.lst xs))
 (e:s.heap.get? l=some {cls:=.type "list",data:=.seq its.toArray n}) (hf:f its.toArray=its'.toArray) (hv:Vals ys its') (hz:ys.length<=sizeLine):
 Inv X z5 σ (upd H l (.lst ys)) {s with heap:=s.heap.update l (Obj.mapSeq f),toks:=t'}:=by
 have q:=PySem.IsL.update e f;rw[hf]at q;refine I.write (x:=l) (e:=l) (by rw[hH];exact trivial) (.inl rfl) (λb' u hb hu=>(xm s.heap (Obj.mapSeq f) (Ne.symm hb)).trans hu) ⟨_,q⟩ ?_;exact⟨hz,its',_,hv,q⟩
theorem Inv.lnew{its:List Value}{t':Nat}(I:Inv X z5 σ H s)(hv:Vals ys its)(hz:ys.length<=sizeLine):
 Inv X z5 σ (upd H s.heap.objs.size (.lst ys)) {s with heap:=s.heap.push {cls:=.type "list",data:=.seq its.toArray},toks:=t'}:=
 I.laid (λ_ _ q=>j7 _ q) (j8 _) ⟨hz,its,0,hv,jf _ rfl⟩
theorem Inv.fresh(I:Inv X z5 σ H s):H s.heap.objs.size=none:=I.hok.fresh (j8 _)
theorem Inv.lstM(I:Inv X z5 σ H s)(hH:H l=some (.lst xs)):xs.length<=sizeLine/\∃(its:List Value) (n:Nat),Vals xs its/\xs.length=its.length/\s.heap.get? l=some {cls:=.type "list",data:=.seq its.toArray n}:=by obtain⟨z,its,n,r,e⟩:=I.hok l _ hH;exact⟨z,its,n,r,r.length,e⟩
theorem qcs{n:Nat}(h:n<=sizeLine):Builtin.List.listTooLong n=false:=by unfold Builtin.List.listTooLong;exact decide_eq_false (by omega)
end
section
variable{X:Cx}
def qav:V->List V->Hp->VK->Prop:=λx vs H Q=>∃l xs y,x=.ref l/\vs=[y]/\H l=some (.lst xs)/\xs.length<sizeLine/\Q .non (upd H l (.lst (xs++[y])))
theorem q3i:MtM X "list.append" qav:=by intro z5 s σ H x vs v us Q I rx rv h;obtain⟨l,xs,y,rfl,rfl,hH,hz,q⟩:=h;cases rx;obtain⟨u,rfl,ru⟩:=rv.one;obtain⟨z,its,n,r,hl,e⟩:=I.lstM hH;refine call_meets F.slot_list_append ⟨_,e,rfl⟩ F.entry_list_append (F.args_list_append_2 _ _) (PySem.list_append l its.toArray n u (by rw[jq];omega)) ⟨e,?_⟩;refine⟨.non,_,I.lset (its':=its++[u]) hH e (by simp) (r.append (.cons ru .nil)) ?_,rfl,q⟩;rw[je,List.length_singleton];omega
def qg3:V->List V->Hp->VK->Prop:=λx vs H Q=>∃l b xs zs,x=.ref l/\vs=[.ref b]/\H l=some (.lst xs)/\H b=some (.lst zs)/\xs.length+zs.length<=sizeLine/\Q .non (upd H l (.lst (xs++zs)))
theorem qgp:MtM X "list.extend" qg3:=by
 intro z5 s σ H x vs v us Q I rx rv h;obtain⟨l,b,xs,zs,rfl,rfl,hH,hB,hz,q⟩:=h;cases rx;obtain⟨u,rfl,ru⟩:=rv.one;cases ru;obtain⟨z,its,n,r,hl,e⟩:=I.lstM hH;obtain⟨z2,its2,n2,r2,hl2,e2⟩:=I.lstM hB;have hsz:its.toArray.size+its2.toArray.size<=sizeLine:=by rw[jq,jq];omega
 have hlong:¬(!its.toArray.isEmpty&&Builtin.List.listTooLong (its.toArray.size+its2.toArray.size))=true:=by rw[qcs hsz,Bool.and_false];exact Bool.false_ne_true
 refine call_meets F.slot_list_extend ⟨_,e,rfl⟩ F.entry_list_extend (F.args_list_extend_2 _ _)
  (AutoSeq1.list_extend_list_list_0 l its.toArray n b its2.toArray n2 hlong (by rw[jq];omega) (by omega)) ⟨e,e2,?_⟩
 refine⟨.non,_,I.lset (its':=its++its2) hH e (by simp) (r.append r2) ?_,rfl,q⟩;rw[je];omega
def rRep:R2:=λx y H Q=>∃l k xs,x=.ref l/\y=.int k/\H l=some (.lst xs)/\ -(2^63)<=k/\k<2^63/\xs.length*k.toNat<=sizeLine/\
 ∀p,H p=none->Q (.ref p) (upd H p (.lst (List.replicate k.toNat xs).flatten))
theorem len_rep{α:Type}(xs:List α)(k:Nat):(List.replicate k xs).flatten.length=k*xs.length:=by
 induction k with
 |zero=>simp
 |succ k ih=>rw[List.replicate_succ,List.flatten_cons,je,ih,Nat.succ_mul,Nat.add_comm]
theorem qcl:OpR X (binaryOp .Mult) rRep:=by
 intro z5 s σ H x y v u Q I rx ry h;obtain⟨l,k,xs,rfl,rfl,hH,h1,h2,hz,q⟩:=h;cases rx;obtain⟨t,rfl⟩:=ry;obtain⟨z,its,n,r,hl,e⟩:=I.lstM hH;have ze:its.toArray.size*k.toNat<=sizeLine:=by rw[jq,<-hl];exact hz
 have hcap:¬its.toArray.size*k.toNat>(2^63-1) / 8:=by
  have:(sizeLine:Nat)<=(2^63-1) / 8:=by decide
  omega
 have hfit:¬(!Builtin.List.listFitsIndex k)=true:=by rw[fitsIndex_both h1 h2];exact Bool.false_ne_true
 have hlong:¬Builtin.List.listTooLong (its.toArray.size*k.toNat)=true:=by rw[qcs ze];exact Bool.false_ne_true
 have hnew:List.foldl (λx1 x2=>x1++x2) #[] (List.replicate (if its.toArray.isEmpty=true then 0 else k.toNat) its.toArray)=(List.replicate k.toNat its).flatten.toArray:=by
  have f0:∀m:Nat,List.foldl (λx1 x2=>x1++x2) #[] (List.replicate m its.toArray)=(List.replicate m its).flatten.toArray:=λm=>by have:=foldl_rep its m [];rw[List.nil_append]at this;exact this
  rw[f0];cases its with
  |nil=>simp
  |cons a r'=>rw[if_neg (by simp)]
 refine wpAny_binaryOp_repeat_ref (T:="list") (U:="int") (by decide) ⟨_,e,rfl⟩ (λs'=>typeIs_int s' k t) noFill_list_mul F.fills_int_mul F.slot_int_rmul repeat_list F.slot_int_index.lookup
  (call_meets F.slot_int_rmul (typeIs_int s k t) F.entry_int_rmul (F.args_int_rmul_2 _ _) (int___rmul___int_list k t l its.toArray n)
    ⟨e,rfl,⟨_,e,rfl⟩,call_meets F.slot_list_mul ⟨_,e,rfl⟩ F.entry_list_mul (F.args_list_mul_2 _ _) (AutoListH.list___mul___list_int_3 l its.toArray n k t hfit hcap hlong) ⟨e,?_⟩⟩)
 rw[hnew];exact⟨.ref _,_,I.lnew (t':=s.toks) (r.rep k.toNat) (by rw[len_rep,Nat.mul_comm];exact hz),rfl,q _ I.fresh⟩
end
section
variable{prog:Program}{w:World}{A:Around}{E:Value->Shared->Prop}{s:Shared}
end
section
variable{X:Cx}
end
end L2
namespace Att
open PySem PySem.W PySem.Calls PyProof.Rows
theorem q7i{P:Params}{h:Heap}:∀(ns:List Int) (vs:List Value),WellAll P h vs (ns.map WData.int)->IntsAre vs ns:=by
 intro ns;induction ns with
 | nil=>
  intro vs w;rw[List.map_nil]at w;cases w;exact .nil
 | cons n ns ih=>
  intro vs w;rw[jr]at w;cases w with
  | cons a b=>
   cases a;exact .cons _ _ (ih _ b)
theorem qf8{l:OpenLaw}{n:Nat}(hn:l.most=some n){P:Params}{h:Heap}{args:List WData}{vals:List Value}
 (hpre:l.row.toRowW.claim.pre args=true) (hwl:WellAll P h vals args):
 ∃a vs ns,vals=[Value.ref a]/\args=[WData.list (ns.map WData.int)]/\h.get? a=some {cls:=.type "list",data:=.seq vs.toArray}/\IntsAre vs ns/\ns.length<=n:=by
 have hsh:WShape.hasAll [] args [.list .int]=true:=(pre_splitW hpre).1;have hc:l.pre.holds [] {args:=args}=true:=(pre_splitW hpre).2;obtain⟨d,r,rfl,h1,h2⟩:=hasAllW_cons hsh;obtain rfl:=hasAllW_nil h2;obtain⟨xs,rfl,h3⟩:=hasW_list h1;obtain⟨ns,rfl⟩:=items_int h3;have ze:ns.length<=n:=by
  unfold OpenLaw.pre at hc;have h4:(WTm.not (.lt (.lit (.int (n:Int))) (.len (.arg 0)))).holds [] {args:=[.list (ns.map .int)]}=true:=by have h4:=(holds_andW hc).1;rw[hn]at h4;exact h4
  have h5:=condW_of h4 (w_not (w_lt w_lit (w_len_list (w_arg rfl))));rw[j4]at h5;refine Nat.le_of_not_lt λq=>?_;have q':(n:Int)<((ns.length:Nat):Int):=by omega
  first
   |(rw[decide_eq_true q']at h5;exact absurd h5 (by decide))
   |(simp at h5;omega)
 cases hwl with
 | cons w1 w2=>
  cases w2;cases w1 with
  |list ho hall=>exact⟨_,_,ns,rfl,rfl,ho,q7i ns _ hall,ze⟩
theorem qg6(l:OpenLaw)(args:List WData):l.row.toRowW.claim.post args (.bool true) args=true:=
 postW_of (r:=l.row.toRowW) (X:=(true==true))
  (show WShape.has [] (.bool true) .bool=true by first|rfl|decide|simp[WShape.has,WShape.arms,WShape.armsAll])
  (show(WTm.eq .res (.lit (.bool true))).value [] {args:=args,res:=some (.bool true),after:=args}=some (.bool (true==true))from w_eq_bool (w_res rfl) w_lit) rfl
theorem attach_call{l:OpenLaw}{n:Nat}{q:Program}{loose:List Str}{XP:(Str->Option Value)->Heap->Prop}{YP:World->Heap->Prop}{d:DefRec}
 (hn:l.most=some n) (hdf:d.params.defaults=[])
 (call:∀(w:World) (s₀ s₁:Shared) (mg mb:Str->Option Value) (fa:Addr) (o:Obj) (pm cd doc:Value) (a:Addr) (vs:List Value) (ns:List Int),
   Ground q loose [] XP w s₀ mg mb s₁.heap->YP w s₁.heap->
   s₁.heap.get? fa=some o->o.data=.func (docDef d.name d.params d.body d.scope pm cd doc)->s₁.heap.CodeRec cd d.name->mg d.name=some (.ref fa)->
   s₁.heap.get? a=some {cls:=.type "list",data:=.seq vs.toArray}->IntsAre vs ns->ns.length<=n->s₁.gens=#[]->
   codeAny (model l.prog w) callerA (.call (.ref fa) ⟨[.ref a],[]⟩) (λr s'=>r=.ok (.ret (.bool true))/\OldK s₁.heap s'.heap/\s'.os=s₁.os/\AllBare s'.gens) s₁):
 WalkO q loose XP YP l.row.toRowW d [] (λf vs=>PySem.call f vs):=by
 intro w s₀ s₁ mg mb G Y fa o pm cd doc dV kV ho hd hcd hD hmg hg args vals as hpre hlay hrd hwl hlo;obtain rfl:dV=.none:=Dflts.none hD hdf;obtain rfl:kV=.none:=Dflts.noKw hD;obtain⟨a,vs,ns,rfl,rfl,hobj,zz,ze⟩:=qf8 hn hpre hwl;refine enter_call (codeAny_mono (call w s₀ s₁ mg mb fa o pm cd doc a vs ns G Y ho (fd_plain hd) hcd hmg hobj zz ze hg) λr s' hq=>?_);obtain⟨rfl,h2,h3,h4⟩:=hq;exact⟨.inl ⟨.bool true,.bool true,[],rfl,λ_=>rfl,.bool true,qg6 l _,λ_=>⟨List.Pairwise.nil,λ_ hm=>(nomatch hm)⟩⟩,h2,h3,h4⟩
section
variable{prog:Program}{w:World}{A:Around}{E:Value->Shared->Prop}{s:Shared}{K:Frag}
end
end Att
namespace L2
open PySem PySem.Spec PyProof.Rows
theorem q9d:∀{vs:List Value} {ns:List Int},IntsAre vs ns->Vals (ns.map V.int) vs
 |_,_,.nil=>.nil
 |_,_,.cons n t h=>.cons ⟨t,rfl⟩ (q9d h)
def Only(H:Hp):Prop:=∀b,H b=none∨∃o xs,H b=some (.frz o (.lst xs))
theorem qji{P:Program}{w:World}{K:FrG}{mg mb:Str->Option Value}{CX:CXT}{k:Nat}{fa a:Addr}{fd:FuncData}{x:Str}{sp:Sp}{s₁:Shared}{vs:List Value}{ns:List Int}
 (KX:K.In s₁.heap) (hns:s₁.heap.Ns mainGlobals mg) (hb:s₁.heap.Ns builtinsNs mb) (hbb:∀x:Str,x≠"__name__"->mb x=bootBuiltins x) (hlim:s₁.heap.NoLimit) (hg:s₁.gens=#[])
 (ha:s₁.heap.get? a=some {cls:=.type "list",data:=.seq vs.toArray}) (hi:IntsAre vs ns) (hl:ns.length<=sizeLine) (hr:Room k callerA)
 (F:∀base:Heap,K.In base->base.Ns mainGlobals mg->FnOk P w K mg base CX k fa fd [x] sp) (hbind:∀(s:Shared) (u:Value),BindsTo s fd ⟨[u],[]⟩ [(x,u)])
 (hsp:∀H:Hp,Only H->SqL K H a (ns.map V.int)->sp [.ref a] H (λv _=>v=.bl true) λ_ _ _=>False)
 (hCX:∀H e s',CX [] H s₁ (λ_ _ _=>False) e s'->False):
 codeAny (model P w) callerA (.call (.ref fa) ⟨[.ref a],[]⟩) (λr s'=>r=.ok (.ret (.bool true))/\OldK s₁.heap s'.heap/\s'.os=s₁.os/\AllBare s'.gens) s₁:=by
 have rv:=q9d hi;have lenV:=hi.length
 -- from an abstract heap in which nothing but the script may be tracked
 have core:∀H:Hp,Only H->SqL K H a (ns.map V.int)->HOk P w H s₁.heap->(∀b,H b≠none->b=a)->(H a≠none->K.lookup a=none)->
  codeAny (model P w) callerA (.call (.ref fa) ⟨[.ref a],[]⟩) (λr s'=>r=.ok (.ret (.bool true))/\OldK s₁.heap s'.heap/\s'.os=s₁.os/\AllBare s'.gens) s₁:=by
  intro H hO hS hok hA hK;have base_of:∀{b:Addr} {o:Obj},s₁.heap.get? b=some o->H b=none->(hidT s₁.heap H).get? b=some o:=λe n=>qjr e n;have noA:∀{b:Addr} {o:Obj} {es:Array DictEntry} {ep:Nat},s₁.heap.get? b=some o->o.data=.dict es ep->H b=none:=λ{b o es ep} e d=>by
   cases q:H b with
   |none=>rfl
   | some u=>
    have e':b=a:=hA b (by rw[q];simp);subst e';rw[ha]at e;cases e;have d':Data.seq vs.toArray _=Data.dict es ep:=d;cases d'
  have nsK:∀{b:Addr} {m:Str->Option Value},s₁.heap.Ns b m->(hidT s₁.heap H).Ns b m:=λ{b m} ⟨o,es,ep,e,d,r⟩=>⟨o,es,ep,base_of e (noA e d),d,r⟩;have hKb:K.In (hidT s₁.heap H):=λb o e=>base_of (KX b o e) (by
   cases q:H b with
   |none=>rfl
   | some u=>
    have e':b=a:=hA b (by rw[q];simp);subst e';rw[hK (by rw[q];simp)]at e;cases e)
  have hM:Mod K mg (hidT s₁.heap H):=⟨hKb,nsK hns,⟨mb,nsK hb,hbb⟩,let ⟨mc,h1,h2⟩:=hlim;⟨mc,nsK h1,h2⟩⟩;have e0:Env0 P w K mg (hidT s₁.heap H) callerA [] s₁ H:=⟨rfl,hM,λb o e=>qn2 e,Nat.le_of_eq (qhc _ _),trivial,λb hb=>absurd (show b∈([]:List Addr)from hb) (by simp),hok,.of_eq hg⟩;refine codeAny_mono ((F _ hKb (nsK hns)).run callerA [] s₁ H ⟨[.ref a],[]⟩ [.ref a] [.ref a] _ _ hr e0 (hbind s₁ (.ref a)) (.cons rfl .nil) (hsp H hO hS)) λr s' h=>?_;cases r with
  |error e=>exact(hCX H e s' h).elim
  | ok fl=>
   cases fl with
   |next=>exact False.elim h
   |brk=>exact False.elim h
   |cont=>exact False.elim h
   | ret u=>
    obtain⟨v,H',os,bare,un,hok',r',q⟩:=h;have q':v=.bl true:=q;subst q';obtain rfl:u=Value.bool true:=r';refine⟨rfl,OldK.of_keep λb o e=>?_,os,bare⟩;cases q:H b with
    |none=>exact un.keep b o e q (by intro z;exact absurd (show b∈([]:List Addr)from z) (by simp)) (by simp)
    | some u=>
     rcases hO b with z|⟨ob,xs,z⟩
     ·rw[q]at z;cases z
     ·have z2:=un.frzs b ob _ z;obtain⟨e1,_⟩:=hok b _ z;obtain⟨e2,_⟩:=hok' b _ z2;rw[e]at e1;cases e1;exact e2
 cases hk:K.lookup a with
 | some o=>
  -- the script is one of the module's own objects
  have e:=KX a o hk;rw[ha]at e;cases e;refine core (λ_=>none) (λ_=>.inl rfl) (.inr ⟨_,vs.toArray,_,hk,rfl,rfl,rfl,by rw[jq,lenV];exact hl,by simpa using rv⟩) (λb u z=>by have z':(none:Option HO)=some u:=z;cases z') (λb z=>absurd rfl z) λz=>absurd rfl z
 | none=>
  refine core (λb=>if b=a then some (.frz {cls:=.type "list",data:=.seq vs.toArray} (.lst (ns.map V.int)))else none) (λb=>?_) (.inl (.inr ⟨{cls:=.type "list",data:=.seq vs.toArray},if_pos rfl⟩)) (λb u z=>?_) (λb z=>?_) λ_=>hk
  ·by_cases hb:b=a
   ·exact .inr ⟨_,_,if_pos hb⟩
   ·exact .inl (if_neg hb)
  ·by_cases hb:b=a
   ·have z':=(if_pos hb).symm.trans z;cases z';subst hb;exact⟨ha,by rw[j4];exact hl,vs,_,rv,ha⟩
   ·have z':=(if_neg hb).symm.trans z;cases z'
  ·by_cases hb:b=a
   ·exact hb
   ·exact absurd (if_neg hb) z
theorem walk_of{l:PySem.W.OpenLaw}{n k:Nat}{q:Program}{loose:List Str}{XP:(Str->Option Value)->Heap->Prop}{YP:World->Heap->Prop}{d:DefRec}{K:Params->PySem.W.Frag}{CX:World->CXT}{sp:World->Sp}{x:Str}
 (hn:l.most=some n) (hn2:n<=sizeLine) (hdf:d.params.defaults=[]) (hr:Room k callerA)
 (hY:∀(w:World) (h:Heap),YP w h->(K w.params).In h)
 (F:∀(w:World) (mg:Str->Option Value) (fa:Addr) (h:Heap),(K w.params).In h->h.Ns mainGlobals mg->mg d.name=some (.ref fa)->
   ∃fd:FuncData,(∀(s:Shared) (u:Value),BindsTo s fd ⟨[u],[]⟩ [(x,u)])/\
    ∀base:Heap,(K w.params).In base->base.Ns mainGlobals mg->FnOk l.prog w (K w.params) mg base (CX w) k fa fd [x] (sp w))
 (hsp:∀(w:World) (H:Hp) (a:Addr) (ns:List Int),ns.length<=n->Only H->SqL (K w.params) H a (ns.map V.int)->sp w [.ref a] H (λv _=>v=.bl true) λ_ _ _=>False)
 (hCX:∀(w:World) (H:Hp) (s:Shared) (e:Value) (s':Shared),CX w [] H s (λ_ _ _=>False) e s'->False):
 PySem.W.WalkO q loose XP YP l.row.toRowW d [] (λf vs=>PySem.call f vs):=by
 refine Att.attach_call hn hdf λw s₀ s₁ mg mb fa o pm cd doc a vs ns G Y ho hd hcd hmg hobj zz ze hg=>?_;have KX:=hY w _ Y;obtain⟨fd,hb,hF⟩:=F w mg fa _ KX G.T.g hmg;exact qji KX G.T.g G.T.b G.T.builtins G.T.nolimit hg hobj zz (ju ze hn2) hr hF hb (λH hO hS=>hsp w H a ns ze hO hS) λH e s'=>hCX w H s₁ e s'
def inClass(s:Stmt)(j:Nat):Stmt:=match s with
 |.ClassDef _ _ _ body _ _ _ _ _ _ _=>body.getD j (.Pass ⟨0,0,0,0⟩)
 |_=>.Pass ⟨0,0,0,0⟩
def q0o(s:Stmt):Arguments:=match s with
 |.FunctionDef _ a _ _ _ _ _ _ _ _=>a
 |_=>{posonlyargs:=[],args:=[],vararg:=none,kwonlyargs:=[],kw_defaults:=[],kwarg:=none,defaults:=[]}
def q0m(s:Stmt):List Stmt:=match s with
 |.FunctionDef _ _ b _ _ _ _ _ _ _=>b
 |_=>[]
def q04(s:Stmt):Scope:=match s with
 |.FunctionDef _ _ _ _ _ _ sc _ _ _=>sc
 |_=>{kind:=.function,names:=[],isGenerator:=false,isCoroutine:=false}
abbrev CX0:CXT:=λ_ _ _ _ _ _=>False
abbrev E0:XK:=λ_ _ _=>False
theorem q14{X:Cx}:q8h CX0 X E0:=λ_ _ _ _ _ _ _ h=>h.elim
structure Fun(K:FrG)(x qual:Str)(st:Stmt)(f:Addr)(fd:FuncData):Prop where
 ex:∃(oc:Value) (od:Option Addr) (kV doc pm:Value) (an:Option Addr) (cdv ct:Value) (osl:Array (Option Value)),
  fd=PySem.W.fnOf x qual (q0o st) (q0m st) (q04 st) .none kV doc pm an cdv ct/\K.lookup f=some ⟨oc,od,.func fd,osl⟩/\PySem.W.codeIn K cdv qual=true
 kp:PySem.W.keepIn K (.ref f)=true
section
variable{P:Program}{w:World}{K:FrG}{mg:Str->Option Value}{base:Heap}
theorem Fun.ok{x qual:Str}{st:Stmt}{f:Addr}{fd:FuncData}{N ps:List Str}{k:Nat}{sp:Sp}(F:Fun K x qual st f fd)(S:q0p N ps (q04 st))(len:∀vs H Q E,sp vs H Q E->vs.length=ps.length)
 (zr:∀(cdv:Value) (A:Around) (outer:List Env) (s:Shared) (H:Hp) (vs:List V) (Q:VK) (E:XK),Room k (A.deeper (envOfC qual (q04 st) s.heap.objs.size f cdv))->sp vs H Q E->
   ∃t,PSs (cxOf CX0 P w K mg base N qual (q04 st) f cdv A outer s H E).nox (q0m st) t/\t {nx:=λ_ H'=>Q .non H',rt:=Q} (start N vs) H):FnOk P w K mg base CX0 (k+1) f fd ps sp:=by
 obtain⟨oc,od,kV,doc,pm,an,cdv,ct,osl,rfl,lk,hcd⟩:=F.ex;refine qtf lk hcd S len λA outer s H vs Q E hr hsp=>?_;obtain⟨t,h,q⟩:=zr cdv A outer s H vs Q E hr hsp;exact⟨t,h.nox,q⟩
theorem qte{x qual:Str}{st:Stmt}{f:Addr}{oc:Value}{od an:Option Addr}{osl:Array (Option Value)}{kV doc pm cdv ct:Value}(l:K.lookup f=some ⟨oc,od,.func (PySem.W.fnOf x qual (q0o st) (q0m st) (q04 st) .none kV doc pm an cdv ct),osl⟩)
 (c:PySem.W.codeIn K cdv qual=true) (k:PySem.W.keepIn K (.ref f)=true):Fun K x qual st f (PySem.W.fnOf x qual (q0o st) (q0m st) (q04 st) .none kV doc pm an cdv ct):=⟨⟨oc,od,kV,doc,pm,an,cdv,ct,osl,rfl,l,c⟩,k⟩
end
section
variable{X:Cx}
theorem pv(i:Nat){x:Str}{pos:Pos}(hN:X.N[i]? =some x:=by rfl)(hv:Vis X.env.scope x:=by first|exact Or.inl rfl|exact Or.inr (Or.inl rfl)|exact Or.inr (Or.inr rfl))(hd:(x==("__debug__":Str))=false:=by decide)
 (hcd:(x==("__classdict__":Str))=false:=by decide):PE X (.Name x pos) (tVar i):=qqn hN hv hd hcd
end
theorem iteF{A B:Prop}(h:B):if false=true then A else B:=by rw[if_neg Bool.false_ne_true];exact h
theorem iteT{A B:Prop}(h:A):if true=true then A else B:=by rw[if_pos rfl];exact h
def Same(H H':Hp):Prop:=∀b o,H b=some o->H' b=some o
theorem Same.refl(H:Hp):Same H H:=λ_ _ h=>h
theorem Same.trans{H H1 H2:Hp}(a:Same H H1)(b:Same H1 H2):Same H H2:=λc o h=>b c o (a c o h)
theorem Same.free{H H':Hp}(e:Same H H'){l:Addr}(h:H' l=Option.none):H l=Option.none:=by
 cases q:H l with
 |none=>rfl
 | some o=>
  rw[e l o q]at h;cases h
section
variable{X:Cx}{z5:List (Addr×Obj)}{σ:St}{H:Hp}{s:Shared}
theorem Inv.track{d:Addr}{o:HO}(I:Inv X z5 σ H s)(hn:H d=none)(hy:X.s₀.heap.objs.size<=d)(hL:d≠X.env.locals)(hc:∀x c,X.env.cells.lookup x=some c->c≠d)
 (hp:∀p∈X.pn++z5,p.1≠d) (new:ObjOk X.prog X.w (upd H d o) s.heap d o):Inv X z5 σ (upd H d o) s:=by
 have old:∀b ob,X.s₀.heap.get? b=some ob->b≠d:=λb ob e=>jd (jn (j6 e) hy);have was:∀b u,H b=some u->b≠d:=λb u e=>q1i e hn;refine⟨I.ok,I.os,I.bare,⟨I.base.keep,I.base.slot,λb ob e n hx=>?_,I.base.there,λb xs e=>?_,λb ob u e=>?_,λb ps e=>?_⟩,I.loc,I.cell,?_,λx c e=>?_,λp z=>?_,λb u e=>?_,I.len⟩
 ·rw[q0r (old b ob e)];exact I.base.free b ob e n hx
 ·have q:=I.base.tups b xs e;rw[q0r (was b _ q)];exact q
 ·have q:=I.base.frzs b ob u e;rw[q0r (was b _ q)];exact q
 ·obtain⟨m,q⟩:=I.base.tbls b ps e;exact⟨m,by rw[q0r (was b _ q)];exact q⟩
 ·rw[q0r (Ne.symm hL)];exact I.free
 ·rw[q0r (hc x c e)];exact I.freeC x c e
 ·obtain⟨e,n,r⟩:=I.pin p z;exact⟨e,by rw[q0r (hp p z)];exact n,r⟩
 ·by_cases hb:b=d
  ·subst hb;rw[q0u]at e;cases e;exact new
  ·rw[q0r hb]at e;refine(I.hok b u e).stay (λc v _ q=>q) (λc q=>?_) λc xs q=>?_
   ·rw[q0r (was c _ q)];exact q
   ·rw[q0r (was c _ q)];exact q
end
theorem q66{env:Env}:∀(names:List (Str×NameKind)) (acc:List (Str×Addr)),(∀y∈names,y.2=.free->∃c,env.cells.lookup y.1=some c)->
 ∃cl,(forIn names acc λ(p:Str×NameKind) (cs:List (Str×Addr))=>(if(p.2==NameKind.free)=true then do let c <-cellOf env p.1;pure (ForInStep.yield ((p.1,c)::cs))else pure (ForInStep.yield cs):Sem (ForInStep (List (Str×Addr)))))=pure cl/\
  (∀x c,cl.lookup x=some c->acc.lookup x=some c∨env.cells.lookup x=some c)/\(∀x c,acc.lookup x=some c->∃c',cl.lookup x=some c')/\∀y∈names,y.2=.free->∃c,cl.lookup y.1=some c
 |[],acc,_=>⟨acc,rfl,λ_ _ h=>.inl h,λ_ c h=>⟨c,h⟩,λ_ h=>nomatch h⟩
 | (n,k)::r,acc,hh=>by
  by_cases hk:k=.free
  ·subst hk;obtain⟨c,hc⟩:=hh (n,.free) jg rfl;obtain⟨cl,e,h1,h2,h3⟩:=q66 (env:=env) r ((n,c)::acc) λy hy=>hh y (jh _ hy);have ec:cellOf env n=pure c:=by
    unfold cellOf;rw[hc]
   have here:∃c',cl.lookup n=some c':=h2 n c (by simp[List.lookup_cons]);refine⟨cl,?_,λx d q=>?_,λx d q=>?_,λy hy hf=>?_⟩
   ·rw[List.forIn_cons];simp only[beq_self_eq_true,if_true,ec,pure_bind];exact e
   ·rcases h1 x d q with z|z
    ·rw[List.lookup_cons]at z;by_cases hx:x=n
     ·subst hx;simp only[beq_self_eq_true]at z;cases z;exact .inr hc
     ·rw[beq_eq_false_iff_ne.mpr hx]at z;exact .inl z
    ·exact .inr z
   ·by_cases hx:x=n
    ·subst hx;exact here
    ·exact h2 x d (by rw[List.lookup_cons,beq_eq_false_iff_ne.mpr hx];exact q)
   ·rcases List.mem_cons.mp hy with rfl|hy
    ·exact here
    ·exact h3 y hy hf
  ·obtain⟨cl,e,h1,h2,h3⟩:=q66 (env:=env) r acc λy hy=>hh y (jh _ hy);refine⟨cl,?_,h1,h2,λy hy hf=>?_⟩
   ·rw[List.forIn_cons];have hb:(k==NameKind.free)=false:=by simpa using hk
    simp only[hb,Bool.false_eq_true,if_false,pure_bind];exact e
   ·rcases List.mem_cons.mp hy with rfl|hy
    ·exact absurd hf hk
    ·exact h3 y hy hf
theorem q6f{env:Env}{scope:Scope}(hh:∀y∈scope.names,y.2=.free->∃c,env.cells.lookup y.1=some c):
 ∃cl,closureFor scope env=pure cl/\(∀x c,cl.lookup x=some c->env.cells.lookup x=some c)/\∀y∈scope.names,y.2=.free->∃c,cl.lookup y.1=some c:=by
 obtain⟨cl,e,h1,_,h3⟩:=q66 (env:=env) scope.names [] hh;refine⟨cl,?_,λx c q=>(h1 x c q).elim (λz=>by simp at z) id,h3⟩;unfold closureFor;simp only[bind_pure];exact e
def cxB(X:Cx)(N:List Str)(scope:Scope)(s:Shared)(H:Hp)(C:Addr)(cl:List (Str×Addr))(fp:List Addr):Cx where
 prog:=X.prog
 w:=X.w
 K:=X.K
 mg:=X.mg
 base:=X.base
 A:=X.A
 N:=N
 s₀:=s
 H₀:=H
 env:=compEnvC scope cl C X.env
 outer:=X.stack
 stack:=X.stack
 ex:=fp
 fn:=λ_=>false
 calm:=X.calm
 pn:=[]
 xe:=λ_ _=>False
def caps(n:Nat)(js:List Nat)(σ:St):St:=List.replicate n none++js.map λj=>(σ[j]?).join
def Own(n:Nat)(g:TG):Prop:=∀v σ H Q,g v σ H Q->g v σ H λσ2 H2=>Q σ2 H2/\σ2.length=σ.length/\∀i,n<=i->σ2[i]? =σ[i]?
theorem q1s{n i:Nat}(h:i<n):Own n (q6m i):=λv σ H Q q=>⟨q,by simp,λj hj=>by rw[List.getElem?_set_ne (by omega)]⟩
theorem qci{K:FrG}{n i j:Nat}(hi:i<n)(hj:j<n):Own n (gTup K 2 (qju (q6m i) (qju (q6m j) gNil))):=λv σ H Q q=>by obtain⟨a,xs,e,h,hl,x,r,e1,y,r2,e2,e3,q⟩:=q;exact⟨a,xs,e,h,hl,x,r,e1,y,r2,e2,e3,q,by simp,λk hk=>by rw[List.getElem?_set_ne (by omega),List.getElem?_set_ne (by omega)]⟩
def PIf(X:Cx)(ifs:List Expr)(t:TT):Prop:=
 ∀(z5:List (Addr×Obj)) (s:Shared) (σ:St) (H:Hp) (Q:Bool->Hp->Prop),Inv X z5 σ H s->t σ H Q->
   wpAny (model X.prog X.w) X.A (forIn ifs true λc r=>if r=true then do let ok <-isTrue c X.env (eval c X.env);pure (ForInStep.yield ok)else pure (ForInStep.yield r)) (TP X z5 σ Q) X.xe s
def tYes:TT:=λ_ H Q=>Q true H
theorem q2h{X:Cx}:PIf X [] tYes:=λ_ _ _ H _ I h=>wpAny_tests_nil ⟨H,I,h⟩
theorem q8s{X:Cx}{c:Expr}{t:TT}(hc:PT X c t):PIf X [c] t:=λz5 s σ H Q I h=>wpAny_tests_one (hc z5 s σ H Q I h)
def cGo(g:TG)(tt:TT)(te:TE)(σ0:St)(Fin:List V->Hp->Prop)(J:It)(H1:Hp):Prop:=
 ∃W:Nat->Nat->List V->Hp->Prop,(∃m,W 0 m [] H1)/\∀i m ys H2,W i m ys H2->
  (J.stop i H2/\ys.length<=sizeLine/\Fin ys H2)∨
  (J.go i H2/\ys.length<sizeLine/\∃N:List V->Hp->Prop,(∀ys' H',N ys' H'->∃m',m'<m/\W (i+1) m' ys' H')/\∀x H3,J.yld i H2 x H3->g x σ0 H3 λσ4 H4=>tt σ4 H4 λb H5=>
    if b=true then te σ4 H5 λy H6=>N (ys++[y]) H6 else N ys H5)
def qij(n:Nat)(js:List Nat)(wi:TI)(g:TG)(tt:TT)(te:TE):TE:=λσ H Q=>
 wi σ H (cGo g tt te (caps n js σ) λys H2=>∀D,H2 D=none->Q (.ref D) (upd H2 D (.lst ys)))
def qme(k n:Nat)(js:List Nat)(wi:TI)(g:TG)(tt:TT)(te:TE):TS:=λE σ H=>
 wi σ H (cGo g tt te (caps n js σ) λys H2=>∀D,H2 D=none->E.nx (σ.set k (some (.ref D))) (upd H2 D (.lst ys)))
theorem qhr{prog:Program}{w:World}{A:Around}{R:Result->Shared->Prop}{s:Shared}{elt zk zg:Expr}{ifs:List Expr}{scope:Scope}{pos:Pos}{it acc:Value}{env:Env}(I:Nat->Shared->Prop)
 (turn:∀n s,I n s->wpAny (model prog w) A (pyNext it) (λr s₁=>(r=none/\R (.ok .next) s₁)∨∃v,r=some v/\wpAny (model prog w) A (letOwnedTupleGo zk it v) (λ_ s₀=>
   wpAny (model prog w) A (assign zk env v) (λ_ s₂=>
    wpAny (model prog w) A (forIn ifs true λc r=>if r=true then do let ok <-isTrue c env (eval c env);pure (ForInStep.yield ok)else pure (ForInStep.yield r)) (λok s₃=>
     if ok=true then wpAny (model prog w) A (eval elt env) (λx s₄=>wpAny (model prog w) A (call (.builtin "list.append") [acc,x]) (λ_ s₅=>∃m,m<n/\I m s₅) (λ_ _=>False) s₄) (λ_ _=>False) s₃
     else∃m,m<n/\I m s₃) (λ_ _=>False) s₂) (λ_ _=>False) s₀) (λ_ _=>False) s₁) (λ_ _=>False) s)
 (n:Nat) (h:I n s):codeAny (model prog w) A (.compLoop (.ListComp elt [⟨zk,zg,ifs,0⟩] scope pos) 0 it acc env) R s:=by
 have no:∀{E:Value->Shared->Prop} (x:Value) (z:Shared),False->E x z:=λ_ _ f=>f.elim;refine codeAny_loop rfl I (λn s hI=>?_) n h;show wpAny _ A ((compTurn (.ListComp elt [⟨zk,zg,ifs,0⟩] scope pos) 0 it acc env).onRaise (λx=>do noteFrame x env;theTreesLotGoes x)) _ _ s;refine wpAny_noted ?_;rw[compTurn_list];refine j3 (wpAny_standAt (j3 (x9 (turn n s hI) (λr s₁ h₁=>?_) no)));rcases h₁ with⟨e,h₁⟩|⟨v,e,h₁⟩
 ·subst e;exact j5 h₁
 ·subst e;refine j3 (x9 h₁ (λ_ s₀ h₀=>j3 (x9 h₀ (λ_ s₂ h₂=>j3 (x9 h₂ (λok s₃ h₃=>?_) no)) no)) no);cases ok with
  |false=>exact j5 ⟨rfl,h₃⟩
  | true=>
   have q:wpAny (model prog w) A (eval elt env) _ _ s₃:=h₃;exact j3 (j3 (x9 q (λx s₄ h₄=>j3 (x9 h₄ (λ_ s₅ h₅=>j5 (j5 ⟨rfl,h₅⟩)) no)) no))
def q23(sc:Scope)(N0 N:List Str)(n:Nat)(js:List Nat)(scope:Scope):Bool:=
 decide (scope.kind=.function)&&scope.names.all (λy=>decide (y.2≠.cell))&&scope.names.all (λy=>decide (y.2≠.free)||decide (sc.names.lookup y.1=some .cell)||decide (sc.names.lookup y.1=some .free))&&
 scope.names.all (λy=>decide (y.2≠.local)||decide (scope.names.lookup y.1=some .local))&&decide (js.map (λj=>N0[j]?)=(N.drop n).map some)&&
 (N.drop n).all (λx=>decide (sc.names.lookup x=some .cell)||decide (sc.names.lookup x=some .free))&&(N.drop n).all (λx=>decide (scope.names.lookup x=some .free))&&decide (n+js.length=N.length)
theorem q6b{env:Env}:∀{names:List (Str×NameKind)} {x:Str},(names.map λ(n,k)=>if(k==NameKind.free&&env.scope.kind==.function&&env.kindOf n==some .cell)then(n,NameKind.cell)else(n,k)).lookup x=some .cell∨
 (names.map λ(n,k)=>if(k==NameKind.free&&env.scope.kind==.function&&env.kindOf n==some .cell)then(n,NameKind.cell)else(n,k)).lookup x=some .free->(∀y∈names,y.2≠.cell)->∃y∈names,y.1=x/\y.2=.free
 |[],_,h,_=>by rcases h with h|h<;>simp at h
 | (n,k)::r,x,h,hc=>by
  have ih:=@q6b env r x;by_cases hx:x=n
  ·subst hx;refine⟨(x,k),jg,rfl,?_⟩;have hk:k≠.cell:=hc (x,k) jg;by_cases hf:k=.free
   ·exact hf
   ·exfalso;have hb:(k==NameKind.free)=false:=by simpa using hf
    simp only[List.map_cons,hb,Bool.false_and,Bool.false_eq_true,if_false,List.lookup_cons,beq_self_eq_true]at h;rcases h with h|h
    ·exact hk (ja h)
    ·exact hf (ja h)
  ·have hb:(x==n)=false:=beq_eq_false_iff_ne.mpr hx;have step:∀(q:Str×NameKind) (l:List (Str×NameKind)),q.1=n->List.lookup x (q::l)=List.lookup x l:=λq l e=>by
    obtain⟨a,b⟩:=q;have e':a=n:=e;subst e';rw[List.lookup_cons,hb]
   have nm:(if(k==NameKind.free&&env.scope.kind==.function&&env.kindOf n==some .cell)then(n,NameKind.cell)else(n,k)).1=n:=by split<;>rfl
   rw[jr,step _ _ nm]at h;obtain⟨y,hy,r1,r2⟩:=ih h λy hy=>hc y (jh _ hy);exact⟨y,jh _ hy,r1,r2⟩
theorem mem_of_lookup{x:Str}{k:NameKind}:∀{l:List (Str×NameKind)},l.lookup x=some k->(x,k)∈l
 |[],h=>by simp at h
 | (a,b)::r,h=>by
  rw[List.lookup_cons]at h;by_cases hx:x=a
  ·subst hx;simp only[beq_self_eq_true]at h;cases h;exact jg
  ·rw[beq_eq_false_iff_ne.mpr hx]at h;exact jh _ (mem_of_lookup h)
theorem q4f{env:Env}{x:Str}:∀(l:List (Str×NameKind)),l.lookup x=some .free->(l.map λ(n,k)=>if(k==NameKind.free&&env.scope.kind==.function&&env.kindOf n==some .cell)then(n,NameKind.cell)else(n,k)).lookup x≠some .local
 |[],q=>by simp at q
 | (a,b)::r,q=>λz=>by
  rw[List.lookup_cons]at q;by_cases hx:x=a
  ·subst hx;simp only[beq_self_eq_true]at q;cases q;rw[jr]at z;dsimp only at z;split at z
   ·simp[List.lookup_cons]at z
   ·simp[List.lookup_cons]at z
  ·rw[beq_eq_false_iff_ne.mpr hx]at q;refine q4f (env:=env) r q ?_;by_cases hc:(b==NameKind.free&&env.scope.kind==.function&&env.kindOf a==some .cell)=true
   ·simp only[List.map_cons,if_pos hc,List.lookup_cons,beq_eq_false_iff_ne.mpr hx]at z;exact z
   ·simp only[List.map_cons,if_neg hc,List.lookup_cons,beq_eq_false_iff_ne.mpr hx]at z;exact z
theorem qdc(n:Nat)(js:List Nat)(σ:St):(caps n js σ).length=n+js.length:=by simp[caps]
theorem qdb{n:Nat}{js:List Nat}{σ:St}{i:Nat}(h:i<n):(caps n js σ)[i]? =some none:=by unfold caps;rw[kf (by simpa using h),xy,if_pos h]
theorem qk9{n:Nat}{js:List Nat}{σ:St}{i:Nat}{v:V}(h:n<=i)(e:(caps n js σ)[i]? =some (some v)):∃j,js[i-n]? =some j/\σ[j]? =some (some v):=by
 unfold caps at e;rw[xq (by simpa using h),jj,j9]at e;cases q:js[i-n]? with
 |none=>rw[q]at e;cases e
 | some j=>
  rw[q]at e;refine⟨j,rfl,?_⟩;have e':(σ[j]?).join=some v:=ja e;cases z:σ[j]? with
  |none=>rw[z]at e';cases e'
  |some o=>rw[z]at e';exact congrArg some e'
section
variable{X:Cx}{tg elt zg:Expr}{ifs:List Expr}{scope:Scope}{pos:Pos}{N N0:List Str}{n:Nat}{js:List Nat}{sc:Scope}{g:TG}{tt:TT}{te:TE}
theorem q8b{z5:List (Addr×Obj)}{σ:St}{H:Hp}{s:Shared}{it:Addr}{fp:List Addr}{tn:Nat->Heap->Prop}{J:It}{cl:List (Str×Addr)}{Fin:List V->Hp->Prop}{RR:Value->Addr->Result->Shared->Prop}{E:Value->Shared->Prop}
 (hc:X.calm=true) (hsc:X.env.scope=sc) (hN0:X.N=N0) (ok:q23 sc N0 N n js scope=true)
 (hg:∀s H C cl fp,PG (cxB X N scope s H C cl fp) tg g) (hgo:Own n g) (ht:∀s H C cl fp,PIf (cxB X N scope s H C cl fp) ifs tt) (he:∀s H C cl fp,PE (cxB X N scope s H C cl fp) elt te)
 (I:Inv X z5 σ H s) (T:Turn X.prog X.w X.K tg J fp it tn) (st:tn 0 s.heap) (fo:∀b∈fp,FpOk X z5 H b)
 (hcl:∀x c,cl.lookup x=some c->X.env.cells.lookup x=some c) (hcl2:∀y∈scope.names,y.2=.free->∃c,cl.lookup y.1=some c)
 (G:cGo g tt te (caps n js σ) Fin J H)
 (k:∀(D C:Addr) (oC:Obj) (m:Str->Option Value) (ys:List V) (H':Hp) (s':Shared),Inv X (z5++[(C,oC)]) σ (upd H' D (.lst ys)) s'->H' D=none->s'.heap.Ns C m->X.s₀.heap.objs.size<=C->C≠X.env.locals->(∀x c,X.env.cells.lookup x=some c->c≠C)->
   (∀p∈X.pn++z5,p.1≠C)->upd H' D (.lst ys) C=none->Fin ys H'->RR (.ref D) C (.ok .next) s'):
 wpAny (model X.prog X.w) X.A (newList []) (λacc s₃=>wpAny (model X.prog X.w) X.A (newFunctionEnv scope X.env.globals cl [] X.env.qual none .none (some X.env)) (λcenv s₄=>
  codeAny (model X.prog X.w) X.A (.compStart (.ListComp elt [⟨tg,zg,ifs,0⟩] scope pos) 0 (.ref it) acc {cenv with scope:=relabel scope X.env}) (RR acc cenv.locals) s₄) E s₃) E s:=by
 simp only[q23,Bool.and_eq_true,decide_eq_true_eq,List.all_eq_true,Bool.or_eq_true]at ok;obtain⟨⟨⟨⟨⟨⟨⟨kind,cell⟩,free⟩,nms⟩,cap⟩,lc⟩,lf⟩,len⟩:=ok;subst hN0 hsc;refine xl (wpAny_newFunctionEnv cell (by intro y hy;simp at hy) (λh1 ns1 sb1=>?_) kind);dsimp only at ns1 sb1 ⊢;generalize eG:s.heap.push {cls:=.type "list",dict:=none,data:=.seq ([]:List Value).toArray}=G2 at ns1 sb1 ⊢;have eC:G2.objs.size=s.heap.objs.size+1:=by rw[<-eG,jy]
 generalize eCC:G2.objs.size=C at ns1 sb1 eC ⊢;generalize eD:s.heap.objs.size=D at eC ⊢;have ltD:∀b o,s.heap.get? b=some o->b<D:=λb o e=>eD▸j6 e;have DC:D≠C:=by rw[eC];exact jd (Nat.lt_succ_self _)
 have bC:∀b:Nat,b<D->b≠C:=λb hb z=>by rw[z,eC]at hb;exact absurd hb (Nat.not_lt.mpr (Nat.le_succ _))
 have old:∀b o,s.heap.get? b=some o->h1.get? b=some o:=λb o e=>by have hb:=ltD b o e;refine sb1.extBut b o (bC b hb) (j7 _ ?_);rw[<-eG];exact j7 _ e
 have accD:h1.get? D=some {cls:=.type "list",data:=.seq ([]:List Value).toArray 0}:=by refine sb1.extBut _ _ DC (j7 _ ?_);rw[<-eG,<-eD];exact jf _ rfl
 have freeD:H D=none:=I.hok.fresh (by rw[eD];exact j8 _);have freeC:H C=none:=I.hok.fresh (by rw[eD,eC];exact Nat.le_succ _);have fpD:∀b∈fp,b<D:=λb hb=>let ⟨o,e,_⟩:=T.obj 0 _ st b hb;ltD b o e
 have cellD:∀x c,X.env.cells.lookup x=some c->c<D:=λx c e=>let ⟨v,o,ho,_⟩:=I.cell x c e;ltD c o ho
 have pinD:∀p∈X.pn++z5,p.1<D:=λp hp=>ltD _ _ (I.pin p hp).1;have stkD:∀b∈frs X.stack,b<D:=λb hb=>by
  rcases List.mem_cons.mp (I.stkSub b hb)with e|z
  ·subst e;rw[<-eD];exact I.lt
  ·obtain⟨_,o,ho,_⟩:=I.ok.funs.mem z;rw[<-eD];exact jn (j6 ho) I.sz
 have fpS:∀b∈fp,b∉frs X.stack:=λb hb z=>by
  obtain⟨_,f1,f2,_⟩:=fo b hb;rcases List.mem_cons.mp (I.stkSub b z)with e|q
  ·exact f1 e
  ·exact f2 q
 have kindB:(compEnvC scope cl C X.env).scope.kind=.function:=kind;have okB:(cxB X N scope s H C cl fp).Ok:={
  mod:=I.ok.mod
  kind:=kind
  glob:=I.ok.glob
  blt:=I.ok.blt
  above:=by show s.heap.objs.size<=C;rw[eD,eC];exact Nat.le_succ _
  inj:=λx y c e1 e2=>I.ok.inj x y c (hcl x c e1) (hcl y c e2)
  has:=λx hx=>by obtain⟨y,hy,e,f⟩:=q6b (env:=X.env) (names:=scope.names) (x:=x) hx cell;subst e;exact hcl2 y hy f
  cab:=λx c z=>by cases z
  hd:=I.ok.hd
  frames:=I.ok.frames
  stk:=.inl rfl
  exf:=λb hb=>⟨bC b (fpD b hb),λx c e=>(fo b hb).2.2.2.2.1 x c (hcl x c e)⟩
  bs:=λb o e=>I.bs b o e
  bsz:=ju I.ok.bsz I.sz
  noex:=λb o e hb=>by
   rcases(fo b hb).2.2.2.1 with z|z
   ·exact I.ok.noex b o e z
   ·exact absurd (jn (j6 e) (ju I.ok.bsz z)) (jz _)
  exfs:=fpS
  funs:=I.stack
  frf:=I.stkFree}
 have upH:∀b o,s.heap.get? b=some o->h1.get? b=some o:=old;have IB:Inv (cxB X N scope s H C cl fp) [(D,{cls:=.type "list",data:=.seq ([]:List Value).toArray 0})] (caps n js σ) H {s with heap:=h1,toks:=s.toks+([]:List (Str×Value)).length}:=by
  refine⟨okB,rfl,I.bare,Un.kept old,⟨_,ns1,λi x v e1 e2 e3=>?_⟩,λx c e=>?_,freeC,λx c e=>I.freeC x c (hcl x c e),λp hp=>?_,I.hok.kept old,?_⟩
  ·have hi:n<=i:=by
    by_cases hlt:i<n
    ·rw[qdb hlt]at e2;cases e2
    ·omega
   obtain⟨j,ej,ev⟩:=qk9 hi e2;have hxN:(N.drop n)[i-n]? =some x:=by rw[List.getElem?_drop,show n+(i-n)=i by omega];exact e1
   have hxm:x∈N.drop n:=xk hxN;have eN:X.N[j]? =some x:=by
    have q:(js.map λj=>X.N[j]?)[i-n]? =some (X.N[j]?):=by rw[j9,ej];rfl
    rw[cap,j9,hxN]at q;exact(ja q).symm
   obtain⟨m0,_,hl⟩:=I.loc;have kx:=lc x hxm;have vis:Vis X.env.scope x:=by
    rcases kx with z|z
    ·exact .inr (.inl z)
    ·exact .inr (.inr z)
   obtain⟨u,r,lk⟩:=hl j x v eN ev vis;refine⟨u,r,?_⟩;rcases lk with⟨q,_⟩|⟨_,c,ec,o,ho,hd⟩
   ·exfalso;have q':X.env.scope.names.lookup x=some .local:=q;rcases kx with z|z
    ·rw[z]at q';cases q'
    ·rw[z]at q';cases q'
   ·have fx:scope.names.lookup x=some .free:=lf x hxm;obtain⟨c',ec'⟩:∃c',cl.lookup x=some c':=by
     have hm:(x,NameKind.free)∈scope.names:=mem_of_lookup fx;exact hcl2 _ hm rfl
    have ecc:c'=c:=by have z:=hcl x c' ec';rw[ec]at z;exact(ja z).symm
    subst ecc;refine .inr ⟨?_,c',ec',o,old _ _ ho,hd⟩;rcases e3 with z|z|z
    ·exfalso;have z':(relabel scope X.env).names.lookup x=some .local:=z;exact q4f _ fx z'
    ·exact .inl z
    ·exact .inr z
  ·obtain⟨v,o,ho,hd⟩:=I.cell x c (hcl x c e);exact⟨v,o,old _ _ ho,hd⟩
  ·have e:p=(D,{cls:=.type "list",data:=.seq ([]:List Value).toArray 0}):=by simpa[cxB]using hp
   subst e;exact⟨accD,freeD,DC,λz=>absurd (stkD D z) (jz _),λv=>by intro z;cases z⟩
  ·show(caps n js σ).length=N.length;rw[qdc];exact len
 -- what stays true of the iterator's records
 have stat:∀{H':Hp} {oD:Obj},(∀b∈fp,H' b=none)->∀b∈fp,FpOk (cxB X N scope s H C cl fp) [(D,oD)] H' b:=λ{H' oD} hn b hb=>
  ⟨hn b hb,bC b (fpD b hb),fpS b hb,.inl hb,λx c e=>(fo b hb).2.2.2.2.1 x c (hcl x c e),λp hp=>by
    have e:p=(D,oD):=by simpa[cxB]using hp
    subst e;exact Nat.ne_of_gt (fpD b hb)⟩
 obtain⟨W,⟨m0,w0⟩,turn⟩:=G;have loop:codeAny (model X.prog X.w) X.A (.compLoop (.ListComp elt [⟨tg,zg,ifs,0⟩] scope pos) 0 (.ref it) (.ref D) (compEnvC scope cl C X.env)) (RR (.ref D) C) {s with heap:=h1,toks:=s.toks+([]:List (Str×Value)).length}:=by
  refine qhr (λm s'=>∃(i:Nat) (ys:List V) (its:List Value) (kk:Nat) (σ':St) (H':Hp),Inv (cxB X N scope s H C cl fp) [(D,{cls:=.type "list",data:=.seq its.toArray kk})] σ' H' s'/\Vals ys its/\(σ'.length=(caps n js σ).length/\∀i,n<=i->σ'[i]? =(caps n js σ)[i]?)/\
   tn i s'.heap/\(∀b∈fp,H' b=none)/\W i m ys H') ?_ m0 ⟨0,[],[],0,_,H,IB,.nil,⟨rfl,λ_ _=>rfl⟩,T.keep _ _ _ st λb hb o e=>old b o e,λb hb=>(fo b hb).1,w0⟩
  rintro m s3 ⟨i,ys,its,kk,σ3,H3,I3,r3,⟨l3,a3⟩,st3,fr3,w3⟩;have I3':Inv (cxB X N scope s H C cl fp) [(D,{cls:=.type "list",data:=.seq its.toArray kk})] (caps n js σ) H3 s3:=I3.weak l3.symm λj v e=>by
   by_cases hj:j<n
   ·rw[qdb hj]at e;cases e
   ·rw[a3 j (by omega)];exact e
  rcases turn i m ys H3 w3 with⟨stop,hz,fin⟩|⟨go,hz,Nn,hNn,step⟩
  ·refine x9 (T.done (cxB X N scope s H C cl fp) rfl rfl rfl hc i _ s3 _ H3 (λ_ _=>False) I3' (stat fr3) st3 stop) (λr s4 h4=>?_) λ_ _ z=>z;obtain⟨hr,I4⟩:=h4;refine .inl ⟨hr,?_⟩;have pD:=I4.pin (D,{cls:=.type "list",data:=.seq its.toArray kk}) (by simp[cxB]);obtain⟨mC,nsC,_⟩:=I4.loc;obtain⟨oC,es,ep,hoC,dC,rC⟩:=id nsC;have J4:Inv X z5 σ H3 s4:=I.call' (s':=s4) I4.os (ch:=fp) I4.base I4.hok I4.bare λb hb=>by
    obtain⟨_,f1,f2,f3,f4,f5⟩:=fo b hb;exact⟨f3,f1,f4,f5⟩
   have fC:H3 C=none:=I4.free;have ltL:X.env.locals<D:=eD▸I.lt;have cL:C≠X.env.locals:=(bC _ ltL).symm;have cC:∀x c,X.env.cells.lookup x=some c->c≠C:=λx c e=>bC c (cellD x c e);have cP:∀p∈X.pn++z5,p.1≠C:=λp hp=>bC p.1 (pinD p hp);have cS:X.s₀.heap.objs.size<=C:=ju I.sz (by rw[eD,eC];exact Nat.le_succ _);have dS:X.s₀.heap.objs.size<=D:=by have:=I.sz;rw[eD]at this;exact this
   have cF:C∉X.fs:=λz=>by obtain⟨_,o,ho,_⟩:=I.ok.funs.mem z;exact jz _ (jn (j6 ho) cS)
   have J5:Inv X (z5++[(C,oC)]) σ H3 s4:=J4.pins_of λp hp=>(List.mem_append.mp hp).elim (λz=>J4.pin p (x5 _ z)) λz=>by
    have e:p=(C,oC):=by simpa using z
    subst e;exact⟨hoC,fC,cL,cF,λv z=>by have z':oC.data=.cell v:=z;rw[dC]at z';cases z'⟩
   refine k D C oC mC ys H3 s4 (J5.track pD.2.1 dS (Nat.ne_of_gt ltL) (λx c e=>jd (cellD x c e)) (λp hp=>?_) ?_) pD.2.1 nsC cS cL cC cP ?_ fin
   ·rcases List.mem_append.mp hp with z|z
    ·exact jd (pinD p (List.mem_append_left _ z))
    ·rcases List.mem_append.mp z with z|z
     ·exact jd (pinD p (x5 _ z))
     ·have e:p=(C,oC):=by simpa using z
      subst e;exact Ne.symm DC
   ·exact⟨hz,its,kk,r3,pD.1⟩
   ·rw[q0r (Ne.symm DC)];exact fC
  ·refine x9 (T.item (cxB X N scope s H C cl fp) rfl rfl rfl hc i _ s3 _ H3 (λ_ _=>False) I3' (stat fr3) st3 go) (λr s4 h4=>?_) λ_ _ z=>z;obtain⟨u,hr,h4⟩:=h4;refine .inr ⟨u,hr,?_⟩;refine thn h4 λ_ s5 h5=>?_;obtain⟨x,H5,I5,r5,y5,st5,fr5⟩:=h5;have I5':=I5.pinned (stat fr5) (T.obj _ _ st5);refine thn (hg s H C cl fp _ s5 _ H5 x u _ I5' r5 (hgo _ _ _ _ (step x H5 y5))) λ_ s6 h6=>?_;obtain⟨σ6,H6,I6,q6,l6,a6⟩:=h6;refine thn (ht s H C cl fp _ s6 σ6 H6 _ I6 q6) λok s7 h7=>?_;obtain⟨H7,I7,q7⟩:=h7;have stays:∀{H8:Hp} {s8:Shared},Inv (cxB X N scope s H C cl fp) ([(D,{cls:=.type "list",data:=.seq its.toArray kk})]++q9o fp s5.heap) σ6 H8 s8->(∀b∈fp,∀o,s5.heap.get? b=some o->s8.heap.get? b=some o)/\∀b∈fp,H8 b=none:=λ{H8 s8} I8=>
    ⟨λb hb o e=>(I8.pin (b,o) (x5 _ (x5 _ (q4t hb e)))).1,λb hb=>by obtain⟨o,e,d⟩:=T.obj _ _ st5 b hb;exact(I8.pin (b,o) (x5 _ (x5 _ (q4t hb e)))).2.1⟩
   cases ok with
   | false=>
    obtain⟨m',hm,w7⟩:=hNn ys H7 (show Nn ys H7 from q7);obtain⟨z1,z2⟩:=stays I7;exact⟨m',hm,i+1,ys,its,kk,σ6,H7,I7.unpinned,r3,⟨l6,a6⟩,T.keep _ _ _ st5 z1,z2,w7⟩
   | true=>
    show wpAny _ _ (eval elt _) _ _ s7;refine thn (he s H C cl fp _ s7 σ6 H7 _ I7 q7) λy s8 h8=>?_;obtain⟨vy,H8,I8,ry,n8⟩:=h8;obtain⟨m',hm,w8⟩:=hNn _ _ n8;obtain⟨z1,z2⟩:=stays I8;have pD:=I8.pin (D,{cls:=.type "list",data:=.seq its.toArray kk}) (by simp[cxB]);have lenits:its.length<sizeLine:=by rw[<-r3.length];exact hz
    refine append_at pD.1 (λh9 hs9 hD9=>?_) (by simpa using Nat.le_of_lt lenits);have keep9:∀b o,b≠D->s8.heap.get? b=some o->h9.get? b=some o:=λb o hb e=>hs9.extBut b o hb e;have I9:Inv (cxB X N scope s H C cl fp) [] σ6 H8 {s8 with heap:=h9}:=(I8.pins_of (pins':=[]) λp hp=>nomatch hp).turned (it:=D) keep9 pD.2.1 DC (.inr (by show s.heap.objs.size<=D;rw[eD];exact j8 _))
     (λx c e=>jd (cellD x c (hcl x c e))) λp hp=>by simp[cxB]at hp
    refine⟨m',hm,i+1,ys++[vy],its++[y],kk+1,σ6,H8,I9.pins_of λp hp=>?_,r3.append (.cons ry .nil),⟨l6,a6⟩,T.keep _ _ _ st5 λb hb o e=>keep9 b o (jd (fpD b hb)) (z1 b hb o e),z2,w8⟩;have e:p=(D,{cls:=.type "list",data:=.seq (its++[y]).toArray (kk+1)}):=by simpa using hp
    subst e;refine⟨?_,pD.2.1,DC,λz=>absurd (stkD D z) (jz _),λv z=>by cases z⟩;show h9.get? D=_;rw[hD9,List.push_toArray]
 exact codeAny_compStart_list loop (T.self _ 0 _ _ _ (T.keep _ _ _ st λb hb o e=>old b o e) loop)
end
section
variable{X:Cx}{tg elt zg:Expr}{ifs:List Expr}{scope:Scope}{pos:Pos}{N N0:List Str}{n:Nat}{js:List Nat}{sc:Scope}{wi:TI}{g:TG}{tt:TT}{te:TE}
theorem qd9{z5:List (Addr×Obj)}{σ:St}{H:Hp}{s:Shared}(I:Inv X z5 σ H s)(hsc:X.env.scope=sc)(ok:q23 sc N0 N n js scope=true):∀y∈scope.names,y.2=.free->∃c,X.env.cells.lookup y.1=some c:=by
 simp only[q23,Bool.and_eq_true,decide_eq_true_eq,List.all_eq_true,Bool.or_eq_true]at ok;obtain⟨⟨⟨⟨⟨⟨⟨kind,cell⟩,free⟩,nms⟩,cap⟩,lc⟩,lf⟩,len⟩:=ok;subst hsc;intro y hy hf;rcases free y hy with(z|z)|z
 ·exact absurd hf z
 ·exact I.ok.has y.1 (.inl z)
 ·exact I.ok.has y.1 (.inr z)
theorem q8a(ok:q23 sc N0 N n js scope=true):scope.kind=.function/\∀x∈scope.names,x.2=.local->scope.names.lookup x.1=some .local:=by
 simp only[q23,Bool.and_eq_true,decide_eq_true_eq,List.all_eq_true,Bool.or_eq_true]at ok;obtain⟨⟨⟨⟨⟨⟨⟨kind,cell⟩,free⟩,nms⟩,cap⟩,lc⟩,lf⟩,len⟩:=ok;refine⟨kind,λx hx hl=>?_⟩;rcases nms x hx with z|z
 ·exact absurd hl z
 ·exact z
theorem Inv.butC{z5:List (Addr×Obj)}{σ:St}{H:Hp}{s:Shared}{C:Addr}{oC:Obj}{h':Heap}(I:Inv X (z5++[(C,oC)]) σ H s)(hs:Heap.SameBut C s.heap h')(h1:X.s₀.heap.objs.size<=C)(h2:C≠X.env.locals)
 (h3:∀x c,X.env.cells.lookup x=some c->c≠C) (h4:∀p∈X.pn++z5,p.1≠C) (h5:H C=none):Inv X z5 σ H {s with heap:=h'}:=
 I.unpinned.turned (it:=C) (t':=s.toks) (λb o hb e=>hs.extBut b o hb e) h5 h2 (.inr h1) h3 h4
theorem q2p(hc:X.calm=true)(hsc:X.env.scope=sc)(hN0:X.N=N0)(ok:q23 sc N0 N n js scope=true)(hi:PI X tg zg wi)
 (hg:∀s H C cl fp,PG (cxB X N scope s H C cl fp) tg g) (hgo:Own n g) (ht:∀s H C cl fp,PIf (cxB X N scope s H C cl fp) ifs tt) (he:∀s H C cl fp,PE (cxB X N scope s H C cl fp) elt te)
 (hs:∀x,foldedSetIterable zg X.env x=pure x:=by intro _;rfl):PE X (.ListComp elt [⟨tg,zg,ifs,0⟩] scope pos) (qij n js wi g tt te):=by
 intro z5 s σ H Q I h;obtain⟨cl,hclos,c1,c2⟩:=q6f (qd9 I hsc ok);obtain⟨kd,nm⟩:=q8a ok;rw[eval_ListComp];refine wpAny_comprehension_free (use:=none) rfl hs hclos kd nm ?_;refine thn (hi z5 s σ H _ I h) λv s1 h1=>thn h1 λitv s2 h2=>?_;obtain⟨it,fp,tn,J,H2,e,I2,T,st2,f2,G⟩:=h2;subst e;refine q8b (RR:=λacc C=>compPost (model X.prog X.w) X.A X.xe none (EP X z5 σ Q) acc C) hc hsc hN0 ok hg hgo ht he I2 T st2 f2 c1 c2 G ?_;intro D C oC m ys H' s' I' hD ns k1 k2 k3 k4 k5 fin;exact⟨m,ns,λh' hs'=>⟨.ref D,_,I'.butC hs' k1 k2 k3 k4 k5,rfl,fin D hD⟩⟩
theorem q5x{k:Nat}{y:Str}{py spos:Pos}(hc:X.calm=true)(hsc:X.env.scope=sc)(hN0:X.N=N0)(ok:q23 sc N0 N n js scope=true)(hN:X.N.Nodup)(hk:X.N[k]? =some y)(hy:Loc X.env.scope y)
 (hi:PI X tg zg wi) (hg:∀s H C cl fp,PG (cxB X N scope s H C cl fp) tg g) (hgo:Own n g) (ht:∀s H C cl fp,PIf (cxB X N scope s H C cl fp) ifs tt) (he:∀s H C cl fp,PE (cxB X N scope s H C cl fp) elt te)
 (hsw:swapsWith (.ListComp elt [⟨tg,zg,ifs,0⟩] scope pos) (some (.Name y py)) spos.line X.env=pure true:=by rfl) (hs:∀x,foldedSetIterable zg X.env x=pure x:=by intro _;rfl)
 (hf:X.fn y=true∨X.env.scope.names.lookup y=some .local:=by first|exact .inl rfl|exact .inr rfl):PS X (.Assign [.Name y py] (.ListComp elt [⟨tg,zg,ifs,0⟩] scope pos) spos) (qme k n js wi g tt te):=by
 intro z5 s σ H D0 I h;obtain⟨cl,hclos,c1,c2⟩:=q6f (qd9 I hsc ok);obtain⟨kd,nm⟩:=q8a ok;rw[exec_Assign_Name_used _ _ _ _ hsw];refine j3 (wpAny_standAt (j3 ?_));show wpAny _ X.A (comprehension (.ListComp elt [⟨tg,zg,ifs,0⟩] scope pos) scope X.env _ (newList []) false (eval zg X.env) (some (assign (.Name y py) X.env)) >>= λ_=>pure ()) _ _ s;refine j3 (x9 (wpAny_comprehension_free (use:=some (assign (.Name y py) X.env)) (Q:=λ_ s'=>SP X z5 D0 .next s') rfl hs hclos kd nm ?_) (λ_ s' q=>j5 (j5 q)) λ_ _ z=>z);refine thn (hi z5 s σ H _ I h) λv s1 h1=>thn h1 λitv s2 h2=>?_;obtain⟨it,fp,tn,J,H2,e,I2,T,st2,f2,G⟩:=h2;subst e;refine q8b (RR:=λacc C=>compPost (model X.prog X.w) X.A X.xe (some (assign (.Name y py) X.env)) (λ_ s'=>SP X z5 D0 .next s') acc C) hc hsc hN0 ok hg hgo ht he I2 T st2 f2 c1 c2 G ?_;intro D C oC m ys H' s' I' hD ns k1 k2 k3 k4 k5 fin;show wpAny _ X.A (assign (.Name y py) X.env (.ref D)) _ _ s';refine wpAny_assign_Name (q8m I' hN hk hy (v:=.ref D) rfl (λs'' I''=>?_) hf);have pc:=I''.pin (C,oC) (x5 _ (x5 _ jg));obtain⟨o,es,ep,ho,r⟩:=ns;have pc':=I'.pin (C,oC) (x5 _ (x5 _ jg));have eo:o=oC:=by have z:=pc'.1;rw[ho]at z;exact ja z
 subst eo;exact⟨m,⟨o,es,ep,pc.1,r⟩,λh' hs'=>⟨_,_,I''.butC hs' k1 k2 k3 k4 k5,fin D hD⟩⟩
end
theorem Same.new{H:Hp}{l:Addr}{o:HO}(h:H l=none):Same H (upd H l o):=λb u e=>by rw[q0r (q1i e h)];exact e
theorem Same.tup{K:FrG}{H H':Hp}{a:Addr}{xs:List V}(e:Same H H')(h:SqT K H a xs):SqT K H' a xs:=by
 rcases h with(h|⟨o,h⟩)|h
 ·exact .inl (.inl (e _ _ h))
 ·exact .inl (.inr ⟨o,e _ _ h⟩)
 ·exact .inr h
section
variable{X:Cx}{K:FrG}
theorem q0j(h:X.K=K):IxR X (rIx K):=h▸qt3
theorem q1e(h:X.K=K):q4i X (.builtin "len") (λxs H Q=>∃p ys,xs=[.ref p]/\(SqL K H p ys∨SqT K H p ys)/\Q (.int ys.length) H):=by subst h;exact qae
theorem q67(h:X.K=K):q4i X (.type "list") (λxs H Q=>∃p ys,xs=[.ref p]/\(SqL K H p ys∨SqT K H p ys)/\∀l,H l=none->Q (.ref l) (upd H l (.lst ys))):=by subst h;exact qad
theorem q3l(h:X.K=K):q4i X (.type "tuple") (λxs H Q=>∃p ys,xs=[.ref p]/\((SqL K H p ys/\∀l,H l=none->Q (.ref l) (upd H l (.tup ys)))∨(SqT K H p ys/\Q (.ref p) H))):=by subst h;exact q97
theorem qiw{tg l:Expr}{tl:TE}(h:X.K=K)(hl:PE X l tl):PI X tg l (qnm K tl):=h▸qmk hl
theorem qmj{tg l:Expr}{tl:TE}(h:X.K=K)(hl:PE X l tl):PI X tg l (iTup K tl):=h▸qqk hl
theorem q4b{es:List Expr}{k:Nat}{t:TGs}{n:Nat}{pos:Pos}(hK:X.K=K)(hc:X.calm=true)(h:PGs X es t)(hn:(assignEach es X.env).length=n:=by rfl)(hst:(assignEach es X.env).findIdx? (·.1)=none:=by rfl):PG X (.Tuple es k pos) (gTup K n t):=hK▸qqm hc h hn hst
theorem qb0{e:Expr}{f:Str}{pos:Pos}{ta:TE}(hK:X.K=K)(he:PE X e ta)(hb:attributeBase e f X.env (eval e X.env)=eval e X.env):PE X (.Attribute e f pos) (tFld K ta f):=hK▸qqp he hb
end
theorem PE.or{X:Cx}{e:Expr}{t u:TE}(h:PE X e t)(k:PE X e u):PE X e λσ H Q=>t σ H Q∨u σ H Q:=λz5 s σ H Q I q=>by
 rcases q with q|q
 ·exact h z5 s σ H Q I q
 ·exact k z5 s σ H Q I q
def clsV:V->Option Value
 |.ref a=>some (.ref a)
 |.ty n=>some (.type n)
 |_=>none
def rIsi(K:FrG):List V->Hp->VK->Prop:=λxs H Q=>∃x y t c b,xs=[x,y]/\clsV y=some c/\TyOf K H x t/\PySem.W.kitOne K t c=some b/\Q (.bl b) H
section
variable{X:Cx}
theorem qkc{K:FrG}(hK:X.K=K):q4i X (.builtin "isinstance") (rIsi K):=by
 subst hK;intro z5 s σ H xs us Q I r h;obtain⟨x,y,t,c,b,rfl,hc,ty,e,q⟩:=h;obtain⟨u,w,rfl,ru,rw'⟩:=vals2 r;have ew:w=c:=by
  cases y with
  | ref a=>
   have z:w=Value.ref a:=rw';rw[z];exact ja hc
  | ty n=>
   have z:w=Value.type n:=rw';rw[z];exact ja hc
  |_=>cases hc
 subst ew;exact qh9 I ru ty e λtk=>⟨.bl b,H,I.tok tk,rfl,q⟩
theorem q8y{K:FrG}{v:Value}:PySem.W.kitOne K v v=some true:=by unfold PySem.W.kitOne;rw[if_pos (beq_self_eq_true v)]
theorem q33{K:FrG}{T U:String}{b:Bool}(hm:PySem.W.kitMeta U=true)(h3:PySem.W.subIn K (.type T) (.type U)=some b)(hn:Value.type T≠.type U):PySem.W.kitOne K (.type T) (.type U)=some b:=by unfold PySem.W.kitOne;rw[if_neg (λz=>hn (eq_of_beq z))];unfold PySem.W.kitCls;dsimp only;rw[if_pos hm];exact h3
theorem q7z:∀{bs:List Bool} {us:List Value},Vals (bs.map V.bl) us->us=bs.map Value.bool
 |[],us,r=>by cases r;rfl
 | b::bs,us,r=>by
  cases r with
  | cons h t=>
   have e:_=Value.bool b:=h;rw[e,q7z t];rfl
theorem range_all{α:Type}(l:List α)(f:α->Bool)(tr:Nat->Bool)(h:∀i x,l[i]? =some x->tr i=f x):(List.range l.length).all tr=l.all f:=by
 induction l generalizing tr with
 |nil=>rfl
 | cons a l ih=>
  rw[ji,List.range_succ_eq_map,List.all_cons,List.all_map,List.all_cons,h 0 a rfl];congr 1;exact ih (λi=>tr (i+1)) λi x e=>h (i+1) x (by simpa using e)
theorem qkd{K:FrG}(hK:X.K=K)(hc:X.calm=true):q4i X (.builtin "all") (λxs H Q=>∃(p:Addr) (bs:List Bool),xs=[.ref p]/\SqL K H p (bs.map V.bl)/\Q (.bl (bs.all id)) H):=by
 subst hK;intro z5 s σ H xs us Q I r h;obtain⟨p,bs,rfl,hq,q⟩:=h;obtain⟨u,rfl,ru⟩:=vals1 r;cases ru;obtain⟨its,rv,pl,hz⟩:=I.list hq;have hh:X.A.in1.handled=none:=I.ok.hd hc;have eits:=q7z rv;have hl:=pl.isList;have hlt:p<s.heap.objs.size:=by obtain⟨_,e,_⟩:=hl;exact j6 e
 refine call_all_walk (wpAny_pyIter_list hl ?_);refine⟨_,_,_,_,_,_,λi=>bs.getD i false,rfl,Walks.list hh s.heap.objs.size p (jd hlt) its.toArray,⟨⟨_,jf _ rfl,rfl,rfl⟩,hl.push _⟩,λi v s' Q' E' hP hQ=>?_,λh' tk hk=>?_⟩
 ·have e:(bs.map Value.bool)[i]? =some v:=by rw[<-eits];simpa using hP
  rw[j9]at e;cases z:bs[i]? with
  |none=>rw[z]at e;cases e
  | some b=>
   rw[z]at e;have e':v=Value.bool b:=(ja e).symm;subst e';refine xx ?_;have:bs.getD i false=b:=by rw[jk,z];rfl
   dsimp only at hQ;rw[this]at hQ;exact hQ
 ·have len:its.toArray.size=bs.length:=by rw[eits];simp
  refine⟨.bl (bs.all id),H,I.kept (t':=tk) λb o e=>hk b o (λz=>?_) (j7 _ e),?_,q⟩
  ·have:=j6 e;rw[List.mem_singleton.mp z]at this;exact jz _ this
  ·show Value.bool _=Value.bool _;rw[len,range_all bs id];intro i x e;rw[jk,e];rfl
mutual
inductive DV(K:FrG)(H:Hp):V->PyData->Prop
 |non:DV K H .non .none
 |bl (b:Bool):DV K H (.bl b) (.bool b)
 |int (i:Int):DV K H (.int i) (.int i)
 |str (x:Str):DV K H (.str x) (.str x)
 |lst {a:Addr} {xs:List V} {ds:List PyData}:SqL K H a xs->DVs K H xs ds->DV K H (.ref a) (.list ds)
 |tup {a:Addr} {xs:List V} {ds:List PyData}:SqT K H a xs->DVs K H xs ds->DV K H (.ref a) (.tuple ds)
inductive DVs(K:FrG)(H:Hp):List V->List PyData->Prop
 |nil:DVs K H [] []
 |cons {x:V} {xs:List V} {d:PyData} {ds:List PyData}:DV K H x d->DVs K H xs ds->DVs K H (x::xs) (d::ds)
end
mutual
theorem q5p{z5:List (Addr×Obj)}{σ:St}{H:Hp}{s:Shared}(I:Inv X z5 σ H s):∀{x:V} {d:PyData} {u:Value},DV X.K H x d->RelV x u->∃as,Reads s.heap u d as
 |_,_,u,.non,r=>by cases(show u=Value.none from r);exact⟨_,.none⟩
 |_,_,u,.bl b,r=>by cases(show u=Value.bool b from r);exact⟨_,.bool b⟩
 |_,_,u,.int i,r=>by obtain⟨t,e⟩:=(show∃t,u=Value.int i t from r);cases e;exact⟨_,.int i t⟩
 |_,_,u,.str x,r=>by obtain⟨t,e⟩:=(show∃t,u=Value.str x t from r);cases e;exact⟨_,.str x t⟩
 | _,_,u,.lst (a:=a) hq hs,r=>by cases(show u=Value.ref a from r);obtain⟨its,rv,pl,_⟩:=I.list hq;obtain⟨o,e,c,n,dd⟩:=pl.isList;obtain⟨as,q⟩:=q59 I hs rv;exact⟨_,reads_list_at e c dd (by simpa using q)⟩
 | _,_,u,.tup (a:=a) hq hs,r=>by cases(show u=Value.ref a from r);obtain⟨its,rv,pl,_⟩:=I.tuple hq;obtain⟨o,e,c,n,dd⟩:=pl;obtain⟨as,q⟩:=q59 I hs rv;exact⟨_,reads_tuple_at e c dd (by simpa using q)⟩
theorem q59{z5:List (Addr×Obj)}{σ:St}{H:Hp}{s:Shared}(I:Inv X z5 σ H s):∀{xs:List V} {ds:List PyData} {us:List Value},DVs X.K H xs ds->Vals xs us->∃as,ReadsAll s.heap us ds as
 |_,_,_,.nil,.nil=>⟨_,.nil⟩
 | _,_,_,.cons h t,.cons r rs=>by obtain⟨as,q⟩:=q5p I h r;obtain⟨bs,p⟩:=q59 I t rs;exact⟨_,.cons q p⟩
end
def rEqD(K:FrG):R2:=λx y H Q=>∃d e,DV K H x d/\DV K H y e/\SeqAt.shaped d=true/\SeqAt.shaped e=true/\Q (.bl (PyData.eqv d e)) H
def rNeD(K:FrG):R2:=λx y H Q=>∃d e,DV K H x d/\DV K H y e/\SeqAt.shaped d=true/\SeqAt.shaped e=true/\Q (.bl (!PyData.eqv d e)) H
theorem q32{K:FrG}(hK:X.K=K)(hu:X.A.units+64<cLine):OpR X (compareOp .Eq) (rEqD K):=by subst hK;intro z5 s σ H x y v u Q I rx ry h;obtain⟨d,e,hd,he,sd,se,q⟩:=h;obtain⟨as,ra⟩:=q5p I hd rx;obtain⟨bs,rb⟩:=q5p I he ry;exact eq_dataH ra rb sd se hu ⟨.bl _,H,I,rfl,q⟩
theorem q85{K:FrG}(hK:X.K=K)(hu:X.A.units+64<cLine):OpR X (compareOp .NotEq) (rNeD K):=by subst hK;intro z5 s σ H x y v u Q I rx ry h;obtain⟨d,e,hd,he,sd,se,q⟩:=h;obtain⟨as,ra⟩:=q5p I hd rx;obtain⟨bs,rb⟩:=q5p I he ry;exact ne_dataH ra rb sd se hu ⟨.bl _,H,I,rfl,q⟩
structure MkN(K:FrG)(C:Addr):Prop where
 makes:PySem.W.makesIn K C=true
 init:PySem.W.findIn K (.ref C) "__init__"=some (some (.builtin "object.__init__"))
 kp:PySem.W.keepIn K (.ref C)=true
def ql9(C:Addr):TE:=λ_ H Q=>∀x dx,H x=none->H dx=none->dx≠x->Q (.ref x) (upd (upd H dx (.own x)) x (.ins C dx []))
theorem qg0{C:Addr}{z5:List (Addr×Obj)}{σ:St}{H:Hp}{s:Shared}{Q:VK}(M:MkN X.K C)(I:Inv X z5 σ H s)
 (h:∀x dx,H x=none->H dx=none->dx≠x->Q (.ref x) (upd (upd H dx (.own x)) x (.ins C dx []))):wpAny (model X.prog X.w) X.A (call (.ref C) []) (EP X z5 σ Q) X.xe s:=by
 have hq:=h (s.heap.objs.size+1) s.heap.objs.size (I.hok.fresh (Nat.le_succ _)) (I.hok.fresh (j8 _)) (jd (Nat.lt_succ_self _));have I2:=Inv.made (C:=C) I;refine wpAny_call (qgz I.kIn M.makes M.init (λself=>PySem.W.Looks.of_pure (PySem.W.oi_bind self)) ?_);have Y:=PySem.W.makes_of (M:=model X.prog X.w) I.kIn M.makes;have g1:((s.heap.push PySem.W.emptyDict).push (PySem.W.instObj C s.heap.objs.size)).get? (s.heap.objs.size+1)=some (PySem.W.instObj C s.heap.objs.size):=by
  have z:=jf (o:=PySem.W.instObj C s.heap.objs.size) (s.heap.push PySem.W.emptyDict) rfl
  rwa [jy]at z
 have t1:PySem.W.Looks (model X.prog X.w) ((s.heap.push PySem.W.emptyDict).push (PySem.W.instObj C s.heap.objs.size)) (typeOf (.ref (s.heap.objs.size+1))) (.ref C):=(PySem.W.Looks.ld g1).andThen .now;have t2:PySem.W.Looks (model X.prog X.w) ((s.heap.push PySem.W.emptyDict).push (PySem.W.instObj C s.heap.objs.size)) (isInstance (.ref (s.heap.objs.size+1)) (.type "object")) true:=
  t1.andThen (Y.top.keeps λb o e=>j7 _ (j7 _ e))
 refine codeAny_call_builtin PySem.W.oi_plain PySem.W.entry_oi (PySem.W.check_slot PySem.W.oi_kind PySem.W.oi_split t2 (PySem.W.oi_args _) ?_);rw[PySem.W.oi_run];exact j5 ⟨rfl,⟨.ref (s.heap.objs.size+1),_,I2,rfl,hq⟩⟩
theorem qiy{C:Addr}{x:Str}{p pos:Pos}(M:MkN X.K C)(hg:Gl X x)(hm:X.mg x=some (.ref C))(hdb:(x==("__debug__":Str))=false:=by decide):PE X (.Call (.Name x p) [] [] pos) (ql9 C):=by intro z5 s σ H Q I h;refine xj (qbh I hg hm ?_ hdb);exact PySem.W.callWith_K0 I.kIn M.kp (qg0 M I h)
end
def seqIs(b:Bool)(h:Heap)(l:Addr)(xs:Array Value):Prop:=match b with
 |true=>h.IsList l xs
 |false=>h.IsTuple l xs
def iterIs(b:Bool)(h:Heap)(i l:Addr)(k:Nat):Prop:=match b with
 |true=>h.IsListIter i l k
 |false=>h.IsTupleIter i l k
def q57(b:Bool)(l:Addr):Obj:={cls:=.type (if b then "list_iterator" else "tuple_iterator"),data:=.fields #[.ref l,.int 0 0]}
theorem seqIs.at_{b:Bool}{h h':Heap}{l:Addr}{xs:Array Value}(q:seqIs b h l xs)(e:∀o,h.get? l=some o->h'.get? l=some o):seqIs b h' l xs:=by
 cases b
 ·obtain⟨o,z,r⟩:=(show h.IsTuple l xs from q);exact(show h'.IsTuple l xs from⟨o,e o z,r⟩)
 ·obtain⟨o,z,r⟩:=(show h.IsList l xs from q);exact(show h'.IsList l xs from⟨o,e o z,r⟩)
theorem iterIs.at_{b:Bool}{h h':Heap}{i l:Addr}{k:Nat}(q:iterIs b h i l k)(e:∀o,h.get? i=some o->h'.get? i=some o):iterIs b h' i l k:=by
 cases b
 ·obtain⟨o,z,r⟩:=(show h.IsTupleIter i l k from q);exact(show h'.IsTupleIter i l k from⟨o,e o z,r⟩)
 ·obtain⟨o,z,r⟩:=(show h.IsListIter i l k from q);exact(show h'.IsListIter i l k from⟨o,e o z,r⟩)
theorem iterIs.obj{b:Bool}{h:Heap}{i l:Addr}{k:Nat}(q:iterIs b h i l k):∃o,h.get? i=some o/\∀v,o.data≠.cell v:=by
 cases b
 ·obtain⟨o,z,_,d⟩:=(show h.IsTupleIter i l k from q);exact⟨o,z,λv e=>by rw[d]at e;cases e⟩
 ·obtain⟨o,z,_,d⟩:=(show h.IsListIter i l k from q);exact⟨o,z,λv e=>by rw[d]at e;cases e⟩
theorem iterIs.mk_{b:Bool}{h:Heap}{i l:Addr}(q:h.get? i=some (q57 b l)):iterIs b h i l 0:=by
 cases b
 ·exact(show h.IsTupleIter i l 0 from⟨_,q,rfl,rfl⟩)
 ·exact(show h.IsListIter i l 0 from⟨_,q,rfl,rfl⟩)
section
variable{prog:Program}{w:World}{A:Around}{E:Value->Shared->Prop}{s:Shared}
theorem q82{b:Bool}{l:Addr}{xs:Array Value}{Q:Value->Shared->Prop}(q:seqIs b s.heap l xs)(h:Q (.ref s.heap.objs.size) {s with heap:=s.heap.push (q57 b l)}):wpAny (model prog w) A (pyIter (.ref l)) Q E s:=by
 cases b
 ·exact wpAny_pyIter_tuple (show s.heap.IsTuple l xs from q) h
 ·exact wpAny_pyIter_list (show s.heap.IsList l xs from q) h
theorem q9v{i l:Addr}{k:Nat}{xs:Array Value}{x:Value}{Q:Value->Shared->Prop}(st:s.heap.IsTupleIter i l k)(tp:s.heap.IsTuple l xs)(e:xs[k]? =some x)
 (h:∀h',h'.IsTupleIter i l (k+1)->Heap.SameBut i s.heap h'->Q x {s with heap:=h'}):wpAny (model prog w) A (Builtin.SmallTypes.nextOf (.ref i)) Q E s:=by
 obtain⟨oi,gi,ci,di⟩:=id st;obtain⟨ot,gt,_,nt,dt⟩:=tp;unfold Builtin.SmallTypes.nextOf;refine j3 (k6 (name:=Str.ofString "__next__") st.typeIs kl (xv kl st.typeIs F.entry_tuple_iterator_next ?_ (F.args_tuple_iterator_next_1 _)));show wpAny _ _ (field (.ref i) 0 >>= _) _ _ s;refine j3 (xc gi di (x:=.ref l) rfl ?_);show wpAny _ _ (if(Value.ref l==Value.none)=true then _ else _) _ _ s;rw[if_neg (by exact Bool.false_ne_true:¬((Value.ref l==Value.none)=true))];show wpAny _ _ (field (.ref i) 1 >>= _) _ _ s;refine j3 (xc gi di (x:=.int k 0) rfl ?_);show wpAny _ _ (seqItems? (.ref l) >>= _) _ _ s;refine j3 (x8 gt dt ?_);simp only[Int.toNat_natCast,e];refine j3 (wpAny_setField gi di (by simp) (j5 ⟨x,rfl,j5 (h _ ?_ (kj ..))⟩));refine⟨_,xw _ gi (Obj.isFreed_of_fields (Obj.data_mapFields di _)),(Obj.cls_mapFields ..).trans ci,?_⟩;rw[Obj.data_mapFields di];simp[rawInt]
theorem q6k{i l:Addr}{k:Nat}{xs:Array Value}{Q:Value->Shared->Prop}(hh:A.handled=none)(st:s.heap.IsTupleIter i l k)(tp:s.heap.IsTuple l xs)(e:xs[k]? =none)
 (h:∀h' x,Heap.ExtBut i s.heap h'->(∃o,h'.get? x=some o/\o.cls=.type "StopIteration")->E (.ref x) {s with heap:=h'}):wpAny (model prog w) A (Builtin.SmallTypes.nextOf (.ref i)) Q E s:=by
 obtain⟨oi,gi,ci,di⟩:=id st;obtain⟨ot,gt,_,nt,dt⟩:=tp;unfold Builtin.SmallTypes.nextOf;refine j3 (k6 (name:=Str.ofString "__next__") st.typeIs kl (xv kl st.typeIs F.entry_tuple_iterator_next ?_ (F.args_tuple_iterator_next_1 _)));show wpAny _ _ (field (.ref i) 0 >>= _) _ _ s;refine j3 (xc gi di (x:=.ref l) rfl ?_);show wpAny _ _ (if(Value.ref l==Value.none)=true then _ else _) _ _ s;rw[if_neg (by exact Bool.false_ne_true:¬((Value.ref l==Value.none)=true))];show wpAny _ _ (field (.ref i) 1 >>= _) _ _ s;refine j3 (xc gi di (x:=.int k 0) rfl ?_);show wpAny _ _ (seqItems? (.ref l) >>= _) _ _ s;refine j3 (x8 gt dt ?_);simp only[Int.toNat_natCast,e];refine j3 (wpAny_rule (j3 (wpAny_setField gi di (by simp) ?_)));show wpAny _ _ (newExc (.type "StopIteration") [] >>= _) _ _ _;refine j3 ?_;simp only[newExc,newTuple];refine j3 (xl ?_ (by size_fits));refine j3 (m:=firstArgMember _ _) (wpAny_of_eq (a:=Value.none) (by first|rfl|(simp only[firstArgMember]<;>rfl)) ?_);refine xl ?_ (by size_fits);simp only[raiseNew];refine j3 (wpAny_handled ?_)
 first|rw[(hh:A.in1.handled=none)]|rw[hh]
 refine j3 (j5 (wpAny_throw ?_));exact h _ _ (((kj ..).extBut.push _).push _) ⟨_,jf _ rfl,rfl⟩
theorem q5y{b:Bool}{i l:Addr}{k:Nat}{xs:Array Value}{x:Value}{Q:Value->Shared->Prop}(st:iterIs b s.heap i l k)(tp:seqIs b s.heap l xs)(e:xs[k]? =some x)
 (h:∀h',iterIs b h' i l (k+1)->Heap.SameBut i s.heap h'->Q x {s with heap:=h'}):wpAny (model prog w) A (Builtin.SmallTypes.nextOf (.ref i)) Q E s:=by
 cases b
 ·exact q9v st tp e h
 ·exact wpAny_nextOf_list_item st tp e h
theorem q53{b:Bool}{i l:Addr}{k:Nat}{xs:Array Value}{Q:Value->Shared->Prop}(hh:A.handled=none)(st:iterIs b s.heap i l k)(tp:seqIs b s.heap l xs)(e:xs[k]? =none)
 (h:∀h' x,Heap.ExtBut i s.heap h'->(∃o,h'.get? x=some o/\o.cls=.type "StopIteration")->E (.ref x) {s with heap:=h'}):wpAny (model prog w) A (Builtin.SmallTypes.nextOf (.ref i)) Q E s:=by
 cases b
 ·exact q6k hh st tp e h
 ·exact wpAny_nextOf_list_end hh st tp e h
theorem qic{z TI TO i1 i2 l1 l2:Addr}{b1 b2:Bool}{k1 k2:Nat}{xs ys:Array Value}{x y a b:Value}{Q:Option Value->Shared->Prop}(D:ZipApart z TI TO i1 i2 l1 l2)
 (hz:IsZip s.heap z TI TO .none) (hTI:IsPair s.heap TI (.ref i1) (.ref i2)) (hTO:IsPair s.heap TO a b) (h1:iterIs b1 s.heap i1 l1 k1) (h2:iterIs b2 s.heap i2 l2 k2) (q1:seqIs b1 s.heap l1 xs) (q2:seqIs b2 s.heap l2 ys) (hx:xs[k1]? =some x) (hy:ys[k2]? =some y)
 (hQ:∀h',IsZip h' z TI TO (rawInt s.heap.objs.size)->IsPair h' TO x y->iterIs b1 h' i1 l1 (k1+1)->iterIs b2 h' i2 l2 (k2+1)->IsPair h' s.heap.objs.size x y->
   (∀c o,c≠z->c≠TO->c≠i1->c≠i2->s.heap.get? c=some o->h'.get? c=some o)->Q (some (.ref s.heap.objs.size)) {s with heap:=h'}):wpAny (model prog w) A (pyNext (.ref z)) Q E s:=by
 have ty:s.TypeIs (.ref z) "zip":=⟨_,hz,rfl⟩;unfold pyNext;refine j3 (wpAny_attempt (k6 (name:=Str.ofString "__next__") ty F.slot_zip_next (xv F.slot_zip_next ty F.entry_zip_next ?_ (F.args_zip_next_1 _))));show wpAny _ _ (field (.ref z) 2 >>= _) _ _ _;refine j3 (xc hz rfl (x:=.bool false) rfl ?_);show wpAny _ _ (field (.ref z) 3 >>= _) _ _ _;refine j3 (xc hz rfl (x:=.ref TI) rfl (j3 (x8 hTI rfl ?_)));show wpAny _ _ (Builtin.SmallTypes.ownedTupleIsFree (.ref z) >>= _) _ _ _;refine j3 ?_;unfold Builtin.SmallTypes.ownedTupleIsFree;refine j3 (xc hz rfl (x:=.none) rfl (j5 ?_));simp only[if_true];refine j3 (wpAny_rule (j3 (xc hz rfl (x:=.ref TO) rfl (j3 (kg hz (by simp) λg1 z1 s1=>?_)))));have Z1:IsZip g1 z TI TO .ellipsis:=z1;refine j3 ?_;simp only[List.zipIdx_cons,List.zipIdx_nil,List.forIn_cons,List.forIn_nil];refine j3 (j3 (wpAny_onRaise ?_));show wpAny _ _ (Builtin.SmallTypes.nextOf (.ref i1) >>= _) _ _ _;refine j3 (q5y (h1.at_ λo e=>s1.extBut _ o D.i1z e) (q1.at_ λo e=>s1.extBut _ o D.l1z e) hx λg2 n2 s2=>j5 ?_);have P2:IsPair g2 TO a b:=s2.extBut _ _ D.TOi1 (s1.extBut _ _ D.TOz hTO);refine j3 (x8 P2 rfl (j3 (wpAny_updateSeq_pair P2 λg3 p3 s3=>j3 (xp (j5 ?_)))));have P3:IsPair g3 TO x b:=p3;refine j3 (j3 (wpAny_onRaise ?_));show wpAny _ _ (Builtin.SmallTypes.nextOf (.ref i2) >>= _) _ _ _;refine j3 (q5y (h2.at_ λo e=>s3.extBut _ o D.TOi2.symm (s2.extBut _ o D.i12.symm (s1.extBut _ o D.i2z e))) (q2.at_ λo e=>s3.extBut _ o D.l2TO (s2.extBut _ o D.l2i1 (s1.extBut _ o D.l2z e))) hy λg4 n4 s4=>j5 ?_);have P4:IsPair g4 TO x b:=s4.extBut _ _ D.TOi2 P3;refine j3 (x8 P4 rfl (j3 (wpAny_updateSeq_pair P4 λg5 p5 s5=>j3 (xp (j5 (j5 ?_))))));have P5:IsPair g5 TO x y:=p5;refine j3 (x8 P5 rfl (j3 (wpAny_newTuple ?_)));have sz:g5.objs.size=s.heap.objs.size:=by rw[s5.1,s4.1,s3.1,s2.1,s1.1]
 have Z5:IsZip g5 z TI TO .ellipsis:=s5.extBut _ _ D.TOz.symm (s4.extBut _ _ D.i2z.symm (s3.extBut _ _ D.TOz.symm (s2.extBut _ _ D.i1z.symm Z1)));have K5:∀c o,c≠z->c≠TO->c≠i1->c≠i2->s.heap.get? c=some o->g5.get? c=some o:=λc o c1 c2 c3 c4 e=>s5.extBut _ _ c2 (s4.extBut _ _ c4 (s3.extBut _ _ c2 (s2.extBut _ _ c3 (s1.extBut _ _ c1 e))));have N1:iterIs b1 g5 i1 l1 (k1+1):=n2.at_ λo e=>s5.extBut _ o D.TOi1.symm (s4.extBut _ o D.i12 (s3.extBut _ o D.TOi1.symm e));have N2:iterIs b2 g5 i2 l2 (k2+1):=n4.at_ λo e=>s5.extBut _ o D.TOi2.symm e;have zlt:z<g5.objs.size:=j6 Z5;show wpAny _ _ (Builtin.SmallTypes.ownedTupleHandOut (.ref z) (.ref g5.objs.size) >>= _) _ _ _;refine j3 ?_;unfold Builtin.SmallTypes.ownedTupleHandOut;have Z6:IsZip (g5.push {cls:=.type "tuple",data:=.seq #[x,y]}) z TI TO .ellipsis:=j7 _ Z5;refine j3 (kg Z6 (by simp) λg7 z7 s7=>?_);have Z7:IsZip g7 z TI TO (rawInt g5.objs.size):=z7;refine kg Z7 (by simp) λg8 z8 s8=>?_;have Z8:IsZip g8 z TI TO (rawInt g5.objs.size):=z8;have up:∀c o,c≠z->g5.get? c=some o->g8.get? c=some o:=λc o c1 e=>s8.extBut _ _ c1 (s7.extBut _ _ c1 (j7 _ e));have T8:IsPair g8 g5.objs.size x y:=s8.extBut _ _ (Nat.ne_of_gt zlt) (s7.extBut _ _ (Nat.ne_of_gt zlt) (jf _ rfl));rw[sz]at Z8 T8;refine j5 ⟨_,rfl,j5 ?_⟩;show Q (some (.ref g5.objs.size)) _;rw[sz];exact hQ g8 Z8 (up _ _ D.TOz P5) (N1.at_ λo e=>up _ o D.i1z e) (N2.at_ λo e=>up _ o D.i2z e) T8 λc o c1 c2 c3 c4 e=>up c o c1 (K5 c o c1 c2 c3 c4 e)
theorem qm7{z TI TO i1 i2 l1 l2:Addr}{b1 b2:Bool}{k1 k2:Nat}{xs ys:Array Value}{a b:Value}{Q:Option Value->Shared->Prop}(hh:A.handled=none)(D:ZipApart z TI TO i1 i2 l1 l2)
 (hz:IsZip s.heap z TI TO .none) (hTI:IsPair s.heap TI (.ref i1) (.ref i2)) (hTO:IsPair s.heap TO a b) (h1:iterIs b1 s.heap i1 l1 k1) (h2:iterIs b2 s.heap i2 l2 k2) (q1:seqIs b1 s.heap l1 xs) (q2:seqIs b2 s.heap l2 ys) (hend:xs[k1]? =none∨ys[k2]? =none)
 (hQ:∀h',(∀c o,c≠z->c≠TO->c≠i1->c≠i2->s.heap.get? c=some o->h'.get? c=some o)->Q none {s with heap:=h'}):wpAny (model prog w) A (pyNext (.ref z)) Q E s:=by
 have ty:s.TypeIs (.ref z) "zip":=⟨_,hz,rfl⟩;have fin:∀(h':Heap) (e:Addr),(∀c o,c≠z->c≠TO->c≠i1->c≠i2->s.heap.get? c=some o->h'.get? c=some o)->(∃o,h'.get? e=some o/\o.cls=.type "StopIteration")->
  wpAny (model prog w) A (isInstance (.ref e) (.type "StopIteration") >>= λr=>if r=true then pure none else throw (.ref e)) Q E {s with heap:=h'}:=λh' e hk ⟨o,ho,hc⟩=>
  j3 (wpAny_isInstance (T:="StopIteration") (b:=true) ⟨o,ho,hc⟩ isSubtype_stop (j5 (hQ _ hk)))
 unfold pyNext;refine j3 (wpAny_attempt (k6 (name:=Str.ofString "__next__") ty F.slot_zip_next (xv F.slot_zip_next ty F.entry_zip_next ?_ (F.args_zip_next_1 _))));show wpAny _ _ (field (.ref z) 2 >>= _) _ _ _;refine j3 (xc hz rfl (x:=.bool false) rfl ?_);show wpAny _ _ (field (.ref z) 3 >>= _) _ _ _;refine j3 (xc hz rfl (x:=.ref TI) rfl (j3 (x8 hTI rfl ?_)));show wpAny _ _ (Builtin.SmallTypes.ownedTupleIsFree (.ref z) >>= _) _ _ _;refine j3 ?_;unfold Builtin.SmallTypes.ownedTupleIsFree;refine j3 (xc hz rfl (x:=.none) rfl (j5 ?_));simp only[if_true];refine j3 (wpAny_rule (j3 (xc hz rfl (x:=.ref TO) rfl (j3 (kg hz (by simp) λg1 z1 s1=>?_)))));have Z1:IsZip g1 z TI TO .ellipsis:=z1;refine j3 ?_;simp only[List.zipIdx_cons,List.zipIdx_nil,List.forIn_cons,List.forIn_nil];refine j3 (j3 (wpAny_onRaise ?_));show wpAny _ _ (Builtin.SmallTypes.nextOf (.ref i1) >>= _) _ _ _;have I1:iterIs b1 g1 i1 l1 k1:=h1.at_ λo e=>s1.extBut _ o D.i1z e;have L1:seqIs b1 g1 l1 xs:=q1.at_ λo e=>s1.extBut _ o D.l1z e;cases ex:xs[k1]? with
 | none=>
  refine j3 (q53 hh I1 L1 ex λg2 e s2 he=>?_);obtain⟨oe,he,ce⟩:=he;have Z2:IsZip g2 z TI TO .ellipsis:=s2 _ _ D.i1z.symm Z1;have nez:e≠z:=λq=>by subst q;rw[Z2]at he;cases he;simp at ce
  exact kg Z2 (by simp) λg3 _ s3=>fin g3 e (λc o c1 _ c3 _ q=>s3.extBut _ _ c1 (s2 _ _ c3 (s1.extBut _ _ c1 q))) ⟨oe,s3.extBut _ _ nez he,ce⟩
 | some x=>
  have ey:ys[k2]? =none:=by
   rcases hend with q|q
   ·rw[ex]at q;cases q
   ·exact q
  refine j3 (q5y I1 L1 ex λg2 n2 s2=>j5 ?_);have P2:IsPair g2 TO a b:=s2.extBut _ _ D.TOi1 (s1.extBut _ _ D.TOz hTO);refine j3 (x8 P2 rfl (j3 (wpAny_updateSeq_pair P2 λg3 p3 s3=>j3 (xp (j5 ?_)))));refine j3 (j3 (wpAny_onRaise ?_));show wpAny _ _ (Builtin.SmallTypes.nextOf (.ref i2) >>= _) _ _ _;refine j3 (q53 hh (h2.at_ λo e=>s3.extBut _ o D.TOi2.symm (s2.extBut _ o D.i12.symm (s1.extBut _ o D.i2z e))) (q2.at_ λo e=>s3.extBut _ o D.l2TO (s2.extBut _ o D.l2i1 (s1.extBut _ o D.l2z e))) ey λg4 e s4 he=>?_);obtain⟨oe,he,ce⟩:=he;have Z4:IsZip g4 z TI TO .ellipsis:=s4 _ _ D.i2z.symm (s3.extBut _ _ D.TOz.symm (s2.extBut _ _ D.i1z.symm Z1));have nez:e≠z:=λq=>by subst q;rw[Z4]at he;cases he;simp at ce
  exact kg Z4 (by simp) λg5 _ s5=>fin g5 e (λc o c1 c2 c3 c4 q=>s5.extBut _ _ c1 (s4 _ _ c4 (s3.extBut _ _ c2 (s2.extBut _ _ c3 (s1.extBut _ _ c1 q))))) ⟨oe,s5.extBut _ _ nez he,ce⟩
abbrev zo1(b1:Bool)(h:Heap)(l1:Addr):Heap:=h.push (q57 b1 l1)
abbrev zo2(b1 b2:Bool)(h:Heap)(l1 l2:Addr):Heap:=(zo1 b1 h l1).push (q57 b2 l2)
abbrev zo3(b1 b2:Bool)(h:Heap)(l1 l2:Addr):Heap:=(zo2 b1 b2 h l1 l2).push {cls:=.type "tuple",data:=.seq #[.ref h.objs.size,.ref (zo1 b1 h l1).objs.size]}
abbrev zo4(b1 b2:Bool)(h:Heap)(l1 l2:Addr):Heap:=(zo3 b1 b2 h l1 l2).push {cls:=.type "tuple",data:=.seq #[.none,.none]}
abbrev zo5(b1 b2:Bool)(h:Heap)(l1 l2:Addr):Heap:=(zo4 b1 b2 h l1 l2).push {cls:=.type "zip",data:=.fields #[.none,.bool false,.bool false,.ref (zo2 b1 b2 h l1 l2).objs.size,.ref (zo3 b1 b2 h l1 l2).objs.size]}
theorem qm6(b1 b2:Bool)(l1 l2:Addr)(xs ys:Array Value):Meets (Builtin.«zip.__new__» ⟨[.type "zip",.ref l1,.ref l2],[]⟩) (λ_ R s=>seqIs b1 s.heap l1 xs/\seqIs b2 s.heap l2 ys/\
 R (.ok (.ret (.ref (zo4 b1 b2 s.heap l1 l2).objs.size))) {s with heap:=zo5 b1 b2 s.heap l1 l2}):=by
 refine .of_wp λprog w A R s q=>?_;obtain⟨hp,g,d,tk,os⟩:=s;obtain⟨q1,q2,q⟩:=q;have sub:=sub_zip;have L1:seqIs b1 (Shared.heap ⟨hp,g,d,tk,os⟩) l1 xs:=q1;have L2':seqIs b2 (Shared.heap ⟨hp.push (q57 b1 l1),g,d,tk,os⟩) l2 ys:=q2.at_ λo z=>j7 _ z
 wp_walk using q82 L1,q82 L2'
 exact⟨_,rfl,q⟩
theorem qkb{b1 b2:Bool}{l1 l2:Addr}{xs ys:Array Value}{Q:Value->Shared->Prop}(q1:seqIs b1 s.heap l1 xs)(q2:seqIs b2 s.heap l2 ys)
 (h:∀h',IsZip h' (s.heap.objs.size+4) (s.heap.objs.size+2) (s.heap.objs.size+3) .none->IsPair h' (s.heap.objs.size+2) (.ref s.heap.objs.size) (.ref (s.heap.objs.size+1))->IsPair h' (s.heap.objs.size+3) .none .none->
   iterIs b1 h' s.heap.objs.size l1 0->iterIs b2 h' (s.heap.objs.size+1) l2 0->(∀c o,s.heap.get? c=some o->h'.get? c=some o)->Q (.ref (s.heap.objs.size+4)) {s with heap:=h'}):
 wpAny (model prog w) A (call (.type "zip") [.ref l1,.ref l2]) Q E s:=by
 refine callType_new F.called_zip (by decide) (F.typeCall_zip_2 _ _) (F.newCall_zip_2 _ _) (λobj=>F.args_object_init_3 obj _ _) F.entry_zip_new (qm6 b1 b2 l1 l2 xs ys) ⟨q1,q2,?_⟩;have y1:(zo1 b1 s.heap l1).objs.size=s.heap.objs.size+1:=jy ..;have y2:(zo2 b1 b2 s.heap l1 l2).objs.size=s.heap.objs.size+2:=by rw[jy,y1]
 have y3:(zo3 b1 b2 s.heap l1 l2).objs.size=s.heap.objs.size+3:=by rw[jy,y2]
 have y4:(zo4 b1 b2 s.heap l1 l2).objs.size=s.heap.objs.size+4:=by rw[jy,y3]
 have k5:(zo5 b1 b2 s.heap l1 l2).get? (zo4 b1 b2 s.heap l1 l2).objs.size=some _:=jf _ rfl;have k4:(zo5 b1 b2 s.heap l1 l2).get? (zo3 b1 b2 s.heap l1 l2).objs.size=some _:=j7 _ (jf _ rfl);have k3:(zo5 b1 b2 s.heap l1 l2).get? (zo2 b1 b2 s.heap l1 l2).objs.size=some _:=j7 _ (j7 _ (jf _ rfl));have k2:(zo5 b1 b2 s.heap l1 l2).get? (zo1 b1 s.heap l1).objs.size=some (q57 b2 l2):=j7 _ (j7 _ (j7 _ (jf _ (by cases b2<;>rfl))));have k1:(zo5 b1 b2 s.heap l1 l2).get? s.heap.objs.size=some (q57 b1 l1):=j7 _ (j7 _ (j7 _ (j7 _ (jf _ (by cases b1<;>rfl)))));show _/\_;rw[y2,y3,y4]at k5;rw[y1,y2]at k3;rw[y3]at k4;rw[y1]at k2;rw[y4];exact⟨⟨_,k5,rfl⟩,h _ k5 k3 k4 (iterIs.mk_ k1) (iterIs.mk_ k2) λc o x=>j7 _ (j7 _ (j7 _ (j7 _ (j7 _ x))))⟩
end
def SqB(K:FrG)(b:Bool)(H:Hp)(p:Addr)(xs:List V):Prop:=match b with
 |true=>SqL K H p xs
 |false=>SqT K H p xs
section
variable{X:Cx}{z5:List (Addr×Obj)}{σ:St}{H:Hp}{s:Shared}{b b1 b2:Bool}{p p1 p2:Addr}{xs ys:List V}
theorem Inv.seqB(I:Inv X z5 σ H s)(h:SqB X.K b H p xs):∃its:List Value,Vals xs its/\seqIs b s.heap p its.toArray/\xs.length<=sizeLine:=by
 cases b
 ·obtain⟨its,r,q,hz⟩:=I.tuple (show SqT X.K H p xs from h);exact⟨its,r,(show s.heap.IsTuple p its.toArray from q),hz⟩
 ·obtain⟨its,r,q,hz⟩:=I.list (show SqL X.K H p xs from h);exact⟨its,r,(show s.heap.IsList p its.toArray from q.isList),hz⟩
theorem Inv.seqB_inj(I:Inv X z5 σ H s)(h:SqB X.K b H p xs)(h':SqB X.K b H p ys):xs=ys:=by
 cases b
 ·exact I.tuple_inj h h'
 ·exact I.list_inj h h'
end
def Itz(K:FrG)(b1 b2:Bool)(p1 p2:Addr):It:=
 ⟨λi H=>∃xs ys x y,SqB K b1 H p1 xs/\SqB K b2 H p2 ys/\xs[i]? =some x/\ys[i]? =some y,
  λi H v H'=>∃T x y,v=.ref T/\H T=none/\H'=upd H T (.tup [x,y])/\(∀xs,SqB K b1 H p1 xs->xs[i]? =some x)/\∀ys,SqB K b2 H p2 ys->ys[i]? =some y,
  λi H=>∃xs ys,SqB K b1 H p1 xs/\SqB K b2 H p2 ys/\(xs.length<=i∨ys.length<=i)⟩
def qug(b1 b2:Bool)(p1 p2 z TI TO i1 i2:Addr)(i:Nat)(h:Heap):Prop:=IsZip h z TI TO .none/\IsPair h TI (.ref i1) (.ref i2)/\(∃a b,IsPair h TO a b)/\iterIs b1 h i1 p1 i/\iterIs b2 h i2 p2 i
theorem qih{P:Program}{w:World}{K:FrG}{zp:List Expr}{x1:Nat}{pos:Pos}(b1 b2:Bool){p1 p2 z TI TO i1 i2:Addr}(D:ZipApart z TI TO i1 i2 p1 p2):
 Turn P w K (.Tuple zp x1 pos) (Itz K b1 b2 p1 p2) [z,TI,TO,i1,i2] z (qug b1 b2 p1 p2 z TI TO i1 i2) where
 mem:=by simp
 obj:=λi h st c hc=>by
  obtain⟨hz,hI,⟨a,b,hO⟩,j1,j2⟩:=st;simp only[List.mem_cons,List.not_mem_nil,or_false]at hc;rcases hc with rfl|rfl|rfl|rfl|rfl
  ·exact⟨_,hz,λv e=>by cases e⟩
  ·exact⟨_,hI,λv e=>by cases e⟩
  ·exact⟨_,hO,λv e=>by cases e⟩
  ·exact j1.obj
  ·exact j2.obj
 keep:=λi h h' st k=>by obtain⟨hz,hI,⟨a,b,hO⟩,j1,j2⟩:=st;exact⟨k z (by simp) _ hz,k TI (by simp) _ hI,⟨a,b,k TO (by simp) _ hO⟩,j1.at_ λo e=>k i1 (by simp) o e,j2.at_ λo e=>k i2 (by simp) o e⟩
 item:=by
  intro X hP hw hK hc i z5 s σ H E I hf st hg;subst hP hw hK;obtain⟨xs,ys,x,y,q1,q2,ex,ey⟩:=hg;obtain⟨it1,r1,t1,_⟩:=I.seqB q1;obtain⟨it2,r2,t2,_⟩:=I.seqB q2;obtain⟨u,eu,ru⟩:=r1.get ex;obtain⟨v,ev,rv⟩:=r2.get ey;obtain⟨hz,hI,⟨a,b,hO⟩,j1,j2⟩:=st;refine qic D hz hI hO j1 j2 t1 t2 (x:=u) (y:=v) (by simpa using eu) (by simpa using ev) λh' z' o' n1 n2 tp kk=>?_;refine⟨_,rfl,?_⟩;refine wpAny_letOwnedTupleGo_zip z' λh'' z'' s''=>?_;have fresh:H s.heap.objs.size=none:=I.hok.fresh (j8 _);have zne:s.heap.objs.size≠z:=λe=>by have:=j6 hz;rw[<-e]at this;exact jz _ this
  have keep:∀c o,c∉[z,TI,TO,i1,i2]->s.heap.get? c=some o->h''.get? c=some o:=λc o hc e=>by simp only[List.mem_cons,List.not_mem_nil,or_false,not_or]at hc;exact s''.extBut c o hc.1 (kk c o hc.1 hc.2.2.1 hc.2.2.2.1 hc.2.2.2.2 e)
  have tp':h''.get? s.heap.objs.size=some {cls:=.type "tuple",data:=.seq #[u,v]}:=s''.extBut _ _ zne tp;have I':Inv X z5 σ (upd H s.heap.objs.size (.tup [x,y])) {s with heap:=h'',toks:=s.toks}:=by
   refine I.step (g':=s.gens) (d':=s.drawn) (ch:=[z,TI,TO,i1,i2]) (λc hc=>?_) (λc o _ _ hc e _=>keep c o hc e) (λc o _ _ hc e _=>⟨o.slots,keep c o hc e⟩) (λc o _ e n=>?_) (λc o hc e=>⟨o,keep c o hc e⟩)
    (λc zs e=>?_) (λc o w' e=>?_) (λc ps e=>⟨#[],?_⟩) (λm hm=>?_) (λc o e=>?_) I.bare
   ·obtain⟨_,f1,f2,f3,f4,f5⟩:=hf c hc;exact⟨f3,f1,f4,f5⟩
   ·rw[q0r (jd (j6 e))];exact n
   ·rw[q0r (q1i e fresh)];exact e
   ·rw[q0r (q1i e fresh)];exact e
   ·rw[q0r (q1i e fresh),e];simp
   ·obtain⟨o,es,ep,ho,r⟩:=hm;exact⟨o,es,ep,keep _ o (λq=>(hf _ q).2.1 rfl) ho,r⟩
   ·by_cases hb:c=s.heap.objs.size
    ·subst hb;rw[q0u]at e;cases e;exact⟨by show 2<=sizeLine;decide,[u,v],.cons ru (.cons rv .nil),⟨_,tp',⟨rfl,_,rfl⟩,rfl⟩⟩
    ·rw[q0r hb]at e;refine(I.hok c o e).stay (λd w' hd q=>keep d w' (λm=>?_) q) (λd q=>?_) λd zs q=>?_
     ·have n:=(hf d m).1;rcases hd with rfl|hd
      ·rw[n]at e;cases e
      ·rw[n]at hd;cases hd
     ·rw[q0r (q1i q fresh)];exact q
     ·rw[q0r (q1i q fresh)];exact q
  refine⟨.ref s.heap.objs.size,_,I',rfl,⟨_,x,y,rfl,fresh,rfl,λzs q=>by rw[I.seqB_inj q q1];exact ex,λzs q=>by rw[I.seqB_inj q q2];exact ey⟩,?_,λc hc=>?_⟩
  ·refine⟨z'',s''.extBut _ _ D.TIz (kk _ _ D.TIz D.TITO D.TIi1 D.TIi2 hI),⟨u,v,s''.extBut _ _ D.TOz o'⟩,n1.at_ λo e=>s''.extBut _ o D.i1z e,n2.at_ λo e=>s''.extBut _ o D.i2z e⟩
  ·have lt:c<s.heap.objs.size:=by
    simp only[List.mem_cons,List.not_mem_nil,or_false]at hc;rcases hc with rfl|rfl|rfl|rfl|rfl
    ·exact j6 hz
    ·exact j6 hI
    ·exact j6 hO
    ·obtain⟨o,e,_⟩:=j1.obj;exact j6 e
    ·obtain⟨o,e,_⟩:=j2.obj;exact j6 e
   rw[q0r (jd lt)];exact(hf c hc).1
 done:=by
  intro X hP hw hK hc i z5 s σ H E I hf st hg;subst hP hw hK;obtain⟨xs,ys,q1,q2,hl⟩:=hg;obtain⟨it1,r1,t1,_⟩:=I.seqB q1;obtain⟨it2,r2,t2,_⟩:=I.seqB q2;obtain⟨hz,hI,⟨a,b,hO⟩,j1,j2⟩:=st;have l1:=r1.length;have l2:=r2.length;refine qm7 (I.ok.hd hc) D hz hI hO j1 j2 t1 t2 (by rcases hl with h|h;exact .inl (by simp;omega);exact .inr (by simp;omega)) λh' kk=>⟨rfl,?_⟩;have keep:∀c o,c∉[z,TI,TO,i1,i2]->s.heap.get? c=some o->h'.get? c=some o:=λc o hc e=>by simp only[List.mem_cons,List.not_mem_nil,or_false,not_or]at hc;exact kk c o hc.1 hc.2.2.1 hc.2.2.2.1 hc.2.2.2.2 e
  show Inv X z5 σ H {s with heap:=h',toks:=s.toks};refine I.step (g':=s.gens) (d':=s.drawn) (ch:=[z,TI,TO,i1,i2]) (λc hc=>?_) (λc o _ _ hc e _=>keep c o hc e) (λc o _ _ hc e _=>⟨o.slots,keep c o hc e⟩) (λc o _ e n=>n) (λc o hc e=>⟨o,keep c o hc e⟩)
   (λc zs e=>e) (λc o w' e=>e) (λc ps e=>⟨#[],by rw[e];simp⟩) (λm hm=>?_) (λc o e=>?_) I.bare
  ·obtain⟨_,f1,f2,f3,f4,f5⟩:=hf c hc;exact⟨f3,f1,f4,f5⟩
  ·obtain⟨o,es,ep,ho,r⟩:=hm;exact⟨o,es,ep,keep _ o (λq=>(hf _ q).2.1 rfl) ho,r⟩
  ·refine(I.hok c o e).stay (λd w' hd q=>keep d w' (λm=>?_) q) (λd q=>q) λd zs q=>q;have n:=(hf d m).1;rcases hd with rfl|hd
   ·rw[n]at e;cases e
   ·rw[n]at hd;cases hd
 self:=λ_ _ _ _ _ st h=>wpAny_pyIter_zip st.1 h
section
variable{X:Cx}{a b:Expr}{ta:TA}{p pos:Pos}{zp:List Expr}{x1:Nat}{tp:Pos}
def iZip(K:FrG)(b1 b2:Bool)(ta:TA):TI:=λσ H R=>ta σ H λvs H1=>∃p1 p2,vs=[.ref p1,.ref p2]/\(∃xs,SqB K b1 H1 p1 xs)/\(∃ys,SqB K b2 H1 p2 ys)/\R (Itz K b1 b2 p1 p2) H1
theorem qca{K:FrG}(b1 b2:Bool)(hK:X.K=K)(hg:Gl X "zip")(hm:X.mg "zip"=none)(ha:PA X [a,b] ta)(he:starEach [a,b] X.env=(false,eval a X.env)::starEach [b] X.env:=by rfl)(hpl:(backTo pos (starEach [b] X.env)).any (·.1)=false:=by rfl):
 PI X (.Tuple zp x1 tp) (.Call (.Name "zip" p) [a,b] [] pos) (iZip K b1 b2 ta):=by
 subst hK;intro z5 s σ H R I h;refine xj (q41 I hg hm (u:=.type "zip") (by rfl) ?_);refine PyProof.Rows.callWith_type1 (thn (ha pos z5 s σ H _ I h) λus s1 h1=>?_) he hpl;obtain⟨vs,H1,I1,r1,p1,p2,rfl,⟨xs,q1⟩,⟨ys,q2⟩,k⟩:=h1;obtain⟨u,w',rfl,ru,rw'⟩:=vals2 r1;cases(show u=Value.ref p1 from ru);cases(show w'=Value.ref p2 from rw');obtain⟨it1,r1,t1,_⟩:=I1.seqB q1;obtain⟨it2,r2,t2,_⟩:=I1.seqB q2;have lt:∀{c:Addr} {b:Bool} {zs:Array Value},seqIs b s1.heap c zs->c<s1.heap.objs.size:=λ{c b zs} q=>by
  cases b
  ·obtain⟨o,e,_⟩:=(show s1.heap.IsTuple c zs from q);exact j6 e
  ·obtain⟨o,e,_⟩:=(show s1.heap.IsList c zs from q);exact j6 e
 refine qkb t1 t2 λh' hz hI hO j1 j2 kk=>wpAny_pyIter_zip hz ?_;have D:=zipApart_new (lt t1) (lt t2);have I2:Inv X z5 σ H1 {s1 with heap:=h',toks:=s1.toks}:=I1.kept kk;refine⟨_,_,_,_,H1,rfl,I2,qih b1 b2 D,⟨hz,hI,⟨_,_,hO⟩,j1,j2⟩,λc hc=>?_,k⟩;have le:s1.heap.objs.size<=c:=by simp only[List.mem_cons,List.not_mem_nil,or_false]at hc;rcases hc with rfl|rfl|rfl|rfl|rfl<;>first|exact j8 _|exact Nat.le_add_right _ _
 exact I1.fpOk le (I1.hok.fresh le)
end
theorem qdl{xs:List PyData}(h:PyData.canLayAll0 xs=true)(d:PyData.depthAll xs<=60):SeqAt.shaped (.list xs)=true:=by
 unfold SeqAt.shaped;rw[Bool.and_eq_true];refine⟨?_,decide_eq_true ?_⟩
 ·simpa only[PyData.canLay0]using h
 ·simp only[PyData.depth];omega
theorem qd0:∀xs:List Int,PyData.canLayAll0 (xs.map PyData.int)=true
 |[]=>by simp[PyData.canLayAll0]
 |x::xs=>by simp[PyData.canLayAll0,PyData.canLay0,qd0 xs]
theorem qa8:∀xs:List Int,PyData.depthAll (xs.map PyData.int)<=60
 |[]=>by simp[PyData.depthAll]
 | x::xs=>by have:=qa8 xs;simp[PyData.depthAll,PyData.depth];omega
theorem q71(xs:List Int):SeqAt.shaped (.list (xs.map PyData.int))=true:=qdl (qd0 xs) (qa8 xs)
section
variable{X:Cx}
theorem q54:∀(ns:List Int) (k:Nat),k<=ns.length->preSum (λi=>ns.getD i 0) k=(ns.take k).sum
 |ns,0,_=>by simp[preSum]
 | ns,k+1,h=>by
  have hk:k<ns.length:=h;rw[preSum,q54 ns k (Nat.le_of_lt hk),List.take_add_one,jb hk,List.sum_append];have e:ns.getD k 0=ns[k]:=by rw[jk,jb hk];rfl
  rw[e];simp
theorem q2j:∀{ns:List Int} {us:List Value} {i:Nat} {v:Value},Vals (ns.map V.int) us->us[i]? =some v->∃t,v=.int (ns.getD i 0) t
 |[],us,i,v,r,e=>by cases r;simp at e
 | n::ns,us,0,v,r,e=>by
  cases r with
  | cons h t=>
   obtain⟨tk,q⟩:=h;simp at e;exact⟨tk,by rw[<-e,q];rfl⟩
 | n::ns,us,i+1,v,r,e=>by
  cases r with
  | cons h t=>
   obtain⟨tk,q⟩:=q2j (i:=i) t (by simpa using e);exact⟨tk,by rw[q];rfl⟩
theorem qdd{K:FrG}(hK:X.K=K)(hc:X.calm=true):q4i X (.builtin "sum") (λxs H Q=>∃(p:Addr) (ns:List Int),xs=[.ref p]/\SqL K H p (ns.map V.int)/\Q (.int ns.sum) H):=by
 subst hK;intro z5 s σ H xs us Q I r h;obtain⟨p,ns,rfl,hq,q⟩:=h;obtain⟨u,rfl,ru⟩:=vals1 r;cases ru;obtain⟨its,rv,pl,hz⟩:=I.list hq;have hh:X.A.in1.handled=none:=I.ok.hd hc;have hl:=pl.isList;have hlt:p<s.heap.objs.size:=by obtain⟨_,e,_⟩:=hl;exact j6 e
 refine call_sum_walkG (wpAny_pyIter_list hl ?_);refine⟨_,_,_,_,_,_,λi=>ns.getD i 0,rfl,Walks.list hh s.heap.objs.size p (jd hlt) its.toArray,⟨⟨_,jf _ rfl,rfl,rfl⟩,hl.push _⟩,λb hb=>?_,λi v hP=>q2j rv (by simpa using hP),λh' tk t' hk=>?_⟩
 ·show b<(s.heap.push _).objs.size;rw[jy];rcases List.mem_cons.mp hb with rfl|hb
  ·exact Nat.lt_succ_self _
  ·rw[List.mem_singleton.mp hb];exact Nat.lt_succ_of_lt hlt
 ·have len:its.toArray.size=ns.length:=by have:=rv.length;simp at this;simp;omega
  refine⟨.int ns.sum,H,I.kept (t':=tk) λb o e=>hk b o (λz=>?_) (j7 _ e),⟨t',?_⟩,q⟩
  ·have:=j6 e;rw[List.mem_singleton.mp z]at this;exact jz _ this
  ·rw[len,q54 ns _ (j8 _),List.take_length]
end
def Exc(B:Heap)(e:Addr)(cls fl:Value)(h:Heap):Prop:=
 ∃oe vs T oT ts,h.get? e=some oe/\oe.cls=cls/\oe.dict=none/\oe.data=.fields vs/\vs[1]? =some (.ref T)/\B.get? T=none/\T≠e/\h.get? T=some oT/\oT.data=.fields ts/\ts[3]? =some fl
structure FlyD(B:Heap)(l:List Env)(e:Addr)(cls fl:Value)(h:Heap):Prop where
 st:B.StaysIn h
 new:B.get? e=none
 fr:h.FunFrames B l
 ex:Exc B e cls fl h
section
variable{M:Model}{A:Around}{E:Value->Shared->Prop}{s:Shared}{B:Heap}{env:Env}{outer l:List Env}{L e:Addr}{cls fl:Value}{Q:Unit->Shared->Prop}
theorem qw5{h:Heap}(hl:h.FunFrames B l){b:Addr}{o:Obj}{vs:Array Value}(ho:h.get? b=some o)(hd:o.data=.fields vs):b∉l.filterMap (·.frame):=λhb=>by obtain⟨_,o1,e1,d1⟩:=hl.mem hb;rw[ho]at e1;cases e1;exact d1 vs hd
end
structure Flies(P:Program)(w:World)(l:List Env)(H:Hp)(s:Shared)(cls:Value)(e:Addr)(H':Hp)(s':Shared):Prop where
 os:s'.os=s.os
 bare:AllBare s'.gens
 un:Un (frs l) [] H H' s.heap s'.heap
 hok:HOk P w H' s'.heap
 fly:∃B,FlyD B l e cls .none s'.heap/\∀b o,s'.heap.get? b=some o->b∉frs l->(H' b≠none∨∃o',s.heap.get? b=some o')->B.get? b=some o
theorem ObjOk.there{P:Program}{w:World}{H:Hp}{h:Heap}{a:Addr}{o:HO}(x:ObjOk P w H h a o):∃u,h.get? a=some u:=by
 cases o with
 |lst xs=>obtain⟨_,_,_,_,e⟩:=x;exact⟨_,e⟩
 |tup xs=>obtain⟨_,_,_,ob,e,_⟩:=x;exact⟨_,e⟩
 |dK kvs=>obtain⟨_,_,_,_,o,_,e,_⟩:=x;exact⟨_,e⟩
 |dT kvs=>obtain⟨_,_,_,_,o,_,_,e,_⟩:=x;exact⟨_,e⟩
 |set S n=>obtain⟨o,_,_,_,e,_⟩:=x;exact⟨_,e⟩
 |ins C dx fs=>obtain⟨_,_,_,e,_⟩:=x;exact⟨_,e⟩
 |own y=>exact x
 |xd fs=>obtain⟨_,⟨_,_,_,e,_⟩,_⟩:=x;exact⟨_,e⟩
 |rng lo hi=>obtain⟨_,_,_,e⟩:=x;exact⟨_,e⟩
 |frz ob u=>obtain⟨e,_⟩:=x;exact⟨_,e⟩
 |tbl ps=>exact⟨_,(show h.get? a=some _ from x)⟩
 |met f y=>exact⟨_,(show h.get? a=some _ from x)⟩
 |ext φ=>obtain⟨_,⟨_,e⟩,_⟩:=x;exact⟨_,e⟩
section
variable{X:Cx}{z5:List (Addr×Obj)}{σ:St}{H H':Hp}{s:Shared}
end
section
variable{P:Program}{w:World}{K:FrG}{mg:Str->Option Value}{base:Heap}{N:List Str}{qual:Str}{scope:Scope}{f:Addr}{cd:Value}{A:Around}{outer:List Env}{s₀:Shared}{H₀:Hp}{E:XK}
end
section
variable{X:Cx}{x:Str}{C:Addr}{bmB:List Value}{B newId initId:String}{np zq pos:Pos}{e:Expr}{es:List Expr}{t:TA}{E:XK}
end
def excO(e:Addr)(cls:Value):HO:=.ext λh=>∃oe vs,h.get? e=some oe/\oe.cls=cls/\oe.dict=none/\oe.data=.fields vs
section
variable{X:Cx}{z5:List (Addr×Obj)}{σ:St}{H H':Hp}{s s1:Shared}{e:Addr}{cls fl:Value}
theorem Flies.fresh{l:List Env}{P:Program}{w:World}(F:Flies P w l H s cls e H' s1):s.heap.get? e=none/\H' e=none:=by
 obtain⟨B,fl,cond⟩:=F.fly;obtain⟨oe,vs,T,oT,ts,he,hc,hdn,hd,_⟩:=fl.ex;have nf:=qw5 fl.fr he hd;have no:¬(H' e≠none∨∃o',s.heap.get? e=some o'):=λz=>by have q:=cond e oe he nf z;rw[fl.new]at q;cases q
 constructor
 ·cases q:s.heap.get? e with
  |none=>rfl
  |some o=>exact absurd (.inr ⟨o,q⟩) no
 ·cases q:H' e with
  |none=>rfl
  |some o=>exact absurd (.inl (by rw[q];exact λz=>nomatch z)) no
end
section
variable{X:Cx}{z5:List (Addr×Obj)}{σ:St}{H H':Hp}{s s1:Shared}{e:Addr}{cls c:Value}{i:Nat}{x n:Str}{np pos hpos:Pos}{b₀:Stmt}{suite:List Stmt}{ts:TS}{D:Ends}
end
section
variable{X:Cx}{z5:List (Addr×Obj)}{σ:St}{CX:CXT}{k:Nat}{f:Addr}{fd:FuncData}{ps:List Str}{sp:Sp}{dvs:List V}{ds:List Value}{E:XK}{x:Str}{p pos zq:Pos}{e c:Expr}{es:List Expr}{t:TA}{te:TE}{tc:TT}{st:Stmt}{a b:List Stmt}{ta tb u:TS}
end
section
variable{X:Cx}{c:Value}{i:Nat}{x n:Str}{np pos hpos:Pos}{body:List Stmt}{b₀:Stmt}{suite:List Stmt}{ts:TS}{tb:XK->TS}
end
section
variable{P:Program}{w:World}{K:FrG}{mg:Str->Option Value}{base:Heap}
end
section
variable{prog:Program}{w:World}{A:Around}{E:Value->Shared->Prop}{s:Shared}{K:FrG}{e C:Addr}{oe:Obj}
end
structure ExcK(K:FrG)(C:Addr):Prop where
 cls:PySem.W.isClsIn K C=true
 ty:PySem.W.typeIn K (.ref C)=some (.type "type")
 sf:PySem.W.subIn K (.ref C) (.ref C)=some true
 ga:PySem.W.findIn K (.ref C) "__getattribute__"=some (some (.builtin "BaseException.__getattribute__"))
 gt:PySem.W.findIn K (.ref C) "__getattr__"=some none
 bs:PySem.W.subIn K (.ref C) (.type "BaseException")=some true
 ha:PySem.W.findIn K (.ref C) "__class__"=some (some (.builtin "object.__class__"))
 hn:PySem.W.specialIn K (.builtin "object.__class__") "__get__"=some (some (.builtin "getset_descriptor.__get__"))
 tk:PySem.W.takesIn K (.builtin "object.__class__")=some true
 hm:PySem.W.mroIn K C (.type "object")=some true
section
variable{X:Cx}{z5:List (Addr×Obj)}{σ:St}{H:Hp}{s:Shared}{A:Around}{E:Value->Shared->Prop}{Q:Value->Shared->Prop}{c:Value}{b:Bool}{a C:Addr}
end
inductive D where
 |non
 |bl (b:Bool)
 |int (i:Int)
 |str (x:Str)
 |lst (xs:List D)
 |tup (xs:List D)
 |obj (x:Str) (fs:List (Str×D))
 |dct (kvs:List (Key×D))
 |dit (kvs:List (List Key×D))
 |exc (x:Str)
 |fn (x:Str)
mutual
inductive Rp(K:FrG)(R:Hp):V->D->Prop
 |non:Rp K R .non .non
 |bl (b:Bool):Rp K R (.bl b) (.bl b)
 |int (i:Int):Rp K R (.int i) (.int i)
 |str (x:Str):Rp K R (.str x) (.str x)
 |lst {a:Addr} {xs:List V} {ds:List D}:SqL K R a xs->Rps K R xs ds->Rp K R (.ref a) (.lst ds)
 |tup {a:Addr} {xs:List V} {ds:List D}:R a=some (.tup xs)->Rps K R xs ds->Rp K R (.ref a) (.tup ds)
 |obj {a C dx:Addr} {x:Str} {fs:List (Str×V)} {gs:List (Str×D)}:PySem.W.nsIn K mainGlobals x=some (some (.ref C))->R a=some (.ins C dx fs)->Rfs K R fs gs->Rp K R (.ref a) (.obj x gs)
 |dct {a:Addr} {kvs:List (Key×V)} {gs:List (Key×D)}:R a=some (.dK kvs)->Rkk K R kvs gs->Rp K R (.ref a) (.dct gs)
 |dit {a:Addr} {kvs:List (List Key×V)} {gs:List (List Key×D)}:R a=some (.dT kvs)->Rkt K R kvs gs->Rp K R (.ref a) (.dit gs)
 |exc {a C:Addr} {x:Str}:PySem.W.nsIn K mainGlobals x=some (some (.ref C))->ExcK K C->R a=some (excO a (.ref C))->Rp K R (.ref a) (.exc x)
 |fn {l:Addr} {x:Str}:PySem.W.nsIn K mainGlobals x=some (some (.ref l))->Rp K R (.ref l) (.fn x)
inductive Rps(K:FrG)(R:Hp):List V->List D->Prop
 |nil:Rps K R [] []
 |cons {x:V} {xs:List V} {d:D} {ds:List D}:Rp K R x d->Rps K R xs ds->Rps K R (x::xs) (d::ds)
inductive Rfs(K:FrG)(R:Hp):List (Str×V)->List (Str×D)->Prop
 |nil:Rfs K R [] []
 |cons {f:Str} {x:V} {xs:List (Str×V)} {d:D} {ds:List (Str×D)}:Rp K R x d->Rfs K R xs ds->Rfs K R ((f,x)::xs) ((f,d)::ds)
inductive Rkk(K:FrG)(R:Hp):List (Key×V)->List (Key×D)->Prop
 |nil:Rkk K R [] []
 |cons {f:Key} {x:V} {xs:List (Key×V)} {d:D} {ds:List (Key×D)}:Rp K R x d->Rkk K R xs ds->Rkk K R ((f,x)::xs) ((f,d)::ds)
inductive Rkt(K:FrG)(R:Hp):List (List Key×V)->List (List Key×D)->Prop
 |nil:Rkt K R [] []
 |cons {f:List Key} {x:V} {xs:List (List Key×V)} {d:D} {ds:List (List Key×D)}:Rp K R x d->Rkt K R xs ds->Rkt K R ((f,x)::xs) ((f,d)::ds)
end
section
variable{K:FrG}{R:Hp}
theorem Rp.isI{x:V}{i:Int}(h:Rp K R x (.int i)):x=.int i:=by cases h;rfl
theorem Rp.isS{x:V}{i:Str}(h:Rp K R x (.str i)):x=.str i:=by cases h;rfl
theorem Rp.isB{x:V}{i:Bool}(h:Rp K R x (.bl i)):x=.bl i:=by cases h;rfl
theorem Rp.isN{x:V}(h:Rp K R x .non):x=.non:=by cases h;rfl
def qwb:D->Option V
 |.int i=>some (.int i)
 |.str i=>some (.str i)
 |.bl i=>some (.bl i)
 |.non=>some .non
 |_=>none
theorem Rp.isA{x v:V}:{d:D}->Rp K R x d->qwb d=some v->x=v
 |.int _,h,e=>h.isI.trans (ja e)
 |.str _,h,e=>h.isS.trans (ja e)
 |.bl _,h,e=>h.isB.trans (ja e)
 |.non,h,e=>h.isN.trans (ja e)
theorem Rp.isL{x:V}{ds:List D}(h:Rp K R x (.lst ds)):∃a xs,x=.ref a/\SqL K R a xs/\Rps K R xs ds:=by
 cases h with
 |@lst a xs ds h r=>exact⟨a,xs,rfl,h,r⟩
theorem Rp.isT{x:V}{ds:List D}(h:Rp K R x (.tup ds)):∃a xs,x=.ref a/\R a=some (.tup xs)/\Rps K R xs ds:=by
 cases h with
 |@tup a xs ds h r=>exact⟨a,xs,rfl,h,r⟩
theorem Rps.isC{xs:List V}{d:D}{ds:List D}(h:Rps K R xs (d::ds)):∃x ys,xs=x::ys/\Rp K R x d/\Rps K R ys ds:=by
 cases h with
 |@cons x ys d ds h r=>exact⟨x,ys,rfl,h,r⟩
end
abbrev Rho:=List (Option D)
abbrev RhL:=Rho->Option (List D×Rho)
abbrev RhD:=Rho->Option (D×Rho)
abbrev RhB:=Rho->Option (Bool×Rho)
abbrev RhG:=D->Rho->Option Rho
theorem Same.sqL{K:FrG}{H H':Hp}{a:Addr}{xs:List V}(e:Same H H')(h:SqL K H a xs):SqL K H' a xs:=by
 rcases h with(h|⟨o,h⟩)|h
 ·exact .inl (.inl (e _ _ h))
 ·exact .inl (.inr ⟨o,e _ _ h⟩)
 ·exact .inr h
section
variable{K:FrG}{R R':Hp}
theorem Rp.mono(s:Same R R'){v:V}{d:D}(h:Rp K R v d):Rp K R' v d:=
 Rp.rec (motive_1:=λv d _=>Rp K R' v d) (motive_2:=λxs ds _=>Rps K R' xs ds) (motive_3:=λxs ds _=>Rfs K R' xs ds) (motive_4:=λxs ds _=>Rkk K R' xs ds) (motive_5:=λxs ds _=>Rkt K R' xs ds)
  .non .bl .int .str (λh _ r=>.lst (s.sqL h) r) (λh _ r=>.tup (s _ _ h) r) (λn h _ r=>.obj n (s _ _ h) r) (λh _ r=>.dct (s _ _ h) r) (λh _ r=>.dit (s _ _ h) r) (λn k h=>.exc n k (s _ _ h)) (λn=>.fn n)
  .nil (λ_ _ h r=>.cons h r) .nil (λ_ _ h r=>.cons h r) .nil (λ_ _ h r=>.cons h r) .nil (λ_ _ h r=>.cons h r) h
theorem Rps.mono(s:Same R R'){xs:List V}{ds:List D}(h:Rps K R xs ds):Rps K R' xs ds:=
 Rps.rec (motive_1:=λv d _=>Rp K R' v d) (motive_2:=λxs ds _=>Rps K R' xs ds) (motive_3:=λxs ds _=>Rfs K R' xs ds) (motive_4:=λxs ds _=>Rkk K R' xs ds) (motive_5:=λxs ds _=>Rkt K R' xs ds)
  .non .bl .int .str (λh _ r=>.lst (s.sqL h) r) (λh _ r=>.tup (s _ _ h) r) (λn h _ r=>.obj n (s _ _ h) r) (λh _ r=>.dct (s _ _ h) r) (λh _ r=>.dit (s _ _ h) r) (λn k h=>.exc n k (s _ _ h)) (λn=>.fn n)
  .nil (λ_ _ h r=>.cons h r) .nil (λ_ _ h r=>.cons h r) .nil (λ_ _ h r=>.cons h r) .nil (λ_ _ h r=>.cons h r) h
theorem Rfs.mono(s:Same R R'){xs:List (Str×V)}{ds:List (Str×D)}(h:Rfs K R xs ds):Rfs K R' xs ds:=
 Rfs.rec (motive_1:=λv d _=>Rp K R' v d) (motive_2:=λxs ds _=>Rps K R' xs ds) (motive_3:=λxs ds _=>Rfs K R' xs ds) (motive_4:=λxs ds _=>Rkk K R' xs ds) (motive_5:=λxs ds _=>Rkt K R' xs ds)
  .non .bl .int .str (λh _ r=>.lst (s.sqL h) r) (λh _ r=>.tup (s _ _ h) r) (λn h _ r=>.obj n (s _ _ h) r) (λh _ r=>.dct (s _ _ h) r) (λh _ r=>.dit (s _ _ h) r) (λn k h=>.exc n k (s _ _ h)) (λn=>.fn n)
  .nil (λ_ _ h r=>.cons h r) .nil (λ_ _ h r=>.cons h r) .nil (λ_ _ h r=>.cons h r) .nil (λ_ _ h r=>.cons h r) h
theorem Rkk.mono(s:Same R R'){xs:List (Key×V)}{ds:List (Key×D)}(h:Rkk K R xs ds):Rkk K R' xs ds:=
 Rkk.rec (motive_1:=λv d _=>Rp K R' v d) (motive_2:=λxs ds _=>Rps K R' xs ds) (motive_3:=λxs ds _=>Rfs K R' xs ds) (motive_4:=λxs ds _=>Rkk K R' xs ds) (motive_5:=λxs ds _=>Rkt K R' xs ds)
  .non .bl .int .str (λh _ r=>.lst (s.sqL h) r) (λh _ r=>.tup (s _ _ h) r) (λn h _ r=>.obj n (s _ _ h) r) (λh _ r=>.dct (s _ _ h) r) (λh _ r=>.dit (s _ _ h) r) (λn k h=>.exc n k (s _ _ h)) (λn=>.fn n)
  .nil (λ_ _ h r=>.cons h r) .nil (λ_ _ h r=>.cons h r) .nil (λ_ _ h r=>.cons h r) .nil (λ_ _ h r=>.cons h r) h
theorem Rkt.mono(s:Same R R'){xs:List (List Key×V)}{ds:List (List Key×D)}(h:Rkt K R xs ds):Rkt K R' xs ds:=
 Rkt.rec (motive_1:=λv d _=>Rp K R' v d) (motive_2:=λxs ds _=>Rps K R' xs ds) (motive_3:=λxs ds _=>Rfs K R' xs ds) (motive_4:=λxs ds _=>Rkk K R' xs ds) (motive_5:=λxs ds _=>Rkt K R' xs ds)
  .non .bl .int .str (λh _ r=>.lst (s.sqL h) r) (λh _ r=>.tup (s _ _ h) r) (λn h _ r=>.obj n (s _ _ h) r) (λh _ r=>.dct (s _ _ h) r) (λh _ r=>.dit (s _ _ h) r) (λn k h=>.exc n k (s _ _ h)) (λn=>.fn n)
  .nil (λ_ _ h r=>.cons h r) .nil (λ_ _ h r=>.cons h r) .nil (λ_ _ h r=>.cons h r) .nil (λ_ _ h r=>.cons h r) h
theorem Rps.length:∀{xs:List V} {ds:List D},Rps K R xs ds->xs.length=ds.length
 |_,_,.nil=>rfl
 |_,_,.cons _ r=>by rw[ji,ji,Rps.length r]
theorem Rps.get:∀{xs:List V} {ds:List D} {i:Nat} {d:D},Rps K R xs ds->ds[i]? =some d->∃v,xs[i]? =some v/\Rp K R v d
 |_,_,_,_,.nil,e=>by simp at e
 |_,_,0,_,.cons h _,e=>by simp at e;subst e;exact⟨_,rfl,h⟩
 | _,_,i+1,d,.cons _ r,e=>by obtain⟨v,h1,h2⟩:=Rps.get (i:=i) (d:=d) r (by simpa using e);exact⟨v,by simpa using h1,h2⟩
theorem Rps.get':∀{xs:List V} {ds:List D} {i:Nat} {v:V},Rps K R xs ds->xs[i]? =some v->∃d,ds[i]? =some d/\Rp K R v d
 |_,_,_,_,.nil,e=>by simp at e
 |_,_,0,_,.cons h _,e=>by simp at e;subst e;exact⟨_,rfl,h⟩
 | _,_,i+1,v,.cons _ r,e=>by obtain⟨d,h1,h2⟩:=Rps.get' (i:=i) (v:=v) r (by simpa using e);exact⟨d,by simpa using h1,h2⟩
theorem Rps.append:∀{xs ys:List V} {ds es:List D},Rps K R xs ds->Rps K R ys es->Rps K R (xs++ys) (ds++es)
 |_,_,_,_,.nil,s=>s
 |_,_,_,_,.cons r t,s=>.cons r (Rps.append t s)
theorem Rps.take:∀{xs:List V} {ds:List D} (n:Nat),Rps K R xs ds->Rps K R (xs.take n) (ds.take n)
 |_,_,0,_=>.nil
 |_,_,_+1,.nil=>.nil
 |_,_,n+1,.cons r t=>.cons r (Rps.take n t)
theorem Rps.drop:∀{xs:List V} {ds:List D} (n:Nat),Rps K R xs ds->Rps K R (xs.drop n) (ds.drop n)
 |_,_,0,r=>r
 |_,_,_+1,.nil=>.nil
 |_,_,n+1,.cons _ t=>Rps.drop n t
theorem Rps.set{x:V}{d:D}(r:Rp K R x d):∀{xs:List V} {ds:List D} (i:Nat),Rps K R xs ds->Rps K R (xs.set i x) (ds.set i d)
 |_,_,_,.nil=>.nil
 |_,_,0,.cons _ t=>.cons r t
 |_,_,i+1,.cons q t=>.cons q (Rps.set r i t)
theorem Rps.one{x:V}{d:D}(r:Rp K R x d):Rps K R [x] [d]:=.cons r .nil
theorem Rps.ints:∀ns:List Int,Rps K R (ns.map V.int) (ns.map D.int)
 |[]=>.nil
 |n::ns=>.cons (.int n) (Rps.ints ns)
theorem Rps.snoc{xs:List V}{ds:List D}{x:V}{d:D}(h:Rps K R xs ds)(r:Rp K R x d):Rps K R (xs++[x]) (ds++[d]):=h.append (.one r)
end
inductive Sc:V->D->Prop
 |non:Sc .non .non
 |bl (b:Bool):Sc (.bl b) (.bl b)
 |int (i:Int):Sc (.int i) (.int i)
 |str (x:Str):Sc (.str x) (.str x)
theorem Sc.rp{K:FrG}{R:Hp}{v:V}{d:D}(h:Sc v d):Rp K R v d:=by
 cases h with
 |non=>exact .non
 |bl b=>exact .bl b
 |int i=>exact .int i
 |str x=>exact .str x
def Frh(H:Hp)(a:Addr):Prop:=H a=none∨∃xs,H a=some (.tup xs)
def Liv(H H':Hp)(a:Addr):Prop:=H' a≠none/\∀xs,H' a=some (.tup xs)->H a=some (.tup xs)
theorem Liv.refl{H:Hp}{a:Addr}(h:H a≠none):Liv H H a:=⟨h,λ_ e=>e⟩
theorem Liv.trans{H H1 H2:Hp}{a:Addr}(x:Liv H H1 a)(y:Liv H1 H2 a):Liv H H2 a:=⟨y.1,λxs e=>x.2 xs (y.2 xs e)⟩
theorem Frh.back{H H1:Hp}{a:Addr}(h:H a≠none->Liv H H1 a)(z:Frh H1 a):Frh H a:=by
 cases q:H a with
 |none=>exact .inl q
 | some o=>
  have v:=h (by rw[q];exact λz=>nomatch z);rcases z with z|⟨xs,z⟩
  ·exact absurd z v.1
  ·exact .inr ⟨xs,v.2 xs z⟩
structure Ext(H R H' R':Hp):Prop where
 h:Same H H'
 r:Same R R'
 s:∀a o,R' a=some o->H' a=some o
 n:∀a,R' a≠none->R a≠none∨Frh H a
theorem Ext.refl{H R:Hp}(s:∀a o,R a=some o->H a=some o):Ext H R H R:=⟨Same.refl _,Same.refl _,s,λ_ h=>.inl h⟩
theorem Same.some{H H':Hp}(s:Same H H'){a:Addr}(h:H a≠none):H' a≠none:=by
 cases q:H a with
 |none=>exact absurd q h
 |some o=>rw[s a o q];exact λz=>nomatch z
theorem Same.liv{H H':Hp}(s:Same H H'){a:Addr}(h:H a≠none):Liv H H' a:=⟨s.some h,λxs e=>by
 cases q:H a with
 |none=>exact absurd q h
 |some o=>rw[s a o q]at e;exact e⟩
theorem Ext.trans{H R H1 R1 H2 R2:Hp}(x:Ext H R H1 R1)(y:Ext H1 R1 H2 R2):Ext H R H2 R2:=by
 refine⟨x.h.trans y.h,x.r.trans y.r,y.s,λa h=>?_⟩;rcases y.n a h with z|z
 ·exact x.n a z
 ·exact .inr (z.back x.h.liv)
theorem Ext.new{H R:Hp}{a:Addr}{o:HO}(s:∀a o,R a=some o->H a=some o)(h:H a=none):Ext H R (upd H a o) (upd R a o):=by
 have hr:R a=none:=by
  cases q:R a with
  |none=>rfl
  |some u=>rw[s a u q]at h;cases h
 refine⟨Same.new h,Same.new hr,λb u e=>?_,λb e=>?_⟩
 ·by_cases hb:b=a
  ·subst hb;rw[q0u]at e ⊢;exact e
  ·rw[q0r hb]at e ⊢;exact s b u e
 ·by_cases hb:b=a
  ·subst hb;exact .inr (.inl h)
  ·rw[q0r hb]at e;exact .inl e
theorem Ext.hid{H R:Hp}{a:Addr}{o:HO}(s:∀a o,R a=some o->H a=some o)(h:H a=none):Ext H R (upd H a o) R:=
 ⟨Same.new h,Same.refl _,λb u e=>Same.new h _ _ (s b u e),λ_ e=>.inl e⟩
structure Anc where
 H0:Hp
 R0:Hp
 L:Addr->Prop
 P:List Nat
inductive Ob(K:FrG)(R:Hp):HO->D->Prop
 |lst {vs:List V} {ds:List D}:Rps K R vs ds->Ob K R (.lst vs) (.lst ds)
 |dct {kvs:List (Key×V)} {gs:List (Key×D)}:Rkk K R kvs gs->Ob K R (.dK kvs) (.dct gs)
 |dit {kvs:List (List Key×V)} {gs:List (List Key×D)}:Rkt K R kvs gs->Ob K R (.dT kvs) (.dit gs)
theorem Ob.isL{K:FrG}{R:Hp}{o:HO}{ds:List D}(h:Ob K R o (.lst ds)):∃vs,o=.lst vs/\Rps K R vs ds:=by
 cases h with
 |lst r=>exact⟨_,rfl,r⟩
theorem Ob.mono{K:FrG}{R R':Hp}{o:HO}{d:D}(s:Same R R')(h:Ob K R o d):Ob K R' o d:=by
 cases h with
 |lst r=>exact .lst (r.mono s)
 |dct r=>exact .dct (r.mono s)
 |dit r=>exact .dit (r.mono s)
theorem Ob.noF{K:FrG}{H R:Hp}{o:HO}{d:D}{l:Addr}(h:Ob K R o d)(e:H l=some o)(z:Frh H l):False:=by
 rcases z with z|⟨xs,z⟩
 ·rw[e]at z;cases z
 ·rw[e]at z;cases z;cases h
theorem Ob.rp{K:FrG}{R:Hp}{o:HO}{d:D}{l:Addr}(h:Ob K R o d)(e:R l=some o):Rp K R (.ref l) d:=by
 cases h with
 |lst r=>exact .lst (SqL.of e) r
 |dct r=>exact .dct e r
 |dit r=>exact .dit e r
structure StR(K:FrG)(Z:Anc)(O:List Nat)(σ:St)(H R:Hp)(ρ:Rho):Prop where
 sub:∀a o,R a=some o->H a=some o
 len:σ.length=ρ.length
 env:∀i d,i∉O->ρ[i]? =some (some d)->∃v,σ[i]? =some (some v)/\Rp K R v d
 own:∀i,i∈O->∃l vs ds,ρ[i]? =some (some ds)/\σ[i]? =some (some (.ref l))/\H l=some vs/\R l=none/\Ob K R vs ds
 dis:∀i j,i∈O->j∈O->i≠j->∀l,σ[i]? =some (some (.ref l))->σ[j]? ≠some (some (.ref l))
 ah:∀a o,Z.H0 a=some o->¬Z.L a->H a=some o
 ar:Same Z.R0 R
 an:∀a,R a≠none->Z.R0 a≠none∨Frh Z.H0 a
 ad:∀a,Z.H0 a≠none->Liv Z.H0 H a
 ao:∀i,i∈O->i∉Z.P->∀l,σ[i]? =some (some (.ref l))->Z.H0 l=none
 ap:∀i,i∈O->i∈Z.P->∀l,σ[i]? =some (some (.ref l))->Z.L l
structure Stp(O:List Nat)(σ:St)(H R H' R':Hp):Prop where
 r:Same R R'
 h:∀a o,H a=some o->(∀i,i∈O->σ[i]? ≠some (some (.ref a)))->H' a=some o
 n:∀a,R' a≠none->R a≠none∨Frh H a
 d:∀a,H a≠none->Liv H H' a
theorem Stp.refl(O:List Nat)(σ:St)(H R:Hp):Stp O σ H R H R:=⟨Same.refl _,λ_ _ e _=>e,λ_ h=>.inl h,λ_ h=>.refl h⟩
theorem Stp.trans{O:List Nat}{σ:St}{H R H1 R1 H2 R2:Hp}(x:Stp O σ H R H1 R1)(y:Stp O σ H1 R1 H2 R2):Stp O σ H R H2 R2:=by
 refine⟨x.r.trans y.r,λa o e n=>y.h a o (x.h a o e n) n,λa h=>?_,λa h=>(x.d a h).trans (y.d a (x.d a h).1)⟩;rcases y.n a h with z|z
 ·exact x.n a z
 ·exact .inr (z.back (x.d a))
theorem Ext.stp{O:List Nat}{σ:St}{H R H' R':Hp}(x:Ext H R H' R'):Stp O σ H R H' R':=⟨x.r,λa o e _=>x.h a o e,x.n,λ_ h=>x.h.liv h⟩
section
variable{K:FrG}{Z:Anc}{O O':List Nat}{σ σ':St}{H R H' R':Hp}{ρ ρ':Rho}
theorem StR.ext(S:StR K Z O σ H R ρ)(x:Ext H R H' R'):StR K Z O σ H' R' ρ:=by
 refine⟨x.s,S.len,λi d hi e=>?_,λi hi=>?_,S.dis,λa o e n=>x.h a o (S.ah a o e n),S.ar.trans x.r,λa h=>?_,λa h=>(S.ad a h).trans (x.h.liv (S.ad a h).1),S.ao,S.ap⟩
 ·obtain⟨v,h1,h2⟩:=S.env i d hi e;exact⟨v,h1,h2.mono x.r⟩
 ·obtain⟨l,vs,ds,h1,h2,h3,h4,h5⟩:=S.own i hi;refine⟨l,vs,ds,h1,h2,x.h _ _ h3,?_,h5.mono x.r⟩;cases q:R' l with
  |none=>rfl
  | some o=>
   rcases x.n l (by rw[q];exact λz=>nomatch z)with z|z
   ·exact absurd h4 z
   ·exact(h5.noF h3 z).elim
 ·rcases x.n a h with z|z
  ·exact S.an a z
  ·exact .inr (z.back (S.ad a))
noncomputable def frzR(O O':List Nat)(σ:St)(H R:Hp):Hp:=λa=>open Classical in if∃i,i∈O/\i∉O'/\σ[i]? =some (some (.ref a))then H a else R a
theorem StR.freeze(S:StR K Z O σ H R ρ)(hs:∀i,i∈O'->i∈O)(hp:∀i,i∈Z.P->i∈O->i∈O'):StR K Z O' σ H (frzR O O' σ H R) ρ/\Same R (frzR O O' σ H R):=by
 have same:Same R (frzR O O' σ H R):=λa o e=>by
  unfold frzR;split
  ·exact S.sub a o e
  ·exact e
 refine⟨⟨λa o e=>?_,S.len,λi d hi e=>?_,λi hi=>?_,λi j hi hj=>S.dis i j (hs i hi) (hs j hj),S.ah,S.ar.trans same,λa h=>?_,S.ad,λi hi=>S.ao i (hs i hi),λi hi=>S.ap i (hs i hi)⟩,same⟩
 ·unfold frzR at e;split at e
  ·exact e
  ·exact S.sub a o e
 ·by_cases hO:i∈O
  ·obtain⟨l,vs,ds,h1,h2,h3,h4,h5⟩:=S.own i hO;rw[e]at h1;have ed:d=ds:=ja (ja h1);subst ed;refine⟨.ref l,h2,(h5.mono same).rp ?_⟩;unfold frzR;rw[if_pos ⟨i,hO,hi,h2⟩];exact h3
  ·obtain⟨v,h1,h2⟩:=S.env i d hO e;exact⟨v,h1,h2.mono same⟩
 ·obtain⟨l,vs,ds,h1,h2,h3,h4,h5⟩:=S.own i (hs i hi);refine⟨l,vs,ds,h1,h2,h3,?_,h5.mono same⟩;unfold frzR;rw[if_neg ?_]
  ·exact h4
  ·rintro⟨j,hj,hj',e⟩;exact S.dis j i hj (hs i hi) (λz=>hj' (z▸hi)) l e h2
 ·unfold frzR at h;split at h
  ·rename_i z;obtain⟨j,hj,hj',e⟩:=z;exact .inr (.inl (S.ao j hj (λz=>hj' (hp j z hj)) a e))
  ·exact S.an a h
theorem StR.set(S:StR K Z O σ H R ρ){i:Nat}{v:V}{d:D}(hi:i∉O)(r:Rp K R v d):StR K Z O (σ.set i (some v)) H R (ρ.set i (some d)):=by
 have ne:∀j,j∈O->i≠j:=λj hj z=>hi (z▸hj);refine⟨S.sub,by rw[jx,jx];exact S.len,λj e hj q=>?_,λj hj=>?_,λj k hj hk n l e=>?_,S.ah,S.ar,S.an,S.ad,λj hj hp l e=>?_,λj hj hp l e=>?_⟩
 ·by_cases hij:i=j
  ·subst hij;have hl:i<ρ.length:=by
    have:=(List.getElem?_eq_some_iff.mp q).1
    rwa [jx]at this
   rw[jw hl]at q;have e':d=e:=ja (ja q);subst e';exact⟨v,by rw[jw (by rw[S.len];exact hl)],r⟩
  ·rw[jc hij]at q;obtain⟨w,h1,h2⟩:=S.env j e hj q;exact⟨w,by rw[jc hij];exact h1,h2⟩
 ·obtain⟨l,vs,ds,h1,h2,h3,h4,h5⟩:=S.own j hj;exact⟨l,vs,ds,by rw[jc (ne j hj)];exact h1,by rw[jc (ne j hj)];exact h2,h3,h4,h5⟩
 ·rw[jc (ne j hj)]at e;rw[jc (ne k hk)];exact S.dis j k hj hk n l e
 ·rw[jc (ne j hj)]at e;exact S.ao j hj hp l e
 ·rw[jc (ne j hj)]at e;exact S.ap j hj hp l e
theorem StR.write(S:StR K Z O σ H R ρ){i:Nat}{l:Addr}{vs:HO}{ds:D}(hi:i∈O)(hl:σ[i]? =some (some (.ref l)))(r:Ob K R vs ds):StR K Z O σ (upd H l vs) R (ρ.set i (some ds)):=by
 obtain⟨l0,vs0,ds0,h1,h2,h3,h4,h5⟩:=S.own i hi;rw[hl]at h2;cases h2;have other:∀j,j∈O->i≠j->∀k,σ[j]? =some (some (.ref k))->k≠l:=λj hj n k e z=>by subst z;exact S.dis i j hi hj n k hl e
 refine⟨λa o e=>?_,by rw[jx];exact S.len,λj d hj q=>?_,λj hj=>?_,S.dis,λa o e n=>?_,S.ar,S.an,λa h=>?_,S.ao,S.ap⟩
 ·have ne:a≠l:=λz=>by subst z;rw[h4]at e;cases e
  rw[q0r ne];exact S.sub a o e
 ·have n:i≠j:=λz=>hj (z▸hi);rw[jc n]at q;exact S.env j d hj q
 ·by_cases n:i=j
  ·subst n;have ze:i<ρ.length:=(List.getElem?_eq_some_iff.mp h1).1;exact⟨l,vs,ds,by rw[jw ze],hl,q0u,h4,r⟩
  ·obtain⟨k,vs',ds',g1,g2,g3,g4,g5⟩:=S.own j hj;exact⟨k,vs',ds',by rw[jc n];exact g1,g2,by rw[q0r (other j hj n k g2)];exact g3,g4,g5⟩
 ·have ne:a≠l:=λz=>by
   subst z;by_cases hp:i∈Z.P
   ·exact n (S.ap i hi hp a hl)
   ·rw[S.ao i hi hp a hl]at e;cases e
  rw[q0r ne];exact S.ah a o e n
 ·by_cases ha:a=l
  ·subst ha;exact⟨by rw[q0u];exact(λz=>(nomatch z)),λxs e=>by rw[q0u]at e;cases e;cases r⟩
  ·exact⟨by rw[q0r ha];exact(S.ad a h).1,λxs e=>by rw[q0r ha]at e;exact(S.ad a h).2 xs e⟩
theorem StR.take(S:StR K Z O σ H R ρ){i:Nat}{l:Addr}{vs:HO}{ds:D}(hi:i∉O)(hin:i∈O')(hO:∀j,j∈O'->j=i∨j∈O)(hp:i∉Z.P)(ze:i<ρ.length)(h0:Z.H0 l=none)(hH:H l=some vs)(hR:R l=none)(hn:∀j,j∈O->σ[j]? ≠some (some (.ref l)))(hs:∀j,j∈O->j∈O')(r:Ob K R vs ds):
 StR K Z O' (σ.set i (some (.ref l))) H R (ρ.set i (some ds)):=by
 have ne:∀j,j∈O->i≠j:=λj hj z=>hi (z▸hj);have hl:i<σ.length:=by rw[S.len];exact ze
 refine⟨S.sub,by rw[jx,jx];exact S.len,λj e hj q=>?_,λj hj=>?_,λj k hj hk n m e=>?_,S.ah,S.ar,S.an,S.ad,λj hj hp l e=>?_,λj hj hp' l e=>?_⟩
 ·by_cases hij:i=j
  ·subst hij;rw[jw ze]at q;have e':ds=e:=ja (ja q);subst e';exact absurd hin hj
  ·rw[jc hij]at q;obtain⟨w,h1,h2⟩:=S.env j e (λz=>hj (hs j z)) q;exact⟨w,by rw[jc hij];exact h1,h2⟩
 ·rcases hO j hj with rfl|hj'
  ·exact⟨l,vs,ds,by rw[jw ze],by rw[jw hl],hH,hR,r⟩
  ·obtain⟨k,vs',ds',g1,g2,g3,g4,g5⟩:=S.own j hj';exact⟨k,vs',ds',by rw[jc (ne j hj')];exact g1,by rw[jc (ne j hj')];exact g2,g3,g4,g5⟩
 ·rcases hO j hj with rfl|hj'
  ·rw[jw hl]at e;cases e;rcases hO k hk with rfl|hk'
   ·exact absurd rfl n
   ·rw[jc (ne k hk')];exact hn k hk'
  ·rw[jc (ne j hj')]at e;rcases hO k hk with rfl|hk'
   ·rw[jw hl];intro z;cases z;exact hn j hj' e
   ·rw[jc (ne k hk')];exact S.dis j k hj' hk' n m e
 ·rcases hO j hj with rfl|hj'
  ·rw[jw hl]at e;cases e;exact h0
  ·rw[jc (ne j hj')]at e;exact S.ao j hj' hp l e
 ·rcases hO j hj with rfl|hj'
  ·exact absurd hp' hp
  ·rw[jc (ne j hj')]at e;exact S.ap j hj' hp' l e
end
def q1l{α β:Type}(a:Rho->Option (α×Rho))(k:α->Rho->Option (β×Rho)):Rho->Option (β×Rho):=λρ=>match a ρ with
 |none=>none
 |some (x,ρ1)=>k x ρ1
def mRet{α:Type}(x:α):Rho->Option (α×Rho):=λρ=>some (x,ρ)
def q2f{α:Type}(o:Option α):Rho->Option (α×Rho):=λρ=>match o with
 |none=>none
 |some x=>some (x,ρ)
theorem q09{α β:Type}{a:Rho->Option (α×Rho)}{k:α->Rho->Option (β×Rho)}{ρ:Rho}{r:β×Rho}(h:q1l a k ρ=some r):∃x ρ1,a ρ=some (x,ρ1)/\k x ρ1=some r:=by
 unfold q1l at h;cases e:a ρ with
 |none=>rw[e]at h;cases h
 |some p=>rw[e]at h;exact⟨p.1,p.2,rfl,h⟩
theorem q0h{α:Type}{o:Option α}{ρ:Rho}{x:α}{ρ':Rho}(h:q2f o ρ=some (x,ρ')):o=some x/\ρ'=ρ:=by
 unfold q2f at h;cases o with
 |none=>cases h
 |some y=>cases h;exact⟨rfl,rfl⟩
def mVar(i:Nat):RhD:=λρ=>match ρ[i]? with
 |some (some d)=>some (d,ρ)
 |_=>none
theorem q7c{i:Nat}{ρ ρ':Rho}{d:D}(h:mVar i ρ=some (d,ρ')):ρ[i]? =some (some d)/\ρ'=ρ:=by
 unfold mVar at h;cases e:ρ[i]? with
 |none=>rw[e]at h;cases h
 | some o=>
  rw[e]at h;cases o with
  |none=>cases h
  |some y=>cases h;exact⟨rfl,rfl⟩
section
variable(K:FrG)(O:List Nat)
def ME(t:TE)(f:RhD):Prop:=∀(Z:Anc) (σ:St) (H R:Hp) (ρ:Rho) (d:D) (ρ':Rho) (Q:VK),StR K Z O σ H R ρ->f ρ=some (d,ρ')->(∀v H' R',StR K Z O σ H' R' ρ'->Stp O σ H R H' R'->Rp K R' v d->Q v H')->t σ H Q
def MB(t:TE)(f:RhD):Prop:=∀(Z:Anc) (σ:St) (H R:Hp) (ρ:Rho) (d:D) (ρ':Rho) (Q:VK),StR K Z O σ H R ρ->f ρ=some (d,ρ')->(∀v H' R',StR K Z O σ H' R' ρ'->Stp O σ H R H' R'->Rp K H' v d->Q v H')->t σ H Q
def MT(t:TT)(f:RhB):Prop:=∀(Z:Anc) (σ:St) (H R:Hp) (ρ:Rho) (b:Bool) (ρ':Rho) (Q:Bool->Hp->Prop),StR K Z O σ H R ρ->f ρ=some (b,ρ')->(∀H' R',StR K Z O σ H' R' ρ'->Stp O σ H R H' R'->Q b H')->t σ H Q
def MA(t:TA)(f:RhL):Prop:=∀(Z:Anc) (σ:St) (H R:Hp) (ρ:Rho) (ds:List D) (ρ':Rho) (Q:List V->Hp->Prop),StR K Z O σ H R ρ->f ρ=some (ds,ρ')->(∀vs H' R',StR K Z O σ H' R' ρ'->Stp O σ H R H' R'->Rps K R' vs ds->Q vs H')->t σ H Q
def MN(t:TE)(f:RhL):Prop:=∀(Z:Anc) (σ:St) (H R:Hp) (ρ:Rho) (ds:List D) (ρ':Rho) (Q:VK),StR K Z O σ H R ρ->f ρ=some (ds,ρ')->(∀l vs H' R',StR K Z O σ H' R' ρ'->Stp O σ H R H' R'->H l=none->H' l=some (.lst vs)->R' l=none->Rps K R' vs ds->Q (.ref l) H')->t σ H Q
end
section
variable{K:FrG}{Z:Anc}{O:List Nat}{t ta tb tc:TE}{tA tB':TT}{tr:TA}
theorem StR.same{σ:St}{H R:Hp}{ρ:Rho}(S:StR K Z O σ H R ρ):Same R H:=S.sub
theorem ME.mb{f:RhD}(h:ME K O t f):MB K O t f:=λZ σ H R ρ d ρ' Q S e k=>h Z σ H R ρ d ρ' Q S e λv H' R' S' st r=>k v H' R' S' st (r.mono S'.same)
theorem StR.notnew{σ:St}{H R:Hp}{ρ:Rho}(S:StR K Z O σ H R ρ){l:Addr}(h:H l=none):∀j,j∈O->σ[j]? ≠some (some (.ref l)):=λj hj e=>by
 obtain⟨k,vs,ds,_,h2,h3,_⟩:=S.own j hj;rw[e]at h2
 (first|obtain rfl:=h2.isA rfl|cases h2)
 rw[h]at h3
 (first|obtain rfl:=h3.isA rfl|cases h3)
theorem StR.know{σ:St}{H R:Hp}{ρ:Rho}{l:Addr}{vs:HO}(S:StR K Z O σ H R ρ)(h0:Z.H0 l=none)(hH:H l=some vs)(hR:R l=none)(hn:∀j,j∈O->σ[j]? ≠some (some (.ref l))):StR K Z O σ H (upd R l vs) ρ:=by
 have same:Same R (upd R l vs):=Same.new hR;refine⟨λa o e=>?_,S.len,λi d hi e=>?_,λi hi=>?_,S.dis,S.ah,S.ar.trans same,λa h=>?_,S.ad,S.ao,S.ap⟩
 ·by_cases ha:a=l
  ·subst ha;rw[q0u]at e;rw[hH,e]
  ·rw[q0r ha]at e;exact S.sub a o e
 ·obtain⟨v,h1,h2⟩:=S.env i d hi e;exact⟨v,h1,h2.mono same⟩
 ·obtain⟨k,ws,ds,h1,h2,h3,h4,h5⟩:=S.own i hi;refine⟨k,ws,ds,h1,h2,h3,?_,h5.mono same⟩;rw[q0r (λz=>hn i hi (by rw[<-z];exact h2))];exact h4
 ·by_cases ha:a=l
  ·subst ha;exact .inr (.inl h0)
  ·rw[q0r ha]at h;exact S.an a h
theorem StR.new0{σ:St}{H R:Hp}{ρ:Rho}{l:Addr}(S:StR K Z O σ H R ρ)(h:H l=none):Z.H0 l=none:=by
 cases q:Z.H0 l with
 |none=>rfl
 |some o=>exact absurd h (S.ad l (by rw[q];exact λz=>nomatch z)).1
theorem Stp.know{σ:St}{H R H' R':Hp}{l:Addr}{o:HO}(x:Stp O σ H R H' R')(h:H l=none)(hr:R' l=none):Stp O σ H R H' (upd R' l o):=by
 refine⟨x.r.trans (Same.new hr),x.h,λb e=>?_,x.d⟩;by_cases hb:b=l
 ·subst hb;exact .inr (.inl h)
 ·rw[q0r hb]at e;exact x.n b e
theorem MN.me{f:RhL}(h:MN K O t f):ME K O t (q1l f λds=>mRet (.lst ds)):=λZ σ H R ρ d ρ' Q S e k=>by obtain⟨ds,ρ1,e1,e2⟩:=q09 e;cases e2;refine h Z σ H R ρ ds _ Q S e1 λl vs H' R' S' st h0 hH hR r=>?_;refine k _ H' (upd R' l (.lst vs)) (S'.know (S.new0 h0) hH hR ?_) (st.know h0 hR) (.lst (SqL.of q0u) (r.mono (Same.new hR)));exact S.notnew h0
theorem q03{i:Nat}(hi:i∉O:=by decide):ME K O (tVar i) (mVar i):=λZ σ H R ρ d ρ' Q S e k=>by obtain⟨e1,rfl⟩:=q7c e;obtain⟨v,h1,h2⟩:=S.env i d hi e1;exact⟨v,h1,k v H R S (Stp.refl _ _ _ _) h2⟩
theorem q1x{i:Nat}:MB K O (tVar i) (mVar i):=λZ σ H R ρ d ρ' Q S e k=>by
 obtain⟨e1,rfl⟩:=q7c e;by_cases hi:i∈O
 ·obtain⟨l,vs,ds,h1,h2,h3,h4,h5⟩:=S.own i hi;rw[e1]at h1
  (first|obtain rfl:=h1.isA rfl|cases h1)
  exact⟨.ref l,h2,k _ H R S (Stp.refl _ _ _ _) ((h5.mono S.same).rp h3)⟩
 ·obtain⟨v,h1,h2⟩:=S.env i d hi e1;exact⟨v,h1,k v H R S (Stp.refl _ _ _ _) (h2.mono S.same)⟩
theorem me_c{v:V}{d:D}(h:Sc v d):ME K O (tC v) (mRet d):=λZ σ H R ρ e ρ' Q S q k=>by
 (first|obtain rfl:=q.isA rfl|cases q)
 exact k v H R S (Stp.refl _ _ _ _) h.rp
theorem me_int{i:Int}:ME K O (tC (.int i)) (mRet (.int i)):=me_c (.int i)
theorem me_str{x:Str}:ME K O (tC (.str x)) (mRet (.str x)):=me_c (.str x)
theorem qed{b:Bool}:ME K O (tC (.bl b)) (mRet (.bl b)):=me_c (.bl b)
theorem me_non:ME K O (tC .non) (mRet .non):=me_c .non
def mOp2(g:D->D->Option D)(fa fb:RhD):RhD:=q1l fa λx=>q1l fb λy=>q2f (g x y)
def OpS(K:FrG)(r:R2)(g:D->D->Option D):Prop:=∀(H:Hp) (x y:V) (d e u:D) (Q:VK),Rp K H x d->Rp K H y e->g d e=some u->(∀v,Sc v u->Q v H)->r x y H Q
def OpG(K:FrG)(r:R2)(g:D->D->Option D):Prop:=∀(H R:Hp) (x y:V) (d e u:D) (Q:VK),(∀a o,R a=some o->H a=some o)->Rp K R x d->Rp K R y e->g d e=some u->(∀v H' R',Ext H R H' R'->Rp K R' v u->Q v H')->r x y H Q
theorem OpS.g{r:R2}{g:D->D->Option D}(h:OpS K r g):OpG K r g:=λH R x y d e u Q s rx ry q k=>
 h H x y d e u Q (rx.mono s) (ry.mono s) q λv z=>k v H R (Ext.refl s) z.rp
theorem q0g{r:R2}{g:D->D->Option D}{fa fb:RhD}(h:OpG K r g)(ha:ME K O ta fa)(hb:ME K O tb fb):ME K O (tOp r ta tb) (mOp2 g fa fb):=λZ σ H R ρ d ρ' Q S e k=>by obtain⟨x,ρ1,e1,e⟩:=q09 e;obtain⟨y,ρ2,e2,e⟩:=q09 e;obtain⟨e3,rfl⟩:=q0h e;refine ha Z σ H R ρ x ρ1 _ S e1 λv H1 R1 S1 st1 r1=>hb Z σ H1 R1 ρ1 y _ _ S1 e2 λw H2 R2 S2 st2 r2=>?_;exact h H2 R2 v w x y d Q S2.sub (r1.mono st2.r) r2 e3 λz H3 R3 x3 r3=>k z H3 R3 (S2.ext x3) ((st1.trans st2).trans x3.stp) r3
theorem q1n{r:R2}{g:D->D->Option D}{fa fb:RhD}(h:OpS K r g)(ha:ME K O ta fa)(hb:MB K O tb fb):ME K O (tOp r ta tb) (mOp2 g fa fb):=λZ σ H R ρ d ρ' Q S e k=>by obtain⟨x,ρ1,e1,e⟩:=q09 e;obtain⟨y,ρ2,e2,e⟩:=q09 e;obtain⟨e3,rfl⟩:=q0h e;refine ha Z σ H R ρ x ρ1 _ S e1 λv H1 R1 S1 st1 r1=>hb Z σ H1 R1 ρ1 y _ _ S1 e2 λw H2 R2 S2 st2 r2=>?_;exact h H2 v w x y d Q ((r1.mono st2.r).mono S2.same) r2 e3 λz q=>k z H2 R2 S2 (st1.trans st2) q.rp
def mIxO(i:Nat)(fb:RhD):RhD:=q1l fb λy=>q1l (mVar i) λx=>q2f (match x,y with
 |.lst xs,.int j=>atI xs j
 |_,_=>none)
theorem qbu{R:Hp}{xs:List V}{ds:List D}{i:Int}{d:D}(r:Rps K R xs ds)(h:atI ds i=some d):∃v,atI xs i=some v/\Rp K R v d:=by
 unfold atI at h ⊢;rw[r.length];cases e:ixN ds.length i with
 |none=>rw[e]at h;cases h
 | some j=>
  rw[e]at h;exact r.get h
theorem qcx{i:Nat}{fb:RhD}(hi:i∈O)(hb:ME K O tb fb):ME K O (tOp (rIx K) (tVar i) tb) (mIxO i fb):=λZ σ H R ρ d ρ' Q S e k=>by
 obtain⟨y,ρ1,e1,e⟩:=q09 e;obtain⟨x,ρ2,e2,e⟩:=q09 e;obtain⟨e3,rfl⟩:=q0h e;obtain⟨e4,rfl⟩:=q7c e2;obtain⟨l,vs,ds,h1,h2,h3,_⟩:=S.own i hi;refine⟨.ref l,h2,hb Z σ H R ρ y _ _ S e1 λw H1 R1 S1 st1 r1=>?_⟩;obtain⟨l',vs',ds',g1,g2,g3,g4,g5⟩:=S1.own i hi;rw[h2]at g2;cases g2;rw[e4]at g1;cases g1;split at e3
 ·obtain rfl:=r1.isA rfl;obtain⟨us,rfl,q5⟩:=g5.isL;obtain⟨v,q1,q2⟩:=qbu q5 e3;exact .inl ⟨l,_,_,v,rfl,rfl,SqL.of g3,q1,k v H1 R1 S1 st1 q2⟩
 ·cases e3
def dIx:D->D->Option D
 |.lst xs,.int i=>atI xs i
 |.tup xs,.int i=>atI xs i
 |.str z,.int i=>if z.length<=sizeLine then(atI z.cps.toList i).map λc=>.str ⟨#[c]⟩else none
 |_,_=>none
theorem q1k:OpG K (rIx K) dIx:=λH R x y d e u Q s rx ry q k=>by
 unfold dIx at q;split at q
 ·rename_i xs i
  (first|obtain rfl:=ry.isA rfl|cases ry)
  obtain⟨_,_,rfl,h,r⟩:=rx.isL;obtain⟨v,q1,q2⟩:=qbu r q;exact .inl ⟨_,_,i,v,rfl,rfl,Same.sqL s h,q1,k v H R (Ext.refl s) q2⟩
 ·rename_i xs i
  (first|obtain rfl:=ry.isA rfl|cases ry)
  obtain⟨_,_,rfl,h,r⟩:=rx.isT;obtain⟨v,q1,q2⟩:=qbu r q;exact .inr (.inl ⟨_,_,i,v,rfl,rfl,SqT.of (s _ _ h),q1,k v H R (Ext.refl s) q2⟩)
 ·rename_i z i
  (first|obtain rfl:=ry.isA rfl|cases ry)
  (first|obtain rfl:=rx.isA rfl|cases rx)
  split at q
  ·rename_i hz;cases e':atI z.cps.toList i with
   |none=>rw[e']at q;cases q
   | some c=>
    rw[e']at q
    (first|obtain rfl:=q.isA rfl|cases q)
    exact .inr (.inr ⟨z,i,c,rfl,rfl,hz,e',k _ H R (Ext.refl s) (.str _)⟩)
  ·(first|obtain rfl:=q.isA rfl|cases q)
 ·(first|obtain rfl:=q.isA rfl|cases q)
def dI2(C:Int->Int->Bool)(g:Int->Int->Int):D->D->Option D
 |.int i,.int j=>if C i j=true then some (.int (g i j))else none
 |_,_=>none
theorem op_i{C:Int->Int->Bool}{P:Int->Int->Prop}{g:Int->Int->Int}(hc:∀i j,C i j=true->P i j):OpG K (rI P λi j=>.int (g i j)) (dI2 C g):=λH R x y d e u Q s rx ry q k=>by
 unfold dI2 at q;split at q
 ·rename_i i j;split at q
  ·rename_i h
   (first|obtain rfl:=q.isA rfl|cases q)
   (first|obtain rfl:=rx.isA rfl|cases rx)
   (first|obtain rfl:=ry.isA rfl|cases ry)
   exact⟨i,j,rfl,rfl,hc i j h,k _ H R (Ext.refl s) (.int _)⟩
  ·(first|obtain rfl:=q.isA rfl|cases q)
 ·(first|obtain rfl:=q.isA rfl|cases q)
def dI0(g:Int->Int->Int):D->D->Option D
 |.int i,.int j=>some (.int (g i j))
 |_,_=>none
theorem qmu{g:Int->Int->Int}:OpG K (rI0 λi j=>.int (g i j)) (dI0 g):=λH R x y d e u Q s rx ry q k=>by
 unfold dI0 at q;split at q
 ·rename_i i j
  (first|obtain rfl:=q.isA rfl|cases q)
  (first|obtain rfl:=rx.isA rfl|cases rx)
  (first|obtain rfl:=ry.isA rfl|cases ry)
  exact⟨i,j,rfl,rfl,k _ H R (Ext.refl s) (.int _)⟩
 ·(first|obtain rfl:=q.isA rfl|cases q)
def dB0(g:Int->Int->Bool):D->D->Option D
 |.int i,.int j=>some (.bl (g i j))
 |_,_=>none
end
section
variable{K:FrG}{Z:Anc}{O:List Nat}{t ta tb tc:TE}{tA tB':TT}{tr:TA}{fa fb fc:RhD}{ga gb:RhB}{fs:RhL}
def q0q(f:RhD):RhB:=q1l f λd=>q2f (match d with
 |.bl b=>some b
 |_=>none)
theorem q1c(h:ME K O t fa):MT K O (qpa t) (q0q fa):=λZ σ H R ρ b ρ' Q S e k=>by
 obtain⟨d,ρ1,e1,e⟩:=q09 e;obtain⟨e2,rfl⟩:=q0h e;refine h Z σ H R ρ d _ _ S e1 λv H' R' S' st r=>?_
 (first|split at e2)
 ·obtain rfl:=r.isA rfl;cases e2;exact⟨_,rfl,k H' R' S' st⟩
 ·cases e2
theorem q9w(h:ME K O t fa):MT K O (tB t) (q0q fa):=λZ σ H R ρ b ρ' Q S e k=>by
 obtain⟨d,ρ1,e1,e⟩:=q09 e;obtain⟨e2,rfl⟩:=q0h e;refine h Z σ H R ρ d _ _ S e1 λv H' R' S' st r=>?_
 (first|split at e2)
 ·obtain rfl:=r.isA rfl;cases e2;exact⟨_,rfl,k H' R' S' st⟩
 ·cases e2
def mNot(f:RhB):RhB:=q1l f λb=>mRet (!b)
theorem qlt(h:MT K O tA ga):MT K O (tNot tA) (mNot ga):=λZ σ H R ρ b ρ' Q S e k=>by obtain⟨c,ρ1,e1,e⟩:=q09 e;cases e;exact h Z σ H R ρ c _ _ S e1 λH' R' S' st=>k H' R' S' st
def mAnd(f g:RhB):RhB:=q1l f λb=>if b=true then g else mRet false
def mOr(f g:RhB):RhB:=q1l f λb=>if b=true then mRet true else g
theorem qsd(h:MT K O tA ga)(h2:MT K O tB' gb):MT K O (tAnd tA tB') (mAnd ga gb):=λZ σ H R ρ b ρ' Q S e k=>by
 obtain⟨c,ρ1,e1,e⟩:=q09 e;refine h Z σ H R ρ c _ _ S e1 λH' R' S' st=>?_;cases c with
 |true=>exact iteT (h2 Z σ H' R' ρ1 b ρ' Q S' e λH2 R2 S2 st2=>k H2 R2 S2 (st.trans st2))
 |false=>cases e;exact iteF (k H' R' S' st)
theorem qsc(h:MT K O tA ga)(h2:MT K O tB' gb):MT K O (tOr tA tB') (mOr ga gb):=λZ σ H R ρ b ρ' Q S e k=>by
 obtain⟨c,ρ1,e1,e⟩:=q09 e;refine h Z σ H R ρ c _ _ S e1 λH' R' S' st=>?_;cases c with
 |true=>cases e;exact iteT (k H' R' S' st)
 |false=>exact iteF (h2 Z σ H' R' ρ1 b ρ' Q S' e λH2 R2 S2 st2=>k H2 R2 S2 (st.trans st2))
def qbf(f g:RhD):RhD:=q1l (q0q f) λb=>if b=true then g else mRet (.bl false)
def qjg(f:RhD):RhD:=q1l (q0q f) λb=>mRet (.bl (!b))
theorem qlw(h:ME K O ta fa)(h2:ME K O tb fb):ME K O (qpk ta tb) (qbf fa fb):=λZ σ H R ρ d ρ' Q S e k=>by
 obtain⟨c,ρ1,e1,e⟩:=q09 e;obtain⟨x,ρ2,e1,e2⟩:=q09 e1;obtain⟨e2,rfl⟩:=q0h e2;refine h Z σ H R ρ x _ _ S e1 λv H' R' S' st r=>?_
 (first|split at e2)
 ·obtain rfl:=r.isA rfl;cases e2;refine⟨_,rfl,?_⟩;cases c with
  |true=>exact iteT (h2 Z σ H' R' _ d ρ' Q S' e λv H2 R2 S2 st2 r2=>k v H2 R2 S2 (st.trans st2) r2)
  |false=>cases e;exact iteF (k _ H' R' S' st (.bl false))
 ·cases e2
theorem qsm(h:ME K O ta fa):ME K O (qpc ta) (qjg fa):=λZ σ H R ρ d ρ' Q S e k=>by
 obtain⟨c,ρ1,e1,e⟩:=q09 e;obtain⟨x,ρ2,e1,e2⟩:=q09 e1;obtain⟨e2,rfl⟩:=q0h e2;refine h Z σ H R ρ x _ _ S e1 λv H' R' S' st r=>?_
 (first|split at e2)
 ·obtain rfl:=r.isA rfl;cases e2;cases e;exact⟨_,rfl,k _ H' R' S' st (.bl _)⟩
 ·cases e2
def mIf(f:RhB)(g h:RhD):RhD:=q1l f λb=>if b=true then g else h
theorem q7s(h:MT K O tA ga)(h1:ME K O ta fa)(h2:ME K O tb fb):ME K O (tIf tA ta tb) (mIf ga fa fb):=λZ σ H R ρ d ρ' Q S e k=>by
 obtain⟨c,ρ1,e1,e⟩:=q09 e;refine h Z σ H R ρ c _ _ S e1 λH' R' S' st=>?_;cases c with
 |true=>exact iteT (h1 Z σ H' R' ρ1 d ρ' Q S' e λv H2 R2 S2 st2 r2=>k v H2 R2 S2 (st.trans st2) r2)
 |false=>exact iteF (h2 Z σ H' R' ρ1 d ρ' Q S' e λv H2 R2 S2 st2 r2=>k v H2 R2 S2 (st.trans st2) r2)
def mNil:RhL:=mRet []
def q00(f:RhD)(g:RhL):RhL:=q1l f λx=>q1l g λxs=>mRet (x::xs)
theorem q08:MA K O tNil mNil:=λZ σ H R ρ ds ρ' Q S e k=>by cases e;exact k [] H R S (Stp.refl _ _ _ _) .nil
theorem q02(h:ME K O t fa)(h2:MA K O tr fs):MA K O (q8l t tr) (q00 fa fs):=λZ σ H R ρ ds ρ' Q S e k=>by obtain⟨x,ρ1,e1,e⟩:=q09 e;obtain⟨xs,ρ2,e2,e⟩:=q09 e;cases e;refine h Z σ H R ρ x _ _ S e1 λv H1 R1 S1 st1 r1=>h2 Z σ H1 R1 ρ1 xs _ _ S1 e2 λvs H2 R2 S2 st2 r2=>?_;exact k (v::vs) H2 R2 S2 (st1.trans st2) (.cons (r1.mono st2.r) r2)
def mTup(f:RhL):RhD:=q1l f λxs=>q2f (if xs.length<=sizeLine then some (.tup xs)else none)
theorem q3a(h:MA K O tr fs):ME K O (tTup tr) (mTup fs):=λZ σ H R ρ d ρ' Q S e k=>by
 obtain⟨xs,ρ1,e1,e⟩:=q09 e;obtain⟨e2,rfl⟩:=q0h e;refine h Z σ H R ρ xs _ _ S e1 λvs H1 R1 S1 st1 r1=>?_;split at e2
 ·rename_i hz;cases e2;refine⟨by rw[r1.length];exact hz,λp np=>?_⟩;have x:=Ext.new (o:=.tup vs) S1.sub np;exact k _ _ _ (S1.ext x) (st1.trans x.stp) (.tup q0u (r1.mono x.r))
 ·cases e2
def mLst(f:RhL):RhL:=q1l f λxs=>q2f (if xs.length<=sizeLine then some xs else none)
theorem StR.out{σ:St}{H R:Hp}{ρ:Rho}{l:Addr}(S:StR K Z O σ H R ρ)(h:H l=none):R l=none:=by
 cases q:R l with
 |none=>rfl
 |some o=>rw[S.sub l o q]at h;cases h
theorem Stp.new{σ:St}{H R H' R':Hp}{l:Addr}(x:Stp O σ H R H' R')(h:H' l=none):H l=none:=by
 cases q:H l with
 |none=>rfl
 |some o=>exact absurd h (x.d l (by rw[q];exact λz=>nomatch z)).1
theorem q2w(h:MA K O tr fs):MN K O (tLst tr) (mLst fs):=λZ σ H R ρ ds ρ' Q S e k=>by
 obtain⟨xs,ρ1,e1,e⟩:=q09 e;obtain⟨e2,rfl⟩:=q0h e;refine h Z σ H R ρ xs _ _ S e1 λvs H1 R1 S1 st1 r1=>?_;split at e2
 ·rename_i hz;cases e2;refine⟨by rw[r1.length];exact hz,λp np=>?_⟩;have x:=Ext.hid (o:=.lst vs) S1.sub np;exact k p vs _ _ (S1.ext x) (st1.trans x.stp) (st1.new np) q0u (S1.out np) r1
 ·cases e2
def qew(K:FrG)(r:List V->Hp->VK->Prop)(g:D->Option D):Prop:=∀(H:Hp) (x:V) (d u:D) (Q:VK),Rp K H x d->g d=some u->(∀v,Sc v u->Q v H)->r [x] H Q
def mOp1(g:D->Option D)(f:RhD):RhD:=q1l f λx=>q2f (g x)
theorem q19{r:List V->Hp->VK->Prop}{g:D->Option D}(h:qew K r g)(ha:MB K O t fa):ME K O (tCB r (q8l t tNil)) (mOp1 g fa):=λZ σ H R ρ d ρ' Q S e k=>by obtain⟨x,ρ1,e1,e⟩:=q09 e;obtain⟨e2,rfl⟩:=q0h e;refine ha Z σ H R ρ x _ _ S e1 λv H1 R1 S1 st1 r1=>?_;exact h H1 v x d Q r1 e2 λw z=>k w H1 R1 S1 st1 z.rp
def dLen:D->Option D
 |.lst xs=>some (.int xs.length)
 |.tup xs=>some (.int xs.length)
 |_=>none
theorem q2i:qew K (λxs H Q=>∃p ys,xs=[.ref p]/\(SqL K H p ys∨SqT K H p ys)/\Q (.int ys.length) H) dLen:=λH x d u Q r e k=>by
 (first|split at e|(unfold dLen at e;split at e))
 ·obtain⟨_,_,rfl,h,q⟩:=r.isL;cases e;refine⟨_,_,rfl,.inl h,?_⟩;rw[q.length];exact k _ (.int _)
 ·obtain⟨_,_,rfl,h,q⟩:=r.isT;cases e;refine⟨_,_,rfl,.inr (SqT.of h),?_⟩;rw[q.length];exact k _ (.int _)
 ·cases e
def dInt:D->Option D
 |.int i=>some (.int i)
 |.bl b=>some (.int (if b then 1 else 0))
 |_=>none
theorem qu5:qew K (λxs H Q=>(∃i,xs=[.int i]/\Q (.int i) H)∨∃k,xs=[.bl k]/\Q (.int (if k then 1 else 0)) H) dInt:=λH x d u Q r e k=>by
 (first|split at e|(unfold dInt at e;split at e))
 ·rename_i i;obtain rfl:=r.isA rfl;cases e;exact .inl ⟨i,rfl,k _ (.int _)⟩
 ·rename_i b;obtain rfl:=r.isA rfl;cases e;exact .inr ⟨b,rfl,k _ (.int _)⟩
 ·cases e
def q3d:List D->Option (List Int)
 |[]=>some []
 |.int i::r=>(q3d r).map (i:: ·)
 |_=>none
def q4r:List D->Option (List Bool)
 |[]=>some []
 |.bl i::r=>(q4r r).map (i:: ·)
 |_=>none
theorem q4o{R:Hp}:∀{xs:List V} {ds:List D} {ns:List Int},Rps K R xs ds->q3d ds=some ns->xs=ns.map V.int
 |_,_,ns,.nil,e=>by cases e;rfl
 | _,_,ns,.cons (d:=d) h r,e=>by
  cases h with
  | int i=>
   unfold q3d at e;cases q:q3d _ with
   |none=>rw[q]at e;cases e
   |some ms=>rw[q]at e;cases e;rw[q4o r q];rfl
  |_=>cases e
theorem q8d{R:Hp}:∀{xs:List V} {ds:List D} {ns:List Bool},Rps K R xs ds->q4r ds=some ns->xs=ns.map V.bl
 |_,_,ns,.nil,e=>by cases e;rfl
 | _,_,ns,.cons (d:=d) h r,e=>by
  cases h with
  | bl i=>
   unfold q4r at e;cases q:q4r _ with
   |none=>rw[q]at e;cases e
   |some ms=>rw[q]at e;cases e;rw[q8d r q];rfl
  |_=>cases e
theorem q3k:∀ns:List Int,q3d (ns.map D.int)=some ns
 |[]=>rfl
 |n::ns=>by rw[jr,q3d,q3k ns];rfl
theorem q8e:∀ns:List Bool,q4r (ns.map D.bl)=some ns
 |[]=>rfl
 |n::ns=>by rw[jr,q4r,q8e ns];rfl
def dSum:D->Option D
 |.lst xs=>(q3d xs).map λns=>.int ns.sum
 |_=>none
theorem qm5:qew K (λxs H Q=>∃(p:Addr) (ns:List Int),xs=[.ref p]/\SqL K H p (ns.map V.int)/\Q (.int ns.sum) H) dSum:=λH x d u Q r e k=>by
 cases r with
 | lst h q=>
  rename_i ds;have e':(q3d ds).map (λns=>D.int ns.sum)=some u:=e;cases z:q3d ds with
  |none=>rw[z]at e';cases e'
  | some ns=>
   rw[z]at e';cases e';have ex:=q4o q z;subst ex;exact⟨_,ns,rfl,h,k _ (.int _)⟩
 |_=>cases e
def dAll:D->Option D
 |.lst xs=>(q4r xs).map λbs=>.bl (bs.all id)
 |_=>none
theorem qu6:qew K (λxs H Q=>∃(p:Addr) (bs:List Bool),xs=[.ref p]/\SqL K H p (bs.map V.bl)/\Q (.bl (bs.all id)) H) dAll:=λH x d u Q r e k=>by
 cases r with
 | lst h q=>
  rename_i ds;have e':(q4r ds).map (λbs=>D.bl (bs.all id))=some u:=e;cases z:q4r ds with
  |none=>rw[z]at e';cases e'
  | some ns=>
   rw[z]at e';cases e';have ex:=q8d q z;subst ex;exact⟨_,ns,rfl,h,k _ (.bl _)⟩
 |_=>cases e
end
def ItOk(K:FrG)(J:It)(R:Hp)(ds:List D):Prop:=∀(H' R':Hp),Same R R'->(∀a o,R' a=some o->H' a=some o)->∀i:Nat,(i=ds.length->J.stop i H')/\∀d,ds[i]? =some d->J.go i H'/\∀x H'',J.yld i H' x H''->∃R'',Ext H' R' H'' R''/\Rp K R'' x d
theorem ItOk.mono{K:FrG}{J:It}{R R1:Hp}{ds:List D}(h:ItOk K J R ds)(s:Same R R1):ItOk K J R1 ds:=λH' R' s' b=>h H' R' (s.trans s') b
def MI(K:FrG)(O:List Nat)(wi:TI)(f:RhL):Prop:=∀(Z:Anc) (σ:St) (H R:Hp) (ρ:Rho) (ds:List D) (ρ':Rho) (Q:It->Hp->Prop),StR K Z O σ H R ρ->f ρ=some (ds,ρ')->(∀J H' R',StR K Z O σ H' R' ρ'->Stp O σ H R H' R'->ItOk K J R' ds->Q J H')->wi σ H Q
def iSeq(K:FrG)(tl:TE):TI:=λσ H R=>qnm K tl σ H R∨iTup K tl σ H R
theorem q2t{X:Cx}{K:FrG}{tg l:Expr}{tl:TE}(h:X.K=K)(hl:PE X l tl):PI X tg l (iSeq K tl):=λz5 s σ H R I q=>by
 rcases q with q|q
 ·exact qiw h hl z5 s σ H R I q
 ·exact qmj h hl z5 s σ H R I q
def mSeq(f:RhD):RhL:=q1l f λd=>q2f (match d with
 |.lst xs=>some xs
 |.tup xs=>some xs
 |_=>none)
section
variable{K:FrG}{O:List Nat}{t:TE}{tr:TA}{fa:RhD}{fs:RhL}
theorem qnj{R:Hp}{a:Addr}{xs:List V}{ds:List D}(h:SqL K R a xs)(r:Rps K R xs ds):ItOk K (Itl K a) R ds:=λH' R' s b i=>by have q:SqL K H' a xs:=Same.sqL b (Same.sqL s h);refine⟨λe=>⟨xs,q,by rw[r.length];omega⟩,λd e=>?_⟩;obtain⟨v,h1,h2⟩:=r.get e;refine⟨⟨xs,v,q,h1⟩,λx H'' y=>?_⟩;obtain⟨rfl,y⟩:=y;have ex:=y xs q;rw[h1]at ex;cases ex;exact⟨R',Ext.refl b,h2.mono s⟩
theorem qt6{R:Hp}{a:Addr}{xs:List V}{ds:List D}(h:SqT K R a xs)(r:Rps K R xs ds):ItOk K (Itt K a) R ds:=λH' R' s b i=>by have q:SqT K H' a xs:=Same.tup b (Same.tup s h);refine⟨λe=>⟨xs,q,by rw[r.length];omega⟩,λd e=>?_⟩;obtain⟨v,h1,h2⟩:=r.get e;refine⟨⟨xs,v,q,h1⟩,λx H'' y=>?_⟩;obtain⟨rfl,y⟩:=y;have ex:=y xs q;rw[h1]at ex;cases ex;exact⟨R',Ext.refl b,h2.mono s⟩
theorem q3p(h:ME K O t fa):MI K O (iSeq K t) (mSeq fa):=λZ σ H R ρ ds ρ' Q S e k=>by
 obtain⟨d,ρ1,e1,e⟩:=q09 e;obtain⟨e2,rfl⟩:=q0h e;cases d with
 | lst xs=>
  cases e2;refine .inl (h Z σ H R ρ _ _ _ S e1 λv H1 R1 S1 st1 r1=>?_);obtain⟨_,_,rfl,q,r⟩:=r1.isL;exact⟨_,rfl,⟨_,Same.sqL S1.same q⟩,k _ H1 R1 S1 st1 (qnj q r)⟩
 | tup xs=>
  cases e2;refine .inr (h Z σ H R ρ _ _ _ S e1 λv H1 R1 S1 st1 r1=>?_);obtain⟨_,_,rfl,q,r⟩:=r1.isT;exact⟨_,rfl,⟨_,SqT.of (S1.same _ _ q)⟩,k _ H1 R1 S1 st1 (qt6 (SqT.of q) r)⟩
 |_=>cases e2
def q15(lo:Int)(n:Nat):List D:=(List.range n).map λ(k:Nat)=>D.int (lo+(k:Int))
theorem qd1{R:Hp}(lo:Int)(n:Nat):ItOk K (Itr lo n) R (q15 lo n):=λH' R' s b i=>by
 have len:(q15 lo n).length=n:=by simp[q15]
 refine⟨λe=>by show n<=i;omega,λd e=>?_⟩;have hi:i<n:=by have:=(List.getElem?_eq_some_iff.mp e).1;omega
 have ed:d=D.int (lo+(i:Int)):=by unfold q15 at e;rw[j9,xn hi]at e;exact(ja e).symm
 subst ed;refine⟨hi,λx H'' y=>?_⟩;obtain⟨rfl,rfl⟩:=y;exact⟨R',Ext.refl b,.int _⟩
def big(j:Int):Bool:=decide (-(2^62)<=j)&&decide (j<2^62)
def q30(f:RhL):RhL:=q1l f λds=>q2f (match ds with
 |[.int j]=>if big j=true then some (q15 0 j.toNat)else none
 |_=>none)
theorem q21(h:MA K O tr fs):MI K O (qtb tr) (q30 fs):=λZ σ H R ρ ds ρ' Q S e k=>by
 obtain⟨xs,ρ1,e1,e⟩:=q09 e;obtain⟨e2,rfl⟩:=q0h e;split at e2
 ·rename_i j;split at e2
  ·rename_i hb;cases e2;refine h Z σ H R ρ _ _ _ S e1 λvs H1 R1 S1 st1 r1=>?_;obtain⟨_,_,rfl,q,r⟩:=r1.isC
   (first|obtain rfl:=r.isA rfl|cases r)
   (first|obtain rfl:=q.isA rfl|cases q)
   unfold big at hb;rw[Bool.and_eq_true]at hb;exact⟨j,rfl,of_decide_eq_true hb.1,of_decide_eq_true hb.2,k _ H1 R1 S1 st1 (qd1 0 _)⟩
  ·cases e2
 ·cases e2
def qbe(f:RhL):RhL:=q1l f λds=>q2f (match ds with
 |[.int i,.int j]=>if(big i&&big j)=true then some (q15 i (j-i).toNat)else none
 |_=>none)
theorem qgv(h:MA K O tr fs):MI K O (qta tr) (qbe fs):=λZ σ H R ρ ds ρ' Q S e k=>by
 obtain⟨xs,ρ1,e1,e⟩:=q09 e;obtain⟨e2,rfl⟩:=q0h e;split at e2
 ·rename_i i j;split at e2
  ·rename_i hb;cases e2;refine h Z σ H R ρ _ _ _ S e1 λvs H1 R1 S1 st1 r1=>?_;obtain⟨_,_,rfl,q,r⟩:=r1.isC;obtain⟨_,_,rfl,q2,r⟩:=r.isC
   (first|obtain rfl:=r.isA rfl|cases r)
   (first|obtain rfl:=q.isA rfl|cases q)
   (first|obtain rfl:=q2.isA rfl|cases q2)
   unfold big at hb;simp only[Bool.and_eq_true,decide_eq_true_eq]at hb;exact⟨i,j,rfl,⟨hb.1.1,hb.1.2,hb.2.1,hb.2.2⟩,k _ H1 R1 S1 st1 (qd1 i _)⟩
  ·cases e2
 ·cases e2
end
def MG(K:FrG)(O T:List Nat)(g:TG)(f:RhG):Prop:=∀(Z:Anc) (σ:St) (H R:Hp) (ρ:Rho) (x:V) (d:D) (ρ':Rho) (Q:St->Hp->Prop),StR K Z O σ H R ρ->Rp K R x d->f d ρ=some ρ'->(∀σ',StR K Z O σ' H R ρ'->(∀j,j∉T->σ'[j]? =σ[j]?)->Q σ' H)->g x σ H Q
def MGs(K:FrG)(O T:List Nat)(g:TGs)(f:List D->Rho->Option Rho):Prop:=∀(Z:Anc) (σ:St) (H R:Hp) (ρ:Rho) (xs:List V) (ds:List D) (ρ':Rho) (Q:St->Hp->Prop),StR K Z O σ H R ρ->Rps K R xs ds->f ds ρ=some ρ'->(∀σ',StR K Z O σ' H R ρ'->(∀j,j∉T->σ'[j]? =σ[j]?)->Q σ' H)->g xs σ H Q
def gSet(i:Nat):RhG:=λd ρ=>some (ρ.set i (some d))
def q2c:List D->Rho->Option Rho:=λds ρ=>match ds with
 |[]=>some ρ
 |_=>none
def q0n(f:RhG)(g:List D->Rho->Option Rho):List D->Rho->Option Rho:=λds ρ=>match ds with
 | d::r=>match f d ρ with
  |some ρ1=>g r ρ1
  |none=>none
 |[]=>none
def q2b(n:Nat)(f:List D->Rho->Option Rho):RhG:=λd ρ=>match d with
 |.tup ds=>if ds.length=n then f ds ρ else none
 |_=>none
section
variable{K:FrG}{O T T':List Nat}{g:TG}{gs:TGs}{f:RhG}{fs:List D->Rho->Option Rho}
theorem q0t{i:Nat}(hi:i∉O:=by decide):MG K O [i] (q6m i) (gSet i):=λZ σ H R ρ x d ρ' Q S r e k=>by cases e;exact k _ (S.set hi r) λj hj=>jc (λ(z:i=j)=>hj (by rw[z];exact List.mem_singleton_self j))
theorem q4d:MGs K O [] gNil q2c:=λZ σ H R ρ xs ds ρ' Q S r e k=>by
 cases r with
 |nil=>cases e;exact⟨rfl,k σ S λ_ _=>rfl⟩
 |cons _ _=>cases e
theorem q1w(h:MG K O T g f)(h2:MGs K O T' gs fs):MGs K O (T++T') (qju g gs) (q0n f fs):=λZ σ H R ρ xs ds ρ' Q S r e k=>by
 cases r with
 |nil=>cases e
 | cons q r=>
  rename_i x xs d ds;unfold q0n at e;cases e1:f d ρ with
  |none=>simp only[e1]at e;cases e
  | some ρ1=>
   simp only[e1]at e;refine⟨x,xs,rfl,h Z σ H R ρ x d ρ1 _ S q e1 λσ1 S1 n1=>h2 Z σ1 H R ρ1 xs ds ρ' _ S1 r e λσ2 S2 n2=>?_⟩;refine k σ2 S2 λj hj=>?_;rw[List.mem_append,not_or]at hj;rw[n2 j hj.2,n1 j hj.1]
theorem q5h{n:Nat}(h:MGs K O T gs fs):MG K O T (gTup K n gs) (q2b n fs):=λZ σ H R ρ x d ρ' Q S r e k=>by
 cases r with
 | tup q rs=>
  unfold q2b at e;simp only at e;split at e
  ·rename_i hn;exact⟨_,_,rfl,SqT.of (S.same _ _ q),by rw[rs.length];exact hn,h Z σ H R ρ _ _ ρ' Q S rs e k⟩
  ·cases e
 |_=>cases e
end
def q5b(n:Nat)(js:List Nat)(ρ:Rho):Rho:=List.replicate n none++js.map λj=>(ρ[j]?).join
def bwO:Option (Nat×Nat)->List Nat
 |none=>[]
 |some p=>[p.2]
def q50(bw:Option (Nat×Nat))(ρ ρb:Rho):Rho:=match bw with
 |none=>ρ
 | some p=>match ρb[p.2]? with
  |some x=>ρ.set p.1 x
  |none=>ρ
def bwOk(n:Nat)(js O:List Nat)(bw:Option (Nat×Nat)):Bool:=match bw with
 |none=>js.all λj=>!O.contains j
 |some p=>O.contains p.1&&decide (n<=p.2)&&decide (js[p.2-n]? =some p.1)&&(List.range js.length).all λk=>decide (n+k=p.2)|| !O.contains (js.getD k 0)
def q12(n:Nat)(js:List Nat)(bw:Option (Nat×Nat))(fg:RhG)(ft:RhB)(fe:RhD):List D->RhL
 |[],ρ=>some ([],ρ)
 | d::r,ρ=>match fg d (q5b n js ρ)with
  |none=>none
  | some ρ1=>match ft ρ1 with
   |none=>none
   |some (false,ρ2)=>q12 n js bw fg ft fe r (q50 bw ρ ρ2)
   | some (true,ρ2)=>match fe ρ2 with
    |none=>none
    | some (y,ρ3)=>match q12 n js bw fg ft fe r (q50 bw ρ ρ3)with
     |none=>none
     |some (ys,ρ4)=>some (y::ys,ρ4)
section
variable{K:FrG}{Z Z':Anc}{O:List Nat}{σ σ4:St}{H R H6 R6:Hp}{ρ ρ3:Rho}{n:Nat}{js:List Nat}{bw:Option (Nat×Nat)}
theorem qhu:(q5b n js ρ).length=n+js.length:=by simp[q5b]
theorem qhv{i:Nat}{d:D}(e:(q5b n js ρ)[i]? =some (some d)):n<=i/\∃j,js[i-n]? =some j/\ρ[j]? =some (some d):=by
 unfold q5b at e;by_cases h:i<n
 ·rw[kf (by simpa using h),xy,if_pos h]at e;cases e
 ·refine⟨by omega,?_⟩;rw[xq (by simp;omega),jj,j9]at e;cases q:js[i-n]? with
  |none=>rw[q]at e;cases e
  | some j=>
   rw[q]at e;refine⟨j,rfl,?_⟩;have e':(ρ[j]?).join=some d:=ja e;cases z:ρ[j]? with
   |none=>rw[z]at e';cases e'
   |some o=>rw[z]at e';have:o=some d:=e';rw[this]
theorem qka{i j:Nat}(h:n<=i)(e:js[i-n]? =some j){d:D}(q:ρ[j]? =some (some d)):(q5b n js ρ)[i]? =some (some d):=by unfold q5b;rw[xq (by simp;omega),jj,j9,e];show some ((ρ[j]?).join)=_;rw[q];rfl
theorem q96{i j:Nat}(h:n<=i)(e:js[i-n]? =some j){v:V}(q:σ[j]? =some (some v)):(caps n js σ)[i]? =some (some v):=by unfold caps;rw[xq (by simp;omega),jj,j9,e];show some ((σ[j]?).join)=_;rw[q];rfl
def bwL(bw:Option (Nat×Nat))(σ:St):Addr->Prop:=match bw with
 |none=>λ_=>False
 |some p=>λl=>σ[p.1]? =some (some (.ref l))
theorem StR.block(S:StR K Z O σ H R ρ)(hb:bwOk n js O bw=true):StR K ⟨H,R,bwL bw σ,bwO bw⟩ (bwO bw) (caps n js σ) H R (q5b n js ρ):=by
 have noO:∀i j,n<=i->js[i-n]? =some j->i∉bwO bw->j∉O:=λi j hi hj hn hO=>by
  cases bw with
  | none=>
   unfold bwOk at hb;have z:=List.all_eq_true.mp hb j (xk hj);simp at z;exact z hO
  | some p=>
   unfold bwOk at hb;simp only[Bool.and_eq_true]at hb;have hk:i-n<js.length:=(List.getElem?_eq_some_iff.mp hj).1;have z:=List.all_eq_true.mp hb.2 (i-n) (List.mem_range.mpr hk);have ej:js.getD (i-n) 0=j:=by rw[jk,hj];rfl
   rw[ej]at z;simp only[Bool.or_eq_true,decide_eq_true_eq]at z;rcases z with z|z
   ·exact hn (by show i∈[p.2];rw[List.mem_singleton];omega)
   ·simp at z;exact z hO
 have inO:∀p,bw=some p->p.1∈O/\n<=p.2/\js[p.2-n]? =some p.1:=λp e=>by subst e;unfold bwOk at hb;simp only[Bool.and_eq_true,decide_eq_true_eq]at hb;exact⟨by simpa using hb.1.1.1,hb.1.1.2,hb.1.2⟩
 have only:∀i,i∈bwO bw->∃p,bw=some p/\i=p.2:=λi hi=>by
  cases bw with
  |none=>exact absurd hi (by simp[bwO])
  |some p=>exact⟨p,rfl,by simpa[bwO]using hi⟩
 refine⟨S.sub,by rw[qhu,qdc],λi d hi e=>?_,λi hi=>?_,λi j hi hj hn=>?_,λa o e _=>e,Same.refl _,λa h=>.inl h,λa h=>.refl h,λi hi hp=>absurd hi hp,λi hi _ l e=>?_⟩
 ·obtain⟨h1,j,h2,h3⟩:=qhv e;obtain⟨v,q1,q2⟩:=S.env j d (noO i j h1 h2 hi) h3;exact⟨v,q96 h1 h2 q1,q2⟩
 ·obtain⟨p,rfl,rfl⟩:=only i hi;obtain⟨h1,h2,h3⟩:=inO p rfl;obtain⟨l,vs,ds,q1,q2,q3⟩:=S.own p.1 h1;exact⟨l,vs,ds,qka h2 h3 q1,q96 h2 h3 q2,q3⟩
 ·obtain⟨p,rfl,rfl⟩:=only i hi;obtain⟨p',e,rfl⟩:=only j hj;cases e;exact absurd rfl hn
 ·obtain⟨p,rfl,rfl⟩:=only i hi;obtain⟨h1,h2,h3⟩:=inO p rfl;obtain⟨l',vs,ds,q1,q2,q3⟩:=S.own p.1 h1;rw[q96 h2 h3 q2]at e;cases e;exact q2
theorem StR.back(S:StR K Z O σ H R ρ)(hb:bwOk n js O bw=true)(Sb:StR K Z' (bwO bw) σ4 H6 R6 ρ3)(st:Stp (bwO bw) σ4 H R H6 R6)(hσ:∀p,bw=some p->σ4[p.2]? =σ[p.1]?):
 StR K Z O σ H6 R6 (q50 bw ρ ρ3)/\Stp O σ H R H6 R6:=by
 have inO:∀p,bw=some p->p.1∈O:=λp e=>by subst e;unfold bwOk at hb;simp only[Bool.and_eq_true,decide_eq_true_eq]at hb;simpa using hb.1.1.1
 have only:∀i,i∈bwO bw->∃p,bw=some p/\i=p.2:=λi hi=>by
  cases bw with
  |none=>exact absurd hi (by simp[bwO])
  |some p=>exact⟨p,rfl,by simpa[bwO]using hi⟩
 have st':Stp O σ H R H6 R6:=⟨st.r,λa o e n=>st.h a o e λi hi z=>by obtain⟨p,e1,rfl⟩:=only i hi;rw[hσ p e1]at z;exact n p.1 (inO p e1) z,st.n,st.d⟩
 have keepH0:∀a o,Z.H0 a=some o->¬Z.L a->H6 a=some o:=λa o e n=>by
  refine st'.h a o (S.ah a o e n) λi hi z=>?_;by_cases hp:i∈Z.P
  ·exact n (S.ap i hi hp a z)
  ·rw[S.ao i hi hp a z]at e;cases e
 have len:(q50 bw ρ ρ3).length=ρ.length:=by
  unfold q50;cases bw with
  |none=>rfl
  | some p=>
   dsimp only;split
   ·rw[jx]
   ·rfl
 have other:∀i,(∀p,bw=some p->p.1≠i)->(q50 bw ρ ρ3)[i]? =ρ[i]? :=λi h=>by
  unfold q50;cases bw with
  |none=>rfl
  | some p=>
   dsimp only;split
   ·rw[jc (h p rfl)]
   ·rfl
 refine⟨⟨Sb.sub,by rw[len];exact S.len,λi d hi e=>?_,λi hi=>?_,S.dis,keepH0,S.ar.trans st.r,λa h=>?_,λa h=>(S.ad a h).trans (st.d a (S.ad a h).1),S.ao,S.ap⟩,st'⟩
 ·rw[other i λp e1 z=>hi (z▸inO p e1)]at e;obtain⟨v,h1,h2⟩:=S.env i d hi e;exact⟨v,h1,h2.mono st.r⟩
 ·by_cases hp:∃p,bw=some p/\p.1=i
  ·obtain⟨p,rfl,rfl⟩:=hp;obtain⟨l,vs,ds,q1,q2,q3,q4,q5⟩:=Sb.own p.2 (by simp[bwO]);rw[hσ p rfl]at q2;obtain⟨_,_,_,g1,_⟩:=S.own p.1 hi;have ze:p.1<ρ.length:=(List.getElem?_eq_some_iff.mp g1).1;refine⟨l,vs,ds,?_,q2,q3,q4,q5⟩;unfold q50;dsimp only;rw[q1];exact jw ze
  ·have hne:∀p,bw=some p->p.1≠i:=λp e z=>hp ⟨p,e,z⟩;obtain⟨l,vs,ds,q1,q2,q3,q4,q5⟩:=S.own i hi;have nob:∀j,j∈bwO bw->σ4[j]? ≠some (some (.ref l)):=λj hj z=>by
    obtain⟨p,e1,rfl⟩:=only j hj;rw[hσ p e1]at z;exact S.dis p.1 i (inO p e1) hi (hne p e1) l z q2
   refine⟨l,vs,ds,by rw[other i hne];exact q1,q2,st.h l _ q3 nob,?_,q5.mono st.r⟩;cases q:R6 l with
   |none=>rfl
   | some o=>
    rcases st.n l (by rw[q];exact λz=>nomatch z)with z|z
    ·exact absurd q4 z
    ·exact(q5.noF q3 z).elim
 ·rcases st.n a h with z|z
  ·exact S.an a z
  ·exact .inr (z.back (S.ad a))
end
theorem qeq{K:FrG}{Z:Anc}{O T:List Nat}{σ:St}{H R:Hp}{ρ ρ':Rho}{n:Nat}{js:List Nat}{bw:Option (Nat×Nat)}{g:TG}{tt:TT}{te:TE}{fg:RhG}{ft:RhB}{fe:RhD}{J:It}{ds ys:List D}{Fin:List V->Hp->Prop}
 (hb:bwOk n js O bw=true) (hg:MG K (bwO bw) T g fg) (hT:∀p,bw=some p->p.2∉T) (ht:MT K (bwO bw) tt ft) (he:ME K (bwO bw) te fe) (S:StR K Z O σ H R ρ) (ok:ItOk K J R ds) (e:q12 n js bw fg ft fe ds ρ=some (ys,ρ')) (hz:ds.length<=sizeLine)
 (fin:∀vs H' R',StR K Z O σ H' R' ρ'->Stp O σ H R H' R'->Rps K R' vs ys->vs.length<=sizeLine->Fin vs H'):cGo g tt te (caps n js σ) Fin J H:=by
 refine⟨λi m vs H2=>m=ds.length-i/\i<=ds.length/\vs.length<=i/\∃R2 ρ2 ys1 ys2,StR K Z O σ H2 R2 ρ2/\Stp O σ H R H2 R2/\Rps K R2 vs ys1/\q12 n js bw fg ft fe (ds.drop i) ρ2=some (ys2,ρ')/\ys1++ys2=ys,
  ⟨ds.length,by simp,Nat.zero_le _,Nat.zero_le _,R,ρ,[],ys,S,Stp.refl _ _ _ _,.nil,by rw[List.drop_zero];exact e,rfl⟩,?_⟩
 rintro i m vs H2 ⟨rfl,hi,hv,R2,ρ2,ys1,ys2,S2,st2,r2,e2,ey⟩;obtain⟨o1,o2⟩:=ok H2 R2 st2.r S2.sub i;by_cases hlt:i<ds.length
 ·obtain⟨g1,g2⟩:=o2 ds[i] (jb hlt);rw[xr hlt]at e2;refine .inr ⟨g1,by omega,λvs' H'=>∃R' ρ2 ys1 ys2,vs'.length<=i+1/\StR K Z O σ H' R' ρ2/\Stp O σ H R H' R'/\Rps K R' vs' ys1/\q12 n js bw fg ft fe (ds.drop (i+1)) ρ2=some (ys2,ρ')/\ys1++ys2=ys,?_,λx H3 y=>?_⟩
  ·rintro vs' H' ⟨R',ρ3,zs1,zs2,q0,q1,q2,q3,q4,q5⟩;exact⟨ds.length-(i+1),by omega,rfl,hlt,q0,R',ρ3,zs1,zs2,q1,q2,q3,q4,q5⟩
  ·obtain⟨R3,x3,r3⟩:=g2 x H3 y;have S3:=S2.ext x3;have B3:=S3.block hb;unfold q12 at e2;cases e3:fg ds[i] (q5b n js ρ2)with
   |none=>rw[e3]at e2;cases e2
   | some ρb1=>
    rw[e3]at e2;dsimp only at e2;refine hg _ _ _ _ _ x _ ρb1 _ B3 r3 e3 λσ4 S4 n4=>?_;have cap:∀p,bw=some p->σ4[p.2]? =σ[p.1]? :=λp e1=>by rw[n4 p.2 (hT p e1)];subst e1;unfold bwOk at hb;simp only[Bool.and_eq_true,decide_eq_true_eq]at hb;obtain⟨l,_,_,_,q2,_⟩:=S3.own p.1 (by simpa using hb.1.1.1);rw[q96 hb.1.1.2 hb.1.2 q2,q2]
    cases e4:ft ρb1 with
    |none=>rw[e4]at e2;cases e2
    | some c=>
     obtain⟨b,ρb2⟩:=c;rw[e4]at e2;refine ht _ σ4 H3 R3 ρb1 b ρb2 _ S4 e4 λH5 R5 S5 st5=>?_;cases b with
     | false=>
      dsimp only at e2;obtain⟨T1,T2⟩:=S3.back hb S5 st5 cap;exact iteF ⟨R5,_,ys1,ys2,by omega,T1,(st2.trans x3.stp).trans T2,(r2.mono x3.r).mono st5.r,e2,ey⟩
     | true=>
      dsimp only at e2;cases e5:fe ρb2 with
      |none=>rw[e5]at e2;cases e2
      | some c=>
       obtain⟨y0,ρb3⟩:=c;rw[e5]at e2;dsimp only at e2;cases e6:q12 n js bw fg ft fe (ds.drop (i+1)) (q50 bw ρ2 ρb3)with
       |none=>rw[e6]at e2;cases e2
       | some c=>
        obtain⟨zs,ρ6⟩:=c;rw[e6]at e2;dsimp only at e2;cases e2;refine iteT (he _ σ4 H5 R5 ρb2 y0 ρb3 _ S5 e5 λw H6 R6 S6 st6 r6=>?_);obtain⟨T1,T2⟩:=S3.back hb S6 (st5.trans st6) cap;refine⟨R6,_,ys1++[y0],zs,by rw[je];show vs.length+1<=i+1;omega,T1,(st2.trans x3.stp).trans T2,(((r2.mono x3.r).mono st5.r).mono st6.r).snoc r6,e6,?_⟩;rw[<-ey,List.append_assoc];rfl
 ·have ei:i=ds.length:=by omega
  subst ei;rw[List.drop_length]at e2;unfold q12 at e2;cases e2;rw[List.append_nil]at ey;subst ey;exact .inl ⟨o1 rfl,by omega,fin vs H2 R2 S2 st2 r2 (by omega)⟩
def q22(n:Nat)(js:List Nat)(bw:Option (Nat×Nat))(fi:RhL)(fg:RhG)(ft:RhB)(fe:RhD):RhL:=q1l fi λds ρ=>if ds.length<=sizeLine then q12 n js bw fg ft fe ds ρ else none
theorem q39{K:FrG}{O:List Nat}:MT K O tYes (mRet true):=λZ σ H R ρ b ρ' Q S e k=>by cases e;exact k H R S (Stp.refl _ _ _ _)
theorem q27{K:FrG}{O T:List Nat}{n:Nat}{js:List Nat}{bw:Option (Nat×Nat)}{wi:TI}{g:TG}{tt:TT}{te:TE}{fi:RhL}{fg:RhG}{ft:RhB}{fe:RhD}
 (hi:MI K O wi fi) (hg:MG K (bwO bw) T g fg) (ht:MT K (bwO bw) tt ft) (he:ME K (bwO bw) te fe) (hb:bwOk n js O bw=true:=by decide) (hT:∀p,bw=some p->p.2∉T:=by decide):MN K O (qij n js wi g tt te) (q22 n js bw fi fg ft fe):=λZ σ H R ρ ds ρ' Q S e k=>by
 obtain⟨xs,ρ1,e1,e⟩:=q09 e;split at e
 ·rename_i hz;refine hi Z σ H R ρ xs ρ1 _ S e1 λJ H1 R1 S1 st1 ok=>?_;refine qeq hb hg hT ht he S1 ok e hz λvs H2 R2 S2 st2 r2 l2 D nD=>?_;have x:=Ext.hid (o:=.lst vs) S2.sub nD;exact k D vs _ _ (S2.ext x) ((st1.trans st2).trans x.stp) ((st1.trans st2).new nD) q0u (S2.out nD) r2
 ·cases e
inductive Out where
 |nx (ρ:Rho)
 |rt (d:D) (ρ:Rho)
 |bk (ρ:Rho)
 |ct (ρ:Rho)
abbrev RhO:=Rho->Option Out
structure MC where
 K:PySem.W.Frag
 fr:Bool
 P:List Nat
 Ol:List Nat
def Res(K:FrG)(fr:Bool)(H:Hp)(v:V)(d:D)(H' R':Hp):Prop:=match fr with
 |false=>Rp K R' v d
 |true=>∃l vs ds,v=.ref l/\d=.lst ds/\H l=none/\H' l=some (.lst vs)/\R' l=none/\Rps K R' vs ds
def Ends.ok(c:MC)(Z:Anc)(O':List Nat)(R:Hp)(E:Ends):Out->Prop
 |.nx ρ'=>∀σ' H' R',StR c.K Z O' σ' H' R' ρ'->Same R R'->E.nx σ' H'
 |.bk ρ'=>∀σ' H' R',StR c.K Z c.Ol σ' H' R' ρ'->Same R R'->E.bk σ' H'
 |.ct ρ'=>∀σ' H' R',StR c.K Z c.Ol σ' H' R' ρ'->Same R R'->E.ct σ' H'
 |.rt d ρ'=>∀v σ' H' R',StR c.K Z c.P σ' H' R' ρ'->Res c.K c.fr Z.H0 v d H' R'->E.rt v H'
def MS(c:MC)(O O':List Nat)(t:TS)(f:RhO):Prop:=∀(Z:Anc) (E:Ends) (σ:St) (H R:Hp) (ρ:Rho) (o:Out),Z.P=c.P->StR c.K Z O σ H R ρ->f ρ=some o->E.ok c Z O' R o->t E σ H
def subO(c:MC)(O O':List Nat):Bool:=O'.all (λi=>O.contains i)&&c.P.all λi=>!O.contains i||O'.contains i
section
variable{c:MC}{O O' O1:List Nat}{t u:TS}{te:TE}{tt:TT}{g:TG}{f h:RhO}{fe:RhD}{fn:RhL}{ft:RhB}{fg:RhG}
theorem StR.sub'{Z:Anc}{σ:St}{H R:Hp}{ρ:Rho}(S:StR c.K Z O σ H R ρ)(hP:Z.P=c.P)(hs:subO c O O'=true):StR c.K Z O' σ H (frzR O O' σ H R) ρ/\Same R (frzR O O' σ H R):=by
 unfold subO at hs;simp only[Bool.and_eq_true,List.all_eq_true]at hs;refine S.freeze (λi hi=>by simpa using hs.1 i hi) λi hi hO=>?_;rw[hP]at hi;have z:=hs.2 i hi;simp only[Bool.or_eq_true]at z;rcases z with z|z
 ·simp at z;exact absurd hO z
 ·simpa using z
def sNil:RhO:=λρ=>some (.nx ρ)
theorem q2s(hs:subO c O O'=true):MS c O O' qpd sNil:=λZ E σ H R ρ o hP S e k=>by cases e;obtain⟨S',s⟩:=S.sub' hP hs;exact k σ H _ S' s
def sSeq(f h:RhO):RhO:=λρ=>match f ρ with
 |none=>none
 |some (.nx ρ1)=>h ρ1
 |some o=>some o
theorem q0f(h1:MS c O O1 t f)(h2:MS c O1 O' u h):MS c O O' (tSeq t u) (sSeq f h):=λZ E σ H R ρ o hP S e k=>by
 unfold sSeq at e;cases e1:f ρ with
 |none=>rw[e1]at e;cases e
 | some o1=>
  rw[e1]at e;cases o1 with
  | nx ρ1=>
   refine h1 Z _ σ H R ρ _ hP S e1 λσ' H' R' S' s'=>?_;refine h2 Z E σ' H' R' ρ1 o hP S' e ?_;cases o with
   |nx ρ'=>exact λσ2 H2 R2 S2 s2=>k σ2 H2 R2 S2 (s'.trans s2)
   |bk ρ'=>exact λσ2 H2 R2 S2 s2=>k σ2 H2 R2 S2 (s'.trans s2)
   |ct ρ'=>exact λσ2 H2 R2 S2 s2=>k σ2 H2 R2 S2 (s'.trans s2)
   |rt d ρ'=>exact k
  |bk ρ1=>cases e;exact h1 Z _ σ H R ρ _ hP S e1 k
  |ct ρ1=>cases e;exact h1 Z _ σ H R ρ _ hP S e1 k
  |rt d ρ1=>cases e;exact h1 Z _ σ H R ρ _ hP S e1 k
def sSet(i:Nat)(fe:RhD):RhO:=λρ=>match fe ρ with
 |none=>none
 |some (d,ρ1)=>some (.nx (ρ1.set i (some d)))
theorem q18{i:Nat}(he:ME c.K O te fe)(hs:subO c O O'=true:=by rfl)(hi:i∉O':=by decide):MS c O O' (tAsg te (q6m i)) (sSet i fe):=λZ E σ H R ρ o hP S e k=>by
 unfold sSet at e;cases e1:fe ρ with
 |none=>rw[e1]at e;cases e
 | some p=>
  obtain⟨d,ρ1⟩:=p;rw[e1]at e;cases e;refine he Z σ H R ρ d ρ1 _ S e1 λv H1 R1 S1 st1 r1=>?_;obtain⟨S2,s2⟩:=S1.sub' hP hs;exact k _ H1 _ (S2.set hi (r1.mono s2)) (st1.r.trans s2)
def sOwn(i:Nat)(fn:RhL):RhO:=λρ=>match fn ρ with
 |none=>none
 |some (ds,ρ1)=>if i<ρ1.length then some (.nx (ρ1.set i (some (.lst ds))))else none
def ownO(c:MC)(i:Nat)(O O':List Nat):Bool:=subO c O (O'.filter λj=>decide (j≠i))&&O'.contains i&& !c.P.contains i
theorem q3o{i:Nat}(he:MN c.K O te fn)(hs:ownO c i O O'=true):MS c O O' (tAsg te (q6m i)) (sOwn i fn):=λZ E σ H R ρ o hP S e k=>by
 unfold sOwn at e;unfold ownO at hs;simp only[Bool.and_eq_true]at hs;cases e1:fn ρ with
 |none=>rw[e1]at e;cases e
 | some p=>
  obtain⟨ds,ρ1⟩:=p;rw[e1]at e;dsimp only at e;split at e
  ·rename_i ze;cases e;refine he Z σ H R ρ ds ρ1 _ S e1 λl vs H1 R1 S1 st1 h0 hH hR r1=>?_;obtain⟨S2,s2⟩:=S1.sub' hP hs.1.1;have notown:∀j,j∈O->σ[j]? ≠some (some (.ref l)):=S.notnew h0;have hO':∀j,j∈O'.filter (λj=>decide (j≠i))->j∈O:=λj hj=>by
    have z:=hs.1.1;unfold subO at z;simp only[Bool.and_eq_true,List.all_eq_true]at z;simpa using z.1 j hj
   refine k _ H1 _ (S2.take (i:=i) (l:=l) (vs:=.lst vs) (ds:=.lst ds) (by simp) (by simpa using hs.1.2) (λj hj=>?_) (by rw[hP];simpa using hs.2) ze (S.new0 h0) hH ?_ (λj hj=>notown j (hO' j hj)) (λj hj=>(List.mem_filter.mp hj).1) (.lst (r1.mono s2))) (st1.r.trans s2)
   ·by_cases z:j=i
    ·exact .inl z
    ·exact .inr (List.mem_filter.mpr ⟨hj,by simpa using z⟩)
   ·unfold frzR;rw[if_neg ?_]
    ·exact hR
    ·rintro⟨j,hj,_,z⟩;exact notown j hj z
  ·cases e
def sAsg(fe:RhD)(fg:RhG):RhO:=λρ=>match fe ρ with
 |none=>none
 | some (d,ρ1)=>match fg d ρ1 with
  |none=>none
  |some ρ2=>some (.nx ρ2)
theorem qsf{T:List Nat}(he:ME c.K O te fe)(hs:subO c O O'=true)(hg:MG c.K O' T g fg):MS c O O' (tAsg te g) (sAsg fe fg):=λZ E σ H R ρ o hP S e k=>by
 unfold sAsg at e;cases e1:fe ρ with
 |none=>rw[e1]at e;cases e
 | some p=>
  obtain⟨d,ρ1⟩:=p;rw[e1]at e;dsimp only at e;cases e2:fg d ρ1 with
  |none=>rw[e2]at e;cases e
  | some ρ2=>
   rw[e2]at e;cases e;refine he Z σ H R ρ d ρ1 _ S e1 λv H1 R1 S1 st1 r1=>?_;obtain⟨S2,s2⟩:=S1.sub' hP hs;exact hg Z σ H1 _ ρ1 v d ρ2 _ S2 (r1.mono s2) e2 λσ' S3 _=>k σ' H1 _ S3 (st1.r.trans s2)
def sIf(ft:RhB)(f h:RhO):RhO:=λρ=>match ft ρ with
 |none=>none
 |some (b,ρ1)=>if b=true then f ρ1 else h ρ1
theorem q40(ht:MT c.K O tt ft)(h1:MS c O O' t f)(h2:MS c O O' u h):MS c O O' (tIfS tt t u) (sIf ft f h):=λZ E σ H R ρ o hP S e k=>by
 unfold sIf at e;cases e1:ft ρ with
 |none=>rw[e1]at e;cases e
 | some p=>
  obtain⟨b,ρ1⟩:=p;rw[e1]at e;dsimp only at e;refine ht Z σ H R ρ b ρ1 _ S e1 λH1 R1 S1 st1=>?_;have k':E.ok c Z O' R1 o:=by
   cases o with
   |nx ρ'=>exact λσ2 H2 R2 S2 s2=>k σ2 H2 R2 S2 (st1.r.trans s2)
   |bk ρ'=>exact λσ2 H2 R2 S2 s2=>k σ2 H2 R2 S2 (st1.r.trans s2)
   |ct ρ'=>exact λσ2 H2 R2 S2 s2=>k σ2 H2 R2 S2 (st1.r.trans s2)
   |rt d ρ'=>exact k
  cases b with
  |true=>exact iteT (h1 Z E σ H1 R1 ρ1 o hP S1 e k')
  |false=>exact iteF (h2 Z E σ H1 R1 ρ1 o hP S1 e k')
def sRet(fe:RhD):RhO:=λρ=>match fe ρ with
 |none=>none
 |some (d,ρ1)=>some (.rt d ρ1)
theorem q16(hf:c.fr=false)(he:ME c.K O te fe)(hs:subO c O c.P=true):MS c O O' (tRet te) (sRet fe):=λZ E σ H R ρ o hP S e k=>by
 unfold sRet at e;cases e1:fe ρ with
 |none=>rw[e1]at e;cases e
 | some p=>
  obtain⟨d,ρ1⟩:=p;rw[e1]at e;cases e;refine he Z σ H R ρ d ρ1 _ S e1 λv H1 R1 S1 st1 r1=>?_;obtain⟨S2,s2⟩:=S1.sub' hP hs;refine k v σ H1 _ S2 ?_;unfold Res;rw[hf];exact r1.mono s2
def qe2(fn:RhL):RhO:=λρ=>match fn ρ with
 |none=>none
 |some (ds,ρ1)=>some (.rt (.lst ds) ρ1)
theorem qgq(hf:c.fr=true)(he:MN c.K O te fn)(hs:subO c O c.P=true):MS c O O' (tRet te) (qe2 fn):=λZ E σ H R ρ o hP S e k=>by
 unfold qe2 at e;cases e1:fn ρ with
 |none=>rw[e1]at e;cases e
 | some p=>
  obtain⟨ds,ρ1⟩:=p;rw[e1]at e;cases e;refine he Z σ H R ρ ds ρ1 _ S e1 λl vs H1 R1 S1 st1 h0 hH hR r1=>?_;obtain⟨S2,s2⟩:=S1.sub' hP hs;refine k _ σ H1 _ S2 ?_;unfold Res;rw[hf];refine⟨l,vs,ds,rfl,rfl,S.new0 h0,hH,?_,r1.mono s2⟩;unfold frzR;rw[if_neg ?_]
  ·exact hR
  ·rintro⟨j,hj,_,z⟩;exact S.notnew h0 j hj z
theorem StR.drop{K:FrG}{Z:Anc}{σ:St}{H R:Hp}{ρ:Rho}{i:Nat}(S:StR K Z O σ H R ρ)(hO:∀j,j∈O'->j∈O/\j≠i)(hc:∀j,j∈O->j≠i->j∈O'):StR K Z O' σ H R (ρ.set i none):=by
 refine⟨S.sub,by rw[jx];exact S.len,λj d hj e=>?_,λj hj=>?_,λj k hj hk=>S.dis j k (hO j hj).1 (hO k hk).1,S.ah,S.ar,S.an,S.ad,λj hj=>S.ao j (hO j hj).1,λj hj=>S.ap j (hO j hj).1⟩
 ·by_cases z:i=j
  ·subst z;have hl:i<ρ.length:=by
    have:=(List.getElem?_eq_some_iff.mp e).1
    rwa [jx]at this
   rw[jw hl]at e;cases e
  ·rw[jc z]at e;exact S.env j d (λq=>hj (hc j q (Ne.symm z))) e
 ·obtain⟨l,vs,ds,h1,h2⟩:=S.own j (hO j hj).1;exact⟨l,vs,ds,by rw[jc (Ne.symm (hO j hj).2)];exact h1,h2⟩
def q5w(i:Nat):RhO:=λρ=>match ρ[i]? with
 |some (some (.lst xs))=>some (.rt (.lst xs) (ρ.set i none))
 |_=>none
theorem q77{i:Nat}(hf:c.fr=true)(hi:i∈O)(hs:subO c O (i::c.P)=true)(hp:i∉c.P):MS c O O' (tRet (tVar i)) (q5w i):=λZ E σ H R ρ o hP S e k=>by
 obtain⟨S2,s2⟩:=S.sub' hP hs;obtain⟨l,vs,ds,h1,h2,h3,h4,h5⟩:=S2.own i jg;unfold q5w at e;rw[h1]at e;have hd:∃xs,ds=.lst xs:=by
  cases h5 with
  |lst _=>exact⟨_,rfl⟩
  |_=>cases e
 obtain⟨xs,rfl⟩:=hd;cases e;refine⟨.ref l,h2,k _ σ H _ (S2.drop (i:=i) (O':=c.P) (λj hj=>⟨jh _ hj,λz=>hp (z▸hj)⟩) λj hj n=>?_) ?_⟩
 ·rcases List.mem_cons.mp hj with z|z
  ·exact absurd z n
  ·exact z
 ·unfold Res;rw[hf];cases h5 with
  |lst h5=>exact⟨l,_,_,rfl,rfl,S2.ao i jg (by rw[hP];exact hp) l h2,h3,h4,h5⟩
def sBk:RhO:=λρ=>some (.bk ρ)
theorem qjb(hs:subO c O c.Ol=true):MS c O O' qlc sBk:=λZ E σ H R ρ o hP S e k=>by cases e;obtain⟨S2,s2⟩:=S.sub' hP hs;exact k σ H _ S2 s2
theorem qcv{O O':List Nat}:MS c O O' ql8 (λ_=>none):=λZ E σ H R ρ o hP S e k=>by cases e
def q1p(fg:RhG)(fb:RhO):List D->RhO
 |[],ρ=>some (.nx ρ)
 | d::r,ρ=>match fg d ρ with
  |none=>none
  | some ρ1=>match fb ρ1 with
   |none=>none
   |some (.nx ρ2)=>q1p fg fb r ρ2
   |some (.ct ρ2)=>q1p fg fb r ρ2
   |some (.bk ρ2)=>some (.nx ρ2)
   |some (.rt d ρ2)=>some (.rt d ρ2)
def sFor(fi:RhL)(fg:RhG)(fb:RhO):RhO:=λρ=>match fi ρ with
 |none=>none
 |some (ds,ρ1)=>q1p fg fb ds ρ1
theorem q36{T:List Nat}{wi:TI}{fi:RhL}{tb:TS}{fb:RhO}(hi:MI c.K O wi fi)(hs:subO c O O'=true)(hg:MG c.K O' T g fg)(hb:MS {c with Ol:=O'} O' O' tb fb):MS c O O' (tFor wi g tb) (sFor fi fg fb):=λZ E σ H R ρ o hP S e k=>by
 unfold sFor at e;cases e1:fi ρ with
 |none=>rw[e1]at e;cases e
 | some p=>
  obtain⟨ds,ρ1⟩:=p;rw[e1]at e;dsimp only at e;refine hi Z σ H R ρ ds ρ1 _ S e1 λJ H1 R1 S1 st1 ok=>?_;obtain⟨S2,s2⟩:=S1.sub' hP hs;have ok2:=ok.mono s2;refine⟨λi m σ' H'=>m=ds.length-i/\i<=ds.length/\∃R' ρ',StR c.K Z O' σ' H' R' ρ'/\Same (frzR O O' σ H1 R1) R'/\q1p fg fb (ds.drop i) ρ'=some o,⟨ds.length,by simp,Nat.zero_le _,_,ρ1,S2,Same.refl _,by rw[List.drop_zero];exact e⟩,?_⟩;rintro i m σ' H' ⟨rfl,hi',R',ρ',S',s',e'⟩;obtain⟨o1,o2⟩:=ok2 H' R' s' S'.sub i;by_cases hlt:i<ds.length
  ·obtain⟨g1,g2⟩:=o2 ds[i] (jb hlt);rw[xr hlt]at e';refine .inr ⟨g1,λσ3 H3=>∃R3 ρ3,StR c.K Z O' σ3 H3 R3 ρ3/\Same (frzR O O' σ H1 R1) R3/\q1p fg fb (ds.drop (i+1)) ρ3=some o,?_,λx H3 y=>?_⟩
   ·rintro σ3 H3 ⟨R3,ρ3,q1,q2,q3⟩;exact⟨ds.length-(i+1),by omega,rfl,hlt,R3,ρ3,q1,q2,q3⟩
   ·obtain⟨R3,x3,r3⟩:=g2 x H3 y;have S3:=S'.ext x3;unfold q1p at e';cases e3:fg ds[i] ρ' with
    |none=>rw[e3]at e';cases e'
    | some ρ4=>
     rw[e3]at e';dsimp only at e';refine hg Z σ' H3 R3 ρ' x _ ρ4 _ S3 r3 e3 λσ4 S4 _=>?_;cases e4:fb ρ4 with
     |none=>rw[e4]at e';cases e'
     | some o4=>
           rw[e4]at e';refine hb Z _ σ4 H3 R3 ρ4 o4 hP S4 e4 ?_;cases o4 with
           |nx ρ5=>exact λσ5 H5 R5 S5 s5=>⟨R5,ρ5,S5,(s'.trans x3.r).trans s5,e'⟩
           |ct ρ5=>exact λσ5 H5 R5 S5 s5=>⟨R5,ρ5,S5,(s'.trans x3.r).trans s5,e'⟩
           | bk ρ5=>
            cases e';exact λσ5 H5 R5 S5 s5=>k σ5 H5 R5 S5 (((st1.r.trans s2).trans s').trans (x3.r.trans s5))
           | rt d ρ5=>
            cases e';exact k
  ·have ei:i=ds.length:=by omega
   subst ei;rw[List.drop_length]at e';unfold q1p at e';cases e';exact .inl ⟨o1 rfl,k σ' H' R' S' ((st1.r.trans s2).trans s')⟩
def q2d(ft:RhB)(fb:RhO):Nat->RhO
 |0,_=>none
 | n+1,ρ=>match ft ρ with
  |none=>none
  |some (false,ρ1)=>some (.nx ρ1)
  | some (true,ρ1)=>match fb ρ1 with
   |none=>none
   |some (.nx ρ2)=>q2d ft fb n ρ2
   |some (.ct ρ2)=>q2d ft fb n ρ2
   |some (.bk ρ2)=>some (.nx ρ2)
   |some (.rt d ρ2)=>some (.rt d ρ2)
theorem qcu{n:Nat}{tb:TS}{fb:RhO}(ht:MT c.K O' tt ft)(hs:subO c O O'=true)(hb:MS {c with Ol:=O'} O' O' tb fb):MS c O O' (ql7 tt tb) (q2d ft fb n):=λZ E σ H R ρ o hP S e k=>by
 obtain⟨S2,s2⟩:=S.sub' hP hs;refine⟨λm σ' H'=>∃R' ρ',StR c.K Z O' σ' H' R' ρ'/\Same (frzR O O' σ H R) R'/\q2d ft fb m ρ'=some o,⟨n,_,ρ,S2,Same.refl _,e⟩,?_⟩;rintro m σ' H' ⟨R',ρ',S',s',e'⟩;cases m with
 |zero=>cases e'
 | succ m=>
  unfold q2d at e';cases e1:ft ρ' with
  |none=>rw[e1]at e';cases e'
  | some p=>
   obtain⟨b,ρ1⟩:=p;rw[e1]at e';refine ht Z σ' H' R' ρ' b ρ1 _ S' e1 λH1 R1 S1 st1=>?_;cases b with
   | false=>
    dsimp only at e';cases e';exact iteF (k σ' H1 R1 S1 ((s2.trans s').trans st1.r))
   | true=>
    dsimp only at e';refine iteT ⟨λσ3 H3=>∃R3 ρ3,StR c.K Z O' σ3 H3 R3 ρ3/\Same (frzR O O' σ H R) R3/\q2d ft fb m ρ3=some o,λσ3 H3 q=>⟨m,Nat.lt_succ_self _,q⟩,?_⟩;cases e4:fb ρ1 with
    |none=>rw[e4]at e';cases e'
    | some o4=>
     rw[e4]at e';refine hb Z _ σ' H1 R1 ρ1 o4 hP S1 e4 ?_;cases o4 with
     |nx ρ5=>exact λσ5 H5 R5 S5 s5=>⟨R5,ρ5,S5,(s'.trans st1.r).trans s5,e'⟩
     |ct ρ5=>exact λσ5 H5 R5 S5 s5=>⟨R5,ρ5,S5,(s'.trans st1.r).trans s5,e'⟩
     | bk ρ5=>
           cases e';exact λσ5 H5 R5 S5 s5=>k σ5 H5 R5 S5 ((s2.trans s').trans (st1.r.trans s5))
     | rt d ρ5=>
           cases e';exact k
end
section
variable{c:MC}{O O':List Nat}{te ti:TE}{fe fi:RhD}{tr:TA}{fs:RhL}
def isL(ρ:Rho)(i:Nat):Bool:=match ρ[i]? with
 |some (some (.lst _))=>true
 |_=>false
theorem qly{K:FrG}{R:Hp}{ρ:Rho}{i:Nat}{o:HO}{d:D}(h:isL ρ i=true)(e:ρ[i]? =some (some d))(b:Ob K R o d):∃vs ds,o=.lst vs/\d=.lst ds/\Rps K R vs ds:=by
 unfold isL at h;rw[e]at h;cases b with
 |lst r=>exact⟨_,_,rfl,rfl,r⟩
 |_=>cases h
def sMut(g:List D->List D->Option (List D))(i:Nat)(fs:RhL):RhO:=λρ=>if isL ρ i=true then(match fs ρ with
 |none=>none
 | some (as,ρ1)=>match ρ1[i]? with
  | some (some (.lst xs))=>match g xs as with
   |some ys=>some (.nx (ρ1.set i (some (.lst ys))))
   |none=>none
  |_=>none)else none
def qud(K:FrG)(r:V->List V->Hp->VK->Prop)(g:List D->List D->Option (List D)):Prop:=∀(H R:Hp) (l:Addr) (xs:List V) (ds:List D) (vs:List V) (as bs:List D) (Q:VK),(∀a o,R a=some o->H a=some o)->H l=some (.lst xs)->R l=none->Rps K R xs ds->Rps K R vs as->g ds as=some bs->(∀ys,Rps K R ys bs->Q .non (upd H l (.lst ys)))->r (.ref l) vs H Q
theorem q86{r:V->List V->Hp->VK->Prop}{g:List D->List D->Option (List D)}{i:Nat}(hm:qud c.K r g)(hi:i∈O)(ha:MA c.K O tr fs)(hs:subO c O O'=true):MS c O O' (qf3 (tBM c.K "list" r (tVar i) tr)) (sMut g i fs):=λZ E σ H R ρ o hP S e k=>by
 unfold sMut at e;split at e
 case isFalse=>cases e
 rename_i hL;cases e1:fs ρ with
 |none=>rw[e1]at e;cases e
 | some p=>
  obtain⟨as,ρ1⟩:=p;rw[e1]at e;dsimp only at e;obtain⟨l,vs,ds,h1,h2,h3,h4,h5⟩:=S.own i hi;obtain⟨us,_,rfl,rfl,_⟩:=qly hL h1 h5;refine⟨.ref l,h2,.inl ⟨rfl,us,SqL.of h3⟩,ha Z σ H R ρ as ρ1 _ S e1 λws H1 R1 S1 st1 r1=>?_⟩;obtain⟨l',vs',ds',g1,g2,g3,g4,g5⟩:=S1.own i hi;rw[h2]at g2;cases g2;rw[g1]at e;cases g5 with
  |dct _=>cases e
  |dit _=>cases e
  |lst g5=>
  rename_i vs' ds';dsimp only at e;cases e2:g ds' as with
  |none=>rw[e2]at e;cases e
  | some ys=>
   rw[e2]at e;cases e;refine hm H1 R1 l vs' ds' ws as ys _ S1.sub g3 g4 g5 r1 e2 λzs rz=>?_;obtain⟨S2,s2⟩:=(S1.write hi h2 (.lst rz)).sub' hP hs;exact k σ _ _ S2 (st1.r.trans s2)
def q25:List D->List D->Option (List D):=λxs as=>match as with
 |[d]=>if xs.length<sizeLine then some (xs++[d])else none
 |_=>none
theorem q3z{K:FrG}:qud K qav q25:=λH R l xs ds vs as bs Q s h hr r ra e k=>by
 cases ra with
 |nil=>cases e
 | cons q t=>
  cases t with
  |cons _ _=>cases e
  | nil=>
   rename_i x d;have e':(if ds.length<sizeLine then some (ds++[d])else none)=some bs:=e;split at e'
   ·rename_i hz;cases e';exact⟨l,xs,x,rfl,rfl,h,by rw[r.length];exact hz,k _ (r.snoc q)⟩
   ·cases e'
def quf:List D->List D->Option (List D):=λxs as=>match as with
 |[.int 0,d]=>if xs.length<sizeLine then some (d::xs)else none
 |_=>none
def q4x(i:Nat)(fe fi:RhD):RhO:=λρ=>match fe ρ with
 |none=>none
 | some (d,ρ1)=>match fi ρ1 with
  | some (.int k,ρ2)=>match ρ2[i]? with
   | some (some (.lst xs))=>match ixN xs.length k with
    |some j=>some (.nx (ρ2.set i (some (.lst (xs.set j d)))))
    |none=>none
   |_=>none
  |_=>none
theorem qba{i:Nat}(hi:i∈O)(he:ME c.K O te fe)(hx:ME c.K O ti fi)(hs:subO c O O'=true):MS c O O' (tAsg te (gSub (tVar i) ti qqb)) (q4x i fe fi):=λZ E σ H R ρ o hP S e k=>by
 unfold q4x at e;cases e1:fe ρ with
 |none=>rw[e1]at e;cases e
 | some p=>
  obtain⟨d,ρ1⟩:=p;rw[e1]at e;dsimp only at e;cases e2:fi ρ1 with
  |none=>rw[e2]at e;cases e
  | some p=>
   obtain⟨x,ρ2⟩:=p;rw[e2]at e;refine he Z σ H R ρ d ρ1 _ S e1 λv H1 R1 S1 st1 r1=>?_;obtain⟨l,vs,ds,h1,h2,h3,h4,h5⟩:=S1.own i hi;refine⟨.ref l,h2,hx Z σ H1 R1 ρ1 x ρ2 _ S1 e2 λw H2 R2 S2 st2 r2=>?_⟩;obtain⟨l',vs',ds',g1,g2,g3,g4,g5⟩:=S2.own i hi;rw[h2]at g2;cases g2;cases r2 with
   | int j=>
    dsimp only at e;rw[g1]at e;cases g5 with
    |dct _=>cases e
    |dit _=>cases e
    |lst g5=>
    rename_i vs' ds';dsimp only at e;cases e3:ixN ds'.length j with
    |none=>rw[e3]at e;cases e
    | some m=>
     rw[e3]at e;cases e;refine⟨l,vs',j,m,rfl,rfl,g3,by rw[g5.length];exact e3,?_⟩;obtain⟨S3,s3⟩:=(S2.write hi h2 (.lst (g5.set (r1.mono st2.r) m))).sub' hP hs;exact k σ _ _ S3 ((st1.r.trans st2.r).trans s3)
   |_=>cases e
end
def runP(fr:Bool)(n N:Nat)(f:RhO)(ds:List D):Option D:=if ds.length=n then match f (ds.map some++List.replicate (N-n) none)with
 |some (.rt d _)=>some d
 |some (.nx _)=>if fr=true then none else some .non
 |_=>none
 else none
def spP(K:FrG)(fr:Bool)(n:Nat)(f:List D->Option D):Sp:=λvs H Q _=>vs.length=n/\∃R ds d,(∀a o,R a=some o->H a=some o)/\Rps K R vs ds/\f ds=some d/\∀v H' R',Ext H R H' R'->Res K fr H v d H' R'->Q v H'
theorem q6z{N:List Str}{vs:List V}{i:Nat}{v:V}(h:vs[i]? =some v):(start N vs)[i]? =some (some v):=by unfold start;have hi:i<vs.length:=(List.getElem?_eq_some_iff.mp h).1;rw[kf (by simpa using hi),j9,h];rfl
theorem q70{ds:List D}{m i:Nat}{d:D}(h:(ds.map some++List.replicate m none)[i]? =some (some d)):ds[i]? =some d:=by
 by_cases hi:i<ds.length
 ·rw[kf (by simpa using hi),j9]at h;cases q:ds[i]? with
  |none=>rw[q]at h;cases h
  |some e=>rw[q]at h;cases h;rfl
 ·rw[xq (by simpa using hi),xy]at h;split at h<;>cases h
theorem q0l{K:FrG}{fr:Bool}{n:Nat}{Nms:List Str}{O':List Nat}{t:TS}{f:RhO}{vs:List V}{H:Hp}{Q:VK}{E:XK}(hm:MS ⟨K,fr,[],[]⟩ [] O' t f)(h:spP K fr n (runP fr n Nms.length f) vs H Q E):t {nx:=λ_ H'=>Q .non H',rt:=Q} (start Nms vs) H:=by
 obtain⟨hn,R,ds,d,sub,r,e,k⟩:=h;unfold runP at e;split at e
 ·rename_i hl;have S:StR K ⟨H,R,λ_=>False,[]⟩ [] (start Nms vs) H R (ds.map some++List.replicate (Nms.length-n) none):=by
   refine⟨sub,?_,λi d _ q=>?_,λi hi=>absurd hi (by simp),λi j hi=>absurd hi (by simp),λa o q _=>q,Same.refl _,λa q=>.inl q,λa q=>.refl q,λi hi=>absurd hi (by simp),λi hi=>absurd hi (by simp)⟩
   ·unfold start;rw[je,je,j4,j4,jj,jj,hn,hl]
   ·obtain⟨v,h1,h2⟩:=r.get (q70 q);exact⟨v,q6z h1,h2⟩
  have ext:∀{O1:List Nat} {σ':St} {H' R':Hp} {ρ':Rho},StR K ⟨H,R,λ_=>False,[]⟩ O1 σ' H' R' ρ'->Ext H R H' R':=λS'=>⟨λa o q=>S'.ah a o q (λz=>z),S'.ar,S'.sub,S'.an⟩;cases e1:f (ds.map some++List.replicate (Nms.length-n) none)with
  |none=>rw[e1]at e;cases e
  | some o=>
   rw[e1]at e;refine hm _ _ _ _ _ _ o rfl S e1 ?_;cases o with
   | nx ρ'=>
    dsimp only at e;split at e
    ·cases e
    ·rename_i hf;cases e;refine λσ' H' R' S' _=>k .non H' R' (ext S') ?_;cases fr with
     |false=>exact .non
     |true=>exact absurd rfl hf
   |bk ρ'=>cases e
   |ct ρ'=>cases e
   | rt d' ρ'=>
    cases e;exact λv σ' H' R' S' q=>k v H' R' (ext S') q
 ·cases e
def runS(fr:Bool)(n N:Nat)(f:RhO)(xs ds:List D):Option (D×List D):=if ds.length+1=n then match f (some (.lst xs)::(ds.map some++List.replicate (N-n) none))with
 | some (.rt d ρ)=>(match (ρ[0]? :Option (Option D))with
  |some (some (D.lst ys))=>some (d,ys)
  |_=>none)
 | some (.nx ρ)=>if fr=true then none else(match (ρ[0]? :Option (Option D))with
  |some (some (D.lst ys))=>some (.non,ys)
  |_=>none)
 |_=>none
 else none
structure ExtS(l:Addr)(H R H' R':Hp):Prop where
 h:∀a o,a≠l->H a=some o->H' a=some o
 r:Same R R'
 s:∀a o,R' a=some o->H' a=some o
 n:∀a,R' a≠none->R a≠none∨Frh H a
 d:∀a,H a≠none->Liv H H' a
def spS(K:FrG)(fr:Bool)(n:Nat)(f:List D->List D->Option (D×List D)):Sp:=λvs H Q _=>vs.length=n/\∃l ws R us xs ds d ys,vs=.ref l::ws/\H l=some (.lst us)/\R l=none/\(∀a o,R a=some o->H a=some o)/\Rps K R us xs/\Rps K R ws ds/\f xs ds=some (d,ys)/\
 ∀v H' R' us',ExtS l H R H' R'->H' l=some (.lst us')->R' l=none->Rps K R' us' ys->Res K fr H v d H' R'->Q v H'
theorem qc0{K:FrG}{fr:Bool}{n:Nat}{Nms:List Str}{O':List Nat}{t:TS}{f:RhO}{vs:List V}{H:Hp}{Q:VK}{E:XK}(hm:MS ⟨K,fr,[0],[]⟩ [0] [0] t f)(h:spS K fr n (runS fr n Nms.length f) vs H Q E):t {nx:=λ_ H'=>Q .non H',rt:=Q} (start Nms vs) H:=by
 obtain⟨hn,l,ws,R,us,xs,ds,d,ys,rfl,hH,hR,sub,ru,r,e,k⟩:=h;unfold runS at e;split at e
 ·rename_i hl;have ln:ws.length+1=n:=by simpa using hn
  have S:StR K ⟨H,R,λa=>a=l,[0]⟩ [0] (start Nms (.ref l::ws)) H R (some (.lst xs)::(ds.map some++List.replicate (Nms.length-n) none)):=by
   have one:∀i,i∈[0]->i=0:=λi hi=>by simpa using hi
   refine⟨sub,?_,λi d hi q=>?_,λi hi=>?_,λi j hi hj z=>absurd ((one i hi).trans (one j hj).symm) z,λa o q _=>q,Same.refl _,λa q=>.inl q,λa q=>.refl q,λi hi z=>absurd hi z,λi hi _ a q=>?_⟩
   ·unfold start;simp only[List.map_cons,List.cons_append,List.length_cons,List.length_append,List.length_map,List.length_replicate];omega
   ·cases i with
    |zero=>exact absurd (by simp) hi
    | succ i=>
     rw[List.getElem?_cons_succ]at q;obtain⟨v,h1,h2⟩:=r.get (q70 q);exact⟨v,q6z (by rw[List.getElem?_cons_succ];exact h1),h2⟩
   ·cases one i hi;exact⟨l,.lst us,.lst xs,rfl,rfl,hH,hR,.lst ru⟩
   ·cases one i hi;have q':some (some (V.ref l))=some (some (V.ref a)):=q;cases q';rfl
  have ext:∀{σ':St} {H' R':Hp} {ρ':Rho},StR K ⟨H,R,λa=>a=l,[0]⟩ [0] σ' H' R' ρ'->ExtS l H R H' R'/\∃us' zs,ρ'[0]? =some (some zs)/\H' l=some us'/\R' l=none/\Ob K R' us' zs:=λ{σ' H' R' ρ'} S'=>by refine⟨⟨λa o n q=>S'.ah a o q n,S'.ar,S'.sub,S'.an,S'.ad⟩,?_⟩;obtain⟨l',us',zs,h1,h2,h3,h4,h5⟩:=S'.own 0 (by simp);have el:l'=l:=S'.ap 0 (by simp) (by simp) l' h2;subst el;exact⟨us',zs,h1,h3,h4,h5⟩
  cases e1:f (some (.lst xs)::(ds.map some++List.replicate (Nms.length-n) none))with
  |none=>rw[e1]at e;cases e
  | some o=>
   rw[e1]at e;refine hm _ _ _ _ _ _ o rfl S e1 ?_;cases o with
   | nx ρ'=>
    dsimp only at e;split at e
    ·cases e
    ·rename_i hf;refine λσ' H' R' S' _=>?_;obtain⟨x,us',zs,q1,q2,q3,q4⟩:=ext S';rw[q1]at e;cases q4 with
     |dct _=>cases e
     |dit _=>cases e
     |lst q4=>
     cases e;refine k .non H' R' _ x q2 q3 q4 ?_;cases fr with
     |false=>exact .non
     |true=>exact absurd rfl hf
   |bk ρ'=>cases e
   |ct ρ'=>cases e
   | rt d' ρ'=>
    dsimp only at e;refine λv σ' H' R' S' q=>?_;obtain⟨x,us',zs,q1,q2,q3,q4⟩:=ext S';rw[q1]at e;cases q4 with
    |dct _=>cases e
    |dit _=>cases e
    |lst q4=>
    cases e;exact k v H' R' _ x q2 q3 q4 q
 ·cases e
section
variable{K:FrG}{O:List Nat}{tr:TA}{fs:RhL}{E:XK}{n:Nat}
def q0k(f:List D->Option D)(fs:RhL):RhD:=q1l fs λds=>q2f (f ds)
def q1q(n:Nat)(f:List D->Option D):Prop:=∀ds d,f ds=some d->ds.length=n
theorem q1f{fr:Bool}{n N:Nat}{f:RhO}:q1q n (runP fr n N f):=λds d e=>by
 unfold runP at e;split at e
 ·assumption
 ·cases e
theorem q0i{f:List D->Option D}(hf:q1q n f)(h:MA K O tr fs):ME K O (qik (spP K false n f) [] E tr) (q0k f fs):=λZ σ H R ρ d ρ' Q S e k=>by obtain⟨ds,ρ1,e1,e⟩:=q09 e;obtain⟨e2,rfl⟩:=q0h e;refine h Z σ H R ρ ds _ _ S e1 λvs H1 R1 S1 st1 r1=>?_;show spP K false n f (vs++[]) H1 Q E;rw[List.append_nil];exact⟨by rw[r1.length];exact hf ds d e2,R1,ds,d,S1.sub,r1,e2,λv H2 R2 x q=>k v H2 R2 (S1.ext x) (st1.trans x.stp) q⟩
def qh2(o:Option D):Option (List D):=match o with
 |some (.lst ds)=>some ds
 |_=>none
def q1y(f:List D->Option D)(fs:RhL):RhL:=q1l fs λds=>q2f (qh2 (f ds))
theorem qeh{o:Option D}{ds:List D}(h:qh2 o=some ds):o=some (.lst ds):=by
 unfold qh2 at h;split at h
 ·cases h;rfl
 ·(first|obtain rfl:=h.isA rfl|cases h)
theorem q2x{f:List D->Option D}(hf:q1q n f)(h:MA K O tr fs):MN K O (qik (spP K true n f) [] E tr) (q1y f fs):=λZ σ H R ρ d ρ' Q S e k=>by obtain⟨ds,ρ1,e1,e⟩:=q09 e;obtain⟨e2,rfl⟩:=q0h e;have e3:=qeh e2;refine h Z σ H R ρ ds _ _ S e1 λvs H1 R1 S1 st1 r1=>?_;show spP K true n f (vs++[]) H1 Q E;rw[List.append_nil];refine⟨by rw[r1.length];exact hf ds _ e3,R1,ds,_,S1.sub,r1,e3,λv H2 R2 x q=>?_⟩;obtain⟨l,us,gs,rfl,e4,h0,hH,hR,r⟩:=q;cases e4;exact k l us H2 R2 (S1.ext x) (st1.trans x.stp) (st1.new h0) hH hR r
def q17(f:List D->List D->Option (D×List D))(i:Nat)(fs:RhL):RhD:=q1l fs λds ρ=>match ρ[i]? with
 | some (some (.lst xs))=>match f xs ds with
  |some (d,ys)=>some (d,ρ.set i (some (.lst ys)))
  |none=>none
 |_=>none
def qip(n:Nat)(f:List D->List D->Option (D×List D)):Prop:=∀xs ds r,f xs ds=some r->ds.length+1=n
theorem qle{fr:Bool}{n N:Nat}{f:RhO}:qip n (runS fr n N f):=λxs ds r e=>by
 unfold runS at e;split at e
 ·assumption
 ·cases e
theorem q2e{f:List D->List D->Option (D×List D)}{i:Nat}(hf:qip n f)(hi:i∈O)(h:MA K O tr fs):ME K O (qik (spS K false n f) [] E (q8l (tVar i) tr)) (q17 f i fs):=λZ σ H R ρ d ρ' Q S e k=>by
 obtain⟨ds,ρ1,e1,e⟩:=q09 e;obtain⟨l,vs0,ds0,h1,h2,h3,h4,h5⟩:=S.own i hi;refine⟨.ref l,h2,h Z σ H R ρ ds ρ1 _ S e1 λvs H1 R1 S1 st1 r1=>?_⟩;obtain⟨l',us,xs,g1,g2,g3,g4,g5⟩:=S1.own i hi;rw[h2]at g2;cases g2;rw[g1]at e;cases g5 with
 |dct _=>cases e
 |dit _=>cases e
 |lst g5=>
 rename_i us xs;dsimp only at e;cases e2:f xs ds with
 |none=>rw[e2]at e;cases e
 | some p=>
  obtain⟨d',ys⟩:=p;rw[e2]at e;cases e;show spS K false n f (.ref l::vs++[]) H1 Q E;rw[List.append_nil];refine⟨by rw[ji,r1.length];exact hf _ _ _ e2,l,vs,R1,us,xs,ds,d,ys,rfl,g3,g4,S1.sub,g5,r1,e2,λv H2 R2 us' x hH hR ru q=>?_⟩;have ze:i<ρ1.length:=(List.getElem?_eq_some_iff.mp g1).1;have st2:Stp O σ H1 R1 H2 R2:=⟨x.r,λa o e n=>x.h a o (λz=>by subst z;exact n i hi h2) e,x.n,x.d⟩;have other:∀j,j∈O->i≠j->∀m,σ[j]? =some (some (.ref m))->m≠l:=λj hj n m e z=>by subst z;exact S1.dis i j hi hj n m h2 e
  refine k v H2 R2 ⟨x.s,by rw[jx];exact S1.len,λj e hj q=>?_,λj hj=>?_,S1.dis,λa o e n=>?_,S1.ar.trans x.r,λa h=>?_,λa h=>(S1.ad a h).trans (x.d a (S1.ad a h).1),S1.ao,S1.ap⟩ (st1.trans st2) q
  ·have n:i≠j:=λz=>hj (z▸hi);rw[jc n]at q;obtain⟨w,q1,q2⟩:=S1.env j e hj q;exact⟨w,q1,q2.mono x.r⟩
  ·by_cases n:i=j
   ·subst n;exact⟨l,.lst us',.lst ys,by rw[jw ze],h2,hH,hR,.lst ru⟩
   ·obtain⟨m,vs',ds',q1,q2,q3,q4,q5⟩:=S1.own j hj;refine⟨m,vs',ds',by rw[jc n];exact q1,q2,x.h _ _ (other j hj n m q2) q3,?_,q5.mono x.r⟩;cases z:R2 m with
    |none=>rfl
    | some o=>
     rcases x.n m (by rw[z];exact λy=>nomatch y)with y|y
     ·exact absurd q4 y
     ·exact(q5.noF q3 y).elim
  ·have ne:a≠l:=λz=>by
    subst z;by_cases hp:i∈Z.P
    ·exact n (S1.ap i hi hp a h2)
    ·rw[S1.ao i hi hp a h2]at e;cases e
   exact x.h a o ne (S1.ah a o e n)
  ·rcases x.n a h with z|z
   ·exact S1.an a z
   ·exact .inr (z.back (S1.ad a))
end
def qqh(K:FrG):R2:=λx y H Q=>∃l b xs zs,x=.ref l/\y=.ref b/\SqL K H l xs/\SqL K H b zs/\xs.length+zs.length<=sizeLine/\∀p,H p=none->Q (.ref p) (upd H p (.lst (xs++zs)))
def qqg(K:FrG):R2:=λx y H Q=>∃a b xs ys,x=.ref a/\y=.ref b/\SqT K H a xs/\SqT K H b ys/\xs.length+ys.length<=sizeLine/\
 (xs=[]->Q (.ref b) H)/\(xs≠[]->ys=[]->Q (.ref a) H)/\(xs≠[]->ys≠[]->∀p,H p=none->Q (.ref p) (upd H p (.tup (xs++ys))))
section
variable{X:Cx}{K:FrG}
theorem qmw(hK:X.K=K):OpR X (binaryOp .Add) (qqh K):=by
 subst hK;intro z5 s σ H x y v u Q I rx ry h;obtain⟨l,b,xs,zs,rfl,rfl,hH,hB,hz,q⟩:=h
 (first|obtain rfl:=rx.isA rfl|cases rx)
 (first|obtain rfl:=ry.isA rfl|cases ry)
 obtain⟨its,r,pl,z⟩:=I.list hH;obtain⟨its2,r2,pl2,z2⟩:=I.list hB;obtain⟨⟨cls,dd,data,sl⟩,ho,hc,n,hd⟩:=pl.isList;obtain⟨⟨cls2,dd2,data2,sl2⟩,ho2,hc2,n2,hd2⟩:=pl2.isList;simp only at hc hd hc2 hd2;subst hc hd hc2 hd2;have e:its.toArray++its2.toArray=(its++its2).toArray:=by simp
 refine concat_meets ⟨_,ho,rfl⟩ ⟨_,ho2,rfl⟩ noFill_list_add seq_list_add PySem.F.slot_list_add PySem.F.entry_list_add (PySem.F.args_list_add_2 _ _) (list_addW l b its.toArray its2.toArray n n2 dd dd2 sl sl2 (by rw[jq,jq,<-r.length,<-r2.length];exact hz)) ⟨ho,ho2,?_⟩;rw[e];exact⟨.ref _,_,I.lnew (t':=s.toks) (r.append r2) (by rw[je];omega),rfl,q _ I.fresh⟩
theorem qmv(hK:X.K=K):OpR X (binaryOp .Add) (qqg K):=by
 subst hK;intro z5 s σ H x y v u Q I rx ry h;obtain⟨a,b,xs,ys,rfl,rfl,ha,hb,hz,q0,q1,q2⟩:=h
 (first|obtain rfl:=rx.isA rfl|cases rx)
 (first|obtain rfl:=ry.isA rfl|cases ry)
 obtain⟨its,r1,p1,_⟩:=I.tuple ha;obtain⟨its2,r2,p2,_⟩:=I.tuple hb;obtain⟨⟨cls,dd,data,sl⟩,ho,hc,n,hd⟩:=id p1;obtain⟨⟨cls2,dd2,data2,sl2⟩,ho2,hc2,n2,hd2⟩:=id p2;simp only at hc hd hc2 hd2;subst hc hd hc2 hd2;have e:its.toArray++its2.toArray=(its++its2).toArray:=by simp
 by_cases hv:its=[]
 ·exact concat_meets ⟨_,ho,rfl⟩ ⟨_,ho2,rfl⟩ noFill_tuple_add seq_tuple_add PySem.F.slot_tuple_add PySem.F.entry_tuple_add (PySem.F.args_tuple_add_2 _ _)
   (tuple_addW0 a b its.toArray its2.toArray n n2 dd dd2 sl sl2 (by simp[hv])) ⟨ho,ho2,⟨.ref b,H,I,rfl,q0 (r1.nil_iff.mp hv)⟩⟩
 ·have hx:xs≠[]:=λz=>hv (r1.nil_iff.mpr z);by_cases hw:its2=[]
  ·exact concat_meets ⟨_,ho,rfl⟩ ⟨_,ho2,rfl⟩ noFill_tuple_add seq_tuple_add PySem.F.slot_tuple_add PySem.F.entry_tuple_add (PySem.F.args_tuple_add_2 _ _)
    (tuple_addW1 a b its.toArray its2.toArray n n2 dd dd2 sl sl2 (by simpa using hv) (by simp[hw])) ⟨ho,ho2,⟨.ref a,H,I,rfl,q1 hx (r2.nil_iff.mp hw)⟩⟩
  ·refine concat_meets ⟨_,ho,rfl⟩ ⟨_,ho2,rfl⟩ noFill_tuple_add seq_tuple_add PySem.F.slot_tuple_add PySem.F.entry_tuple_add (PySem.F.args_tuple_add_2 _ _)
    (tuple_addW2 a b its.toArray its2.toArray n n2 dd dd2 sl sl2 (by simpa using hv) (by simpa using hw) (by rw[List.size_toArray,List.size_toArray,<-r1.length,<-r2.length];exact hz)) ⟨ho,ho2,?_⟩
   rw[e];refine⟨.ref s.heap.objs.size,_,I.laid (t':=s.toks) (o:=.tup (xs++ys)) (λb ob q=>j7 _ q) (j8 _) ?_,rfl,q2 hx (λw=>hw (r2.nil_iff.mpr w)) _ (I.hok.fresh (j8 _))⟩;exact⟨by rw[je];exact hz,_,r1.append r2,TupN.new _ _⟩
def qmh(K:FrG):R2:=λx y H Q=>rI0 (λi j=>.int (i+j)) x y H Q∨qqh K x y H Q∨qqg K x y H Q∨∃i j,x=.str i/\y=.str j/\i.length+j.length<=sizeLine/\Q (.str (i++j)) H
theorem q1u(hK:X.K=K):OpR X (binaryOp .Add) (qmh K):=op_add.or ((qmw hK).or ((qmv hK).or qe8))
end
section
variable{K:FrG}{O:List Nat}
def dAdd:D->D->Option D
 |.int i,.int j=>some (.int (i+j))
 |.lst xs,.lst ys=>if xs.length+ys.length<=sizeLine then some (.lst (xs++ys))else none
 |.tup xs,.tup ys=>if xs.length+ys.length<=sizeLine then some (.tup (xs++ys))else none
 |.str x,.str y=>if x.length+y.length<=sizeLine then some (.str (x++y))else none
 |_,_=>none
theorem q2m:OpG K (qmh K) dAdd:=λH R x y d e u Q s rx ry q k=>by
 unfold dAdd at q;split at q
 ·rename_i i j
  (first|obtain rfl:=q.isA rfl|cases q)
  (first|obtain rfl:=rx.isA rfl|cases rx)
  (first|obtain rfl:=ry.isA rfl|cases ry)
  exact .inl ⟨i,j,rfl,rfl,k _ H R (Ext.refl s) (.int _)⟩
 ·split at q
  ·rename_i hz
   (first|obtain rfl:=q.isA rfl|cases q)
   obtain⟨a1,xs,rfl,h,r⟩:=rx.isL;obtain⟨a2,ys,rfl,h2,r2⟩:=ry.isL;refine .inr (.inl ⟨_,_,_,_,rfl,rfl,Same.sqL s h,Same.sqL s h2,by rw[r.length,r2.length];exact hz,λp np=>?_⟩);have x:=Ext.new (o:=.lst (xs++ys)) s np;exact k _ _ _ x (.lst (SqL.of q0u) ((r.append r2).mono x.r))
  ·(first|obtain rfl:=q.isA rfl|cases q)
 ·split at q
  ·rename_i hz
   (first|obtain rfl:=q.isA rfl|cases q)
   obtain⟨a1,xs,rfl,h,r⟩:=rx.isT;obtain⟨a2,ys,rfl,h2,r2⟩:=ry.isT;refine .inr (.inr (.inl ⟨_,_,_,_,rfl,rfl,SqT.of (s _ _ h),SqT.of (s _ _ h2),by rw[r.length,r2.length];exact hz,λz=>?_,λ_ z=>?_,λ_ _ p np=>?_⟩))
   ·subst z
    (first|obtain rfl:=r.isA rfl|cases r)
    exact k _ H R (Ext.refl s) (.tup h2 r2)
   ·subst z
    (first|obtain rfl:=r2.isA rfl|cases r2)
    rw[List.append_nil]at k;exact k _ H R (Ext.refl s) (.tup h r)
   ·have x:=Ext.new (o:=.tup (xs++ys)) s np;exact k _ _ _ x (.tup q0u ((r.append r2).mono x.r))
  ·(first|obtain rfl:=q.isA rfl|cases q)
 ·rename_i i j;split at q
  ·rename_i hz
   (first|obtain rfl:=q.isA rfl|cases q)
   (first|obtain rfl:=rx.isA rfl|cases rx)
   (first|obtain rfl:=ry.isA rfl|cases ry)
   exact .inr (.inr (.inr ⟨i,j,rfl,rfl,hz,k _ H R (Ext.refl s) (.str _)⟩))
  ·(first|obtain rfl:=q.isA rfl|cases q)
 ·(first|obtain rfl:=q.isA rfl|cases q)
def OpN(K:FrG)(r:R2)(g:D->D->Option (List D)):Prop:=∀(H R:Hp) (x y:V) (d e:D) (us:List D) (Q:VK),(∀a o,R a=some o->H a=some o)->Rp K R x d->Rp K R y e->g d e=some us->(∀l vs,H l=none->Rps K R vs us->Q (.ref l) (upd H l (.lst vs)))->r x y H Q
def q7t(g:D->D->Option (List D))(fa fb:RhD):RhL:=q1l fa λx=>q1l fb λy=>q2f (g x y)
theorem qsg{ta tb:TE}{r:R2}{g:D->D->Option (List D)}{fa fb:RhD}(h:OpN K r g)(ha:ME K O ta fa)(hb:ME K O tb fb):MN K O (tOp r ta tb) (q7t g fa fb):=λZ σ H R ρ d ρ' Q S e k=>by obtain⟨x,ρ1,e1,e⟩:=q09 e;obtain⟨y,ρ2,e2,e⟩:=q09 e;obtain⟨e3,rfl⟩:=q0h e;refine ha Z σ H R ρ x ρ1 _ S e1 λv H1 R1 S1 st1 r1=>hb Z σ H1 R1 ρ1 y _ _ S1 e2 λw H2 R2 S2 st2 r2=>?_;refine h H2 R2 v w x y d Q S2.sub (r1.mono st2.r) r2 e3 λl vs hl rv=>?_;have x:=Ext.hid (o:=.lst vs) S2.sub hl;exact k l vs _ _ (S2.ext x) ((st1.trans st2).trans x.stp) ((st1.trans st2).new hl) q0u (S2.out hl) rv
def q7x:D->D->Option (List D)
 |.lst xs,.lst ys=>if xs.length+ys.length<=sizeLine then some (xs++ys)else none
 |_,_=>none
theorem qlm:OpN K (qmh K) q7x:=λH R x y d e u Q s rx ry q k=>by
 unfold q7x at q;split at q
 ·split at q
  ·rename_i hz
   (first|obtain rfl:=q.isA rfl|cases q)
   obtain⟨_,_,rfl,h,r⟩:=rx.isL;obtain⟨_,_,rfl,h2,r2⟩:=ry.isL;exact .inr (.inl ⟨_,_,_,_,rfl,rfl,Same.sqL s h,Same.sqL s h2,by rw[r.length,r2.length];exact hz,λp np=>k p _ np (r.append r2)⟩)
  ·(first|obtain rfl:=q.isA rfl|cases q)
 ·(first|obtain rfl:=q.isA rfl|cases q)
end
mutual
def D.toP:D->Option PyData
 |.non=>some .none
 |.bl b=>some (.bool b)
 |.int i=>some (.int i)
 |.str x=>some (.str x)
 |.lst xs=>(D.toPs xs).map PyData.list
 |.tup xs=>(D.toPs xs).map PyData.tuple
 |.obj _ _=>none
 |.dct _=>none
 |.exc _=>none
 |.fn _=>none
 |.dit _=>none
def D.toPs:List D->Option (List PyData)
 |[]=>some []
 | d::r=>match D.toP d,D.toPs r with
  |some p,some ps=>some (p::ps)
  |_,_=>none
end
section
variable{K:FrG}{O:List Nat}{R:Hp}
theorem qu2(p:PyData)(e:D.toP .non=some p):DV K R .non p:=by simp only[D.toP]at e;cases e;exact .non
theorem qwa(b:Bool)(p:PyData)(e:D.toP (.bl b)=some p):DV K R (.bl b) p:=by simp only[D.toP]at e;cases e;exact .bl b
theorem qu4(b:Int)(p:PyData)(e:D.toP (.int b)=some p):DV K R (.int b) p:=by simp only[D.toP]at e;cases e;exact .int b
theorem qu1(b:Str)(p:PyData)(e:D.toP (.str b)=some p):DV K R (.str b) p:=by simp only[D.toP]at e;cases e;exact .str b
theorem qu3{a:Addr}{xs:List V}{ds:List D}{p:PyData}(h:SqL K R a xs)(r:∀ps,D.toPs ds=some ps->DVs K R xs ps)(e:D.toP (.lst ds)=some p):DV K R (.ref a) p:=by
 simp only[D.toP]at e;cases z:D.toPs ds with
 |none=>rw[z]at e;cases e
 |some ps=>rw[z]at e;cases e;exact .lst h (r _ z)
theorem qu0{a:Addr}{xs:List V}{ds:List D}{p:PyData}(h:R a=some (.tup xs))(r:∀ps,D.toPs ds=some ps->DVs K R xs ps)(e:D.toP (.tup ds)=some p):DV K R (.ref a) p:=by
 simp only[D.toP]at e;cases z:D.toPs ds with
 |none=>rw[z]at e;cases e
 |some ps=>rw[z]at e;cases e;exact .tup (SqT.of h) (r _ z)
theorem qob(ps:List PyData)(e:D.toPs []=some ps):DVs K R [] ps:=by simp only[D.toPs]at e;cases e;exact .nil
theorem qk7{x:V}{xs:List V}{d:D}{ds:List D}{ps:List PyData}(h:∀p,d.toP=some p->DV K R x p)(r:∀ps,D.toPs ds=some ps->DVs K R xs ps)(e:D.toPs (d::ds)=some ps):DVs K R (x::xs) ps:=by
 simp only[D.toPs]at e;cases z:d.toP with
 |none=>rw[z]at e;cases e
 | some p=>
  cases w:D.toPs ds with
  |none=>rw[z,w]at e;cases e
  |some qs=>rw[z,w]at e;cases e;exact .cons (h _ z) (r _ w)
theorem Rp.dv{v:V}{d:D}{p:PyData}(h:Rp K R v d)(e:d.toP=some p):DV K R v p:=
 Rp.rec (motive_1:=λv d _=>∀p,d.toP=some p->DV K R v p) (motive_2:=λxs ds _=>∀ps,D.toPs ds=some ps->DVs K R xs ps) (motive_3:=λ_ _ _=>True) (motive_4:=λ_ _ _=>True) (motive_5:=λ_ _ _=>True)
  qu2 qwa qu4 qu1 (λh _ r _=>qu3 h r) (λh _ r _=>qu0 h r) (λ_ _ _ _ _ e=>by simp only[D.toP]at e;cases e) (λ_ _ _ _ e=>by simp only[D.toP]at e;cases e) (λ_ _ _ _ e=>by simp only[D.toP]at e;cases e) (λ_ _ _ _ e=>by simp only[D.toP]at e;cases e) (λ_ _ e=>by simp only[D.toP]at e;cases e)
  qob (λ_ _ h r _=>qk7 h r) trivial (λ_ _ _ _=>trivial) trivial (λ_ _ _ _=>trivial) trivial (λ_ _ _ _=>trivial) h _ e
def eqD(d e:D):Option Bool:=match d.toP,e.toP with
 |some p,some q=>if SeqAt.shaped p=true/\SeqAt.shaped q=true then some (PyData.eqv p q)else none
 |_,_=>none
def dEq(d e:D):Option D:=(eqD d e).map .bl
def dNe(d e:D):Option D:=(eqD d e).map λb=>.bl (!b)
theorem qd8{d e:D}{b:Bool}(h:eqD d e=some b):∃p q,d.toP=some p/\e.toP=some q/\SeqAt.shaped p=true/\SeqAt.shaped q=true/\PyData.eqv p q=b:=by
 unfold eqD at h;cases h1:d.toP with
 |none=>rw[h1]at h;cases h
 | some p=>
  cases h2:e.toP with
  |none=>rw[h1,h2]at h;cases h
  | some q=>
   rw[h1,h2]at h;dsimp only at h;split at h
   ·rename_i z;exact⟨p,q,rfl,rfl,z.1,z.2,ja h⟩
   ·(first|obtain rfl:=h.isA rfl|cases h)
theorem os_eq:OpS K (rEqD K) dEq:=λH x y d e u Q rx ry q k=>by
 unfold dEq at q;cases h:eqD d e with
 |none=>rw[h]at q;cases q
 | some b=>
  rw[h]at q
  (first|obtain rfl:=q.isA rfl|cases q)
  obtain⟨p,r,h1,h2,h3,h4,h5⟩:=qd8 h;refine⟨p,r,rx.dv h1,ry.dv h2,h3,h4,?_⟩;rw[h5];exact k _ (.bl _)
theorem qe7:OpS K (rNeD K) dNe:=λH x y d e u Q rx ry q k=>by
 unfold dNe at q;cases h:eqD d e with
 |none=>rw[h]at q;cases q
 | some b=>
  rw[h]at q
  (first|obtain rfl:=q.isA rfl|cases q)
  obtain⟨p,r,h1,h2,h3,h4,h5⟩:=qd8 h;refine⟨p,r,rx.dv h1,ry.dv h2,h3,h4,?_⟩;rw[h5];exact k _ (.bl _)
def dIsN(d e:D):Option D:=match e with
 |.non=>some (.bl (match d with|.non=>true|_=>false))
 |_=>none
def q5a(d e:D):Option D:=match e with
 |.non=>some (.bl (match d with|.non=>false|_=>true))
 |_=>none
theorem qlk:OpS K (λx y H Q=>y=.non/\Q (.bl (decide (x=.non))) H) dIsN:=λH x y d e u Q rx ry q k=>by
 (first|split at q|(unfold dIsN at q;split at q))
 ·obtain rfl:=ry.isA rfl;refine⟨rfl,?_⟩;cases rx<;>(cases q;exact k _ (.bl _))
 ·cases q
theorem qb6:OpS K (λx y H Q=>y=.non/\Q (.bl (!decide (x=.non))) H) q5a:=λH x y d e u Q rx ry q k=>by
 (first|split at q|(unfold q5a at q;split at q))
 ·obtain rfl:=ry.isA rfl;refine⟨rfl,?_⟩;cases rx<;>(cases q;exact k _ (.bl _))
 ·cases q
end
section
variable{K:FrG}{O:List Nat}{t ta tb tc:TE}{tr:TA}{fa fb fc:RhD}{fs:RhL}
def qp3(K:FrG)(r:List V->Hp->VK->Prop)(g:D->Option D):Prop:=∀(H R:Hp) (x:V) (d u:D) (Q:VK),(∀a o,R a=some o->H a=some o)->Rp K R x d->g d=some u->(∀v H' R',Ext H R H' R'->Rp K R' v u->Q v H')->r [x] H Q
theorem q4u{r:List V->Hp->VK->Prop}{g:D->Option D}(h:qp3 K r g)(ha:ME K O t fa):ME K O (tCB r (q8l t tNil)) (mOp1 g fa):=λZ σ H R ρ d ρ' Q S e k=>by obtain⟨x,ρ1,e1,e⟩:=q09 e;obtain⟨e2,rfl⟩:=q0h e;refine ha Z σ H R ρ x _ _ S e1 λv H1 R1 S1 st1 r1=>?_;exact h H1 R1 v x d Q S1.sub r1 e2 λw H2 R2 x2 r2=>k w H2 R2 (S1.ext x2) (st1.trans x2.stp) r2
def que(K:FrG)(r:List V->Hp->VK->Prop)(g:D->Option (List D)):Prop:=∀(H R:Hp) (x:V) (d:D) (us:List D) (Q:VK),(∀a o,R a=some o->H a=some o)->Rp K R x d->g d=some us->(∀l vs,H l=none->Rps K R vs us->Q (.ref l) (upd H l (.lst vs)))->r [x] H Q
def q7d(g:D->Option (List D))(f:RhD):RhL:=q1l f λx=>q2f (g x)
theorem q8w{r:List V->Hp->VK->Prop}{g:D->Option (List D)}(h:que K r g)(ha:ME K O t fa):MN K O (tCB r (q8l t tNil)) (q7d g fa):=λZ σ H R ρ d ρ' Q S e k=>by obtain⟨x,ρ1,e1,e⟩:=q09 e;obtain⟨e2,rfl⟩:=q0h e;refine ha Z σ H R ρ x _ _ S e1 λv H1 R1 S1 st1 r1=>?_;refine h H1 R1 v x d Q S1.sub r1 e2 λl vs hl rv=>?_;have y:=Ext.hid (o:=.lst vs) S1.sub hl;exact k l vs _ _ (S1.ext y) (st1.trans y.stp) (st1.new hl) q0u (S1.out hl) rv
def dSeq:D->Option (List D)
 |.lst xs=>some xs
 |.tup xs=>some xs
 |_=>none
theorem qbq:que K (λxs H Q=>∃p ys,xs=[.ref p]/\(SqL K H p ys∨SqT K H p ys)/\∀l,H l=none->Q (.ref l) (upd H l (.lst ys))) dSeq:=λH R x d us Q s r e k=>by
 (first|split at e|(unfold dSeq at e;split at e))
 ·obtain⟨_,_,rfl,h,q⟩:=r.isL;cases e;exact⟨_,_,rfl,.inl (Same.sqL s h),λl hl=>k l _ hl q⟩
 ·obtain⟨_,_,rfl,h,q⟩:=r.isT;cases e;exact⟨_,_,rfl,.inr (SqT.of (s _ _ h)),λl hl=>k l _ hl q⟩
 ·cases e
def q4g:D->Option D
 |.lst xs=>some (.tup xs)
 |.tup xs=>some (.tup xs)
 |_=>none
theorem q5t:qp3 K (λxs H Q=>∃p ys,xs=[.ref p]/\((SqL K H p ys/\∀l,H l=none->Q (.ref l) (upd H l (.tup ys)))∨(SqT K H p ys/\Q (.ref p) H))) q4g:=λH R x d u Q s r e k=>by
 cases r with
 | lst h q=>
  cases e;refine⟨_,_,rfl,.inl ⟨Same.sqL s h,λl hl=>?_⟩⟩;rename_i a xs ds;have y:=Ext.new (o:=.tup xs) s hl;exact k _ _ _ y (.tup q0u (q.mono y.r))
 |tup h q=>cases e;exact⟨_,_,rfl,.inr ⟨SqT.of (s _ _ h),k _ H R (Ext.refl s) (.tup h q)⟩⟩
 |_=>cases e
def MO(K:FrG)(O:List Nat)(t:TO)(f:Rho->Option (Option Int×Rho)):Prop:=∀(Z:Anc) (σ:St) (H R:Hp) (ρ:Rho) (o:Option Int) (ρ':Rho) (Q:Option Int->Hp->Prop),StR K Z O σ H R ρ->f ρ=some (o,ρ')->(∀H' R',StR K Z O σ H' R' ρ'->Stp O σ H R H' R'->Q o H')->t σ H Q
theorem q4c:MO K O qf2 (mRet none):=λZ σ H R ρ o ρ' Q S e k=>by cases e;exact k H R S (Stp.refl _ _ _ _)
def q29(f:RhD):Rho->Option (Option Int×Rho):=q1l f λd=>q2f (match d with
 |.int i=>some (some i)
 |_=>none)
theorem q3j(h:ME K O t fa):MO K O (qpb t) (q29 fa):=λZ σ H R ρ o ρ' Q S e k=>by
 obtain⟨x,ρ1,e1,e⟩:=q09 e;obtain⟨e2,rfl⟩:=q0h e;refine h Z σ H R ρ x _ _ S e1 λv H1 R1 S1 st1 r1=>?_
 (first|split at e2)
 ·rename_i i;obtain rfl:=r1.isA rfl;cases e2;exact⟨i,rfl,k H1 R1 S1 st1⟩
 ·cases e2
def cutD(xs:List D)(lo hi:Option Int):List D:=(xs.drop (HT.sIx xs.length 0 lo)).take (HT.sIx xs.length xs.length hi-HT.sIx xs.length 0 lo)
theorem Rps.cut{R:Hp}{xs:List V}{ds:List D}(r:Rps K R xs ds)(lo hi:Option Int):Rps K R (cutV xs lo hi) (cutD ds lo hi):=by unfold cutV cutD;rw[r.length];exact(r.drop _).take _
def rSlG(K:FrG):V->Option Int->Option Int->Hp->VK->Prop:=λx lo hi H Q=>rSlL K x lo hi H Q∨rSlT K x lo hi H Q
theorem q3t{X:Cx}(h:X.K=K):SlR X (rSlG K):=by subst h;exact sl_list.or qpn
def dSl(d:D)(lo hi:Option Int):Option D:=match d with
 |.lst xs=>some (.lst (cutD xs lo hi))
 |.tup xs=>if HT.sIx xs.length 0 lo=0/\HT.sIx xs.length xs.length hi=xs.length then none else some (.tup (cutD xs lo hi))
 |_=>none
def mSl(f:RhD)(fl fh:Rho->Option (Option Int×Rho)):RhD:=q1l f λd=>q1l fl λlo=>q1l fh λhi=>q2f (dSl d lo hi)
theorem q35{tl th:TO}{fl fh:Rho->Option (Option Int×Rho)}(h:ME K O t fa)(hl:MO K O tl fl)(hh:MO K O th fh):ME K O (tSl (rSlG K) t tl th) (mSl fa fl fh):=λZ σ H R ρ d ρ' Q S e k=>by
 obtain⟨x,ρ1,e1,e⟩:=q09 e;obtain⟨lo,ρ2,e2,e⟩:=q09 e;obtain⟨hi,ρ3,e3,e⟩:=q09 e;obtain⟨e4,rfl⟩:=q0h e;refine h Z σ H R ρ x _ _ S e1 λv H1 R1 S1 st1 r1=>hl Z σ H1 R1 ρ1 lo _ _ S1 e2 λH2 R2 S2 st2=>hh Z σ H2 R2 ρ2 hi _ _ S2 e3 λH3 R3 S3 st3=>?_;have r3:=(r1.mono st2.r).mono st3.r;have st:=(st1.trans st2).trans st3;cases r3 with
 | @lst a xs ds q r=>
  cases e4;refine .inl ⟨a,xs,rfl,Same.sqL S3.same q,λp np=>?_⟩;have y:=Ext.new (o:=.lst (cutV xs lo hi)) S3.sub np;exact k _ _ _ (S3.ext y) (st.trans y.stp) (.lst (SqL.of q0u) ((r.cut lo hi).mono y.r))
 | @tup a xs ds q r=>
  have e5:(if HT.sIx ds.length 0 lo=0/\HT.sIx ds.length ds.length hi=ds.length then none else some (D.tup (cutD ds lo hi)))=some d:=e4;split at e5
  ·cases e5
  ·rename_i hn;cases e5;refine .inr ⟨a,xs,rfl,SqT.of (S3.same _ _ q),by rw[r.length];exact hn,λp np=>?_⟩;have y:=Ext.new (o:=.tup (cutV xs lo hi)) S3.sub np;exact k _ _ _ (S3.ext y) (st.trans y.stp) (.tup q0u ((r.cut lo hi).mono y.r))
 |_=>cases e4
def q87(g g':D->D->Option D)(fa fb fc:RhD):RhD:=q1l fa λx=>q1l fb λy=>q1l (q0q (q2f (g x y))) λb=>if b=true then q1l fc λz=>q2f (g' y z)else mRet (.bl false)
theorem qje{r r':R2}{g g':D->D->Option D}(h:OpS K r g)(h':OpS K r' g')(ha:ME K O ta fa)(hb:ME K O tb fb)(hc:ME K O tc fc):ME K O (qlb r r' ta tb tc) (q87 g g' fa fb fc):=λZ σ H R ρ d ρ' Q S e k=>by
 obtain⟨x,ρ1,e1,e⟩:=q09 e;obtain⟨y,ρ2,e2,e⟩:=q09 e;obtain⟨b,ρ3,e3,e⟩:=q09 e;obtain⟨u,ρ4,f3,e4⟩:=q09 e3;obtain⟨g3,rfl⟩:=q0h f3;obtain⟨g4,rfl⟩:=q0h e4;refine ha Z σ H R ρ x _ _ S e1 λv H1 R1 S1 st1 r1=>hb Z σ H1 R1 ρ1 y _ _ S1 e2 λw H2 R2 S2 st2 r2=>?_;refine h H2 v w x y u _ ((r1.mono st2.r).mono S2.same) (r2.mono S2.same) g3 λz q=>?_;cases q with
 | bl c=>
  cases g4;refine⟨_,rfl,?_⟩;cases b with
  | true=>
   obtain⟨z,ρ5,e5,f⟩:=q09 e;obtain⟨e6,rfl⟩:=q0h f;refine iteT (hc Z σ H2 R2 _ z _ _ S2 e5 λw' H3 R3 S3 st3 r3=>?_);exact h' H3 w w' y z d Q ((r2.mono st3.r).mono S3.same) (r3.mono S3.same) e6 λv' q'=>k v' H3 R3 S3 ((st1.trans st2).trans st3) q'.rp
  |false=>cases e;exact iteF (k _ H2 R2 S2 (st1.trans st2) (.bl false))
 |_=>cases g4
theorem q7q{g:Int->Int->Bool}:OpS K (rI0 λi j=>.bl (g i j)) (dB0 g):=λH x y d e u Q rx ry q k=>by
 unfold dB0 at q;split at q
 ·rename_i i j
  (first|obtain rfl:=q.isA rfl|cases q)
  (first|obtain rfl:=rx.isA rfl|cases rx)
  (first|obtain rfl:=ry.isA rfl|cases ry)
  exact⟨i,j,rfl,rfl,k _ (.bl _)⟩
 ·(first|obtain rfl:=q.isA rfl|cases q)
def qvz(f:RhL):RhD:=q1l f λds=>q2f (match ds with
 |[.int i,.int j]=>if 0<j/\j<1073741824 then some (.tup [.int (i / j),.int (i % j)])else none
 |_=>none)
def mMM(g:Int->Int->Int)(f:RhL):RhD:=q1l f λds=>q2f (match ds with
 |[.int i,.int j]=>some (.int (g i j))
 |_=>none)
theorem qso{g:Int->Int->Int}(h:MA K O tr fs):ME K O (tCB (λxs H Q=>∃i j,xs=[.int i,.int j]/\Q (.int (g i j)) H) tr) (mMM g fs):=λZ σ H R ρ d ρ' Q S e k=>by
 obtain⟨xs,ρ1,e1,e⟩:=q09 e;obtain⟨e2,rfl⟩:=q0h e;refine h Z σ H R ρ xs _ _ S e1 λvs H1 R1 S1 st1 r1=>?_;split at e2
 ·rename_i i j;cases e2;obtain⟨_,_,rfl,q,r⟩:=r1.isC
  (first|obtain rfl:=q.isA rfl|cases q)
  cases r with
  | cons q r=>
   (first|obtain rfl:=q.isA rfl|cases q)
   (first|obtain rfl:=r.isA rfl|cases r)
   exact⟨i,j,rfl,k _ H1 R1 S1 st1 (.int _)⟩
 ·cases e2
def qt9(K:FrG)(ta:TA):TI:=λσ H R=>(iZip K true true ta σ H R∨iZip K true false ta σ H R)∨(iZip K false true ta σ H R∨iZip K false false ta σ H R)
theorem q74{X:Cx}{a b:Expr}{ta:TA}{p pos:Pos}{zp:List Expr}{x1:Nat}{tp:Pos}(hK:X.K=K)(hg:Gl X "zip")(hm:X.mg "zip"=none)(ha:PA X [a,b] ta)(he:starEach [a,b] X.env=(false,eval a X.env)::starEach [b] X.env:=by rfl)(hpl:(backTo pos (starEach [b] X.env)).any (·.1)=false:=by rfl):
 PI X (.Tuple zp x1 tp) (.Call (.Name "zip" p) [a,b] [] pos) (qt9 K ta):=λz5 s σ H R I q=>by
 rcases q with(q|q)|(q|q)
 ·exact qca true true hK hg hm ha he hpl z5 s σ H R I q
 ·exact qca true false hK hg hm ha he hpl z5 s σ H R I q
 ·exact qca false true hK hg hm ha he hpl z5 s σ H R I q
 ·exact qca false false hK hg hm ha he hpl z5 s σ H R I q
def zipD(xs ys:List D):List D:=List.zipWith (λx y=>D.tup [x,y]) xs ys
def mZip(f:RhL):RhL:=q1l f λds=>q2f (match ds with
 | [x,y]=>match dSeq x,dSeq y with
  |some xs,some ys=>some (zipD xs ys)
  |_,_=>none
 |_=>none)
theorem SqB.inj_same{K:FrG}{b:Bool}{R H:Hp}{p:Addr}{xs:List V}(s:Same R H)(h:SqB K b R p xs):SqB K b H p xs:=by
 cases b
 ·exact Same.tup s h
 ·exact Same.sqL s h
theorem qt5{R:Hp}{b1 b2:Bool}{p1 p2:Addr}{xs ys:List V}{ds es:List D}(h1:SqB K b1 R p1 xs)(h2:SqB K b2 R p2 ys)(r1:Rps K R xs ds)(r2:Rps K R ys es):ItOk K (Itz K b1 b2 p1 p2) R (zipD ds es):=λH' R' s b i=>by
 have q1:=(SqB.inj_same s h1);have q2:=(SqB.inj_same s h2);have g1:=(SqB.inj_same b q1);have g2:=(SqB.inj_same b q2);have len:(zipD ds es).length=min ds.length es.length:=by simp[zipD]
 have l1:=r1.length;have l2:=r2.length;refine⟨λe=>⟨xs,ys,g1,g2,by omega⟩,λd e=>?_⟩;unfold zipD at e;rw[List.getElem?_zipWith]at e;cases e1:ds[i]? with
 |none=>rw[e1]at e;cases e
 | some d1=>
  cases e2:es[i]? with
  |none=>rw[e1,e2]at e;cases e
  | some d2=>
   rw[e1,e2]at e;cases e;obtain⟨v1,a1,a2⟩:=r1.get e1;obtain⟨v2,c1,c2⟩:=r2.get e2;refine⟨⟨xs,ys,v1,v2,g1,g2,a1,c1⟩,λx H'' y=>?_⟩;obtain⟨T,x1,y1,rfl,hT,rfl,z1,z2⟩:=y;have w1:=z1 xs g1;have w2:=z2 ys g2;rw[a1]at w1;rw[c1]at w2;cases w1;cases w2;have y:=Ext.new (o:=.tup [v1,v2]) b hT;exact⟨_,y,.tup q0u (.cons ((a2.mono s).mono y.r) (.cons ((c2.mono s).mono y.r) .nil))⟩
theorem qaa{x:D}{ds:List D}(h:dSeq x=some ds):x=.lst ds∨x=.tup ds:=by
 unfold dSeq at h;split at h
 ·cases h;exact .inl rfl
 ·cases h;exact .inr rfl
 ·(first|obtain rfl:=h.isA rfl|cases h)
theorem q9y(h:MA K O tr fs):MI K O (qt9 K tr) (mZip fs):=λZ σ H R ρ ds ρ' Q S e k=>by
 obtain⟨xs,ρ1,e1,e⟩:=q09 e;obtain⟨e2,rfl⟩:=q0h e;have go:∀(b1 b2:Bool) (x y:D) (as bs:List D),xs=[x,y]->ds=zipD as bs->(∀(R1:Hp) (v:V),Rp K R1 v x->∃p vs,v=.ref p/\SqB K b1 R1 p vs/\Rps K R1 vs as)->(∀(R1:Hp) (v:V),Rp K R1 v y->∃p vs,v=.ref p/\SqB K b2 R1 p vs/\Rps K R1 vs bs)->iZip K b1 b2 tr σ H Q:=λb1 b2 x y as bs hx hd g1 g2=>by
  subst hx hd;refine h Z σ H R ρ _ _ _ S e1 λvs H1 R1 S1 st1 r1=>?_;obtain⟨_,_,rfl,q,r⟩:=r1.isC;obtain⟨_,_,rfl,q',r⟩:=r.isC
  (first|obtain rfl:=r.isA rfl|cases r)
  obtain⟨p1,us,rfl,s1,t1⟩:=g1 _ _ q;obtain⟨p2,ws,rfl,s2,t2⟩:=g2 _ _ q';exact⟨p1,p2,rfl,⟨us,SqB.inj_same S1.same s1⟩,⟨ws,SqB.inj_same S1.same s2⟩,k _ H1 R1 S1 st1 (qt5 s1 s2 t1 t2)⟩
 have gl:∀(as:List D) (R1:Hp) (v:V),Rp K R1 v (.lst as)->∃p vs,v=.ref p/\SqB K true R1 p vs/\Rps K R1 vs as:=λas R1 v r=>by obtain⟨_,_,rfl,h,q⟩:=r.isL;exact⟨_,_,rfl,h,q⟩
 have gt:∀(as:List D) (R1:Hp) (v:V),Rp K R1 v (.tup as)->∃p vs,v=.ref p/\SqB K false R1 p vs/\Rps K R1 vs as:=λas R1 v r=>by obtain⟨_,_,rfl,h,q⟩:=r.isT;exact⟨_,_,rfl,SqT.of h,q⟩
 split at e2
 ·rename_i x y;split at e2
  ·rename_i as bs h1 h2;cases e2;rcases qaa h1 with rfl|rfl<;>rcases qaa h2 with rfl|rfl
   ·exact .inl (.inl (go true true _ _ as bs rfl rfl (gl as) (gl bs)))
   ·exact .inl (.inr (go true false _ _ as bs rfl rfl (gl as) (gt bs)))
   ·exact .inr (.inl (go false true _ _ as bs rfl rfl (gt as) (gl bs)))
   ·exact .inr (.inr (go false false _ _ as bs rfl rfl (gt as) (gt bs)))
  ·cases e2
 ·cases e2
end
inductive TyO(K:FrG)(H:Hp):V->Value->Prop where
 |of {x:V} {t:Value} (h:TyOf K H x t):TyO K H x t
 |sl {a:Addr} {xs:List V} (h:SqL K H a xs):TyO K H (.ref a) (.type "list")
 |st {a:Addr} {xs:List V} (h:SqT K H a xs):TyO K H (.ref a) (.type "tuple")
def rIsO(K:FrG):List V->Hp->VK->Prop:=λxs H Q=>∃x y t c b,xs=[x,y]/\clsV y=some c/\TyO K H x t/\PySem.W.kitOne K t c=some b/\Q (.bl b) H
section
variable{X:Cx}{K:FrG}{O:List Nat}{t:TE}{fa:RhD}
theorem q99(hK:X.K=K):q4i X (.builtin "isinstance") (rIsO K):=by
 subst hK;intro z5 s σ H xs us Q I r h;obtain⟨x,y,t,c,b,rfl,hc,ty,e,q⟩:=h;cases ty with
 |of h=>exact qkc rfl z5 s σ H [x,y] us Q I r ⟨x,y,t,c,b,rfl,hc,h,e,q⟩
 | sl h=>
  obtain⟨u,w,rfl,ru,rw'⟩:=vals2 r
  (first|obtain rfl:=ru.isA rfl|cases ru)
  have ew:w=c:=by
   cases y with
   |ref a=>exact(show w=Value.ref a from rw').trans (ja hc)
   |ty n=>exact(show w=Value.type n from rw').trans (ja hc)
   |_=>cases hc
  subst ew;obtain⟨its,rv,pl,_⟩:=I.list h;obtain⟨o,e1,c1,_⟩:=pl.isList;exact PySem.W.kia_one PySem.W.kitx_list I.kIn ⟨o,e1,c1⟩ e (λz=>nomatch z) λtk=>⟨.bl b,H,I.tok tk,rfl,q⟩
 | st h=>
  obtain⟨u,w,rfl,ru,rw'⟩:=vals2 r
  (first|obtain rfl:=ru.isA rfl|cases ru)
  have ew:w=c:=by
   cases y with
   |ref a=>exact(show w=Value.ref a from rw').trans (ja hc)
   |ty n=>exact(show w=Value.type n from rw').trans (ja hc)
   |_=>cases hc
  subst ew;obtain⟨its,rv,pl,_⟩:=I.tuple h;obtain⟨o,e1,c1,_⟩:=pl;exact PySem.W.kia_one PySem.W.kitx_tuple I.kIn ⟨o,e1,c1⟩ e (λz=>nomatch z) λtk=>⟨.bl b,H,I.tok tk,rfl,q⟩
def tyN:D->Option String
 |.non=>some "NoneType"
 |.bl _=>some "bool"
 |.int _=>some "int"
 |.str _=>some "str"
 |.lst _=>some "list"
 |.tup _=>some "tuple"
 |.dct _=>some "dict"
 |.exc _=>none
 |.fn _=>none
 |.dit _=>some "dict"
 |.obj _ _=>none
theorem qp8{H:Hp}{v:V}{d:D}{n:String}(r:Rp K H v d)(e:tyN d=some n):TyO K H v (.type n):=by
 cases r with
 |non=>cases e;exact .of .non
 |bl b=>cases e;exact .of (.bl b)
 |int i=>cases e;exact .of (.int i)
 |str x=>cases e;exact .of (.str x)
 |lst h _=>cases e;exact .sl h
 |tup h _=>cases e;exact .st (SqT.of h)
 |dct h _=>cases e;exact .of (.dK h)
 |dit h _=>cases e;exact .of (.dT h)
 |obj _ _=>cases e
 |exc _ _ _=>cases e
 |fn _=>cases e
def KitB(K:FrG)(Y:String)(f:String->Option Bool):Prop:=∀s b,f s=some b->PySem.W.kitOne K (.type s) (.type Y)=some b
def q7v(Y:String):String->Option Bool:=λs=>
 if s="NoneType" then some (decide (Y="NoneType"))else if s="bool" then some (decide (Y="bool")||decide (Y="int"))else if s="int" then some (decide (Y="int"))else if s="str" then some (decide (Y="str"))
 else if s="list" then some (decide (Y="list"))else if s="tuple" then some (decide (Y="tuple"))else if s="dict" then some (decide (Y="dict"))else none
theorem qbi{Y:String}(h1:PySem.W.kitOne K (.type "NoneType") (.type Y)=some (decide (Y="NoneType")))(h2:PySem.W.kitOne K (.type "bool") (.type Y)=some (decide (Y="bool")||decide (Y="int")))(h3:PySem.W.kitOne K (.type "int") (.type Y)=some (decide (Y="int")))
 (h4:PySem.W.kitOne K (.type "str") (.type Y)=some (decide (Y="str"))) (h5:PySem.W.kitOne K (.type "list") (.type Y)=some (decide (Y="list"))) (h6:PySem.W.kitOne K (.type "tuple") (.type Y)=some (decide (Y="tuple"))) (h7:PySem.W.kitOne K (.type "dict") (.type Y)=some (decide (Y="dict"))):KitB K Y (q7v Y):=λs b e=>by
 unfold q7v at e;split at e
 ·rename_i z;subst z;rw[<-e];exact h1
 split at e
 ·rename_i z;subst z;rw[<-e];exact h2
 split at e
 ·rename_i z;subst z;rw[<-e];exact h3
 split at e
 ·rename_i z;subst z;rw[<-e];exact h4
 split at e
 ·rename_i z;subst z;rw[<-e];exact h5
 split at e
 ·rename_i z;subst z;rw[<-e];exact h6
 split at e
 ·rename_i z;subst z;rw[<-e];exact h7
 ·cases e
def dIsi(f:String->Option Bool)(d:D):Option D:=match tyN d with
 |some s=>(f s).map .bl
 |none=>none
theorem qgx{Y:String}{f:String->Option Bool}(hk:KitB K Y f)(ha:MB K O t fa):ME K O (tCB (rIsO K) (q8l t (q8l (tC (.ty Y)) tNil))) (mOp1 (dIsi f) fa):=λZ σ H R ρ d ρ' Q S e k=>by
 obtain⟨x,ρ1,e1,e⟩:=q09 e;obtain⟨e2,rfl⟩:=q0h e;refine ha Z σ H R ρ x _ _ S e1 λv H1 R1 S1 st1 r1=>?_;unfold dIsi at e2;cases e3:tyN x with
 |none=>rw[e3]at e2;cases e2
 | some s=>
  rw[e3]at e2;dsimp only at e2;cases e4:f s with
  |none=>rw[e4]at e2;cases e2
  | some b=>
   rw[e4]at e2;cases e2;exact⟨v,.ty Y,.type s,.type Y,b,rfl,rfl,qp8 r1 e3,hk s b e4,k _ H1 R1 S1 st1 (.bl b)⟩
end
def mOf(f:RhL):RhD:=q1l f λds=>mRet (D.lst ds)
section
variable{K:FrG}{O O1 O':List Nat}{t:TE}{c:MC}{u:TS}{f:RhO}{fn:RhL}
theorem q1o(h:MN K O t fn):ME K O t (mOf fn):=h.me
theorem q60(h:MS c O O1 u f)(hs:subO c O1 O'=true):MS c O O' u f:=λZ E σ H R ρ o hP S e k=>by
 refine h Z E σ H R ρ o hP S e ?_;cases o with
 | nx ρ'=>
  intro σ' H' R' S' s';obtain⟨S2,s2⟩:=S'.sub' hP hs;exact k σ' H' _ S2 (s'.trans s2)
 |bk ρ'=>exact k
 |ct ρ'=>exact k
 |rt d ρ'=>exact k
theorem q76{k n:Nat}{js:List Nat}{wi:TI}{g:TG}{tt:TT}{te:TE}(he:MN c.K O (qij n js wi g tt te) fn)(hs:subO c O O'=true)(hi:k∉O'):MS c O O' (qme k n js wi g tt te) (sSet k (mOf fn)):=
 show MS c O O' (tAsg (qij n js wi g tt te) (q6m k)) (sSet k (mOf fn))from q18 (q1o he) hs hi
def qar(fe:RhD):RhO:=λρ=>match fe ρ with
 |none=>none
 |some (_,ρ1)=>some (.nx ρ1)
theorem qgr{fe:RhD}(he:ME c.K O t fe)(hs:subO c O O'=true):MS c O O' (qf3 t) (qar fe):=λZ E σ H R ρ o hP S e k=>by
 unfold qar at e;cases e1:fe ρ with
 |none=>rw[e1]at e;cases e
 | some p=>
  obtain⟨d,ρ1⟩:=p;rw[e1]at e;cases e;refine he Z σ H R ρ d ρ1 _ S e1 λv H1 R1 S1 st1 r1=>?_;obtain⟨S2,s2⟩:=S1.sub' hP hs;exact k σ H1 _ S2 (st1.r.trans s2)
end
def qmz(i j:Int):Bool:=(decide (-(2^64)<i)&&decide (i<2^64))||(decide (-(2^64)<j)&&decide (j<2^64))
def qn0(_ j:Int):Bool:=decide (0<j)&&decide (j<1073741824)
def qs0(_ j:Int):Bool:=decide (0<j)
def qb8(i j:Int):Bool:=decide (0<=j)&&decide (j<=1000000)&&decide (i.natAbs<2^64)
abbrev dDiv:D->D->Option D:=dI2 qn0 λi j=>i / j
abbrev dMod:D->D->Option D:=dI2 qs0 λi j=>i % j
abbrev dPow:D->D->Option D:=dI2 qb8 λi j=>i^j.toNat
abbrev dShl:D->D->Option D:=dI2 qb8 λi j=>i*2^j.toNat
abbrev dSub:D->D->Option D:=dI0 λi j=>i-j
abbrev dAnd:D->D->Option D:=dI0 λi j=>Builtin.bitAnd i j
abbrev dXor:D->D->Option D:=dI0 λi j=>Builtin.bitXor i j
abbrev dLt:D->D->Option D:=dB0 λi j=>decide (i<j)
abbrev dLe:D->D->Option D:=dB0 λi j=>decide (i<=j)
abbrev dGt:D->D->Option D:=dB0 λi j=>decide (j<i)
section
variable{K:FrG}
theorem q75:OpG K (rI CDiv λi j=>.int (i / j)) dDiv:=op_i λi j h=>by unfold qn0 at h;simp only[Bool.and_eq_true,decide_eq_true_eq]at h;exact h
theorem q2l:OpG K (rI (λ_ j=>0<j) λi j=>.int (i % j)) dMod:=op_i λi j h=>of_decide_eq_true h
theorem qcr:OpG K (rI CPow λi j=>.int (i^j.toNat)) dPow:=op_i λi j h=>by unfold qb8 at h;simp only[Bool.and_eq_true,decide_eq_true_eq]at h;exact⟨h.1.1,h.1.2,h.2⟩
theorem qcq:OpG K (rI CPow λi j=>.int (i*2^j.toNat)) dShl:=op_i λi j h=>by unfold qb8 at h;simp only[Bool.and_eq_true,decide_eq_true_eq]at h;exact⟨h.1.1,h.1.2,h.2⟩
theorem qcp:OpG K (rI0 λi j=>.int (i-j)) dSub:=qmu
theorem qgj:OpG K (rI0 λi j=>.int (Builtin.bitAnd i j)) dAnd:=qmu
theorem qs1:OpG K (rI0 λi j=>.int (Builtin.bitXor i j)) dXor:=qmu
def qma(K:FrG)(n:Nat):Sp:=λvs H Q _=>∃(b:Addr) (ns:List Int),vs=[.ref b]/\SqL K H b (ns.map V.int)/\ns.length<=n/\∀H',Q (.bl true) H'
theorem qss{P:Program}{w:World}{mg:Str->Option Value}{base:Heap}{CX:CXT}{k n:Nat}{fa:Addr}{fd:FuncData}{x:Str}{f:List D->Option D}(F:FnOk P w K mg base CX k fa fd [x] (spP K false 1 f))(h:∀ns:List Int,ns.length<=n->f [.lst (ns.map D.int)]=some (.bl true)):FnOk P w K mg base CX k fa fd [x] (qma K n):=
 F.imp λvs H Q E q=>by obtain⟨b,ns,rfl,hb,hl,k⟩:=q;refine⟨rfl,H,[.lst (ns.map D.int)],.bl true,λ_ _ e=>e,.cons (.lst hb (Rps.ints ns)) .nil,h ns hl,λv H' R' _ r=>?_⟩;have r':Rp K R' v (.bl true):=r;cases r';exact k H'
end
section
variable{K:FrG}{O O':List Nat}{t ta tb:TE}{fa fb:RhD}{fn:RhL}{c:MC}
def dNeg:D->Option D
 |.int i=>some (.int (-i))
 |_=>none
theorem qsn(h:ME K O t fa):ME K O (tUn (rU λi=>.int (-i)) t) (mOp1 dNeg fa):=λZ σ H R ρ d ρ' Q S e k=>by
 obtain⟨x,ρ1,e1,e⟩:=q09 e;obtain⟨e2,rfl⟩:=q0h e;refine h Z σ H R ρ x _ _ S e1 λv H1 R1 S1 st1 r1=>?_
 (first|split at e2|(unfold dNeg at e2;split at e2))
 ·rename_i i;obtain rfl:=r1.isA rfl;cases e2;exact⟨i,rfl,k _ H1 R1 S1 st1 (.int _)⟩
 ·cases e2
def dAny:D->Option D
 |.lst xs=>(q4r xs).map λbs=>.bl (bs.any id)
 |_=>none
def sExt(i:Nat)(fn:RhL):RhO:=λρ=>if isL ρ i=true then(match fn ρ with
 |none=>none
 | some (ys,ρ1)=>match ρ1[i]? with
  |some (some (.lst xs))=>if xs.length+ys.length<=sizeLine then some (.nx (ρ1.set i (some (.lst (xs++ys)))))else none
  |_=>none)else none
theorem qse{i:Nat}(hi:i∈O)(ha:MN c.K O ta fn)(hs:subO c O O'=true):MS c O O' (qf3 (tBM c.K "list" qg3 (tVar i) (q8l ta tNil))) (sExt i fn):=λZ E σ H R ρ o hP S e k=>by
 unfold sExt at e;split at e
 case isFalse=>cases e
 rename_i hL;cases e1:fn ρ with
 |none=>rw[e1]at e;cases e
 | some p=>
  obtain⟨ys,ρ1⟩:=p;rw[e1]at e;dsimp only at e;obtain⟨l,vs,ds,h1,h2,h3,h4,h5⟩:=S.own i hi;obtain⟨us,_,rfl,rfl,_⟩:=qly hL h1 h5;refine⟨.ref l,h2,.inl ⟨rfl,us,SqL.of h3⟩,ha Z σ H R ρ ys ρ1 _ S e1 λb zs H1 R1 S1 st1 b0 bH bR r1=>?_⟩;obtain⟨l',vs',ds',g1,g2,g3,g4,g5⟩:=S1.own i hi;rw[h2]at g2;cases g2;rw[g1]at e;cases g5 with
  |dct _=>cases e
  |dit _=>cases e
  |lst g5=>
  rename_i vs' ds';dsimp only at e;split at e
  ·rename_i hz;cases e;refine⟨l,b,vs',zs,rfl,rfl,g3,bH,by rw[g5.length,r1.length];exact hz,?_⟩;obtain⟨S2,s2⟩:=(S1.write hi h2 (.lst (g5.append r1))).sub' hP hs;exact k σ _ _ S2 (st1.r.trans s2)
  ·cases e
def mRep(fn:RhL)(fb:RhD):RhL:=q1l fn λxs=>q1l fb λy=>q2f (match y with
 |.int k=>if -(2^63)<=k/\k<2^63/\xs.length*k.toNat<=sizeLine then some (List.replicate k.toNat xs).flatten else none
 |_=>none)
theorem Rps.rep{R:Hp}{xs:List V}{ds:List D}(r:Rps K R xs ds):∀k:Nat,Rps K R (List.replicate k xs).flatten (List.replicate k ds).flatten
 |0=>.nil
 | k+1=>by rw[List.replicate_succ,List.replicate_succ,List.flatten_cons,List.flatten_cons];exact r.append (Rps.rep r k)
theorem qcw(ha:MN K O ta fn)(hb:ME K O tb fb):MN K O (tOp rRep ta tb) (mRep fn fb):=λZ σ H R ρ d ρ' Q S e k=>by
 obtain⟨xs,ρ1,e1,e⟩:=q09 e;obtain⟨y,ρ2,e2,e⟩:=q09 e;obtain⟨e3,rfl⟩:=q0h e;refine ha Z σ H R ρ xs ρ1 _ S e1 λl vs H1 R1 S1 st1 h0 hH hR r1=>hb Z σ H1 R1 ρ1 y _ _ S1 e2 λw H2 R2 S2 st2 r2=>?_
 (first|split at e3)
 ·rename_i j;obtain rfl:=r2.isA rfl;have e4:(if -(2^63)<=j/\j<2^63/\xs.length*j.toNat<=sizeLine then some (List.replicate j.toNat xs).flatten else none)=some d:=e3;split at e4
  ·rename_i hz;cases e4;refine⟨l,j,vs,rfl,rfl,st2.h l _ hH (λi hi=>S.notnew h0 i hi),hz.1,hz.2.1,by rw[r1.length];exact hz.2.2,λp np=>?_⟩;have y:=Ext.hid (o:=.lst (List.replicate j.toNat vs).flatten) S2.sub np;exact k p _ _ _ (S2.ext y) ((st1.trans st2).trans y.stp) ((st1.trans st2).new np) q0u (S2.out np) ((r1.mono st2.r).rep _)
  ·cases e4
 ·cases e3
end
section
variable{M:Model}{A:Around}{E:Value->Shared->Prop}{s:Shared}
end
section
variable{X:Cx}{K:FrG}
end
section
variable{c:MC}{O O':List Nat}{te:TE}{fn:RhL}
end
theorem foldl_size{α:Type}(a:Array α):∀(k:Nat) (acc:Array α),(List.foldl (λx1 x2=>x1++x2) acc (List.replicate k a)).size=acc.size+k*a.size
 |0,acc=>by simp
 | k+1,acc=>by rw[List.replicate_succ,List.foldl_cons,foldl_size a k,Array.size_append,Nat.succ_mul];omega
theorem q6j:fillsNumberSlot (.type "tuple") "mul"=pure false:=
 PySem.fillsNumberSlot_seq (id:="tuple.__mul__") (r:=some (.builtin "tuple.__rmul__")) F.slot_tuple_mul.lookup (by decide+kernel) F.slot_tuple_rmul.lookup (by decide+kernel)
theorem q9k:seqRepeat? (.type "tuple")=pure (some (.builtin "tuple.__mul__")):=by unfold seqRepeat?;rw[PySem.seqSlot_of (T:="tuple") (name:="__mul__") (id:="tuple.__mul__") F.slot_tuple_mul.lookup (by decide+kernel),PySem.seqSlot_of (T:="tuple") (name:="__rmul__") (id:="tuple.__rmul__") F.slot_tuple_rmul.lookup (by decide+kernel)];rfl
theorem q7w(a:Int)(t:Tok)(l:Addr)(items:Array Value)(n:Nat)(dd:Option Addr)(sl:Array (Option Value)):
 Meets (Builtin.«int.__rmul__» ⟨[.int a t,.ref l],[]⟩) (λ_ R s=>s.heap.get? l=some {cls:=.type "tuple",dict:=dd,data:=.seq items n,slots:=sl}/\R (.ok (.ret Value.notImplemented)) s):=
 .of_wp λprog w A R s h=>by obtain⟨hp,g,d,tk,os⟩:=s;obtain⟨hl,h⟩:=h;wp_walk;exact⟨_,rfl,h⟩
theorem qdj(l:Addr)(items:Array Value)(n:Nat)(dd:Option Addr)(sl:Array (Option Value))(x:Int)(u:Tok)(h1:1<x)(h2:x<=1000)(he:items.isEmpty=false)(hz:items.size<=1000):
 Meets (Builtin.«tuple.__mul__» ⟨[.ref l,.int x u],[]⟩) (λ_ R s=>s.heap.get? l=some {cls:=.type "tuple",dict:=dd,data:=.seq items n,slots:=sl}/\R (.ok (.ret (Value.ref s.heap.objs.size))) {s with heap:=s.heap.push {cls:=Value.type "tuple",data:=Data.seq (List.foldl (λx1 x2=>x1++x2) #[] (List.replicate x.toNat items))},toks:=s.toks}):=
 .of_wp λprog w A R s h=>by
  obtain⟨hp,g,d,tk,os⟩:=s;obtain⟨hl,h⟩:=h;have f1:=AutoSeq1.idx_int;have f2:=AutoSeq1.sub_tuple_tuple;have hc0:¬(decide (x< -2^63)||decide (x≥2^63))=true:=by simp only[Bool.or_eq_true,decide_eq_true_eq];omega
  have hc1:¬(items.isEmpty||x==1)=true:=by rw[he,Bool.false_or];simp;omega
  have hc2:¬(decide (x<=0)||items.isEmpty)=true:=by rw[he,Bool.or_false];simp;omega
  have hm:(items.size:Int)*x<=1000*1000:=Int.le_trans (Int.mul_le_mul_of_nonneg_left h2 (Int.natCast_nonneg _)) (Int.mul_le_mul_of_nonneg_right (by omega) (by decide));have hc3:¬(items.size:Int)*x>(2^63-1) / 8:=by omega
  have hc4:¬Builtin.Tuple.tupleTooMany ((items.size:Int)*x)=true:=by
   unfold Builtin.Tuple.tupleTooMany;have:(sizeLine:Int)≥1000*1000:=by decide
   simp;omega
  wp_walk using kh hl
  rw[if_neg hc0]
  wp_walk using kh hl
  rw[if_neg hc1];rw[if_neg hc2];rw[if_neg hc3];rw[if_neg hc4]
  wp_walk using kh hl
  have hc5:¬(List.foldl (λx1 x2=>x1++x2) #[] (List.replicate x.toNat items)).size>sizeLine:=by
   rw[foldl_size];have h7:x.toNat*items.size<=1000*1000:=Nat.mul_le_mul (by omega) hz;have h8:(sizeLine:Nat)≥1000*1000:=by decide
   simp;omega
  rw[if_neg hc5]
  wp_walk using kh hl
  exact⟨_,rfl,h⟩
def qqd(K:FrG):R2:=λx y H Q=>∃l k xs,x=.ref l/\y=.int k/\SqT K H l xs/\1<k/\k<=1000/\xs≠[]/\xs.length<=1000/\∀p,H p=none->Q (.ref p) (upd H p (.tup (List.replicate k.toNat xs).flatten))
section
variable{X:Cx}{K:FrG}
theorem qmt(hK:X.K=K):OpR X (binaryOp .Mult) (qqd K):=by
 subst hK;intro z5 s σ H x y v u Q I rx ry h;obtain⟨l,k,xs,rfl,rfl,hH,h1,h2,hx,hz,q⟩:=h
 (first|obtain rfl:=rx.isA rfl|cases rx)
 obtain⟨t,rfl⟩:=ry;obtain⟨its,r1,p1,_⟩:=I.tuple hH;obtain⟨⟨cls,dd,data,sl⟩,ho,hc,n,hd⟩:=id p1;simp only at hc hd;subst hc hd;have ze:=r1.length;have he:its.toArray.isEmpty=false:=by
  cases its with
  |nil=>exact absurd (r1.nil_iff.mp rfl) hx
  |cons a r=>rfl
 have f0:List.foldl (λx1 x2=>x1++x2) #[] (List.replicate k.toNat its.toArray)=(List.replicate k.toNat its).flatten.toArray:=by have:=foldl_rep its k.toNat [];rw[List.nil_append]at this;exact this
 refine wpAny_binaryOp_repeat_ref (T:="tuple") (U:="int") (by decide) ⟨_,ho,rfl⟩ (λs'=>typeIs_int s' k t) q6j F.fills_int_mul F.slot_int_rmul q9k F.slot_int_index.lookup
  (call_meets F.slot_int_rmul (typeIs_int s k t) F.entry_int_rmul (F.args_int_rmul_2 _ _) (q7w k t l its.toArray n dd sl)
    ⟨ho,rfl,⟨_,ho,rfl⟩,call_meets F.slot_tuple_mul ⟨_,ho,rfl⟩ F.entry_tuple_mul (F.args_tuple_mul_2 _ _) (qdj l its.toArray n dd sl k t h1 h2 he (by rw[jq];omega)) ⟨ho,?_⟩⟩)
 rw[f0];have hsz:(List.replicate k.toNat xs).flatten.length<=sizeLine:=by rw[len_rep];exact ju (Nat.mul_le_mul (by omega:k.toNat<=1000) hz) (by decide)
 refine⟨.ref s.heap.objs.size,_,I.laid (t':=s.toks) (o:=.tup (List.replicate k.toNat xs).flatten) (λb ob q=>j7 _ q) (j8 _) ?_,rfl,q _ (I.hok.fresh (j8 _))⟩;exact⟨hsz,_,r1.rep k.toNat,TupN.new _ _⟩
def qbz(z:Str)(k:Int):Str:=if(k==1||z.length==0)=true then z else⟨List.foldl (λx1 x2=>x1++x2) #[] (List.replicate k.toNat z.cps)⟩
theorem qgf:OpR X (binaryOp .Mult) (λx y H Q=>∃z k,x=.str z/\y=.int k/\0<k/\k<=1000/\0<z.length/\z.length<=1000/\Q (.str (qbz z k)) H):=by
 intro z5 s σ H x y v u Q I rx ry h;obtain⟨z,k,rfl,rfl,h1,h2,h3,h4,q⟩:=h;obtain⟨t,rfl⟩:=rx;obtain⟨t',rfl⟩:=ry;have hm:z.length*k.toNat<=1000*1000:=Nat.mul_le_mul h4 (by omega);refine PySem.P.mul_str (by simp;omega) (λ_ _=>?_) (λ_ _=>?_) ?_
 ·intro hgt;have h5:((2:Int)^63-1) / 1000<=(2^63-1) / k:=by
   refine Int.le_ediv_of_mul_le h1 ?_;have:((2:Int)^63-1) / 1000*k<=(2^63-1) / 1000*1000:=Int.mul_le_mul_of_nonneg_left h2 (by decide);exact Int.le_trans this (by decide)
  have h6:(1000:Int)<(2^63-1) / 1000:=by decide
  omega
 ·unfold Builtin.Str.tooLong;have:(sizeLine:Nat)≥1000*1000:=by decide
  simp;omega
 ·rw[if_neg (by omega)];unfold qbz at q;split
  ·rename_i hh;rw[if_pos hh]at q;exact⟨.str z,H,I,⟨t,rfl⟩,q⟩
  ·rename_i hh;rw[if_neg hh]at q;refine⟨?_,⟨.str _,H,I.tok _,⟨_,rfl⟩,q⟩⟩;show(List.foldl (λx1 x2=>x1++x2) #[] (List.replicate k.toNat z.cps)).size<=sizeLine;rw[foldl_size];have h7:k.toNat*z.cps.size<=1000*1000:=Nat.mul_le_mul (by omega) h4;have h8:(sizeLine:Nat)≥1000*1000:=by decide
   simp;omega
def CMul2(i j:Int):Prop:=CMul i j∨(i.natAbs<2^250/\j.natAbs<2^250)
theorem qi4{k:Int}(h:k.natAbs<2^250):Builtin.Int.intBits k<=250:=by
 unfold Builtin.Int.intBits;split
 ·exact Nat.zero_le _
 ·rename_i h0;have hk:k.natAbs≠0:=λz=>h0 (by simpa using z);have:k.natAbs.log2<250:=(Nat.log2_lt hk).mpr h;omega
theorem CMul2.ok{i j:Int}(h:CMul2 i j):IntMulOk i j:=by
 rcases h with h|⟨h1,h2⟩
 ·exact h.ok
 ·exact IntMulOk.of_le (qi4 h1) (qi4 h2) (by decide)
theorem op_mul2:OpR X (binaryOp .Mult) (rI CMul2 λi j=>.int (i*j)):=opI λ_ _ _ _ _ _ _ hc q=>mul_int q hc.ok
def bigM(i:Int):Bool:=decide (i.natAbs<2^250)
def qco(i j:Int):Bool:=qmz i j||(bigM i&&bigM j)
theorem qgi{i j:Int}(h:qco i j=true):CMul2 i j:=by
 unfold qco qmz bigM at h;simp only[Bool.or_eq_true,Bool.and_eq_true,decide_eq_true_eq]at h;rcases h with h|h
 ·exact .inl h
 ·exact .inr h
def qqe(K:FrG):R2:=λx y H Q=>rI CMul2 (λi j=>.int (i*j)) x y H Q∨qqd K x y H Q∨∃z k,x=.str z/\y=.int k/\0<k/\k<=1000/\0<z.length/\z.length<=1000/\Q (.str (qbz z k)) H
theorem q3g(hK:X.K=K):OpR X (binaryOp .Mult) (qqe K):=op_mul2.or ((qmt hK).or qgf)
end
def q44:D->D->Option D
 |.int i,.int j=>if qco i j=true then some (.int (i*j))else none
 |.tup xs,.int k=>if 1<k/\k<=1000/\xs≠[]/\xs.length<=1000 then some (.tup (List.replicate k.toNat xs).flatten)else none
 |.str z,.int k=>if 0<k/\k<=1000/\0<z.length/\z.length<=1000 then some (.str (qbz z k))else none
 |_,_=>none
theorem q3h{K:FrG}:OpG K (qqe K) q44:=λH R x y d e u Q s rx ry q k=>by
 unfold q44 at q;split at q
 ·rename_i i j;split at q
  ·rename_i h
   (first|obtain rfl:=q.isA rfl|cases q)
   (first|obtain rfl:=rx.isA rfl|cases rx)
   (first|obtain rfl:=ry.isA rfl|cases ry)
   exact .inl ⟨i,j,rfl,rfl,qgi h,k _ H R (Ext.refl s) (.int _)⟩
  ·(first|obtain rfl:=q.isA rfl|cases q)
 ·rename_i ds j;split at q
  ·rename_i hc
   (first|obtain rfl:=q.isA rfl|cases q)
   (first|obtain rfl:=ry.isA rfl|cases ry)
   obtain⟨a,xs,rfl,h,r⟩:=rx.isT;refine .inr (.inl ⟨a,j,xs,rfl,rfl,SqT.of (s _ _ h),hc.1,hc.2.1,λz=>?_,by rw[r.length];exact hc.2.2.2,λp np=>?_⟩)
   ·subst z
    (first|obtain rfl:=r.isA rfl|cases r)
    exact hc.2.2.1 rfl
   ·have y:=Ext.new (o:=.tup (List.replicate j.toNat xs).flatten) s np;exact k _ _ _ y (.tup q0u ((r.rep _).mono y.r))
  ·(first|obtain rfl:=q.isA rfl|cases q)
 ·rename_i z j;split at q
  ·rename_i hc
   (first|obtain rfl:=q.isA rfl|cases q)
   (first|obtain rfl:=ry.isA rfl|cases ry)
   (first|obtain rfl:=rx.isA rfl|cases rx)
   exact .inr (.inr ⟨z,j,rfl,rfl,hc.1,hc.2.1,hc.2.2.1,hc.2.2.2,k _ H R (Ext.refl s) (.str _)⟩)
  ·(first|obtain rfl:=q.isA rfl|cases q)
 ·(first|obtain rfl:=q.isA rfl|cases q)
section
variable{X:Cx}{K:FrG}{O:List Nat}{pos:Pos}
end
inductive TyX(K:FrG)(H:Hp):V->Value->Prop where
 |exc {a C:Addr} (h:H a=some (excO a (.ref C))) (k:ExcK K C):TyX K H (.ref a) (.ref C)
 |non:TyX K H .non (.type "NoneType")
section
variable{X:Cx}{K:FrG}{O:List Nat}{t:TE}{fa:RhD}
structure KitE(K:FrG)(c:Value)(sub:Str->Option Bool):Prop where
 exc:∀x C b,PySem.W.nsIn K mainGlobals x=some (some (.ref C))->sub x=some b->PySem.W.kitOne K (.ref C) c=some b
 non:PySem.W.kitOne K (.type "NoneType") c=some false
structure qwf(K:FrG)(cs:List Value)(sub:Str->Option Bool):Prop where
 exc:∀x C b,PySem.W.nsIn K mainGlobals x=some (some (.ref C))->sub x=some b->PySem.W.kitAny K (.ref C) cs=some b
 non:PySem.W.kitAny K (.type "NoneType") cs=some false
end
abbrev Xr:=Rho->Option (Str×Rho)
def ExE(K:FrG)(E:XK)(C:Str)(H:Hp):Prop:=∀v,PySem.W.nsIn K mainGlobals C=some (some v)->E v none H
section
variable(K:FrG)(O:List Nat)
end
section
variable{K:FrG}{O:List Nat}{E:XK}{t ta tb:TE}{tr:TA}{tt:TT}{fa fb:RhD}{fs:RhL}{xa xb xs:Xr}
end
def MSX(c:MC)(O:List Nat)(t:TS)(E:XK)(fx:Xr):Prop:=∀(Z:Anc) (D:Ends) (σ:St) (H R:Hp) (ρ:Rho) (C:Str) (ρ':Rho),Z.P=c.P->StR c.K Z O σ H R ρ->fx ρ=some (C,ρ')->(∀O' σ' H' R',StR c.K Z O' σ' H' R' ρ'->ExE c.K E C H')->t D σ H
def MSXa(c:MC)(O:List Nat)(t:TS)(E:XK)(fx:Xr):Prop:=∀(Z:Anc) (D:Ends) (σ:St) (H R:Hp) (ρ:Rho) (C:Str) (ρ':Rho),Z.P=c.P->StR c.K Z O σ H R ρ->fx ρ=some (C,ρ')->(∀H' R',StR c.K Z O σ H' R' ρ'->Same R R'->ExE c.K E C H')->t D σ H
theorem MSXa.g{c:MC}{O:List Nat}{t:TS}{E:XK}{fx:Xr}(h:MSXa c O t E fx):MSX c O t E fx:=λZ D σ H R ρ C ρ' hP S e k=>h Z D σ H R ρ C ρ' hP S e λH' R' S' _=>k O σ H' R' S'
section
variable{c:MC}{O O' O1:List Nat}{t u:TS}{te:TE}{tt:TT}{tr:TA}{g:TG}{f h:RhO}{fe:RhD}{fs:RhL}{ft:RhB}{E:XK}{xe xt fx hx:Xr}
end
section
variable{c:MC}{O O':List Nat}{cv:Value}{i:Nat}{sub:Str->Bool}{tb:XK->TS}{ts:TS}{fb fh:RhO}{xb:Xr}
end
section
variable{K:FrG}{O:List Nat}{tr:TA}{fs:RhL}{E:XK}{n:Nat}
end
section
variable{K:FrG}
end
theorem PS.nox{X:Cx}{st:Stmt}{t:TS}(h:PS X.nox st t):PS X st t:=λz5 s σ H D I hw=>
 x9 (h z5 s σ H D (I.wish _) hw) (λ_ _ q=>q.unwish) λ_ _ z=>False.elim z
section
variable(K:FrG)(O:List Nat)
end
section
variable{K:FrG}{O:List Nat}{ta:TE}{tr:TA}{fa:RhD}{fs:RhL}{E:XK}{n:Nat}
end
theorem q92{α:Type}{o:Option (α×Rho)}{x:α}(h:o.map (·.1)=some x):∃ρ,o=some (x,ρ):=by
 cases o with
 |none=>cases h
 |some p=>cases h;exact⟨p.2,rfl⟩
theorem q4p{n:Nat}{js:List Nat}{fg:RhG}{fe:RhD}{ρ:Rho}(g:D->D):∀(xs:List D),(∀x∈xs,∃ρ1,fg x (q5b n js ρ)=some ρ1/\(fe ρ1).map (·.1)=some (g x))->q12 n js none fg (mRet true) fe xs ρ=some (xs.map g,ρ)
 |[],_=>rfl
 | x::xs,h=>by obtain⟨ρ1,h1,h2⟩:=h x jg;obtain⟨ρ2,h2⟩:=q92 h2;have ih:=q4p (n:=n) (js:=js) (fg:=fg) (fe:=fe) (ρ:=ρ) g xs λy hy=>h y (jh _ hy);simp only[q12,h1,mRet,h2,q50];rw[ih];rfl
theorem q4q{n:Nat}{js:List Nat}{fg:RhG}{ft:RhB}{fe:RhD}{ρ:Rho}(p:D->Bool)(g:D->D):∀(xs:List D),(∀x∈xs,∃ρ1,fg x (q5b n js ρ)=some ρ1/\ft ρ1=some (p x,ρ1)/\(p x=true->(fe ρ1).map (·.1)=some (g x)))->q12 n js none fg ft fe xs ρ=some ((xs.filter p).map g,ρ)
 |[],_=>rfl
 | x::xs,h=>by
  obtain⟨ρ1,h1,h2,h3⟩:=h x jg;have ih:=q4q (n:=n) (js:=js) (fg:=fg) (ft:=ft) (fe:=fe) (ρ:=ρ) p g xs λy hy=>h y (jh _ hy);cases hp:p x with
  | false=>
   rw[hp]at h2;simp only[q12,h1,h2,q50];rw[ih,List.filter_cons_of_neg (by rw[hp];exact Bool.false_ne_true)]
  | true=>
   rw[hp]at h2;obtain⟨ρ3,h4⟩:=q92 (h3 hp);simp only[q12,h1,h2,h4,q50];rw[ih,List.filter_cons_of_pos hp];rfl
theorem q6u{n p q:Nat}{js:List Nat}{fg:RhG}{fe:RhD}{S:Type}(ρ:S->Rho)(G:D->Prop):∀(xs:List D),(∀x∈xs,∀s,∃ρ1 ρ2 y s',fg x (q5b n js (ρ s))=some ρ1/\fe ρ1=some (y,ρ2)/\q50 (some (p,q)) (ρ s) ρ2=ρ s'/\G y)->∀s,∃ys s',q12 n js (some (p,q)) fg (mRet true) fe xs (ρ s)=some (ys,ρ s')/\ys.length=xs.length/\∀y∈ys,G y
 |[],_,s=>⟨[],s,rfl,rfl,λ_ h=>nomatch h⟩
 | x::xs,h,s=>by
  obtain⟨ρ1,ρ2,y,s1,h1,h2,h3,h4⟩:=h x jg s;obtain⟨ys,s2,g1,g2,g3⟩:=q6u ρ G xs (λy hy=>h y (jh _ hy)) s1;refine⟨y::ys,s2,?_,by rw[ji,ji,g2],λz hz=>?_⟩
  ·simp only[q12,h1,mRet,h2,h3];rw[g1]
  ·rcases List.mem_cons.mp hz with rfl|hz
   ·exact h4
   ·exact g3 z hz
theorem q2q{fg:RhG}{fb:RhO}(I:Nat->Rho->Prop):∀(xs:List D) (k:Nat) (ρ:Rho),I k ρ->(∀i x ρ,xs[i]? =some x->I (k+i) ρ->∃ρ1 ρ2,fg x ρ=some ρ1/\(fb ρ1=some (.nx ρ2)∨fb ρ1=some (.ct ρ2))/\I (k+i+1) ρ2)->∃ρ',q1p fg fb xs ρ=some (.nx ρ')/\I (k+xs.length) ρ'
 |[],k,ρ,h0,_=>⟨ρ,rfl,h0⟩
 | x::xs,k,ρ,h0,hs=>by
  obtain⟨ρ1,ρ2,h1,h2,h3⟩:=hs 0 x ρ rfl h0;obtain⟨ρ',g1,g2⟩:=q2q I xs (k+1) ρ2 h3 λi y ρ e hi=>by
   have e1:k+1+i=k+(i+1):=by omega
   rw[e1]at hi ⊢;exact hs (i+1) y ρ (by simpa using e) hi
  refine ⟨ρ', ?_, by rw[ji];have e1:k+(xs.length+1)=k+1+xs.length:=by omega
                     rw[e1];exact g2⟩
  simp only[q1p,h1];rcases h2 with h2|h2
  ·rw[h2];exact g1
  ·rw[h2];exact g1
theorem qhg{fg:RhG}{fb:RhO}(I:Rho->Prop):∀(xs:List D) (ρ:Rho),I ρ->(∀x ρ,x∈xs->I ρ->∃ρ1 ρ2,fg x ρ=some ρ1/\(fb ρ1=some (.nx ρ2)∨fb ρ1=some (.ct ρ2))/\I ρ2)->∃ρ',q1p fg fb xs ρ=some (.nx ρ')/\I ρ':=λxs ρ h0 hs=>by obtain⟨ρ',h1,h2⟩:=q2q (fg:=fg) (fb:=fb) (λ_=>I) xs 0 ρ h0 λi x ρ e hi=>hs x ρ (xk e) hi;exact⟨ρ',h1,h2⟩
theorem at0{α:Type}(x:α)(xs:List α):atI (x::xs) 0=some x:=by unfold atI ixN;simp
theorem at1{α:Type}(x y:α)(xs:List α):atI (x::y::xs) 1=some y:=qbw (j:=1) rfl
theorem at2{α:Type}(x y z:α)(xs:List α):atI (x::y::z::xs) 2=some z:=qbw (j:=2) rfl
theorem at3{α:Type}(x y z u:α)(xs:List α):atI (x::y::z::u::xs) 3=some u:=qbw (j:=3) rfl
theorem q4h{α:Type}{xs:List α}{i:Int}(h0:0<=i)(h:i<xs.length):atI xs i=xs[i.toNat]? :=by unfold atI ixN;rw[if_pos h0,if_pos h];rfl
theorem q1d{n:Nat}(h:n<=1000000):n<=sizeLine:=ju h (by decide)
theorem q1h(lo:Int)(n:Nat):(q15 lo n).length=n:=by simp[q15]
theorem q1t{lo:Int}{n i:Nat}{d:D}(h:(q15 lo n)[i]? =some d):i<n/\d=.int (lo+(i:Int)):=by
 have hi:i<n:=by
  have:=(List.getElem?_eq_some_iff.mp h).1
  rwa [q1h]at this
 refine⟨hi,?_⟩;unfold q15 at h;rw[j9,xn hi]at h;exact(ja h).symm
def nx(s:Int):Int:=(s*1181783497276652981+12345678910987) % (2^61-1)
theorem qhn(i j:Int):eqD (.int i) (.int j)=some (i==j):=by simp[eqD,D.toP,SeqAt.shaped,PyData.canLay0,PyData.depth,PyData.eqv]
theorem q2y{i j:Str}(hi:PyData.strOk i=true)(hj:PyData.strOk j=true):eqD (.str i) (.str j)=some (i==j):=by simp[eqD,D.toP,SeqAt.shaped,PyData.canLay0,PyData.depth,PyData.eqv,hi,hj]
theorem q6d(j:Int):eqD .non (.int j)=some false:=by simp[eqD,D.toP,SeqAt.shaped,PyData.canLay0,PyData.depth,PyData.eqv]
theorem q6e(j:Int):eqD (.int j) .non=some false:=by simp[eqD,D.toP,SeqAt.shaped,PyData.canLay0,PyData.depth,PyData.eqv]
theorem eqD_none:eqD .non .non=some true:=by simp[eqD,D.toP,SeqAt.shaped,PyData.canLay0,PyData.depth,PyData.eqv]
theorem q9f:∀xs:List Int,D.toPs (xs.map D.int)=some (xs.map PyData.int)
 |[]=>by simp[D.toPs]
 |x::xs=>by simp[D.toPs,D.toP,q9f xs]
theorem q7k:∀xs ys:List Int,PyData.eqvAll (xs.map PyData.int) (ys.map PyData.int)=decide (xs=ys)
 |[],[]=>by simp[PyData.eqvAll]
 |[],y::ys=>by simp[PyData.eqvAll]
 |x::xs,[]=>by simp[PyData.eqvAll]
 | x::xs,y::ys=>by
  simp only[List.map_cons,PyData.eqvAll,PyData.eqv,q7k xs ys,List.cons.injEq];by_cases h:x=y
  ·subst h;simp
  ·have:(x==y)=false:=beq_eq_false_iff_ne.mpr h;rw[this];simp[h]
theorem qk3(xs ys:List Int):eqD (.lst (xs.map D.int)) (.lst (ys.map D.int))=some (decide (xs=ys)):=by have h1:SeqAt.shaped (.list (xs.map PyData.int))=true:=q71 xs;have h2:SeqAt.shaped (.list (ys.map PyData.int))=true:=q71 ys;simp only[eqD,D.toP,q9f,Option.map_some];rw[if_pos ⟨h1,h2⟩];simp only[PyData.eqv,q7k]
section
variable{α β:Type}{a:Rho->Option (α×Rho)}{k:α->Rho->Option (β×Rho)}{ρ:Rho}{fa fb fc:RhD}{ga gb:RhB}{fs:RhL}{g g':D->D->Option D}{g1:D->Option D}{gl:D->Option (List D)}{g2:D->D->Option (List D)}{fl fh:Rho->Option (Option Int×Rho)}
theorem q0x:q1l a k ρ=(a ρ).bind λp=>k p.1 p.2:=by unfold q1l;cases a ρ<;>rfl
theorem qtl{x:α}:mRet x ρ=some (x,ρ):=rfl
theorem q1r{o:Option α}:q2f o ρ=o.map λx=>(x,ρ):=by cases o<;>rfl
theorem qm2{i:Nat}:mVar i ρ=(ρ[i]?).join.map λd=>(d,ρ):=by
 unfold mVar;cases h:ρ[i]? with
 |none=>rfl
 |some o=>cases o<;>rfl
theorem qtn:mOp2 g fa fb ρ=(fa ρ).bind λp=>(fb p.2).bind λq=>(g p.1 q.1).map λx=>(x,q.2):=by unfold mOp2;rw[q0x];congr 1;funext p;rw[q0x];congr 1;funext q;rw[q1r]
theorem qto:mOp1 g1 fa ρ=(fa ρ).bind λp=>(g1 p.1).map λx=>(x,p.2):=by unfold mOp1;rw[q0x];congr 1;funext p;rw[q1r]
theorem qnz:q7d gl fa ρ=(fa ρ).bind λp=>(gl p.1).map λx=>(x,p.2):=by unfold q7d;rw[q0x];congr 1;funext p;rw[q1r]
theorem qny:q7t g2 fa fb ρ=(fa ρ).bind λp=>(fb p.2).bind λq=>(g2 p.1 q.1).map λx=>(x,q.2):=by unfold q7t;rw[q0x];congr 1;funext p;rw[q0x];congr 1;funext q;rw[q1r]
def ixO:D->D->Option D
 |.lst xs,.int j=>atI xs j
 |_,_=>none
theorem qts{i:Nat}:mIxO i fb ρ=(fb ρ).bind λq=>((q.2[i]?).join).bind λx=>(ixO x q.1).map λz=>(z,q.2):=by
 unfold mIxO;rw[q0x];congr 1;funext q;rw[q0x,qm2];cases(q.2[i]?).join with
 |none=>rfl
 |some x=>show q2f _ _=_;rw[q1r];first|rfl|(cases x<;>(cases q.1<;>rfl))
def blO:D->Option Bool
 |.bl b=>some b
 |_=>none
theorem qhi:q0q fa ρ=(fa ρ).bind λp=>(blO p.1).map λx=>(x,p.2):=by
 unfold q0q;rw[q0x];congr 1;funext p;rw[q1r]
 first|rfl|(cases p.1<;>rfl)
theorem qtp:mNot ga ρ=(ga ρ).map λp=>(!p.1,p.2):=by unfold mNot;rw[q0x];cases ga ρ<;>rfl
theorem qtv:mAnd ga gb ρ=(ga ρ).bind λp=>if p.1=true then gb p.2 else some (false,p.2):=by unfold mAnd;rw[q0x];congr 1;funext p;split<;>rfl
theorem qw7:mOr ga gb ρ=(ga ρ).bind λp=>if p.1=true then some (true,p.2)else gb p.2:=by unfold mOr;rw[q0x];congr 1;funext p;split<;>rfl
theorem qo9:qbf fa fb ρ=(q0q fa ρ).bind λp=>if p.1=true then fb p.2 else some (.bl false,p.2):=by unfold qbf;rw[q0x];congr 1;funext p;split<;>rfl
theorem qo0:qjg fa ρ=(q0q fa ρ).map λp=>(.bl (!p.1),p.2):=by unfold qjg;rw[q0x];cases q0q fa ρ<;>rfl
theorem qw9:mIf ga fa fb ρ=(ga ρ).bind λp=>if p.1=true then fa p.2 else fb p.2:=by unfold mIf;rw[q0x];congr 1;funext p;split<;>rfl
theorem qtq:mNil ρ=some ([],ρ):=rfl
theorem qo6:q00 fa fs ρ=(fa ρ).bind λp=>(fs p.2).map λq=>(p.1::q.1,q.2):=by unfold q00;rw[q0x];congr 1;funext p;rw[q0x];cases fs p.2<;>rfl
theorem qth:mTup fs ρ=(fs ρ).bind λp=>if p.1.length<=sizeLine then some (.tup p.1,p.2)else none:=by unfold mTup;rw[q0x];congr 1;funext p;rw[q1r];split<;>rfl
theorem qtr:mLst fs ρ=(fs ρ).bind λp=>if p.1.length<=sizeLine then some (p.1,p.2)else none:=by unfold mLst;rw[q0x];congr 1;funext p;rw[q1r];split<;>rfl
theorem qw8:mOf fs ρ=(fs ρ).map λp=>(.lst p.1,p.2):=by unfold mOf;rw[q0x];cases fs ρ<;>rfl
theorem qo8{f:List D->Option D}:q0k f fs ρ=(fs ρ).bind λp=>(f p.1).map λx=>(x,p.2):=by unfold q0k;rw[q0x];congr 1;funext p;rw[q1r]
theorem qk2{f:List D->Option D}:q1y f fs ρ=(fs ρ).bind λp=>(qh2 (f p.1)).map λx=>(x,p.2):=by unfold q1y;rw[q0x];congr 1;funext p;rw[q1r]
def lsO:D->Option (List D)
 |.lst xs=>some xs
 |_=>none
theorem qk1{f:List D->List D->Option (D×List D)}{i:Nat}:q17 f i fs ρ=(fs ρ).bind λp=>((p.2[i]?).join.bind lsO).bind λxs=>(f xs p.1).map λr=>(r.1,p.2.set i (some (.lst r.2))):=by
 unfold q17;rw[q0x];congr 1;funext p;cases h:p.2[i]? with
 |none=>rfl
 | some o=>
  cases o with
  |none=>rfl
  | some d=>
   cases d with
   | lst xs=>
    show(match f xs p.1 with|some (d,ys)=>some (d,p.2.set i (some (.lst ys)))|none=>none)=_;show _=(f xs p.1).map _;cases f xs p.1<;>rfl
   |_=>rfl
theorem qo7{n:Nat}{js:List Nat}{bw:Option (Nat×Nat)}{fg:RhG}:q22 n js bw fs fg ga fa ρ=(fs ρ).bind λp=>if p.1.length<=sizeLine then q12 n js bw fg ga fa p.1 p.2 else none:=by unfold q22;rw[q0x]
theorem qti:mSeq fa ρ=(fa ρ).bind λp=>(dSeq p.1).map λx=>(x,p.2):=by unfold mSeq;rw[q0x];congr 1;funext p;rw[q1r];cases p.1<;>rfl
def rng1:List D->Option (List D)
 |[.int j]=>if big j=true then some (q15 0 j.toNat)else none
 |_=>none
theorem qhl:q30 fs ρ=(fs ρ).bind λp=>(rng1 p.1).map λx=>(x,p.2):=by unfold q30;rw[q0x];congr 1;funext p;rw[q1r];rfl
def rng2:List D->Option (List D)
 |[.int i,.int j]=>if(big i&&big j)=true then some (q15 i (j-i).toNat)else none
 |_=>none
theorem qhk:qbe fs ρ=(fs ρ).bind λp=>(rng2 p.1).map λx=>(x,p.2):=by unfold qbe;rw[q0x];congr 1;funext p;rw[q1r];rfl
def zip2:List D->Option (List D)
 | [x,y]=>match dSeq x,dSeq y with
  |some xs,some ys=>some (zipD xs ys)
  |_,_=>none
 |_=>none
theorem qtg:mZip fs ρ=(fs ρ).bind λp=>(zip2 p.1).map λx=>(x,p.2):=by unfold mZip;rw[q0x];congr 1;funext p;rw[q1r];rfl
def inO:D->Option (Option Int)
 |.int i=>some (some i)
 |_=>none
theorem qnw:q29 fa ρ=(fa ρ).bind λp=>(inO p.1).map λx=>(x,p.2):=by unfold q29;rw[q0x];congr 1;funext p;rw[q1r];cases p.1<;>rfl
theorem qw6:mSl fa fl fh ρ=(fa ρ).bind λp=>(fl p.2).bind λq=>(fh q.2).bind λr=>(dSl p.1 q.1 r.1).map λx=>(x,r.2):=by unfold mSl;rw[q0x];congr 1;funext p;rw[q0x];congr 1;funext q;rw[q0x];congr 1;funext r;rw[q1r]
theorem qk0:q87 g g' fa fb fc ρ=(fa ρ).bind λp=>(fb p.2).bind λq=>((g p.1 q.1).bind blO).bind λb=>if b=true then(fc q.2).bind λr=>(g' q.1 r.1).map λx=>(x,r.2)else some (.bl false,q.2):=by
 unfold q87;rw[q0x];congr 1;funext p;rw[q0x];congr 1;funext q;rw[q0x,qhi,q1r];cases g p.1 q.1 with
 |none=>rfl
 | some d=>
  cases d with
  | bl b=>
   cases b with
   | true=>
    show q1l fc (λz=>q2f (g' q.1 z)) q.2=_;rw[q0x];show _=(fc q.2).bind _;congr 1;funext r;rw[q1r]
   |false=>rfl
  |_=>rfl
theorem qbo{f h:RhO}:sSeq f h ρ=(f ρ).bind λo=>match o with
 |.nx ρ1=>h ρ1
 |o=>some o:=by
 unfold sSeq;cases f ρ with
 |none=>rfl
 |some o=>cases o<;>rfl
theorem qno{i:Nat}:sSet i fa ρ=(fa ρ).map λp=>.nx (p.2.set i (some p.1)):=by unfold sSet;cases fa ρ<;>rfl
theorem qnq{i:Nat}:sOwn i fs ρ=(fs ρ).bind λp=>if i<p.2.length then some (.nx (p.2.set i (some (.lst p.1))))else none:=by unfold sOwn;cases fs ρ<;>rfl
theorem qnu{fg:RhG}:sAsg fa fg ρ=(fa ρ).bind λp=>(fg p.1 p.2).map .nx:=by
 unfold sAsg;cases fa ρ with
 |none=>rfl
 | some p=>
  obtain⟨d,ρ1⟩:=p;show(match fg d ρ1 with|none=>none|some ρ2=>some (Out.nx ρ2))=(fg d ρ1).map _;cases fg d ρ1<;>rfl
theorem qm3{f h:RhO}:sIf ga f h ρ=(ga ρ).bind λp=>if p.1=true then f p.2 else h p.2:=by unfold sIf;cases ga ρ<;>rfl
theorem qnp:sRet fa ρ=(fa ρ).map λp=>.rt p.1 p.2:=by unfold sRet;cases fa ρ<;>rfl
theorem qjy:qe2 fs ρ=(fs ρ).map λp=>.rt (.lst p.1) p.2:=by unfold qe2;cases fs ρ<;>rfl
theorem qjx{i:Nat}:q5w i ρ=((ρ[i]?).join.bind lsO).map λd=>.rt (.lst d) (ρ.set i none):=by
 unfold q5w;cases h:ρ[i]? with
 |none=>rfl
 | some o=>
  cases o with
  |none=>rfl
  |some d=>cases d<;>rfl
theorem qd2{α:Type}(i:Nat)(x:Option α):(if isL ρ i=true then x else none)=((ρ[i]?).join.bind lsO).bind λ_=>x:=by
 unfold isL;cases h:ρ[i]? with
 |none=>rfl
 | some o=>
  cases o with
  |none=>rfl
  |some d=>cases d<;>rfl
theorem qnr:sNil ρ=some (.nx ρ):=rfl
theorem qtj:sBk ρ=some (.bk ρ):=rfl
theorem qjz:qar fa ρ=(fa ρ).map λp=>.nx p.2:=by unfold qar;cases fa ρ<;>rfl
theorem qns{gm:List D->List D->Option (List D)}{i:Nat}:sMut gm i fs ρ=((ρ[i]?).join.bind lsO).bind λ_=>(fs ρ).bind λp=>((p.2[i]?).join.bind lsO).bind λxs=>(gm xs p.1).map λys=>.nx (p.2.set i (some (.lst ys))):=by
 refine Eq.trans ?_ (qd2 _ _);unfold sMut;congr 1;cases fs ρ with
 |none=>rfl
 | some p=>
  show(match p.2[i]? with|some (some (.lst xs))=>_|_=>none)=_;show _=((p.2[i]?).join.bind lsO).bind _;cases h:p.2[i]? with
  |none=>rfl
  | some o=>
   cases o with
   |none=>rfl
   | some d=>
    cases d with
    | lst xs=>
     show(match gm xs p.1 with|some ys=>some (Out.nx _)|none=>none)=(gm xs p.1).map _;cases gm xs p.1<;>rfl
    |_=>rfl
theorem qnt{i:Nat}:sExt i fs ρ=((ρ[i]?).join.bind lsO).bind λ_=>(fs ρ).bind λp=>((p.2[i]?).join.bind lsO).bind λxs=>if xs.length+p.1.length<=sizeLine then some (.nx (p.2.set i (some (.lst (xs++p.1)))))else none:=by
 refine Eq.trans ?_ (qd2 _ _);unfold sExt;congr 1;cases fs ρ with
 |none=>rfl
 | some p=>
  show(match p.2[i]? with|some (some (.lst xs))=>_|_=>none)=_;show _=((p.2[i]?).join.bind lsO).bind _;cases h:p.2[i]? with
  |none=>rfl
  | some o=>
   cases o with
   |none=>rfl
   |some d=>cases d<;>rfl
def setI(x d k:D):Option D:=match x,k with
 |.lst xs,.int j=>(ixN xs.length j).map λm=>.lst (xs.set m d)
 |_,_=>none
theorem q94{i:Nat}:q4x i fa fb ρ=(fa ρ).bind λp=>(fb p.2).bind λq=>((q.2[i]?).join).bind λx=>(setI x p.1 q.1).map λy=>.nx (q.2.set i (some y)):=by
 unfold q4x;cases fa ρ with
 |none=>rfl
 | some p=>
  show(match fb p.2 with|some (.int k,ρ2)=>_|_=>none)=(fb p.2).bind _;cases fb p.2 with
  |none=>rfl
  | some q=>
   obtain⟨y,ρ2⟩:=q;cases y with
   | int j=>
    show(match ρ2[i]? with|some (some (.lst xs))=>_|_=>none)=((ρ2[i]?).join).bind _;cases h:ρ2[i]? with
    |none=>rfl
    | some o=>
     cases o with
     |none=>rfl
     | some d=>
           cases d with
           | lst xs=>
            show(match ixN xs.length j with|some m=>some (Out.nx _)|none=>none)=((ixN xs.length j).map _).map _;cases ixN xs.length j<;>rfl
           |_=>rfl
   | _=>
    show none=((ρ2[i]?).join).bind _;cases h:(ρ2[i]?).join with
    |none=>rfl
    |some x=>cases x<;>rfl
theorem qhj{fg:RhG}{f:RhO}:sFor fs fg f ρ=(fs ρ).bind λp=>q1p fg f p.1 p.2:=by unfold sFor;cases fs ρ<;>rfl
theorem qo4{i:Nat}{d:D}:gSet i d ρ=some (ρ.set i (some d)):=rfl
end
theorem qnh{n:Nat}(h:n<=1000000):(n<=sizeLine)=True:=eq_true (q1d h)
theorem q8p{n d:Nat}{k:Int}(h:0<=k):HT.sIx n d (some k)=min k.toNat n:=by show(if k<0 then(k+(n:Int)).toNat else min k.toNat n)=_;rw[if_neg (by omega)]
theorem qoc(xs:List D){k:Int}(h:0<=k):cutD xs none (some k)=xs.take k.toNat:=by unfold cutD;rw[q8p h,HT.sIx_none,List.drop_zero,Nat.sub_zero];exact List.take_eq_take_min.symm
theorem qhp(xs:List D){k:Int}(h:0<=k):cutD xs (some k) none=xs.drop k.toNat:=by
 unfold cutD;rw[q8p h,HT.sIx_none];by_cases hk:k.toNat<=xs.length
 ·rw[Nat.min_eq_left hk];exact List.take_of_length_le (by rw[xf];exact j8 _)
 ·rw[Nat.min_eq_right (by omega),List.drop_eq_nil_of_le (j8 _),List.drop_eq_nil_of_le (by omega)];simp
theorem q95{xs:List D}{k:Int}(h0:0<=k):dSl (.lst xs) none (some k)=some (.lst (xs.take k.toNat)):=by show some (D.lst (cutD xs none (some k)))=_;rw[qoc xs h0]
theorem qa9{xs:List D}{k:Int}(h0:0<=k):dSl (.lst xs) (some k) none=some (.lst (xs.drop k.toNat)):=by show some (D.lst (cutD xs (some k) none))=_;rw[qhp xs h0]
def Ite(K:FrG)(p:Addr):It:=
 ⟨λi H=>∃xs x,SqL K H p xs/\xs[i]? =some x,
  λi H v H'=>∃T x,v=.ref T/\H T=none/\H'=upd H T (.tup [.int (i:Int),x])/\∀xs,SqL K H p xs->xs[i]? =some x,
  λi H=>∃xs,SqL K H p xs/\xs.length<=i⟩
def qty(p e it:Addr)(i:Nat)(h:Heap):Prop:=(∃old,IsEnum h e it (i:Int) old)/\h.IsListIter it p i
theorem qf1{P:Program}{w:World}{K:FrG}{zp:List Expr}{x1:Nat}{pos:Pos}{p e it:Addr}(hei:e≠it):
 Turn P w K (.Tuple zp x1 pos) (Ite K p) [e,it] e (qty p e it) where
 mem:=by simp
 obj:=λi h st c hc=>by
  obtain⟨⟨old,he⟩,o,go,_,gd⟩:=st;simp only[List.mem_cons,List.not_mem_nil,or_false]at hc;rcases hc with rfl|rfl
  ·exact⟨_,he,λv e=>by cases e⟩
  ·exact⟨o,go,λv e=>by rw[gd]at e;cases e⟩
 keep:=λi h h' st k=>by obtain⟨⟨old,he⟩,o,go,r⟩:=st;exact⟨⟨old,k e (by simp) _ he⟩,o,k it (by simp) _ go,r⟩
 item:=by
  intro X hP hw hK hc i z5 s σ H E I hf st hg;subst hP hw hK;obtain⟨xs,x,q1,ex⟩:=hg;obtain⟨it1,r1,t1,_⟩:=I.list q1;obtain⟨u,eu,ru⟩:=r1.get ex;obtain⟨⟨old,he⟩,j1⟩:=st;refine wpAny_pyNext_enum_item he j1 t1.isList (x:=u) (by simpa using eu) hei λh' ho n1 tp sz kk=>?_;refine⟨_,rfl,?_⟩;refine wpAny_letOwnedTupleGo_enum ho λh'' z'' s''=>?_;have fresh:H s.heap.objs.size=none:=I.hok.fresh (j8 _);have zne:s.heap.objs.size≠e:=λq=>by have:=j6 he;rw[<-q]at this;exact jz _ this
  have keep:∀c o,c∉[e,it]->s.heap.get? c=some o->h''.get? c=some o:=λc o hc q=>by simp only[List.mem_cons,List.not_mem_nil,or_false,not_or]at hc;exact s''.extBut c o hc.1 (kk c o hc.1 hc.2 q)
  have tp':h''.get? s.heap.objs.size=some {cls:=.type "tuple",data:=.seq #[.int i s.toks,u]}:=s''.extBut _ _ zne tp;have I':Inv X z5 σ (upd H s.heap.objs.size (.tup [.int (i:Int),x])) {s with heap:=h'',toks:=s.toks+1}:=by
   refine I.step (g':=s.gens) (d':=s.drawn) (ch:=[e,it]) (λc hc=>?_) (λc o _ _ hc e _=>keep c o hc e) (λc o _ _ hc e _=>⟨o.slots,keep c o hc e⟩) (λc o _ e n=>?_) (λc o hc e=>⟨o,keep c o hc e⟩)
    (λc zs e=>?_) (λc o w' e=>?_) (λc ps e=>⟨#[],?_⟩) (λm hm=>?_) (λc o e=>?_) I.bare
   ·obtain⟨_,f1,f2,f3,f4,f5⟩:=hf c hc;exact⟨f3,f1,f4,f5⟩
   ·rw[q0r (jd (j6 e))];exact n
   ·rw[q0r (q1i e fresh)];exact e
   ·rw[q0r (q1i e fresh)];exact e
   ·rw[q0r (q1i e fresh),e];simp
   ·obtain⟨o,es,ep,ho,r⟩:=hm;exact⟨o,es,ep,keep _ o (λq=>(hf _ q).2.1 rfl) ho,r⟩
   ·by_cases hb:c=s.heap.objs.size
    ·subst hb;rw[q0u]at e;cases e;exact⟨by show 2<=sizeLine;decide,[.int i s.toks,u],.cons ⟨_,rfl⟩ (.cons ru .nil),⟨_,tp',⟨rfl,_,rfl⟩,rfl⟩⟩
    ·rw[q0r hb]at e;refine(I.hok c o e).stay (λd w' hd q=>keep d w' (λm=>?_) q) (λd q=>?_) λd zs q=>?_
     ·have n:=(hf d m).1;rcases hd with rfl|hd
      ·rw[n]at e;cases e
      ·rw[n]at hd;cases hd
     ·rw[q0r (q1i q fresh)];exact q
     ·rw[q0r (q1i q fresh)];exact q
  have lt:∀c∈[e,it],c<s.heap.objs.size:=λc hc=>by
   simp only[List.mem_cons,List.not_mem_nil,or_false]at hc;rcases hc with rfl|rfl
   ·exact j6 he
   ·obtain⟨o,e,_⟩:=j1;exact j6 e
  refine⟨.ref s.heap.objs.size,_,I',rfl,⟨_,x,rfl,fresh,rfl,λzs q=>by rw[I.list_inj q q1];exact ex⟩,?_,λc hc=>?_⟩
  ·obtain⟨o,go,r⟩:=n1;exact⟨⟨u,by simpa using z''⟩,o,s''.extBut _ _ hei.symm go,r⟩
  ·rw[q0r (jd (lt c hc))];exact(hf c hc).1
 done:=by
  intro X hP hw hK hc i z5 s σ H E I hf st hg;subst hP hw hK;obtain⟨xs,q1,hl⟩:=hg;obtain⟨it1,r1,t1,_⟩:=I.list q1;obtain⟨⟨old,he⟩,j1⟩:=st;have l1:=r1.length;refine wpAny_pyNext_enum_end (I.ok.hd hc) he j1 t1.isList (by simp;omega) λh' kk=>⟨rfl,?_⟩;have keep:∀c o,c∉[e,it]->s.heap.get? c=some o->h'.get? c=some o:=λc o hc q=>by simp only[List.mem_cons,List.not_mem_nil,or_false,not_or]at hc;exact kk c o hc.2 q
  show Inv X z5 σ H {s with heap:=h',toks:=s.toks};refine I.step (g':=s.gens) (d':=s.drawn) (ch:=[e,it]) (λc hc=>?_) (λc o _ _ hc e _=>keep c o hc e) (λc o _ _ hc e _=>⟨o.slots,keep c o hc e⟩) (λc o _ e n=>n) (λc o hc e=>⟨o,keep c o hc e⟩)
   (λc zs e=>e) (λc o w' e=>e) (λc ps e=>⟨#[],by rw[e];simp⟩) (λm hm=>?_) (λc o e=>?_) I.bare
  ·obtain⟨_,f1,f2,f3,f4,f5⟩:=hf c hc;exact⟨f3,f1,f4,f5⟩
  ·obtain⟨o,es,ep,ho,r⟩:=hm;exact⟨o,es,ep,keep _ o (λq=>(hf _ q).2.1 rfl) ho,r⟩
  ·refine(I.hok c o e).stay (λd w' hd q=>keep d w' (λm=>?_) q) (λd q=>q) λd zs q=>q;have n:=(hf d m).1;rcases hd with rfl|hd
   ·rw[n]at e;cases e
   ·rw[n]at hd;cases hd
 self:=λ_ _ _ _ _ st h=>by obtain⟨⟨old,he⟩,_⟩:=st;exact wpAny_pyIter_enum he h
section
variable{X:Cx}{a:Expr}{ta:TE}{p pos:Pos}{zp:List Expr}{x1:Nat}{tp:Pos}
def qtc(K:FrG)(ta:TE):TI:=λσ H R=>ta σ H λv H1=>∃p1,[v]=[V.ref p1]/\(∃xs,SqL K H1 p1 xs)/\R (Ite K p1) H1
theorem qay{K:FrG}(hK:X.K=K)(hg:Gl X "enumerate")(hm:X.mg "enumerate"=none)(ha:PE X a ta)(he:starEach [a] X.env=(false,eval a X.env)::starEach [] X.env:=by rfl)(hpl:(backTo pos (starEach [] X.env)).any (·.1)=false:=by rfl):
 PI X (.Tuple zp x1 tp) (.Call (.Name "enumerate" p) [a] [] pos) (qtc K ta):=by
 subst hK;intro z5 s σ H R I h;refine xj (q41 I hg hm (u:=.type "enumerate") (by rfl) ?_);refine PyProof.Rows.callWith_type1 (thn ((q01 ha q05 he) pos z5 s σ H (λvs H1=>∃p1,vs=[.ref p1]/\(∃xs,SqL X.K H1 p1 xs)/\R (Ite X.K p1) H1) I h) λus s1 h1=>?_) he hpl;obtain⟨vs,H1,I1,r1,p1,rfl,⟨xs,q1⟩,k⟩:=h1;obtain⟨u,rfl,ru⟩:=vals1 r1;cases(show u=Value.ref p1 from ru);obtain⟨it1,r1,t1,_⟩:=I1.list q1;have lt:p1<s1.heap.objs.size:=by obtain⟨o,e,_⟩:=t1.isList;exact j6 e
 refine call_enumerate_list t1.isList λh' hz j1 sz kk=>wpAny_pyIter_enum hz ?_;have I2:Inv X z5 σ H1 {s1 with heap:=h',toks:=s1.toks}:=I1.kept kk;refine⟨_,_,_,_,H1,rfl,I2,qf1 (p:=p1) (e:=s1.heap.objs.size+1) (it:=s1.heap.objs.size) (Nat.ne_of_gt (Nat.lt_succ_self _)),⟨⟨_,hz⟩,j1⟩,λc hc=>?_,k⟩;have le:s1.heap.objs.size<=c:=by simp only[List.mem_cons,List.not_mem_nil,or_false]at hc;rcases hc with rfl|rfl<;>first|exact j8 _|exact Nat.le_add_right _ _
 exact I1.fpOk le (I1.hok.fresh le)
end
def q43(xs:List D):List D:=xs.zipIdx.map λq=>D.tup [.int (q.2:Int),q.1]
section
variable{K:FrG}{O:List Nat}{t:TE}{fa:RhD}
theorem q5n{xs:List D}{i:Nat}:(q43 xs)[i]? =(xs[i]?).map λx=>D.tup [.int (i:Int),x]:=by
 unfold q43;rw[j9,List.getElem?_zipIdx];cases xs[i]? with
 |none=>rfl
 |some x=>simp
theorem qnk{R:Hp}{p:Addr}{xs:List V}{ds:List D}(h:SqL K R p xs)(r:Rps K R xs ds):ItOk K (Ite K p) R (q43 ds):=λH' R' s b i=>by
 have g1:=Same.sqL b (Same.sqL s h);have l1:=r.length;have len:(q43 ds).length=ds.length:=by simp[q43]
 refine⟨λe=>⟨xs,g1,by omega⟩,λd e=>?_⟩;rw[q5n]at e;cases e1:ds[i]? with
 |none=>rw[e1]at e;cases e
 | some d1=>
  rw[e1]at e;cases e;obtain⟨v1,a1,a2⟩:=r.get e1;refine⟨⟨xs,v1,g1,a1⟩,λx H'' y=>?_⟩;obtain⟨T,x1,rfl,hT,rfl,z1⟩:=y;have w1:=z1 xs g1;rw[a1]at w1;cases w1;have y:=Ext.new (o:=.tup [.int (i:Int),v1]) b hT;exact⟨_,y,.tup q0u (.cons (.int _) (.cons ((a2.mono s).mono y.r) .nil))⟩
def q7u(f:RhD):RhL:=q1l f λd=>q2f (match d with
 |.lst xs=>some (q43 xs)
 |_=>none)
theorem qbc(h:ME K O t fa):MI K O (qtc K t) (q7u fa):=λZ σ H R ρ ds ρ' Q S e k=>by
 obtain⟨d,ρ1,e1,e⟩:=q09 e;obtain⟨e2,rfl⟩:=q0h e;cases d with
 | lst xs=>
  cases e2;refine h Z σ H R ρ _ _ _ S e1 λv H1 R1 S1 st1 r1=>?_;obtain⟨_,_,rfl,q,r⟩:=r1.isL;exact⟨_,rfl,⟨_,Same.sqL S1.same q⟩,k _ H1 R1 S1 st1 (qnk q r)⟩
 |_=>cases e2
def qtx:D->Option (List D)
 |.lst xs=>some (q43 xs)
 |_=>none
theorem qo5{ρ:Rho}:q7u fa ρ=(fa ρ).bind λp=>(qtx p.1).map λx=>(x,p.2):=by unfold q7u;rw[q0x];congr 1;funext p;rw[q1r];cases p.1<;>rfl
end
section
variable{X:Cx}{K:FrG}{c:MC}{O O':List Nat}{t:TE}{fa:RhD}
end
section
variable{ρ:Rho}{fa fb:RhD}{fs:RhL}
def repO(xs:List D):D->Option (List D)
 |.int k=>if -(2^63)<=k/\k<2^63/\xs.length*k.toNat<=sizeLine then some (List.replicate k.toNat xs).flatten else none
 |_=>none
theorem qm4:mRep fs fb ρ=(fs ρ).bind λp=>(fb p.2).bind λq=>(repO p.1 q.1).map λx=>(x,q.2):=by unfold mRep;rw[q0x];congr 1;funext p;rw[q0x];congr 1;funext q;rw[q1r];cases q.1<;>rfl
theorem qc2{ρ1 ρ2:Rho}{xs zs:List D}{y:D}(h1:fs ρ=some (xs,ρ1))(h2:fb ρ1=some (y,ρ2))(h3:repO xs y=some zs):mRep fs fb ρ=some (zs,ρ2):=by rw[qm4,h1];show(fb ρ1).bind _=_;rw[h2];show(repO xs y).map _=_;rw[h3];rfl
theorem qat(x:D){k:Int}(h0:0<=k)(h:k<=1000000):repO [x] (.int k)=some (List.replicate k.toNat x):=by
 have hz:[x].length*k.toNat<=sizeLine:=by rw[List.length_singleton,Nat.one_mul];exact q1d (by omega)
 show(if -(2^63)<=k/\k<2^63/\[x].length*k.toNat<=sizeLine then some (List.replicate k.toNat [x]).flatten else none)=_;rw[if_pos ⟨by omega,by omega,hz⟩,List.flatten_replicate_singleton]
theorem q9b(xs ys:List Int):zipD (xs.map D.int) (ys.map D.int)=(xs.zip ys).map λq=>D.tup [.int q.1,.int q.2]:=by unfold zipD;rw[List.zipWith_map,List.zip,List.map_zipWith]
end
def qf5(C:Addr)(names:List Str):Sp:=λvs H Q _=>∃(x dx:Addr) (args:List V),vs=.ref x::args/\args.length=names.length/\H x=some (.ins C dx [])/\Q .non (upd H x (.ins C dx (names.zip args)))
section
variable{K:FrG}{R:Hp}{O:List Nat}{t ta:TE}{tr:TA}{fa fb:RhD}{fs:RhL}{E:XK}{C:Addr}{x m f:Str}
theorem Rfs.zip:∀{names:List Str} {vs:List V} {ds:List D},Rps K R vs ds->Rfs K R (names.zip vs) (names.zip ds)
 |[],_,_,_=>.nil
 |_::_,_,_,.nil=>.nil
 |_::_,_,_,.cons h r=>.cons h (Rfs.zip r)
theorem Rfs.lookup:∀{fs:List (Str×V)} {gs:List (Str×D)} {d:D},Rfs K R fs gs->gs.lookup f=some d->∃v,fs.lookup f=some v/\Rp K R v d
 |_,_,_,.nil,e=>by cases e
 | _,_,d,.cons (f:=g) (x:=v) (d:=d') h r,e=>by
  rw[List.lookup_cons]at e ⊢;cases q:f==g with
  | true=>
   rw[q]at e;cases e;exact⟨v,rfl,h⟩
  | false=>
   rw[q]at e;exact Rfs.lookup r e
theorem Rfs.lookup_none:∀{fs:List (Str×V)} {gs:List (Str×D)},Rfs K R fs gs->gs.lookup f=none->fs.lookup f=none
 |_,_,.nil,_=>rfl
 | _,_,.cons (f:=g) h r,e=>by
  rw[List.lookup_cons]at e ⊢;cases q:f==g with
  |true=>rw[q]at e;cases e
  | false=>
   rw[q]at e;exact Rfs.lookup_none r e
def qh1(x:Str)(names:List Str)(fs:RhL):RhD:=q1l fs λds=>q2f (if ds.length=names.length then some (.obj x (names.zip ds))else none)
theorem qgw{names:List Str}(n:PySem.W.nsIn K mainGlobals x=some (some (.ref C)))(h:MA K O tr fs):ME K O (qph C (qf5 C names) [] E tr) (qh1 x names fs):=λZ σ H R ρ d ρ' Q S e k=>by
 obtain⟨ds,ρ1,e1,e⟩:=q09 e;obtain⟨e2,rfl⟩:=q0h e;split at e2
 ·rename_i hl;cases e2;refine h Z σ H R ρ ds _ _ S e1 λvs H1 R1 S1 st1 r1=>?_;intro a dx ha hdx hne;refine⟨a,dx,vs,by rw[List.append_nil],by rw[r1.length,hl],q0u,rfl,?_⟩;rw[qez];have y1:=Ext.hid (o:=.own a) S1.sub hdx;have ha2:(upd H1 dx (HO.own a)) a=none:=by rw[q0r (Ne.symm hne)];exact ha
  have y2:=Ext.new (o:=.ins C dx (names.zip vs)) y1.s ha2;exact k _ _ _ ((S1.ext y1).ext y2) ((st1.trans y1.stp).trans y2.stp) (.obj n q0u (Rfs.zip (r1.mono y2.r)))
 ·cases e2
def qh0(x:Str):RhD:=mRet (.obj x [])
theorem qjd(n:PySem.W.nsIn K mainGlobals x=some (some (.ref C))):ME K O (ql9 C) (qh0 x):=λZ σ H R ρ d ρ' Q S e k=>by
 cases e;intro a dx ha hdx hne;have y1:=Ext.hid (o:=.own a) S.sub hdx;have ha2:(upd H dx (HO.own a)) a=none:=by rw[q0r (Ne.symm hne)];exact ha
 have y2:=Ext.new (o:=.ins C dx []) y1.s ha2;exact k _ _ _ ((S.ext y1).ext y2) (y1.stp.trans y2.stp) (.obj n q0u .nil)
def fldO(x f:Str):D->Option D
 |.obj y gs=>if y=x then gs.lookup f else none
 |_=>none
def mFld(x f:Str)(fa:RhD):RhD:=q1l fa λd=>q2f (fldO x f d)
theorem qls{C':Addr}(n:PySem.W.nsIn K mainGlobals x=some (some (.ref C)))(n':PySem.W.nsIn K mainGlobals x=some (some (.ref C'))):C'=C:=by rw[n]at n';cases n';rfl
theorem qgy(n:PySem.W.nsIn K mainGlobals x=some (some (.ref C)))(c:Cls K C)(na:NoAttr K C f)(h:ME K O ta fa):ME K O (tFld K ta f) (mFld x f fa):=λZ σ H R ρ d ρ' Q S e k=>by
 obtain⟨d0,ρ1,e1,e⟩:=q09 e;obtain⟨e2,rfl⟩:=q0h e;refine h Z σ H R ρ _ _ _ S e1 λv H1 R1 S1 st1 r1=>?_;cases d0 with
 | obj y gs=>
  have e3:(if y=x then gs.lookup f else none)=some d:=e2;split at e3
  ·rename_i hy;subst hy;cases r1 with
   | obj n' hR rf=>
    have hC:=qls n n';subst hC;obtain⟨v',hl,rv⟩:=rf.lookup e3;exact⟨_,_,_,_,v',rfl,S1.sub _ _ hR,c,na,hl,k v' H1 R1 S1 st1 rv⟩
  ·cases e3
 |_=>cases e2
def q7r(x m:Str)(f:List D->Option D)(d:D)(ds:List D):Option D:=match d with
 |.obj y gs=>if y=x/\gs.lookup m=none then f (d::ds)else none
 |_=>none
def q56(x m:Str)(f:List D->Option D)(fa:RhD)(fs:RhL):RhD:=q1l fa λd=>q1l fs λds=>q2f (q7r x m f d ds)
theorem qbd{k0:Nat}{g:List D->Option D}(n:PySem.W.nsIn K mainGlobals x=some (some (.ref C)))(hg:q1q k0 g)(h:ME K O ta fa)(ha:MA K O tr fs):ME K O (qpg C m (spP K false k0 g) [] E ta tr) (q56 x m g fa fs):=λZ σ H R ρ d ρ' Q S e k=>by
 obtain⟨d0,ρ1,e1,e⟩:=q09 e;obtain⟨ds,ρ2,e2,e⟩:=q09 e;obtain⟨e3,rfl⟩:=q0h e;refine h Z σ H R ρ _ _ _ S e1 λv H1 R1 S1 st1 r1=>?_;cases d0 with
 | obj y gs=>
  have e4:(if y=x/\gs.lookup m=none then g (.obj y gs::ds)else none)=some d:=e3;split at e4
  ·rename_i hy;obtain⟨hy,hm⟩:=hy;subst hy;have r1':=r1;cases r1 with
   | obj n' hR rf=>
    have hC:=qls n n';subst hC;refine⟨_,_,_,rfl,S1.sub _ _ hR,rf.lookup_none hm,?_⟩;refine ha Z σ H1 R1 ρ1 ds _ _ S1 e2 λvs H2 R2 S2 st2 r2=>?_;rw[List.append_nil];have r3:=Rps.cons (r1'.mono st2.r) r2;exact⟨by rw[r3.length];exact hg _ d e4,R2,_,d,S2.sub,r3,e4,λv H3 R3 y q=>k v H3 R3 (S2.ext y) ((st1.trans st2).trans y.stp) q⟩
  ·cases e4
 |_=>cases e3
def mOrE(f g:RhD):RhD:=λρ=>match f ρ with
 |some r=>some r
 |none=>g ρ
theorem qlv{t1 t2:TE}(h1:ME K O t1 fa)(h2:ME K O t2 fb):ME K O (λσ H Q=>t1 σ H Q∨t2 σ H Q) (mOrE fa fb):=λZ σ H R ρ d ρ' Q S e k=>by
 unfold mOrE at e;cases e1:fa ρ with
 | some q=>
  rw[e1]at e;cases e;exact .inl (h1 Z σ H R ρ d ρ' Q S e1 k)
 | none=>
  rw[e1]at e;exact .inr (h2 Z σ H R ρ d ρ' Q S e k)
theorem qo3{ρ:Rho}{names:List Str}:qh1 x names fs ρ=(fs ρ).bind λp=>(if p.1.length=names.length then some (D.obj x (names.zip p.1))else none).map λy=>(y,p.2):=by unfold qh1;rw[q0x];congr 1;funext p;rw[q1r]
theorem qtu{ρ:Rho}:mFld x f fa ρ=(fa ρ).bind λp=>(fldO x f p.1).map λy=>(y,p.2):=by unfold mFld;rw[q0x];congr 1;funext p;rw[q1r]
theorem qo2{ρ:Rho}{g:List D->Option D}:q56 x m g fa fs ρ=(fa ρ).bind λp=>(fs p.2).bind λq=>(q7r x m g p.1 q.1).map λy=>(y,q.2):=by unfold q56;rw[q0x];congr 1;funext p;rw[q0x];congr 1;funext q;rw[q1r]
theorem qtm{ρ:Rho}:mOrE fa fb ρ=(fa ρ).or (fb ρ):=by unfold mOrE;cases fa ρ<;>rfl
end
section
variable{X:Cx}{tg elt zg:Expr}{ifs:List Expr}{scope:Scope}{pos:Pos}{N N0:List Str}{js:List Nat}{sc:Scope}{wi:TI}{g:TG}{tt:TT}{te:TE}
end
end L2
namespace L2
def Bits(w:List Int):Prop:=∀b∈w,b=0∨b=1
def writ(w:List Int):Int:=w.foldl (λx b=>x*2+b) 0
theorem qex(w:List Int)(b:Int):writ (w++[b])=writ w*2+b:=by unfold writ;rw[List.foldl_append];rfl
def endR(m a:Int)(bs:List Int):Int:=bs.foldl (λx b=>(x+x+b) % m) a
theorem q7l(m a:Int)(bs:List Int)(b:Int):endR m a (bs++[b])=(endR m a bs+endR m a bs+b) % m:=by unfold endR;rw[List.foldl_append];rfl
theorem take_snoc{α:Type}{u:List α}{i:Nat}{b:α}(q:u[i]? =some b):u.take (i+1)=u.take i++[b]:=List.take_add_one.trans (by rw[q];rfl)
def q5v(a:Int)(w:List Int):Int:=w.foldl (λx b=>x*2+b) a
theorem q3m:∀(w:List Int) (a:Int),q5v a w=a*2^w.length+writ w
 |[],a=>by simp[q5v,writ]
 | b::bs,a=>by have h1:=q3m bs (a*2+b);have h2:=q3m bs (0*2+b);have e1:q5v a (b::bs)=q5v (a*2+b) bs:=rfl;have e2:writ (b::bs)=q5v (0*2+b) bs:=rfl;rw[e1,e2,h1,h2,ji,Int.pow_succ];generalize (2:Int)^bs.length=p;generalize writ bs=z;rw[Int.add_mul,Int.add_mul,Int.zero_mul,Int.zero_mul,Int.zero_add,Int.mul_assoc,Int.mul_comm 2 p];omega
theorem q6t(m:Int):∀(w:List Int) (a:Int),endR m a w % m=q5v a w % m
 |[],a=>rfl
 | b::bs,a=>by
  have e1:endR m a (b::bs)=endR m ((a+a+b) % m) bs:=rfl;have e2:q5v a (b::bs)=q5v (a*2+b) bs:=rfl;rw[e1,e2,q6t m bs,q3m,q3m];have e3:a+a+b=a*2+b:=by omega
  rw[e3,Int.add_emod,Int.mul_emod,Int.emod_emod,<-Int.mul_emod,<-Int.add_emod]
theorem q3w{m:Int}(hm:0<m):∀(w:List Int) (a:Int),(0<=a/\a<m)->0<=endR m a w/\endR m a w<m
 |[],a,h=>h
 |b::bs,a,h=>q3w hm bs ((a+a+b) % m) ⟨Int.emod_nonneg _ (by omega),Int.emod_lt_of_pos _ hm⟩
theorem q5u:∀(w:List Int),(∀b∈w,b=0∨b=1)->0<=writ w/\writ w<2^w.length
 |[],_=>by decide
 | b::bs,h=>by
  have h1:=q5u bs λx hx=>h x (jh _ hx);have e2:writ (b::bs)=q5v (0*2+b) bs:=rfl;rw[e2,q3m,ji,Int.pow_succ];generalize (2:Int)^bs.length=p at h1 ⊢;rcases h b jg with rfl|rfl
  ·simp only[Int.zero_mul,Int.zero_add];omega
  ·simp only[Int.zero_mul,Int.zero_add,Int.one_mul];omega
theorem q6p(u v:List Int):writ (u++v)=writ u*2^v.length+writ v:=by
 have:writ (u++v)=q5v (writ u) v:=by unfold writ q5v;rw[List.foldl_append]
 rw[this,q3m]
theorem q9c:∀n,writ (List.replicate n 0)=0
 |0=>rfl
 | n+1=>by rw[List.replicate_succ',q6p,q9c n];rfl
theorem qho(n:Nat)(w:List Int):endR (2^n) 0 (w++List.replicate n 0)=0:=by have m0:(0:Int)<2^n:=Int.pow_pos (by decide);have h1:=q6t (2^n) (w++List.replicate n 0) 0;rw[q3m,Int.zero_mul,Int.zero_add,q6p,q9c,jj,Int.add_zero,Int.mul_emod_left]at h1;have h2:=q3w m0 (w++List.replicate n 0) 0 ⟨Int.le_refl _,m0⟩;rw[Int.emod_eq_of_lt h2.1 h2.2]at h1;exact h1
theorem qk4(n:Nat)(pre u:List Int)(hp:pre.length=n)(hb:Bits pre)(hu:Bits u)(k:Nat)(hk:k<=u.length):
 endR (2^n) (writ pre) (u.take k)=writ (((pre++u).drop k).take n):=by
 have m0:(0:Int)<2^n:=Int.pow_pos (by decide);have ha:=q5u pre hb;rw[hp]at ha;have h1:=q6t (2^n) (u.take k) (writ pre);have e1:q5v (writ pre) (u.take k)=writ (pre++u.take k):=by unfold writ q5v;rw[List.foldl_append]
 have e2:pre++u.take k=(pre++u).take k++((pre++u).drop k).take n:=by rw[<-List.take_add,Nat.add_comm k n,<-hp,List.take_length_add_append]
 have hl:(((pre++u).drop k).take n).length=n:=by rw[x6,xf,je];omega
 have hlt:=q5u (((pre++u).drop k).take n) λb h=>by
  rcases List.mem_append.mp (List.mem_of_mem_drop (List.mem_of_mem_take h))with h|h
  ·exact hb b h
  ·exact hu b h
 rw[hl]at hlt;rw[e1,e2,q6p,hl,Int.add_comm,Int.add_mul_emod_self_right,Int.emod_eq_of_lt hlt.1 hlt.2]at h1;have h2:=q3w m0 (u.take k) (writ pre) ha;rw[Int.emod_eq_of_lt h2.1 h2.2]at h1;exact h1
def parF:Nat->Nat->Nat
 |0,_=>0
 |f+1,n=>(n % 2+parF f (n / 2)) % 2
theorem q9t:∀f,parF f 0=0
 |0=>rfl
 |f+1=>by unfold parF;rw[show(0:Nat) / 2=0 from rfl,q9t f]
theorem qmp:∀f n,parF f n<2
 |0,_=>Nat.zero_lt_two
 |f+1,n=>Nat.mod_lt _ (by decide)
def sgn(win tap:Int):Int:=(parF 5 (win.toNat &&& tap.toNat):Nat)
def q73(row:List Int)(signs:List Int):List Int:=((signs.zip row).filter λq=>q.2==1).map (·.1)
theorem q9p(row taps:List Int)(g:Int->Int):q73 row (taps.map g)=((taps.zip row).filter λq=>q.2==1).map λq=>g q.1:=by unfold q73;rw[List.zip_map_left,List.filter_map,jl];rfl
def rowAt(rows:List (List Int))(k:Nat):List Int:=(rows[k % rows.length]?).getD []
def q47(n:Nat)(taps:List Int)(rows:List (List Int))(a:Int)(u:List Int)(k:Nat):List Int:=
 q73 (rowAt rows k) (taps.map (sgn (2*endR (2^n) a (u.take k)+u.getD k 0)))
def qpp(n:Nat)(taps:List Int)(rows:List (List Int))(a:Int)(u:List Int):List Int:=(List.range u.length).flatMap (q47 n taps rows a u)
theorem q42{α:Type}(f:Nat->List α)(k:Nat):(List.range (k+1)).flatMap f=(List.range k).flatMap f++f k:=by rw[List.range_succ,List.flatMap_append];simp
theorem q6s{α:Type}(f:Nat->List α)(m:Nat)(h:∀k,(f k).length<=m):∀n,((List.range n).flatMap f).length<=n*m
 |0=>by simp
 | n+1=>by rw[q42,je];have:=q6s f m h n;have:=h n;rw[Nat.succ_mul];omega
theorem q3s{u v:List Int}(hu:Bits u)(hv:Bits v):Bits (u++v):=λb h=>by
 rcases List.mem_append.mp h with h|h
 ·exact hu b h
 ·exact hv b h
theorem q3r(z:Nat):Bits (List.replicate z 0):=λb h=>.inl (List.eq_of_mem_replicate h)
def selK(taps:List Int)(rows:List (List Int))(k:Nat):List (Int×Int):=(taps.zip (rowAt rows k)).filter λq=>q.2==1
end L2
namespace L2
open PySem
def rowD(row:List Int):D:=.tup (row.map D.int)
def schD(r:Int)(taps:List Int)(rows:List (List Int))(e:Str):D:=.tup [.int r,.tup (taps.map D.int),.tup (rows.map rowD),.str e]
structure q2g(r:Int)(taps:List Int)(rows:List (List Int))(e:Str):Prop where
 r0:0<=r
 r4:r<=4
 t1:1<=taps.length
 t4:taps.length<=4
 tb:∀t∈taps,0<=t/\t<2*2^r.toNat
 m1:1<=rows.length
 m6:rows.length<=6
 rw:∀row∈rows,row.length=taps.length/\∀b∈row,b=0∨b=1
 en:e="open"∨e="ended"∨e="ring"
theorem q7j{P:Int->Prop}:∀{ys:List D},(∀y∈ys,∃t,y=.int t/\P t)->∃ts:List Int,ys=ts.map D.int/\∀t∈ts,P t
 |[],_=>⟨[],rfl,λ_ h=>nomatch h⟩
 | y::ys,h=>by
  obtain⟨t,rfl,ht⟩:=h y jg;obtain⟨ts,rfl,hs⟩:=q7j (P:=P) λz hz=>h z (jh _ hz);refine⟨t::ts,rfl,λu hu=>?_⟩;rcases List.mem_cons.mp hu with rfl|hu
  ·exact ht
  ·exact hs u hu
theorem s_or:eqD (.str "open") (.str "ring")=some false:=by rw[q2y (by decide+kernel) (by decide+kernel)];decide+kernel
theorem s_er:eqD (.str "ended") (.str "ring")=some false:=by rw[q2y (by decide+kernel) (by decide+kernel)];decide+kernel
theorem s_rr:eqD (.str "ring") (.str "ring")=some true:=by rw[q2y (by decide+kernel) (by decide+kernel)];decide+kernel
theorem s_oe:eqD (.str "open") (.str "ended")=some false:=by rw[q2y (by decide+kernel) (by decide+kernel)];decide+kernel
theorem s_ee:eqD (.str "ended") (.str "ended")=some true:=by rw[q2y (by decide+kernel) (by decide+kernel)];decide+kernel
theorem s_re:eqD (.str "ring") (.str "ended")=some false:=by rw[q2y (by decide+kernel) (by decide+kernel)];decide+kernel
def frst(r:Int)(e:Str)(w:List Int):Int:=if e="ring" then writ (w.drop (w.length-r.toNat))else 0
def qok(r:Int)(e:Str)(w:List Int):List Int:=if e="ended" then w++List.replicate r.toNat 0 else w
theorem qoy{α:Type}(xs:List α)(x:α):atI (xs++[x]) (-1)=some x:=by
 unfold atI ixN;have h1:¬((0:Int)<= -1):=by decide
 have h2:(-(((xs++[x]).length:Nat):Int)<= -1):=by rw[je,List.length_singleton];omega
 have h3:((-1:Int)+(((xs++[x]).length:Nat):Int)).toNat=xs.length:=by rw[je,List.length_singleton];omega
 rw[if_neg h1,if_pos h2,h3];show(xs++[x])[xs.length]? =some x;rw[xq (j8 _),Nat.sub_self];rfl
theorem qk5(n:Nat)(w:List Int)(hb:∀b∈w,b=0∨b=1)(hn:n<=w.length):endR (2^n) (writ (w.drop (w.length-n))) w=writ (w.drop (w.length-n)):=by
 have m0:(0:Int)<2^n:=Int.pow_pos (by decide);have hl:(w.drop (w.length-n)).length=n:=by rw[xf];omega
 have ha:=q5u (w.drop (w.length-n)) λb h=>hb b (List.mem_of_mem_drop h);rw[hl]at ha;generalize hz:writ (w.drop (w.length-n))=a at ha ⊢;have h1:=q6t (2^n) w a;have hw:writ w=writ (w.take (w.length-n))*2^n+a:=by have:=q6p (w.take (w.length-n)) (w.drop (w.length-n));rw[List.take_append_drop,hl,hz]at this;exact this
 have hp:(2:Int)^w.length=2^(w.length-n)*2^n:=by rw[<-Int.pow_add];congr 1;omega
 rw[q3m,hw,hp,<-Int.mul_assoc,<-Int.add_assoc,<-Int.add_mul,Int.add_comm,Int.add_mul_emod_self_right,Int.emod_eq_of_lt ha.1 ha.2]at h1;have h2:=q3w m0 w a ha;rw[Int.emod_eq_of_lt h2.1 h2.2]at h1;exact h1
def isRing(e:Str):Bool:=decide (e="ring")
def q0a(r:Int)(e:Str):Nat:=if e="ended" then r.toNat else 0
theorem qde(r:Int)(e:Str)(w:List Int):qok r e w=w++List.replicate (q0a r e) 0:=by
 unfold qok q0a;split
 ·rfl
 ·simp
theorem qoz{x:Int}(h:0<=x):Builtin.bitAnd x 1=x % 2:=by unfold Builtin.bitAnd;rw[decide_eq_true h,decide_eq_true (by decide:(0:Int)<=1)];show((x.toNat &&& 1:Nat):Int)=x % 2;rw[Nat.and_one_is_mod];omega
theorem qia{x y:Int}(h:0<=x)(g:0<=y):Builtin.bitAnd x y=((x.toNat &&& y.toNat:Nat):Int):=by unfold Builtin.bitAnd;rw[decide_eq_true h,decide_eq_true g]
theorem qid{x y:Int}(h:x=0∨x=1)(g:y=0∨y=1):Builtin.bitXor x y=(x+y) % 2:=by rcases h with rfl|rfl<;>rcases g with rfl|rfl<;>decide
theorem q3e{r:Int}(r0:0<=r)(r4:r<=4):(1:Int)<=2^r.toNat/\(2:Int)^r.toNat<=16:=by rcases(by omega:r=0∨r=1∨r=2∨r=3∨r=4)with rfl|rfl|rfl|rfl|rfl<;>decide
end L2
namespace L2
open PySem PySem.Spec PyProof.Rows
section
variable{prog:Program}{w:World}{A:Around}{E:Value->Shared->Prop}{s:Shared}{a₀:Array Keyed}
end
section
variable{X:Cx}{K:FrG}
end
section
variable{K:FrG}{O:List Nat}{t tb:TE}{fa fb:RhD}
end
section
variable{X:Cx}
end
section
variable{X:Cx}
end
section
variable{K:FrG}{O:List Nat}{t tb:TE}{fa fb:RhD}
end
section
variable{c:MC}{O O':List Nat}{te:TE}{fe:RhD}
end
section
variable{K:FrG}{O:List Nat}{tr:TA}{fs:RhL}{E:XK}{n:Nat}
end
section
variable{X:Cx}{K:FrG}{o e:Expr}{es:List Expr}{to:TE}{t:TA}{name:Str}{zu zq:Pos}{T id:String}{r:V->List V->Hp->VK->Prop}
end
end L2
namespace L2
open PySem PySem.NumText
end L2
namespace L2
open PySem PySem.NumText
end L2
namespace L2
open PySem PySem.Spec
section
variable{fa:RhD}{fl fh:Rho->Option (Option Int×Rho)}{ρ:Rho}
end
end L2
namespace L2
open PySem PySem.Spec
def DOk(n:Nat)(d:D):Prop:=∃p,d.toP=some p/\p.canLay0=true/\p.depth<=n
def DOks(n:Nat)(ds:List D):Prop:=∃ps,D.toPs ds=some ps/\PyData.canLayAll0 ps=true/\PyData.depthAll ps<=n
theorem DOk.int(n:Nat)(i:Int):DOk n (.int i):=⟨.int i,by simp only[D.toP],by simp only[PyData.canLay0],by simp only[PyData.depth];exact Nat.zero_le _⟩
theorem DOk.bl(n:Nat)(i:Bool):DOk n (.bl i):=⟨.bool i,by simp only[D.toP],by simp only[PyData.canLay0],by simp only[PyData.depth];exact Nat.zero_le _⟩
theorem DOk.str(n:Nat){x:Str}(h:PyData.strOk x=true):DOk n (.str x):=⟨.str x,by simp only[D.toP],by simp only[PyData.canLay0];exact h,by simp only[PyData.depth];exact Nat.zero_le _⟩
theorem DOks.nil(n:Nat):DOks n []:=⟨[],by simp only[D.toPs],by simp only[PyData.canLayAll0],by simp only[PyData.depthAll];exact Nat.zero_le _⟩
theorem DOks.cons{n:Nat}{d:D}{ds:List D}(h:DOk n d)(r:DOks n ds):DOks n (d::ds):=by obtain⟨p,h1,h2,h3⟩:=h;obtain⟨ps,g1,g2,g3⟩:=r;refine⟨p::ps,by simp only[D.toPs,h1,g1],by simp only[PyData.canLayAll0,h2,g2];rfl,?_⟩;simp only[PyData.depthAll];exact Nat.max_le.mpr ⟨h3,g3⟩
theorem DOks.lst{n:Nat}{ds:List D}(h:DOks n ds):DOk (n+1) (.lst ds):=by obtain⟨ps,g1,g2,g3⟩:=h;exact⟨.list ps,by simp only[D.toP,g1];rfl,by simp only[PyData.canLay0];exact g2,by simp only[PyData.depth];omega⟩
theorem DOks.tup{n:Nat}{ds:List D}(h:DOks n ds):DOk (n+1) (.tup ds):=by obtain⟨ps,g1,g2,g3⟩:=h;exact⟨.tuple ps,by simp only[D.toP,g1];rfl,by simp only[PyData.canLay0];exact g2,by simp only[PyData.depth];omega⟩
theorem DOk.le{n m:Nat}{d:D}(h:DOk n d)(hn:n<=m):DOk m d:=by obtain⟨p,h1,h2,h3⟩:=h;exact⟨p,h1,h2,by omega⟩
end L2
namespace L2
open PySem PySem.Spec
end L2
namespace L2
open PySem
inductive Told where
 |clear (b:Int)
 |gap
 |soft (z o:Int)
def q1a:Told->D
 |.clear b=>.tup [.str "clear",.int b]
 |.gap=>.tup [.str "gap"]
 |.soft z o=>.tup [.str "soft",.int z,.int o]
def objD:Told->D
 |.clear b=>.obj "Clear" [("bit",.int b)]
 |.gap=>.obj "Gap" []
 |.soft z o=>.obj "Soft" [("zero",.int z),("one",.int o)]
def q6i:Told->Int->Int
 |.clear b,x=>if x=b then 0 else 1
 |.gap,_=>0
 |.soft z o,x=>if x=1 then o else z
def q4z(ts:List Told)(bits:List Int):Int:=((ts.zip bits).map λq=>q6i q.1 q.2).sum
theorem q8x{x m:Str}{f:List D->Option D}{gs:List (Str×D)}{ds:List D}(h:gs.lookup m=none):q7r x m f (.obj x gs) ds=f (.obj x gs::ds):=if_pos ⟨rfl,h⟩
theorem q7a{x y m:Str}{f:List D->Option D}{gs:List (Str×D)}{ds:List D}(h:¬y=x):q7r x m f (.obj y gs) ds=none:=if_neg λq=>h q.1
theorem qbm{x f:Str}{gs:List (Str×D)}{d:D}(h:gs.lookup f=some d):fldO x f (.obj x gs)=some d:=(if_pos rfl).trans h
def q0c(taps:List Int)(rows:List (List Int))(N:Nat):List Int:=(List.range N).flatMap λk=>List.replicate (selK taps rows k).length (k:Int)
theorem q8j(xs ys:List D):zipD xs ys=(xs.zip ys).map λq=>D.tup [q.1,q.2]:=by unfold zipD;rw[List.zip,List.map_zipWith]
theorem q6o{α β γ δ:Type}(f:α->γ)(g:β->δ):∀(xs:List α) (ys:List β),(xs.map f).zip (ys.map g)=(xs.zip ys).map λq=>(f q.1,g q.2)
 |[],_=>rfl
 |_::_,[]=>rfl
 | x::xs,y::ys=>by show(f x,g y)::(xs.map f).zip (ys.map g)=(f x,g y)::(xs.zip ys).map _;rw[q6o f g xs ys]
theorem t_cg:eqD (.str "gap") (.str "clear")=some false:=by rw[q2y (by decide+kernel) (by decide+kernel)];decide+kernel
theorem t_cs:eqD (.str "soft") (.str "clear")=some false:=by rw[q2y (by decide+kernel) (by decide+kernel)];decide+kernel
theorem t_gs:eqD (.str "soft") (.str "gap")=some false:=by rw[q2y (by decide+kernel) (by decide+kernel)];decide+kernel
theorem t_cc:eqD (.str "clear") (.str "clear")=some true:=by rw[q2y (by decide+kernel) (by decide+kernel)];decide+kernel
theorem t_gg:eqD (.str "gap") (.str "gap")=some true:=by rw[q2y (by decide+kernel) (by decide+kernel)];decide+kernel
end L2
namespace L2
open PySem PySem.Spec PyProof.Rows
section
variable{X:Cx}
end
section
variable{K:FrG}{O:List Nat}{t tb:TE}{fa fb:RhD}
def mIfL(f:RhB)(g h:RhL):RhL:=q1l f λb=>if b=true then g else h
theorem qvy{tA:TT}{ga:RhB}{fa fb:RhL}(h:MT K O tA ga)(h1:MN K O t fa)(h2:MN K O tb fb):MN K O (tIf tA t tb) (mIfL ga fa fb):=λZ σ H R ρ d ρ' Q S e k=>by
 obtain⟨c,ρ1,e1,e⟩:=q09 e;refine h Z σ H R ρ c _ _ S e1 λH' R' S' st=>?_;cases c with
 |true=>exact iteT (h1 Z σ H' R' ρ1 d ρ' Q S' e λl vs H2 R2 S2 st2 a1 a2 a3 a4=>k l vs H2 R2 S2 (st.trans st2) (st.new a1) a2 a3 a4)
 |false=>exact iteF (h2 Z σ H' R' ρ1 d ρ' Q S' e λl vs H2 R2 S2 st2 a1 a2 a3 a4=>k l vs H2 R2 S2 (st.trans st2) (st.new a1) a2 a3 a4)
theorem qtt{ga:RhB}{fa fb:RhL}{ρ:Rho}:mIfL ga fa fb ρ=(ga ρ).bind λp=>if p.1=true then fa p.2 else fb p.2:=by unfold mIfL;rw[q0x];congr 1;funext p;split<;>rfl
end
end L2
namespace L2
open PySem PySem.Spec
end L2
namespace L2
open PySem PySem.Spec PyProof.Rows
section
variable{X:Cx}
end
section
variable{K:FrG}{O:List Nat}{t tb:TE}{fa fb:RhD}
end
section
variable{X:Cx}{z5:List (Addr×Obj)}{σ:St}{CX:CXT}{k:Nat}{f:Addr}{fd:FuncData}{ps:List Str}{sp:Sp}{dvs:List V}{ds:List Value}{E:XK}{x:Str}{p pos:Pos}{e:Expr}{es:List Expr}{t:TA}{i:Nat}
end
section
variable{K:FrG}{O:List Nat}{tr:TA}{fs:RhL}{E:XK}{n:Nat}
end
section
variable{prog:Program}{w:World}{A:Around}{E:Value->Shared->Prop}{s:Shared}
end
section
variable{X:Cx}{a b:Expr}{ta:TA}{p pos:Pos}{zp:List Expr}{x1:Nat}{tp:Pos}
end
section
variable{K:FrG}{O:List Nat}{tr:TA}{fs:RhL}
end
end L2
namespace L2
open PySem PySem.Spec PySem.NumText
section
variable{K:FrG}{O:List Nat}{E:XK}
end
end L2
namespace L2
open PySem PySem.Spec PyProof.Rows
section
variable{c:MC}{O O':List Nat}{te:TE}{fa:RhD}
end
section
variable{M:Model}{A:Around}{E:Value->Shared->Prop}{s:Shared}{B:Heap}{env:Env}{outer l:List Env}{L e:Addr}{cls fl:Value}{Q:Unit->Shared->Prop}
end
section
variable{X:Cx}{z5:List (Addr×Obj)}{σ:St}{H H':Hp}{s:Shared}
end
section
variable{P:Program}{w:World}{K:FrG}{mg:Str->Option Value}{base:Heap}{N:List Str}{qual:Str}{scope:Scope}{f:Addr}{cd:Value}{A:Around}{outer:List Env}{s₀:Shared}{H₀:Hp}{E:XK}
end
section
variable{X:Cx}{tg elt zg:Expr}{ifs:List Expr}{scope:Scope}{pos:Pos}{N N0:List Str}{n:Nat}{js:List Nat}{sc:Scope}{wi:TI}{g:TG}{tt:TT}{te:TE}
end
section
variable{X:Cx}{tg elt zg:Expr}{ifs:List Expr}{scope:Scope}{pos:Pos}{N N0:List Str}{n:Nat}{js:List Nat}{sc:Scope}{wi:TI}{g:TG}{tt:TT}{te:TE}
end
@[irreducible] def QSs(X:Cx)(st:List Stmt)(t:TS):Prop:=PSs X st t
section
variable{X:Cx}{st:Stmt}{sts a b:List Stmt}{t u:TS}{tc:TT}{c tg zg:Expr}{wi:TI}{g:TG}{pos:Pos}
end
inductive Inn(K:FrG)(H R:Hp):List Addr->List (List D)->Prop
 |nil:Inn K H R [] []
 |cons {a:Addr} {as:List Addr} {vs:List V} {ds:List D} {dss:List (List D)}:H a=some (.lst vs)->R a=none->Rps K R vs ds->Inn K H R as dss->Inn K H R (a::as) (ds::dss)
structure Deep(K:FrG)(H R:Hp)(l:Addr)(as:List Addr)(dss:List (List D)):Prop where
 top:H l=some (.lst (as.map V.ref))
 rl:R l=none
 inn:Inn K H R as dss
 nd:(l::as).Nodup
theorem StR.put{K:FrG}{Z:Anc}{O:List Nat}{σ:St}{H R:Hp}{ρ:Rho}{a:Addr}{o:HO}(S:StR K Z O σ H R ρ)(hr:R a=none)(n:∀i,i∈O->σ[i]? ≠some (some (.ref a)))(z:Z.H0 a=none):StR K Z O σ (upd H a o) R ρ:=by
 have ne:∀b u,Z.H0 b=some u->b≠a:=λb u e q=>by rw[q,z]at e;cases e
 refine⟨λb u e=>?_,S.len,S.env,λi hi=>?_,S.dis,λb u e nl=>?_,S.ar,S.an,λb h=>?_,S.ao,S.ap⟩
 ·have q:b≠a:=λq=>by rw[q,hr]at e;cases e
  rw[q0r q];exact S.sub b u e
 ·obtain⟨l,vs,ds,h1,h2,h3,h4,h5⟩:=S.own i hi;have q:l≠a:=λq=>n i hi (by rw[h2,q]);exact⟨l,vs,ds,h1,h2,by rw[q0r q];exact h3,h4,h5⟩
 ·rw[q0r (ne b u e)];exact S.ah b u e nl
 ·have q:b≠a:=λq=>h (by rw[q];exact z);have l:=S.ad b h;unfold Liv at l ⊢;rw[q0r q];exact l
theorem Inn.has{K:FrG}{H R:Hp}{as:List Addr}{dss:List (List D)}(h:Inn K H R as dss):∀a∈as,∃vs,H a=some (.lst vs):=by
 induction h with
 |nil=>exact λ_ h=>nomatch h
 | cons h1 _ _ _ ih=>
  intro a ha;rcases List.mem_cons.mp ha with rfl|ha
  ·exact⟨_,h1⟩
  ·exact ih a ha
theorem Inn.wr{K:FrG}{H R:Hp}{as:List Addr}{dss:List (List D)}{b:Addr}{o:HO}(h:Inn K H R as dss)(n:b∉as):Inn K (upd H b o) R as dss:=by
 induction h with
 |nil=>exact .nil
 | cons h1 h2 h3 _ ih=>
  exact .cons (by rw[q0r λq=>n (by rw[q];exact jg)];exact h1) h2 h3 (ih λq=>n (jh _ q))
theorem Inn.len{K:FrG}{H R:Hp}{as:List Addr}{dss:List (List D)}(h:Inn K H R as dss):as.length=dss.length:=by
 induction h with
 |nil=>rfl
 |cons _ _ _ _ ih=>rw[ji,ji,ih]
theorem Inn.at{K:FrG}{H R:Hp}{as:List Addr}{dss:List (List D)}(h:Inn K H R as dss):∀{k:Nat} {a:Addr},as[k]? =some a->∃vs ds,dss[k]? =some ds/\H a=some (.lst vs)/\R a=none/\Rps K R vs ds:=by
 induction h with
 |nil=>intro k a e;simp at e
 | cons h1 h2 h3 _ ih=>
  intro k a e;cases k with
  | zero=>
   cases e;exact⟨_,_,rfl,h1,h2,h3⟩
  |succ k=>exact ih e
theorem Inn.setAt{K:FrG}{H R:Hp}{as:List Addr}{dss:List (List D)}{vs:List V}{ds:List D}(h:Inn K H R as dss)(r:Rps K R vs ds):∀{k:Nat} {a:Addr},as.Nodup->as[k]? =some a->Inn K (upd H a (.lst vs)) R as (dss.set k ds):=by
 induction h with
 |nil=>intro k a _ e;simp at e
 | @cons b _ _ _ _ h1 h2 h3 t ih=>
  intro k a nd e;obtain⟨n1,n2⟩:=List.nodup_cons.mp nd;cases k with
  | zero=>
   cases e;exact .cons q0u h2 r (t.wr n1)
  | succ k=>
   rw[List.getElem?_cons_succ]at e;have m:=xk e;have ne:b≠a:=λq=>n1 (by rw[q];exact m);exact .cons (by rw[q0r ne];exact h1) h2 h3 (ih n2 e)
theorem Deep.setAt{K:FrG}{H R:Hp}{l a:Addr}{as:List Addr}{dss:List (List D)}{vs:List V}{ds:List D}{k:Nat}(h:Deep K H R l as dss)(e:as[k]? =some a)(r:Rps K R vs ds):Deep K (upd H a (.lst vs)) R l as (dss.set k ds):=by obtain⟨n1,n2⟩:=List.nodup_cons.mp h.nd;have ne:l≠a:=λq=>n1 (by rw[q];exact xk e);exact⟨by rw[q0r ne];exact h.top,h.rl,h.inn.setAt r n2 e,h.nd⟩
theorem Inn.other{K:FrG}{H R:Hp}{as:List Addr}{dss:List (List D)}{b:Addr}{o:HO}(h:Inn K H R as dss)(n:b∉as)(hb:R b=none):Inn K H (upd R b o) as dss:=by
 have s:Same R (upd R b o):=λa u e=>by
  have q:a≠b:=λq=>by rw[q,hb]at e;cases e
  rw[q0r q];exact e
 induction h with
 |nil=>exact .nil
 | cons h1 h2 h3 _ ih=>
  exact .cons h1 (by rw[q0r λq=>n (by rw[q];exact jg)];exact h2) (h3.mono s) (ih λq=>n (jh _ q))
theorem StR.knowAll{K:FrG}{Z:Anc}{O:List Nat}{σ:St}{H:Hp}{ρ:Rho}:∀{as:List Addr} {dss:List (List D)} {R:Hp},StR K Z O σ H R ρ->Inn K H R as dss->as.Nodup->(∀a∈as,Z.H0 a=none/\∀j,j∈O->σ[j]? ≠some (some (.ref a)))->∃R1,StR K Z O σ H R1 ρ/\Same R R1/\Rps K R1 (as.map V.ref) (dss.map D.lst)/\∀b,b∉as->R1 b=R b
 | [],dss,R,S,h,_,_=>by
  have l:=h.len;cases dss with
  |cons x r=>simp at l
  |nil=>exact⟨R,S,Same.refl _,.nil,λ_ _=>rfl⟩
 | a::as,dss,R,S,h,nd,hz=>by
  cases h with
  | @cons _ _ vs ds dss h1 h2 h3 h4=>
   obtain⟨na,nd'⟩:=List.nodup_cons.mp nd;obtain⟨z1,z2⟩:=hz a jg;have s:Same R (upd R a (.lst vs)):=λb u e=>by
    have q:b≠a:=λq=>by rw[q,h2]at e;cases e
    rw[q0r q];exact e
   obtain⟨R1,S1,s1,r1,o1⟩:=StR.knowAll (S.know z1 h1 h2 z2) (h4.other na h2) nd' λb hb=>hz b (jh _ hb);refine⟨R1,S1,s.trans s1,.cons (.lst (SqL.of (s1 _ _ q0u)) ((h3.mono s).mono s1)) r1,λb hb=>?_⟩;have hb1:b≠a:=λq=>hb (by rw[q];exact jg);rw[o1 b λq=>hb (jh _ q),q0r hb1]
theorem Inn.stp{K:FrG}{O:List Nat}{σ:St}{H R H' R':Hp}{as:List Addr}{dss:List (List D)}(h:Inn K H R as dss)(s:Stp O σ H R H' R')(ow:∀a∈as,∀j,j∈O->σ[j]? ≠some (some (.ref a))):Inn K H' R' as dss:=by
 induction h with
 |nil=>exact .nil
 | @cons a as vs ds dss h1 h2 h3 _ ih=>
  refine .cons (s.h _ _ h1 (ow a jg)) ?_ (h3.mono s.r) (ih λb hb=>ow b (jh _ hb));cases q:R' a with
  |none=>rfl
  | some o=>
   rcases s.n a (by rw[q];exact λz=>nomatch z)with z|z
   ·exact absurd h2 z
   ·rcases z with z|⟨xs,z⟩<;>(rw[h1]at z;cases z)
structure StD(K:FrG)(Z:Anc)(O:List Nat)(i:Nat)(σ:St)(H R:Hp)(ρ:Rho)(l:Addr)(as:List Addr)(dss:List (List D)):Prop where
 st:StR K Z O σ H R ρ
 hi:i∉O
 no:ρ[i]? =some none
 at':σ[i]? =some (some (.ref l))
 dp:Deep K H R l as dss
 z0:∀a∈l::as,Z.H0 a=none
 ow:∀a∈l::as,∀j,j∈O->σ[j]? ≠some (some (.ref a))
section
variable{K:FrG}{Z:Anc}{O:List Nat}{i j:Nat}{σ:St}{H R H' R':Hp}{ρ ρ':Rho}{l:Addr}{as:List Addr}{dss:List (List D)}
theorem StD.stp(S:StD K Z O i σ H R ρ l as dss)(T:StR K Z O σ H' R' ρ')(s:Stp O σ H R H' R')(no:ρ'[i]? =some none):StD K Z O i σ H' R' ρ' l as dss:=by
 refine⟨T,S.hi,no,S.at',⟨s.h _ _ S.dp.top (S.ow l jg),?_,S.dp.inn.stp s λa ha=>S.ow a (jh _ ha),S.dp.nd⟩,S.z0,S.ow⟩;cases q:R' l with
 |none=>rfl
 | some o=>
  rcases s.n l (by rw[q];exact λz=>nomatch z)with z|z
  ·exact absurd S.dp.rl z
  ·rcases z with z|⟨xs,z⟩<;>(rw[S.dp.top]at z;cases z)
theorem StD.set(S:StD K Z O i σ H R ρ l as dss){v:V}{d:D}(hj:j∉O)(ij:j≠i)(r:Rp K R v d):StD K Z O i (σ.set j (some v)) H R (ρ.set j (some d)) l as dss:=
 ⟨S.st.set hj r,S.hi,by rw[jc ij];exact S.no,by rw[jc ij];exact S.at',S.dp,S.z0,λa ha k hk=>by rw[jc λ(q:j=k)=>hj (q▸hk)];exact S.ow a ha k hk⟩
theorem StR.blind{v:V}(S:StR K Z O σ H R ρ)(hj:j∉O):StR K Z O (σ.set j (some v)) H R (ρ.set j none):=by
 have ne:∀k,k∈O->j≠k:=λk hk z=>hj (z▸hk);refine⟨S.sub,by rw[jx,jx];exact S.len,λk e hk q=>?_,λk hk=>?_,λk m hk hm n l e=>?_,S.ah,S.ar,S.an,S.ad,λk hk hp l e=>?_,λk hk hp l e=>?_⟩
 ·by_cases hij:j=k
  ·subst hij;have hl:j<ρ.length:=by
    have:=(List.getElem?_eq_some_iff.mp q).1
    rwa [jx]at this
   rw[jw hl]at q;cases q
  ·rw[jc hij]at q ⊢;exact S.env k e hk q
 ·rw[jc (ne k hk),jc (ne k hk)];exact S.own k hk
 ·rw[jc (ne k hk)]at e;rw[jc (ne m hm)];exact S.dis k m hk hm n l e
 ·rw[jc (ne k hk)]at e;exact S.ao k hk hp l e
 ·rw[jc (ne k hk)]at e;exact S.ap k hk hp l e
theorem StD.wrAt{k:Nat}{a:Addr}{vs:List V}{ds:List D}(S:StD K Z O i σ H R ρ l as dss)(e:as[k]? =some a)(r:Rps K R vs ds):StD K Z O i σ (upd H a (.lst vs)) R ρ l as (dss.set k ds):=by have m:a∈l::as:=jh _ (xk e);obtain⟨_,_,_,_,hr,_⟩:=S.dp.inn.at e;exact⟨S.st.put hr (λj hj=>S.ow a m j hj) (S.z0 a m),S.hi,S.no,S.at',S.dp.setAt e r,S.z0,S.ow⟩
end
abbrev Fd:=Rho->List (List D)->Option (Rho×List (List D))
def MSD(K:FrG)(O:List Nat)(i:Nat)(t:TS)(f:Fd):Prop:=∀(Z:Anc) (E:Ends) (σ:St) (H R:Hp) (ρ:Rho) (l:Addr) (as:List Addr) (dss:List (List D)) (ρ':Rho) (zx:List (List D)),StD K Z O i σ H R ρ l as dss->f ρ dss=some (ρ',zx)->
 (∀σ' H' R' as',StD K Z O i σ' H' R' ρ' l as' zx->Same R R'->E.nx σ' H')->t E σ H
section
variable{K:FrG}{O:List Nat}{i j:Nat}{t u:TS}{te:TE}{tt:TT}{tr:TA}{f h:Fd}{fe:RhD}{fs:RhL}{ft:RhB}
def isFree(ρ:Rho)(i:Nat):Bool:=match ρ[i]? with
 |some none=>true
 |_=>false
theorem q5j{ρ:Rho}{i:Nat}(h:isFree ρ i=true):ρ[i]? =some none:=by
 unfold isFree at h;split at h
 ·assumption
 ·cases h
end
def spD(K:FrG)(n:Nat)(f:List D->Option (List (List D))):Sp:=λvs H Q _=>vs.length=n/\∃R ds dss,(∀a o,R a=some o->H a=some o)/\Rps K R vs ds/\f ds=some dss/\
 ∀l as H' R',Ext H R H' R'->(∀a∈l::as,H a=none)->Deep K H' R' l as dss->Q (.ref l) H'
def qep(o:Option (List (List D))):Option D:=o.map λdss=>.lst (dss.map D.lst)
theorem Deep.known{K:FrG}{H R H' R':Hp}{l:Addr}{as:List Addr}{dss:List (List D)}(x:Ext H R H' R')(z:∀a∈l::as,H a=none)(h:Deep K H' R' l as dss):∃R1,Ext H R H' R1/\Rp K R1 (.ref l) (.lst (dss.map D.lst)):=by
 have S:StR K ⟨H,R,λ_=>False,[]⟩ [] [] H' R' []:=⟨x.s,rfl,λi d _ q=>by simp at q,λi hi=>(nomatch hi),λi j hi=>(nomatch hi),λa o q _=>x.h a o q,x.r,x.n,λa q=>x.h.liv q,λi hi=>(nomatch hi),λi hi=>(nomatch hi)⟩;obtain⟨nl,nd⟩:=List.nodup_cons.mp h.nd;obtain⟨R1,S1,s1,r1,o1⟩:=S.knowAll h.inn nd λa ha=>⟨z a (jh _ ha),λj hj=>(nomatch hj)⟩;have e1:R1 l=none:=by rw[o1 l nl];exact h.rl
 have S2:=S1.know (z l jg) h.top e1 λj hj=>(nomatch hj);exact⟨_,⟨λa o q=>S2.ah a o q (λz=>z),S2.ar,S2.sub,S2.an⟩,.lst (SqL.of q0u) (r1.mono (Same.new e1))⟩
theorem qui{K:FrG}{n:Nat}{f:List D->Option (List (List D))}{vs:List V}{H:Hp}{Q:VK}{E:XK}(h:spP K false n (λds=>qep (f ds)) vs H Q E):spD K n f vs H Q E:=by
 obtain⟨hn,R,ds,d,sub,r,e,k⟩:=h;have e:qep (f ds)=some d:=e;cases q:f ds with
 |none=>rw[q]at e;cases e
 | some dss=>
  rw[q]at e;cases e;refine⟨hn,R,ds,dss,sub,r,q,λl as H' R' x z dp=>?_⟩;obtain⟨R1,x1,r1⟩:=dp.known x z;exact k _ H' R1 x1 r1
theorem qjw{K:FrG}{Nms:List Str}{n:Nat}{H R:Hp}{vs:List V}{ds:List D}(hn:vs.length=n)(hl:ds.length=n)(sub:∀a o,R a=some o->H a=some o)(r:Rps K R vs ds):StR K ⟨H,R,λ_=>False,[]⟩ [] (start Nms vs) H R (ds.map some++List.replicate (Nms.length-n) none):=by
 refine⟨sub,?_,λi d _ q=>?_,λi hi=>absurd hi (by simp),λi j hi=>absurd hi (by simp),λa o q _=>q,Same.refl _,λa q=>.inl q,λa q=>.refl q,λi hi=>absurd hi (by simp),λi hi=>absurd hi (by simp)⟩
 ·unfold start;rw[je,je,j4,j4,jj,jj,hn,hl]
 ·obtain⟨v,h1,h2⟩:=r.get (q70 q);exact⟨v,q6z h1,h2⟩
theorem qhx{X:Cx}{K:FrG}(hK:X.K=K)(hc:X.calm=true):q4i X (.builtin "sum") (λxs H Q=>∃(p:Addr) (ns:List Int),xs=[.ref p]/\SqT K H p (ns.map V.int)/\Q (.int ns.sum) H):=by
 subst hK;intro z5 s σ H xs us Q I r h;obtain⟨p,ns,rfl,hq,q⟩:=h;obtain⟨u,rfl,ru⟩:=vals1 r;cases ru;obtain⟨its,rv,pl,hz⟩:=I.tuple hq;have hh:X.A.in1.handled=none:=I.ok.hd hc;have hl:s.heap.IsTuple p its.toArray:=pl;have hlt:p<s.heap.objs.size:=by obtain⟨_,e,_⟩:=hl;exact j6 e
 refine call_sum_walkG (wpAny_pyIter_tuple hl ?_);refine⟨_,_,_,_,_,_,λi=>ns.getD i 0,rfl,Walks.tuple hh s.heap.objs.size p (jd hlt) its.toArray,⟨⟨_,jf _ rfl,rfl,rfl⟩,hl.push _⟩,λb hb=>?_,λi v hP=>q2j rv (by simpa using hP),λh' tk t' hk=>?_⟩
 ·show b<(s.heap.push _).objs.size;rw[jy];rcases List.mem_cons.mp hb with rfl|hb
  ·exact Nat.lt_succ_self _
  ·rw[List.mem_singleton.mp hb];exact Nat.lt_succ_of_lt hlt
 ·have len:its.toArray.size=ns.length:=by have:=rv.length;simp at this;simp;omega
  refine⟨.int ns.sum,H,I.kept (t':=tk) λb o e=>hk b o (λz=>?_) (j7 _ e),⟨t',?_⟩,q⟩
  ·have:=j6 e;rw[List.mem_singleton.mp z]at this;exact jz _ this
  ·rw[len,q54 ns _ (j8 _),List.take_length]
def qbp:D->Option D
 |.tup xs=>(q3d xs).map λns=>.int ns.sum
 |_=>none
theorem qod{K:FrG}:qew K (λxs H Q=>∃(p:Addr) (ns:List Int),xs=[.ref p]/\SqT K H p (ns.map V.int)/\Q (.int ns.sum) H) qbp:=λH x d u Q r e k=>by
 unfold qbp at e;split at e
 ·rename_i ds;obtain⟨a,xs,rfl,h,q⟩:=r.isT;cases z:q3d ds with
  |none=>rw[z]at e;cases e
  | some ns=>
   rw[z]at e;cases e;have ex:=q4o q z;subst ex;exact⟨_,ns,rfl,SqT.of h,k _ (.int _)⟩
 ·cases e
section
variable{K:FrG}{O T:List Nat}{i:Nat}{t:TS}{te:TE}{tr:TA}{g:TG}{f:Fd}{fe:RhD}{fs:RhL}{fg:RhG}
def q5m(i:Nat)(fg:RhG)(f:Fd):List D->Fd
 |[],ρ,dss=>some (ρ,dss)
 | d::r,ρ,dss=>match fg d ρ with
  | some ρ1=>if isFree ρ1 i=true then(match f ρ1 dss with
   |some p=>q5m i fg f r p.1 p.2
   |none=>none)else none
  |none=>none
def qd5(i:Nat)(fg:RhG)(fi:RhL)(f:Fd):Fd:=λρ dss=>match fi ρ with
 |some (ds,ρ1)=>if isFree ρ1 i=true then q5m i fg f ds ρ1 dss else none
 |none=>none
theorem StD.tgt{Z:Anc}{σ σ':St}{H R:Hp}{ρ ρ':Rho}{l:Addr}{as:List Addr}{dss:List (List D)}(S:StD K Z O i σ H R ρ l as dss)(S':StR K Z O σ' H R ρ')(n:∀j,j∉T->σ'[j]? =σ[j]?)(hT:∀k∈i::O,k∉T)(no:ρ'[i]? =some none):StD K Z O i σ' H R ρ' l as dss:=
 ⟨S',S.hi,no,by rw[n i (hT i jg)];exact S.at',S.dp,S.z0,λa ha k hk=>by rw[n k (hT k (jh _ hk))];exact S.ow a ha k hk⟩
theorem qja{wi:TI}{fi:RhL}{tb:TS}(hi:MI K O wi fi)(hg:MG K O T g fg)(hT:∀k∈i::O,k∉T)(hb:MSD K O i tb f):MSD K O i (tFor wi g tb) (qd5 i fg fi f):=λZ E σ H R ρ l as dss ρ' zx S e k=>by
 unfold qd5 at e;split at e
 ·rename_i ds ρ1 q;split at e
  ·rename_i z;have no:=q5j z;refine hi Z σ H R ρ ds ρ1 _ S.st q λJ H1 R1 S1 st1 ok=>?_;have S2:=S.stp S1 st1 no;refine⟨λn m σ' H'=>m=ds.length-n/\n<=ds.length/\∃R2 ρ2 as2 dss2,StD K Z O i σ' H' R2 ρ2 l as2 dss2/\Same R1 R2/\q5m i fg f (ds.drop n) ρ2 dss2=some (ρ',zx),⟨ds.length,by simp,Nat.zero_le _,R1,ρ1,as,dss,S2,Same.refl _,by rw[List.drop_zero];exact e⟩,?_⟩;rintro n m σ' H' ⟨rfl,hn,R2,ρ2,as2,dss2,S3,s3,e3⟩;obtain⟨o1,o2⟩:=ok H' R2 s3 S3.st.sub n;by_cases hlt:n<ds.length
   ·obtain⟨g1,g2⟩:=o2 ds[n] (jb hlt);rw[xr hlt]at e3;refine .inr ⟨g1,λσ3 H3=>∃R2 ρ2 as2 dss2,StD K Z O i σ3 H3 R2 ρ2 l as2 dss2/\Same R1 R2/\q5m i fg f (ds.drop (n+1)) ρ2 dss2=some (ρ',zx),?_,λx H3 y=>?_⟩
    ·rintro σ3 H3 ⟨R3,ρ3,as3,dss3,q1,q2,q3⟩;exact⟨ds.length-(n+1),by omega,rfl,hlt,R3,ρ3,as3,dss3,q1,q2,q3⟩
    ·obtain⟨R3,x3,r3⟩:=g2 x H3 y;have S4:=S3.stp (S3.st.ext x3) x3.stp S3.no;unfold q5m at e3;split at e3
     ·rename_i ρ4 e4;split at e3
      ·rename_i z4;have no4:=q5j z4;refine hg Z σ' H3 R3 ρ2 x ds[n] ρ4 _ S4.st r3 e4 λσ4 S5 n5=>?_;have S6:=S4.tgt S5 n5 hT no4;split at e3
       ·rename_i p e5;exact hb Z _ _ H3 R3 _ l as2 dss2 p.1 p.2 S6 e5 λσ5 H5 R5 as5 S7 s5=>⟨R5,p.1,as5,p.2,S7,(s3.trans x3.r).trans s5,e3⟩
       ·cases e3
      ·cases e3
     ·cases e3
   ·have en:n=ds.length:=by omega
    subst en;rw[List.drop_length]at e3;unfold q5m at e3;cases e3;exact .inl ⟨o1 rfl,k σ' H' R2 as2 S3 (st1.r.trans s3)⟩
  ·cases e
 ·cases e
def q7m(dss:List (List D))(n:Int)(d:D):Option (List (List D)):=if 0<=n then(match dss[n.toNat]? with
 |some ds=>if ds.length<sizeLine then some (dss.set n.toNat (ds++[d]))else none
 |none=>none)else none
def q4w(i:Nat)(fe:RhD)(fs:RhL):Fd:=λρ dss=>match fe ρ with
 | some (.int n,ρ0)=>if isFree ρ0 i=true then(match fs ρ0 with
  |some ([d],ρ1)=>if isFree ρ1 i=true then(q7m dss n d).map λx=>(ρ1,x)else none
  |_=>none)else none
 |_=>none
theorem qea(he:ME K O te fe)(ha:MA K O tr fs):MSD K O i (qf3 (tBM K "list" qav (tOp (rIx K) (tVar i) te) tr)) (q4w i fe fs):=λZ E σ H R ρ l as dss ρ' zx S e k=>by
 unfold q4w at e;split at e
 ·rename_i n ρ0 q0;split at e
  ·rename_i z0;have no0:=q5j z0;split at e
   ·rename_i d ρ1 q;split at e
    ·rename_i z;have no:=q5j z;cases w:q7m dss n d with
     |none=>rw[w]at e;cases e
     | some x=>
      rw[w]at e;cases e;unfold q7m at w;split at w
      ·rename_i hn0;split at w
       ·rename_i ds w1;split at w
        ·rename_i w2;cases w;refine⟨.ref l,S.at',he Z σ H R ρ (.int n) ρ0 _ S.st q0 λv0 H0 R0 S0 st0 r0=>?_⟩;cases r0;have T0:=S.stp S0 st0 no0;have ln:=T0.dp.inn.len;have hk:n.toNat<as.length:=by rw[ln];exact(List.getElem?_eq_some_iff.mp w1).1
         have ea:as[n.toNat]? =some as[n.toNat]:=jb hk;obtain⟨vs,ds2,g1,g2,g3,g4⟩:=T0.dp.inn.at ea;rw[w1]at g1;cases g1;refine .inl ⟨l,_,n,.ref as[n.toNat],rfl,rfl,SqL.of T0.dp.top,?_,?_⟩
         ·unfold atI;have e1:ixN (as.map V.ref).length n=some n.toNat:=by
           rw[j4];unfold ixN;rw[if_pos hn0,if_pos (by omega)]
          rw[e1];show(as.map V.ref)[n.toNat]? =_;rw[j9,ea];rfl
         ·refine⟨.inl ⟨rfl,vs,SqL.of g2⟩,ha Z σ H0 R0 ρ0 [d] _ _ T0.st q λws H1 R1 S1 st1 r1=>?_⟩;obtain⟨v,_,rfl,rv,rn⟩:=r1.isC;cases rn;have S2:=T0.stp S1 st1 no;obtain⟨vs2,ds3,g1,g2,g3,g4⟩:=S2.dp.inn.at ea;rw[w1]at g1;cases g1;exact⟨_,vs2,v,rfl,rfl,g2,by rw[g4.length];exact w2,k σ _ R1 as (S2.wrAt ea (g4.snoc rv)) (st0.r.trans st1.r)⟩
        ·cases w
       ·cases w
      ·cases w
    ·cases e
   ·cases e
  ·cases e
 ·cases e
end
def qla(i n:Nat)(js:List Nat)(wi:TI)(t:TS):TS:=tSeq (qme i n js wi (q6m 0) tYes (tLst tNil)) (tSeq t (tRet (tVar i)))
theorem Inn.empty{K:FrG}{H R:Hp}:∀{as:List Addr},(∀a∈as,H a=some (.lst []))->(∀a∈as,R a=none)->Inn K H R as (List.replicate as.length [])
 |[],_,_=>.nil
 |a::as,h,r=>.cons (h a jg) (r a jg) .nil (Inn.empty (λb hb=>h b (jh _ hb)) λb hb=>r b (jh _ hb))
theorem qen{K:FrG}{i n:Nat}{js:List Nat}{wi:TI}{fi:RhL}{t:TS}{f:Fd}{H R H1 R1:Hp}{σ:St}{ρ ρ1:Rho}{ds:List D}{dss:List (List D)}{Q:VK}(hw:MI K [] wi fi)(hm:MSD K [] i t f)(S:StR K ⟨H,R,λ_=>False,[]⟩ [] σ H1 R1 ρ)(e1:fi ρ=some (ds,ρ1))(hl:i<ρ1.length)(hz:ds.length<=sizeLine){ρ':Rho}(e:f (ρ1.set i none) (List.replicate ds.length [])=some (ρ',dss))
 (k:∀l as H' R',Ext H R H' R'->(∀a∈l::as,H a=none)->Deep K H' R' l as dss->Q (.ref l) H'):qla i n js wi t {nx:=λ_ H'=>Q .non H',rt:=Q} σ H1:=by
 refine hw _ σ H1 R1 ρ ds ρ1 _ S e1 λJ H2 R2 S2 st2 ok=>?_;refine⟨λc m ys H3=>m=ds.length-c/\c<=ds.length/\∃(R3:Hp) (as:List Addr),ys=as.map V.ref/\as.length=c/\as.Nodup/\(∀a∈as,H a=none)/\(∀a∈as,H3 a=some (.lst []))/\(∀a∈as,R3 a=none)/\Same R2 R3/\StR K ⟨H,R,λ_=>False,[]⟩ [] σ H3 R3 ρ1,
  ⟨ds.length,by simp,Nat.zero_le _,R2,[],rfl,rfl,List.nodup_nil,λ_ h=>(nomatch h),λ_ h=>(nomatch h),λ_ h=>(nomatch h),Same.refl _,S2⟩,?_⟩
 rintro c m ys H3 ⟨rfl,hc,R3,as,rfl,la,nd,a1,a2,a3,s3,S3⟩;obtain⟨o1,o2⟩:=ok H3 R3 s3 S3.sub c;by_cases hlt:c<ds.length
 ·obtain⟨g1,g2⟩:=o2 ds[c] (jb hlt);refine .inr ⟨g1,by rw[j4];omega,λys' H'=>∃(R3:Hp) (as:List Addr),ys'=as.map V.ref/\as.length=c+1/\as.Nodup/\(∀a∈as,H a=none)/\(∀a∈as,H' a=some (.lst []))/\(∀a∈as,R3 a=none)/\Same R2 R3/\StR K ⟨H,R,λ_=>False,[]⟩ [] σ H' R3 ρ1,?_,λx H4 y=>?_⟩
  ·rintro ys' H' ⟨R4,as4,q⟩;exact⟨ds.length-(c+1),by omega,rfl,hlt,R4,as4,q⟩
  ·obtain⟨R4,x4,r4⟩:=g2 x H4 y;have S4:=S3.ext x4;dsimp only[q6m,tYes];rw[if_pos rfl];refine⟨by show 0<=sizeLine;exact Nat.zero_le _,λp hp=>?_⟩;have b2:∀a∈as,H4 a=some (.lst []):=λa ha=>x4.h a _ (a2 a ha);have np:p∉as:=λq=>by have:=b2 p q;rw[hp]at this;cases this
   have b3:∀a∈as,R4 a=none:=λa ha=>by
    cases q:R4 a with
    |none=>rfl
    | some o=>
     rcases x4.n a (by rw[q];exact λz=>nomatch z)with z|z
     ·exact absurd (a3 a ha) z
     ·rcases z with z|⟨xs,z⟩<;>(rw[a2 a ha]at z;cases z)
   refine⟨R4,as++[p],by rw[jt];rfl,by rw[je,la];rfl,List.nodup_append.mpr ⟨nd,by simp,λu hu v hv q=>np (by rw[List.mem_singleton.mp hv]at q;exact q▸hu)⟩,λa ha=>?_,λa ha=>?_,λa ha=>?_,s3.trans x4.r,S4.ext (Ext.hid S4.sub hp)⟩
   ·rcases List.mem_append.mp ha with ha|ha
    ·exact a1 a ha
    ·rw[List.mem_singleton.mp ha];exact S4.new0 hp
   ·rcases List.mem_append.mp ha with ha|ha
    ·rw[q0r λq=>np (by rw[<-q];exact ha)];exact b2 a ha
    ·rw[List.mem_singleton.mp ha];exact q0u
   ·rcases List.mem_append.mp ha with ha|ha
    ·exact b3 a ha
    ·rw[List.mem_singleton.mp ha];exact S4.out hp
 ·have ec:c=ds.length:=by omega
  subst ec;refine .inl ⟨o1 rfl,by rw[j4,la];exact hz,λp hp=>?_⟩;have np:p∉as:=λq=>by have:=a2 p q;rw[hp]at this;cases this
  have x:=Ext.hid (o:=.lst (as.map V.ref)) S3.sub hp;have S4:=S3.ext x;have T:StD K ⟨H,R,λ_=>False,[]⟩ [] i (σ.set i (some (.ref p))) (upd H3 p (.lst (as.map V.ref))) R3 (ρ1.set i none) p as (List.replicate ds.length []):=by
   refine⟨S4.blind (by simp),by simp,List.getElem?_set_self hl,List.getElem?_set_self (by rw[S3.len];exact hl),⟨q0u,S3.out hp,?_,List.nodup_cons.mpr ⟨np,nd⟩⟩,λa ha=>?_,λa ha j hj=>(nomatch hj)⟩
   ·rw[<-la];exact Inn.empty (λa ha=>by rw[q0r λq=>np (by rw[<-q];exact ha)];exact a2 a ha) a3
   ·rcases List.mem_cons.mp ha with ha|ha
    ·rw[ha];exact S3.new0 hp
    ·exact a1 a ha
  refine hm _ _ _ _ R3 _ p as _ ρ' dss T e λσ' H' R' as' S' s'=>?_;exact⟨.ref p,S'.at',k p as' H' R' ⟨λa o q=>S'.st.ah a o q (λz=>z),S'.st.ar,S'.st.sub,S'.st.an⟩ S'.z0 S'.dp⟩
def qas(n N i:Nat)(fi:RhL)(f:Fd)(ds:List D):Option (List (List D)):=if ds.length=n then match fi (ds.map some++List.replicate (N-n) none)with
 | some (xs,ρ1)=>if i<ρ1.length/\xs.length<=sizeLine then(match f (ρ1.set i none) (List.replicate xs.length [])with
  |some p=>some p.2
  |none=>none)else none
 |none=>none
 else none
theorem qmf{n N i:Nat}{fi:RhL}{f:Fd}:q1q n (λds=>qep (qas n N i fi f ds)):=λds d e=>by
 have e:qep (qas n N i fi f ds)=some d:=e;unfold qas at e;split at e
 ·assumption
 ·cases e
theorem qf6{K:FrG}{n i m:Nat}{js:List Nat}{Nms:List Str}{wi:TI}{fi:RhL}{t:TS}{f:Fd}{vs:List V}{H:Hp}{Q:VK}{E:XK}(hw:MI K [] wi fi)(hm:MSD K [] i t f)(h:spD K n (qas n Nms.length i fi f) vs H Q E):qla i m js wi t {nx:=λ_ H'=>Q .non H',rt:=Q} (start Nms vs) H:=by
 obtain⟨hn,R,ds,dss,sub,r,e,k⟩:=h;unfold qas at e;split at e
 ·rename_i hl;split at e
  ·rename_i xs ρ1 e1;split at e
   ·rename_i hz;split at e
    ·rename_i p e2;cases e;exact qen hw hm (qjw hn hl sub r) e1 hz.1 hz.2 e2 k
    ·cases e
   ·cases e
  ·cases e
 ·cases e
theorem qgm:typeLookup (.type "list_reverseiterator") (Str.ofString "__len__")=pure none:=by kernel_rfl
theorem qjq:typeLookup (.type "list_reverseiterator") (Str.ofString "__length_hint__")=pure (some (.builtin "list_reverseiterator.__length_hint__")):=by kernel_rfl
def Itv(K:FrG)(a:Addr)(n:Nat):It:=
 ⟨λi H=>∃xs,SqL K H a xs/\xs.length=n/\i<n,λi H x H'=>H'=H/\∀xs,SqL K H a xs->xs[n-1-i]? =some x,λi H=>i=n⟩
theorem qii{P:Program}{w:World}{K:FrG}{tg:Expr}(a it:Addr)(n:Nat):Turn P w K tg (Itv K a n) [it] it (λi h=>i<=n/\h.IsRevIter it a ((n:Int)-1-i)) where
 mem:=by simp
 obj:=λi h st b hb=>by
  have e:b=it:=by simpa using hb
  subst e;obtain⟨_,o,e,c,d⟩:=st;exact⟨o,e,λv z=>by rw[d]at z;cases z⟩
 keep:=λi h h' st k=>⟨st.1,by obtain⟨o,e,c⟩:=st.2;exact⟨o,k it (by simp) o e,c⟩⟩
 item:=by
  intro X hP hw hK hc i z5 s σ H E I hf st hg;subst hP hw hK;obtain⟨xs,hq,hl,hi⟩:=hg;obtain⟨its,rv,p,hz⟩:=I.list hq;have hx:xs[n-1-i]? =some (xs[n-1-i]'(by omega)):=jb (by omega);obtain⟨u,hu,ru⟩:=rv.get hx;obtain⟨f0,f1,f2,f3,f4,f5⟩:=hf it (by simp);have st2:=st.2;have en:((n:Int)-1-i)=((n-1-i:Nat):Int):=by omega
  rw[en]at st2;refine wpAny_pyNext_rev_item st2 p.isList (x:=u) (by simpa using hu) λh' st' sb=>?_;have I1:Inv X z5 σ H {s with heap:=h'}:=I.turned (t':=s.toks) (λb o hb e=>(sb.2 b hb).trans e) f0 f1 f3 f4 f5;have st3:h'.IsRevIter it a ((n:Int)-1-(i+1:Nat)):=by
   have e2:((n:Int)-1-(i+1:Nat))=((n-1-i:Nat):Int)-1:=by omega
   rw[e2];exact st'
  obtain⟨o,e,c,d⟩:=id st';exact⟨u,rfl,qhe (s:={s with heap:=h'}) e c d (by decide) ⟨_,H,I1,ru,⟨rfl,λys hy=>by rw[I.list_inj hy hq];exact hx⟩,⟨by omega,st3⟩,λb hb=>(hf b hb).1⟩⟩
 done:=by
  intro X hP hw hK hc i z5 s σ H E I hf st hg;subst hP hw hK;have hi:i=n:=hg;obtain⟨f0,f1,f2,f3,f4,f5⟩:=hf it (by simp);have st2:=st.2;have en:((n:Int)-1-i)= -1:=by omega
  rw[en]at st2;exact wpAny_pyNext_rev_end (I.ok.hd hc) st2 λh' eb=>⟨rfl,I.turned (t':=s.toks) (λb o hb e=>eb b o hb e) f0 f1 f3 f4 f5⟩
 self:=λ_ _ _ _ _ st h=>wpAny_pyIter_revIter st.2 h
section
variable{X:Cx}{K:FrG}{a tg:Expr}{ta:TE}{p pos:Pos}
def iRev(K:FrG)(ta:TE):TI:=λσ H R=>ta σ H λv H1=>∃p1 xs,[v]=[V.ref p1]/\SqL K H1 p1 xs/\R (Itv K p1 xs.length) H1
theorem qql(hK:X.K=K)(hg:Gl X "reversed")(hm:X.mg "reversed"=none)(ha:PE X a ta)(he:starEach [a] X.env=(false,eval a X.env)::starEach [] X.env:=by rfl)(hpl:(backTo pos (starEach [] X.env)).any (·.1)=false:=by rfl):
 PI X tg (.Call (.Name "reversed" p) [a] [] pos) (iRev K ta):=by
 subst hK;intro z5 s σ H R I h;refine xj (q41 I hg hm (u:=.type "reversed") (by rfl) ?_);refine PyProof.Rows.callWith_type1 (thn ((q01 ha q05 he) pos z5 s σ H (λvs H1=>∃p1 xs,vs=[V.ref p1]/\SqL X.K H1 p1 xs/\R (Itv X.K p1 xs.length) H1) I h) λus s1 h1=>?_) he hpl;obtain⟨vs,H1,I1,r1,p1,xs,rfl,q1,k⟩:=h1;obtain⟨u,rfl,ru⟩:=vals1 r1;cases(show u=Value.ref p1 from ru);obtain⟨its,rv,pl,hz⟩:=I1.list q1;have ln:its.length=xs.length:=by have:=rv.length;omega
 refine call_reversed_list pl.isList (wpAny_pyIter_revIter ⟨_,jf _ rfl,rfl,rfl⟩ ?_);refine⟨s1.heap.objs.size,[s1.heap.objs.size],_,_,H1,rfl,I1.kept (t':=s1.toks) λb o e=>j7 _ e,qii p1 _ xs.length,⟨Nat.zero_le _,_,jf _ rfl,rfl,?_⟩,λb hb=>?_,k⟩
 ·show Data.fields #[Value.ref p1,rawInt ((its.toArray.size:Int)-1)]=_;rw[jq,ln];simp
 ·have e:b=s1.heap.objs.size:=by simpa using hb
  subst e;exact I1.fpOk (j8 _) (I1.hok.fresh (j8 _))
end
theorem qem{prog:Program}{w:World}{A:Around}{s:Shared}{R:Result->Shared->Prop}{I l S:Addr}{items:Array Value}{c₀:Nat}{res:Value}(hh:A.in1.handled=none)(hn:items.size<=sizeLine)(gI:s.heap.IsRevIter I l ((items.size:Int)-1))(gl:s.heap.IsList l items)(lI:l≠I)(SI:S≠I)(Sl:S≠l)
 (hS:s.heap.get? S=some {cls:=.type "list",data:=.seq #[] c₀})
 (hR:∀s' acc c',Moved [S,I] (λa b=>b=a) s s'->s'.heap.get? S=some {cls:=.type "list",data:=.seq acc c'}->ItemsOf (λi v=>items[items.size-1-i]? =some v) acc items.size->R (.ok (.ret res)) s'):
 wpAny (model prog w) A.in1 (Builtin.List.listExtendWith (.ref S) (.ref I) res) (λfin s'=>match fin with
  |.done f=>R (.ok f) s'
  |.again c'=>c'.quiet=true/\codeAny (model prog w) A c' R s') (λe s'=>R (.error e) s') s:=by
 have ty:s.TypeIs (.ref I) "list_reverseiterator":=by obtain⟨o,e,c,_⟩:=gI;exact⟨o,e,c⟩
 have W:=(Walks.listRev (prog:=prog) (w:=w) hh I l lI items).toS;unfold Builtin.List.listExtendWith;refine j3 (wpAny_typeOf ty ?_);have h1:Builtin.List.listSameRef (.ref S) (.ref I)=false:=by unfold Builtin.List.listSameRef;simp[SI]
 have h2:(Value.type "list_reverseiterator"==Value.type "list")=false:=by decide
 have h3:(Value.type "list_reverseiterator"==Value.type "tuple")=false:=by decide
 simp only[h1,h2,h3,Bool.or_false,Bool.false_eq_true,if_false];refine j3 (wpAny_pyIter_revIter gI ?_);refine j3 (xi ?_);unfold Builtin.List.listLengthHint;refine j3 (wpAny_specialOf ty qgm ?_);show wpAny _ _ (specialOf (.ref I) (Str.ofString "__length_hint__") >>= _) _ _ s;refine j3 (wpAny_specialOf ty qjq ?_);show wpAny _ _ (isInstance (.ref I) (.type "list_reverseiterator") >>= _) _ _ s;refine j3 (wpAny_isInstance ty (b:=true) (by kernel_rfl) ?_);show wpAny _ _ (pure false) _ _ s;refine j5 ?_;show wpAny _ _ (again (.builtin "list.extend.loop" ⟨[.ref S,.ref I,res],[]⟩)) _ _ s;refine j5 ⟨xu F.plain_extend_loop _,?_⟩;refine codeAny_extend_loopS W hn S (by simp;exact⟨SI,Sl⟩) res items.size 0 s #[] c₀ rfl (Nat.zero_le _) ⟨Nat.zero_le _,by simpa using gI,gl⟩ hS (.nil _) λs' acc c' m e i=>hR s' acc c' ?_ e i;exact m
theorem qjp{prog:Program}{w:World}{A:Around}{s:Shared}{R:Result->Shared->Prop}{I l S:Addr}{items:Array Value}(hh:A.in1.handled=none)(hn:items.size<=sizeLine)(gI:s.heap.IsRevIter I l ((items.size:Int)-1))(gl:s.heap.IsList l items)(lI:l≠I)(SI:S≠I)(Sl:S≠l)
 (hS:s.heap.get? S=some {cls:=.type "list",data:=.seq #[]})
 (hR:∀s' acc c',Moved [S,I] (λa b=>b=a) s s'->s'.heap.get? S=some {cls:=.type "list",data:=.seq acc c'}->ItemsOf (λi v=>items[items.size-1-i]? =some v) acc items.size->R (.ok (.ret .none)) s'):
 wpAny (model prog w) A.in1 (Builtin.«list.__init__» ⟨[.ref S,.ref I],[]⟩) (λfin s'=>match fin with
  |.done f=>R (.ok f) s'
  |.again c'=>c'.quiet=true/\codeAny (model prog w) A c' R s') (λe s'=>R (.error e) s') s:=by
 show wpAny _ _ (Builtin.List.listItems (.ref S) >>= _) _ _ s;refine j3 ?_;unfold Builtin.List.listItems;refine j3 (x8 hS rfl (j5 ?_));show wpAny _ _ (Builtin.List.listUpdate (.ref S) _ >>= _) _ _ s;unfold Builtin.List.listUpdate;refine j3 (kb hS rfl ?_ (by simp) (by simp));have hS2:=xw (Obj.mapSeq λ_=>#[]) hS rfl;have oth:∀b o,b≠S->s.heap.get? b=some o->(s.heap.update S (Obj.mapSeq λ_=>#[])).get? b=some o:=λb o hb e=>(xm s.heap (Obj.mapSeq λ_=>#[]) (Ne.symm hb)).trans e;refine j3 (xp ?_);refine qem (s:={s with heap:=s.heap.update S (Obj.mapSeq λ_=>#[])}) hh hn ?_ ?_ lI SI Sl hS2 λs' acc c' m e i=>hR s' acc c' ?_ e i
 ·obtain⟨o,e,c⟩:=gI;exact⟨o,oth I o (Ne.symm SI) e,c⟩
 ·obtain⟨o,e,c⟩:=gl;exact⟨o,oth l o (Ne.symm Sl) e,c⟩
 ·exact⟨λb o nb e=>m.heap b o nb (oth b o (λq=>nb (by rw[q];simp)) e),m.gens,m.drawn,m.os,m.toks⟩
theorem q98{prog:Program}{w:World}{A:Around}{E:Value->Shared->Prop}{s:Shared}{Q:Value->Shared->Prop}{I l:Addr}{items:Array Value}(hh:A.in1.in1.handled=none)(hn:items.size<=sizeLine)(gI:s.heap.IsRevIter I l ((items.size:Int)-1))(gl:s.heap.IsList l items)(lI:l≠I)
 (hQ:∀s' acc c',(∀b o,b≠I->s.heap.get? b=some o->s'.heap.get? b=some o)->s'.gens=s.gens->s'.drawn=s.drawn->s'.os=s.os->s'.heap.get? s.heap.objs.size=some {cls:=.type "list",data:=.seq acc c'}->ItemsOf (λi v=>items[items.size-1-i]? =some v) acc items.size->Q (.ref s.heap.objs.size) s'):
 wpAny (model prog w) A (call (.type "list") [.ref I]) Q E s:=by
 have ltI:I<s.heap.objs.size:=by obtain⟨o,e,_⟩:=gI;exact j6 e
 have ltl:l<s.heap.objs.size:=by obtain⟨o,e,_⟩:=gl;exact j6 e
 refine callType_codes F.called_list (F.typeCall_list_1 _) F.entry_list_init (Q₁:=λv s1=>v=.ref s.heap.objs.size/\s1={s with heap:=s.heap.push {cls:=.type "list",data:=.seq #[]}}) (code_list_new _ ⟨rfl,rfl⟩) λobj s1 h1=>?_;obtain⟨rfl,rfl⟩:=h1;have hS:=jf s.heap (o:={cls:=.type "list",data:=.seq #[]}) rfl;refine⟨⟨_,hS,rfl⟩,F.args_list_init_2 _ _,?_⟩;refine qjp (l:=l) (items:=items) hh hn ?_ ?_ lI (Nat.ne_of_gt ltI) (Nat.ne_of_gt ltl) hS λs' acc c' m e i=>⟨rfl,hQ s' acc c' (λb o nb eb=>?_) m.gens m.drawn m.os e i⟩
 ·obtain⟨o,e,c⟩:=gI;exact⟨o,j7 _ e,c⟩
 ·obtain⟨o,e,c⟩:=gl;exact⟨o,j7 _ e,c⟩
 ·refine m.heap b o (λq=>?_) (j7 _ eb);rcases List.mem_cons.mp q with q|q
  ·have:=j6 eb;rw[q]at this;exact jz _ this
  ·exact nb (List.mem_singleton.mp q)
section
variable{X:Cx}{K:FrG}{O:List Nat}{a:Expr}{ta:TE}{p p2 pos zl:Pos}{fa:RhD}
def qpj(K:FrG)(ta:TE):TE:=λσ H Q=>ta σ H λv H1=>∃p xs,[v]=[V.ref p]/\SqL K H1 p xs/\∀q,H1 q=none->Q (.ref q) (upd H1 q (.lst xs.reverse))
theorem qmo(hK:X.K=K)(hc:X.calm=true)(hg:Gl X "list")(hm:X.mg "list"=none)(hg2:Gl X "reversed")(hm2:X.mg "reversed"=none)(ha:PE X a ta)(he2:starEach [a] X.env=(false,eval a X.env)::starEach [] X.env:=by rfl)(hpl2:(backTo pos (starEach [] X.env)).any (·.1)=false:=by rfl)
 (he:starEach [.Call (.Name "reversed" p) [a] [] pos] X.env=(false,eval (.Call (.Name "reversed" p) [a] [] pos) X.env)::starEach [] X.env:=by rfl) (hpl:(backTo zl (starEach [] X.env)).any (·.1)=false:=by rfl):
 PE X (.Call (.Name "list" p2) [.Call (.Name "reversed" p) [a] [] pos] [] zl) (qpj K ta):=by
 subst hK;intro z5 s σ H Q I h;refine xj (q41 I hg hm (u:=.type "list") (by rfl) ?_);refine PyProof.Rows.callWith_type1 ?_ he hpl;rw[he];show wpAny _ _ (spliced ((false,eval (.Call (.Name "reversed" p) [a] [] pos) X.env)::backTo zl (starEach [] X.env))) _ _ s;refine Calls.spliced_cons ?_;refine xj (q41 I hg2 hm2 (u:=.type "reversed") (by rfl) ?_);refine PyProof.Rows.callWith_type1 (thn ((q01 ha q05 he2) pos z5 s σ H (λvs H1=>∃p1 xs,vs=[V.ref p1]/\SqL X.K H1 p1 xs/\∀q,H1 q=none->Q (.ref q) (upd H1 q (.lst xs.reverse))) I h) λus s1 h1=>?_) he2 hpl2;obtain⟨vs,H1,I1,r1,p1,xs,rfl,q1,k⟩:=h1;obtain⟨u,rfl,ru⟩:=vals1 r1;cases(show u=Value.ref p1 from ru);obtain⟨its,rv,pl,hz⟩:=I1.list q1;have ln:its.length=xs.length:=by have:=rv.length;omega
 have lp:p1<s1.heap.objs.size:=by obtain⟨o,e,_⟩:=pl.isList;exact j6 e
 refine call_reversed_list pl.isList (Calls.spliced_nil ?_);have gl:(s1.heap.push (revObj p1 ((its.toArray.size:Int)-1))).IsList p1 its.toArray:=by obtain⟨o,e,c⟩:=pl.isList;exact⟨o,j7 _ e,c⟩
 refine q98 (l:=p1) (items:=its.toArray) (I1.ok.hd hc) (by rw[jq];omega) ⟨_,jf _ rfl,rfl,rfl⟩ gl (jd lp) λs2 acc c' kp eg ed eo e i=>?_;have es:s2={s1 with heap:=s2.heap,toks:=s2.toks}:=by obtain⟨h2,g2,d2,t2,o2⟩:=s2;cases eg;cases ed;cases eo;rfl
 have hf:H1 (s1.heap.push (revObj p1 ((its.toArray.size:Int)-1))).objs.size=none:=I1.hok.fresh (by rw[jy];exact Nat.le_succ _);have ea:acc.toList=its.reverse:=by
  apply List.ext_getElem?;intro j;by_cases hj:j<its.length
  ·have hj2:j<acc.size:=by rw[i.1,jq];exact hj
   have v2:=i.2 j acc[j] (Array.getElem?_eq_getElem hj2);rw[List.getElem?_reverse hj];have v2':its[its.length-1-j]? =some acc[j]:=by simpa using v2
   rw[v2'];simp
  ·rw[xg (by simp;have:=i.1;simp at this;omega),xg (by simp;omega)]
 refine⟨.ref _,_,?_,rfl,k _ hf⟩;rw[es];refine I1.laid (t':=s2.toks) (λb o eb=>kp b o (jd (j6 eb)) (j7 _ eb)) (by rw[jy];exact Nat.le_succ _) ?_;refine⟨by rw[List.length_reverse];exact hz,its.reverse,c',rv.reverse,?_⟩;rw[e,<-ea]
theorem qt7{R:Hp}{b:Addr}{xs:List V}{ds:List D}(h:SqL K R b xs)(r:Rps K R xs ds):ItOk K (Itv K b xs.length) R ds.reverse:=λH' R' s sb i=>by
 have q:SqL K H' b xs:=Same.sqL sb (Same.sqL s h);have ln:=r.length;refine⟨λe=>by show i=xs.length;rw[e,List.length_reverse];exact ln.symm,λd e=>?_⟩;have hi:i<ds.length:=by
  have:=(List.getElem?_eq_some_iff.mp e).1
  rwa [List.length_reverse]at this
 rw[List.getElem?_reverse hi]at e;obtain⟨v,h1,h2⟩:=r.get e;refine⟨⟨xs,q,rfl,by omega⟩,λx H'' y=>?_⟩;obtain⟨rfl,y⟩:=y;have ex:=y xs q;rw[ln,h1]at ex;cases ex;exact⟨R',Ext.refl sb,h2.mono s⟩
def revO:D->Option (List D)
 |.lst xs=>some xs.reverse
 |_=>none
def mRev(f:RhD):RhL:=q1l f λd=>q2f (revO d)
theorem qsj(h:ME K O ta fa):MI K O (iRev K ta) (mRev fa):=λZ σ H R ρ ds ρ' Q S e k=>by
 obtain⟨x,ρ1,e1,e⟩:=q09 e;obtain⟨e3,rfl⟩:=q0h e;refine h Z σ H R ρ x _ _ S e1 λv H1 R1 S1 st1 r1=>?_;unfold revO at e3;split at e3
 ·cases e3;obtain⟨b,xs,rfl,q,r⟩:=r1.isL;exact⟨b,xs,rfl,Same.sqL S1.sub q,k _ H1 R1 S1 st1 (qt7 q r)⟩
 ·cases e3
theorem qtk{ρ:Rho}:mRev fa ρ=(fa ρ).bind λp=>(revO p.1).map λx=>(x,p.2):=by
 unfold mRev q1l q2f;cases fa ρ with
 |none=>rfl
 |some p=>cases h:revO p.1<;>simp[h]
theorem Rps.rev{R:Hp}:∀{xs:List V} {ds:List D},Rps K R xs ds->Rps K R xs.reverse ds.reverse
 |_,_,.nil=>.nil
 | _,_,.cons h r=>by rw[List.reverse_cons,List.reverse_cons];exact(Rps.rev r).snoc h
end
structure Kp(I S:Addr)(s0 s:Shared):Prop where
 heap:∀b o,b≠I->b≠S->s0.heap.get? b=some o->s.heap.get? b=some o
 gens:s.gens=s0.gens
 drawn:s.drawn=s0.drawn
 os:s.os=s0.os
structure Kq(s s':Shared):Prop where
 heap:∀b o,s.heap.get? b=some o->s'.heap.get? b=some o
 gens:s'.gens=s.gens
 drawn:s'.drawn=s.drawn
 os:s'.os=s.os
theorem Kp.on{I S:Addr}{s0 s s':Shared}(x:Kp I S s0 s)(heap:∀b o,b≠I->b≠S->s.heap.get? b=some o->s'.heap.get? b=some o)(g:s'.gens=s.gens)(d:s'.drawn=s.drawn)(o:s'.os=s.os):Kp I S s0 s':=
 ⟨λb u h1 h2 e=>heap b u h1 h2 (x.heap b u h1 h2 e),g.trans x.gens,d.trans x.drawn,o.trans x.os⟩
def CmpK(prog:Program)(w:World)(A:Around)(I S:Addr)(s0:Shared)(its:Array Value)(bt:Nat->Nat->Bool):Prop:=
 ∀(i j:Nat) (vi vj:Value) (s:Shared) (Q:Value->Shared->Prop) (E:Value->Shared->Prop),its[i]? =some vi->its[j]? =some vj->Kp I S s0 s->(∀s',Kq s s'->Q (.bool (bt i j)) s')->wpAny (model prog w) A (richCompare .Lt vi vj) Q E s
section
variable{prog:Program}{w:World}{A:Around}{R:Result->Shared->Prop}{I S l:Addr}{its:Array Value}{s0:Shared}{bt:Nat->Nat->Bool}{kw:List (Str×Value)}
abbrev StL(I l:Addr)(its:Array Value)(i:Nat)(h:Heap):Prop:=h.IsListIter I l i/\h.IsList l its
theorem StL.keep{i:Nat}{h h':Heap}(st:StL I l its i h)(k:∀b o,b=I∨b=l->h.get? b=some o->h'.get? b=some o):StL I l its i h':=by obtain⟨⟨o,e,c⟩,⟨o2,e2,c2⟩⟩:=st;exact⟨⟨o,k I o (.inl rfl) e,c⟩,⟨o2,k l o2 (.inr rfl) e2,c2⟩⟩
theorem qgu(hh:A.in1.handled=none)(lI:l≠I)(SI:S≠I)(Sl:S≠l)(zj:CmpK prog w A.in1 I S s0 its bt)(hR:∀v s',its[argBest bt (its.size-1)]? =some v->Kp I S s0 s'->R (.ok (.ret v)) s'):
 ∀(k j:Nat) (s:Shared) (vb:Value) (c:Nat),its.size-(j+1)=k->j+1<=its.size->StL I l its (j+1) s.heap->its[argBest bt j]? =some vb->s.heap.get? S=some {cls:=.type "list",data:=.seq #[vb,vb] c}->Kp I S s0 s->
   codeAny (model prog w) A (.builtin "min.loop" ⟨[.ref I,.none,.ref S],kw⟩) R s:=by
 intro k;induction k with
 | zero=>
  intro j s vb c hk hj st hb hS K;have en:j+1=its.size:=by omega
  refine k7 ki ?_;rw[k8 xh];show wpAny _ _ (seqItems? (.ref S) >>= _) _ _ s;refine j3 (x8 hS rfl ?_);refine j3 (k9 ?_);refine wpAny_pyNext_list_end hh st.1 st.2 (Array.getElem?_eq_none (by omega)) λh' eb=>?_;have hS2:h'.get? S=some {cls:=.type "list",data:=.seq #[vb,vb] c}:=eb S _ SI hS;show wpAny _ _ (updateSeq S (λ_=>#[]) >>= _) _ _ {s with heap:=h'};refine j3 (kb (s:={s with heap:=h'}) hS2 rfl ?_ (by simp[sizeLine_eq]) (by simp[sizeLine_eq]));refine j3 (xp ?_);refine j5 ?_;have ej:its.size-1=j:=by omega
  refine hR vb _ (by rw[ej];exact hb) (K.on (λb o h1 h2 e=>?_) rfl rfl rfl);exact(xm h' _ (Ne.symm h2)).trans (eb b o h1 e)
 | succ k ih=>
  intro j s vb c hk hj st hb hS K;have lt:j+1<its.size:=by omega
  refine k7 ki ?_;rw[k8 xh];show wpAny _ _ (seqItems? (.ref S) >>= _) _ _ s;refine j3 (x8 hS rfl ?_);refine j3 (k9 ?_);have hx:its[j+1]? =some its[j+1]:=Array.getElem?_eq_getElem lt;refine wpAny_pyNext_list_item st.1 st.2 (x:=its[j+1]) hx λh' st' sb=>?_;have kI:∀b o,b≠I->s.heap.get? b=some o->h'.get? b=some o:=λb o hb e=>(sb.2 b hb).trans e;have hS2:h'.get? S=some {cls:=.type "list",data:=.seq #[vb,vb] c}:=kI S _ SI hS;have L2:h'.IsList l its:=by obtain⟨o,e,q⟩:=st.2;exact⟨o,kI l o lI e,q⟩
  have K2:Kp I S s0 {s with heap:=h'}:=K.on (λb o h1 _ e=>kI b o h1 e) rfl rfl rfl;show wpAny _ _ (pure its[j+1] >>= _) _ _ {s with heap:=h'};refine j3 (j5 ?_);show wpAny _ _ (Sem.tryCatch _ _ >>= _) _ _ {s with heap:=h'};refine j3 (k9 (xi ?_));refine j3 (zj (j+1) (argBest bt j) _ vb _ _ _ hx hb K2 λs3 q3=>?_);refine j3 (xi (xx ?_));refine j3 (xp ?_);refine j5 ?_;have hS3:=q3.heap S _ hS2;have st3:StL I l its (j+1+1) s3.heap:=StL.keep ⟨st',L2⟩ λb o _ e=>q3.heap b o e;have K3:Kp I S s0 s3:=K2.on (λb o _ _ e=>q3.heap b o e) q3.gens q3.drawn q3.os;have eb:argBest bt (j+1)=if bt (j+1) (argBest bt j)=true then j+1 else argBest bt j:=by rw[argBest]
  cases q:bt (j+1) (argBest bt j)with
  | true=>
   rw[q,if_pos rfl]at eb;show wpAny _ _ (updateSeq S _ >>= _) _ _ s3;refine j3 (kb hS3 rfl ?_ (by simp[sizeLine_eq]) (by simp[sizeLine_eq]));refine j3 (xp ?_);refine j5 ⟨xu xh _,?_⟩;have hS4:=xw (Obj.mapSeq λ_=>#[its[j+1],its[j+1]]) hS3 rfl;refine ih (j+1) _ its[j+1] _ (by omega) lt (st3.keep λb o hb e=>?_) (by rw[eb];exact hx) hS4 (K3.on (λb o h1 h2 e=>(xm s3.heap _ (Ne.symm h2)).trans e) rfl rfl rfl);refine(xm s3.heap _ ?_).trans e;rcases hb with rfl|rfl
   ·exact SI
   ·exact Sl
  | false=>
   rw[q,if_neg (by decide)]at eb;show wpAny _ _ (letGo _ >>= _) _ _ s3;refine j3 (xp ?_);refine j5 ⟨xu xh _,?_⟩;exact ih (j+1) s3 vb c (by omega) lt st3 (by rw[eb];exact hb) hS3 K3
theorem qec(hh:A.in1.handled=none)(lI:l≠I)(SI:S≠I)(Sl:S≠l)(zj:CmpK prog w A.in1 I S s0 its bt)(hR:∀v s',its[argBest bt (its.size-1)]? =some v->Kp I S s0 s'->R (.ok (.ret v)) s')
 (hD:its.size=0->∃x d r,kw=(x,d)::r/\∀s',Kp I S s0 s'->R (.ok (.ret d)) s')
 {s:Shared} {c:Nat} (st:StL I l its 0 s.heap) (hS:s.heap.get? S=some {cls:=.type "list",data:=.seq #[] c}) (K:Kp I S s0 s):codeAny (model prog w) A (.builtin "min.loop" ⟨[.ref I,.none,.ref S],kw⟩) R s:=by
 refine k7 ki ?_;rw[k8 xh];show wpAny _ _ (seqItems? (.ref S) >>= _) _ _ s;refine j3 (x8 hS rfl ?_);refine j3 (k9 ?_);by_cases h0:its.size=0
 ·obtain⟨x,d,r,rfl,hE⟩:=hD h0;refine wpAny_pyNext_list_end hh st.1 st.2 (Array.getElem?_eq_none (by omega)) λh' eb=>?_;show wpAny _ _ (rule _ >>= _) _ _ {s with heap:=h'};refine j3 (wpAny_rule ?_);refine j5 ?_;exact hE _ (K.on (λb o h1 h2 e=>eb b o h1 e) rfl rfl rfl)
 ·have lt:0<its.size:=by omega
  have hx:its[0]? =some its[0]:=Array.getElem?_eq_getElem lt;refine wpAny_pyNext_list_item st.1 st.2 (x:=its[0]) hx λh' st' sb=>?_;have kI:∀b o,b≠I->s.heap.get? b=some o->h'.get? b=some o:=λb o hb e=>(sb.2 b hb).trans e;have hS2:h'.get? S=some {cls:=.type "list",data:=.seq #[] c}:=kI S _ SI hS;have L2:h'.IsList l its:=by obtain⟨o,e,q⟩:=st.2;exact⟨o,kI l o lI e,q⟩
  show wpAny _ _ (pure its[0] >>= _) _ _ {s with heap:=h'};refine j3 (j5 ?_);show wpAny _ _ (updateSeq S _ >>= _) _ _ {s with heap:=h'};refine j3 (kb (s:={s with heap:=h'}) hS2 rfl ?_ (by simp[sizeLine_eq]) (by simp[sizeLine_eq]));refine j5 ⟨xu xh _,?_⟩;have hS4:=xw (Obj.mapSeq λ_=>#[its[0],its[0]]) hS2 rfl;refine qgu hh lI SI Sl zj hR (its.size-1) 0 _ its[0] _ rfl lt (StL.keep ⟨st',L2⟩ λb o hb e=>?_) hx hS4 (K.on (λb o h1 h2 e=>(xm h' _ (Ne.symm h2)).trans (kI b o h1 e)) rfl rfl rfl);refine(xm h' _ ?_).trans e;rcases hb with rfl|rfl
  ·exact SI
  ·exact Sl
end
section
open PySem.SeqAt PySem.MeetsSeq PySem.MeetsSeq2 PySem.MeetsSeq3
theorem q3q{M:Model}{A:Around}{E:Value->Shared->Prop}{s:Shared}{l:Addr}{items:Array Value}{n:Nat}{dd:Option Addr}{sl:Array (Option Value)}{Q:Array Value->Shared->Prop}(h:s.heap.get? l=some {cls:=.type "list",dict:=dd,data:=.seq items n,slots:=sl})(q:Q items s):wpAny M A (Builtin.List.listItems (.ref l)) Q E s:=by unfold Builtin.List.listItems;exact j3 (x8 h rfl (j5 q))
theorem q63:∀{vs:List Value} {ns:List Int},IntsAre vs ns->∀{i:Nat} {a:Int},ns[i]? =some a->∃t,vs[i]? =some (.int a t):=by
 intro vs ns h;induction h with
 |nil=>intro i a e;simp at e
 | cons a t _ ih=>
  intro i b e;cases i with
  |zero=>cases e;exact⟨t,rfl⟩
  |succ i=>exact ih e
theorem qng(l b:Addr)(items zd:Array Value)(n n2:Nat)(dd dd2:Option Addr)(sl sl2:Array (Option Value))(ns ms:List Int)(hi:IntsAre items.toList ns)(hj:IntsAre zd.toList ms)(hl:ns.length=ms.length):
 ∀(k i:Nat),ns.length-i=k->i<=ns.length->Meets (Builtin.«list.__eq__.loop» ⟨[.ref l,.ref b,rawInt i,rawInt 0],[]⟩)
   (λ_ R s=>s.heap.get? l=some {cls:=.type "list",dict:=dd,data:=.seq items n,slots:=sl}/\s.heap.get? b=some {cls:=.type "list",dict:=dd2,data:=.seq zd n2,slots:=sl2}/\
     R (.ok (.ret (.bool (HT.lexLt (ns.drop i) (ms.drop i))))) s):=by
 have z1:items.size=ns.length:=by rw[<-hi.length];simp
 have z2:zd.size=ms.length:=by rw[<-hj.length];simp
 intro k;induction k with
 | zero=>
  intro i hk hle prog w A R s h;obtain⟨h1,h2,h⟩:=h;have e1:items[i]? =none:=Array.getElem?_eq_none (by omega);rw[List.drop_eq_nil_of_le (as:=ns) (by omega),List.drop_eq_nil_of_le (as:=ms) (by omega)]at h;show wpAny _ _ (Builtin.List.listItems (.ref l) >>= _) _ _ s;refine j3 (q3q h1 (j3 (q3q h2 ?_)));simp only[Int.toNat_natCast,e1];refine j3 (q3q h1 (j3 (q3q h2 (j5 ?_))));have ez:items.size=zd.size:=by omega
  show R (.ok (.ret (.bool (decide (items.size<zd.size))))) s;rw[ez,decide_eq_false (jz _)];exact h
 | succ k ih=>
  intro i hk hle prog w A R s h;obtain⟨h1,h2,h⟩:=h;have lt1:i<ns.length:=by omega
  have lt2:i<ms.length:=by omega
  obtain⟨t,e1⟩:=q63 hi (jb lt1);obtain⟨u,e2⟩:=q63 hj (jb lt2);have e1:items[i]? =some (.int ns[i] t):=by simpa using e1
  have e2:zd[i]? =some (.int ms[i] u):=by simpa using e2
  rw[xr lt1,xr lt2,HT.lexLt_cons]at h;show wpAny _ _ (Builtin.List.listItems (.ref l) >>= _) _ _ s;refine j3 (q3q h1 (j3 (q3q h2 ?_)));simp only[Int.toNat_natCast,e1,e2];obtain⟨e,he,hiff⟩:=HT.eqAt_int A.in1 s ns[i] t ms[i] u;refine j3 (he prog w _ _ ?_);cases e with
  | true=>
   rw[if_pos (hiff.mp rfl)]at h;simp only[if_true];refine j5 ⟨xu plain_eq_loop _,?_⟩;refine k7 entry_eq_loop ?_;rw[k8 plain_eq_loop];have ei:rawInt ((i:Int)+1)=rawInt ((i+1:Nat):Int):=by rw[Int.natCast_add];rfl
   rw[ei];exact ih (i+1) (by omega) (by omega) prog w A R s ⟨h1,h2,h⟩
  | false=>
   rw[if_neg (λq=>absurd (hiff.mpr q) Bool.false_ne_true)]at h;simp only[Bool.false_eq_true,if_false];refine j3 (q3q h1 (j3 (q3q h2 ?_)));simp only[e1,e2];refine j3 (HT.rcLt_int A.in1 s _ t _ u prog w _ _ ?_);exact j5 h
theorem q9z(l b:Addr)(items zd:Array Value)(n n2:Nat)(dd dd2:Option Addr)(sl sl2:Array (Option Value))(ns ms:List Int)(hi:IntsAre items.toList ns)(hj:IntsAre zd.toList ms)(hl:ns.length=ms.length):
 Meets (Builtin.«list.__lt__» ⟨[.ref l,.ref b],[]⟩)
  (λ_ R s=>s.heap.get? l=some {cls:=.type "list",dict:=dd,data:=.seq items n,slots:=sl}/\s.heap.get? b=some {cls:=.type "list",dict:=dd2,data:=.seq zd n2,slots:=sl2}/\
    R (.ok (.ret (.bool (HT.lexLt ns ms)))) s):=λprog w A R s h=>by
 obtain⟨h1,h2,h⟩:=h;have ty:s.TypeIs (.ref b) "list":=⟨_,h2,rfl⟩;show wpAny _ _ (isInstance (.ref b) (.type "list") >>= _) _ _ s;refine j3 (wpAny_isInstance ty (b:=true) sub_list_self ?_);show wpAny _ _ (again (.builtin "list.__eq__.loop" ⟨[.ref l,.ref b,rawInt 0,rawInt 0],[]⟩)) _ _ s;refine j5 ⟨xu plain_eq_loop _,?_⟩;refine k7 entry_eq_loop ?_;rw[k8 plain_eq_loop];exact qng l b items zd n n2 dd dd2 sl sl2 ns ms hi hj hl _ 0 rfl (Nat.zero_le _) prog w A R s ⟨h1,h2,h⟩
end
section
variable{prog:Program}{w:World}{A:Around}{E:Value->Shared->Prop}{s:Shared}
theorem qg2{l b:Addr}{items zd:Array Value}{ns ms:List Int}{Q:Value->Shared->Prop}(hl:s.heap.IsList l items)(hb:s.heap.IsList b zd)(hi:IntsAre items.toList ns)(hj:IntsAre zd.toList ms)(hn:ns.length=ms.length)
 (hu:A.units<cLine) (h:Q (.bool (HT.lexLt ns ms)) s):wpAny (model prog w) A (richCompare .Lt (.ref l) (.ref b)) Q E s:=by
 obtain⟨⟨cls,dd,data,sl⟩,ho,hc,n,hd⟩:=id hl;obtain⟨⟨cls2,dd2,data2,sl2⟩,ho2,hc2,n2,hd2⟩:=id hb;simp only at hc hd hc2 hd2;subst hc hd hc2 hd2;exact richCompare_meets_room (op:=.Lt) ⟨_,ho,rfl⟩ ⟨_,ho2,rfl⟩ PySem.F.slot_list_lt PySem.F.entry_list_lt (PySem.F.args_list_lt_2 _ _) (q9z l b items zd n n2 dd dd2 sl sl2 ns ms hi hj hn)
  ⟨ho,ho2,show Value.bool (HT.lexLt ns ms)≠Value.notImplemented/\Q (.bool (HT.lexLt ns ms)) s from⟨(λx=>nomatch x),h⟩⟩ hu
end
inductive Cmps(A:Around)(s:Shared):List Value->List Value->Bool->Prop
 |nil:Cmps A s [] [] false
 |eq {x y:Value} {vs ws:List Value} {r:Bool}:SeqAt.EqAt A s x y true->Cmps A s vs ws r->Cmps A s (x::vs) (y::ws) r
 |ne {x y:Value} {vs ws:List Value} {r:Bool}:SeqAt.EqAt A s x y false->(∀(prog:Program) (w:World) (E Q:Value->Shared->Prop),Q (.bool r) s->wpAny (model prog w) A (richCompare .Lt x y) Q E s)->vs.length=ws.length->Cmps A s (x::vs) (y::ws) r
theorem Cmps.len{A:Around}{s:Shared}{vs ws:List Value}{r:Bool}(h:Cmps A s vs ws r):vs.length=ws.length:=by
 induction h with
 |nil=>rfl
 |eq _ _ ih=>rw[ji,ji,ih]
 |ne _ _ e=>rw[ji,ji,e]
section
open PySem.SeqAt
open PySem.AutoSeq1 (wpAny_loadPart')
open PySem.MeetsSeq PySem.MeetsSeq2 PySem.MeetsSeq3
theorem q9e(l b:Addr)(items zd:Array Value)(n n2:Nat)(dd dd2:Option Addr)(sl sl2:Array (Option Value))(r:Bool):
 Meets (Builtin.«tuple.__lt__» ⟨[.ref l,.ref b],[]⟩)
  (λA R s=>s.heap.get? l=some {cls:=.type "tuple",dict:=dd,data:=.seq items n,slots:=sl}/\s.heap.get? b=some {cls:=.type "tuple",dict:=dd2,data:=.seq zd n2,slots:=sl2}/\
    Cmps A.in1 s items.toList zd.toList r/\R (.ok (.ret (.bool r))) s):=
 .of_wp λprog w A R s h=>by
  obtain⟨hp,g,d,tk,os⟩:=s;obtain⟨hl,hb,hC,h⟩:=h;have f2:=AutoSeq1.sub_tuple_tuple;have z:items.size=zd.size:=by have:=hC.len;simpa using this
  wp_walk using kh hl,kh hb,wpAny_forIn_list _ (λrest b s'=>b.1=none/\s'=⟨hp,g,d,tk,os⟩/\∃(vs ws:List Value),rest=vs.zip ws/\
   Cmps A.in1 ⟨hp,g,d,tk,os⟩ vs ws r) _
  case turn=>
   rintro⟨y,x⟩ rest b s' ⟨hb',rfl,vs,ws,hz,hv⟩;cases hv with
   |nil=>cases hz
   | eq he hr=>
    rw[List.zip_cons_cons]at hz;injection hz with hyx hrest;injection hyx with hy hx;subst hy hx;refine j3 (he prog w _ _ ?_)
    wp_walk
    exact⟨rfl,rfl,_,_,hrest,hr⟩
   | ne he hc hl'=>
    rw[List.zip_cons_cons]at hz;injection hz with hyx hrest;injection hyx with hy hx;subst hy hx;refine j3 (he prog w _ _ ?_);have hri:=hc prog w
    wp_walk using hri
    exact⟨_,rfl,by simpa using h⟩
  case fin=>
   rintro⟨b1,b2⟩ s' ⟨hb',rfl,vs,ws,hz,hv⟩;simp only at hb';subst hb';cases hv with
   | nil=>
    wp_walk
    exact⟨_,rfl,by simpa[Builtin.Tuple.tupleCompareSizes,z]using h⟩
   |eq he hr=>rw[List.zip_cons_cons]at hz;cases hz
   |ne he hc hl'=>rw[List.zip_cons_cons]at hz;cases hz
  case h=>
   exact⟨rfl,rfl,items.toList,zd.toList,rfl,hC⟩
end
section
variable{prog:Program}{w:World}{A:Around}{E:Value->Shared->Prop}{s:Shared}
theorem qir{l b:Addr}{items zd:Array Value}{r:Bool}{Q:Value->Shared->Prop}(hl:IsTup s.heap l items)(hb:IsTup s.heap b zd)(hC:Cmps A.in1 s items.toList zd.toList r)
 (hu:A.units<cLine) (h:Q (.bool r) s):wpAny (model prog w) A (richCompare .Lt (.ref l) (.ref b)) Q E s:=by
 obtain⟨⟨cls,dd,data,sl⟩,ho,hc,n,hd⟩:=id hl;obtain⟨⟨cls2,dd2,data2,sl2⟩,ho2,hc2,n2,hd2⟩:=id hb;simp only at hc hd hc2 hd2;subst hc hd hc2 hd2;exact richCompare_meets_room (op:=.Lt) ⟨_,ho,rfl⟩ ⟨_,ho2,rfl⟩ PySem.F.slot_tuple_lt PySem.F.entry_tuple_lt (PySem.F.args_tuple_lt_2 _ _) (q9e l b items zd n n2 dd dd2 sl sl2 r)
  ⟨ho,ho2,hC,show Value.bool r≠Value.notImplemented/\Q (.bool r) s from⟨(λx=>nomatch x),h⟩⟩ hu
end
theorem q4v:∀ns:List Int,HT.lexLt ns ns=false
 |[]=>rfl
 |n::ns=>by rw[HT.lexLt_cons,if_pos rfl,q4v ns]
theorem qhb{A:Around}{s:Shared}{l b:Addr}{vs ws:List Value}{ns ms:List Int}(hl:s.heap.IsList l vs.toArray)(hb:s.heap.IsList b ws.toArray)(hi:IntsAre vs ns)(hj:IntsAre ws ms)(hn:ns.length=ms.length)(hu:A.units<cLine):SeqAt.EqAt A s (.ref l) (.ref b) (decide (ns=ms)):=by
 by_cases q:l=b
 ·subst q;have e:vs=ws:=by
   obtain⟨o,e1,c1,n1,d1⟩:=hl;obtain⟨o2,e2,c2,n2,d2⟩:=hb;rw[e1]at e2;cases e2;rw[d1]at d2;injection d2 with d3 _;simpa using d3
  subst e;have en:ns=ms:=by
   apply List.ext_getElem?;intro i;by_cases h:i<ns.length
   ·obtain⟨t,e1⟩:=q63 hi (jb h);obtain⟨u,e2⟩:=q63 hj (jb (show i<ms.length by omega));rw[e1]at e2;injection e2 with e3;injection e3 with e4 _;rw[jb h,jb (show i<ms.length by omega),e4]
   ·rw[xg (by omega),xg (by omega)]
  rw[decide_eq_true en];exact SeqAt.EqAt.same _
 ·have lv:vs.length=ns.length:=hi.length;have lw:ws.length=ms.length:=hj.length;have h:=SeqAt.RcAt.lists (A:=A) (e:=λj=>decide (ns[j]? =ms[j]?)) hl hb (by simp;omega) hu λj h1 h2=>by
   have h1':j<ns.length:=by simp at h1;omega
   have h2':j<ms.length:=by omega
   obtain⟨t,e1⟩:=q63 hi (jb h1');obtain⟨u,e2⟩:=q63 hj (jb h2');obtain⟨e,he,hiff⟩:=HT.eqAt_int A.in1 s ns[j] t ms[j] u;have g1:vs.toArray[j]=.int ns[j] t:=by have:=(List.getElem?_eq_some_iff.mp e1).2;simpa using this
   have g2:ws.toArray[j]=.int ms[j] u:=by have:=(List.getElem?_eq_some_iff.mp e2).2;simpa using this
   rw[g1,g2];have ee:decide (ns[j]? =ms[j]?)=e:=by
    rw[jb h1',jb h2'];cases e with
    |true=>simp[hiff.mp rfl]
    | false=>
     have:¬ns[j]=ms[j]:=λz=>absurd (hiff.mpr z) (by decide);simp[this]
   rw[ee];exact he
  have ea:(List.range vs.toArray.size).all (λj=>decide (ns[j]? =ms[j]?))=decide (ns=ms):=by
   rw[Bool.eq_iff_iff];simp only[List.all_eq_true,decide_eq_true_eq,List.mem_range,List.size_toArray];constructor
   ·intro z;apply List.ext_getElem?;intro i;by_cases hi:i<ns.length
    ·exact z i (by omega)
    ·rw[xg (by omega),xg (by omega)]
   ·intro z i _;rw[z]
  rw[ea]at h;exact SeqAt.EqAt.of_refs q h
def q5f(a c:Int)(ns ms:List Int):Bool:=if a=c then HT.lexLt ns ms else decide (a<c)
theorem q4m{prog:Program}{w:World}{A:Around}{E:Value->Shared->Prop}{s:Shared}{l b p q:Addr}{a c:Int}{t u:Tok}{vs ws:List Value}{ns ms:List Int}{Q:Value->Shared->Prop}(hl:IsTup s.heap l #[.int a t,.ref p])(hb:IsTup s.heap b #[.int c u,.ref q])(hp:s.heap.IsList p vs.toArray)(hq:s.heap.IsList q ws.toArray)(hi:IntsAre vs ns)(hj:IntsAre ws ms)(hn:ns.length=ms.length)
 (hu:A.units+1<cLine) (h:Q (.bool (q5f a c ns ms)) s):wpAny (model prog w) A (richCompare .Lt (.ref l) (.ref b)) Q E s:=by
 have hu1:A.in1.units<cLine:=hu;refine qir (r:=q5f a c ns ms) hl hb ?_ (by omega) h;obtain⟨e,he,hiff⟩:=HT.eqAt_int A.in1 s a t c u;unfold q5f;cases e with
 | true=>
  have eac:=hiff.mp rfl;rw[if_pos eac];refine .eq he ?_;have ee:=qhb (A:=A.in1) hp hq hi hj hn hu1;by_cases z:ns=ms
  ·rw[decide_eq_true z]at ee;subst z;rw[q4v];exact .eq ee .nil
  ·rw[decide_eq_false z]at ee;exact .ne ee (λprog w E Q h=>qg2 hp hq (by simpa using hi) (by simpa using hj) hn hu1 h) rfl
 | false=>
  rw[if_neg λz=>absurd (hiff.mpr z) (by decide)];exact .ne he (λprog w E Q h=>HT.rcLt_int A.in1 s a t c u prog w E Q h) rfl
theorem qi9(a d:Value):argsOk "min" ⟨[a],[(Str.ofString "default",d)]⟩:=by kernel_rfl
section
variable{prog:Program}{w:World}{A:Around}{E:Value->Shared->Prop}{s:Shared}{Q:Value->Shared->Prop}{p:Addr}{its:Array Value}{bt:Nat->Nat->Bool}
theorem qlu(hh:A.in1.handled=none)(hl:s.heap.IsList p its){kw:List (Str×Value)}{dflt:Option Value}(hk:kw=dflt.toList.map λd=>(Str.ofString "default",d))
 (zj:CmpK prog w A.in1 s.heap.objs.size (s.heap.objs.size+1) s its bt)
 (hD:its.size=0->∃d,dflt=some d/\∀s',Kq s s'->Q d s') (hQ:∀v s',its[argBest bt (its.size-1)]? =some v->Kq s s'->Q v s'):
 wpAny (model prog w) A.in1 (do let it <-pyIter (.ref p);let b <-newList [];again (.builtin "min.loop" ⟨[it,.none,b],kw⟩)) (λfin s'=>match fin with
  | .done f=>(match (Except.ok f:Result)with
   |.ok (.ret v)=>Q v s'
   |.ok _=>False
   |.error e=>E e s')
  | .again c'=>c'.quiet=true/\codeAny (model prog w) A c' (λr s'=>match r with
   |.ok (.ret v)=>Q v s'
   |.ok _=>False
   |.error e=>E e s') s') E s:=by
 have lp:p<s.heap.objs.size:=by obtain⟨o,e,_⟩:=hl;exact j6 e
 refine j3 (wpAny_pyIter_list hl ?_);refine j3 (xl ?_ (by first|exact Nat.zero_le _|(show(0:Nat)<=sizeLine;exact Nat.zero_le _)));refine j5 ⟨xu xh _,?_⟩;have push2:∀b o,s.heap.get? b=some o->((s.heap.push {cls:=.type "list_iterator",data:=.fields #[.ref p,.int 0 0]}).push {cls:=.type "list",data:=.seq #[]}).get? b=some o:=λb o e=>j7 _ (j7 _ e);have sz:(s.heap.push {cls:=.type "list_iterator",data:=.fields #[.ref p,.int 0 0]}).objs.size=s.heap.objs.size+1:=jy _ _;have kq:∀s',Kp s.heap.objs.size (s.heap.objs.size+1) s s'->Kq s s':=λs' k=>⟨λb o e=>k.heap b o (jd (j6 e)) (jd (Nat.lt_succ_of_lt (j6 e))) e,k.gens,k.drawn,k.os⟩;dsimp only;rw[sz];refine qec (s0:=s) hh (jd lp) (Nat.ne_of_gt (Nat.lt_succ_self _)) (Nat.ne_of_gt (Nat.lt_succ_of_lt lp)) zj (λv s' e k=>hQ v s' e (kq s' k)) (λh0=>?_) (c:=0) ⟨⟨_,j7 _ (jf _ rfl),rfl,rfl⟩,?_⟩ ?_ ⟨λb o _ _ e=>push2 b o e,rfl,rfl,rfl⟩
 ·obtain⟨d,e,k⟩:=hD h0;subst e;exact⟨_,d,[],by rw[hk];rfl,λs' k'=>k s' (kq s' k')⟩
 ·obtain⟨o,e,c⟩:=hl;exact⟨o,push2 p o e,c⟩
 ·have:=jf (s.heap.push {cls:=.type "list_iterator",data:=.fields #[.ref p,.int 0 0]}) (o:={cls:=.type "list",data:=.seq #[]}) rfl;rw[sz]at this;exact this
theorem qhz(hh:A.in1.handled=none)(hl:s.heap.IsList p its){d:Value}(zj:CmpK prog w A.in1 s.heap.objs.size (s.heap.objs.size+1) s its bt)
 (hD:its.size=0->∀s',Kq s s'->Q d s') (hQ:∀v s',0<its.size->its[argBest bt (its.size-1)]? =some v->Kq s s'->Q v s'):wpAny (model prog w) A (call (.builtin "min") [.ref p] [(Str.ofString "default",d)]) Q E s:=by
 refine kmk_tree F.kind_min F.plain_min F.entry_min (qi9 _ _) ?_;show wpAny _ _ (Builtin.Builtins.bindParams "min" ["key","default"] 0 ⟨[],[(Str.ofString "default",d)]⟩ >>= _) _ _ s;refine j3 (wpAny_of_eq (show _=pure [none,some d]from by rfl) ?_);show wpAny _ _ (pure (Value.ref p) >>= _) _ _ s;refine j3 (j5 ?_);dsimp only;rw[show(toString "min"++toString ".loop")="min.loop" from by decide];exact qlu hh hl (dflt:=some d) rfl zj (λh=>⟨d,rfl,hD h⟩) λv s' e k=>hQ v s' (by
  rcases Nat.eq_zero_or_pos its.size with z|z
  ·rw[Array.getElem?_eq_none (by omega)]at e;cases e
  ·exact z) e k
theorem qhy(hh:A.in1.handled=none)(hl:s.heap.IsList p its)(h0:0<its.size)(zj:CmpK prog w A.in1 s.heap.objs.size (s.heap.objs.size+1) s its bt)
 (hQ:∀v s',its[argBest bt (its.size-1)]? =some v->Kq s s'->Q v s'):wpAny (model prog w) A (call (.builtin "min") [.ref p]) Q E s:=by
 refine kmk_tree F.kind_min F.plain_min F.entry_min (F.args_min1 _) ?_;show wpAny _ _ (Builtin.Builtins.bindParams "min" ["key","default"] 0 ⟨[],[]⟩ >>= _) _ _ s;refine j3 (wpAny_of_eq (show _=pure [none,none]from by rfl) ?_);show wpAny _ _ (pure (Value.ref p) >>= _) _ _ s;refine j3 (j5 ?_);dsimp only;rw[show(toString "min"++toString ".loop")="min.loop" from by decide];exact qlu hh hl (dflt:=none) rfl zj (λh=>absurd h (by omega)) hQ
end
theorem q8f{α:Type}{lt:α->α->Bool}{f:Nat->α}(h1:∀a,lt a a=false)(h2:∀a b c,lt a b=true->lt c b=false->lt c a=false)(n:Nat):argBest (λi j=>lt (f i) (f j)) n<=n/\∀i,i<=n->lt (f i) (f (argBest (λi j=>lt (f i) (f j)) n))=false:=by
 induction n with
 | zero=>
  rw[argBest];exact⟨j8 _,λi hi=>by rw[Nat.le_zero.mp hi];exact h1 _⟩
 | succ n ih=>
  obtain⟨h3,h4⟩:=ih;rw[argBest];cases q:lt (f (n+1)) (f (argBest (λi j=>lt (f i) (f j)) n))with
  | true=>
   rw[if_pos rfl];refine⟨j8 _,λi hi=>?_⟩;rcases Nat.lt_or_ge i (n+1)with z|z
   ·exact h2 _ _ _ q (h4 i (by omega))
   ·have e:i=n+1:=by omega
    rw[e];exact h1 _
  | false=>
   rw[if_neg (by decide)];refine⟨by omega,λi hi=>?_⟩;rcases Nat.lt_or_ge i (n+1)with z|z
   ·exact h4 i (by omega)
   ·have e:i=n+1:=by omega
    rw[e];exact q
theorem qa3{X:Cx}{z5:List (Addr×Obj)}{σ:St}{H:Hp}{s s':Shared}(I:Inv X z5 σ H s)(k:Kq s s'):Inv X z5 σ H s':=by
 have es:s'={s with heap:=s'.heap,toks:=s'.toks}:=by obtain⟨h2,g2,d2,t2,o2⟩:=s';obtain⟨_,eg,ed,eo⟩:=k;cases eg;cases ed;cases eo;rfl
 rw[es];exact I.kept k.heap
def btI(ns:List Int):Nat->Nat->Bool:=λi j=>decide (ns.getD i 0<ns.getD j 0)
def minI(ns:List Int):Option Int:=match ns with
 |[]=>none
 |_=>some (ns.getD (argBest (btI ns) (ns.length-1)) 0)
def qgs(ns:List Int):V:=match minI ns with
 |none=>.non
 |some m=>.int m
theorem qbb{ns:List Int}{m:Int}(h:minI ns=some m):m∈ns/\∀x∈ns,m<=x:=by
 cases ns with
 |nil=>cases h
 | cons a r=>
  cases h;obtain⟨h1,h2⟩:=q8f (lt:=λ(x y:Int)=>decide (x<y)) (f:=λi=>(a::r).getD i 0) (λa=>by simp) (λa b c=>by simp;omega) ((a::r).length-1);have hb:argBest (btI (a::r)) ((a::r).length-1)<(a::r).length:=Nat.lt_of_le_of_lt h1 (by simp);refine⟨?_,λx hx=>?_⟩
  ·rw[jk,jb hb];exact xo hb
  ·obtain⟨i,hi,rfl⟩:=List.mem_iff_getElem.mp hx;have:=h2 i (by omega);simp only[decide_eq_false_iff_not]at this;rw[jk (i:=i),jb hi]at this;exact Int.not_lt.mp this
theorem q9x{ns:List Int}(h:minI ns=none):ns=[]:=by
 cases ns with
 |nil=>rfl
 |cons a r=>cases h
theorem qnd{ns:List Int}{m:Int}(h:m∈ns)(k:∀x∈ns,m<=x):minI ns=some m:=by
 cases q:minI ns with
 |none=>rw[q9x q]at h;cases h
 | some y=>
  obtain⟨h1,h2⟩:=qbb q;have e1:=h2 m h;have e2:=k y h1;congr 1;omega
section
variable{X:Cx}{K:FrG}{O:List Nat}{e:Expr}{d:Expr}{te:TE}{p kp pos:Pos}{fe:RhD}
def qpf(K:FrG)(te:TE):TE:=λσ H Q=>te σ H λv H1=>∃(p:Addr) (ns:List Int),[v]=[V.ref p]/\SqL K H1 p (ns.map V.int)/\Q (qgs ns) H1
theorem qmm(hK:X.K=K)(hc:X.calm=true)(hg:Gl X "min")(hm:X.mg "min"=none)(ha:PE X e te)(hd:PE X d (tC .non))(he:starEach [e] X.env=(false,eval e X.env)::starEach [] X.env:=by rfl)
 (h1:backTo pos (starEach [e] X.env)=(false,eval e X.env)::backTo pos (starEach [] X.env):=by rfl) (h2:(backTo pos (starEach [e] X.env)).any (·.1)=false:=by rfl)
 (h3:(backToKw pos (keywordEach [⟨some "default",d,kp⟩] X.env)).all (λx=>x.1.isSome)=true:=by rfl) (h4:(backToKw pos (keywordEach [⟨some "default",d,kp⟩] X.env)).any (λx=>x.1.isNone)=false:=by rfl)
 (h5:(backToKw pos (keywordEach [⟨some "default",d,kp⟩] X.env)).filterMap (·.1)=[Str.ofString "default"]:=by rfl):
 PE X (.Call (.Name "min" p) [e] [⟨some "default",d,kp⟩] pos) (qpf K te):=by
 subst hK;intro z5 s σ H Q I h;refine xj (q41 I hg hm (u:=.builtin "min") (by rfl) ?_);refine callWith_kw (thn ((q01 ha q05 he) pos z5 s σ H (λvs H1=>∃(p1:Addr) (ns:List Int),vs=[V.ref p1]/\SqL X.K H1 p1 (ns.map V.int)/\Q (qgs ns) H1) I h) λus s1 hh1=>?_) h1 h2 h3 h4;obtain⟨vs,H1,I1,r1,p1,ns,rfl,q1,k⟩:=hh1;obtain⟨u,rfl,ru⟩:=vals1 r1;cases(show u=Value.ref p1 from ru);refine kws_cons (thn (hd z5 s1 σ H1 (λv H2=>v=.non/\H2=H1) I1 ⟨rfl,rfl⟩) λdv s2 hh2=>?_);obtain⟨x,H2,I2,r2,rfl,rfl⟩:=hh2;cases r2;refine kws_nil ?_;rw[h5];obtain⟨its,rv,pl,hz⟩:=I2.list q1;have ln:its.length=ns.length:=by have:=rv.length;simp at this;omega
 have hh:X.A.in1.handled=none:=I2.ok.hd hc;show wpAny _ _ (call (.builtin "min") [.ref p1] [(Str.ofString "default",.none)]) _ _ s2;refine qhz (its:=its.toArray) (bt:=btI ns) hh pl.isList (λi j vi vj s Q E hi hj _ q=>?_) (λh0 s' k'=>?_) λv s' h0 ev k'=>?_
 ·obtain⟨t,rfl⟩:=q2j rv (by simpa using hi);obtain⟨t',rfl⟩:=q2j rv (by simpa using hj);exact HT.rcLt_int _ s _ t _ t' _ _ _ _ (q s ⟨λ_ _ e=>e,rfl,rfl,rfl⟩)
 ·have en:ns=[]:=List.eq_nil_of_length_eq_zero (by simp at h0;rw[h0]at ln;simpa using ln.symm);subst en;exact⟨.non,_,qa3 I2 k',rfl,k⟩
 ·have hn:ns≠[]:=λz=>by rw[z]at ln;simp at h0 ln;rw[ln]at h0;exact absurd h0 (by simp)
  rw[jq,ln]at ev;obtain⟨t,rfl⟩:=q2j rv (by simpa using ev);refine⟨_,_,qa3 I2 k',?_,k⟩;unfold qgs minI;cases ns with
  |nil=>exact absurd rfl hn
  |cons a r=>exact⟨t,rfl⟩
def optI:Option Int->D
 |none=>.non
 |some m=>.int m
def qeo:D->Option D
 |.lst xs=>(q3d xs).map λns=>optI (minI ns)
 |_=>none
theorem qne(h:MB K O te fe):ME K O (qpf K te) (mOp1 qeo fe):=λZ σ H R ρ d ρ' Q S e k=>by
 obtain⟨x,ρ1,e1,e⟩:=q09 e;obtain⟨e3,rfl⟩:=q0h e;refine h Z σ H R ρ x _ _ S e1 λv H1 R1 S1 st1 r1=>?_;unfold qeo at e3;split at e3
 ·rename_i xs;obtain⟨b,vs,rfl,q,r⟩:=r1.isL;cases z:q3d xs with
  |none=>rw[z]at e3;cases e3
  | some ns=>
   rw[z]at e3;cases e3;have ex:=q4o r z;subst ex;refine⟨b,ns,rfl,q,k _ H1 R1 S1 st1 ?_⟩;show Rp K R1 (qgs ns) (optI (minI ns));unfold qgs;cases minI ns with
   |none=>exact .non
   |some m=>exact .int m
 ·cases e3
end
theorem qa1:∀a b c:List Int,HT.lexLt a b=true->HT.lexLt c b=false->HT.lexLt c a=false
 |[],[],_,h,_=>by cases h
 |[],_::_,[],_,g=>by cases g
 |[],_::_,_::_,_,_=>rfl
 |_::_,[],_,h,_=>by cases h
 |_::_,_::_,[],_,g=>by cases g
 | x::xs,y::ys,z::zs,h,g=>by
  rw[HT.lexLt_cons]at h g ⊢;by_cases q:x=y
  ·rw[if_pos q]at h;subst q;by_cases r:z=x
   ·rw[if_pos r]at g ⊢;exact qa1 xs ys zs h g
   ·rw[if_neg r]at g ⊢;exact g
  ·rw[if_neg q]at h;simp only[decide_eq_true_eq]at h;by_cases r:z=y
   ·rw[if_neg (by omega)];simp;omega
   ·rw[if_neg r]at g;simp only[decide_eq_false_iff_not]at g;rw[if_neg (by omega)];simp;omega
def qLt(x y:Int×List Int):Bool:=q5f x.1 y.1 x.2 y.2
theorem q3n(x:Int×List Int):qLt x x=false:=by unfold qLt q5f;rw[if_pos rfl,q4v]
theorem qaw(a b c:Int×List Int)(h:qLt a b=true)(g:qLt c b=false):qLt c a=false:=by
 unfold qLt q5f at h g ⊢;by_cases q:a.1=b.1
 ·rw[if_pos q]at h;rw[q];by_cases r:c.1=b.1
  ·rw[if_pos r]at g ⊢;exact qa1 _ _ _ h g
  ·rw[if_neg r]at g ⊢;exact g
 ·rw[if_neg q]at h;simp only[decide_eq_true_eq]at h;by_cases r:c.1=b.1
  ·rw[if_neg (by omega)];simp;omega
  ·rw[if_neg r]at g;simp only[decide_eq_false_iff_not]at g;rw[if_neg (by omega)];simp;omega
def btP(qs:List (Int×List Int)):Nat->Nat->Bool:=λi j=>qLt (qs.getD i (0,[])) (qs.getD j (0,[]))
def q4n(qs:List (Int×List Int)):Int×List Int:=qs.getD (argBest (btP qs) (qs.length-1)) (0,[])
theorem qa2{qs:List (Int×List Int)}(h:qs≠[]):q4n qs∈qs/\∀x∈qs,qLt x (q4n qs)=false:=by
 obtain⟨h1,h2⟩:=q8f (lt:=qLt) (f:=λi=>qs.getD i (0,[])) q3n qaw (qs.length-1);have hp:0<qs.length:=List.length_pos_iff.mpr h;have hb:argBest (btP qs) (qs.length-1)<qs.length:=Nat.lt_of_le_of_lt h1 (by omega);refine⟨?_,λx hx=>?_⟩
 ·unfold q4n;rw[jk,jb hb];exact xo hb
 ·obtain⟨i,hi,rfl⟩:=List.mem_iff_getElem.mp hx;have:=h2 i (by omega);rw[jk (i:=i),jb hi]at this;exact this
section
variable{X:Cx}{K:FrG}{O:List Nat}
def PrV(K:FrG)(H:Hp)(v:V)(q:Int×List Int):Prop:=∃a b,v=.ref a/\SqT K H a [.int q.1,.ref b]/\SqL K H b (q.2.map V.int)
def qqf(K:FrG):List V->Hp->VK->Prop:=λxs H Q=>∃(p:Addr) (vs:List V) (qs:List (Int×List Int)) (n:Nat),xs=[.ref p]/\SqL K H p vs/\vs.length=qs.length/\(∀i v,vs[i]? =some v->PrV K H v (qs.getD i (0,[])))/\(∀q∈qs,q.2.length=n)/\qs≠[]/\∀v,vs[argBest (btP qs) (qs.length-1)]? =some v->Q v H
theorem qc9{X:Cx}{z5:List (Addr×Obj)}{σ:St}{H:Hp}{s:Shared}{v:V}{q:Int×List Int}{u:Value}(I:Inv X z5 σ H s)(h:PrV X.K H v q)(r:RelV v u):∃a b t vs,u=.ref a/\IsTup s.heap a #[.int q.1 t,.ref b]/\s.heap.IsList b vs.toArray/\IntsAre vs q.2:=by
 obtain⟨a,b,rfl,h1,h2⟩:=h;cases r;obtain⟨its,rv,p,_⟩:=I.tuple h1;obtain⟨its2,rv2,p2,_⟩:=I.list h2;cases rv with
 | cons r1 r2=>
  cases r2 with
  | cons r2 r3=>
   cases r3;obtain⟨t,rfl⟩:=r1;cases r2;exact⟨a,b,t,its2,rfl,p,p2.isList,intsAre_of rv2⟩
theorem q5c:∀{xs:List V} {us:List Value} {i:Nat} {u:Value},Vals xs us->us[i]? =some u->∃x,xs[i]? =some x/\RelV x u
 |_,_,_,_,.nil,e=>by simp at e
 |_,_,0,_,.cons r _,e=>by simp at e;subst e;exact⟨_,rfl,r⟩
 | _,_,i+1,u,.cons _ t,e=>by obtain⟨x,h1,h2⟩:=q5c (i:=i) (u:=u) t (by simpa using e);exact⟨x,by simpa using h1,h2⟩
theorem qes(hK:X.K=K)(hc:X.calm=true)(hu:X.A.units+64<cLine):q4i X (.builtin "min") (qqf K):=by
 subst hK;intro z5 s σ H xs us Q I r h;obtain⟨p,vs,qs,n,rfl,hq,hl,hp,hn,h0,k⟩:=h;obtain⟨u,rfl,ru⟩:=vals1 r;cases ru;obtain⟨its,rv,pl,hz⟩:=I.list hq;have ln:its.length=qs.length:=by have:=rv.length;omega
 have hh:X.A.in1.handled=none:=I.ok.hd hc;have h0':0<qs.length:=List.length_pos_iff.mpr h0;have old:∀s',Kp s.heap.objs.size (s.heap.objs.size+1) s s'->∀b o,s.heap.get? b=some o->s'.heap.get? b=some o:=λs' k b o e=>k.heap b o (jd (j6 e)) (jd (Nat.lt_succ_of_lt (j6 e))) e;have ql:∀i,i<qs.length->(qs.getD i (0,[])).2.length=n:=λi hi=>by rw[jk,jb hi];exact hn _ (xo hi)
 refine qhy (its:=its.toArray) (bt:=btP qs) hh pl.isList (by simp;omega) (λi j vi vj s1 Q1 E1 hi hj kp q=>?_) λv s' ev k'=>?_
 ·obtain⟨x,hx,rx⟩:=q5c rv (show its[i]? =some vi by simpa using hi);obtain⟨y,hy,ry⟩:=q5c rv (show its[j]? =some vj by simpa using hj);obtain⟨a,b,t,us,rfl,g1,g2,g3⟩:=qc9 I (hp i x hx) rx;obtain⟨a',b',t',us',rfl,g1',g2',g3'⟩:=qc9 I (hp j y hy) ry;have hi':i<qs.length:=by have:=(List.getElem?_eq_some_iff.mp hx).1;omega
  have hj':j<qs.length:=by have:=(List.getElem?_eq_some_iff.mp hy).1;omega
  have up:=old s1 kp;refine q4m (t:=t) (u:=t') (p:=b) (q:=b') ?_ ?_ ?_ ?_ g3 g3' (by rw[ql i hi',ql j hj']) (by show X.A.units+1+1<cLine;omega) (q s1 ⟨λ_ _ e=>e,rfl,rfl,rfl⟩)
  ·obtain⟨o,e,c⟩:=g1;exact⟨o,up _ o e,c⟩
  ·obtain⟨o,e,c⟩:=g1';exact⟨o,up _ o e,c⟩
  ·obtain⟨o,e,c⟩:=g2;exact⟨o,up _ o e,c⟩
  ·obtain⟨o,e,c⟩:=g2';exact⟨o,up _ o e,c⟩
 ·rw[jq,ln]at ev;obtain⟨x,hx,rx⟩:=q5c rv (show its[argBest (btP qs) (qs.length-1)]? =some v by simpa using ev);exact⟨x,H,qa3 I k',rx,k x hx⟩
def qb4:D->Option (Int×List Int)
 |.tup [.int a,.lst xs]=>(q3d xs).map λns=>(a,ns)
 |_=>none
def q6c:List D->Option (List (Int×List Int))
 |[]=>some []
 | d::r=>match qb4 d,q6c r with
  |some q,some qs=>some (q::qs)
  |_,_=>none
def pairD(q:Int×List Int):D:=.tup [.int q.1,.lst (q.2.map D.int)]
def qk8:D->Option D
 | .lst xs=>match q6c xs with
  |some qs=>if qs≠[]/\(qs.all λq=>decide (q.2.length=(q4n qs).2.length))=true then some (pairD (q4n qs))else none
  |none=>none
 |_=>none
theorem qd3:∀{xs:List D} {ns:List Int},q3d xs=some ns->xs=ns.map D.int
 |[],ns,h=>by cases h;rfl
 | d::r,ns,h=>by
  cases d with
  | int i=>
   have h:(q3d r).map (λx=>i::x)=some ns:=h;cases q:q3d r with
   |none=>rw[q]at h;cases h
   | some ms=>
    rw[q]at h;cases h;rw[qd3 q];rfl
  |_=>cases h
theorem q8v{R:Hp}{v:V}{d:D}{q:Int×List Int}(r:Rp K R v d)(e:qb4 d=some q):PrV K R v q/\d=pairD q:=by
 unfold qb4 at e;split at e
 ·rename_i a xs;cases z:q3d xs with
  |none=>rw[z]at e;cases e
  | some ns=>
   rw[z]at e;cases e;obtain⟨l,vs,rfl,h,r⟩:=r.isT;obtain⟨v1,_,rfl,r1,r⟩:=r.isC;obtain⟨v2,_,rfl,r2,r⟩:=r.isC;cases r;obtain rfl:=r1.isI;obtain⟨b,ws,rfl,h2,r3⟩:=r2.isL;have ex:=q4o r3 z;subst ex;refine⟨⟨l,b,rfl,SqT.of h,h2⟩,?_⟩;unfold pairD;rw[qd3 z]
 ·cases e
theorem q84{R:Hp}:∀{vs:List V} {ds:List D} {qs:List (Int×List Int)},Rps K R vs ds->q6c ds=some qs->vs.length=qs.length/\ds=qs.map pairD/\∀i v,vs[i]? =some v->PrV K R v (qs.getD i (0,[]))
 | _,[],qs,.nil,e=>by unfold q6c at e;cases e;exact⟨rfl,rfl,λi v e=>by simp at e⟩
 | v::vs,d::ds,qs,.cons r t,e=>by
  unfold q6c at e;split at e
  ·rename_i q qs' e1 e2;cases e;obtain⟨h1,h2⟩:=q8v r e1;obtain⟨g1,g2,g3⟩:=q84 t e2;refine⟨by rw[ji,ji,g1],by rw[h2,g2];rfl,λi w e=>?_⟩;cases i with
   |zero=>cases e;exact h1
   |succ i=>exact g3 i w e
  ·cases e
theorem PrV.mono{H R:Hp}{v:V}{q:Int×List Int}(s:Same R H)(h:PrV K R v q):PrV K H v q:=by obtain⟨a,b,e,h1,h2⟩:=h;exact⟨a,b,e,Same.tup s h1,Same.sqL s h2⟩
theorem qof:qp3 K (qqf K) qk8:=λH R x d u Q s r e k=>by
 unfold qk8 at e;split at e
 ·rename_i xs;split at e
  ·rename_i qs e1;split at e
   ·rename_i hc;cases e;obtain⟨p,vs,rfl,h,rs⟩:=r.isL;obtain⟨g1,g2,g3⟩:=q84 rs e1;subst g2;refine⟨p,vs,qs,_,rfl,Same.sqL s h,g1,λi v e=>(g3 i v e).mono s,λq hq=>by simpa using List.all_eq_true.mp hc.2 q hq,hc.1,λv hv=>?_⟩;have hd:(qs.map pairD)[argBest (btP qs) (qs.length-1)]? =some (pairD (q4n qs)):=by
     obtain⟨d,hd,_⟩:=rs.get' hv;have hb:=(List.getElem?_eq_some_iff.mp hd).1;rw[j4]at hb;unfold q4n;rw[j9,jk,jb hb];rfl
    obtain⟨w,hw,rw'⟩:=rs.get hd;rw[hv]at hw;cases hw;exact k _ H R (Ext.refl s) rw'
   ·cases e
  ·cases e
 ·cases e
end
def DRaw(h:Heap)(d:Addr)(es:Array DictEntry)(ep:Nat):Prop:=∃o,h.get? d=some o/\o.ExactDict/\o.data=.dict es ep
theorem DRaw.ty{s:Shared}{d:Addr}{es:Array DictEntry}{ep:Nat}(x:DRaw s.heap d es ep):s.TypeIs (.ref d) "dict":=let ⟨o,e,c,_⟩:=x;⟨o,e,c.1⟩
theorem DRaw.at_{h h':Heap}{d:Addr}{es:Array DictEntry}{ep:Nat}(x:DRaw h d es ep)(k:∀o,h.get? d=some o->h'.get? d=some o):DRaw h' d es ep:=let ⟨o,e,r⟩:=x;⟨o,k o e,r⟩
section
variable{prog:Program}{w:World}{A:Around}{E:Value->Shared->Prop}{s:Shared}
theorem qjj{d:Addr}{es:Array DictEntry}{ep:Nat}{Q:Value->Shared->Prop}(nd:(d==sysModules)=false)(x:DRaw s.heap d es ep)
 (q:Q (.ref s.heap.objs.size) {s with heap:=s.heap.push {cls:=.type "dict_keyiterator",data:=.fields #[.ref d,.int 0 0,.int es.size 0,.int ep 0]}}):wpAny (model prog w) A (pyIter (.ref d)) Q E s:=by
 obtain⟨o,e,c,dt⟩:=id x;refine wpAny_pyIter_slot x.ty F.slot_dict_iter (xv F.slot_dict_iter x.ty F.entry_dict_iter ?_ (F.args_dict_iter_1 _));unfold Builtin.«dict.__iter__» Builtin.Dict.dictSlotNone;refine j3 (j3 (wpAny_notOrdered_dict x.ty ?_));show wpAny _ _ (pure (Value.ref d)) _ _ s;refine j5 ?_;unfold Builtin.Dict.showsAll;show wpAny _ _ ((if(d==sysModules)=true then _ else _) >>= _) _ _ s;rw[if_neg (by rw[nd];decide)];exact j3 (j5 (j3 (wpAny_dictEntries e dt (j3 (wpAny_dictEpoch e dt (j3 (xl (j5 ⟨_,rfl,"dict_keyiterator",_,⟨_,jf _ rfl,rfl⟩,F.slot_dict_keyiterator_next.lookup,q⟩))))))))
theorem qjk{it d:Addr}{i ep:Nat}{es:Array DictEntry}{Q:Option Value->Shared->Prop}(g:s.heap.IsKeyIter it d i es.size ep)(x:DRaw s.heap d es ep)(hi:i<es.size)
 (q:∀h',h'.IsKeyIter it d (i+1) es.size ep->Heap.SameBut it s.heap h'->Q (some es[i].key) {s with heap:=h'}):wpAny (model prog w) A (pyNext (.ref it)) Q E s:=by
 obtain⟨oi,ei,ci,fi⟩:=id g;obtain⟨o,e,c,dt⟩:=id x;have own0:Builtin.Dict_items.ownsTuple "dict_keyiterator"=false:=by decide
 unfold pyNext;refine j3 (wpAny_attempt (k6 (name:=Str.ofString "__next__") g.typeIs km (xv km g.typeIs F.entry_dict_keyiterator_next (j3 (j5 (j3 ?_))) (F.args_dict_keyiterator_next_1 _))));refine j3 (j3 (kn g.typeIs (j5 (j3 (wpAny_fieldsOf ei fi ?_)))));simp only[own0,Bool.false_eq_true,if_false];show wpAny _ _ (if(Value.ref d==Value.none)=true then _ else _) _ _ s;have nn:(Value.ref d==Value.none)=false:=rfl;rw[if_neg (by rw[nn];decide)];refine j3 (j5 (j3 (wpAny_dictEntries e dt ?_)));rw[if_neg (by simp)];refine j3 (j5 (j3 (wpAny_dictEpoch e dt ?_)));rw[if_neg (by simp)];refine j5 ?_;have n0:¬((i:Int)<0):=by omega
 simp only[n0,if_false,Int.toNat_natCast,Array.getElem?_eq_getElem hi];refine j3 (j3 (kn g.typeIs (j5 (j3 (wpAny_isOneOf_keyiter g.typeIs ?_)))));show wpAny _ _ (setField (.ref it) 1 (rawInt ((i:Int)+1)) >>= _) _ _ s;have g':(s.heap.update it (Obj.mapFields (·.setIfInBounds 1 (rawInt ((i:Int)+1))))).IsKeyIter it d (i+1) es.size ep:=
  ⟨_,xw _ ei (Obj.isFreed_of_fields (Obj.data_mapFields fi _)),(Obj.cls_mapFields ..).trans ci,by rw[Obj.data_mapFields fi];simp[rawInt]⟩
 refine j3 (wpAny_setField ei fi (by simp) (j3 (xi (j3 (wpAny_isOneOf_keyiter (s:={s with heap:=s.heap.update it (Obj.mapFields (·.setIfInBounds 1 (rawInt ((i:Int)+1))))}) g'.typeIs ?_)))));show wpAny _ _ (pure es[i].key) _ _ _;exact j5 (j5 ⟨_,rfl,j5 (q _ g' (kj ..))⟩)
theorem qni{it d:Addr}{i ep:Nat}{es:Array DictEntry}{Q:Option Value->Shared->Prop}(hh:A.handled=none)(g:s.heap.IsKeyIter it d i es.size ep)(x:DRaw s.heap d es ep)(hi:es.size<=i)
 (q:∀h',Heap.ExtBut it s.heap h'->Q none {s with heap:=h'}):wpAny (model prog w) A (pyNext (.ref it)) Q E s:=by
 obtain⟨oi,ei,ci,fi⟩:=id g;obtain⟨o,e,c,dt⟩:=id x;have own0:Builtin.Dict_items.ownsTuple "dict_keyiterator"=false:=by decide
 unfold pyNext;refine j3 (wpAny_attempt (k6 (name:=Str.ofString "__next__") g.typeIs km (xv km g.typeIs F.entry_dict_keyiterator_next (j3 (j5 (j3 ?_))) (F.args_dict_keyiterator_next_1 _))));refine j3 (j3 (kn g.typeIs (j5 (j3 (wpAny_fieldsOf ei fi ?_)))));simp only[own0,Bool.false_eq_true,if_false];show wpAny _ _ (if(Value.ref d==Value.none)=true then _ else _) _ _ s;have nn:(Value.ref d==Value.none)=false:=rfl;rw[if_neg (by rw[nn];decide)];refine j3 (j5 (j3 (wpAny_dictEntries e dt ?_)));rw[if_neg (by simp)];refine j3 (j5 (j3 (wpAny_dictEpoch e dt ?_)));rw[if_neg (by simp)];refine j5 ?_;have n0:¬((i:Int)<0):=by omega
 simp only[n0,if_false,Int.toNat_natCast,Array.getElem?_eq_none hi];refine j3 (j3 (kn g.typeIs (j5 ?_)));show wpAny _ _ (setField (.ref it) 0 .none >>= _) _ _ s;refine j3 (wpAny_setField ei fi (by simp) ?_);show wpAny _ _ (newExc (.type "StopIteration") [] >>= _) _ _ _;simp only[newExc,newTuple,raiseNew];refine j3 (j3 (xl (j3 (m:=firstArgMember _ _) (wpAny_of_eq (a:=Value.none) (by first|rfl|(simp only[firstArgMember];rfl)) (xl ?_ (by size_fits)))) (by size_fits)));refine j3 (wpAny_handled ?_);rw[show A.in1.handled=none from hh];refine j3 (j5 (wpAny_throw ?_));exact j3 (wpAny_isInstance (T:="StopIteration") (b:=true) ⟨_,jf _ rfl,rfl⟩ isSubtype_stop (j5 (q _ (((kj ..).extBut.push _).push _))))
end
theorem qpl{X:Cx}{z5:List (Addr×Obj)}{σ:St}{H:Hp}{s:Shared}(I:Inv X z5 σ H s):sysModules<s.heap.objs.size:=by have h:mainGlobals<s.heap.objs.size:=(I.mod.glob.keeps I.bk).lt;exact Nat.lt_trans (by decide) h
def qpe:TE:=λ_ H Q=>∀p,H p=none->Q (.ref p) (upd H p (.dK []))
theorem qml{X:Cx}{pos:Pos}:PE X (.Dict [] [] pos) qpe:=λz5 s σ H Q I h=>
 wpAny_Dict_empty ⟨.ref s.heap.objs.size,_,I.laid (a:=s.heap.objs.size) (o:=.dK []) (t':=s.toks) (λ_ _ q=>j7 _ q) (j8 _)
  ⟨Nat.zero_le _,beq_eq_false_iff_ne.mpr (Ne.symm (jd (qpl I))),[],.nil,_,#[],jf _ rfl,⟨rfl,rfl,rfl⟩,rfl,λe he=>by simp at he,.nil,List.nodup_nil⟩,rfl,h _ (I.hok.fresh (j8 _))⟩
section
variable{prog:Program}{w:World}{κ:Type}[DecidableEq κ]{knd:KeyKind prog w κ}{A:Around}{E:Value->Shared->Prop}{s:Shared}
theorem qut{d:Addr}{kvs:List (κ×Value)}{n:Nat}{k:κ}{key v:Value}{Q:Unit->Shared->Prop}(hk:knd.is k key=true)(hm:DictN knd s.heap d kvs n)(hz:kvs.length<=sizeLine)(nk:k∉kvs.map (·.1))
 (q:∀h',DictN knd h' d (kvs++[(k,v)]) (n+1)->Heap.SameBut d s.heap h'->Q () {s with heap:=h',toks:=s.toks+1}):wpAny (model prog w) A (dictSet d key v) Q E s:=by
 obtain⟨o,es,g0,cx,dt,ko,hp,nd⟩:=hm;have z1:es.size=kvs.length:=by have:=hp.length;simpa using this
 have fi:es.findIdx? (λe=>knd.is k e.key)=none:=by
  have h1:=hp.findIdx k;have h2:kvs.findIdx? (λkv=>decide (kv.1=k))=none:=by rw[List.findIdx?_eq_none_iff];intro x hx;exact decide_eq_false λe=>nk (List.mem_map.mpr ⟨x,hx,e⟩)
  rw[h2]at h1;obtain⟨l⟩:=es;simpa using h1
 unfold dictSet
 (try with_reducible refine xi ?_);refine j3 (knd.pyHash hk ?_);unfold dictSetHashed
 (try with_reducible refine xi ?_);refine j3 (wpAny_dictFind_of (s:={s with toks:=s.toks+1}) hk g0 dt ko ?_);rw[fi];refine j3 (wpAny_rule (wpAny_updateDictKeys (hz:=by omega) (s:={s with toks:=s.toks+1}) g0 dt (q _ ?_ (kj ..))));refine⟨_,_,xw _ g0 (Obj.isFreed_of_dict (Obj.data_mapDictKeys dt _)),cx.mapDictKeys _,Obj.data_mapDictKeys dt _,ko.push hk v,?_,?_⟩
 ·have:=hp.append hk (knd.hash k) v;simpa using this
 ·rw[jt,List.nodup_append];refine⟨nd,by simp,λx hx y hy z=>?_⟩;have ey:y=k:=by simpa using hy
  exact nk (by rw[<-ey,<-z];exact hx)
theorem qpo{d:Addr}{kvs:List (κ×Value)}{n:Nat}{k:κ}{key v:Value}{Q:Unit->Shared->Prop}(hk:knd.is k key=true)(hm:DictN knd s.heap d kvs n)(hz:kvs.length<=sizeLine)(nk:k∉kvs.map (·.1))
 (q:∀h',DictN knd h' d (kvs++[(k,v)]) (n+1)->Heap.SameBut d s.heap h'->Q () {s with heap:=h',toks:=s.toks+1}):wpAny (model prog w) A (setItem (.ref d) key v) Q E s:=by
 have ty:=hm.of.typeIs (s:=s);unfold setItem
 (try with_reducible refine xi ?_);refine j3 (wpAny_sequenceKey ty (by decide) (j3 ?_));refine k6 (name:=Str.ofString "__setitem__") ty slot_dict_setitem (xv slot_dict_setitem ty entry_dict_setitem ?_ (args_dict_setitem _ _ _));show wpAny _ _ (Builtin.Dict.notOrdered "__setitem__" ⟨[.ref d,key,v],[]⟩ >>= _) _ _ s;refine j3 (wpAny_notOrdered_dict ty ?_);show wpAny _ _ (dictSet d key v >>= _) _ _ s;exact j3 (qut hk hm hz nk λh' m' t'=>j5 ⟨.none,rfl,j5 (q h' m' t')⟩)
end
def isIn(kvs:List (Key×V))(k:Int):Prop:=Sum.inl k∈kvs.map (·.1)
theorem KV.map1{κ:Type}{kvs:List (κ×V)}{vs:List (κ×Value)}(r:KV kvs vs):kvs.map (·.1)=vs.map (·.1):=by
 unfold KV at r;induction r with
 |nil=>rfl
 |cons h _ ih=>rw[jr,jr,ih,h.1]
theorem KV.snoc{κ:Type}{kvs:List (κ×V)}{vs:List (κ×Value)}{k:κ}{v:V}{u:Value}(r:KV kvs vs)(h:RelV v u):KV (kvs++[(k,v)]) (vs++[(k,u)]):=by
 unfold KV at r ⊢;induction r with
 |nil=>exact .cons ⟨rfl,h⟩ .nil
 |cons g _ ih=>exact .cons g ih
theorem KV.len{κ:Type}{kvs:List (κ×V)}{vs:List (κ×Value)}(r:KV kvs vs):kvs.length=vs.length:=Paired.length r
section
variable{X:Cx}{K:FrG}
def qqc:V->V->V->Hp->(Hp->Prop)->Prop:=λo i v H Q=>∃p kvs k,o=.ref p/\i=.int k/\H p=some (.dK kvs)/\kvs.length<sizeLine/\¬isIn kvs k/\Q (upd H p (.dK (kvs++[(.inl k,v)])))
theorem qul:PSet X qqc:=by
 intro z5 s σ H o i v ov iv u Q I ro ri rv h;obtain⟨p,kvs,k,rfl,rfl,hp,hz,hn,q⟩:=h;cases ro;obtain⟨t,rfl⟩:=ri;obtain⟨_,hd,vs,rel,dd⟩:=(show ObjOk X.prog X.w H s.heap p (.dK kvs)from I.hok p _ hp);refine qpo (k:=.inl k) (q78 _ _ k t) dd (by rw[<-rel.len];omega) (by rw[<-rel.map1];exact hn) λh' dd' sb=>⟨_,?_,q⟩;have he:∃q,h'.get? p=some q:=let ⟨q,_,hq,_⟩:=dd';⟨q,hq⟩
 refine I.write (t':=s.toks+1) (x:=p) (e:=p) (by rw[hp];exact True.intro) (.inl rfl) (λb q hb z=>(sb.2 b hb).trans z) he ⟨by rw[je];exact hz,hd,_,rel.snoc rv,?_⟩;rw[je];exact dd'
def getK(kvs:List (Key×V))(k:Int):Option V:=(kvs.find? λp=>decide (p.1=Sum.inl k)).map (·.2)
theorem qjt{kvs:List (Key×V)}{vs:List (Key×Value)}{k:Int}{v:V}(r:KV kvs vs)(h:getK kvs k=some v):∃u,valueAt vs (Sum.inl k)=some u/\RelV v u:=by
 unfold KV at r;induction r with
 |nil=>cases h
 | @cons p q ps qs g _ ih=>
  obtain⟨h1,h2⟩:=g;unfold getK at h;by_cases e:p.1=Sum.inl k
  ·have e':q.1=Sum.inl k:=h1.symm.trans e;simp[List.find?_cons,e]at h;subst h;exact⟨q.2,by simp[valueAt,List.find?_cons,e'],h2⟩
  ·have e':¬q.1=Sum.inl k:=λz=>e (h1.trans z);simp[List.find?_cons,e]at h;obtain⟨u,u1,u2⟩:=ih (by unfold getK;simpa using h);exact⟨u,by rw[<-u1];simp[valueAt,List.find?_cons,e'],u2⟩
def rIxK:R2:=λx y H Q=>∃p kvs k v,x=.ref p/\y=.int k/\H p=some (.dK kvs)/\getK kvs k=some v/\Q v H
theorem ix_K:IxR X rIxK:=by
 intro value zi z5 s σ H x y v u Q I rx ry h hs;obtain⟨p,kvs,k,z,rfl,rfl,hp,hg,q⟩:=h;cases rx;obtain⟨t,rfl⟩:=ry;obtain⟨_,hd,vs,rel,dd⟩:=(show ObjOk X.prog X.w H s.heap p (.dK kvs)from I.hok p _ hp);obtain⟨w',hw,rw'⟩:=qjt rel hg;have ty:=dd.of.typeIs (s:=s);unfold subscriptTail;refine j3 ?_;rw[getitemInPython_of_ne ty.not_modules];refine j3 (wpAny_specialOf ty PySem.F.slot_dict_getitem.lookup ?_);have fin:wpAny (model X.prog X.w) X.A (subscripted zi false (.ref p) (.int k t)) (λr s₃=>wpAny (model X.prog X.w) X.A (letTemporaryGo value (.ref p) r >>= λ_=>pure r) (EP X z5 σ Q) X.xe s₃) X.xe s:=by rw[hs];exact wpAny_operating (wpAny_getItem_of (knd:=q79 X.prog X.w) (k:=.inl k) (q78 _ _ k t) dd.of.mapOf hw (j3 (wpAny_letTemporaryGo (j5 ⟨z,H,I.tok _,rw',q⟩))))
 first
  |exact j5 (j3 fin)
  |exact j3 (j5 (j3 fin))
  |exact j3 fin
end
def Itkk(a:Addr)(n:Nat):It:=
 ⟨λi H=>∃kvs p,H a=some (.dK kvs)/\kvs.length=n/\kvs[i]? =some p,
  λi H v H'=>H'=H/\∀kvs p,H a=some (.dK kvs)->kvs[i]? =some p->v=kV p.1,
  λi H=>∃kvs,H a=some (.dK kvs)/\kvs.length=n/\n<=i⟩
theorem pairs_at{P:Program}{w:World}:∀{es:List DictEntry} {kvs:List (Key×V)} {vs:List (Key×Value)} {i:Nat} {p:Key×V},Pairs (q79 P w) es vs->KV kvs vs->kvs[i]? =some p->∃e,es[i]? =some e/\RelV (kV p.1) e.key:=by
 intro es kvs vs i p h;induction h generalizing kvs i with
 |nil=>intro r e;cases r;simp at e
 | @cons en kv es vs h1 h2 _ ih=>
  intro r e;cases r with
  | @cons q _ ks _ g r=>
   cases i with
   | zero=>
    simp at e;subst e;refine⟨en,rfl,?_⟩;rw[g.1];rcases q24 h1 with⟨j,t,e1,e2⟩|⟨x,t,e1,e2⟩
    ·rw[e1,e2];exact⟨t,rfl⟩
    ·rw[e1,e2];exact⟨t,rfl⟩
   |succ i=>exact ih r (by simpa using e)
theorem qau{X:Cx}{z5:List (Addr×Obj)}{σ:St}{H:Hp}{s:Shared}{a:Addr}{kvs:List (Key×V)}(I:Inv X z5 σ H s)(e:H a=some (.dK kvs)):
 (a==sysModules)=false/\∃es,es.size=kvs.length/\DRaw s.heap a es kvs.length/\∀i p,kvs[i]? =some p->∃hi:i<es.size,RelV (kV p.1) es[i].key:=by
 obtain⟨_,y,vs,r,o,es,h1,h2,h3,h4,h5,_⟩:=(show ObjOk X.prog X.w H s.heap a (.dK kvs)from I.hok a _ e);have z:es.size=kvs.length:=by have:=h5.length;rw[<-r.len]at this;simpa using this
 refine⟨y,es,z,⟨o,h1,h2,h3⟩,λi p hp=>?_⟩;obtain⟨en,e1,e2⟩:=pairs_at h5 r hp;have hi:i<es.size:=by rw[z];exact(List.getElem?_eq_some_iff.mp hp).1
 refine⟨hi,?_⟩;have ee:es[i]=en:=by have:=(List.getElem?_eq_some_iff.mp e1).2;simpa using this
 rw[ee];exact e2
theorem qdi{P:Program}{w:World}{K:FrG}{tg:Expr}(a it:Addr)(n:Nat):Turn P w K tg (Itkk a n) [it] it (λi h=>h.IsKeyIter it a i n n) where
 mem:=by simp
 obj:=λi h st b hb=>by obtain⟨o,e,c,d⟩:=st;rw[List.mem_singleton.mp hb];exact⟨o,e,λv z=>by rw[d]at z;cases z⟩
 keep:=λi h h' st k=>st.at λo e=>k it (by simp) o e
 item:=by intro X hP hw hK hc i z5 s σ H E I hf st hg;subst hP hw hK;obtain⟨kvs,p,e,rfl,hp⟩:=hg;obtain⟨_,es,z,dr,al⟩:=qau I e;obtain⟨hi,k1⟩:=al i p hp;obtain⟨f0,f1,f2,f3,f4,f5⟩:=hf it (by simp);rw[<-z]at st dr;refine qjk st dr hi λh' st' sb=>?_;have I1:Inv X z5 σ H {s with heap:=h'}:=I.turned (t':=s.toks) (λb o hb e=>(sb.2 b hb).trans e) f0 f1 f3 f4 f5;obtain⟨o,e1,c1,d1⟩:=id st';refine⟨_,rfl,qhe (s:={s with heap:=h'}) e1 c1 d1 (by decide) ⟨kV p.1,H,I1,k1,⟨rfl,λkvs' p' e' hp'=>?_⟩,by rw[<-z];exact st',λb hb=>(hf b hb).1⟩⟩;rw[e]at e';cases e';rw[hp]at hp';cases hp';rfl
 done:=by intro X hP hw hK hc i z5 s σ H E I hf st hg;subst hP hw hK;obtain⟨kvs,e,rfl,hp⟩:=hg;obtain⟨_,es,z,dr,_⟩:=qau I e;obtain⟨f0,f1,f2,f3,f4,f5⟩:=hf it (by simp);rw[<-z]at st dr hp;exact qni (I.ok.hd hc) st dr hp λh' eb=>⟨rfl,I.turned (t':=s.toks) (λb o hb e=>eb b o hb e) f0 f1 f3 f4 f5⟩
 self:=λ_ _ _ _ _ st h=>wpAny_pyIter_keyiter st h
def qm0(td:TE):TI:=λσ H R=>td σ H λx H1=>∃a kvs,x=.ref a/\H1 a=some (.dK kvs)/\R (Itkk a kvs.length) H1
theorem qix{X:Cx}{tg l:Expr}{td:TE}(hl:PE X l td):PI X tg l (qm0 td):=by intro z5 s σ H R I h;refine thn (hl z5 s σ H _ I h) λv s1 ⟨x,H1,I1,rx,a,kvs,ex,e,q⟩=>?_;subst ex;obtain rfl:v=Value.ref a:=rx;obtain⟨y,es,z,dr,_⟩:=qau I1 e;refine qjj y dr ?_;refine⟨s1.heap.objs.size,[s1.heap.objs.size],_,_,H1,rfl,I1.kept (t':=s1.toks) λb o e=>j7 _ e,qdi a _ kvs.length,⟨_,jf _ rfl,rfl,by rw[z];rfl⟩,λb hb=>?_,q⟩;rw[List.mem_singleton.mp hb];exact I1.fpOk (j8 _) (I1.hok.fresh (j8 _))
def kD:Key->D
 |.inl i=>.int i
 |.inr x=>.str x
section
variable{K:FrG}{O O':List Nat}{R:Hp}
theorem qw4(k:Key):Rp K R (kV k) (kD k):=by
 cases k with
 |inl i=>exact .int i
 |inr x=>exact .str x
theorem Rkk.length:∀{kvs:List (Key×V)} {gs:List (Key×D)},Rkk K R kvs gs->kvs.length=gs.length
 |_,_,.nil=>rfl
 |_,_,.cons _ r=>by rw[ji,ji,Rkk.length r]
theorem Rkk.keys:∀{kvs:List (Key×V)} {gs:List (Key×D)},Rkk K R kvs gs->kvs.map (·.1)=gs.map (·.1)
 |_,_,.nil=>rfl
 |_,_,.cons _ r=>by rw[jr,jr,Rkk.keys r]
theorem Rkk.snoc{k:Key}{v:V}{d:D}(r:Rp K R v d):∀{kvs:List (Key×V)} {gs:List (Key×D)},Rkk K R kvs gs->Rkk K R (kvs++[(k,v)]) (gs++[(k,d)])
 |_,_,.nil=>.cons r .nil
 |_,_,.cons h t=>.cons h (Rkk.snoc r t)
def qbl(gs:List (Key×D))(k:Int):Option D:=(gs.find? λp=>decide (p.1=Sum.inl k)).map (·.2)
theorem Rkk.val{k:Int}{d:D}:∀{kvs:List (Key×V)} {gs:List (Key×D)},Rkk K R kvs gs->qbl gs k=some d->∃v,getK kvs k=some v/\Rp K R v d
 |_,_,.nil,e=>by cases e
 | _,_,@Rkk.cons _ _ f x xs d' ds h t,e=>by
  unfold qbl at e;by_cases z:f=Sum.inl k
  ·simp[List.find?_cons,z]at e;subst e;exact⟨x,by simp[getK,List.find?_cons,z],h⟩
  ·simp[List.find?_cons,z]at e;obtain⟨v,h1,h2⟩:=Rkk.val (k:=k) (d:=d) t (by unfold qbl;simpa using e);exact⟨v,by rw[<-h1];simp[getK,List.find?_cons,z],h2⟩
theorem Rkk.get:∀{kvs:List (Key×V)} {gs:List (Key×D)} {i:Nat} {g:Key×D},Rkk K R kvs gs->gs[i]? =some g->∃v,kvs[i]? =some (g.1,v)
 |_,_,_,_,.nil,e=>by simp at e
 |_,_,0,_,.cons h _,e=>by simp at e;subst e;exact⟨_,rfl⟩
 | _,_,i+1,g,.cons _ t,e=>by obtain⟨v,h1⟩:=Rkk.get (i:=i) (g:=g) t (by simpa using e);exact⟨v,by simpa using h1⟩
def dIxK:D->D->Option D
 |.dct gs,.int k=>qbl gs k
 |_,_=>none
theorem Rp.isD{x:V}{gs:List (Key×D)}(h:Rp K R x (.dct gs)):∃a kvs,x=.ref a/\R a=some (.dK kvs)/\Rkk K R kvs gs:=by
 cases h with
 |dct h r=>exact⟨_,_,rfl,h,r⟩
theorem qqv:OpG K rIxK dIxK:=λH R x y d e u Q s rx ry q k=>by
 unfold dIxK at q;split at q
 ·rename_i gs i;obtain rfl:=ry.isI;obtain⟨a,kvs,rfl,h,r⟩:=rx.isD;obtain⟨v,h1,h2⟩:=r.val q;exact⟨a,kvs,i,v,rfl,rfl,s _ _ h,h1,k v H R (Ext.refl s) h2⟩
 ·cases q
def qa4:D->Option (List D)
 |.dct gs=>some (gs.map λg=>kD g.1)
 |_=>none
def q7e(f:RhD):RhL:=q1l f λd=>q2f (qa4 d)
theorem qjm{a:Addr}{kvs:List (Key×V)}{gs:List (Key×D)}(h:R a=some (.dK kvs))(r:Rkk K R kvs gs):ItOk K (Itkk a kvs.length) R (gs.map λg=>kD g.1):=λH' R' s b i=>by
 have q:H' a=some (.dK kvs):=b _ _ (s _ _ h);refine⟨λe=>⟨kvs,q,rfl,by rw[j4]at e;rw[r.length];omega⟩,λd e=>?_⟩;rw[j9]at e;cases g0:gs[i]? with
 |none=>rw[g0]at e;cases e
 | some g=>
  rw[g0]at e;cases e;obtain⟨v,h1⟩:=r.get g0;refine⟨⟨kvs,_,q,rfl,h1⟩,λx H'' y=>?_⟩;obtain⟨rfl,y⟩:=y;have ex:=y kvs _ q h1;subst ex;exact⟨R',Ext.refl b,qw4 _⟩
theorem qjc{td:TE}{fd:RhD}(h:ME K O td fd):MI K O (qm0 td) (q7e fd):=λZ σ H R ρ ds ρ' Q S e k=>by
 obtain⟨d,ρ1,e1,e⟩:=q09 e;obtain⟨e2,rfl⟩:=q0h e;refine h Z σ H R ρ d _ _ S e1 λv H1 R1 S1 st1 r1=>?_;unfold qa4 at e2;split at e2
 ·cases e2;obtain⟨a,kvs,rfl,q,r⟩:=r1.isD;exact⟨a,kvs,rfl,S1.sub _ _ q,k _ H1 R1 S1 st1 (qjm q r)⟩
 ·cases e2
theorem qd7{fd:RhD}{ρ:Rho}:q7e fd ρ=(fd ρ).bind λp=>(qa4 p.1).map λx=>(x,p.2):=by
 unfold q7e q1l q2f;cases fd ρ with
 |none=>rfl
 |some p=>cases h:qa4 p.1<;>simp[h]
end
section
variable{c:MC}{O O':List Nat}{te ti:TE}{fe fi:RhD}
def qaq(i:Nat):RhO:=λρ=>if i<ρ.length then some (.nx (ρ.set i (some (.dct []))))else none
theorem qna{i:Nat}(hs:ownO c i O O'=true):MS c O O' (tAsg qpe (q6m i)) (qaq i):=λZ E σ H R ρ o hP S e k=>by
 unfold qaq at e;unfold ownO at hs;simp only[Bool.and_eq_true]at hs;split at e
 ·rename_i ze;cases e;intro l hl;have S1:=S.ext (Ext.hid (o:=.dK []) S.sub hl);obtain⟨S2,s2⟩:=S1.sub' hP hs.1.1;have notown:∀j,j∈O->σ[j]? ≠some (some (.ref l)):=S.notnew hl;have hO':∀j,j∈O'.filter (λj=>decide (j≠i))->j∈O:=λj hj=>by
   have z:=hs.1.1;unfold subO at z;simp only[Bool.and_eq_true,List.all_eq_true]at z;simpa using z.1 j hj
  refine k _ _ _ (S2.take (i:=i) (l:=l) (vs:=.dK []) (ds:=.dct []) (by simp) (by simpa using hs.1.2) (λj hj=>?_) (by rw[hP];simpa using hs.2) ze (S.new0 hl) q0u ?_ (λj hj=>notown j (hO' j hj)) (λj hj=>(List.mem_filter.mp hj).1) (.dct .nil)) s2
  ·by_cases z:j=i
   ·exact .inl z
   ·exact .inr (List.mem_filter.mpr ⟨hj,by simpa using z⟩)
  ·unfold frzR;rw[if_neg ?_]
   ·exact S.out hl
   ·rintro⟨j,hj,_,z⟩;exact notown j hj z
 ·cases e
def qe3(gs:List (Key×D))(k:Int)(d:D):Option (List (Key×D)):=if gs.length<sizeLine/\(gs.all λg=>!decide (g.1=Sum.inl k))=true then some (gs++[(.inl k,d)])else none
def qap(i:Nat)(fe fi:RhD):RhO:=λρ=>match fe ρ with
 |none=>none
 | some (d,ρ1)=>match fi ρ1 with
  | some (.int k,ρ2)=>match ρ2[i]? with
   | some (some (.dct gs))=>match qe3 gs k d with
    |some gs'=>some (.nx (ρ2.set i (some (.dct gs'))))
    |none=>none
   |_=>none
  |_=>none
theorem qn9{i:Nat}(hi:i∈O)(he:ME c.K O te fe)(hx:ME c.K O ti fi)(hs:subO c O O'=true):MS c O O' (tAsg te (gSub (tVar i) ti qqc)) (qap i fe fi):=λZ E σ H R ρ o hP S e k=>by
 unfold qap at e;cases e1:fe ρ with
 |none=>rw[e1]at e;cases e
 | some p=>
  obtain⟨d,ρ1⟩:=p;rw[e1]at e;dsimp only at e;cases e2:fi ρ1 with
  |none=>rw[e2]at e;cases e
  | some p=>
   obtain⟨x,ρ2⟩:=p;rw[e2]at e;refine he Z σ H R ρ d ρ1 _ S e1 λv H1 R1 S1 st1 r1=>?_;obtain⟨l,vs,ds,h1,h2,h3,h4,h5⟩:=S1.own i hi;refine⟨.ref l,h2,hx Z σ H1 R1 ρ1 x ρ2 _ S1 e2 λw H2 R2 S2 st2 r2=>?_⟩;obtain⟨l',vs',ds',g1,g2,g3,g4,g5⟩:=S2.own i hi;rw[h2]at g2;cases g2;cases r2 with
   | int j=>
    dsimp only at e;rw[g1]at e;cases g5 with
    |lst _=>cases e
    |dit _=>cases e
    |dct g5=>
    rename_i kvs gs;dsimp only at e;cases e3:qe3 gs j d with
    |none=>rw[e3]at e;cases e
    | some m=>
     rw[e3]at e;cases e;unfold qe3 at e3;split at e3
     ·rename_i hz;cases e3;refine⟨l,kvs,j,rfl,rfl,g3,by rw[g5.length];exact hz.1,by
            unfold isIn;rw[g5.keys];intro hm;obtain⟨g,hg,eg⟩:=List.mem_map.mp hm;have:=List.all_eq_true.mp hz.2 g hg;simp[eg]at this,?_⟩
      obtain⟨S3,s3⟩:=(S2.write hi h2 (.dct (g5.snoc (r1.mono st2.r)))).sub' hP hs;exact k σ _ _ S3 ((st1.r.trans st2.r).trans s3)
     ·cases e3
   |_=>cases e
theorem qnx{i:Nat}{ρ:Rho}(h:i<ρ.length):qaq i ρ=some (.nx (ρ.set i (some (.dct [])))):=by unfold qaq;rw[if_pos h]
theorem qnv{i:Nat}{ρ ρ1 ρ2:Rho}{d:D}{k:Int}{gs gs':List (Key×D)}(h1:fe ρ=some (d,ρ1))(h2:fi ρ1=some (.int k,ρ2))(h3:ρ2[i]? =some (some (.dct gs)))(h4:qe3 gs k d=some gs'):qap i fe fi ρ=some (.nx (ρ2.set i (some (.dct gs')))):=by unfold qap;simp only[h1,h2,h3,h4]
end
theorem qnc{K:FrG}{O:List Nat}{ta:TE}{fa:RhD}(h:ME K O ta fa):MN K O (qpj K ta) (mRev fa):=λZ σ H R ρ ds ρ' Q S e k=>by
 obtain⟨x,ρ1,e1,e⟩:=q09 e;obtain⟨e3,rfl⟩:=q0h e;refine h Z σ H R ρ x _ _ S e1 λv H1 R1 S1 st1 r1=>?_;unfold revO at e3;split at e3
 ·cases e3;obtain⟨b,xs,rfl,q,r⟩:=r1.isL;refine⟨b,xs,rfl,Same.sqL S1.sub q,λl hl=>?_⟩;have x:=Ext.hid (o:=.lst xs.reverse) S1.sub hl;exact k l xs.reverse _ _ (S1.ext x) (st1.trans x.stp) (st1.new hl) q0u (S1.out hl) r.rev
 ·cases e3
section
variable{X:Cx}{K:FrG}{O:List Nat}{a:Expr}{ta:TE}{p p2 pos zl:Pos}{fa:RhD}
def ups(n:Int):List Int:=(List.range n.toNat).map λ(i:Nat)=>(i:Int)
def qpi(ta:TE):TE:=λσ H Q=>ta σ H λv H1=>∃n:Int,[v]=[V.int n]/\0<=n/\n<=1000000/\∀q,H1 q=none->Q (.ref q) (upd H1 q (.lst ((ups n).map V.int)))
theorem qie{acc:List Value}{ns:List Int}(hl:acc.length=ns.length)(h:∀(i:Nat) (v:Value),acc[i]? =some v->∃t,v=Value.int (ns.getD i 0) t):Vals (ns.map V.int) acc:=by
 induction acc generalizing ns with
 | nil=>
  cases ns with
  |nil=>exact .nil
  |cons n ns=>simp at hl
 | cons v r ih=>
  cases ns with
  |nil=>simp at hl
  | cons n ns=>
   refine .cons ?_ (ih (by simpa using hl) λi w e=>?_)
   ·obtain⟨t,e⟩:=h 0 v rfl;exact⟨t,e⟩
   ·obtain⟨t,e⟩:=h (i+1) w (by simpa using e);exact⟨t,by simpa using e⟩
theorem qmn(hc:X.calm=true)(hg:Gl X "list")(hm:X.mg "list"=none)(hg2:Gl X "range")(hm2:X.mg "range"=none)(ha:PE X a ta)(he2:starEach [a] X.env=(false,eval a X.env)::starEach [] X.env:=by rfl)(hpl2:(backTo pos (starEach [] X.env)).any (·.1)=false:=by rfl)
 (he:starEach [.Call (.Name "range" p) [a] [] pos] X.env=(false,eval (.Call (.Name "range" p) [a] [] pos) X.env)::starEach [] X.env:=by rfl) (hpl:(backTo zl (starEach [] X.env)).any (·.1)=false:=by rfl):
 PE X (.Call (.Name "list" p2) [.Call (.Name "range" p) [a] [] pos] [] zl) (qpi ta):=by
 intro z5 s σ H Q I h;refine xj (q41 I hg hm (u:=.type "list") (by rfl) ?_);refine PyProof.Rows.callWith_type1 ?_ he hpl;rw[he];show wpAny _ _ (spliced ((false,eval (.Call (.Name "range" p) [a] [] pos) X.env)::backTo zl (starEach [] X.env))) _ _ s;refine Calls.spliced_cons ?_;refine xj (q41 I hg2 hm2 (u:=.type "range") (by rfl) ?_);refine PyProof.Rows.callWith_type1 (thn ((q01 ha q05 he2) pos z5 s σ H (λvs H1=>∃n:Int,vs=[V.int n]/\0<=n/\n<=1000000/\∀q,H1 q=none->Q (.ref q) (upd H1 q (.lst ((ups n).map V.int)))) I h) λus s1 h1=>?_) he2 hpl2;obtain⟨vs,H1,I1,r1,n,rfl,n0,n1,k⟩:=h1;obtain⟨u,rfl,ru⟩:=vals1 r1;obtain⟨t,rfl⟩:=ru;refine call_range_1 (Calls.spliced_nil ?_);have sz:Builtin.Range.rangeSize 0 n 1=(n.toNat:Int):=by rw[rangeSize_one];split<;>omega
 refine call_list_range (n := n.toNat) (I1.ok.hd hc) (IsRange.new ..) (small_one (by omega) (by omega) (by omega) (by omega)) sz (by have:(2:Nat)^24=16777216:=by decide
                                                                                                                                     omega) λh' tk acc c' kp e i=>?_
 have hf:H1 (s1.heap.push {cls:=.type "range",data:=.fields #[.int 0 s1.toks,.int n t,.int 1 (s1.toks+1)]}).objs.size=none:=I1.hok.fresh (by rw[jy];exact Nat.le_succ _);refine⟨.ref _,_,?_,rfl,k _ hf⟩;refine I1.laid (t':=tk) (λb o eb=>kp b o (j7 _ eb)) (by rw[jy];exact Nat.le_succ _) ?_;have hsl:=sizeLine_eq;refine⟨by simp only[ups,List.length_map,List.length_range];omega,acc.toList,c',qie (by have:=i.1;simp[ups];omega) λj v ev=>?_,by rw[e]⟩;have ev':acc[j]? =some v:=by simpa using ev
 obtain⟨t',e'⟩:=i.2 j v ev';have hj:j<n.toNat:=by have:=(Array.getElem?_eq_some_iff.mp ev').1;have:=i.1;omega
 refine⟨t',?_⟩;rw[e'];simp[ups,List.getD_eq_getElem?_getD,hj]
def upsO:D->Option (List D)
 |.int n=>if 0<=n/\n<=1000000 then some ((ups n).map D.int)else none
 |_=>none
theorem qnb(h:ME K O ta fa):MN K O (qpi ta) (q7d upsO fa):=λZ σ H R ρ ds ρ' Q S e k=>by
 obtain⟨x,ρ1,e1,e⟩:=q09 e;obtain⟨e3,rfl⟩:=q0h e;refine h Z σ H R ρ x _ _ S e1 λv H1 R1 S1 st1 r1=>?_;unfold upsO at e3;split at e3
 ·rename_i n;split at e3
  ·rename_i hn;cases e3;obtain rfl:=r1.isI;refine⟨n,rfl,hn.1,hn.2,λl hl=>?_⟩;have x:=Ext.hid (o:=.lst ((ups n).map V.int)) S1.sub hl;exact k l _ _ _ (S1.ext x) (st1.trans x.stp) (st1.new hl) q0u (S1.out hl) (Rps.ints _)
  ·cases e3
 ·cases e3
end
end L2
namespace L2
open PySem
abbrev Mv:=Int×Int
abbrev Sx:=List (List Mv)
abbrev Rw:=List (Option Int)
def atR(t:Rw)(z9:Int):Option Int:=(t[z9.toNat]?).join
def q1z(q:Mv)(zb:Rw):Option Int:=(atR zb q.1).map λx=>q.2+x
def q2a(ch:List Mv)(zb:Rw):Option Int:=minI ((ch.map λq=>q1z q zb).filterMap id)
def q0e:List Sx->Rw->List Rw
 |[],za=>[za]
 |st::rest,za=>(st.map λch=>q2a ch ((q0e rest za).headD []))::q0e rest za
def chAt(st:Sx)(z9:Int):List Mv:=st.getD z9.toNat []
def q3v:List Sx->Rw->Int->List Int->Option Int
 |[],za,z9,_=>atR za z9
 | st::rest,za,z9,b::bs=>match (chAt st z9)[b.toNat]? with
  |some q=>(q3v rest za q.1 bs).map λx=>q.2+x
  |none=>none
 |_::_,_,_,[]=>none
def q68(st:Sx)(t t':Rw)(z9:Int):Int:=if q1z ((chAt st z9).getD 0 (0,0)) t'=atR t z9 then 0 else 1
def q3b:Nat->List Sx->List Rw->Int->List Int
 |0,_,_,_=>[]
 |_+1,[],_,_=>[]
 |_+1,_::_,[],_=>[]
 |n+1,st::rest,t::ts,z9=>q68 st t (ts.headD []) z9::q3b n rest ts ((chAt st z9).getD (q68 st t (ts.headD []) z9).toNat (0,0)).1
theorem q9s(st:Sx)(rest:List Sx)(za:Rw)(z9 b:Int)(bs:List Int):q3v (st::rest) za z9 (b::bs)=match (chAt st z9)[b.toNat]? with
 |some q=>(q3v rest za q.1 bs).map λx=>q.2+x
 |none=>none:=rfl
theorem q58(n:Nat)(st:Sx)(rest:List Sx)(t:Rw)(ts:List Rw)(z9:Int):q3b (n+1) (st::rest) (t::ts) z9=q68 st t (ts.headD []) z9::q3b n rest ts ((chAt st z9).getD (q68 st t (ts.headD []) z9).toNat (0,0)).1:=rfl
theorem q69:∀(z6:List Sx) (za:Rw),(q0e z6 za).length=z6.length+1
 |[],_=>rfl
 | _::rest,za=>by unfold q0e;rw[ji,q69 rest za,ji]
theorem q7p:∀(z6:List Sx) (za:Rw) (k:Nat),k<=z6.length->(q0e z6 za).drop k=q0e (z6.drop k) za
 |_,_,0,_=>rfl
 |[],_,k+1,h=>by simp at h
 | _::rest,za,k+1,h=>by show(q0e rest za).drop k=q0e (rest.drop k) za;exact q7p rest za k (by simpa using h)
theorem q7b{ch:List Mv}{zb:Rw}{q:Mv}{x:Int}(h:q∈ch)(e:q1z q zb=some x):x∈(ch.map λq=>q1z q zb).filterMap id:=by rw[List.mem_filterMap];exact⟨some x,List.mem_map.mpr ⟨q,h,e⟩,rfl⟩
theorem qbt{st:Sx}{f:List Mv->Option Int}{z9:Int}{ch:List Mv}(h:st[z9.toNat]? =some ch):atR (st.map f) z9=f ch:=by unfold atR;rw[j9,h];rfl
theorem q5s{st:Sx}{z9:Int}{ch:List Mv}(h:st[z9.toNat]? =some ch):chAt st z9=ch:=by unfold chAt;rw[jk,h];rfl
theorem qoe{st:Sx}{z9:Int}{i:Nat}{q:Mv}(h:(chAt st z9)[i]? =some q):st[z9.toNat]? =some (chAt st z9):=by
 unfold chAt at h ⊢;rw[jk]at h ⊢;cases e:st[z9.toNat]? with
 |none=>rw[e]at h;simp at h
 |some ch=>rfl
theorem q6v:∀(z6:List Sx) (za:Rw) (z9:Int) (us:List Int) (c:Int),q3v z6 za z9 us=some c->∃m,atR ((q0e z6 za).headD []) z9=some m/\m<=c
 |[],za,z9,us,c,h=>⟨c,h,Int.le_refl _⟩
 |st::rest,za,z9,[],c,h=>by cases h
 | st::rest,za,z9,b::bs,c,h=>by
  unfold q3v at h;cases e:(chAt st z9)[b.toNat]? with
  |none=>rw[e]at h;cases h
  | some q=>
   rw[e]at h;simp only at h;cases e1:q3v rest za q.1 bs with
   |none=>rw[e1]at h;cases h
   | some c1=>
    rw[e1]at h;cases h;obtain⟨m1,h1,h2⟩:=q6v rest za q.1 bs c1 e1;have hc:q1z q ((q0e rest za).headD [])=some (q.2+m1):=by unfold q1z;rw[h1];rfl
    have hm:=q7b (xk e) hc;show∃m,atR (st.map λch=>q2a ch ((q0e rest za).headD [])) z9=some m/\_;rw[qbt (qoe e)];unfold q2a;cases e2:minI (((chAt st z9).map λq=>q1z q ((q0e rest za).headD [])).filterMap id)with
    |none=>rw[q9x e2]at hm;cases hm
    | some m=>
     have:=(qbb e2).2 _ hm;exact⟨m,rfl,by show m<=q.2+c1;omega⟩
def OkS(M:Nat):Nat->List Sx->Prop
 |_,[]=>True
 |n,st::rest=>st.length=M/\(∀ch∈st,ch.length=(if n=0 then 1 else 2)/\∀q∈ch,0<=q.1/\q.1.toNat<M)/\OkS M (n-1) rest
def q51(k:Nat):List Int:=List.replicate k 0
theorem q88(a:Int)(xs ys:List Int):HT.lexLt (a::xs) (a::ys)=HT.lexLt xs ys:=by rw[HT.lexLt_cons,if_pos rfl]
theorem qe9{q:Mv}{zb:Rw}:q2a [q] zb=q1z q zb:=by
 unfold q2a;cases h:q1z q zb with
 |none=>simp[h];rfl
 | some x=>
  simp[h];exact qnd (by simp) (by simp)
theorem qig{q0 q1:Mv}{zb:Rw}{m:Int}(h:q2a [q0,q1] zb=some m):(q1z q0 zb=some m∨q1z q1 zb=some m)/\(∀x,q1z q0 zb=some x->m<=x)/\∀x,q1z q1 zb=some x->m<=x:=by
 unfold q2a at h;obtain⟨h1,h2⟩:=qbb h;refine⟨?_,λx hx=>h2 x (q7b (by simp) hx),λx hx=>h2 x (q7b (by simp) hx)⟩;rw[List.mem_filterMap]at h1;obtain⟨o,ho,eo⟩:=h1;have eo:o=some m:=eo;subst eo;simp at ho;rcases ho with ho|ho
 ·exact .inl ho.symm
 ·exact .inr ho.symm
theorem ql6{α:Type}{xs:List α}(h:xs.length=2):∃a b,xs=[a,b]:=by
 match xs,h with
 |[a,b],_=>exact⟨a,b,rfl⟩
theorem q5k(M:Nat):∀(z6:List Sx) (n:Nat) (za:Rw) (z9:Int) (m:Int),OkS M n z6->n<=z6.length->(0<=z9/\z9.toNat<M)->atR ((q0e z6 za).headD []) z9=some m->
 Bits (q3b n z6 (q0e z6 za) z9)/\(q3b n z6 (q0e z6 za) z9).length=n/\q3v z6 za z9 (q3b n z6 (q0e z6 za) z9++q51 (z6.length-n))=some m/\
 ∀w,Bits w->w.length=n->q3v z6 za z9 (w++q51 (z6.length-n))=some m->HT.lexLt w (q3b n z6 (q0e z6 za) z9)=false
 |[],0,za,z9,m,_,_,_,h=>⟨λb h=>(nomatch h),rfl,h,λw _ hw _=>by rw[List.eq_nil_of_length_eq_zero hw];rfl⟩
 |[],n+1,_,_,_,_,hn,_,_=>by simp at hn
 | st::rest,0,za,z9,m,ok,_,hr,h=>by
  obtain⟨o1,o2,o3⟩:=ok;have hlt:z9.toNat<st.length:=by rw[o1];exact hr.2
  have es:st[z9.toNat]? =some st[z9.toNat]:=jb hlt;obtain⟨c1,c2⟩:=o2 _ (xo hlt);rw[if_pos rfl]at c1;obtain⟨q,eq⟩:=List.length_eq_one_iff.mp c1;have h:atR (st.map λch=>q2a ch ((q0e rest za).headD [])) z9=some m:=h;rw[qbt es,eq,qe9]at h;unfold q1z at h;cases e1:atR ((q0e rest za).headD []) q.1 with
  |none=>rw[e1]at h;cases h
  | some m1=>
   rw[e1]at h;cases h;have hq:=c2 q (by rw[eq];simp);obtain⟨_,_,g3,_⟩:=q5k M rest 0 za q.1 m1 (by simpa using o3) (Nat.zero_le _) hq e1;refine⟨λb h=>(nomatch h),rfl,?_,λw _ hw _=>by rw[List.eq_nil_of_length_eq_zero hw];rfl⟩;show q3v (st::rest) za z9 ([]++q51 (rest.length+1-0))=_;have ez:q51 (rest.length+1-0)=0::q51 rest.length:=rfl;rw[List.nil_append,ez];unfold q3v;rw[q5s es,eq];simp only[Int.toNat_zero,List.getElem?_cons_zero];have g3:q3v rest za q.1 ([]++q51 (rest.length-0))=some m1:=g3;rw[List.nil_append,Nat.sub_zero]at g3;rw[g3];rfl
 | st::rest,n+1,za,z9,m,ok,hn,hr,h=>by
  obtain⟨o1,o2,o3⟩:=ok;have hlt:z9.toNat<st.length:=by rw[o1];exact hr.2
  have es:st[z9.toNat]? =some st[z9.toNat]:=jb hlt;obtain⟨c1,c2⟩:=o2 _ (xo hlt);rw[if_neg (by omega)]at c1;obtain⟨q0,q1,eq⟩:=ql6 c1;have h0:atR (st.map λch=>q2a ch ((q0e rest za).headD [])) z9=some m:=h;rw[qbt es,eq]at h0;obtain⟨t1,t2,t3⟩:=qig h0;have ech:chAt st z9=[q0,q1]:=by rw[q5s es,eq]
  have hq0:=c2 q0 (by rw[eq];simp);have hq1:=c2 q1 (by rw[eq];simp);have hn':n<=rest.length:=by simpa using hn
  have ln:(st::rest).length-(n+1)=rest.length-n:=by simp
  have hd:(q0e (st::rest) za)=(st.map λch=>q2a ch ((q0e rest za).headD []))::q0e rest za:=rfl;have ea:atR (st.map λch=>q2a ch ((q0e rest za).headD [])) z9=some m:=h;rw[ln,hd];have o3:OkS M n rest:=by simpa using o3
  have pc:∀(b:Int) (bs:List Int) (q:Mv),[q0,q1][b.toNat]? =some q->q3v (st::rest) za z9 (b::bs)=(q3v rest za q.1 bs).map λx=>q.2+x:=λb bs q e=>by rw[q9s,ech,e]
  by_cases z:q1z q0 ((q0e rest za).headD [])=some m
  ·have eb:q68 st (st.map λch=>q2a ch ((q0e rest za).headD [])) ((q0e rest za).headD []) z9=0:=by
    unfold q68;rw[ech,ea];exact if_pos z
   have eg:q3b (n+1) (st::rest) ((st.map λch=>q2a ch ((q0e rest za).headD []))::q0e rest za) z9=0::q3b n rest (q0e rest za) q0.1:=by rw[q58,eb,ech];rfl
   rw[eg];unfold q1z at z;cases e1:atR ((q0e rest za).headD []) q0.1 with
   |none=>rw[e1]at z;cases z
   | some m1=>
    rw[e1]at z;have z:q0.2+m1=m:=ja z;obtain⟨g1,g2,g3,g4⟩:=q5k M rest n za q0.1 m1 o3 hn' hq0 e1;refine⟨λb hb=>?_,by rw[ji,g2],?_,λw hw lw pw=>?_⟩
    ·rcases List.mem_cons.mp hb with rfl|hb
     ·exact .inl rfl
     ·exact g1 b hb
    ·rw[List.cons_append,pc 0 _ q0 rfl,g3];exact congrArg some z
    ·cases w with
     |nil=>simp at lw
     | cons b bs=>
      have hbs:Bits bs:=λx hx=>hw x (jh _ hx);have lbs:bs.length=n:=by simpa using lw
      rcases hw b jg with rfl|rfl
      ·rw[q88];rw[List.cons_append,pc 0 _ q0 rfl]at pw;refine g4 bs hbs lbs ?_;cases e2:q3v rest za q0.1 (bs++q51 (rest.length-n))with
       |none=>rw[e2]at pw;cases pw
       | some c=>
        rw[e2]at pw;have pw:q0.2+c=m:=ja pw;congr 1;omega
      ·rw[HT.lexLt_cons,if_neg (by decide)];decide
  ·have z1:q1z q1 ((q0e rest za).headD [])=some m:=t1.resolve_left z;have eb:q68 st (st.map λch=>q2a ch ((q0e rest za).headD [])) ((q0e rest za).headD []) z9=1:=by
    unfold q68;rw[ech,ea];exact if_neg z
   have eg:q3b (n+1) (st::rest) ((st.map λch=>q2a ch ((q0e rest za).headD []))::q0e rest za) z9=1::q3b n rest (q0e rest za) q1.1:=by rw[q58,eb,ech];rfl
   rw[eg];unfold q1z at z1;cases e1:atR ((q0e rest za).headD []) q1.1 with
   |none=>rw[e1]at z1;cases z1
   | some m1=>
    rw[e1]at z1;have z1:q1.2+m1=m:=ja z1;obtain⟨g1,g2,g3,g4⟩:=q5k M rest n za q1.1 m1 o3 hn' hq1 e1;refine⟨λb hb=>?_,by rw[ji,g2],?_,λw hw lw pw=>?_⟩
    ·rcases List.mem_cons.mp hb with rfl|hb
     ·exact .inr rfl
     ·exact g1 b hb
    ·rw[List.cons_append,pc 1 _ q1 rfl,g3];exact congrArg some z1
    ·cases w with
     |nil=>simp at lw
     | cons b bs=>
      have hbs:Bits bs:=λx hx=>hw x (jh _ hx);have lbs:bs.length=n:=by simpa using lw
      rcases hw b jg with rfl|rfl
      ·exfalso;rw[List.cons_append,pc 0 _ q0 rfl]at pw;cases e2:q3v rest za q0.1 (bs++q51 (rest.length-n))with
       |none=>rw[e2]at pw;cases pw
       | some c=>
        rw[e2]at pw;have pw:q0.2+c=m:=ja pw;obtain⟨m0,h1,h2⟩:=q6v rest za q0.1 _ c e2;have hc:q1z q0 ((q0e rest za).headD [])=some (q0.2+m0):=by unfold q1z;rw[h1];rfl
        have:=t2 _ hc;have e3:q0.2+m0=m:=by omega
        exact z (by rw[hc,e3])
      ·rw[q88];rw[List.cons_append,pc 1 _ q1 rfl]at pw;refine g4 bs hbs lbs ?_;cases e2:q3v rest za q1.1 (bs++q51 (rest.length-n))with
       |none=>rw[e2]at pw;cases pw
       | some c=>
        rw[e2]at pw;have pw:q1.2+c=m:=ja pw;congr 1;omega
end L2
namespace L2
open PySem
theorem q6q:∀a b:List Int,HT.lexLt a b=false->HT.lexLt b a=false->a=b
 |[],[],_,_=>rfl
 |[],_::_,h,_=>by cases h
 |_::_,[],_,h=>by cases h
 | x::xs,y::ys,h,g=>by
  rw[HT.lexLt_cons]at h g;by_cases q:x=y
  ·rw[if_pos q]at h;rw[if_pos q.symm]at g;rw[q,q6q xs ys h g]
  ·rw[if_neg q]at h;rw[if_neg λz=>q z.symm]at g;simp only[decide_eq_false_iff_not]at h g;omega
theorem qqi{x y:Int×List Int}(h:qLt x y=false)(g:qLt y x=false):x=y:=by
 unfold qLt q5f at h g;by_cases q:x.1=y.1
 ·rw[if_pos q]at h;rw[if_pos q.symm]at g;exact Prod.ext q (q6q _ _ h g)
 ·rw[if_neg q]at h;rw[if_neg λz=>q z.symm]at g;simp only[decide_eq_false_iff_not]at h g;omega
theorem q5e{x y z:Int×List Int}(h:qLt x y=false)(g:qLt y z=false):qLt x z=false:=by
 cases q:qLt x z with
 |false=>rfl
 | true=>
  have e:=qqi h (qaw x z y q g);rw[e,g]at q;cases q
structure Near(n:Nat)(cost:List Int->Int)(x:Int×List Int):Prop where
 bits:Bits x.2
 len:x.2.length=n
 val:x.1=cost x.2
 least:∀w,Bits w->w.length=n->qLt (cost w,w) x=false
section
variable(r:Int)(taps:List Int)(rows:List (List Int))(e:Str)(ts:List Told)(n:Nat)
def chunk(k:Nat):List Told:=(ts.drop (q0c taps rows k).length).take (selK taps rows k).length
def mvK(k:Nat)(z9 bit:Int):Mv:=((2*z9+bit) % 2^r.toNat,q4z (chunk taps rows ts k) (q73 (rowAt rows k) (taps.map (sgn (2*z9+bit)))))
def q3x(k:Nat):List Int:=if k<n then [0,1]else [0]
def stepK(k:Nat):Sx:=(List.range (2^r.toNat)).map λ(z9:Nat)=>(q3x n k).map λb=>mvK r taps rows ts k (z9:Int) b
def q0z(k len:Nat):List Sx:=(List.range' k len).map (stepK r taps rows ts n)
def q4y(s:Int):Rw:=(List.range (2^r.toNat)).map λ(z9:Nat)=>if e="open"∨(z9:Int)=(if e="ring" then s else 0)then some 0 else none
def q6n(w:List Int):Int:=q4z ts (qpp r.toNat taps rows (frst r e w) (qok r e w))
end
section
variable{r:Int}{taps:List Int}{rows:List (List Int)}{e:Str}{ts:List Told}{n:Nat}
theorem q46(k len:Nat):q0z r taps rows ts n k (len+1)=stepK r taps rows ts n k::q0z r taps rows ts n (k+1) len:=by unfold q0z;rw[List.range'_succ];rfl
theorem q2o:((2^r.toNat:Nat):Int)=(2:Int)^r.toNat:=by rw[Int.natCast_pow];rfl
theorem q5g:∀(len k:Nat),OkS (2^r.toNat) (n-k) (q0z r taps rows ts n k len)
 |0,k=>True.intro
 | len+1,k=>by
  rw[q46];refine⟨by unfold stepK;simp,λch hch=>?_,by rw[Nat.sub_sub];exact q5g len (k+1)⟩;unfold stepK at hch;obtain⟨z9,hr,rfl⟩:=List.mem_map.mp hch;refine⟨?_,λq hq=>?_⟩
  ·unfold q3x;by_cases h:k<n
   ·rw[if_pos h,if_neg (by omega)];rfl
   ·rw[if_neg h,if_pos (by omega)];rfl
  ·obtain⟨b,_,rfl⟩:=List.mem_map.mp hq;have h1:(0:Int)<2^r.toNat:=Int.pow_pos (by decide);have h2:=Int.emod_nonneg (2*(z9:Int)+b) (by omega:(2:Int)^r.toNat≠0);have h3:=Int.emod_lt_of_pos (2*(z9:Int)+b) h1;have h4:=q2o (r:=r);refine⟨h2,?_⟩;show((2*(z9:Int)+b) % 2^r.toNat).toNat<_;omega
theorem qht{k:Nat}{z9:Int}(h0:0<=z9)(h1:z9<2^r.toNat):chAt (stepK r taps rows ts n k) z9=(q3x n k).map λb=>mvK r taps rows ts k z9 b:=by
 have h4:=q2o (r:=r);have lt:z9.toNat<2^r.toNat:=by omega
 refine q5s ?_;unfold stepK;rw[j9,xn lt];simp only[Option.map_some,Int.toNat_of_nonneg h0]
theorem q8u{a:Int}{u:List Int}(ha:0<=a/\a<2^r.toNat)(hb:Bits u)(hz:∀k b,n<=k->u[k]? =some b->b=0)(za:Rw):∀(len k:Nat),k+len=u.length->
 q3v (q0z r taps rows ts n k len) za (endR (2^r.toNat) a (u.take k)) (u.drop k)=(atR za (endR (2^r.toNat) a u)).map λx=>((List.range' k len).map λj=>q4z (chunk taps rows ts j) (q47 r.toNat taps rows a u j)).sum+x
 | 0,k,h=>by
  have e1:u.take k=u:=List.take_of_length_le (by omega);rw[e1];show atR za _=_;cases atR za (endR (2^r.toNat) a u)with
  |none=>rfl
  |some x=>simp
 | len+1,k,h=>by
  have lt:k<u.length:=by omega
  have ek:u[k]? =some u[k]:=jb lt;have mp:(0:Int)<2^r.toNat:=Int.pow_pos (by decide);have hr:=q3w mp (u.take k) a ha;rw[q46,xr lt,q9s,qht hr.1 hr.2];have eb:((q3x n k).map λb=>mvK r taps rows ts k (endR (2^r.toNat) a (u.take k)) b)[u[k].toNat]? =some (mvK r taps rows ts k (endR (2^r.toNat) a (u.take k)) u[k]):=by
   unfold q3x;by_cases h1:k<n
   ·rw[if_pos h1];rcases hb _ (xo lt)with z|z
    ·rw[z];rfl
    ·rw[z];rfl
   ·have z:=hz k _ (by omega) ek;rw[if_neg h1,z];rfl
  rw[eb];simp only;have en:(mvK r taps rows ts k (endR (2^r.toNat) a (u.take k)) u[k]).1=endR (2^r.toNat) a (u.take (k+1)):=by rw[take_snoc ek,q7l];show(2*_+u[k]) % _=_;congr 1;omega
  rw[en,q8u ha hb hz za len (k+1) (by omega),Option.map_map];have es:(mvK r taps rows ts k (endR (2^r.toNat) a (u.take k)) u[k]).2=q4z (chunk taps rows ts k) (q47 r.toNat taps rows a u k):=by unfold q47;rw[jk,ek];rfl
  rw[es,List.range'_succ,jr,List.sum_cons];congr 1;funext x;show _+(_+x)=_;omega
theorem qhq{a b:List Told}{c d:List Int}(h:a.length=c.length):q4z (a++b) (c++d)=q4z a c+q4z b d:=by unfold q4z;rw[List.zip_append h,jt,List.sum_append]
theorem qdq{a:Int}{u:List Int}{m:Nat}(k:Nat):(q47 m taps rows a u k).length=(selK taps rows k).length:=by unfold q47;rw[q9p,j4];rfl
theorem q28(N:Nat):(q0c taps rows (N+1)).length=(q0c taps rows N).length+(selK taps rows N).length:=by unfold q0c;rw[q42,je,jj]
theorem qa6{m:Nat}{a:Int}{u:List Int}:∀N,((List.range N).flatMap (q47 m taps rows a u)).length=(q0c taps rows N).length
 |0=>rfl
 |N+1=>by rw[q42,je,qa6 N,qdq,q28]
theorem q89{m:Nat}{a:Int}{u:List Int}:∀N,(q0c taps rows N).length<=ts.length->q4z (ts.take (q0c taps rows N).length) ((List.range N).flatMap (q47 m taps rows a u))=((List.range' 0 N).map λj=>q4z (chunk taps rows ts j) (q47 m taps rows a u j)).sum
 |0,_=>rfl
 | N+1,h=>by
  rw[q28]at h;have e1:ts.take (q0c taps rows (N+1)).length=ts.take (q0c taps rows N).length++chunk taps rows ts N:=by rw[q28,List.take_add];rfl
  rw[e1,q42,qhq (by rw[x6,qa6];omega),q89 N (by omega),List.range'_concat,jt,List.sum_append];simp
theorem qby{a:Int}{u:List Int}(hl:ts.length=(q0c taps rows u.length).length):q4z ts (qpp r.toNat taps rows a u)=((List.range' 0 u.length).map λj=>q4z (chunk taps rows ts j) (q47 r.toNat taps rows a u j)).sum:=by have h:=q89 (ts:=ts) (taps:=taps) (rows:=rows) (m:=r.toNat) (a:=a) (u:=u) u.length (by omega);rw[List.take_of_length_le (by omega)]at h;exact h
theorem q7y{w:List Int}(hw:w.length=n):∀k b,n<=k->(w++List.replicate (q0a r e) 0)[k]? =some b->b=0:=λk b hk h=>by rw[xq (by omega)]at h;exact List.eq_of_mem_replicate (xk h)
theorem qdf{s z9:Int}(h0:0<=z9)(h1:z9<2^r.toNat):atR (q4y r e s) z9=if e="open"∨z9=(if e="ring" then s else 0)then some 0 else none:=by
 have h4:=q2o (r:=r);have lt:z9.toNat<2^r.toNat:=by omega
 unfold atR q4y;rw[j9,xn lt];simp only[Option.map_some,Option.join_some,Int.toNat_of_nonneg h0]
theorem qd4(hb:∀w:List Int,Bits w->0<=writ w/\writ w<2^w.length)(w:List Int)(hw:Bits w)(hl:e="ring"->r.toNat<=w.length):0<=frst r e w/\frst r e w<2^r.toNat:=by
 unfold frst;by_cases h:e="ring"
 ·rw[if_pos h];have hd:Bits (w.drop (w.length-r.toNat)):=λb m=>hw b (List.mem_of_mem_drop m);have:=hb _ hd;rw[xf,show w.length-(w.length-r.toNat)=r.toNat from by have:=hl h;omega]at this;exact this
 ·rw[if_neg h];exact⟨Int.le_refl _,Int.pow_pos (by decide)⟩
theorem q9g{w:List Int}(hb:Bits w):Bits (w++List.replicate (q0a r e) 0):=q3s hb (q3r _)
theorem q6x{w:List Int}(hb:Bits w)(hw:w.length=n)(hl:e="ring"->r.toNat<=n)(hen:e="open"∨e="ended"∨e="ring")(ht:ts.length=(q0c taps rows (n+q0a r e)).length):
 q3v (q0z r taps rows ts n 0 (n+q0a r e)) (q4y r e (frst r e w)) (frst r e w) (w++List.replicate (q0a r e) 0)=some (q6n r taps rows e ts w):=by
 have hf:=qd4 (r:=r) (e:=e) q5u w hb (by rw[hw];exact hl);have lu:(w++List.replicate (q0a r e) 0).length=n+q0a r e:=by rw[je,jj,hw]
 have h:=q8u (r:=r) (taps:=taps) (rows:=rows) (ts:=ts) (n:=n) hf (q9g (r:=r) (e:=e) hb) (q7y hw) (q4y r e (frst r e w)) (n+q0a r e) 0 (by omega);have h':q3v (q0z r taps rows ts n 0 (n+q0a r e)) (q4y r e (frst r e w)) (frst r e w) (w++List.replicate (q0a r e) 0)=_:=h;rw[h'];have mp:(0:Int)<2^r.toNat:=Int.pow_pos (by decide);have he:=q3w mp (w++List.replicate (q0a r e) 0) _ hf;rw[qdf he.1 he.2,if_pos]
 ·unfold q6n;rw[qde,qby (by rw[lu];exact ht),lu];simp
 ·rcases hen with h1|h1|h1
  ·exact .inl h1
  ·refine .inr ?_;have h2:¬e="ring":=by rw[h1];decide
   have h3:q0a r e=r.toNat:=by unfold q0a;rw[if_pos h1]
   rw[if_neg h2,h3];unfold frst;rw[if_neg h2];exact qho r.toNat w
  ·refine .inr ?_;have h2:¬e="ended":=by rw[h1];decide
   have h3:q0a r e=0:=by unfold q0a;rw[if_neg h2]
   rw[if_pos h1,h3];simp only[List.replicate_zero,List.append_nil];unfold frst;rw[if_pos h1];exact qk5 r.toNat w hb (by rw[hw];exact hl h1)
theorem qbs:∀(m:Nat) (x:Int),0<=x->x<2^m->∃p:List Int,p.length=m/\Bits p/\writ p=x
 |0,x,h0,h1=>⟨[],rfl,λ_ h=>(nomatch h),by have:x<1:=h1;show(0:Int)=x;omega⟩
 | m+1,x,h0,h1=>by
  have h2:x / 2<2^m:=by rw[Int.pow_succ]at h1;omega
  obtain⟨p,p1,p2,p3⟩:=qbs m (x / 2) (by omega) h2;refine⟨p++[x % 2],by rw[je,p1];rfl,q3s p2 λb hb=>?_,by rw[qex,p3];omega⟩;rw[List.mem_singleton.mp hb];omega
theorem qil{w:List Int}{s:Int}(hb:Bits w)(hl:r.toNat<=w.length)(h0:0<=s)(h1:s<2^r.toNat)(h:endR (2^r.toNat) s w=s):writ (w.drop (w.length-r.toNat))=s:=by
 obtain⟨p,p1,p2,p3⟩:=qbs r.toNat s h0 h1;have g:=qk4 r.toNat p w p1 p2 hb w.length (j8 _);rw[List.take_length,p3,h]at g;rw[g];congr 1;have e1:(p++w).drop w.length=w.drop (w.length-r.toNat):=by rw[List.drop_append,List.drop_eq_nil_of_le (by omega),List.nil_append,p1]
 rw[e1,List.take_of_length_le (by rw[xf];omega)]
section
variable(r:Int)(taps:List Int)(rows:List (List Int))(e:Str)(ts:List Told)(n:Nat)
def q1j:List Int:=if e="ring" then(List.range (2^r.toNat)).map λ(k:Nat)=>(k:Int)else [0]
def q4j(s:Int):List Rw:=q0e (q0z r taps rows ts n 0 (n+q0a r e)) (q4y r e s)
def bestOf(s:Int):Int×List Int:=((atR ((q4j r taps rows e ts n s).headD []) s).getD 0,q3b n (q0z r taps rows ts n 0 (n+q0a r e)) (q4j r taps rows e ts n s) s)
def qgo:Int×List Int:=q4n ((q1j r e).map (bestOf r taps rows e ts n))
end
theorem q5d{s:Int}(h:s∈q1j r e):0<=s/\s<2^r.toNat:=by
 unfold q1j at h;by_cases q:e="ring"
 ·rw[if_pos q]at h;obtain⟨k,hk,rfl⟩:=List.mem_map.mp h;have:=List.mem_range.mp hk;have h4:=q2o (r:=r);omega
 ·rw[if_neg q]at h;rw[List.mem_singleton.mp h];exact⟨Int.le_refl _,Int.pow_pos (by decide)⟩
theorem q64{w:List Int}(hb:Bits w)(hl:e="ring"->r.toNat<=w.length):frst r e w∈q1j r e:=by
 have h:=qd4 (r:=r) (e:=e) q5u w hb hl;unfold q1j;by_cases q:e="ring"
 ·rw[if_pos q];have h4:=q2o (r:=r);exact List.mem_map.mpr ⟨(frst r e w).toNat,List.mem_range.mpr (by omega),Int.toNat_of_nonneg h.1⟩
 ·rw[if_neg q];unfold frst;rw[if_neg q];simp
theorem qdk{s:Int}(h:s∈q1j r e)(hl:e="ring"->r.toNat<=n):∃w:List Int,Bits w/\w.length=n/\frst r e w=s:=by
 have hs:=q5d h;by_cases q:e="ring"
 ·obtain⟨p,p1,p2,p3⟩:=qbs r.toNat s hs.1 hs.2;have hn:=hl q;refine⟨List.replicate (n-r.toNat) 0++p,q3s (q3r _) p2,by rw[je,jj,p1];omega,?_⟩;unfold frst;rw[if_pos q,je,jj,p1,List.drop_append,List.drop_eq_nil_of_le (by rw[jj];omega),List.nil_append,jj,
   show n-r.toNat+r.toNat-r.toNat-(n-r.toNat)=0 from by omega,List.drop_zero,p3]
 ·unfold q1j at h;rw[if_neg q]at h;refine⟨List.replicate n 0,q3r _,jj,?_⟩;unfold frst;rw[if_neg q,List.mem_singleton.mp h]
theorem qga{w:List Int}{s c:Int}(hs:s∈q1j r e)(hb:Bits w)(hw:w.length=n)(hl:e="ring"->r.toNat<=n)(hen:e="open"∨e="ended"∨e="ring")(ht:ts.length=(q0c taps rows (n+q0a r e)).length)
 (h:q3v (q0z r taps rows ts n 0 (n+q0a r e)) (q4y r e s) s (w++List.replicate (q0a r e) 0)=some c):s=frst r e w/\c=q6n r taps rows e ts w:=by
 have h1:=q5d hs;have es:s=frst r e w:=by
  by_cases q:e="ring"
  ·have lu:(w++List.replicate (q0a r e) 0).length=n+q0a r e:=by rw[je,jj,hw]
   have g:=q8u (r:=r) (taps:=taps) (rows:=rows) (ts:=ts) (n:=n) h1 (q9g (r:=r) (e:=e) hb) (q7y hw) (q4y r e s) (n+q0a r e) 0 (by omega);have g':q3v (q0z r taps rows ts n 0 (n+q0a r e)) (q4y r e s) s (w++List.replicate (q0a r e) 0)=_:=g;rw[g']at h;have mp:(0:Int)<2^r.toNat:=Int.pow_pos (by decide);have he:=q3w mp (w++List.replicate (q0a r e) 0) _ h1;have h2:¬e="ended":=by rw[q];decide
   have h5:¬e="open":=by rw[q];decide
   have h3:q0a r e=0:=by unfold q0a;rw[if_neg h2]
   rw[qdf he.1 he.2]at h;by_cases z:e="open"∨endR (2^r.toNat) s (w++List.replicate (q0a r e) 0)=(if e="ring" then s else 0)
   ·rcases z with z|z
    ·exact absurd z h5
    ·rw[if_pos q,h3]at z;simp only[List.replicate_zero,List.append_nil]at z;unfold frst;rw[if_pos q];exact(qil hb (by rw[hw];exact hl q) h1.1 h1.2 z).symm
   ·rw[if_neg z]at h;cases h
  ·unfold q1j at hs;rw[if_neg q]at hs;unfold frst;rw[if_neg q];exact List.mem_singleton.mp hs
 refine⟨es,?_⟩;rw[es,q6x hb hw hl hen ht]at h;exact(ja h).symm
theorem q9a{s:Int}(hs:s∈q1j r e)(hl:e="ring"->r.toNat<=n)(hen:e="open"∨e="ended"∨e="ring")(ht:ts.length=(q0c taps rows (n+q0a r e)).length):
 atR ((q4j r taps rows e ts n s).headD []) s=some (bestOf r taps rows e ts n s).1/\Bits (bestOf r taps rows e ts n s).2/\(bestOf r taps rows e ts n s).2.length=n/\(bestOf r taps rows e ts n s).1=q6n r taps rows e ts (bestOf r taps rows e ts n s).2/\
 ∀w,Bits w->w.length=n->frst r e w=s->qLt (q6n r taps rows e ts w,w) (bestOf r taps rows e ts n s)=false:=by
 have h1:=q5d hs;obtain⟨w0,b0,l0,f0⟩:=qdk hs hl;have p0:=q6x (taps:=taps) (rows:=rows) b0 l0 hl hen ht;rw[f0]at p0;obtain⟨m,hm,_⟩:=q6v _ _ _ _ _ p0;have hm:atR ((q4j r taps rows e ts n s).headD []) s=some m:=hm;have e1:(bestOf r taps rows e ts n s).1=m:=by unfold bestOf;rw[hm];rfl
 have ls:(q0z r taps rows ts n 0 (n+q0a r e)).length=n+q0a r e:=by unfold q0z;rw[j4,List.length_range']
 have h4:=q2o (r:=r);obtain⟨g1,g2,g3,g4⟩:=q5k (2^r.toNat) (q0z r taps rows ts n 0 (n+q0a r e)) n (q4y r e s) s m (q5g (n:=n) (n+q0a r e) 0) (by rw[ls];omega) ⟨h1.1,by omega⟩ hm;have ez:q51 ((q0z r taps rows ts n 0 (n+q0a r e)).length-n)=List.replicate (q0a r e) 0:=by rw[ls,Nat.add_sub_cancel_left];rfl
 rw[ez]at g3 g4;obtain⟨_,c1⟩:=qga hs g1 g2 hl hen ht g3;refine⟨by rw[hm,e1],g1,g2,by rw[e1,c1];rfl,λw hb hw hf=>?_⟩;have pw:=q6x (taps:=taps) (rows:=rows) hb hw hl hen ht;rw[hf]at pw;obtain⟨m',hm',le⟩:=q6v _ _ _ _ _ pw;have hm':atR ((q4j r taps rows e ts n s).headD []) s=some m':=hm';rw[hm]at hm';cases hm';unfold qLt q5f;simp only;rw[e1];by_cases z:q6n r taps rows e ts w=m
 ·rw[if_pos z];exact g4 w hb hw (by rw[pw,z])
 ·rw[if_neg z];simp;omega
theorem qn3(hl:e="ring"->r.toNat<=n)(hen:e="open"∨e="ended"∨e="ring")(ht:ts.length=(q0c taps rows (n+q0a r e)).length):Near n (q6n r taps rows e ts) (qgo r taps rows e ts n):=by
 have hne:(q1j r e).map (bestOf r taps rows e ts n)≠[]:=by have h:=q64 (r:=r) (e:=e) (w:=List.replicate n 0) (q3r _) (by rw[jj];exact hl);intro z;rw[List.map_eq_nil_iff.mp z]at h;cases h
 obtain⟨h1,h2⟩:=qa2 hne;obtain⟨s,hs,es⟩:=List.mem_map.mp h1;obtain⟨_,g1,g2,g3,_⟩:=q9a (ts:=ts) (taps:=taps) (rows:=rows) hs hl hen ht;have es:bestOf r taps rows e ts n s=qgo r taps rows e ts n:=es;rw[es]at g1 g2 g3;refine⟨g1,g2,g3,λw hb hw=>?_⟩;have hf:=q64 (r:=r) (e:=e) hb (by rw[hw];exact hl);obtain⟨_,_,_,_,g5⟩:=q9a (ts:=ts) (taps:=taps) (rows:=rows) hf hl hen ht;exact q5e (g5 w hb hw rfl) (h2 _ (List.mem_map.mpr ⟨_,hf,rfl⟩))
end
end L2
namespace L2
open PySem
def mvD(q:Mv):D:=.tup [.int q.1,.int q.2]
def chD(ch:List Mv):D:=.lst (ch.map mvD)
def sxD(st:Sx):D:=.lst (st.map chD)
def stD(z6:List Sx):D:=.lst (z6.map sxD)
def rwD(t:Rw):D:=.lst (t.map optI)
def tbD(t:List Rw):D:=.lst (t.map rwD)
def q6h{α:Type}(c:List (List α))(q:Int×α):List (List α):=c.set q.1.toNat (c.getD q.1.toNat []++[q.2])
theorem qc5{α:Type}(j:Nat):∀(xs:List α) (c:List (List α)),j<c.length->((List.replicate xs.length (j:Int)).zip xs).foldl q6h c=c.set j (c.getD j []++xs)
 | [],c,h=>by
  have e:c.set j (c.getD j []++[])=c:=by rw[List.append_nil,jk,jb h];exact List.set_getElem_self h
  rw[e];rfl
 | x::xs,c,h=>by
  have e1:((List.replicate (x::xs).length (j:Int)).zip (x::xs))=((j:Int),x)::(List.replicate xs.length (j:Int)).zip xs:=rfl;rw[e1,List.foldl_cons];have e2:q6h c ((j:Int),x)=c.set j (c.getD j []++[x]):=by unfold q6h;simp only[Int.toNat_natCast]
  rw[e2,qc5 j xs _ (by rw[jx];exact h),List.set_set];congr 1;rw[jk,jw h];simp
theorem q8i{α β:Type}:∀{xs:List α} {ys zs:List β},xs.length=ys.length->xs.zip (ys++zs)=xs.zip ys
 |[],[],_,_=>rfl
 | x::xs,y::ys,zs,h=>by rw[List.cons_append,List.zip_cons_cons,List.zip_cons_cons,q8i (by simpa using h)]
 |[],_::_,_,h=>by simp at h
 |_::_,[],_,h=>by simp at h
section
variable{taps:List Int}{rows:List (List Int)}{ts:List Told}
theorem qc6(N:Nat):∀j,j<=N->(q0c taps rows j).length<=ts.length->((q0c taps rows j).zip ts).foldl q6h (List.replicate N [])=(List.range N).map λk=>if k<j then chunk taps rows ts k else []
 | 0,_,_=>by
  show List.replicate N []=_;apply List.ext_getElem?;intro i;by_cases h:i<N
  ·rw[j9,xn h,xy,if_pos h];simp
  ·rw[xg (by simp;omega),xg (by simp;omega)]
 | j+1,hj,hl=>by
  rw[q28]at hl;have eP:q0c taps rows (j+1)=q0c taps rows j++List.replicate (selK taps rows j).length (j:Int):=q42 _ _;have lc:(chunk taps rows ts j).length=(selK taps rows j).length:=by unfold chunk;rw[x6,xf];omega
  have eT:ts=ts.take (q0c taps rows j).length++(chunk taps rows ts j++(ts.drop (q0c taps rows j).length).drop (selK taps rows j).length):=by unfold chunk;rw[List.take_append_drop,List.take_append_drop]
  have ez:(q0c taps rows (j+1)).zip ts=(q0c taps rows j).zip ts++(List.replicate (selK taps rows j).length (j:Int)).zip (chunk taps rows ts j):=by
   have h1:(q0c taps rows j).length=(ts.take (q0c taps rows j).length).length:=by rw[x6];omega
   have e1:(q0c taps rows j).zip ts=(q0c taps rows j).zip (ts.take (q0c taps rows j).length):=by have:=q8i (zs:=chunk taps rows ts j++(ts.drop (q0c taps rows j).length).drop (selK taps rows j).length) h1;rw[<-eT]at this;exact this
   rw[e1,eP];have:=List.zip_append (r₁:=List.replicate (selK taps rows j).length (j:Int)) (r₂:=chunk taps rows ts j++(ts.drop (q0c taps rows j).length).drop (selK taps rows j).length) h1;rw[<-eT]at this;rw[this,q8i (by rw[jj,lc])]
  rw[ez,List.foldl_append,qc6 N j (by omega) (by omega),<-lc,qc5 j _ _ (by simp;omega)];apply List.ext_getElem?;intro i;by_cases h:i<N
  ·rw[j9,xn h];by_cases q:j=i
   ·subst q;rw[jw (by simp;omega)];rw[jk,j9,xn h];simp
   ·rw[jc q,j9,xn h];simp only[Option.map_some];congr 1;by_cases z:i<j
    ·rw[if_pos z,if_pos (by omega)]
    ·rw[if_neg z,if_neg (by omega)]
  ·rw[xg (by simp;omega),xg (by simp;omega)]
theorem qg4(N:Nat)(hl:(q0c taps rows N).length<=ts.length):((q0c taps rows N).zip ts).foldl q6h (List.replicate N [])=(List.range N).map (chunk taps rows ts):=by rw[qc6 N N (j8 _) hl];refine List.map_congr_left λk hk=>?_;rw[if_pos (List.mem_range.mp hk)]
end
theorem qbn{i:Nat}{fg:RhG}{f:Fd}(d:D)(r:List D)(ρ:Rho)(dss:List (List D)):q5m i fg f (d::r) ρ dss=match fg d ρ with
 | some ρ1=>if isFree ρ1 i=true then(match f ρ1 dss with
  |some p=>q5m i fg f r p.1 p.2
  |none=>none)else none
 |none=>none:=rfl
theorem qc4{i a b:Nat}{fe:RhD}{fs:RhL}{α:Type}(dat obj:α->D)(ρ0:Option D->Option D->Rho)(hf:∀u v,isFree (ρ0 u v) i=true)
 (hg:∀(k:Int) (t:α) (u v:Option D),(q2b 2 (q0n (gSet a) (q0n (gSet b) q2c))) (.tup [.int k,dat t]) (ρ0 u v)=some (ρ0 (some (.int k)) (some (dat t))))
 (he:∀(k:Int) (t:α),fe (ρ0 (some (.int k)) (some (dat t)))=some (.int k,ρ0 (some (.int k)) (some (dat t)))) (hs:∀(k:Int) (t:α),fs (ρ0 (some (.int k)) (some (dat t)))=some ([obj t],ρ0 (some (.int k)) (some (dat t)))):
 ∀(zs:List (Int×α)) (c:List (List α)) (u v:Option D),(∀q∈zs,0<=q.1/\q.1.toNat<c.length)->(∀g∈c,g.length+zs.length<sizeLine)->∃u' v',q5m i (q2b 2 (q0n (gSet a) (q0n (gSet b) q2c))) (q4w i fe fs) (zs.map λq=>D.tup [.int q.1,dat q.2]) (ρ0 u v) (c.map λg=>g.map obj)=some (ρ0 u' v',(zs.foldl q6h c).map λg=>g.map obj)
 |[],c,u,v,_,_=>⟨u,v,rfl⟩
 | q::zs,c,u,v,hz,hc=>by
  obtain⟨z0,z1⟩:=hz q jg;have hq:c[q.1.toNat]? =some c[q.1.toNat]:=jb z1;have hp:q7m (c.map λg=>g.map obj) q.1 (obj q.2)=some ((q6h c q).map λg=>g.map obj):=by unfold q7m;rw[if_pos z0,j9,hq];simp only[Option.map_some];rw[if_pos (by rw[j4];have:=hc _ (xo z1);simp at this;omega)];unfold q6h;rw[List.map_set,jk,hq];simp
  obtain⟨u',v',h⟩:=qc4 (i:=i) (a:=a) (b:=b) (fe:=fe) (fs:=fs) dat obj ρ0 hf hg he hs zs (q6h c q) (some (.int q.1)) (some (dat q.2)) (λp hp=>by
   have:=hz p (jh _ hp);refine⟨this.1,?_⟩;unfold q6h;rw[jx];exact this.2) (λg hg=>by
   unfold q6h at hg;rcases List.mem_or_eq_of_mem_set hg with h1|h1
   ·have:=hc g h1;simp at this;omega
   ·rw[h1,jk,hq];have:=hc _ (xo z1);simp at this ⊢;omega)
  refine⟨u',v',?_⟩;have step:q4w i fe fs (ρ0 (some (.int q.1)) (some (dat q.2))) (c.map λg=>g.map obj)=some (ρ0 (some (.int q.1)) (some (dat q.2)),(q6h c q).map λg=>g.map obj):=by unfold q4w;rw[he q.1 q.2];simp only[hf,if_true];rw[hs q.1 q.2];simp only[hf,if_true,hp,Option.map_some]
  rw[jr,List.foldl_cons,<-h,qbn,hg q.1 q.2 u v];simp only[hf,if_true,step]
end L2
namespace L2
open PySem PySem.Spec PyProof.Rows
section
variable{X:Cx}{K:FrG}
theorem qb3(x:Int×List Int):qb4 (pairD x)=some x:=by show(q3d (x.2.map D.int)).map _=_;rw[q3k];rfl
end
structure FunD(K:FrG)(x qual:Str)(st:Stmt)(f:Addr)(fd:FuncData):Prop where
 ex:∃(oc:Value) (od:Option Addr) (dV kV doc pm:Value) (an:Option Addr) (cdv ct:Value) (osl:Array (Option Value)),
  fd=PySem.W.fnOf x qual (q0o st) (q0m st) (q04 st) dV kV doc pm an cdv ct/\K.lookup f=some ⟨oc,od,.func fd,osl⟩/\PySem.W.codeIn K cdv qual=true
 kp:PySem.W.keepIn K (.ref f)=true
section
variable{P:Program}{w:World}{K:FrG}{mg:Str->Option Value}{base:Heap}
theorem FunD.ok{x qual:Str}{st:Stmt}{f:Addr}{fd:FuncData}{N ps:List Str}{k:Nat}{sp:Sp}(F:FunD K x qual st f fd)(S:q0p N ps (q04 st))(len:∀vs H Q E,sp vs H Q E->vs.length=ps.length)
 (zr:∀(cdv:Value) (A:Around) (outer:List Env) (s:Shared) (H:Hp) (vs:List V) (Q:VK) (E:XK),Room k (A.deeper (envOfC qual (q04 st) s.heap.objs.size f cdv))->sp vs H Q E->
   ∃t,PSs (cxOf CX0 P w K mg base N qual (q04 st) f cdv A outer s H E).nox (q0m st) t/\t {nx:=λ_ H'=>Q .non H',rt:=Q} (start N vs) H):FnOk P w K mg base CX0 (k+1) f fd ps sp:=by
 obtain⟨oc,od,dV,kV,doc,pm,an,cdv,ct,osl,rfl,lk,hcd⟩:=F.ex;refine qtf lk hcd S len λA outer s H vs Q E hr hsp=>?_;obtain⟨t,h,q⟩:=zr cdv A outer s H vs Q E hr hsp;exact⟨t,h.nox,q⟩
end
section
variable{prog:Program}{w:World}{A:Around}{R:Result->Shared->Prop}{I S l:Addr}{its:Array Value}{s0:Shared}{bt:Nat->Nat->Bool}{kw:List (Str×Value)}
abbrev StT(I l:Addr)(its:Array Value)(i:Nat)(h:Heap):Prop:=h.IsTupleIter I l i/\h.IsTuple l its
theorem StT.keep{i:Nat}{h h':Heap}(st:StT I l its i h)(k:∀b o,b=I∨b=l->h.get? b=some o->h'.get? b=some o):StT I l its i h':=by obtain⟨⟨o,e,c⟩,⟨o2,e2,c2⟩⟩:=st;exact⟨⟨o,k I o (.inl rfl) e,c⟩,⟨o2,k l o2 (.inr rfl) e2,c2⟩⟩
theorem qgt(hh:A.in1.handled=none)(lI:l≠I)(SI:S≠I)(Sl:S≠l)(zj:CmpK prog w A.in1 I S s0 its bt)(hR:∀v s',its[argBest bt (its.size-1)]? =some v->Kp I S s0 s'->R (.ok (.ret v)) s'):
 ∀(k j:Nat) (s:Shared) (vb:Value) (c:Nat),its.size-(j+1)=k->j+1<=its.size->StT I l its (j+1) s.heap->its[argBest bt j]? =some vb->s.heap.get? S=some {cls:=.type "list",data:=.seq #[vb,vb] c}->Kp I S s0 s->
   codeAny (model prog w) A (.builtin "min.loop" ⟨[.ref I,.none,.ref S],kw⟩) R s:=by
 intro k;induction k with
 | zero=>
  intro j s vb c hk hj st hb hS K;have en:j+1=its.size:=by omega
  refine k7 ki ?_;rw[k8 xh];show wpAny _ _ (seqItems? (.ref S) >>= _) _ _ s;refine j3 (x8 hS rfl ?_);refine j3 (k9 ?_);refine wpAny_pyNext_tuple_end hh st.1 st.2 (Array.getElem?_eq_none (by omega)) λh' eb=>?_;have hS2:h'.get? S=some {cls:=.type "list",data:=.seq #[vb,vb] c}:=eb S _ SI hS;show wpAny _ _ (updateSeq S (λ_=>#[]) >>= _) _ _ {s with heap:=h'};refine j3 (kb (s:={s with heap:=h'}) hS2 rfl ?_ (by simp[sizeLine_eq]) (by simp[sizeLine_eq]));refine j3 (xp ?_);refine j5 ?_;have ej:its.size-1=j:=by omega
  refine hR vb _ (by rw[ej];exact hb) (K.on (λb o h1 h2 e=>?_) rfl rfl rfl);exact(xm h' _ (Ne.symm h2)).trans (eb b o h1 e)
 | succ k ih=>
  intro j s vb c hk hj st hb hS K;have lt:j+1<its.size:=by omega
  refine k7 ki ?_;rw[k8 xh];show wpAny _ _ (seqItems? (.ref S) >>= _) _ _ s;refine j3 (x8 hS rfl ?_);refine j3 (k9 ?_);have hx:its[j+1]? =some its[j+1]:=Array.getElem?_eq_getElem lt;refine wpAny_pyNext_tuple_item st.1 st.2 (x:=its[j+1]) hx λh' st' sb=>?_;have kI:∀b o,b≠I->s.heap.get? b=some o->h'.get? b=some o:=λb o hb e=>(sb.2 b hb).trans e;have hS2:h'.get? S=some {cls:=.type "list",data:=.seq #[vb,vb] c}:=kI S _ SI hS;have L2:h'.IsTuple l its:=by obtain⟨o,e,q⟩:=st.2;exact⟨o,kI l o lI e,q⟩
  have K2:Kp I S s0 {s with heap:=h'}:=K.on (λb o h1 _ e=>kI b o h1 e) rfl rfl rfl;show wpAny _ _ (pure its[j+1] >>= _) _ _ {s with heap:=h'};refine j3 (j5 ?_);show wpAny _ _ (Sem.tryCatch _ _ >>= _) _ _ {s with heap:=h'};refine j3 (k9 (xi ?_));refine j3 (zj (j+1) (argBest bt j) _ vb _ _ _ hx hb K2 λs3 q3=>?_);refine j3 (xi (xx ?_));refine j3 (xp ?_);refine j5 ?_;have hS3:=q3.heap S _ hS2;have st3:StT I l its (j+1+1) s3.heap:=StT.keep ⟨st',L2⟩ λb o _ e=>q3.heap b o e;have K3:Kp I S s0 s3:=K2.on (λb o _ _ e=>q3.heap b o e) q3.gens q3.drawn q3.os;have eb:argBest bt (j+1)=if bt (j+1) (argBest bt j)=true then j+1 else argBest bt j:=by rw[argBest]
  cases q:bt (j+1) (argBest bt j)with
  | true=>
   rw[q,if_pos rfl]at eb;show wpAny _ _ (updateSeq S _ >>= _) _ _ s3;refine j3 (kb hS3 rfl ?_ (by simp[sizeLine_eq]) (by simp[sizeLine_eq]));refine j3 (xp ?_);refine j5 ⟨xu xh _,?_⟩;have hS4:=xw (Obj.mapSeq λ_=>#[its[j+1],its[j+1]]) hS3 rfl;refine ih (j+1) _ its[j+1] _ (by omega) lt (st3.keep λb o hb e=>?_) (by rw[eb];exact hx) hS4 (K3.on (λb o h1 h2 e=>(xm s3.heap _ (Ne.symm h2)).trans e) rfl rfl rfl);refine(xm s3.heap _ ?_).trans e;rcases hb with rfl|rfl
   ·exact SI
   ·exact Sl
  | false=>
   rw[q,if_neg (by decide)]at eb;show wpAny _ _ (letGo _ >>= _) _ _ s3;refine j3 (xp ?_);refine j5 ⟨xu xh _,?_⟩;exact ih (j+1) s3 vb c (by omega) lt st3 (by rw[eb];exact hb) hS3 K3
theorem qeb(hh:A.in1.handled=none)(lI:l≠I)(SI:S≠I)(Sl:S≠l)(zj:CmpK prog w A.in1 I S s0 its bt)(hR:∀v s',its[argBest bt (its.size-1)]? =some v->Kp I S s0 s'->R (.ok (.ret v)) s')
 (lt:0<its.size)
 {s:Shared} {c:Nat} (st:StT I l its 0 s.heap) (hS:s.heap.get? S=some {cls:=.type "list",data:=.seq #[] c}) (K:Kp I S s0 s):codeAny (model prog w) A (.builtin "min.loop" ⟨[.ref I,.none,.ref S],kw⟩) R s:=by
 refine k7 ki ?_;rw[k8 xh];show wpAny _ _ (seqItems? (.ref S) >>= _) _ _ s;refine j3 (x8 hS rfl ?_);refine j3 (k9 ?_);have hx:its[0]? =some its[0]:=Array.getElem?_eq_getElem lt;refine wpAny_pyNext_tuple_item st.1 st.2 (x:=its[0]) hx λh' st' sb=>?_;have kI:∀b o,b≠I->s.heap.get? b=some o->h'.get? b=some o:=λb o hb e=>(sb.2 b hb).trans e;have hS2:h'.get? S=some {cls:=.type "list",data:=.seq #[] c}:=kI S _ SI hS;have L2:h'.IsTuple l its:=by obtain⟨o,e,q⟩:=st.2;exact⟨o,kI l o lI e,q⟩
 show wpAny _ _ (pure its[0] >>= _) _ _ {s with heap:=h'};refine j3 (j5 ?_);show wpAny _ _ (updateSeq S _ >>= _) _ _ {s with heap:=h'};refine j3 (kb (s:={s with heap:=h'}) hS2 rfl ?_ (by simp[sizeLine_eq]) (by simp[sizeLine_eq]));refine j5 ⟨xu xh _,?_⟩;have hS4:=xw (Obj.mapSeq λ_=>#[its[0],its[0]]) hS2 rfl;refine qgt hh lI SI Sl zj hR (its.size-1) 0 _ its[0] _ rfl lt (StT.keep ⟨st',L2⟩ λb o hb e=>?_) hx hS4 (K.on (λb o h1 h2 e=>(xm h' _ (Ne.symm h2)).trans (kI b o h1 e)) rfl rfl rfl);refine(xm h' _ ?_).trans e;rcases hb with rfl|rfl
 ·exact SI
 ·exact Sl
theorem qet(hh:A.in1.handled=none){a b:Value}{Q:Value->Shared->Prop}{E:Value->Shared->Prop}{s:Shared}(zj:CmpK prog w A.in1 (s.heap.objs.size+1) (s.heap.objs.size+2) {s with heap:=s.heap.push {cls:=.type "tuple",data:=.seq #[a,b]}} #[a,b] bt)
 (hQ:∀v s',#[a,b][argBest bt 1]? =some v->Kq s s'->Q v s'):wpAny (model prog w) A (call (.builtin "min") [a,b]) Q E s:=by
 refine kmk_tree F.kind_min F.plain_min F.entry_min (F.args_min2 _ _) ?_;show wpAny _ A.in1 (Builtin.Builtins.bindParams "min" ["key","default"] 0 ⟨[],[]⟩ >>= _) _ _ s;refine j3 (wpAny_of_eq (show Builtin.Builtins.bindParams "min" ["key","default"] 0 ⟨[],[]⟩=pure [none,none]from rfl) ?_);show wpAny _ A.in1 (newTuple [a,b] >>= _) _ _ s;refine j3 (xl ?_);have hT:(s.heap.push {cls:=.type "tuple",data:=.seq #[a,b]}).IsTuple s.heap.objs.size #[a,b]:=⟨_,jf _ rfl,rfl,0,rfl⟩;have sz1:(s.heap.push {cls:=.type "tuple",data:=.seq #[a,b]}).objs.size=s.heap.objs.size+1:=jy _ _;refine j3 (wpAny_pyIter_tuple hT ?_);refine j3 (xl ?_);rw[show(toString "min"++toString ".loop")="min.loop" from by decide];refine j5 ⟨xu xh _,?_⟩;dsimp only;have sz2:((s.heap.push {cls:=.type "tuple",data:=.seq #[a,b]}).push {cls:=.type "tuple_iterator",data:=.fields #[.ref s.heap.objs.size,.int 0 0]}).objs.size=s.heap.objs.size+2:=by rw[jy,sz1]
 have push2:∀c o,(s.heap.push {cls:=.type "tuple",data:=.seq #[a,b]}).get? c=some o->(((s.heap.push {cls:=.type "tuple",data:=.seq #[a,b]}).push {cls:=.type "tuple_iterator",data:=.fields #[.ref s.heap.objs.size,.int 0 0]}).push {cls:=.type "list",data:=.seq #[]}).get? c=some o:=λc o e=>j7 _ (j7 _ e);have g1:=jf (s.heap.push {cls:=.type "tuple",data:=.seq #[a,b]}) (o:={cls:=.type "tuple_iterator",data:=.fields #[.ref s.heap.objs.size,.int 0 0]}) rfl;have g2:=jf ((s.heap.push {cls:=.type "tuple",data:=.seq #[a,b]}).push {cls:=.type "tuple_iterator",data:=.fields #[.ref s.heap.objs.size,.int 0 0]}) (o:={cls:=.type "list",data:=.seq #[]}) rfl;rw[sz2]at g2;rw[sz1]at g1;rw[sz2,sz1];refine qeb (l:=s.heap.objs.size) (its:=#[a,b]) hh (jd (Nat.lt_succ_self _)) (Nat.ne_of_gt (Nat.lt_succ_self _)) (Nat.ne_of_gt (Nat.lt_succ_of_lt (Nat.lt_succ_self _))) zj (λv s' e k=>hQ v s' e ?_) (by simp) (c:=0) ⟨⟨_,j7 _ g1,rfl,rfl⟩,?_⟩ g2 ⟨λc o _ _ e=>push2 c o e,rfl,rfl,rfl⟩
 ·exact⟨λc o e=>k.heap c o (jd (Nat.lt_succ_of_lt (j6 e))) (jd (Nat.lt_succ_of_lt (Nat.lt_succ_of_lt (j6 e)))) (j7 _ e),k.gens,k.drawn,k.os⟩
 ·obtain⟨o,e,c⟩:=hT;exact⟨o,push2 _ o e,c⟩
end
section
variable{X:Cx}{K:FrG}{O:List Nat}{tr:TA}{fs:RhL}
def qlg(K:FrG):List V->Hp->VK->Prop:=λxs H Q=>∃x y p q,xs=[x,y]/\PrV K H x p/\PrV K H y q/\p.2.length=q.2.length/\Q (if qLt q p=true then y else x) H
theorem qbr(hK:X.K=K)(hc:X.calm=true)(hu:X.A.units+64<cLine):q4i X (.builtin "min") (qlg K):=by
 subst hK;intro z5 s σ H xs us Q I r h;obtain⟨x,y,p,q,rfl,hp,hq,hl,k⟩:=h;obtain⟨u,u',rfl,ru,ru'⟩:=vals2 r;have hh:X.A.in1.handled=none:=I.ok.hd hc;obtain⟨a,b,t,vs,rfl,g1,g2,g3⟩:=qc9 I hp ru;obtain⟨a',b',t',vs',rfl,g1',g2',g3'⟩:=qc9 I hq ru';have old:∀s',Kp (s.heap.objs.size+1) (s.heap.objs.size+2) {s with heap:=s.heap.push {cls:=.type "tuple",data:=.seq #[.ref a,.ref a']}} s'->∀c o,s.heap.get? c=some o->s'.heap.get? c=some o:=λs' k c o e=>k.heap c o (jd (Nat.lt_succ_of_lt (j6 e))) (jd (Nat.lt_succ_of_lt (Nat.lt_succ_of_lt (j6 e)))) (j7 _ e);have tup:∀{c:Addr} {its:Array Value} {h:Heap},(∀c o,s.heap.get? c=some o->h.get? c=some o)->IsTup s.heap c its->IsTup h c its:=λup g=>by obtain⟨o,e,c⟩:=g;exact⟨o,up _ o e,c⟩
 have lst:∀{c:Addr} {its:Array Value} {h:Heap},(∀c o,s.heap.get? c=some o->h.get? c=some o)->s.heap.IsList c its->h.IsList c its:=λup g=>by obtain⟨o,e,c⟩:=g;exact⟨o,up _ o e,c⟩
 refine qet (bt:=λi j=>qLt (if i=0 then p else q) (if j=0 then p else q)) hh (λi j vi vj s1 Q1 E1 hi hj kp hQ1=>?_) λv s' ev k'=>?_
 ·have up:=old s1 kp;have two:∀{i:Nat} {v:Value},#[Value.ref a,.ref a'][i]? =some v->(i=0/\v=.ref a)∨(i=1/\v=.ref a'):=λ{i v} e=>by
   match i,e with
   |0,e=>exact .inl ⟨rfl,by simpa using e.symm⟩
   |1,e=>exact .inr ⟨rfl,by simpa using e.symm⟩
   |n+2,e=>simp at e
  have un:X.A.in1.units+1<cLine:=by show X.A.units+1+1<cLine;omega
  rcases two hi with⟨rfl,rfl⟩|⟨rfl,rfl⟩<;>rcases two hj with⟨rfl,rfl⟩|⟨rfl,rfl⟩
  ·exact q4m (tup up g1) (tup up g1) (lst up g2) (lst up g2) g3 g3 rfl un (hQ1 s1 ⟨λ_ _ e=>e,rfl,rfl,rfl⟩)
  ·exact q4m (tup up g1) (tup up g1') (lst up g2) (lst up g2') g3 g3' hl un (hQ1 s1 ⟨λ_ _ e=>e,rfl,rfl,rfl⟩)
  ·exact q4m (tup up g1') (tup up g1) (lst up g2') (lst up g2) g3' g3 hl.symm un (hQ1 s1 ⟨λ_ _ e=>e,rfl,rfl,rfl⟩)
  ·exact q4m (tup up g1') (tup up g1') (lst up g2') (lst up g2') g3' g3' rfl un (hQ1 s1 ⟨λ_ _ e=>e,rfl,rfl,rfl⟩)
 ·have eb:argBest (λi j=>qLt (if i=0 then p else q) (if j=0 then p else q)) 1=if qLt q p=true then 1 else 0:=by
   rw[argBest,argBest];rfl
  rw[eb]at ev;cases z:qLt q p with
  | true=>
   rw[z,if_pos rfl]at ev k;have ev:Value.ref a'=v:=by simpa using ev
   subst ev;exact⟨y,H,qa3 I k',ru',k⟩
  | false=>
   rw[z,if_neg (by decide)]at ev k;have ev:Value.ref a=v:=by simpa using ev
   subst ev;exact⟨x,H,qa3 I k',ru,k⟩
def qjh(f:RhL):RhD:=q1l f λds=>q2f (match ds with
 | [d,e]=>(match qb4 d,qb4 e with
  |some p,some q=>if p.2.length=q.2.length then some (if qLt q p=true then e else d)else none
  |_,_=>none)
 |_=>none)
theorem qnf(h:MA K O tr fs):ME K O (tCB (qlg K) tr) (qjh fs):=λZ σ H R ρ d ρ' Q S e k=>by
 obtain⟨xs,ρ1,e1,e⟩:=q09 e;obtain⟨e2,rfl⟩:=q0h e;refine h Z σ H R ρ xs _ _ S e1 λvs H1 R1 S1 st1 r1=>?_;split at e2
 ·rename_i d1 d2;split at e2
  ·rename_i p q h1 h2;split at e2
   ·rename_i hl;cases e2;obtain⟨v1,_,rfl,q1,r⟩:=r1.isC;obtain⟨v2,_,rfl,q2,r⟩:=r.isC;cases r;refine⟨v1,v2,p,q,rfl,(q8v q1 h1).1.mono S1.sub,(q8v q2 h2).1.mono S1.sub,hl,?_⟩;cases z:qLt q p with
    | true=>
     rw[z]at k;exact k _ H1 R1 S1 st1 q2
    | false=>
     rw[z]at k;exact k _ H1 R1 S1 st1 q1
   ·cases e2
  ·cases e2
 ·cases e2
theorem qo1{ρ ρ1:Rho}{p q:Int×List Int}(h:fs ρ=some ([pairD p,pairD q],ρ1))(hl:p.2.length=q.2.length):qjh fs ρ=some (pairD (if qLt q p=true then q else p),ρ1):=by unfold qjh;rw[q0x,h];show q2f _ ρ1=_;rw[q1r];simp only[qb3,hl,if_true];cases qLt q p<;>rfl
end
end L2
namespace L2
open PySem
theorem qcz:∀a b:List Int,HT.lexLt a b=true->HT.lexLt b a=false
 |[],[],h=>by cases h
 |[],_::_,_=>rfl
 |_::_,[],h=>by cases h
 | x::xs,y::ys,h=>by
  rw[HT.lexLt_cons]at h ⊢;by_cases q:x=y
  ·rw[if_pos q]at h;rw[if_pos q.symm];exact qcz xs ys h
  ·rw[if_neg q]at h;rw[if_neg λz=>q z.symm];simp only[decide_eq_true_eq,decide_eq_false_iff_not]at h ⊢;omega
theorem qbg:∀(a b x y:List Int),a.length=b.length->HT.lexLt a b=true->HT.lexLt (a++x) (b++y)=true
 |[],[],_,_,_,h=>by cases h
 |[],_::_,_,_,h,_=>by cases h
 |_::_,[],_,_,h,_=>by cases h
 | a::as,b::bs,x,y,hl,h=>by
  rw[List.cons_append,List.cons_append,HT.lexLt_cons];rw[HT.lexLt_cons]at h;by_cases q:a=b
  ·rw[if_pos q]at h ⊢;exact qbg as bs x y (Nat.succ.inj hl) h
  ·rw[if_neg q]at h ⊢;exact h
theorem qcy{a b x:List Int}(hl:a.length=b.length)(h:HT.lexLt a b=false):HT.lexLt (a++x) (b++x)=false:=by
 cases q:HT.lexLt b a with
 |true=>exact qcz _ _ (qbg b a x x hl.symm q)
 | false=>
  rw[q6q a b h q];exact q4v _
theorem qLt_le{c d:Int}{u w:List Int}:qLt (c,u) (d,w)=false↔d<c∨(c=d/\HT.lexLt u w=false):=by
 unfold qLt q5f;simp only;by_cases z:c=d
 ·rw[if_pos z];constructor
  ·exact λh=>.inr ⟨z,h⟩
  ·rintro(h|h)
   ·omega
   ·exact h.2
 ·rw[if_neg z];simp;omega
theorem qis{a b:Int×List Int}(h:qLt a b=true):qLt b a=false:=qaw a b b h (q3n b)
abbrev Kr:=List (Option (Int×List Int))
def betP(o:Option (Int×List Int))(p:Int×List Int):Int×List Int:=match o with
 |none=>p
 |some q=>if qLt p q=true then p else q
def putK(l:Kr)(x:Int×(Int×List Int)):Kr:=l.set x.1.toNat (some (betP (l.getD x.1.toNat none) x.2))
def qhw(row:Kr)(st:Sx):List (Int×(Int×List Int)):=(row.zip st).flatMap λq=>match q.1 with
 |none=>[]
 |some p=>q.2.zipIdx.map λm=>(m.1.1,(p.1+m.1.2,p.2++[(m.2:Int)]))
def q5i(row:Kr)(st:Sx):Kr:=(qhw row st).foldl putK (List.replicate row.length none)
def q6l(M:Nat):Kr:=(List.range M).map λk=>if k=0 then some (0,[])else none
def qbk(M:Nat)(z6:List Sx):Kr:=z6.foldl q5i (q6l M)
theorem qi5(o:Option (Int×List Int))(p:Int×List Int):(betP o p=p∨o=some (betP o p))/\qLt p (betP o p)=false/\∀q,o=some q->qLt q (betP o p)=false:=by
 cases o with
 |none=>exact⟨.inl rfl,q3n p,λq h=>nomatch h⟩
 | some q=>
  show((if qLt p q=true then p else q)=p∨some q=some (if qLt p q=true then p else q))/\qLt p (if qLt p q=true then p else q)=false/\∀q',some q=some q'->qLt q' (if qLt p q=true then p else q)=false;cases z:qLt p q with
  | true=>
   rw[if_pos rfl];exact⟨.inl rfl,q3n p,λq' h=>by cases h;exact qis z⟩
  | false=>
   rw[if_neg (by decide)];exact⟨.inr rfl,z,λq' h=>by cases h;exact q3n q⟩
theorem qax(l:Kr)(x:Int×(Int×List Int)):(putK l x).length=l.length:=jx ..
theorem q8q{l:Kr}{x:Int×(Int×List Int)}(h:x.1.toNat<l.length):(putK l x)[x.1.toNat]? =some (some (betP (l.getD x.1.toNat none) x.2)):=jw h
theorem q9l{l:Kr}{x:Int×(Int×List Int)}{q:Nat}(h:x.1.toNat≠q):(putK l x)[q]? =l[q]? :=jc h
theorem q6r:∀(xs:List (Int×(Int×List Int))) (l:Kr),(xs.foldl putK l).length=l.length
 |[],_=>rfl
 |x::xs,l=>by rw[List.foldl_cons,q6r xs,qax]
theorem q5l:∀(xs:List (Int×(Int×List Int))) (l:Kr) (q:Nat) (p:Int×List Int),(xs.foldl putK l)[q]? =some (some p)->l[q]? =some (some p)∨∃x∈xs,x.1.toNat=q/\x.2=p
 |[],_,_,_,h=>.inl h
 | x::xs,l,q,p,h=>by
  rw[List.foldl_cons]at h;rcases q5l xs _ q p h with g|⟨y,hy,g⟩
  ·by_cases z:x.1.toNat=q
   ·have lt:x.1.toNat<l.length:=by
     have:=(List.getElem?_eq_some_iff.mp g).1;rw[qax]at this;omega
    rw[<-z,q8q lt]at g;have g:betP (l.getD x.1.toNat none) x.2=p:=by simpa using g
    rcases(qi5 (l.getD x.1.toNat none) x.2).1 with e|e
    ·exact .inr ⟨x,jg,z,by rw[<-g,e]⟩
    ·rw[g,jk]at e;cases w:l[x.1.toNat]? with
     |none=>rw[w]at e;cases e
     | some o=>
      rw[w]at e;have e:o=some p:=e;exact .inl (by rw[<-z,w,e])
   ·rw[q9l z]at g;exact .inl g
  ·exact .inr ⟨y,jh _ hy,g⟩
theorem qit{l:Kr}{x:Int×(Int×List Int)}{q:Nat}{p0:Int×List Int}(h:l[q]? =some (some p0)):∃p,(putK l x)[q]? =some (some p)/\qLt p0 p=false:=by
 by_cases z:x.1.toNat=q
 ·have lt:x.1.toNat<l.length:=by rw[z];exact(List.getElem?_eq_some_iff.mp h).1
  refine⟨betP (l.getD x.1.toNat none) x.2,by rw[<-z,q8q lt],(qi5 _ _).2.2 p0 ?_⟩;rw[jk,z,h];rfl
 ·exact⟨p0,by rw[q9l z,h],q3n p0⟩
theorem qa5:∀(xs:List (Int×(Int×List Int))) (l:Kr) (q:Nat) (p0:Int×List Int),l[q]? =some (some p0)->∃p,(xs.foldl putK l)[q]? =some (some p)/\qLt p0 p=false
 |[],_,_,p0,h=>⟨p0,h,q3n p0⟩
 | x::xs,l,q,p0,h=>by obtain⟨p1,h1,h2⟩:=qit (x:=x) h;obtain⟨p,g1,g2⟩:=qa5 xs _ q p1 h1;exact⟨p,g1,q5e h2 g2⟩
theorem qhh:∀(xs:List (Int×(Int×List Int))) (l:Kr) (x:Int×(Int×List Int)),x∈xs->x.1.toNat<l.length->∃p,(xs.foldl putK l)[x.1.toNat]? =some (some p)/\qLt x.2 p=false
 | y::xs,l,x,h,lt=>by
  rw[List.foldl_cons];rcases List.mem_cons.mp h with rfl|h
  ·obtain⟨p,g1,g2⟩:=qa5 xs _ _ _ (q8q lt);exact⟨p,g1,q5e (qi5 _ _).2.1 g2⟩
  ·exact qhh xs _ x h (by rw[qax];exact lt)
theorem cand_iff{row:Kr}{st:Sx}{x:Int×(Int×List Int)}:x∈qhw row st↔∃(q:Nat) (p:Int×List Int) (ch:List Mv) (j:Nat) (mv:Mv),row[q]? =some (some p)/\st[q]? =some ch/\ch[j]? =some mv/\x=(mv.1,(p.1+mv.2,p.2++[(j:Int)])):=by
 unfold qhw;rw[List.mem_flatMap];constructor
 ·rintro⟨⟨o,ch⟩,hm,hx⟩;obtain⟨q,hq⟩:=List.mem_iff_getElem?.mp hm;obtain⟨h1,h2⟩:=List.getElem?_zip_eq_some.mp hq;cases o with
  |none=>cases hx
  | some p=>
   obtain⟨⟨mv,j⟩,hj,rfl⟩:=List.mem_map.mp hx;obtain⟨i,hi⟩:=List.mem_iff_getElem?.mp hj;rw[List.getElem?_zipIdx]at hi;cases w:ch[i]? with
   |none=>rw[w]at hi;cases hi
   | some mv'=>
    rw[w]at hi;have hi:(mv',0+i)=(mv,j):=ja hi;obtain⟨rfl,rfl⟩:=Prod.mk.inj hi;exact⟨q,p,ch,0+i,_,h1,h2,by rw[jo];exact w,rfl⟩
 ·rintro⟨q,p,ch,j,mv,h1,h2,h3,rfl⟩;refine⟨(some p,ch),List.mem_iff_getElem?.mpr ⟨q,List.getElem?_zip_eq_some.mpr ⟨h1,h2⟩⟩,List.mem_map.mpr ⟨(mv,j),List.mem_iff_getElem?.mpr ⟨j,?_⟩,rfl⟩⟩;rw[List.getElem?_zipIdx,h3];simp
section
variable(r:Int)(taps:List Int)(rows:List (List Int))(ts:List Told)
def pcK(k:Nat)(u:List Int):Int:=((List.range' 0 k).map λj=>q4z (chunk taps rows ts j) (q47 r.toNat taps rows 0 u j)).sum
end
section
variable{r:Int}{taps:List Int}{rows:List (List Int)}{ts:List Told}{n:Nat}
theorem q8t(k:Nat)(u:List Int):pcK r taps rows ts (k+1) u=pcK r taps rows ts k u+q4z (chunk taps rows ts k) (q47 r.toNat taps rows 0 u k):=by unfold pcK;rw[List.range'_concat,jt,List.sum_append];simp
theorem qf7{m:Nat}{a:Int}{u v:List Int}{j:Nat}(h:j<u.length):q47 m taps rows a (u++v) j=q47 m taps rows a u j:=by unfold q47;rw[List.take_append_of_le_length (by omega),jk,kf h,<-jk]
theorem qb2{k:Nat}{u v:List Int}(h:k<=u.length):pcK r taps rows ts k (u++v)=pcK r taps rows ts k u:=by unfold pcK;congr 1;refine List.map_congr_left λj hj=>?_;have:=List.mem_range'_1.mp hj;rw[qf7 (by omega)]
theorem qcd(u:List Int)(b:Int):pcK r taps rows ts (u.length+1) (u++[b])=pcK r taps rows ts u.length u+(mvK r taps rows ts u.length (endR (2^r.toNat) 0 u) b).2:=by rw[q8t,qb2 (j8 _)];congr 1;unfold q47;rw[List.take_left,jk,xq (j8 _),Nat.sub_self];rfl
structure q2n(k:Nat)(row:Kr):Prop where
 len:row.length=2^r.toNat
 is:∀(q:Nat) (p:Int×List Int),row[q]? =some (some p)->Bits p.2/\p.2.length=k/\endR (2^r.toNat) 0 p.2=(q:Int)/\p.1=pcK r taps rows ts k p.2
 best:∀u:List Int,Bits u->u.length=k->∃p,row[(endR (2^r.toNat) 0 u).toNat]? =some (some p)/\qLt (pcK r taps rows ts k u,u) p=false
theorem q61:q2n (r:=r) (taps:=taps) (rows:=rows) (ts:=ts) 0 (q6l (2^r.toNat)):=by
 have mp:0<2^r.toNat:=Nat.pow_pos (by decide);refine⟨by unfold q6l;simp,λq p h=>?_,λu hu lu=>?_⟩
 ·unfold q6l at h;rw[j9]at h;by_cases lt:q<2^r.toNat
  ·rw[xn lt]at h;by_cases z:q=0
   ·subst z;have h:((0:Int),([]:List Int))=p:=by simpa using h
    subst h;exact⟨λb h=>(nomatch h),rfl,rfl,rfl⟩
   ·simp[z]at h
  ·rw[xg (by simp;omega)]at h;cases h
 ·have e:=List.eq_nil_of_length_eq_zero lu;subst e;refine⟨(0,[]),?_,q3n _⟩;unfold q6l;rw[j9];show(List.range (2^r.toNat))[(0:Int).toNat]?.map _=_;rw[show(0:Int).toNat=0 from rfl,xn mp];rfl
theorem qh6{k:Nat}{row:Kr}(hk:k<n)(h:q2n (r:=r) (taps:=taps) (rows:=rows) (ts:=ts) k row):q2n (r:=r) (taps:=taps) (rows:=rows) (ts:=ts) (k+1) (q5i row (stepK r taps rows ts n k)):=by
 have mp:(0:Int)<2^r.toNat:=Int.pow_pos (by decide);have pn:=q2o (r:=r);have eb:q3x n k=[0,1]:=by unfold q3x;rw[if_pos hk]
 have hst:∀(q:Nat),q<2^r.toNat->(stepK r taps rows ts n k)[q]? =some [mvK r taps rows ts k (q:Int) 0,mvK r taps rows ts k (q:Int) 1]:=λq lt=>by unfold L2.stepK;rw[j9,xn lt,eb];rfl
 have two:∀{q j:Nat} {mv:Mv},[mvK r taps rows ts k (q:Int) 0,mvK r taps rows ts k (q:Int) 1][j]? =some mv->((j:Int)=0∨(j:Int)=1)/\mv=mvK r taps rows ts k (q:Int) (j:Int):=λ{q j mv} e=>by
  match j,e with
  |0,e=>exact⟨.inl rfl,(ja e).symm⟩
  |1,e=>exact⟨.inr rfl,(ja e).symm⟩
 have led:∀(q:Nat) (b:Int),0<=(mvK r taps rows ts k (q:Int) b).1/\(mvK r taps rows ts k (q:Int) b).1<2^r.toNat:=λq b=>⟨Int.emod_nonneg _ (by omega),Int.emod_lt_of_pos _ mp⟩;have lr:(List.replicate row.length (none:Option (Int×List Int))).length=2^r.toNat:=by rw[jj,h.len]
 refine⟨by unfold q5i;rw[q6r,lr],λq' p' hp=>?_,λu' hu' lu'=>?_⟩
 ·unfold q5i at hp;rcases q5l _ _ _ _ hp with g|⟨x,hx,g1,g2⟩
  ·rw[xy]at g;split at g<;>cases g
  ·obtain⟨q,p,ch,j,mv,h1,h2,h3,rfl⟩:=cand_iff.mp hx;have lt:q<2^r.toNat:=by rw[<-h.len];exact(List.getElem?_eq_some_iff.mp h1).1
   rw[hst q lt]at h2;cases h2;obtain⟨hj,rfl⟩:=two h3;obtain⟨b1,b2,b3,b4⟩:=h.is q p h1;have g2:(p.1+(mvK r taps rows ts k (q:Int) (j:Int)).2,p.2++[(j:Int)])=p':=g2;have g1:(mvK r taps rows ts k (q:Int) (j:Int)).1.toNat=q':=g1;subst g2;have hl:=led q (j:Int);refine⟨q3s b1 λc hc=>by rw[List.mem_singleton.mp hc];exact hj,by rw[je,b2];rfl,?_,?_⟩
   ·show endR (2^r.toNat) 0 (p.2++[(j:Int)])=_;rw[q7l,b3,<-g1,Int.toNat_of_nonneg hl.1];show _=(2*(q:Int)+(j:Int)) % 2^r.toNat;congr 1;omega
   ·show p.1+_=pcK r taps rows ts (k+1) (p.2++[(j:Int)]);have e:=qcd (r:=r) (taps:=taps) (rows:=rows) (ts:=ts) p.2 (j:Int);rw[b2,b3]at e;rw[e,b4]
 ·have lt:k<u'.length:=by omega
  have e1:u'=u'.take k++[u'[k]]:=by have:=take_snoc (jb lt);rw[List.take_of_length_le (by omega)]at this;exact this
  have hb:=hu' _ (xo lt);have hu:Bits (u'.take k):=λb hb=>hu' b (List.mem_of_mem_take hb);have lu:(u'.take k).length=k:=by rw[x6];omega
  generalize u'.take k=u at e1 hu lu;generalize u'[k]=b at e1 hb;subst e1;obtain⟨p,h1,h2⟩:=h.best u hu lu;have er:=q3w mp u 0 ⟨Int.le_refl _,mp⟩;obtain⟨b1,b2,b3,b4⟩:=h.is _ p h1;rw[Int.toNat_of_nonneg er.1]at b3;have hq:(endR (2^r.toNat) 0 u).toNat<2^r.toNat:=by omega
  have hx:((mvK r taps rows ts k (endR (2^r.toNat) 0 u) b).1,(p.1+(mvK r taps rows ts k (endR (2^r.toNat) 0 u) b).2,p.2++[b]))∈qhw row (stepK r taps rows ts n k):=by
   have hs:=hst _ hq;rw[Int.toNat_of_nonneg er.1]at hs;rcases hb with z|z
   ·subst z;exact cand_iff.mpr ⟨_,p,_,0,_,h1,hs,rfl,rfl⟩
   ·subst z;exact cand_iff.mpr ⟨_,p,_,1,_,h1,hs,rfl,rfl⟩
  have hl:0<=(mvK r taps rows ts k (endR (2^r.toNat) 0 u) b).1/\(mvK r taps rows ts k (endR (2^r.toNat) 0 u) b).1<2^r.toNat:=⟨Int.emod_nonneg _ (by omega),Int.emod_lt_of_pos _ mp⟩;obtain⟨p',g1,g2⟩:=qhh _ (List.replicate row.length none) _ hx (by rw[lr];show(mvK r taps rows ts k (endR (2^r.toNat) 0 u) b).1.toNat<_;omega);have ee:endR (2^r.toNat) 0 (u++[b])=(mvK r taps rows ts k (endR (2^r.toNat) 0 u) b).1:=by rw[q7l];show _=(2*endR (2^r.toNat) 0 u+b) % 2^r.toNat;congr 1;omega
  refine⟨p',by rw[ee];exact g1,q5e (y:=(p.1+(mvK r taps rows ts k (endR (2^r.toNat) 0 u) b).2,p.2++[b])) ?_ g2⟩;have e:=qcd (r:=r) (taps:=taps) (rows:=rows) (ts:=ts) u b;rw[lu]at e;rw[e];rcases qLt_le.mp h2 with z|z
  ·exact qLt_le.mpr (.inl (by omega))
  ·exact qLt_le.mpr (.inr ⟨by omega,qcy (by rw[lu,b2]) z.2⟩)
theorem q8z:∀(len k:Nat) (row:Kr),k+len<=n->q2n (r:=r) (taps:=taps) (rows:=rows) (ts:=ts) k row->q2n (r:=r) (taps:=taps) (rows:=rows) (ts:=ts) (k+len) ((q0z r taps rows ts n k len).foldl q5i row)
 |0,k,row,_,h=>h
 | len+1,k,row,hk,h=>by rw[q46,List.foldl_cons];have:=q8z len (k+1) _ (by omega) (qh6 (n:=n) (by omega) h);rw[show k+(len+1)=k+1+len from by omega];exact this
theorem q5o(M:Int):∀(y x:List Int) (a:Int),endR M a (x++y)=endR M (endR M a x) y:=λy x a=>by unfold endR;exact List.foldl_append ..
theorem qdp{a1 a2 d:List Int}{j:Nat}(hl:a1.length=a2.length)(he:endR (2^r.toNat) 0 a1=endR (2^r.toNat) 0 a2)(hj:a1.length<=j):q47 r.toNat taps rows 0 (a1++d) j=q47 r.toNat taps rows 0 (a2++d) j:=by
 unfold q47;rw[List.take_append,List.take_append,List.take_of_length_le hj,List.take_of_length_le (by omega:a2.length<=j),q5o,q5o,he,hl,
  jk,jk,xq hj,xq (by omega:a2.length<=j),hl]
theorem qcc{a1 a2 d:List Int}(hl:a1.length=a2.length)(he:endR (2^r.toNat) 0 a1=endR (2^r.toNat) 0 a2):∀i:Nat,pcK r taps rows ts (a1.length+i) (a1++d)+pcK r taps rows ts a1.length a2=pcK r taps rows ts (a1.length+i) (a2++d)+pcK r taps rows ts a1.length a1
 | 0=>by rw[Nat.add_zero,qb2 (j8 _),qb2 (by omega:a1.length<=a2.length)];omega
 | i+1=>by have ih:=qcc (d:=d) hl he i;rw[<-Nat.add_assoc,q8t,q8t,qdp hl he (by omega)];omega
theorem qd6{a1 a2 d:List Int}{c1 c2:Int}{i:Nat}(hl:a1.length=a2.length)(he:endR (2^r.toNat) 0 a1=endR (2^r.toNat) 0 a2)(h1:c1=pcK r taps rows ts a1.length a1)(h2:c2=pcK r taps rows ts a1.length a2)(h:qLt (c1,a1) (c2,a2)=false)
 (g:qLt (pcK r taps rows ts (a1.length+i) (a2++d),a2++d) (pcK r taps rows ts (a1.length+i) (a1++d),a1++d)=false):a1=a2:=by
 have sw:=qcc (taps:=taps) (rows:=rows) (ts:=ts) (d:=d) hl he i;rw[<-h1,<-h2]at sw;rcases qLt_le.mp h with z|⟨z1,z2⟩
 ·rcases qLt_le.mp g with y|⟨y1,y2⟩<;>omega
 ·rcases qLt_le.mp g with y|⟨y1,y2⟩
  ·omega
  ·refine q6q a1 a2 z2 ?_;cases q:HT.lexLt a2 a1 with
   |false=>rfl
   |true=>rw[qbg a2 a1 d d hl.symm q]at y2;cases y2
theorem qb9{e:Str}(he:e≠"ring")(ht:ts.length=(q0c taps rows (n+q0a r e)).length){x:Int×List Int}(hx:Near n (q6n r taps rows e ts) x){k:Nat}(hk:k<=n){row:Kr}(h:q2n (r:=r) (taps:=taps) (rows:=rows) (ts:=ts) k row):
 ∃p,row[(endR (2^r.toNat) 0 (x.2.take k)).toNat]? =some (some p)/\p.2=x.2.take k:=by
 have mp:(0:Int)<2^r.toNat:=Int.pow_pos (by decide);have cst:∀w:List Int,Bits w->w.length=n->q6n r taps rows e ts w=pcK r taps rows ts (n+q0a r e) (w++List.replicate (q0a r e) 0):=λw _ lw=>by
  have lu:(w++List.replicate (q0a r e) 0).length=n+q0a r e:=by rw[je,jj,lw]
  unfold q6n;rw[qde,qby (by rw[lu];exact ht),lu];have:frst r e w=0:=by unfold frst;rw[if_neg he]
  rw[this];rfl
 have lk:(x.2.take k).length=k:=by rw[x6,hx.len];omega
 have hbk:Bits (x.2.take k):=λb hb=>hx.bits b (List.mem_of_mem_take hb);obtain⟨p,h1,h2⟩:=h.best _ hbk lk;have er:=q3w mp (x.2.take k) 0 ⟨Int.le_refl _,mp⟩;obtain⟨b1,b2,b3,b4⟩:=h.is _ p h1;rw[Int.toNat_of_nonneg er.1]at b3;refine⟨p,h1,?_⟩;have bw:Bits (p.2++x.2.drop k):=q3s b1 λb hb=>hx.bits b (List.mem_of_mem_drop hb);have lw:(p.2++x.2.drop k).length=n:=by rw[je,b2,xf,hx.len];omega
 have g:=hx.least _ bw lw;have ex:x=(q6n r taps rows e ts x.2,x.2):=Prod.ext hx.val rfl;rw[ex,cst _ bw lw,cst _ hx.bits hx.len]at g;have esp:x.2=x.2.take k++x.2.drop k:=(List.take_append_drop k x.2).symm;have e1:x.2++List.replicate (q0a r e) 0=x.2.take k++(x.2.drop k++List.replicate (q0a r e) 0):=by rw[<-List.append_assoc,List.take_append_drop]
 have e2:(p.2++x.2.drop k)++List.replicate (q0a r e) 0=p.2++(x.2.drop k++List.replicate (q0a r e) 0):=List.append_assoc ..;rw[e1,e2]at g;have g':qLt (pcK r taps rows ts ((x.2.take k).length+(n+q0a r e-k)) (p.2++(x.2.drop k++List.replicate (q0a r e) 0)),p.2++(x.2.drop k++List.replicate (q0a r e) 0)) (pcK r taps rows ts ((x.2.take k).length+(n+q0a r e-k)) (x.2.take k++(x.2.drop k++List.replicate (q0a r e) 0)),x.2.take k++(x.2.drop k++List.replicate (q0a r e) 0))=false:=by
  rw[lk,show k+(n+q0a r e-k)=n+q0a r e from by omega];rcases qLt_le.mp g with y|⟨y1,y2⟩
  ·exact qLt_le.mpr (.inl y)
  ·refine qLt_le.mpr (.inr ⟨y1,?_⟩);have:=qcy (x:=List.replicate (q0a r e) 0) (by rw[lw,hx.len]) y2;rw[e1,e2]at this;exact this
 exact(qd6 (by rw[lk,b2]) b3.symm (by rw[lk]) (by rw[lk];exact b4) h2 g').symm
theorem qbj{k k':Nat}(hk:k<=k'){row zo:Kr}(h:q2n (r:=r) (taps:=taps) (rows:=rows) (ts:=ts) k row)(h':q2n (r:=r) (taps:=taps) (rows:=rows) (ts:=ts) k' zo){q:Nat}{p':Int×List Int}(hp:zo[q]? =some (some p')):
 ∃(q0:Nat) (p:Int×List Int),row[q0]? =some (some p)/\p.2=p'.2.take k:=by
 have mp:(0:Int)<2^r.toNat:=Int.pow_pos (by decide);obtain⟨d1,d2,d3,d4⟩:=h'.is q p' hp;have lk:(p'.2.take k).length=k:=by rw[x6,d2];omega
 have hbk:Bits (p'.2.take k):=λb hb=>d1 b (List.mem_of_mem_take hb);obtain⟨p,h1,h2⟩:=h.best _ hbk lk;have er:=q3w mp (p'.2.take k) 0 ⟨Int.le_refl _,mp⟩;obtain⟨b1,b2,b3,b4⟩:=h.is _ p h1;rw[Int.toNat_of_nonneg er.1]at b3;refine⟨_,p,h1,?_⟩;have bw:Bits (p.2++p'.2.drop k):=q3s b1 λb hb=>d1 b (List.mem_of_mem_drop hb);have lw:(p.2++p'.2.drop k).length=k':=by rw[je,b2,xf,d2];omega
 have ee:endR (2^r.toNat) 0 (p.2++p'.2.drop k)=(q:Int):=by rw[q5o,b3,<-q5o,List.take_append_drop,d3]
 obtain⟨p2,g1,g2⟩:=h'.best _ bw lw;rw[ee,jm,hp]at g1;cases g1;have ep:p'=(pcK r taps rows ts k' p'.2,p'.2):=Prod.ext d4 rfl;have g':qLt (pcK r taps rows ts ((p'.2.take k).length+(k'-k)) (p.2++p'.2.drop k),p.2++p'.2.drop k) (pcK r taps rows ts ((p'.2.take k).length+(k'-k)) (p'.2.take k++p'.2.drop k),p'.2.take k++p'.2.drop k)=false:=by rw[lk,show k+(k'-k)=k' from by omega,List.take_append_drop,<-ep];exact g2
 exact(qd6 (by rw[lk,b2]) b3.symm (by rw[lk]) (by rw[lk];exact b4) h2 g').symm
end
def q2z:List Int->List Int->List Int
 |a::as,b::bs=>if a=b then a::q2z as bs else []
 |_,_=>[]
theorem q8g:∀a b:List Int,q2z a b<+:a
 |[],[]=>List.prefix_refl _
 |[],_::_=>List.prefix_refl _
 |_::_,[]=>List.nil_prefix
 | a::as,b::bs=>by
  show(if a=b then a::q2z as bs else [])<+:_;by_cases z:a=b
  ·rw[if_pos z];exact(List.prefix_cons_inj a).mpr (q8g as bs)
  ·rw[if_neg z];exact List.nil_prefix
theorem q7o:∀a b:List Int,q2z a b<+:b
 |[],[]=>List.prefix_refl _
 |[],_::_=>List.nil_prefix
 |_::_,[]=>List.nil_prefix
 | a::as,b::bs=>by
  show(if a=b then a::q2z as bs else [])<+:_;by_cases z:a=b
  ·rw[if_pos z,z];exact(List.prefix_cons_inj b).mpr (q7o as bs)
  ·rw[if_neg z];exact List.nil_prefix
theorem q65:∀(ws:List (List Int)) (a:List Int),ws.foldl q2z a<+:a/\∀w∈ws,ws.foldl q2z a<+:w
 |[],a=>⟨List.prefix_refl _,λ_ h=>nomatch h⟩
 | v::ws,a=>by
  obtain⟨h1,h2⟩:=q65 ws (q2z a v);refine⟨h1.trans (q8g _ _),λw hw=>?_⟩;rcases List.mem_cons.mp hw with rfl|hw
  ·exact h1.trans (q7o _ _)
  ·exact h2 w hw
end L2
namespace K25
open PySem L2
local macro_rules|`(tactic|walk_at "ev")=>`(tactic|simp[runS,runP,q0x,qtl,q1r,qm2,qtn,qto,qnz,qny,qts,qhi,qtp,qtv,qw7,qo9,qo0,qw9,qtq,qo6,qth,qtr,qw8,qo8,qk2,qk1,qo7,qti,qhl,qhk,qtg,qnw,qw6,qk0,qbo,qno,qnq,qnu,qm3,qnp,qjy,qjx,qnr,qtj,qjz,qns,qnt,q94,qhj,qo4,q1p,ixO,blO,lsO,qh2,rng1,rng2,zip2,inO,setI,q2c,q0n,q2b,dI2,dI0,dB0,dAdd,q44,dIx,dLen,dInt,dSum,dAll,q4g,dSeq,q95,qa9,dNeg,dIsN,q5a,dIsi,tyN,q7v,q25,qmz,qco,qs0,qn0,qb8,at0,at1,at2,at3,ixN,dEq,dNe,qhn,eqD_none,q6e,q6d,qnh,qtt,qtk,revO,qd7,qa4,dIxK,qeo,optI,upsO,mMM,qo5,qtx,qm4,q7x,qo3,qtu,qo2,qtm,qh0, *])
local macro_rules|`(tactic|walk_at "sc")=>`(tactic|exact⟨rfl,rfl,rfl,by decide+kernel,rfl,by decide+kernel,by decide+kernel⟩)
local macro_rules|`(tactic|walk_at "lr")=>`(tactic|first|exact Or.inl rfl|exact Or.inr rfl)
def top(i:Nat):Stmt:=PySem.Challenge.pw_trellisway_k25_whole_settled_stays.main.body.getD i (.Pass ⟨0,0,0,0⟩)
abbrev s_y0:Stmt:=top 5
theorem qus:q0p ["reach"] ["reach"] (q04 s_y0):=by walk_at "sc"
abbrev s_y1:Stmt:=top 6
theorem qur:q0p ["scheme"] ["scheme"] (q04 s_y1):=by walk_at "sc"
abbrev s_y2:Stmt:=top 7
theorem sc_y2:q0p ["number","left","odd"] ["number"] (q04 s_y2):=by walk_at "sc"
abbrev s_y3:Stmt:=top 8
abbrev w2i:List Str:=["scheme","room","bit","window","signs"]
theorem sc_y3:q0p w2i ["scheme","room","bit"] (q04 s_y3):=by walk_at "sc"
abbrev s_y4:Stmt:=top 9
abbrev w38:List Str:=["scheme","number","signs"]
abbrev w2j:List Str:=["scheme","number","signs","rows","row"]
theorem sc_y4:q0p w2j w38 (q04 s_y4):=by walk_at "sc"
abbrev s_y5:Stmt:=top 11
theorem quq:q0p ["scheme"] ["scheme"] (q04 s_y5):=by walk_at "sc"
abbrev s_y6:Stmt:=top 12
theorem qup:q0p ["scheme","size"] ["scheme","size"] (q04 s_y6):=by walk_at "sc"
abbrev s_y7:Stmt:=top 13
theorem quo:q0p ["scheme"] ["scheme"] (q04 s_y7):=by walk_at "sc"
abbrev s_y8:Stmt:=top 14
theorem qun:q0p ["scheme"] ["scheme"] (q04 s_y8):=by walk_at "sc"
abbrev s_y9:Stmt:=top 15
theorem qum:q0p ["scheme","size"] ["scheme","size"] (q04 s_y9):=by walk_at "sc"
abbrev qfy:Stmt:=top 16
abbrev w3m:List Str:=["scheme","size","signs","places","number"]
theorem sc_y10:q0p w3m ["scheme","size"] (q04 qfy):=by walk_at "sc"
abbrev qfx:Stmt:=inClass (top 19) 0
theorem qq6:q0p ["self","bit"] ["self","bit"] (q04 qfx):=by walk_at "sc"
abbrev qfw:Stmt:=inClass (top 19) 2
theorem qq5:q0p ["self","bit"] ["self","bit"] (q04 qfw):=by walk_at "sc"
abbrev qfv:Stmt:=inClass (top 20) 1
theorem qq4:q0p ["self","bit"] ["self","bit"] (q04 qfv):=by walk_at "sc"
abbrev qfu:Stmt:=inClass (top 21) 0
theorem qq3:q0p ["self","zero","one"] ["self","zero","one"] (q04 qfu):=by walk_at "sc"
abbrev qft:Stmt:=inClass (top 21) 2
theorem qq2:q0p ["self","bit"] ["self","bit"] (q04 qft):=by walk_at "sc"
abbrev qfs:Stmt:=top 22
theorem qq1:q0p ["told"] ["told"] (q04 qfs):=by walk_at "sc"
abbrev qfr:Stmt:=top 24
abbrev w0f:List Str:=["scheme","size","heard"]
theorem sc_y20:q0p ["scheme","size","heard","places"] w0f (q04 qfr):=by walk_at "sc"
abbrev qe1:Stmt:=top 25
theorem qq0:q0p ["signs","bits"] ["signs","bits"] (q04 qe1):=by walk_at "sc"
abbrev qe0:Stmt:=top 26
abbrev w21:List Str:=["scheme","size","heard","found","number","told"]
theorem sc_y22:q0p w21 w0f (q04 qe0):=by walk_at "sc"
abbrev qfq:Stmt:=top 27
abbrev w2k:List Str:=["scheme","number","signs","room","bit"]
abbrev w3g:List Str:=["scheme","number","signs","room","bit","led"]
theorem sc_y23:q0p w3g w2k (q04 qfq):=by walk_at "sc"
abbrev qdz:Stmt:=top 28
abbrev w0p:List Str:=["scheme","number","signs","room","bits"]
theorem qpz:q0p w0p w0p (q04 qdz):=by walk_at "sc"
abbrev qdy:Stmt:=top 29
abbrev w1k:List Str:=["scheme","size","heard","found","number","signs","bits"]
theorem sc_y25:q0p w1k w0f (q04 qdy):=by walk_at "sc"
abbrev qdx:Stmt:=top 30
theorem sc_y26:q0p ["scheme","start","end"] ["scheme","start"] (q04 qdx):=by walk_at "sc"
abbrev qfp:Stmt:=top 31
theorem sc_y27:q0p ["taken","behind","rest"] ["taken","behind"] (q04 qfp):=by walk_at "sc"
abbrev qan:Stmt:=top 32
abbrev w2h:List Str:=["choices","behind","found"]
theorem sc_y28:q0p w2h ["choices","behind"] (q04 qan):=by walk_at "sc"
abbrev qdw:Stmt:=top 33
abbrev w1y:List Str:=["steps","ends","table","choices_by_room","behind"]
theorem sc_y29:q0p w1y ["steps","ends"] (q04 qdw):=by walk_at "sc"
abbrev qfo:Stmt:=top 34
abbrev w3w:List Str:=["scheme","steps","tables","start"]
theorem sc_y30:q0p w3w ["scheme","steps"] (q04 qfo):=by walk_at "sc"
abbrev qfn:Stmt:=top 36
theorem qpy:q0p ["scheme"] ["scheme"] (q04 qfn):=by walk_at "sc"
abbrev qdv:Stmt:=top 37
theorem qpx:q0p ["scheme"] ["scheme"] (q04 qdv):=by walk_at "sc"
abbrev qfm:Stmt:=top 38
theorem qpw:q0p ["found","other"] ["found","other"] (q04 qfm):=by walk_at "sc"
abbrev qfl:Stmt:=top 39
abbrev w39:List Str:=["known","choices_by_room"]
abbrev w2p:List Str:=["known","choices_by_room","longer","found","choices","bit","taken","led"]
theorem sc_y34:q0p w2p w39 (q04 qfl):=by walk_at "sc"
abbrev qfk:Stmt:=top 40
abbrev w1h:List Str:=["scheme","steps","heard"]
abbrev w36:List Str:=["scheme","steps","heard","known","choices_by_room"]
theorem sc_y35:q0p w36 w1h (q04 qfk):=by walk_at "sc"
abbrev qfj:Stmt:=top 41
abbrev w3v:List Str:=["word","other","found","bit","beside"]
theorem sc_y36:q0p w3v ["word","other"] (q04 qfj):=by walk_at "sc"
abbrev qdu:Stmt:=top 42
abbrev w20:List Str:=["scheme","steps","heard","words","alike","word"]
theorem sc_y37:q0p w20 w1h (q04 qdu):=by walk_at "sc"
abbrev qfi:Stmt:=top 44
abbrev w2y:List Str:=["start","steps","table","size"]
abbrev w2r:List Str:=["start","steps","table","size","word","room","number","choices","bit"]
theorem sc_y38:q0p w2r w2y (q04 qfi):=by walk_at "sc"
abbrev qdt:Stmt:=top 45
abbrev w2b:List Str:=["scheme","size","heard","steps","tables"]
theorem sc_y39:q0p w2b w0f (q04 qdt):=by walk_at "sc"
abbrev qfh:Stmt:=top 47
theorem qpv:q0p ["_law_script","_law_k"] ["_law_script","_law_k"] (q04 qfh):=by walk_at "sc"
abbrev qfg:Stmt:=top 48
theorem qpu:q0p ["_law_cell","_law_k"] ["_law_cell","_law_k"] (q04 qfg):=by walk_at "sc"
abbrev qff:Stmt:=top 49
abbrev w17:List Str:=["_law_state_here","_law_many_here"]
theorem qpt:q0p w17 w17 (q04 qff):=by walk_at "sc"
abbrev qam:Stmt:=top 50
abbrev w0e:List Str:=["_law_state_here","_law_most","_law_endings","_law_reach","_law_taps","_law_lines","_law_k"]
abbrev w25:List Str:=["_law_state_here","_law_most","_law_endings"]
theorem sc_y43:q0p w0e w25 (q04 qam):=by walk_at "sc"
abbrev qfe:Stmt:=top 51
theorem sc_y44:q0p ["_law_number","_law_odd_here"] ["_law_number"] (q04 qfe):=by walk_at "sc"
abbrev qal:Stmt:=top 52
abbrev w1l:List Str:=["_law_scheme_here","_law_number","_law_room","_law_bit"]
abbrev w0d:List Str:=["_law_scheme_here","_law_number","_law_room","_law_bit","_law_both","_law_signs","_law_line"]
theorem sc_y45:q0p w0d w1l (q04 qal):=by walk_at "sc"
abbrev qfd:Stmt:=top 53
abbrev w13:List Str:=["_law_scheme_here","_law_word"]
abbrev w33:List Str:=["_law_scheme_here","_law_word","_law_room","_law_bit"]
theorem sc_y46:q0p w33 w13 (q04 qfd):=by walk_at "sc"
abbrev qfc:Stmt:=top 54
abbrev w1z:List Str:=["_law_scheme_here","_law_word","_law_bits","_law_room","_law_found","_law_number","_law_signs"]
theorem sc_y47:q0p w1z w13 (q04 qfc):=by walk_at "sc"
abbrev qfb:Stmt:=top 55
abbrev w32:List Str:=["_law_cell","_law_k","_law_bit","_law_mixed","_law_way"]
abbrev w2w:List Str:=["_law_cell","_law_k","_law_bit"]
theorem sc_y48:q0p w32 w2w (q04 qfb):=by walk_at "sc"
abbrev qfa:Stmt:=top 56
abbrev w2d:List Str:=["_law_script","_law_scheme_here","_law_word","_law_found","_law_k","_law_bit"]
abbrev w26:List Str:=["_law_script","_law_scheme_here","_law_word"]
theorem sc_y49:q0p w2d w26 (q04 qfa):=by walk_at "sc"
abbrev qf9:Stmt:=top 57
theorem qps:q0p ["_law_found"] ["_law_found"] (q04 qf9):=by walk_at "sc"
abbrev qds:Stmt:=top 58
abbrev w1i:List Str:=["_law_found","_law_size"]
theorem qpr:q0p w1i w1i (q04 qds):=by walk_at "sc"
abbrev qdr:Stmt:=top 59
abbrev w11:List Str:=["_law_scheme_here","_law_steps"]
theorem qpq:q0p w11 w11 (q04 qdr):=by walk_at "sc"
abbrev qao:Stmt:=top 60
abbrev w02:List Str:=["_law_script","_law_first","_law_scheme_here","_law_second","_law_size","_law_word","_law_heard_here","_law_steps","_law_begun","_law_told","_law_fewer","_law_less","_law_cell","_law_state_here","_law_other","_law_going","_law_k"]
theorem sc_law:q0p w02 ["_law_script"] (q04 qao):=by walk_at "sc"
structure Ad where
 c_Clear:Addr
 c_Gap:Addr
 c_Soft:Addr
 f_y0:Addr
 fd_y0:FuncData
 f_y1:Addr
 fd_y1:FuncData
 f_y2:Addr
 fd_y2:FuncData
 f_y3:Addr
 fd_y3:FuncData
 f_y4:Addr
 fd_y4:FuncData
 f_y5:Addr
 fd_y5:FuncData
 f_y6:Addr
 fd_y6:FuncData
 f_y7:Addr
 fd_y7:FuncData
 f_y8:Addr
 fd_y8:FuncData
 f_y9:Addr
 fd_y9:FuncData
 f_y10:Addr
 fd_y10:FuncData
 f_y11:Addr
 fd_y11:FuncData
 f_y13:Addr
 fd_y13:FuncData
 f_y15:Addr
 fd_y15:FuncData
 f_y16:Addr
 fd_y16:FuncData
 f_y18:Addr
 fd_y18:FuncData
 f_y19:Addr
 fd_y19:FuncData
 f_y20:Addr
 fd_y20:FuncData
 f_y21:Addr
 fd_y21:FuncData
 f_y22:Addr
 fd_y22:FuncData
 f_y23:Addr
 fd_y23:FuncData
 f_y24:Addr
 fd_y24:FuncData
 f_y25:Addr
 fd_y25:FuncData
 f_y26:Addr
 fd_y26:FuncData
 f_y27:Addr
 fd_y27:FuncData
 f_y28:Addr
 fd_y28:FuncData
 f_y29:Addr
 fd_y29:FuncData
 f_y30:Addr
 fd_y30:FuncData
 f_y31:Addr
 fd_y31:FuncData
 f_y32:Addr
 fd_y32:FuncData
 f_y33:Addr
 fd_y33:FuncData
 f_y34:Addr
 fd_y34:FuncData
 f_y35:Addr
 fd_y35:FuncData
 f_y36:Addr
 fd_y36:FuncData
 f_y37:Addr
 fd_y37:FuncData
 f_y38:Addr
 fd_y38:FuncData
 f_y39:Addr
 fd_y39:FuncData
 f_y40:Addr
 fd_y40:FuncData
 f_y41:Addr
 fd_y41:FuncData
 f_y42:Addr
 fd_y42:FuncData
 f_y43:Addr
 fd_y43:FuncData
 f_y44:Addr
 fd_y44:FuncData
 f_y45:Addr
 fd_y45:FuncData
 f_y46:Addr
 fd_y46:FuncData
 f_y47:Addr
 fd_y47:FuncData
 f_y48:Addr
 fd_y48:FuncData
 f_y49:Addr
 fd_y49:FuncData
 f_y50:Addr
 fd_y50:FuncData
 f_y51:Addr
 fd_y51:FuncData
 f_y52:Addr
 fd_y52:FuncData
 f_law:Addr
 fd_law:FuncData
structure Txt(K:FrG)(mg:Str->Option Value)(a:Ad):Prop where
 mg_Clear:mg "Clear"=some (.ref a.c_Clear)
 ns_Clear:PySem.W.nsIn K mainGlobals "Clear"=some (some (.ref a.c_Clear))
 cl_Clear:Cls K a.c_Clear
 no_Clear_bit:NoAttr K a.c_Clear "bit"
 mg_Gap:mg "Gap"=some (.ref a.c_Gap)
 ns_Gap:PySem.W.nsIn K mainGlobals "Gap"=some (some (.ref a.c_Gap))
 cl_Gap:Cls K a.c_Gap
 mg_Soft:mg "Soft"=some (.ref a.c_Soft)
 ns_Soft:PySem.W.nsIn K mainGlobals "Soft"=some (some (.ref a.c_Soft))
 cl_Soft:Cls K a.c_Soft
 no_Soft_zero:NoAttr K a.c_Soft "zero"
 no_Soft_one:NoAttr K a.c_Soft "one"
 F_y0:Fun K "rooms_at" "rooms_at" s_y0 a.f_y0 a.fd_y0
 B_y0:Binds K a.fd_y0 ["reach"] []
 mg_y0:mg "rooms_at"=some (.ref a.f_y0)
 F_y1:Fun K "rooms" "rooms" s_y1 a.f_y1 a.fd_y1
 B_y1:Binds K a.fd_y1 ["scheme"] []
 mg_y1:mg "rooms"=some (.ref a.f_y1)
 F_y2:Fun K "parity" "parity" s_y2 a.f_y2 a.fd_y2
 B_y2:Binds K a.fd_y2 ["number"] []
 mg_y2:mg "parity"=some (.ref a.f_y2)
 F_y3:Fun K "step" "step" s_y3 a.f_y3 a.fd_y3
 B_y3:Binds K a.fd_y3 ["scheme","room","bit"] []
 mg_y3:mg "step"=some (.ref a.f_y3)
 F_y4:Fun K "sent_at" "sent_at" s_y4 a.f_y4 a.fd_y4
 B_y4:Binds K a.fd_y4 w38 []
 mg_y4:mg "sent_at"=some (.ref a.f_y4)
 F_y5:Fun K "is_ring" "is_ring" s_y5 a.f_y5 a.fd_y5
 B_y5:Binds K a.fd_y5 ["scheme"] []
 mg_y5:mg "is_ring"=some (.ref a.f_y5)
 F_y6:Fun K "check_size" "check_size" s_y6 a.f_y6 a.fd_y6
 B_y6:Binds K a.fd_y6 ["scheme","size"] []
 mg_y6:mg "check_size"=some (.ref a.f_y6)
 F_y7:Fun K "bits_behind" "bits_behind" s_y7 a.f_y7 a.fd_y7
 B_y7:Binds K a.fd_y7 ["scheme"] []
 mg_y7:mg "bits_behind"=some (.ref a.f_y7)
 F_y8:Fun K "first_rooms" "first_rooms" s_y8 a.f_y8 a.fd_y8
 B_y8:Binds K a.fd_y8 ["scheme"] []
 mg_y8:mg "first_rooms"=some (.ref a.f_y8)
 F_y9:Fun K "steps_of" "steps_of" s_y9 a.f_y9 a.fd_y9
 B_y9:Binds K a.fd_y9 ["scheme","size"] []
 mg_y9:mg "steps_of"=some (.ref a.f_y9)
 F_y10:Fun K "places_of" "places_of" qfy a.f_y10 a.fd_y10
 B_y10:Binds K a.fd_y10 ["scheme","size"] []
 mg_y10:mg "places_of"=some (.ref a.f_y10)
 F_y11:Fun K "__init__" "Clear.__init__" qfx a.f_y11 a.fd_y11
 B_y11:Binds K a.fd_y11 ["self","bit"] []
 F_y13:Fun K "cost" "Clear.cost" qfw a.f_y13 a.fd_y13
 B_y13:Binds K a.fd_y13 ["self","bit"] []
 m_y13:Meth K a.c_Clear "cost" a.f_y13
 F_y15:Fun K "cost" "Gap.cost" qfv a.f_y15 a.fd_y15
 B_y15:Binds K a.fd_y15 ["self","bit"] []
 m_y15:Meth K a.c_Gap "cost" a.f_y15
 F_y16:Fun K "__init__" "Soft.__init__" qfu a.f_y16 a.fd_y16
 B_y16:Binds K a.fd_y16 ["self","zero","one"] []
 F_y18:Fun K "cost" "Soft.cost" qft a.f_y18 a.fd_y18
 B_y18:Binds K a.fd_y18 ["self","bit"] []
 m_y18:Meth K a.c_Soft "cost" a.f_y18
 F_y19:Fun K "sign_of" "sign_of" qfs a.f_y19 a.fd_y19
 B_y19:Binds K a.fd_y19 ["told"] []
 mg_y19:mg "sign_of"=some (.ref a.f_y19)
 F_y20:Fun K "check_heard" "check_heard" qfr a.f_y20 a.fd_y20
 B_y20:Binds K a.fd_y20 w0f []
 mg_y20:mg "check_heard"=some (.ref a.f_y20)
 F_y21:Fun K "signs_cost" "signs_cost" qe1 a.f_y21 a.fd_y21
 B_y21:Binds K a.fd_y21 ["signs","bits"] []
 mg_y21:mg "signs_cost"=some (.ref a.f_y21)
 F_y22:Fun K "signs_by_step" "signs_by_step" qe0 a.f_y22 a.fd_y22
 B_y22:Binds K a.fd_y22 w0f []
 mg_y22:mg "signs_by_step"=some (.ref a.f_y22)
 F_y23:Fun K "move" "move" qfq a.f_y23 a.fd_y23
 B_y23:Binds K a.fd_y23 w2k []
 mg_y23:mg "move"=some (.ref a.f_y23)
 F_y24:Fun K "moves_from" "moves_from" qdz a.f_y24 a.fd_y24
 B_y24:Binds K a.fd_y24 w0p []
 mg_y24:mg "moves_from"=some (.ref a.f_y24)
 F_y25:Fun K "moves" "moves" qdy a.f_y25 a.fd_y25
 B_y25:Binds K a.fd_y25 w0f []
 mg_y25:mg "moves"=some (.ref a.f_y25)
 F_y26:Fun K "end_costs" "end_costs" qdx a.f_y26 a.fd_y26
 B_y26:Binds K a.fd_y26 ["scheme","start"] []
 mg_y26:mg "end_costs"=some (.ref a.f_y26)
 F_y27:Fun K "cost_by" "cost_by" qfp a.f_y27 a.fd_y27
 B_y27:Binds K a.fd_y27 ["taken","behind"] []
 mg_y27:mg "cost_by"=some (.ref a.f_y27)
 F_y28:Fun K "least_by" "least_by" qan a.f_y28 a.fd_y28
 B_y28:Binds K a.fd_y28 ["choices","behind"] []
 mg_y28:mg "least_by"=some (.ref a.f_y28)
 F_y29:Fun K "ahead_by" "ahead_by" qdw a.f_y29 a.fd_y29
 B_y29:Binds K a.fd_y29 ["steps","ends"] []
 mg_y29:mg "ahead_by"=some (.ref a.f_y29)
 F_y30:Fun K "ahead_by_start" "ahead_by_start" qfo a.f_y30 a.fd_y30
 B_y30:Binds K a.fd_y30 ["scheme","steps"] []
 mg_y30:mg "ahead_by_start"=some (.ref a.f_y30)
 F_y31:Fun K "opened" "opened" qfn a.f_y31 a.fd_y31
 B_y31:Binds K a.fd_y31 ["scheme"] []
 mg_y31:mg "opened"=some (.ref a.f_y31)
 F_y32:Fun K "kept_at_first" "kept_at_first" qdv a.f_y32 a.fd_y32
 B_y32:Binds K a.fd_y32 ["scheme"] []
 mg_y32:mg "kept_at_first"=some (.ref a.f_y32)
 F_y33:Fun K "better" "better" qfm a.f_y33 a.fd_y33
 B_y33:Binds K a.fd_y33 ["found","other"] []
 mg_y33:mg "better"=some (.ref a.f_y33)
 F_y34:Fun K "kept_on" "kept_on" qfl a.f_y34 a.fd_y34
 B_y34:Binds K a.fd_y34 w39 []
 mg_y34:mg "kept_on"=some (.ref a.f_y34)
 F_y35:Fun K "kept" "kept" qfk a.f_y35 a.fd_y35
 B_y35:Binds K a.fd_y35 w1h []
 mg_y35:mg "kept"=some (.ref a.f_y35)
 F_y36:Fun K "begun_alike" "begun_alike" qfj a.f_y36 a.fd_y36
 B_y36:Binds K a.fd_y36 ["word","other"] []
 mg_y36:mg "begun_alike"=some (.ref a.f_y36)
 F_y37:Fun K "settled" "settled" qdu a.f_y37 a.fd_y37
 B_y37:Binds K a.fd_y37 w1h []
 mg_y37:mg "settled"=some (.ref a.f_y37)
 F_y38:Fun K "nearest_from" "nearest_from" qfi a.f_y38 a.fd_y38
 B_y38:Binds K a.fd_y38 w2y []
 mg_y38:mg "nearest_from"=some (.ref a.f_y38)
 F_y39:Fun K "nearest" "nearest" qdt a.f_y39 a.fd_y39
 B_y39:Binds K a.fd_y39 w0f []
 mg_y39:mg "nearest"=some (.ref a.f_y39)
 F_y40:Fun K "_law_cell_at" "_law_cell_at" qfh a.f_y40 a.fd_y40
 B_y40:Binds K a.fd_y40 ["_law_script","_law_k"] []
 mg_y40:mg "_law_cell_at"=some (.ref a.f_y40)
 F_y41:Fun K "_law_state" "_law_state" qfg a.f_y41 a.fd_y41
 B_y41:Binds K a.fd_y41 ["_law_cell","_law_k"] []
 mg_y41:mg "_law_state"=some (.ref a.f_y41)
 F_y42:Fun K "_law_next" "_law_next" qff a.f_y42 a.fd_y42
 B_y42:Binds K a.fd_y42 w17 []
 mg_y42:mg "_law_next"=some (.ref a.f_y42)
 F_y43:Fun K "_law_scheme" "_law_scheme" qam a.f_y43 a.fd_y43
 B_y43:Binds K a.fd_y43 w25 []
 mg_y43:mg "_law_scheme"=some (.ref a.f_y43)
 F_y44:Fun K "_law_odd" "_law_odd" qfe a.f_y44 a.fd_y44
 B_y44:Binds K a.fd_y44 ["_law_number"] []
 mg_y44:mg "_law_odd"=some (.ref a.f_y44)
 F_y45:Fun K "_law_step" "_law_step" qal a.f_y45 a.fd_y45
 B_y45:Binds K a.fd_y45 w1l []
 mg_y45:mg "_law_step"=some (.ref a.f_y45)
 F_y46:Fun K "_law_start" "_law_start" qfd a.f_y46 a.fd_y46
 B_y46:Binds K a.fd_y46 w13 []
 mg_y46:mg "_law_start"=some (.ref a.f_y46)
 F_y47:Fun K "_law_sent" "_law_sent" qfc a.f_y47 a.fd_y47
 B_y47:Binds K a.fd_y47 w13 []
 mg_y47:mg "_law_sent"=some (.ref a.f_y47)
 F_y48:Fun K "_law_sign" "_law_sign" qfb a.f_y48 a.fd_y48
 B_y48:Binds K a.fd_y48 w2w []
 mg_y48:mg "_law_sign"=some (.ref a.f_y48)
 F_y49:Fun K "_law_heard" "_law_heard" qfa a.f_y49 a.fd_y49
 B_y49:Binds K a.fd_y49 w26 []
 mg_y49:mg "_law_heard"=some (.ref a.f_y49)
 F_y50:Fun K "_law_whole" "_law_whole" qf9 a.f_y50 a.fd_y50
 B_y50:Binds K a.fd_y50 ["_law_found"] []
 mg_y50:mg "_law_whole"=some (.ref a.f_y50)
 F_y51:Fun K "_law_is_word" "_law_is_word" qds a.f_y51 a.fd_y51
 B_y51:Binds K a.fd_y51 w1i []
 mg_y51:mg "_law_is_word"=some (.ref a.f_y51)
 F_y52:Fun K "_law_many" "_law_many" qdr a.f_y52 a.fd_y52
 B_y52:Binds K a.fd_y52 w11 []
 mg_y52:mg "_law_many"=some (.ref a.f_y52)
 F_law:Fun K "law" "law" qao a.f_law a.fd_law
 B_law:Binds K a.fd_law ["_law_script"] []
 mg_law:mg "law"=some (.ref a.f_law)
 mk_Clear:Mk K a.c_Clear a.f_y11
 mk_Gap:MkN K a.c_Gap
 mk_Soft:Mk K a.c_Soft a.f_y16
 z_all:mg "all"=none
 z_bool:mg "bool"=none
 z_enumerate:mg "enumerate"=none
 z_int:mg "int"=none
 z_isinstance:mg "isinstance"=none
 z_len:mg "len"=none
 z_list:mg "list"=none
 z_max:mg "max"=none
 z_min:mg "min"=none
 z_range:mg "range"=none
 z_reversed:mg "reversed"=none
 z_sum:mg "sum"=none
 z_tuple:mg "tuple"=none
 z_zip:mg "zip"=none
 kit_ty_NoneType_ty_bool:PySem.W.kitOne K (.type "NoneType") (.type "bool")=some false
 kit_ty_bool_ty_bool:PySem.W.kitOne K (.type "bool") (.type "bool")=some true
 kit_ty_int_ty_bool:PySem.W.kitOne K (.type "int") (.type "bool")=some false
 kit_ty_str_ty_bool:PySem.W.kitOne K (.type "str") (.type "bool")=some false
 kit_ty_list_ty_bool:PySem.W.kitOne K (.type "list") (.type "bool")=some false
 kit_ty_tuple_ty_bool:PySem.W.kitOne K (.type "tuple") (.type "bool")=some false
 kit_ty_dict_ty_bool:PySem.W.kitOne K (.type "dict") (.type "bool")=some false
 kit_ty_NoneType_ty_int:PySem.W.kitOne K (.type "NoneType") (.type "int")=some false
 kit_ty_bool_ty_int:PySem.W.kitOne K (.type "bool") (.type "int")=some true
 kit_ty_int_ty_int:PySem.W.kitOne K (.type "int") (.type "int")=some true
 kit_ty_str_ty_int:PySem.W.kitOne K (.type "str") (.type "int")=some false
 kit_ty_list_ty_int:PySem.W.kitOne K (.type "list") (.type "int")=some false
 kit_ty_tuple_ty_int:PySem.W.kitOne K (.type "tuple") (.type "int")=some false
 kit_ty_dict_ty_int:PySem.W.kitOne K (.type "dict") (.type "int")=some false
 kit_ty_NoneType_ty_list:PySem.W.kitOne K (.type "NoneType") (.type "list")=some false
 kit_ty_bool_ty_list:PySem.W.kitOne K (.type "bool") (.type "list")=some false
 kit_ty_int_ty_list:PySem.W.kitOne K (.type "int") (.type "list")=some false
 kit_ty_str_ty_list:PySem.W.kitOne K (.type "str") (.type "list")=some false
 kit_ty_list_ty_list:PySem.W.kitOne K (.type "list") (.type "list")=some true
 kit_ty_tuple_ty_list:PySem.W.kitOne K (.type "tuple") (.type "list")=some false
 kit_ty_dict_ty_list:PySem.W.kitOne K (.type "dict") (.type "list")=some false
theorem qjo{K:FrG}{mg:Str->Option Value}{a:Ad}(T:Txt K mg a):KitB K "bool" (q7v "bool"):=qbi T.kit_ty_NoneType_ty_bool T.kit_ty_bool_ty_bool T.kit_ty_int_ty_bool T.kit_ty_str_ty_bool T.kit_ty_list_ty_bool T.kit_ty_tuple_ty_bool T.kit_ty_dict_ty_bool
theorem qnl{K:FrG}{mg:Str->Option Value}{a:Ad}(T:Txt K mg a):KitB K "int" (q7v "int"):=qbi T.kit_ty_NoneType_ty_int T.kit_ty_bool_ty_int T.kit_ty_int_ty_int T.kit_ty_str_ty_int T.kit_ty_list_ty_int T.kit_ty_tuple_ty_int T.kit_ty_dict_ty_int
theorem qjn{K:FrG}{mg:Str->Option Value}{a:Ad}(T:Txt K mg a):KitB K "list" (q7v "list"):=qbi T.kit_ty_NoneType_ty_list T.kit_ty_bool_ty_list T.kit_ty_int_ty_list T.kit_ty_str_ty_list T.kit_ty_list_ty_list T.kit_ty_tuple_ty_list T.kit_ty_dict_ty_list
section
variable{P:Program}{w:World}{K:FrG}{mg:Str->Option Value}{base:Heap}{a:Ad}
def b_y0:RhO:=
 (sRet (mOp2 dShl (mRet (.int 1)) (mVar 0)))
def f_y0:List D->Option D:=runP false 1 1 b_y0
theorem n_y0:q1q 1 f_y0:=q1f
theorem qv5(T:Txt K mg a):FnOk P w K mg base CX0 1 a.f_y0 a.fd_y0 ["reach"] (spP K false 1 f_y0):=by
 refine T.F_y0.ok qus (λ_ _ _ _ h=>h.1) (λcdv A outer s H vs Q E hr h=>?_)
 ·refine⟨_,(q0b (q0y (q13 qck q07 (pv 0)))),?_⟩;exact q0l (O':=[]) (Nms:=["reach"]) (f:=b_y0) (by unfold b_y0;exact(q16 rfl (q0g qcq me_int (q03 (i:=0))) rfl)) h
def b_y1:RhO:=
 (sRet (q0k f_y0 (q00 (mOp2 dIx (mVar 0) (mRet (.int 0))) mNil)))
def f_y1:List D->Option D:=runP false 1 1 b_y1
theorem n_y1:q1q 1 f_y1:=q1f
theorem qgh(T:Txt K mg a):FnOk P w K mg base CX0 2 a.f_y1 a.fd_y1 ["scheme"] (spP K false 1 f_y1):=by
 have G_y0:=@qv5 P w K mg base a T;refine T.F_y1.ok qur (λ_ _ _ _ h=>h.1) (λcdv A outer s H vs Q E hr h=>?_)
 ·refine⟨_,(q0b (q0y (q0d G_y0 hr.m (by rfl) T.mg_y0 T.F_y0.kp T.B_y0 .nil q14 (q01 (q1g (q0j (K:=K) rfl) (pv 0) q07) q05)))),?_⟩;exact q0l (O':=[]) (Nms:=["scheme"]) (f:=b_y1) (by unfold b_y1;exact(q16 rfl (q0i n_y0 (q02 (q0g q1k (q03 (i:=0)) me_int) q08)) rfl)) h
abbrev w0i:=(sSeq (sSet 2 (mOp2 dXor (mVar 2) (mOp2 dAnd (mVar 1) (mRet (.int 1))))) (sSet 1 (mOp2 dDiv (mVar 1) (mRet (.int 2)))))
abbrev w2e:=(q0q (mOp2 dGt (mVar 1) (mRet (.int 0))))
def b_y2:RhO:=
 (sSeq (sSet 1 (mVar 0))
 (sSeq (sSet 2 (mRet (.int 0)))
 (sSeq (q2d w2e
   w0i 1000)
 (sRet (mVar 2)))))
def f_y2:List D->Option D:=runP false 1 3 b_y2
theorem n_y2:q1q 1 f_y2:=q1f
theorem qv4(T:Txt K mg a):FnOk P w K mg base CX0 1 a.f_y2 a.fd_y2 ["number"] (spP K false 1 f_y2):=by
 refine T.F_y2.ok sc_y2 (λ_ _ _ _ h=>h.1) (λcdv A outer s H vs Q E hr h=>?_)
 ·refine⟨_,(q06 (zsA 1 sc_y2.nd (pv 0)) (q06 (zsA 2 sc_y2.nd q07) (q06 (qc7 jv (q1b qj8 (pv 1) q07 (q1m _)) (q06 (zsA 2 sc_y2.nd (q13 qqt (pv 2) (q13 qgg (pv 1) q07))) (q0b (zsA 1 sc_y2.nd (q13 q55 (pv 1) q07))))) (q0b (q0y (pv 2)))))),?_⟩;exact q0l (O':=[]) (Nms:=["number","left","odd"]) (f:=b_y2) (by unfold b_y2;exact(q0f (O1:=[]) (q18 (q03 (i:=0))) (q0f (O1:=[]) (q18 me_int) (q0f (O1:=[]) (qcu (O':=[]) (q1c (q1n q7q (q03 (i:=1)) me_int.mb)) rfl (q0f (O1:=[]) (q18 (q0g qs1 (q03 (i:=2)) (q0g qgj (q03 (i:=1)) me_int))) (q18 (q0g q75 (q03 (i:=1)) me_int)))) (q16 rfl (q03 (i:=2)) rfl))))) h
abbrev w12:=(q00 (mOp2 dAnd (mVar 1) (mVar 0)) mNil)
abbrev w2c:=(mSeq (mOp2 dIx (mVar 0) (mRet (.int 1))))
def b_y3:RhO:=
 (sSeq (sSet 3 (mOp2 dAdd (mOp2 q44 (mRet (.int 2)) (mVar 1)) (mVar 2)))
 (sSeq (sSet 4 (mOf (q22 1 [3] none w2c (gSet 0) (mRet true) (q0k f_y2 w12))))
 (sRet (mTup (q00 (mOp2 dMod (mVar 3) (q0k f_y1 (q00 (mVar 0) mNil))) (q00 (mOp1 q4g (mVar 4)) mNil))))))
def f_y3:List D->Option D:=runP false 3 5 b_y3
theorem n_y3:q1q 3 f_y3:=q1f
theorem qrk(T:Txt K mg a):FnOk P w K mg base CX0 3 a.f_y3 a.fd_y3 ["scheme","room","bit"] (spP K false 3 f_y3):=by
 have G_y2:=@qv4 P w K mg base a T;have G_y1:=@qgh P w K mg base a T;refine T.F_y3.ok sc_y3 (λ_ _ _ _ h=>h.1) (λcdv A outer s H vs Q E hr h=>?_)
 ·refine⟨_,(q06 (zsA 3 sc_y3.nd (q13 (q1u (K:=K) rfl) (q13 (q3g (K:=K) rfl) q07 (pv 1)) (pv 2))) (q06 (q5x (k:=4) (sc:=q04 s_y3) (N0:=w2i) rfl rfl rfl (show q23 _ _ ["tap","window"] 1 [3] _=true by decide+kernel) sc_y3.nd rfl (Or.inl rfl) (q2t (K:=K) rfl (q1g (q0j (K:=K) rfl) (pv 0) q07)) (λ_ _ _ _ _=>(q0s (i:=0) (show List.Nodup (["tap","window"]:List Str)from(by decide+kernel)) rfl (Or.inl rfl))) (q1s (by decide)) (λ_ _ _ _ _=>q2h) (λ_ _ _ _ _=>(q0d G_y2 hr.m (by rfl) T.mg_y2 T.F_y2.kp T.B_y2 .nil q14 (q01 (q13 qgg (pv 1) (pv 0)) q05)))) (q0b (q0y (q37 (q01 (q13 q2k (pv 3) (q0d G_y1 hr.m (by rfl) T.mg_y1 T.F_y1.kp T.B_y1 .nil q14 (q01 (pv 0) q05))) (q01 (q2v (q3l (K:=K) rfl) (by rfl) T.z_tuple (by rfl) (q01 (pv 4) q05)) q05))))))),?_⟩;exact q0l (O':=[]) (Nms:=w2i) (f:=b_y3) (by unfold b_y3;exact(q0f (O1:=[]) (q18 (q0g q2m (q0g q3h me_int (q03 (i:=1))) (q03 (i:=2)))) (q0f (O1:=[]) (q76 (q27 (bw:=none) (q3p (q0g q1k (q03 (i:=0)) me_int)) (q0t (i:=0)) q39 (q0i n_y2 (q02 (q0g qgj (q03 (i:=1)) (q03 (i:=0))) q08))) rfl (by decide)) (q16 rfl (q3a (q02 (q0g q2l (q03 (i:=3)) (q0i n_y1 (q02 (q03 (i:=0)) q08))) (q02 (q4u q5t (q03 (i:=4))) q08))) rfl)))) h
def b_y4:RhO:=
 (sSeq (sSet 3 (mOp2 dIx (mVar 0) (mRet (.int 2))))
 (sSeq (sSet 4 (mOp2 dIx (mVar 3) (mOp2 dMod (mVar 1) (mOp1 dLen (mVar 3)))))
 (sRet (mOp1 q4g (mOf (q22 2 [] none (mZip (q00 (mVar 2) (q00 (mVar 4) mNil))) (q2b 2 (q0n (gSet 0) (q0n (gSet 1) q2c))) (q0q (mOp2 dEq (mVar 1) (mRet (.int 1)))) (mVar 0)))))))
def f_y4:List D->Option D:=runP false 3 5 b_y4
theorem n_y4:q1q 3 f_y4:=q1f
theorem qr9(T:Txt K mg a):FnOk P w K mg base CX0 1 a.f_y4 a.fd_y4 w38 (spP K false 3 f_y4):=by
 refine T.F_y4.ok sc_y4 (λ_ _ _ _ h=>h.1) (λcdv A outer s H vs Q E hr h=>?_)
 ·refine⟨_,(q06 (zsA 3 sc_y4.nd (q1g (q0j (K:=K) rfl) (pv 0) q07)) (q06 (zsA 4 sc_y4.nd (q1g (q0j (K:=K) rfl) (pv 3) (q13 q2k (pv 1) (q11 (q1e (K:=K) rfl) (by rfl) T.z_len (by rfl) (q01 (pv 3) q05))))) (q0b (q0y (q2v (q3l (K:=K) rfl) (by rfl) T.z_tuple (by rfl) (q01 (q2p (sc:=q04 s_y4) (N0:=w2j) rfl rfl rfl (show q23 _ _ ["sign","chosen"] 2 [] _=true by decide+kernel) (q74 (K:=K) rfl (by rfl) T.z_zip (q01 (pv 2) (q01 (pv 4) q05))) (λ_ _ _ _ _=>(q4b (K:=K) rfl rfl (q1v (q0s (i:=0) (show List.Nodup (["sign","chosen"]:List Str)from(by decide+kernel)) rfl (Or.inl rfl)) (q1v (q0s (i:=1) (show List.Nodup (["sign","chosen"]:List Str)from(by decide+kernel)) rfl (Or.inl rfl)) q4a)))) (qci (by decide) (by decide)) (λ_ _ _ _ _=>(q8s (q1b (q32 (K:=K) rfl hr.units) (pv 1) q07 (q1m _)))) (λ_ _ _ _ _=>(pv 0))) q05)))))),?_⟩;exact q0l (O':=[]) (Nms:=w2j) (f:=b_y4) (by unfold b_y4;exact(q0f (O1:=[]) (q18 (q0g q1k (q03 (i:=0)) me_int)) (q0f (O1:=[]) (q18 (q0g q1k (q03 (i:=3)) (q0g q2l (q03 (i:=1)) (q19 q2i q1x)))) (q16 rfl (q4u q5t (q1o (q27 (bw:=none) (q9y (q02 (q03 (i:=2)) (q02 (q03 (i:=4)) q08))) (q5h (q1w (q0t (i:=0)) (q1w (q0t (i:=1)) q4d))) (q1c (q1n os_eq (q03 (i:=1)) me_int.mb)) (q03 (i:=0))))) rfl)))) h
abbrev w2t:=(mOp2 dEq (mOp2 dIx (mVar 0) (mRet (.int 3))) (mRet (.str "ring")))
def b_y5:RhO:=
 (sRet w2t)
def f_y5:List D->Option D:=runP false 1 1 b_y5
theorem n_y5:q1q 1 f_y5:=q1f
theorem qmx(T:Txt K mg a):FnOk P w K mg base CX0 1 a.f_y5 a.fd_y5 ["scheme"] (spP K false 1 f_y5):=by
 refine T.F_y5.ok quq (λ_ _ _ _ h=>h.1) (λcdv A outer s H vs Q E hr h=>?_)
 ·refine⟨_,(q0b (q0y (qg9 (q32 (K:=K) rfl hr.units) (q1g (q0j (K:=K) rfl) (pv 0) q07) q38 (q1m _)))),?_⟩;exact q0l (O':=[]) (Nms:=["scheme"]) (f:=b_y5) (by unfold b_y5;exact(q16 rfl (q1n os_eq (q0g q1k (q03 (i:=0)) me_int) me_str.mb) rfl)) h
def b_y6:RhO:=
 (sIf (mAnd (q0q (q0k f_y5 (q00 (mVar 0) mNil))) (q0q (mOp2 dLt (mVar 1) (mOp2 dIx (mVar 0) (mRet (.int 0))))))
   (λ_=>none)
   sNil)
def f_y6:List D->Option D:=runP false 2 2 b_y6
theorem n_y6:q1q 2 f_y6:=q1f
theorem qv3(T:Txt K mg a):FnOk P w K mg base CX0 2 a.f_y6 a.fd_y6 ["scheme","size"] (spP K false 2 f_y6):=by
 have G_y5:=@qmx P w K mg base a T;refine T.F_y6.ok qup (λ_ _ _ _ h=>h.1) (λcdv A outer s H vs Q E hr h=>?_)
 ·refine⟨_,(q0b (q3y (PW.pt (pw_and (q9m (q0d G_y5 hr.m (by rfl) T.mg_y5 T.F_y5.kp T.B_y5 .nil q14 (q01 (pv 0) q05))) (pw_and1 (q1b qj7 (pv 1) (q1g (q0j (K:=K) rfl) (pv 0) q07) (q1m _))))) (q0b qc8) q26)),?_⟩;exact q0l (O':=[]) (Nms:=["scheme","size"]) (f:=b_y6) (by unfold b_y6;exact(q40 (qsd (q9w (q0i n_y5 (q02 (q03 (i:=0)) q08))) (q1c (q1n q7q (q03 (i:=1)) (q0g q1k (q03 (i:=0)) me_int).mb))) qcv (q2s rfl))) h
abbrev w0b:=(q0q (mOp2 dEq (mOp2 dIx (mVar 0) (mRet (.int 3))) (mRet (.str "ended"))))
def b_y7:RhO:=
 (sRet (mIf w0b (mOp2 dIx (mVar 0) (mRet (.int 0))) (mRet (.int 0))))
def f_y7:List D->Option D:=runP false 1 1 b_y7
theorem n_y7:q1q 1 f_y7:=q1f
theorem qv2(T:Txt K mg a):FnOk P w K mg base CX0 1 a.f_y7 a.fd_y7 ["scheme"] (spP K false 1 f_y7):=by
 refine T.F_y7.ok quo (λ_ _ _ _ h=>h.1) (λcdv A outer s H vs Q E hr h=>?_)
 ·refine⟨_,(q0b (q0y (q2u (q1b (q32 (K:=K) rfl hr.units) (q1g (q0j (K:=K) rfl) (pv 0) q07) q38 (q1m _)) (q1g (q0j (K:=K) rfl) (pv 0) q07) q07))),?_⟩;exact q0l (O':=[]) (Nms:=["scheme"]) (f:=b_y7) (by unfold b_y7;exact(q16 rfl (q7s (q1c (q1n os_eq (q0g q1k (q03 (i:=0)) me_int) me_str.mb)) (q0g q1k (q03 (i:=0)) me_int) me_int) rfl)) h
def b_y8:RhO:=
 (qe2 (mIfL (q0q (q0k f_y5 (q00 (mVar 0) mNil))) (q7d upsO (q0k f_y1 (q00 (mVar 0) mNil))) (mLst (q00 (mRet (.int 0)) mNil))))
def f_y8:List D->Option D:=runP true 1 1 b_y8
theorem n_y8:q1q 1 f_y8:=q1f
theorem qv1(T:Txt K mg a):FnOk P w K mg base CX0 3 a.f_y8 a.fd_y8 ["scheme"] (spP K true 1 f_y8):=by
 have G_y5:=@qmx P w K mg base a T;have G_y1:=@qgh P w K mg base a T;refine T.F_y8.ok qun (λ_ _ _ _ h=>h.1) (λcdv A outer s H vs Q E hr h=>?_)
 ·refine⟨_,(q0b (q0y (q2u (q9m (q0d G_y5 hr.m (by rfl) T.mg_y5 T.F_y5.kp T.B_y5 .nil q14 (q01 (pv 0) q05))) (qmn rfl (by rfl) T.z_list (by rfl) T.z_range (q0d G_y1 hr.m (by rfl) T.mg_y1 T.F_y1.kp T.B_y1 .nil q14 (q01 (pv 0) q05))) (q2r (q01 q07 q05))))),?_⟩;exact q0l (O':=[]) (Nms:=["scheme"]) (f:=b_y8) (by unfold b_y8;exact(qgq rfl (qvy (q9w (q0i n_y5 (q02 (q03 (i:=0)) q08))) (qnb (q0i n_y1 (q02 (q03 (i:=0)) q08))) (q2w (q02 me_int q08))) rfl)) h
def b_y9:RhO:=
 (sSeq (qar (q0k f_y6 (q00 (mVar 0) (q00 (mVar 1) mNil))))
 (sRet (mOp2 dAdd (mVar 1) (q0k f_y7 (q00 (mVar 0) mNil)))))
def f_y9:List D->Option D:=runP false 2 2 b_y9
theorem n_y9:q1q 2 f_y9:=q1f
theorem qqx(T:Txt K mg a):FnOk P w K mg base CX0 3 a.f_y9 a.fd_y9 ["scheme","size"] (spP K false 2 f_y9):=by
 have G_y6:=@qv3 P w K mg base a T;have G_y7:=@qv2 P w K mg base a T;refine T.F_y9.ok qum (λ_ _ _ _ h=>h.1) (λcdv A outer s H vs Q E hr h=>?_)
 ·refine⟨_,(q06 (q3u (q0d G_y6 hr.m (by rfl) T.mg_y6 T.F_y6.kp T.B_y6 .nil q14 (q01 (pv 0) (q01 (pv 1) q05)))) (q0b (q0y (q13 (q1u (K:=K) rfl) (pv 1) (q0d G_y7 hr.m (by rfl) T.mg_y7 T.F_y7.kp T.B_y7 .nil q14 (q01 (pv 0) q05)))))),?_⟩;exact q0l (O':=[]) (Nms:=["scheme","size"]) (f:=b_y9) (by unfold b_y9;exact(q0f (O1:=[]) (qgr (q0i n_y6 (q02 (q03 (i:=0)) (q02 (q03 (i:=1)) q08))) rfl) (q16 rfl (q0g q2m (q03 (i:=1)) (q0i n_y7 (q02 (q03 (i:=0)) q08))) rfl))) h
abbrev w0t:=(q00 (mRet (.int 0)) (q00 (mRet (.int 0)) mNil))
abbrev w0c:=(mOp1 dLen (q0k f_y4 (q00 (mVar 0) (q00 (mVar 4) (q00 (mVar 2) mNil)))))
abbrev w2x:=(q30 (q00 (q0k f_y9 (q00 (mVar 0) (q00 (mVar 1) mNil))) mNil))
abbrev w3h:=(sExt 3 (mRep (mLst (q00 (mVar 4) mNil)) w0c))
def ql4:RhO:=
 (sSeq (sSet 2 (mOp2 dIx (q0k f_y3 (q00 (mVar 0) w0t)) (mRet (.int 1))))
 (sSeq (sOwn 3 (mLst mNil))
 (sSeq (sFor w2x (gSet 4)
   w3h)
 (q5w 3))))
def f_y10:List D->Option D:=runP true 2 5 ql4
theorem qsa:q1q 2 f_y10:=q1f
theorem qlr(T:Txt K mg a):FnOk P w K mg base CX0 4 a.f_y10 a.fd_y10 ["scheme","size"] (spP K true 2 f_y10):=by
 have G_y3:=@qrk P w K mg base a T;have G_y9:=@qqx P w K mg base a T;have G_y4:=@qr9 P w K mg base a T;refine T.F_y10.ok sc_y10 (λ_ _ _ _ h=>h.1) (λcdv A outer s H vs Q E hr h=>?_)
 ·refine⟨_,(q06 (zsA 2 sc_y10.nd (q1g (q0j (K:=K) rfl) (q0d G_y3 hr.m (by rfl) T.mg_y3 T.F_y3.kp T.B_y3 .nil q14 (q01 (pv 0) (q01 q07 (q01 q07 q05)))) q07)) (q06 (zsA 3 sc_y10.nd (q2r q05)) (q06 (q31 jv rfl (q20 (by rfl) T.z_range (q01 (q0d G_y9 hr.m (by rfl) T.mg_y9 T.F_y9.kp T.B_y9 .nil q14 (q01 (pv 0) (q01 (pv 1) q05))) q05)) (zgA 4 sc_y10.nd) (q0b (q3u (q9q PySem.F.plainAttrs_list PySem.F.slot_list_extend PySem.F.type_list_extend qgp (pv 3) (q01 (q13 qcl (q2r (q01 (pv 4) q05)) (q11 (q1e (K:=K) rfl) (by rfl) T.z_len (by rfl) (q01 (q0d G_y4 hr.m (by rfl) T.mg_y4 T.F_y4.kp T.B_y4 .nil q14 (q01 (pv 0) (q01 (pv 4) (q01 (pv 2) q05)))) q05))) q05))))) (q0b (q0y (pv 3)))))),?_⟩;exact q0l (O':=[]) (Nms:=w3m) (f:=ql4) (by unfold ql4;exact(q0f (O1:=[]) (q18 (q0g q1k (q0i n_y3 (q02 (q03 (i:=0)) (q02 me_int (q02 me_int q08)))) me_int)) (q0f (O1:=[3]) (q3o (q2w q08) rfl) (q0f (O1:=[3]) (q36 (O':=[3]) (q21 (q02 (q0i n_y9 (q02 (q03 (i:=0)) (q02 (q03 (i:=1)) q08))) q08)) rfl (q0t (i:=4)) (qse (by decide) (qcw (q2w (q02 (q03 (i:=4)) q08)) (q19 q2i (q0i n_y4 (q02 (q03 (i:=0)) (q02 (q03 (i:=4)) (q02 (q03 (i:=2)) q08)))).mb)) rfl)) (q77 rfl (by first|decide|simp) rfl (by first|decide|simp)))))) h
theorem qry(T:Txt K mg a):FnOk P w K mg base CX0 1 a.f_y11 a.fd_y11 ["self","bit"] (qf5 a.c_Clear ["bit"]):=by
 refine T.F_y11.ok qq6 (λvs H Q E h=>?_) (λcdv A outer s H vs Q E hr h=>?_)
 ·obtain⟨x,dx,args,rfl,hl,_⟩:=h;exact congrArg Nat.succ hl
 ·obtain⟨x,dx,args,rfl,hl,hx,k⟩:=h
  match args,hl,k with
  | [b0],_,k=>
   refine⟨_,(q0b (qg5 (pv 0) (pv 1) rfl)),?_⟩;refine⟨_,rfl,_,rfl,x,_,dx,_,rfl,hx,T.cl_Clear,T.no_Clear_bit,(by show 0<1000;decide),?_⟩;exact k
def ql3:RhO:=
 (sRet (mIf (q0q (mOp2 dEq (mVar 1) (mFld "Clear" "bit" (mVar 0)))) (mRet (.int 0)) (mRet (.int 1))))
def f_y13:List D->Option D:=runP false 2 2 ql3
theorem qvx:q1q 2 f_y13:=q1f
theorem qrx(T:Txt K mg a):FnOk P w K mg base CX0 1 a.f_y13 a.fd_y13 ["self","bit"] (spP K false 2 f_y13):=by
 refine T.F_y13.ok qq5 (λ_ _ _ _ h=>h.1) (λcdv A outer s H vs Q E hr h=>?_)
 ·refine⟨_,(q0b (q0y (q2u (q1b (q32 (K:=K) rfl hr.units) (pv 1) (qb0 (K:=K) rfl (pv 0) rfl) (q1m _)) q07 q07))),?_⟩;exact q0l (O':=[]) (Nms:=["self","bit"]) (f:=ql3) (by unfold ql3;exact(q16 rfl (q7s (q1c (q1n os_eq (q03 (i:=1)) (qgy T.ns_Clear T.cl_Clear T.no_Clear_bit (q03 (i:=0))).mb)) me_int me_int) rfl)) h
def ql2:RhO:=
 (sRet (mRet (.int 0)))
def f_y15:List D->Option D:=runP false 2 2 ql2
theorem qvw:q1q 2 f_y15:=q1f
theorem qrw(T:Txt K mg a):FnOk P w K mg base CX0 1 a.f_y15 a.fd_y15 ["self","bit"] (spP K false 2 f_y15):=by
 refine T.F_y15.ok qq4 (λ_ _ _ _ h=>h.1) (λcdv A outer s H vs Q E hr h=>?_)
 ·refine⟨_,(q0b (q0y q07)),?_⟩;exact q0l (O':=[]) (Nms:=["self","bit"]) (f:=ql2) (by unfold ql2;exact(q16 rfl me_int rfl)) h
theorem qrv(T:Txt K mg a):FnOk P w K mg base CX0 1 a.f_y16 a.fd_y16 ["self","zero","one"] (qf5 a.c_Soft ["zero","one"]):=by
 refine T.F_y16.ok qq3 (λvs H Q E h=>?_) (λcdv A outer s H vs Q E hr h=>?_)
 ·obtain⟨x,dx,args,rfl,hl,_⟩:=h;exact congrArg Nat.succ hl
 ·obtain⟨x,dx,args,rfl,hl,hx,k⟩:=h
  match args,hl,k with
  | [b0,b1],_,k=>
   refine⟨_,(q06 (qg5 (pv 0) (pv 1) rfl) (q0b (qg5 (pv 0) (pv 2) rfl))),?_⟩;refine⟨_,rfl,_,rfl,x,_,dx,_,rfl,hx,T.cl_Soft,T.no_Soft_zero,(by show 0<1000;decide),?_⟩;refine⟨_,rfl,_,rfl,x,_,dx,_,rfl,q0u,T.cl_Soft,T.no_Soft_one,(by show 1<1000;decide),?_⟩;rw[qez];have e:(putF "one" b1 (putF "zero" b0 []))=([("zero",b0),("one",b1)]:List (Str×V)):=by
    have hne:¬(("zero":Str)="one"):=by decide+kernel
    simp[putF,hne]
   rw[e];exact k
def ql1:RhO:=
 (sRet (mIf (q0q (mOp2 dEq (mVar 1) (mRet (.int 1)))) (mFld "Soft" "one" (mVar 0)) (mFld "Soft" "zero" (mVar 0))))
def f_y18:List D->Option D:=runP false 2 2 ql1
theorem qvv:q1q 2 f_y18:=q1f
theorem qru(T:Txt K mg a):FnOk P w K mg base CX0 1 a.f_y18 a.fd_y18 ["self","bit"] (spP K false 2 f_y18):=by
 refine T.F_y18.ok qq2 (λ_ _ _ _ h=>h.1) (λcdv A outer s H vs Q E hr h=>?_)
 ·refine⟨_,(q0b (q0y (q2u (q1b (q32 (K:=K) rfl hr.units) (pv 1) q07 (q1m _)) (qb0 (K:=K) rfl (pv 0) rfl) (qb0 (K:=K) rfl (pv 0) rfl)))),?_⟩;exact q0l (O':=[]) (Nms:=["self","bit"]) (f:=ql1) (by unfold ql1;exact(q16 rfl (q7s (q1c (q1n os_eq (q03 (i:=1)) me_int.mb)) (qgy T.ns_Soft T.cl_Soft T.no_Soft_one (q03 (i:=0))) (qgy T.ns_Soft T.cl_Soft T.no_Soft_zero (q03 (i:=0)))) rfl)) h
def ql0:RhO:=
 (sSeq (sIf (q0q (mOp2 dEq (mOp2 dIx (mVar 0) (mRet (.int 0))) (mRet (.str "clear"))))
   (sRet (qh1 "Clear" ["bit"] (q00 (mOp2 dIx (mVar 0) (mRet (.int 1))) mNil)))
   sNil)
 (sSeq (sIf (q0q (mOp2 dEq (mOp2 dIx (mVar 0) (mRet (.int 0))) (mRet (.str "gap"))))
   (sRet (qh0 "Gap"))
   sNil)
 (sRet (qh1 "Soft" ["zero","one"] (q00 (mOp2 dIx (mVar 0) (mRet (.int 1))) (q00 (mOp2 dIx (mVar 0) (mRet (.int 2))) mNil))))))
def f_y19:List D->Option D:=runP false 1 1 ql0
theorem qvu:q1q 1 f_y19:=q1f
theorem qrt(T:Txt K mg a):FnOk P w K mg base CX0 3 a.f_y19 a.fd_y19 ["told"] (spP K false 1 f_y19):=by
 have G_y11:=@qry P w K mg base a T;have G_y16:=@qrv P w K mg base a T;refine T.F_y19.ok qq1 (λ_ _ _ _ h=>h.1) (λcdv A outer s H vs Q E hr h=>?_)
 ·refine⟨_,(q06 (q3y (q1b (q32 (K:=K) rfl hr.units) (q1g (q0j (K:=K) rfl) (pv 0) q07) q38 (q1m _)) (q0b (q0y (qg8 T.mk_Clear G_y11 hr.m (by rfl) T.mg_Clear T.B_y11 .nil q14 (q01 (q1g (q0j (K:=K) rfl) (pv 0) q07) q05)))) q26) (q06 (q3y (q1b (q32 (K:=K) rfl hr.units) (q1g (q0j (K:=K) rfl) (pv 0) q07) q38 (q1m _)) (q0b (q0y (qiy T.mk_Gap (by rfl) T.mg_Gap))) q26) (q0b (q0y (qg8 T.mk_Soft G_y16 hr.m (by rfl) T.mg_Soft T.B_y16 .nil q14 (q01 (q1g (q0j (K:=K) rfl) (pv 0) q07) (q01 (q1g (q0j (K:=K) rfl) (pv 0) q07) q05))))))),?_⟩;exact q0l (O':=[]) (Nms:=["told"]) (f:=ql0) (by unfold ql0;exact(q0f (O1:=[]) (q40 (q1c (q1n os_eq (q0g q1k (q03 (i:=0)) me_int) me_str.mb)) (q16 rfl (qgw T.ns_Clear (q02 (q0g q1k (q03 (i:=0)) me_int) q08)) rfl) (q2s rfl)) (q0f (O1:=[]) (q40 (q1c (q1n os_eq (q0g q1k (q03 (i:=0)) me_int) me_str.mb)) (q16 rfl (qjd T.ns_Gap) rfl) (q2s rfl)) (q16 rfl (qgw T.ns_Soft (q02 (q0g q1k (q03 (i:=0)) me_int) (q02 (q0g q1k (q03 (i:=0)) me_int) q08))) rfl)))) h
abbrev w1x:=(mOf (q1y f_y10 (q00 (mVar 0) (q00 (mVar 1) mNil))))
def qkz:RhO:=
 (sSeq (sSet 3 w1x)
 (sIf (q0q (mOp2 dNe (mOp1 dLen (mVar 2)) (mOp1 dLen (mVar 3))))
   (λ_=>none)
   sNil))
def f_y20:List D->Option D:=runP false 3 4 qkz
theorem qvt:q1q 3 f_y20:=q1f
theorem qrs(T:Txt K mg a):FnOk P w K mg base CX0 5 a.f_y20 a.fd_y20 w0f (spP K false 3 f_y20):=by
 have G_y10:=@qlr P w K mg base a T;refine T.F_y20.ok sc_y20 (λ_ _ _ _ h=>h.1) (λcdv A outer s H vs Q E hr h=>?_)
 ·refine⟨_,(q06 (zsA 3 sc_y20.nd (q0d G_y10 hr.m (by rfl) T.mg_y10 T.F_y10.kp T.B_y10 .nil q14 (q01 (pv 0) (q01 (pv 1) q05)))) (q0b (q3y (q1b (q85 (K:=K) rfl hr.units) (q11 (q1e (K:=K) rfl) (by rfl) T.z_len (by rfl) (q01 (pv 2) q05)) (q11 (q1e (K:=K) rfl) (by rfl) T.z_len (by rfl) (q01 (pv 3) q05)) (q1m _)) (q0b qc8) q26))),?_⟩;exact q0l (O':=[]) (Nms:=["scheme","size","heard","places"]) (f:=qkz) (by unfold qkz;exact(q0f (O1:=[]) (q18 (q1o (q2x qsa (q02 (q03 (i:=0)) (q02 (q03 (i:=1)) q08))))) (q40 (q1c (q1n qe7 (q19 q2i q1x) (q19 q2i q1x).mb)) qcv (q2s rfl)))) h
abbrev w10:=(mZip (q00 (mVar 0) (q00 (mVar 1) mNil)))
abbrev w04:=(mOrE (q56 "Clear" "cost" f_y13 (mVar 0) (q00 (mVar 1) mNil)) (mOrE (q56 "Gap" "cost" f_y15 (mVar 0) (q00 (mVar 1) mNil)) (q56 "Soft" "cost" f_y18 (mVar 0) (q00 (mVar 1) mNil))))
def qky:RhO:=
 (sRet (mOp1 dSum (mOf (q22 2 [] none w10 (q2b 2 (q0n (gSet 0) (q0n (gSet 1) q2c))) (mRet true) w04))))
def f_y21:List D->Option D:=runP false 2 2 qky
theorem qvs:q1q 2 f_y21:=q1f
theorem qrr(T:Txt K mg a):FnOk P w K mg base CX0 2 a.f_y21 a.fd_y21 ["signs","bits"] (spP K false 2 f_y21):=by
 have G_y18:=@qru P w K mg base a T;have G_y15:=@qrw P w K mg base a T;have G_y13:=@qrx P w K mg base a T;refine T.F_y21.ok qq0 (λ_ _ _ _ h=>h.1) (λcdv A outer s H vs Q E hr h=>?_)
 ·refine⟨_,(q0b (q0y (q11 (qdd (K:=K) rfl rfl) (by rfl) T.z_sum (by rfl) (q01 (q2p (sc:=q04 qe1) (N0:=["signs","bits"]) rfl rfl rfl (show q23 _ _ ["sign","bit"] 2 [] _=true by decide+kernel) (q74 (K:=K) rfl (by rfl) T.z_zip (q01 (pv 0) (q01 (pv 1) q05))) (λ_ _ _ _ _=>(q4b (K:=K) rfl rfl (q1v (q0s (i:=0) (show List.Nodup (["sign","bit"]:List Str)from(by decide+kernel)) rfl (Or.inl rfl)) (q1v (q0s (i:=1) (show List.Nodup (["sign","bit"]:List Str)from(by decide+kernel)) rfl (Or.inl rfl)) q4a)))) (qci (by decide) (by decide)) (λ_ _ _ _ _=>q2h) (λ_ _ _ _ _=>(PE.or (qaz (pv 0) T.cl_Clear T.m_y13 G_y13 hr.m T.B_y13 .nil q14 (q01 (pv 1) q05)) (PE.or (qaz (pv 0) T.cl_Gap T.m_y15 G_y15 hr.m T.B_y15 .nil q14 (q01 (pv 1) q05)) (qaz (pv 0) T.cl_Soft T.m_y18 G_y18 hr.m T.B_y18 .nil q14 (q01 (pv 1) q05)))))) q05)))),?_⟩;exact q0l (O':=[]) (Nms:=["signs","bits"]) (f:=qky) (by unfold qky;exact(q16 rfl (q19 qm5 (q1o (q27 (bw:=none) (q9y (q02 (q03 (i:=0)) (q02 (q03 (i:=1)) q08))) (q5h (q1w (q0t (i:=0)) (q1w (q0t (i:=1)) q4d))) q39 (qlv (qbd T.ns_Clear qvx (q03 (i:=0)) (q02 (q03 (i:=1)) q08)) (qlv (qbd T.ns_Gap qvw (q03 (i:=0)) (q02 (q03 (i:=1)) q08)) (qbd T.ns_Soft qvv (q03 (i:=0)) (q02 (q03 (i:=1)) q08)))))).mb) rfl)) h
def qeu:Fd:=
 (qd5 3 (q2b 2 (q0n (gSet 4) (q0n (gSet 5) q2c))) (mZip (q00 w1x (q00 (mVar 2) mNil)))
   (q4w 3 (mVar 4) (q00 (q0k f_y19 (q00 (mVar 5) mNil)) mNil)))
def qei:RhL:=w2x
def qa7:List D->Option (List (List D)):=qas 3 6 3 qei qeu
def f_y22:List D->Option D:=λds=>qep (qa7 ds)
theorem qvr:q1q 3 f_y22:=qmf
theorem qn1(T:Txt K mg a):FnOk P w K mg base CX0 5 a.f_y22 a.fd_y22 w0f (spD K 3 qa7):=by
 have G_y9:=@qqx P w K mg base a T;have G_y10:=@qlr P w K mg base a T;have G_y19:=@qrt P w K mg base a T;refine T.F_y22.ok sc_y22 (λvs H Q E h=>h.1) (λcdv A outer s H vs Q E hr h=>?_);refine⟨_,(q06 (q5x (k:=3) (sc:=q04 qe0) (N0:=w21) rfl rfl rfl (show q23 _ _ ["number"] 1 [] _=true by decide+kernel) sc_y22.nd rfl (Or.inl rfl) (q20 (by rfl) T.z_range (q01 (q0d G_y9 hr.m (by rfl) T.mg_y9 T.F_y9.kp T.B_y9 .nil q14 (q01 (pv 0) (q01 (pv 1) q05))) q05)) (λ_ _ _ _ _=>(q0s (i:=0) (show List.Nodup (["number"]:List Str)from(by decide+kernel)) rfl (Or.inl rfl))) (q1s (by decide)) (λ_ _ _ _ _=>q2h) (λ_ _ _ _ _=>(q2r q05))) (q06 (q31 jv rfl (q74 (K:=K) rfl (by rfl) T.z_zip (q01 (q0d G_y10 hr.m (by rfl) T.mg_y10 T.F_y10.kp T.B_y10 .nil q14 (q01 (pv 0) (q01 (pv 1) q05))) (q01 (pv 2) q05))) (q4b (K:=K) rfl rfl (q1v (zgA 4 sc_y22.nd) (q1v (zgA 5 sc_y22.nd) q4a))) (q0b (q3u (q9q PySem.F.plainAttrs_list PySem.F.slot_list_append PySem.F.type_list_append q3i (q1g (q0j (K:=K) rfl) (pv 3) (pv 4)) (q01 (q0d G_y19 hr.m (by rfl) T.mg_y19 T.F_y19.kp T.B_y19 .nil q14 (q01 (pv 5) q05)) q05))))) (q0b (q0y (pv 3))))),?_⟩;exact qf6 (Nms:=w21) (i:=3) (m:=1) (js:=[]) (fi:=qei) (f:=qeu) (by
  unfold qei;exact(q21 (q02 (q0i n_y9 (q02 (q03 (i:=0)) (q02 (q03 (i:=1)) q08))) q08))) (by
  unfold qeu;exact(qja (q9y (q02 (q1o (q2x qsa (q02 (q03 (i:=0)) (q02 (q03 (i:=1)) q08)))) (q02 (q03 (i:=2)) q08))) (q5h (q1w (q0t (i:=4)) (q1w (q0t (i:=5)) q4d))) (by decide) (qea (q03 (i:=4)) (q02 (q0i qvu (q02 (q03 (i:=5)) q08)) q08)))) h
theorem qrq(T:Txt K mg a):FnOk P w K mg base CX0 5 a.f_y22 a.fd_y22 w0f (spP K false 3 f_y22):=(qn1 T).imp λ_ _ _ _ h=>qui h
def qkx:RhO:=
 (sSeq (sSet 5 (q0k f_y3 (q00 (mVar 0) (q00 (mVar 3) (q00 (mVar 4) mNil)))))
 (sRet (mTup (q00 (mOp2 dIx (mVar 5) (mRet (.int 0))) (q00 (q0k f_y21 (q00 (mVar 2) (q00 (q0k f_y4 (q00 (mVar 0) (q00 (mVar 1) (q00 (mOp2 dIx (mVar 5) (mRet (.int 1))) mNil)))) mNil))) mNil)))))
def f_y23:List D->Option D:=runP false 5 6 qkx
theorem qvq:q1q 5 f_y23:=q1f
theorem qrp(T:Txt K mg a):FnOk P w K mg base CX0 4 a.f_y23 a.fd_y23 w2k (spP K false 5 f_y23):=by
 have G_y3:=@qrk P w K mg base a T;have G_y4:=@qr9 P w K mg base a T;have G_y21:=@qrr P w K mg base a T;refine T.F_y23.ok sc_y23 (λ_ _ _ _ h=>h.1) (λcdv A outer s H vs Q E hr h=>?_)
 ·refine⟨_,(q06 (zsA 5 sc_y23.nd (q0d G_y3 hr.m (by rfl) T.mg_y3 T.F_y3.kp T.B_y3 .nil q14 (q01 (pv 0) (q01 (pv 3) (q01 (pv 4) q05))))) (q0b (q0y (q37 (q01 (q1g (q0j (K:=K) rfl) (pv 5) q07) (q01 (q0d G_y21 hr.m (by rfl) T.mg_y21 T.F_y21.kp T.B_y21 .nil q14 (q01 (pv 2) (q01 (q0d G_y4 hr.m (by rfl) T.mg_y4 T.F_y4.kp T.B_y4 .nil q14 (q01 (pv 0) (q01 (pv 1) (q01 (q1g (q0j (K:=K) rfl) (pv 5) q07) q05)))) q05))) q05)))))),?_⟩;exact q0l (O':=[]) (Nms:=w3g) (f:=qkx) (by unfold qkx;exact(q0f (O1:=[]) (q18 (q0i n_y3 (q02 (q03 (i:=0)) (q02 (q03 (i:=3)) (q02 (q03 (i:=4)) q08))))) (q16 rfl (q3a (q02 (q0g q1k (q03 (i:=5)) me_int) (q02 (q0i qvs (q02 (q03 (i:=2)) (q02 (q0i n_y4 (q02 (q03 (i:=0)) (q02 (q03 (i:=1)) (q02 (q0g q1k (q03 (i:=5)) me_int) q08)))) q08))) q08))) rfl))) h
abbrev w0j:=(q00 (mVar 1) (q00 (mVar 2) (q00 (mVar 3) (q00 (mVar 4) (q00 (mVar 0) mNil)))))
def qkw:RhO:=
 (sRet (mOf (q22 1 [0,1,2,3] none (mSeq (mVar 4)) (gSet 0) (mRet true) (q0k f_y23 w0j))))
def f_y24:List D->Option D:=runP false 5 5 qkw
theorem qvp:q1q 5 f_y24:=q1f
abbrev w3t:List Str:=["bit","scheme","number","signs","room"]
theorem qro(T:Txt K mg a):FnOk P w K mg base CX0 5 a.f_y24 a.fd_y24 w0p (spP K false 5 f_y24):=by
 have G_y23:=@qrp P w K mg base a T;refine T.F_y24.ok qpz (λ_ _ _ _ h=>h.1) (λcdv A outer s H vs Q E hr h=>?_)
 ·refine⟨_,(q0b (q0y (q2p (sc:=q04 qdz) (N0:=w0p) rfl rfl rfl (show q23 _ _ w3t 1 [0,1,2,3] _=true by decide+kernel) (q2t (K:=K) rfl (pv 4)) (λ_ _ _ _ _=>(q0s (i:=0) (show List.Nodup (w3t:List Str)from(by decide+kernel)) rfl (Or.inl rfl))) (q1s (by decide)) (λ_ _ _ _ _=>q2h) (λ_ _ _ _ _=>(q0d G_y23 hr.m (by rfl) T.mg_y23 T.F_y23.kp T.B_y23 .nil q14 (q01 (pv 1) (q01 (pv 2) (q01 (pv 3) (q01 (pv 4) (q01 (pv 0) q05)))))))))),?_⟩;exact q0l (O':=[]) (Nms:=w0p) (f:=qkw) (by unfold qkw;exact(q16 rfl (q1o (q27 (bw:=none) (q3p (q03 (i:=4))) (q0t (i:=0)) q39 (q0i qvq (q02 (q03 (i:=1)) (q02 (q03 (i:=2)) (q02 (q03 (i:=3)) (q02 (q03 (i:=4)) (q02 (q03 (i:=0)) q08)))))))) rfl)) h
abbrev w07:=(q00 (mVar 0) (q00 (mVar 1) (q00 (mVar 2) mNil)))
abbrev w2g:=(q00 (mVar 1) (q00 (mVar 2) (q00 (mVar 3) (q00 (mVar 0) (q00 (mVar 4) mNil)))))
abbrev w1r:=(sSet 6 (mIf (q0q (mOp2 dLt (mVar 4) (mVar 1))) (mTup (q00 (mRet (.int 0)) (q00 (mRet (.int 1)) mNil))) (mTup (q00 (mRet (.int 0)) mNil))))
abbrev w3f:=(q30 (q00 (q0k f_y1 (q00 (mVar 0) mNil)) mNil))
abbrev w05:=(sSeq w1r (sMut q25 3 (q00 (mOf (q22 1 [0,4,5,6] none w3f (gSet 0) (mRet true) (q0k f_y24 w2g))) mNil)))
def qkv:RhO:=
 (sSeq (qar (q0k f_y20 w07))
 (sSeq (sOwn 3 (mLst mNil))
 (sSeq (sFor (q7u (q0k f_y22 w07)) (q2b 2 (q0n (gSet 4) (q0n (gSet 5) q2c)))
   w05)
 (sRet (mVar 3)))))
def f_y25:List D->Option D:=runP false 3 7 qkv
theorem qs9:q1q 3 f_y25:=q1f
abbrev w3o:List Str:=["room","scheme","number","signs","bits"]
theorem qlq(T:Txt K mg a):FnOk P w K mg base CX0 6 a.f_y25 a.fd_y25 w0f (spP K false 3 f_y25):=by
 have G_y20:=@qrs P w K mg base a T;have G_y22:=@qrq P w K mg base a T;have G_y1:=@qgh P w K mg base a T;have G_y24:=@qro P w K mg base a T;refine T.F_y25.ok sc_y25 (λ_ _ _ _ h=>h.1) (λcdv A outer s H vs Q E hr h=>?_)
 ·refine⟨_,(q06 (q3u (q0d G_y20 hr.m (by rfl) T.mg_y20 T.F_y20.kp T.B_y20 .nil q14 (q01 (pv 0) (q01 (pv 1) (q01 (pv 2) q05))))) (q06 (zsA 3 sc_y25.nd (q2r q05)) (q06 (q31 jv rfl (qay (K:=K) rfl (by rfl) T.z_enumerate (q0d G_y22 hr.m (by rfl) T.mg_y22 T.F_y22.kp T.B_y22 .nil q14 (q01 (pv 0) (q01 (pv 1) (q01 (pv 2) q05))))) (q4b (K:=K) rfl rfl (q1v (zgA 4 sc_y25.nd) (q1v (zgA 5 sc_y25.nd) q4a))) (q06 (zsA 6 sc_y25.nd (q2u (q1b qj7 (pv 4) (pv 1) (q1m _)) (q37 (q01 q07 (q01 q07 q05))) (q37 (q01 q07 q05)))) (q0b (q3u (q9q PySem.F.plainAttrs_list PySem.F.slot_list_append PySem.F.type_list_append q3i (pv 3) (q01 (q2p (sc:=q04 qdy) (N0:=w1k) rfl rfl rfl (show q23 _ _ w3o 1 [0,4,5,6] _=true by decide+kernel) (q20 (by rfl) T.z_range (q01 (q0d G_y1 hr.m (by rfl) T.mg_y1 T.F_y1.kp T.B_y1 .nil q14 (q01 (pv 0) q05)) q05)) (λ_ _ _ _ _=>(q0s (i:=0) (show List.Nodup (w3o:List Str)from(by decide+kernel)) rfl (Or.inl rfl))) (q1s (by decide)) (λ_ _ _ _ _=>q2h) (λ_ _ _ _ _=>(q0d G_y24 hr.m (by rfl) T.mg_y24 T.F_y24.kp T.B_y24 .nil q14 (q01 (pv 1) (q01 (pv 2) (q01 (pv 3) (q01 (pv 0) (q01 (pv 4) q05)))))))) q05)))))) (q0b (q0y (pv 3)))))),?_⟩;exact q0l (O':=[]) (Nms:=w1k) (f:=qkv) (by unfold qkv;exact(q0f (O1:=[]) (qgr (q0i qvt (q02 (q03 (i:=0)) (q02 (q03 (i:=1)) (q02 (q03 (i:=2)) q08)))) rfl) (q0f (O1:=[3]) (q3o (q2w q08) rfl) (q0f (O1:=[]) (q60 (q36 (O':=[3]) (qbc (q0i qvr (q02 (q03 (i:=0)) (q02 (q03 (i:=1)) (q02 (q03 (i:=2)) q08))))) rfl (q5h (q1w (q0t (i:=4)) (q1w (q0t (i:=5)) q4d))) (q0f (O1:=[3]) (q18 (q7s (q1c (q1n q7q (q03 (i:=4)) q1x)) (q3a (q02 me_int (q02 me_int q08))) (q3a (q02 me_int q08)))) (q86 q3z (by decide) (q02 (q1o (q27 (bw:=none) (q21 (q02 (q0i n_y1 (q02 (q03 (i:=0)) q08)) q08)) (q0t (i:=0)) q39 (q0i qvp (q02 (q03 (i:=1)) (q02 (q03 (i:=2)) (q02 (q03 (i:=3)) (q02 (q03 (i:=0)) (q02 (q03 (i:=4)) q08)))))))) q08) rfl))) rfl) (q16 rfl (q03 (i:=3)) rfl))))) h
abbrev w0o:=(mIf (q0q (mOp2 dEq (mVar 0) (mVar 1))) (mRet (.int 0)) (mRet .non))
abbrev w0g:=w3f
abbrev w2q:=(q0q (mOp2 dEq (mOp2 dIx (mVar 0) (mRet (.int 3))) (mRet (.str "open"))))
abbrev w2o:=(sSet 2 (mIf (q0q (q0k f_y5 (q00 (mVar 0) mNil))) (mVar 1) (mRet (.int 0))))
def qku:RhO:=
 (sSeq (sIf w2q
   (sRet (mOf (mRep (mLst (q00 (mRet (.int 0)) mNil)) (q0k f_y1 (q00 (mVar 0) mNil)))))
   sNil)
 (sSeq w2o
 (sRet (mOf (q22 1 [2] none w0g (gSet 0) (mRet true) w0o)))))
def f_y26:List D->Option D:=runP false 2 3 qku
theorem qvo:q1q 2 f_y26:=q1f
theorem qrn(T:Txt K mg a):FnOk P w K mg base CX0 3 a.f_y26 a.fd_y26 ["scheme","start"] (spP K false 2 f_y26):=by
 have G_y1:=@qgh P w K mg base a T;have G_y5:=@qmx P w K mg base a T;refine T.F_y26.ok sc_y26 (λ_ _ _ _ h=>h.1) (λcdv A outer s H vs Q E hr h=>?_)
 ·refine⟨_,(q06 (q3y (q1b (q32 (K:=K) rfl hr.units) (q1g (q0j (K:=K) rfl) (pv 0) q07) q38 (q1m _)) (q0b (q0y (q13 qcl (q2r (q01 q07 q05)) (q0d G_y1 hr.m (by rfl) T.mg_y1 T.F_y1.kp T.B_y1 .nil q14 (q01 (pv 0) q05))))) q26) (q06 (zsA 2 sc_y26.nd (q2u (q9m (q0d G_y5 hr.m (by rfl) T.mg_y5 T.F_y5.kp T.B_y5 .nil q14 (q01 (pv 0) q05))) (pv 1) q07)) (q0b (q0y (q2p (sc:=q04 qdx) (N0:=["scheme","start","end"]) rfl rfl rfl (show q23 _ _ ["room","end"] 1 [2] _=true by decide+kernel) (q20 (by rfl) T.z_range (q01 (q0d G_y1 hr.m (by rfl) T.mg_y1 T.F_y1.kp T.B_y1 .nil q14 (q01 (pv 0) q05)) q05)) (λ_ _ _ _ _=>(q0s (i:=0) (show List.Nodup (["room","end"]:List Str)from(by decide+kernel)) rfl (Or.inl rfl))) (q1s (by decide)) (λ_ _ _ _ _=>q2h) (λ_ _ _ _ _=>(q2u (q1b (q32 (K:=K) rfl hr.units) (pv 0) (pv 1) (q1m _)) q07 q52))))))),?_⟩;exact q0l (O':=[]) (Nms:=["scheme","start","end"]) (f:=qku) (by unfold qku;exact(q0f (O1:=[]) (q40 (q1c (q1n os_eq (q0g q1k (q03 (i:=0)) me_int) me_str.mb)) (q16 rfl (q1o (qcw (q2w (q02 me_int q08)) (q0i n_y1 (q02 (q03 (i:=0)) q08)))) rfl) (q2s rfl)) (q0f (O1:=[]) (q18 (q7s (q9w (q0i n_y5 (q02 (q03 (i:=0)) q08))) (q03 (i:=1)) me_int)) (q16 rfl (q1o (q27 (bw:=none) (q21 (q02 (q0i n_y1 (q02 (q03 (i:=0)) q08)) q08)) (q0t (i:=0)) q39 (q7s (q1c (q1n os_eq (q03 (i:=0)) q1x)) me_int me_non))) rfl)))) h
def qi8:RhO:=
 (sSeq (sSet 2 (mOp2 dIx (mVar 1) (mOp2 dIx (mVar 0) (mRet (.int 0)))))
 (sRet (mIf (q0q (mOp2 dIsN (mVar 2) (mRet .non))) (mRet .non) (mOp2 dAdd (mOp2 dIx (mVar 0) (mRet (.int 1))) (mVar 2)))))
def f_y27:List D->Option D:=runP false 2 3 qi8
theorem qs8:q1q 2 f_y27:=q1f
theorem qlp(T:Txt K mg a):FnOk P w K mg base CX0 1 a.f_y27 a.fd_y27 ["taken","behind"] (spP K false 2 f_y27):=by
 refine T.F_y27.ok sc_y27 (λ_ _ _ _ h=>h.1) (λcdv A outer s H vs Q E hr h=>?_)
 ·refine⟨_,(q06 (zsA 2 sc_y27.nd (q1g (q0j (K:=K) rfl) (pv 1) (q1g (q0j (K:=K) rfl) (pv 0) q07))) (q0b (q0y (q2u (q1b qll (pv 2) q52 (q1m _)) q52 (q13 (q1u (K:=K) rfl) (q1g (q0j (K:=K) rfl) (pv 0) q07) (pv 2)))))),?_⟩;exact q0l (O':=[]) (Nms:=["taken","behind","rest"]) (f:=qi8) (by unfold qi8;exact(q0f (O1:=[]) (q18 (q0g q1k (q03 (i:=1)) (q0g q1k (q03 (i:=0)) me_int))) (q16 rfl (q7s (q1c (q1n qlk (q03 (i:=2)) me_non.mb)) me_non (q0g q2m (q0g q1k (q03 (i:=0)) me_int) (q03 (i:=2)))) rfl))) h
def qkt:RhO:=
 (sSeq (sSet 2 (mOf (q22 1 [1] none (mSeq (mVar 0)) (gSet 0) (mRet true) (q0k f_y27 (q00 (mVar 0) (q00 (mVar 1) mNil))))))
 (sRet (mOp1 qeo (mOf (q22 1 [] none (mSeq (mVar 2)) (gSet 0) (q0q (mOp2 q5a (mVar 0) (mRet .non))) (mVar 0))))))
def f_y28:List D->Option D:=runP false 2 3 qkt
theorem qvn:q1q 2 f_y28:=q1f
theorem qrm(T:Txt K mg a):FnOk P w K mg base CX0 2 a.f_y28 a.fd_y28 ["choices","behind"] (spP K false 2 f_y28):=by
 have G_y27:=@qlp P w K mg base a T;refine T.F_y28.ok sc_y28 (λ_ _ _ _ h=>h.1) (λcdv A outer s H vs Q E hr h=>?_)
 ·refine⟨_,(q06 (q5x (k:=2) (sc:=q04 qan) (N0:=w2h) rfl rfl rfl (show q23 _ _ ["taken","behind"] 1 [1] _=true by decide+kernel) sc_y28.nd rfl (Or.inl rfl) (q2t (K:=K) rfl (pv 0)) (λ_ _ _ _ _=>(q0s (i:=0) (show List.Nodup (["taken","behind"]:List Str)from(by decide+kernel)) rfl (Or.inl rfl))) (q1s (by decide)) (λ_ _ _ _ _=>q2h) (λ_ _ _ _ _=>(q0d G_y27 hr.m (by rfl) T.mg_y27 T.F_y27.kp T.B_y27 .nil q14 (q01 (pv 0) (q01 (pv 1) q05))))) (q0b (q0y (qmm (K:=K) rfl rfl (by rfl) T.z_min (q2p (sc:=q04 qan) (N0:=w2h) rfl rfl rfl (show q23 _ _ ["one"] 1 [] _=true by decide+kernel) (q2t (K:=K) rfl (pv 2)) (λ_ _ _ _ _=>(q0s (i:=0) (show List.Nodup (["one"]:List Str)from(by decide+kernel)) rfl (Or.inl rfl))) (q1s (by decide)) (λ_ _ _ _ _=>(q8s (q1b qb7 (pv 0) q52 (q1m _)))) (λ_ _ _ _ _=>(pv 0))) q52)))),?_⟩;exact q0l (O':=[]) (Nms:=w2h) (f:=qkt) (by unfold qkt;exact(q0f (O1:=[]) (q76 (q27 (bw:=none) (q3p (q03 (i:=0))) (q0t (i:=0)) q39 (q0i qs8 (q02 (q03 (i:=0)) (q02 (q03 (i:=1)) q08)))) rfl (by decide)) (q16 rfl (qne (q1o (q27 (bw:=none) (q3p (q03 (i:=2))) (q0t (i:=0)) (q1c (q1n qb6 (q03 (i:=0)) me_non.mb)) (q03 (i:=0)))).mb) rfl))) h
abbrev w3j:=(sSet 4 (mIxO 2 (mOp1 dNeg (mRet (.int 1)))))
abbrev w0s:=(sSeq w3j (sMut q25 2 (q00 (mOf (q22 1 [4] none (mSeq (mVar 3)) (gSet 0) (mRet true) (q0k f_y28 (q00 (mVar 0) (q00 (mVar 1) mNil))))) mNil)))
def qks:RhO:=
 (sSeq (sOwn 2 (mLst (q00 (mVar 1) mNil)))
 (sSeq (sFor (mRev (mVar 0)) (gSet 3)
   w0s)
 (sRet (mOf (mRev (mVar 2))))))
def f_y29:List D->Option D:=runP false 2 5 qks
theorem qvm:q1q 2 f_y29:=q1f
theorem qrl(T:Txt K mg a):FnOk P w K mg base CX0 3 a.f_y29 a.fd_y29 ["steps","ends"] (spP K false 2 f_y29):=by
 have G_y28:=@qrm P w K mg base a T;refine T.F_y29.ok sc_y29 (λ_ _ _ _ h=>h.1) (λcdv A outer s H vs Q E hr h=>?_)
 ·refine⟨_,(q06 (zsA 2 sc_y29.nd (q2r (q01 (pv 1) q05))) (q06 (q31 jv rfl (qql (K:=K) rfl (by rfl) T.z_reversed (pv 0)) (zgA 3 sc_y29.nd) (q06 (zsA 4 sc_y29.nd (q1g (q0j (K:=K) rfl) (pv 2) (quu qp6 q07))) (q0b (q3u (q9q PySem.F.plainAttrs_list PySem.F.slot_list_append PySem.F.type_list_append q3i (pv 2) (q01 (q2p (sc:=q04 qdw) (N0:=w1y) rfl rfl rfl (show q23 _ _ ["choices","behind"] 1 [4] _=true by decide+kernel) (q2t (K:=K) rfl (pv 3)) (λ_ _ _ _ _=>(q0s (i:=0) (show List.Nodup (["choices","behind"]:List Str)from(by decide+kernel)) rfl (Or.inl rfl))) (q1s (by decide)) (λ_ _ _ _ _=>q2h) (λ_ _ _ _ _=>(q0d G_y28 hr.m (by rfl) T.mg_y28 T.F_y28.kp T.B_y28 .nil q14 (q01 (pv 0) (q01 (pv 1) q05))))) q05)))))) (q0b (q0y (qmo (K:=K) rfl rfl (by rfl) T.z_list (by rfl) T.z_reversed (pv 2)))))),?_⟩;exact q0l (O':=[]) (Nms:=w1y) (f:=qks) (by unfold qks;exact(q0f (O1:=[2]) (q3o (q2w (q02 (q03 (i:=1)) q08)) rfl) (q0f (O1:=[]) (q60 (q36 (O':=[2]) (qsj (q03 (i:=0))) rfl (q0t (i:=3)) (q0f (O1:=[2]) (q18 (qcx (i:=2) (by decide) (qsn me_int))) (q86 q3z (by decide) (q02 (q1o (q27 (bw:=none) (q3p (q03 (i:=3))) (q0t (i:=0)) q39 (q0i qvn (q02 (q03 (i:=0)) (q02 (q03 (i:=1)) q08))))) q08) rfl))) rfl) (q16 rfl (q1o (qnc (q03 (i:=2)))) rfl)))) h
abbrev w0n:=(qap 2 (q0k f_y29 (q00 (mVar 1) (q00 (q0k f_y26 (q00 (mVar 0) (q00 (mVar 3) mNil))) mNil))) (mVar 3))
abbrev w3n:=(mSeq (mOf (q1y f_y8 (q00 (mVar 0) mNil))))
def qkr:RhO:=
 (sSeq (qaq 2)
 (sSeq (sFor w3n (gSet 3)
   w0n)
 (sRet (mVar 2))))
def f_y30:List D->Option D:=runP false 2 4 qkr
theorem qvl:q1q 2 f_y30:=q1f
theorem qrj(T:Txt K mg a):FnOk P w K mg base CX0 4 a.f_y30 a.fd_y30 ["scheme","steps"] (spP K false 2 f_y30):=by
 have G_y8:=@qv1 P w K mg base a T;have G_y26:=@qrn P w K mg base a T;have G_y29:=@qrl P w K mg base a T;refine T.F_y30.ok sc_y30 (λ_ _ _ _ h=>h.1) (λcdv A outer s H vs Q E hr h=>?_)
 ·refine⟨_,(q06 (zsA 2 sc_y30.nd qml) (q06 (q31 jv rfl (q2t (K:=K) rfl (q0d G_y8 hr.m (by rfl) T.mg_y8 T.F_y8.kp T.B_y8 .nil q14 (q01 (pv 0) q05))) (zgA 3 sc_y30.nd) (q0b (q9n (q0d G_y29 hr.m (by rfl) T.mg_y29 T.F_y29.kp T.B_y29 .nil q14 (q01 (pv 1) (q01 (q0d G_y26 hr.m (by rfl) T.mg_y26 T.F_y26.kp T.B_y26 .nil q14 (q01 (pv 0) (q01 (pv 3) q05))) q05))) (qcb (pv 2) (pv 3) qul)))) (q0b (q0y (pv 2))))),?_⟩;exact q0l (O':=[]) (Nms:=w3w) (f:=qkr) (by unfold qkr;exact(q0f (O1:=[2]) (qna rfl) (q0f (O1:=[]) (q60 (q36 (O':=[2]) (q3p (q1o (q2x n_y8 (q02 (q03 (i:=0)) q08)))) rfl (q0t (i:=3)) (qn9 (by decide) (q0i qvm (q02 (q03 (i:=1)) (q02 (q0i qvo (q02 (q03 (i:=0)) (q02 (q03 (i:=3)) q08))) q08))) (q03 (i:=3)) rfl)) rfl) (q16 rfl (q03 (i:=2)) rfl)))) h
def qkq:RhO:=
 (sRet (mTup (q00 (mOp2 dIx (mVar 0) (mRet (.int 0))) (q00 (mOp2 dIx (mVar 0) (mRet (.int 1))) (q00 (mOp2 dIx (mVar 0) (mRet (.int 2))) (q00 (mRet (.str "open")) mNil))))))
def f_y31:List D->Option D:=runP false 1 1 qkq
theorem qvk:q1q 1 f_y31:=q1f
theorem qri(T:Txt K mg a):FnOk P w K mg base CX0 1 a.f_y31 a.fd_y31 ["scheme"] (spP K false 1 f_y31):=by
 refine T.F_y31.ok qpy (λ_ _ _ _ h=>h.1) (λcdv A outer s H vs Q E hr h=>?_)
 ·refine⟨_,(q0b (q0y (q37 (q01 (q1g (q0j (K:=K) rfl) (pv 0) q07) (q01 (q1g (q0j (K:=K) rfl) (pv 0) q07) (q01 (q1g (q0j (K:=K) rfl) (pv 0) q07) (q01 q38 q05))))))),?_⟩;exact q0l (O':=[]) (Nms:=["scheme"]) (f:=qkq) (by unfold qkq;exact(q16 rfl (q3a (q02 (q0g q1k (q03 (i:=0)) me_int) (q02 (q0g q1k (q03 (i:=0)) me_int) (q02 (q0g q1k (q03 (i:=0)) me_int) (q02 me_str q08))))) rfl)) h
abbrev w3s:=(q0q (mOp2 dEq (mVar 0) (mRet (.int 0))))
abbrev w0l:=(mIf w3s (mTup (q00 (mRet (.int 0)) (q00 (mOf (mLst mNil)) mNil))) (mRet .non))
def qkp:RhO:=
 (sRet (mOf (q22 1 [] none w0g (gSet 0) (mRet true) w0l)))
def f_y32:List D->Option D:=runP false 1 1 qkp
theorem qvj:q1q 1 f_y32:=q1f
theorem qrh(T:Txt K mg a):FnOk P w K mg base CX0 3 a.f_y32 a.fd_y32 ["scheme"] (spP K false 1 f_y32):=by
 have G_y1:=@qgh P w K mg base a T;refine T.F_y32.ok qpx (λ_ _ _ _ h=>h.1) (λcdv A outer s H vs Q E hr h=>?_)
 ·refine⟨_,(q0b (q0y (q2p (sc:=q04 qdv) (N0:=["scheme"]) rfl rfl rfl (show q23 _ _ ["room"] 1 [] _=true by decide+kernel) (q20 (by rfl) T.z_range (q01 (q0d G_y1 hr.m (by rfl) T.mg_y1 T.F_y1.kp T.B_y1 .nil q14 (q01 (pv 0) q05)) q05)) (λ_ _ _ _ _=>(q0s (i:=0) (show List.Nodup (["room"]:List Str)from(by decide+kernel)) rfl (Or.inl rfl))) (q1s (by decide)) (λ_ _ _ _ _=>q2h) (λ_ _ _ _ _=>(q2u (q1b (q32 (K:=K) rfl hr.units) (pv 0) q07 (q1m _)) (q37 (q01 q07 (q01 (q2r q05) q05))) q52))))),?_⟩;exact q0l (O':=[]) (Nms:=["scheme"]) (f:=qkp) (by unfold qkp;exact(q16 rfl (q1o (q27 (bw:=none) (q21 (q02 (q0i n_y1 (q02 (q03 (i:=0)) q08)) q08)) (q0t (i:=0)) q39 (q7s (q1c (q1n os_eq (q03 (i:=0)) me_int.mb)) (q3a (q02 me_int (q02 (q1o (q2w q08)) q08))) me_non))) rfl)) h
def qko:RhO:=
 (sRet (mIf (q0q (mOp2 dIsN (mVar 0) (mRet .non))) (mVar 1) (qjh (q00 (mVar 0) (q00 (mVar 1) mNil)))))
def f_y33:List D->Option D:=runP false 2 2 qko
theorem qvi:q1q 2 f_y33:=q1f
theorem qrg(T:Txt K mg a):FnOk P w K mg base CX0 1 a.f_y33 a.fd_y33 ["found","other"] (spP K false 2 f_y33):=by
 refine T.F_y33.ok qpw (λ_ _ _ _ h=>h.1) (λcdv A outer s H vs Q E hr h=>?_)
 ·refine⟨_,(q0b (q0y (q2u (q1b qll (pv 0) q52 (q1m _)) (pv 1) (q11 (qbr (K:=K) rfl rfl hr.units) (by rfl) T.z_min (by rfl) (q01 (pv 0) (q01 (pv 1) q05)))))),?_⟩;exact q0l (O':=[]) (Nms:=["found","other"]) (f:=qko) (by unfold qko;exact(q16 rfl (q7s (q1c (q1n qlk (q03 (i:=0)) me_non.mb)) (q03 (i:=1)) (qnf (q02 (q03 (i:=0)) (q02 (q03 (i:=1)) q08)))) rfl)) h
abbrev w0x:=(sSet 7 (mOp2 dIx (mVar 6) (mRet (.int 0))))
def qkn:RhO:=
 (sSeq (sOwn 2 (mRep (mLst (q00 (mRet .non) mNil)) (mOp1 dLen (mVar 0))))
 (sSeq (sFor w10 (q2b 2 (q0n (gSet 3) (q0n (gSet 4) q2c)))
   (sIf (q0q (mOp2 q5a (mVar 3) (mRet .non)))
   (sFor (q7u (mVar 4)) (q2b 2 (q0n (gSet 5) (q0n (gSet 6) q2c)))
   (sSeq w0x (q4x 2 (q0k f_y33 (q00 (mIxO 2 (mVar 7)) (q00 (mTup (q00 (mOp2 dAdd (mOp2 dIx (mVar 3) (mRet (.int 0))) (mOp2 dIx (mVar 6) (mRet (.int 1)))) (q00 (mOp2 dAdd (mOp2 dIx (mVar 3) (mRet (.int 1))) (mOf (mLst (q00 (mVar 5) mNil)))) mNil))) mNil))) (mVar 7))))
   sNil))
 (q5w 2)))
def f_y34:List D->Option D:=runP true 2 8 qkn
theorem qvh:q1q 2 f_y34:=q1f
theorem qrf(T:Txt K mg a):FnOk P w K mg base CX0 2 a.f_y34 a.fd_y34 w39 (spP K true 2 f_y34):=by
 have G_y33:=@qrg P w K mg base a T;refine T.F_y34.ok sc_y34 (λ_ _ _ _ h=>h.1) (λcdv A outer s H vs Q E hr h=>?_)
 ·refine⟨_,(q06 (zsA 2 sc_y34.nd (q13 qcl (q2r (q01 q52 q05)) (q11 (q1e (K:=K) rfl) (by rfl) T.z_len (by rfl) (q01 (pv 0) q05)))) (q06 (q31 jv rfl (q74 (K:=K) rfl (by rfl) T.z_zip (q01 (pv 0) (q01 (pv 1) q05))) (q4b (K:=K) rfl rfl (q1v (zgA 3 sc_y34.nd) (q1v (zgA 4 sc_y34.nd) q4a))) (q0b (q3y (q1b qb7 (pv 3) q52 (q1m _)) (q0b (q31 jv rfl (qay (K:=K) rfl (by rfl) T.z_enumerate (pv 4)) (q4b (K:=K) rfl rfl (q1v (zgA 5 sc_y34.nd) (q1v (zgA 6 sc_y34.nd) q4a))) (q06 (zsA 7 sc_y34.nd (q1g (q0j (K:=K) rfl) (pv 6) q07)) (q0b (q9n (q0d G_y33 hr.m (by rfl) T.mg_y33 T.F_y33.kp T.B_y33 .nil q14 (q01 (q1g (q0j (K:=K) rfl) (pv 2) (pv 7)) (q01 (q37 (q01 (q13 (q1u (K:=K) rfl) (q1g (q0j (K:=K) rfl) (pv 3) q07) (q1g (q0j (K:=K) rfl) (pv 6) q07)) (q01 (q13 (q1u (K:=K) rfl) (q1g (q0j (K:=K) rfl) (pv 3) q07) (q2r (q01 (pv 5) q05))) q05))) q05))) (qcb (pv 2) (pv 7) set_list)))))) q26))) (q0b (q0y (pv 2))))),?_⟩;exact q0l (O':=[]) (Nms:=w2p) (f:=qkn) (by unfold qkn;exact(q0f (O1:=[2]) (q3o (qcw (q2w (q02 me_non q08)) (q19 q2i q1x)) rfl) (q0f (O1:=[2]) (q36 (O':=[2]) (q9y (q02 (q03 (i:=0)) (q02 (q03 (i:=1)) q08))) rfl (q5h (q1w (q0t (i:=3)) (q1w (q0t (i:=4)) q4d))) (q40 (q1c (q1n qb6 (q03 (i:=3)) me_non.mb)) (q36 (O':=[2]) (qbc (q03 (i:=4))) rfl (q5h (q1w (q0t (i:=5)) (q1w (q0t (i:=6)) q4d))) (q0f (O1:=[2]) (q18 (q0g q1k (q03 (i:=6)) me_int)) (qba (by decide) (q0i qvi (q02 (qcx (i:=2) (by decide) (q03 (i:=7))) (q02 (q3a (q02 (q0g q2m (q0g q1k (q03 (i:=3)) me_int) (q0g q1k (q03 (i:=6)) me_int)) (q02 (q0g q2m (q0g q1k (q03 (i:=3)) me_int) (q1o (q2w (q02 (q03 (i:=5)) q08)))) q08))) q08))) (q03 (i:=7)) rfl))) (q2s rfl))) (q77 rfl (by first|decide|simp) rfl (by first|decide|simp))))) h
abbrev w1g:=(sSet 3 (mOf (q1y f_y34 (q00 (mVar 3) (q00 (mVar 4) mNil)))))
abbrev w24:=(mSeq (q0k f_y25 (q00 (q0k f_y31 (q00 (mVar 0) mNil)) (q00 (mVar 1) (q00 (mVar 2) mNil)))))
abbrev w3u:=(sSet 3 (q0k f_y32 (q00 (mVar 0) mNil)))
def qov:RhO:=
 (sSeq w3u
 (sSeq (sFor w24 (gSet 4)
   w1g)
 (sRet (mVar 3))))
def f_y35:List D->Option D:=runP false 3 5 qov
theorem qvg:q1q 3 f_y35:=q1f
theorem qre(T:Txt K mg a):FnOk P w K mg base CX0 7 a.f_y35 a.fd_y35 w1h (spP K false 3 f_y35):=by
 have G_y32:=@qrh P w K mg base a T;have G_y31:=@qri P w K mg base a T;have G_y25:=@qlq P w K mg base a T;have G_y34:=@qrf P w K mg base a T;refine T.F_y35.ok sc_y35 (λ_ _ _ _ h=>h.1) (λcdv A outer s H vs Q E hr h=>?_)
 ·refine⟨_,(q06 (zsA 3 sc_y35.nd (q0d G_y32 hr.m (by rfl) T.mg_y32 T.F_y32.kp T.B_y32 .nil q14 (q01 (pv 0) q05))) (q06 (q31 jv rfl (q2t (K:=K) rfl (q0d G_y25 hr.m (by rfl) T.mg_y25 T.F_y25.kp T.B_y25 .nil q14 (q01 (q0d G_y31 hr.m (by rfl) T.mg_y31 T.F_y31.kp T.B_y31 .nil q14 (q01 (pv 0) q05)) (q01 (pv 1) (q01 (pv 2) q05))))) (zgA 4 sc_y35.nd) (q0b (zsA 3 sc_y35.nd (q0d G_y34 hr.m (by rfl) T.mg_y34 T.F_y34.kp T.B_y34 .nil q14 (q01 (pv 3) (q01 (pv 4) q05)))))) (q0b (q0y (pv 3))))),?_⟩;exact q0l (O':=[]) (Nms:=w36) (f:=qov) (by unfold qov;exact(q0f (O1:=[]) (q18 (q0i qvj (q02 (q03 (i:=0)) q08))) (q0f (O1:=[]) (q36 (O':=[]) (q3p (q0i qs9 (q02 (q0i qvk (q02 (q03 (i:=0)) q08)) (q02 (q03 (i:=1)) (q02 (q03 (i:=2)) q08))))) rfl (q0t (i:=4)) (q18 (q1o (q2x qvh (q02 (q03 (i:=3)) (q02 (q03 (i:=4)) q08)))))) (q16 rfl (q03 (i:=3)) rfl)))) h
abbrev w3b:=(sIf (q0q (mOp2 dNe (mVar 3) (mVar 4))) sBk sNil)
abbrev w0w:=(sSeq w3b (sMut q25 2 (q00 (mVar 3) mNil)))
def qkm:RhO:=
 (sSeq (sOwn 2 (mLst mNil))
 (sSeq (sFor w10 (q2b 2 (q0n (gSet 3) (q0n (gSet 4) q2c)))
   w0w)
 (q5w 2)))
def f_y36:List D->Option D:=runP true 2 5 qkm
theorem qvf:q1q 2 f_y36:=q1f
theorem qrd(T:Txt K mg a):FnOk P w K mg base CX0 1 a.f_y36 a.fd_y36 ["word","other"] (spP K true 2 f_y36):=by
 refine T.F_y36.ok sc_y36 (λ_ _ _ _ h=>h.1) (λcdv A outer s H vs Q E hr h=>?_)
 ·refine⟨_,(q06 (zsA 2 sc_y36.nd (q2r q05)) (q06 (q31 jv rfl (q74 (K:=K) rfl (by rfl) T.z_zip (q01 (pv 0) (q01 (pv 1) q05))) (q4b (K:=K) rfl rfl (q1v (zgA 3 sc_y36.nd) (q1v (zgA 4 sc_y36.nd) q4a))) (q06 (q3y (q1b (q85 (K:=K) rfl hr.units) (pv 3) (pv 4) (q1m _)) (q0b qiu) q26) (q0b (q3u (q9q PySem.F.plainAttrs_list PySem.F.slot_list_append PySem.F.type_list_append q3i (pv 2) (q01 (pv 3) q05)))))) (q0b (q0y (pv 2))))),?_⟩;exact q0l (O':=[]) (Nms:=w3v) (f:=qkm) (by unfold qkm;exact(q0f (O1:=[2]) (q3o (q2w q08) rfl) (q0f (O1:=[2]) (q36 (O':=[2]) (q9y (q02 (q03 (i:=0)) (q02 (q03 (i:=1)) q08))) rfl (q5h (q1w (q0t (i:=3)) (q1w (q0t (i:=4)) q4d))) (q0f (O1:=[2]) (q40 (q1c (q1n qe7 (q03 (i:=3)) q1x)) (qjb rfl) (q2s rfl)) (q86 q3z (by decide) (q02 (q03 (i:=3)) q08) rfl))) (q77 rfl (by first|decide|simp) rfl (by first|decide|simp))))) h
abbrev w1f:=(sSet 4 (mOf (q1y f_y36 (q00 (mVar 4) (q00 (mVar 5) mNil)))))
abbrev w3k:=(sSet 4 (mOp2 dIx (mVar 3) (mRet (.int 0))))
def qou:RhO:=
 (sSeq (sSet 3 (mOf (q22 1 [] none (mSeq (q0k f_y35 w07)) (gSet 0) (q0q (mOp2 q5a (mVar 0) (mRet .non))) (mOp2 dIx (mVar 0) (mRet (.int 1))))))
 (sSeq w3k
 (sSeq (sFor (mSeq (mVar 3)) (gSet 5)
   w1f)
 (sRet (mVar 4)))))
def f_y37:List D->Option D:=runP false 3 6 qou
theorem qs7:q1q 3 f_y37:=q1f
theorem qrc(T:Txt K mg a):FnOk P w K mg base CX0 8 a.f_y37 a.fd_y37 w1h (spP K false 3 f_y37):=by
 have G_y35:=@qre P w K mg base a T;have G_y36:=@qrd P w K mg base a T;refine T.F_y37.ok sc_y37 (λ_ _ _ _ h=>h.1) (λcdv A outer s H vs Q E hr h=>?_)
 ·refine⟨_,(q06 (q5x (k:=3) (sc:=q04 qdu) (N0:=w20) rfl rfl rfl (show q23 _ _ ["found"] 1 [] _=true by decide+kernel) sc_y37.nd rfl (Or.inl rfl) (q2t (K:=K) rfl (q0d G_y35 hr.m (by rfl) T.mg_y35 T.F_y35.kp T.B_y35 .nil q14 (q01 (pv 0) (q01 (pv 1) (q01 (pv 2) q05))))) (λ_ _ _ _ _=>(q0s (i:=0) (show List.Nodup (["found"]:List Str)from(by decide+kernel)) rfl (Or.inl rfl))) (q1s (by decide)) (λ_ _ _ _ _=>(q8s (q1b qb7 (pv 0) q52 (q1m _)))) (λ_ _ _ _ _=>(q1g (q0j (K:=K) rfl) (pv 0) q07))) (q06 (zsA 4 sc_y37.nd (q1g (q0j (K:=K) rfl) (pv 3) q07)) (q06 (q31 jv rfl (q2t (K:=K) rfl (pv 3)) (zgA 5 sc_y37.nd) (q0b (zsA 4 sc_y37.nd (q0d G_y36 hr.m (by rfl) T.mg_y36 T.F_y36.kp T.B_y36 .nil q14 (q01 (pv 4) (q01 (pv 5) q05)))))) (q0b (q0y (pv 4)))))),?_⟩;exact q0l (O':=[]) (Nms:=w20) (f:=qou) (by unfold qou;exact(q0f (O1:=[]) (q76 (q27 (bw:=none) (q3p (q0i qvg (q02 (q03 (i:=0)) (q02 (q03 (i:=1)) (q02 (q03 (i:=2)) q08))))) (q0t (i:=0)) (q1c (q1n qb6 (q03 (i:=0)) me_non.mb)) (q0g q1k (q03 (i:=0)) me_int)) rfl (by decide)) (q0f (O1:=[]) (q18 (q0g q1k (q03 (i:=3)) me_int)) (q0f (O1:=[]) (q36 (O':=[]) (q3p (q03 (i:=3))) rfl (q0t (i:=5)) (q18 (q1o (q2x qvf (q02 (q03 (i:=4)) (q02 (q03 (i:=5)) q08)))))) (q16 rfl (q03 (i:=4)) rfl))))) h
abbrev w1m:=(sSet 7 (mOp2 dIx (mOp2 dIx (mVar 1) (mVar 6)) (mVar 5)))
abbrev w1a:=(sSet 5 (mOp2 dIx (mOp2 dIx (mVar 7) (mVar 8)) (mRet (.int 0))))
abbrev w23:=(mOp2 dIx (mOp2 dIx (mVar 2) (mVar 6)) (mVar 5))
abbrev w22:=(sRet (mTup (q00 (mOp2 dIx (mOp2 dIx (mVar 2) (mRet (.int 0))) (mVar 0)) (q00 (mVar 4) mNil))))
abbrev w3l:=(sSeq (sMut q25 4 (q00 (mVar 8) mNil)) w1a)
def qkl:RhO:=
 (sSeq (sOwn 4 (mLst mNil))
 (sSeq (sSet 5 (mVar 0))
 (sSeq (sFor (q30 (q00 (mVar 3) mNil)) (gSet 6)
   (sSeq w1m (sSeq (sSet 8 (mIf (q0q (mOp2 dEq (q0k f_y27 (q00 (mOp2 dIx (mVar 7) (mRet (.int 0))) (q00 (mOp2 dIx (mVar 2) (mOp2 dAdd (mVar 6) (mRet (.int 1)))) mNil))) w23)) (mRet (.int 0)) (mRet (.int 1)))) w3l)))
 w22)))
def f_y38:List D->Option D:=runP false 4 9 qkl
theorem qve:q1q 4 f_y38:=q1f
theorem qrb(T:Txt K mg a):FnOk P w K mg base CX0 2 a.f_y38 a.fd_y38 w2y (spP K false 4 f_y38):=by
 have G_y27:=@qlp P w K mg base a T;refine T.F_y38.ok sc_y38 (λ_ _ _ _ h=>h.1) (λcdv A outer s H vs Q E hr h=>?_)
 ·refine⟨_,(q06 (zsA 4 sc_y38.nd (q2r q05)) (q06 (zsA 5 sc_y38.nd (pv 0)) (q06 (q31 jv rfl (q20 (by rfl) T.z_range (q01 (pv 3) q05)) (zgA 6 sc_y38.nd) (q06 (zsA 7 sc_y38.nd (q1g (q0j (K:=K) rfl) (q1g (q0j (K:=K) rfl) (pv 1) (pv 6)) (pv 5))) (q06 (zsA 8 sc_y38.nd (q2u (q1b (q32 (K:=K) rfl hr.units) (q0d G_y27 hr.m (by rfl) T.mg_y27 T.F_y27.kp T.B_y27 .nil q14 (q01 (q1g (q0j (K:=K) rfl) (pv 7) q07) (q01 (q1g (q0j (K:=K) rfl) (pv 2) (q13 (q1u (K:=K) rfl) (pv 6) q07)) q05))) (q1g (q0j (K:=K) rfl) (q1g (q0j (K:=K) rfl) (pv 2) (pv 6)) (pv 5)) (q1m _)) q07 q07)) (q06 (q3u (q9q PySem.F.plainAttrs_list PySem.F.slot_list_append PySem.F.type_list_append q3i (pv 4) (q01 (pv 8) q05))) (q0b (zsA 5 sc_y38.nd (q1g (q0j (K:=K) rfl) (q1g (q0j (K:=K) rfl) (pv 7) (pv 8)) q07))))))) (q0b (q0y (q37 (q01 (q1g (q0j (K:=K) rfl) (q1g (q0j (K:=K) rfl) (pv 2) q07) (pv 0)) (q01 (pv 4) q05)))))))),?_⟩;exact q0l (O':=[]) (Nms:=w2r) (f:=qkl) (by unfold qkl;exact(q0f (O1:=[4]) (q3o (q2w q08) rfl) (q0f (O1:=[4]) (q18 (q03 (i:=0))) (q0f (O1:=[]) (q60 (q36 (O':=[4]) (q21 (q02 (q03 (i:=3)) q08)) rfl (q0t (i:=6)) (q0f (O1:=[4]) (q18 (q0g q1k (q0g q1k (q03 (i:=1)) (q03 (i:=6))) (q03 (i:=5)))) (q0f (O1:=[4]) (q18 (q7s (q1c (q1n os_eq (q0i qs8 (q02 (q0g q1k (q03 (i:=7)) me_int) (q02 (q0g q1k (q03 (i:=2)) (q0g q2m (q03 (i:=6)) me_int)) q08))) (q0g q1k (q0g q1k (q03 (i:=2)) (q03 (i:=6))) (q03 (i:=5))).mb)) me_int me_int)) (q0f (O1:=[4]) (q86 q3z (by decide) (q02 (q03 (i:=8)) q08) rfl) (q18 (q0g q1k (q0g q1k (q03 (i:=7)) (q03 (i:=8))) me_int)))))) rfl) (q16 rfl (q3a (q02 (q0g q1k (q0g q1k (q03 (i:=2)) me_int) (q03 (i:=0))) (q02 (q03 (i:=4)) q08))) rfl))))) h
abbrev w34:=(sSet 4 (q0k f_y30 (q00 (mVar 0) (q00 (mVar 3) mNil))))
def qot:RhO:=
 (sSeq (sSet 3 (q0k f_y25 w07))
 (sSeq w34
 (sRet (mOp1 qk8 (mOf (q22 1 [3,1,4] none (q7e (mVar 4)) (gSet 0) (mRet true) (q0k f_y38 (q00 (mVar 0) (q00 (mVar 1) (q00 (mOp2 dIxK (mVar 3) (mVar 0)) (q00 (mVar 2) mNil)))))))))))
def f_y39:List D->Option D:=runP false 3 5 qot
theorem qs6:q1q 3 f_y39:=q1f
theorem qra(T:Txt K mg a):FnOk P w K mg base CX0 7 a.f_y39 a.fd_y39 w0f (spP K false 3 f_y39):=by
 have G_y25:=@qlq P w K mg base a T;have G_y30:=@qrj P w K mg base a T;have G_y38:=@qrb P w K mg base a T;refine T.F_y39.ok sc_y39 (λ_ _ _ _ h=>h.1) (λcdv A outer s H vs Q E hr h=>?_)
 ·refine⟨_,(q06 (zsA 3 sc_y39.nd (q0d G_y25 hr.m (by rfl) T.mg_y25 T.F_y25.kp T.B_y25 .nil q14 (q01 (pv 0) (q01 (pv 1) (q01 (pv 2) q05))))) (q06 (zsA 4 sc_y39.nd (q0d G_y30 hr.m (by rfl) T.mg_y30 T.F_y30.kp T.B_y30 .nil q14 (q01 (pv 0) (q01 (pv 3) q05)))) (q0b (q0y (q11 (qes (K:=K) rfl rfl hr.units) (by rfl) T.z_min (by rfl) (q01 (q2p (sc:=q04 qdt) (N0:=w2b) rfl rfl rfl (show q23 _ _ ["start","steps","size","tables"] 1 [3,1,4] _=true by decide+kernel) (qix (pv 4)) (λ_ _ _ _ _=>(q0s (i:=0) (show List.Nodup (["start","steps","size","tables"]:List Str)from(by decide+kernel)) rfl (Or.inl rfl))) (q1s (by decide)) (λ_ _ _ _ _=>q2h) (λ_ _ _ _ _=>(q0d G_y38 hr.m (by rfl) T.mg_y38 T.F_y38.kp T.B_y38 .nil q14 (q01 (pv 0) (q01 (pv 1) (q01 (q1g ix_K (pv 3) (pv 0)) (q01 (pv 2) q05))))))) q05)))))),?_⟩;exact q0l (O':=[]) (Nms:=w2b) (f:=qot) (by unfold qot;exact(q0f (O1:=[]) (q18 (q0i qs9 (q02 (q03 (i:=0)) (q02 (q03 (i:=1)) (q02 (q03 (i:=2)) q08))))) (q0f (O1:=[]) (q18 (q0i qvl (q02 (q03 (i:=0)) (q02 (q03 (i:=3)) q08)))) (q16 rfl (q4u qof (q1o (q27 (bw:=none) (qjc (q03 (i:=4))) (q0t (i:=0)) q39 (q0i qve (q02 (q03 (i:=0)) (q02 (q03 (i:=1)) (q02 (q0g qqv (q03 (i:=3)) (q03 (i:=0))) (q02 (q03 (i:=2)) q08)))))))) rfl)))) h
abbrev w18:=(mOp2 dPow (mRet (.int 10)) (mRet (.int 60)))
def qi7:RhO:=
 (sSeq (sIf (q0q (mOp2 dLt (mVar 1) (mOp1 dLen (mVar 0))))
   (sRet (mOp2 dMod (mOp2 dIx (mVar 0) (mVar 1)) w18))
   sNil)
 (sRet (mRet (.int 0))))
def f_y40:List D->Option D:=runP false 2 2 qi7
theorem qn5:q1q 2 f_y40:=q1f
theorem qlo(T:Txt K mg a):FnOk P w K mg base CX0 1 a.f_y40 a.fd_y40 ["_law_script","_law_k"] (spP K false 2 f_y40):=by
 refine T.F_y40.ok qpv (λ_ _ _ _ h=>h.1) (λcdv A outer s H vs Q E hr h=>?_)
 ·refine⟨_,(q06 (q3y (q1b qj7 (pv 1) (q11 (q1e (K:=K) rfl) (by rfl) T.z_len (by rfl) (q01 (pv 0) q05)) (q1m _)) (q0b (q0y (q13 q2k (q1g (q0j (K:=K) rfl) (pv 0) (pv 1)) (q13 qcm q07 q07)))) q26) (q0b (q0y q07))),?_⟩;exact q0l (O':=[]) (Nms:=["_law_script","_law_k"]) (f:=qi7) (by unfold qi7;exact(q0f (O1:=[]) (q40 (q1c (q1n q7q (q03 (i:=1)) (q19 q2i q1x).mb)) (q16 rfl (q0g q2l (q0g q1k (q03 (i:=0)) (q03 (i:=1))) (q0g qcr me_int me_int)) rfl) (q2s rfl)) (q16 rfl me_int rfl))) h
def qkk:RhO:=
 (qe2 (mLst (q00 (mOp2 dMod (mOp2 dAdd (mOp2 dAdd (mOp2 q44 (mOp2 dMod (mVar 0) w18) (mRet (.int 7368787))) (mOp2 q44 (mRet (.int 1000003)) (mVar 1))) (mRet (.int 17))) (mRet (.int 2305843009213693951))) mNil)))
def f_y41:List D->Option D:=runP true 2 2 qkk
theorem qn4:q1q 2 f_y41:=q1f
theorem qr8(T:Txt K mg a):FnOk P w K mg base CX0 1 a.f_y41 a.fd_y41 ["_law_cell","_law_k"] (spP K true 2 f_y41):=by
 refine T.F_y41.ok qpu (λ_ _ _ _ h=>h.1) (λcdv A outer s H vs Q E hr h=>?_)
 ·refine⟨_,(q0b (q0y (q2r (q01 (q13 q2k (q13 (q1u (K:=K) rfl) (q13 (q1u (K:=K) rfl) (q13 (q3g (K:=K) rfl) (q13 q2k (pv 0) (q13 qcm q07 q07)) q07) (q13 (q3g (K:=K) rfl) q07 (pv 1))) q07) q07) q05)))),?_⟩;exact q0l (O':=[]) (Nms:=["_law_cell","_law_k"]) (f:=qkk) (by unfold qkk;exact(qgq rfl (q2w (q02 (q0g q2l (q0g q2m (q0g q2m (q0g q3h (q0g q2l (q03 (i:=0)) (q0g qcr me_int me_int)) me_int) (q0g q3h me_int (q03 (i:=1)))) me_int) me_int) q08)) rfl)) h
def qkj:RhO:=
 (sSeq (q4x 0 (mOp2 dMod (mOp2 dAdd (mOp2 q44 (mIxO 0 (mRet (.int 0))) (mRet (.int 1181783497276652981))) (mRet (.int 12345678910987))) (mRet (.int 2305843009213693951))) (mRet (.int 0)))
 (sRet (mOp2 dMod (mOp2 dDiv (mIxO 0 (mRet (.int 0))) (mRet (.int 65537))) (mVar 1))))
def f_y42:List D->List D->Option (D×List D):=runS false 2 2 qkj
theorem q5z:qip 2 f_y42:=qle
theorem qln(T:Txt K mg a):FnOk P w K mg base CX0 1 a.f_y42 a.fd_y42 w17 (spS K false 2 f_y42):=by
 refine T.F_y42.ok qpt (λ_ _ _ _ h=>h.1) (λcdv A outer s H vs Q E hr h=>?_)
 ·refine⟨_,(q06 (q9n (q13 q2k (q13 (q1u (K:=K) rfl) (q13 (q3g (K:=K) rfl) (q1g (q0j (K:=K) rfl) (pv 0) q07) q07) q07) q07) (qcb (pv 0) q07 set_list)) (q0b (q0y (q13 q2k (q13 q55 (q1g (q0j (K:=K) rfl) (pv 0) q07) q07) (pv 1))))),?_⟩;exact qc0 (O':=[]) (Nms:=w17) (f:=qkj) (by unfold qkj;exact(q0f (O1:=[0]) (qba (by decide) (q0g q2l (q0g q2m (q0g q3h (qcx (i:=0) (by decide) me_int) me_int) me_int) me_int) me_int rfl) (q16 rfl (q0g q2l (q0g q75 (qcx (i:=0) (by decide) me_int) me_int) (q03 (i:=1))) rfl))) h
abbrev w0z:=(sRet (mTup (q00 (mVar 3) (q00 (mOp1 q4g (mVar 4)) (q00 (mOp1 q4g (mVar 5)) (q00 (mOp2 dIx (mVar 2) (q17 f_y42 0 (q00 (mOp1 dLen (mVar 2)) mNil))) mNil))))))
abbrev w09:=(q00 (mVar 1) (q00 (mOp2 dIx (mOf (mLst (q00 (mRet (.int 0)) (q00 (mRet (.int 1)) (q00 (mRet (.int 2)) (q00 (mRet (.int 2)) (q00 (mRet (.int 3)) (q00 (mRet (.int 1)) (q00 (mRet (.int 2)) (q00 (mRet (.int 3)) (q00 (mRet (.int 4)) mNil))))))))))) (q17 f_y42 0 (q00 (mRet (.int 9)) mNil))) mNil))
abbrev w2s:=(mOp2 dGt (q17 f_y42 1 (q00 (mRet (.int 4)) mNil)) (mRet (.int 0)))
abbrev w06:=(sMut q25 5 (q00 (mOp1 q4g (mOf (q22 1 [0] (some (0,1)) (mSeq (mVar 4)) (gSet 0) (mRet true) (mOp1 dInt w2s)))) mNil))
abbrev w2m:=(q17 f_y42 0 (q00 (mRet (.int 4)) mNil))
abbrev w2l:=(q17 f_y42 0 (q00 (mRet (.int 6)) mNil))
def qi6:RhO:=
 (sSeq (sSet 3 (mMM (λi j=>if j<i then j else i) w09))
 (sSeq (sSet 4 (mOf (q22 1 [0,3] (some (0,1)) (q30 (q00 (mOp2 dAdd (mRet (.int 1)) w2m) mNil)) (gSet 0) (mRet true) (q17 f_y42 1 (q00 (mOp2 dShl (mRet (.int 2)) (mVar 2)) mNil)))))
 (sSeq (sOwn 5 (mLst mNil))
 (sSeq (sFor (q30 (q00 (mOp2 dAdd (mRet (.int 1)) w2l) mNil)) (gSet 6)
   w06)
 w0z))))
def f_y43:List D->List D->Option (D×List D):=runS false 3 7 qi6
theorem qvd:qip 3 f_y43:=qle
abbrev w3p:List Str:=["_law_k","_law_state_here","_law_reach"]
theorem qr7(T:Txt K mg a):FnOk P w K mg base CX0 2 a.f_y43 a.fd_y43 w25 (spS K false 3 f_y43):=by
 have G_y42:=@qln P w K mg base a T;refine T.F_y43.ok sc_y43 (λ_ _ _ _ h=>h.1) (λcdv A outer s H vs Q E hr h=>?_)
 ·refine⟨_,(q06 (zsA 3 sc_y43.nd (q11 (qi0 rfl) (by rfl) T.z_min (by rfl) (q01 (pv 1) (q01 (q1g (q0j (K:=K) rfl) (q2r (q01 q07 (q01 q07 (q01 q07 (q01 q07 (q01 q07 (q01 q07 (q01 q07 (q01 q07 (q01 q07 q05)))))))))) (q0d G_y42 hr.m (by rfl) T.mg_y42 T.F_y42.kp T.B_y42 .nil q14 (q01 (pv 0) (q01 q07 q05)))) q05)))) (q06 (q5x (k:=4) (sc:=q04 qam) (N0:=w0e) rfl rfl rfl (show q23 _ _ w3p 1 [0,3] _=true by decide+kernel) sc_y43.nd rfl (Or.inl rfl) (q20 (by rfl) T.z_range (q01 (q13 (q1u (K:=K) rfl) q07 (q0d G_y42 hr.m (by rfl) T.mg_y42 T.F_y42.kp T.B_y42 .nil q14 (q01 (pv 0) (q01 q07 q05)))) q05)) (λ_ _ _ _ _=>(q0s (i:=0) (show List.Nodup (w3p:List Str)from(by decide+kernel)) rfl (Or.inl rfl))) (q1s (by decide)) (λ_ _ _ _ _=>q2h) (λ_ _ _ _ _=>(q0d G_y42 hr.m (by rfl) T.mg_y42 T.F_y42.kp T.B_y42 .nil q14 (q01 (pv 1) (q01 (q13 qck q07 (pv 2)) q05))))) (q06 (zsA 5 sc_y43.nd (q2r q05)) (q06 (q31 jv rfl (q20 (by rfl) T.z_range (q01 (q13 (q1u (K:=K) rfl) q07 (q0d G_y42 hr.m (by rfl) T.mg_y42 T.F_y42.kp T.B_y42 .nil q14 (q01 (pv 0) (q01 q07 q05)))) q05)) (zgA 6 sc_y43.nd) (q0b (q3u (q9q PySem.F.plainAttrs_list PySem.F.slot_list_append PySem.F.type_list_append q3i (pv 5) (q01 (q2v (q3l (K:=K) rfl) (by rfl) T.z_tuple (by rfl) (q01 (q2p (sc:=q04 qam) (N0:=w0e) rfl rfl rfl (show q23 _ _ ["_law_tap","_law_state_here"] 1 [0] _=true by decide+kernel) (q2t (K:=K) rfl (pv 4)) (λ_ _ _ _ _=>(q0s (i:=0) (show List.Nodup (["_law_tap","_law_state_here"]:List Str)from(by decide+kernel)) rfl (Or.inl rfl))) (q1s (by decide)) (λ_ _ _ _ _=>q2h) (λ_ _ _ _ _=>(q2v qi2 (by rfl) T.z_int (by rfl) (q01 (qg9 qj8 (q0d G_y42 hr.m (by rfl) T.mg_y42 T.F_y42.kp T.B_y42 .nil q14 (q01 (pv 1) (q01 q07 q05))) q07 (q1m _)) q05)))) q05)) q05))))) (q0b (q0y (q37 (q01 (pv 3) (q01 (q2v (q3l (K:=K) rfl) (by rfl) T.z_tuple (by rfl) (q01 (pv 4) q05)) (q01 (q2v (q3l (K:=K) rfl) (by rfl) T.z_tuple (by rfl) (q01 (pv 5) q05)) (q01 (q1g (q0j (K:=K) rfl) (pv 2) (q0d G_y42 hr.m (by rfl) T.mg_y42 T.F_y42.kp T.B_y42 .nil q14 (q01 (pv 0) (q01 (q11 (q1e (K:=K) rfl) (by rfl) T.z_len (by rfl) (q01 (pv 2) q05)) q05)))) q05))))))))))),?_⟩;exact qc0 (O':=[]) (Nms:=w0e) (f:=qi6) (by unfold qi6;exact(q0f (O1:=[0]) (q18 (qso (q02 (q03 (i:=1)) (q02 (q0g q1k (q1o (q2w (q02 me_int (q02 me_int (q02 me_int (q02 me_int (q02 me_int (q02 me_int (q02 me_int (q02 me_int (q02 me_int q08))))))))))) (q2e (i:=0) q5z (by decide) (q02 me_int q08))) q08)))) (q0f (O1:=[0]) (q76 (q27 (bw:=(some (0,1))) (q21 (q02 (q0g q2m me_int (q2e (i:=0) q5z (by decide) (q02 me_int q08))) q08)) (q0t (i:=0)) q39 (q2e (i:=1) q5z (by decide) (q02 (q0g qcq me_int (q03 (i:=2))) q08))) rfl (by decide)) (q0f (O1:=[0,5]) (q3o (q2w q08) rfl) (q0f (O1:=[0]) (q60 (q36 (O':=[0,5]) (q21 (q02 (q0g q2m me_int (q2e (i:=0) q5z (by decide) (q02 me_int q08))) q08)) rfl (q0t (i:=6)) (q86 q3z (by decide) (q02 (q4u q5t (q1o (q27 (bw:=(some (0,1))) (q3p (q03 (i:=4))) (q0t (i:=0)) q39 (q19 qu5 (q1n q7q (q2e (i:=1) q5z (by decide) (q02 me_int q08)) me_int.mb).mb)))) q08) rfl)) rfl) (q16 rfl (q3a (q02 (q03 (i:=3)) (q02 (q4u q5t (q03 (i:=4))) (q02 (q4u q5t (q03 (i:=5))) (q02 (q0g q1k (q03 (i:=2)) (q2e (i:=0) q5z (by decide) (q02 (q19 q2i q1x) q08))) q08))))) rfl)))))) h
abbrev w2f:=(q0q (mOp2 dGt (mVar 0) (mRet (.int 0))))
abbrev w29:=(sSet 0 (mOp2 dDiv (mVar 0) (mRet (.int 2))))
def qki:RhO:=
 (sSeq (sSet 1 (mRet (.int 0)))
 (sSeq (q2d w2f
   (sSeq (sSet 1 (mOp2 dMod (mOp2 dAdd (mVar 1) (mOp2 dMod (mVar 0) (mRet (.int 2)))) (mRet (.int 2)))) w29) 1000)
 (sRet (mVar 1))))
def f_y44:List D->Option D:=runP false 1 2 qki
theorem qvc:q1q 1 f_y44:=q1f
theorem qr6(T:Txt K mg a):FnOk P w K mg base CX0 1 a.f_y44 a.fd_y44 ["_law_number"] (spP K false 1 f_y44):=by
 refine T.F_y44.ok sc_y44 (λ_ _ _ _ h=>h.1) (λcdv A outer s H vs Q E hr h=>?_)
 ·refine⟨_,(q06 (zsA 1 sc_y44.nd q07) (q06 (qc7 jv (q1b qj8 (pv 0) q07 (q1m _)) (q06 (zsA 1 sc_y44.nd (q13 q2k (q13 (q1u (K:=K) rfl) (pv 1) (q13 q2k (pv 0) q07)) q07)) (q0b (zsA 0 sc_y44.nd (q13 q55 (pv 0) q07))))) (q0b (q0y (pv 1))))),?_⟩;exact q0l (O':=[]) (Nms:=["_law_number","_law_odd_here"]) (f:=qki) (by unfold qki;exact(q0f (O1:=[]) (q18 me_int) (q0f (O1:=[]) (qcu (O':=[]) (q1c (q1n q7q (q03 (i:=0)) me_int.mb)) rfl (q0f (O1:=[]) (q18 (q0g q2l (q0g q2m (q03 (i:=1)) (q0g q2l (q03 (i:=0)) me_int)) me_int)) (q18 (q0g q75 (q03 (i:=0)) me_int)))) (q16 rfl (q03 (i:=1)) rfl)))) h
abbrev w1b:=(sSet 6 (mOp2 dIx (mOp2 dIx (mVar 0) (mRet (.int 2))) (mOp2 dMod (mVar 1) (mOp1 dLen (mOp2 dIx (mVar 0) (mRet (.int 2)))))))
abbrev w1u:=(mOp2 dEq (mOp2 dIx (mVar 2) (mVar 0)) (mRet (.int 1)))
def qos:RhO:=
 (sSeq (sSet 4 (mOp2 dAdd (mOp2 q44 (mRet (.int 2)) (mVar 2)) (mVar 3)))
 (sSeq (sSet 5 (mOf (q22 1 [4] none w2c (gSet 0) (mRet true) (q0k f_y44 w12))))
 (sSeq w1b
 (sRet (mTup (q00 (mOp2 dMod (mVar 4) (mOp2 dShl (mRet (.int 1)) (mOp2 dIx (mVar 0) (mRet (.int 0))))) (q00 (mOf (q22 1 [5,6] none (q30 (q00 (mOp1 dLen (mVar 5)) mNil)) (gSet 0) (q0q w1u) (mOp2 dIx (mVar 1) (mVar 0)))) mNil)))))))
def f_y45:List D->Option D:=runP false 4 7 qos
theorem qvb:q1q 4 f_y45:=q1f
abbrev w3x:List Str:=["_law_k","_law_signs","_law_line"]
theorem qr5(T:Txt K mg a):FnOk P w K mg base CX0 2 a.f_y45 a.fd_y45 w1l (spP K false 4 f_y45):=by
 have G_y44:=@qr6 P w K mg base a T;refine T.F_y45.ok sc_y45 (λ_ _ _ _ h=>h.1) (λcdv A outer s H vs Q E hr h=>?_)
 ·refine⟨_,(q06 (zsA 4 sc_y45.nd (q13 (q1u (K:=K) rfl) (q13 (q3g (K:=K) rfl) q07 (pv 2)) (pv 3))) (q06 (zsA 5 sc_y45.nd (q2p (sc:=q04 qal) (N0:=w0d) rfl rfl rfl (show q23 _ _ ["_law_tap","_law_both"] 1 [4] _=true by decide+kernel) (q2t (K:=K) rfl (q1g (q0j (K:=K) rfl) (pv 0) q07)) (λ_ _ _ _ _=>(q0s (i:=0) (show List.Nodup (["_law_tap","_law_both"]:List Str)from(by decide+kernel)) rfl (Or.inl rfl))) (q1s (by decide)) (λ_ _ _ _ _=>q2h) (λ_ _ _ _ _=>(q0d G_y44 hr.m (by rfl) T.mg_y44 T.F_y44.kp T.B_y44 .nil q14 (q01 (q13 qgg (pv 1) (pv 0)) q05))))) (q06 (zsA 6 sc_y45.nd (q1g (q0j (K:=K) rfl) (q1g (q0j (K:=K) rfl) (pv 0) q07) (q13 q2k (pv 1) (q11 (q1e (K:=K) rfl) (by rfl) T.z_len (by rfl) (q01 (q1g (q0j (K:=K) rfl) (pv 0) q07) q05))))) (q0b (q0y (q37 (q01 (q13 q2k (pv 4) (q13 qck q07 (q1g (q0j (K:=K) rfl) (pv 0) q07))) (q01 (q2p (sc:=q04 qal) (N0:=w0d) rfl rfl rfl (show q23 _ _ w3x 1 [5,6] _=true by decide+kernel) (q20 (by rfl) T.z_range (q01 (q11 (q1e (K:=K) rfl) (by rfl) T.z_len (by rfl) (q01 (pv 5) q05)) q05)) (λ_ _ _ _ _=>(q0s (i:=0) (show List.Nodup (w3x:List Str)from(by decide+kernel)) rfl (Or.inl rfl))) (q1s (by decide)) (λ_ _ _ _ _=>(q8s (q1b (q32 (K:=K) rfl hr.units) (q1g (q0j (K:=K) rfl) (pv 2) (pv 0)) q07 (q1m _)))) (λ_ _ _ _ _=>(q1g (q0j (K:=K) rfl) (pv 1) (pv 0)))) q05)))))))),?_⟩;exact q0l (O':=[]) (Nms:=w0d) (f:=qos) (by unfold qos;exact(q0f (O1:=[]) (q18 (q0g q2m (q0g q3h me_int (q03 (i:=2))) (q03 (i:=3)))) (q0f (O1:=[]) (q18 (q1o (q27 (bw:=none) (q3p (q0g q1k (q03 (i:=0)) me_int)) (q0t (i:=0)) q39 (q0i qvc (q02 (q0g qgj (q03 (i:=1)) (q03 (i:=0))) q08))))) (q0f (O1:=[]) (q18 (q0g q1k (q0g q1k (q03 (i:=0)) me_int) (q0g q2l (q03 (i:=1)) (q19 q2i (q0g q1k (q03 (i:=0)) me_int).mb)))) (q16 rfl (q3a (q02 (q0g q2l (q03 (i:=4)) (q0g qcq me_int (q0g q1k (q03 (i:=0)) me_int))) (q02 (q1o (q27 (bw:=none) (q21 (q02 (q19 q2i q1x) q08)) (q0t (i:=0)) (q1c (q1n os_eq (q0g q1k (q03 (i:=2)) (q03 (i:=0))) me_int.mb)) (q0g q1k (q03 (i:=1)) (q03 (i:=0))))) q08))) rfl))))) h
def qkh:RhO:=
 (sSeq (sSet 2 (mRet (.int 0)))
 (sSeq (sIf (q0q w2t)
   (sFor (mSeq (mVar 1)) (gSet 3)
   (sSet 2 (mOp2 dMod (mOp2 dAdd (mOp2 q44 (mRet (.int 2)) (mVar 2)) (mVar 3)) (mOp2 dShl (mRet (.int 1)) (mOp2 dIx (mVar 0) (mRet (.int 0)))))))
   sNil)
 (sRet (mVar 2))))
def f_y46:List D->Option D:=runP false 2 4 qkh
theorem qva:q1q 2 f_y46:=q1f
theorem qr4(T:Txt K mg a):FnOk P w K mg base CX0 1 a.f_y46 a.fd_y46 w13 (spP K false 2 f_y46):=by
 refine T.F_y46.ok sc_y46 (λ_ _ _ _ h=>h.1) (λcdv A outer s H vs Q E hr h=>?_)
 ·refine⟨_,(q06 (zsA 2 sc_y46.nd q07) (q06 (q3y (q1b (q32 (K:=K) rfl hr.units) (q1g (q0j (K:=K) rfl) (pv 0) q07) q38 (q1m _)) (q0b (q31 jv rfl (q2t (K:=K) rfl (pv 1)) (zgA 3 sc_y46.nd) (q0b (zsA 2 sc_y46.nd (q13 q2k (q13 (q1u (K:=K) rfl) (q13 (q3g (K:=K) rfl) q07 (pv 2)) (pv 3)) (q13 qck q07 (q1g (q0j (K:=K) rfl) (pv 0) q07))))))) q26) (q0b (q0y (pv 2))))),?_⟩;exact q0l (O':=[]) (Nms:=w33) (f:=qkh) (by unfold qkh;exact(q0f (O1:=[]) (q18 me_int) (q0f (O1:=[]) (q40 (q1c (q1n os_eq (q0g q1k (q03 (i:=0)) me_int) me_str.mb)) (q36 (O':=[]) (q3p (q03 (i:=1))) rfl (q0t (i:=3)) (q18 (q0g q2l (q0g q2m (q0g q3h me_int (q03 (i:=2))) (q03 (i:=3))) (q0g qcq me_int (q0g q1k (q03 (i:=0)) me_int))))) (q2s rfl)) (q16 rfl (q03 (i:=2)) rfl)))) h
abbrev w0a:=(sAsg (q0k f_y45 (q00 (mVar 0) (q00 (mVar 5) (q00 (mVar 3) (q00 (mOp2 dIx (mVar 2) (mVar 5)) mNil))))) (q2b 2 (q0n (gSet 3) (q0n (gSet 6) q2c))))
abbrev w35:=(sSet 3 (q0k f_y46 (q00 (mVar 0) (q00 (mVar 1) mNil))))
abbrev w2a:=(mOf (mRep (mLst (q00 (mRet (.int 0)) mNil)) (mOp2 dIx (mVar 0) (mRet (.int 0)))))
abbrev w3e:=(sSeq w0a (sOwn 4 (q7t q7x (mVar 4) (mVar 6))))
def qor:RhO:=
 (sSeq (sSet 2 (mOf (q7d dSeq (mVar 1))))
 (sSeq (sIf w0b
   (sSet 2 (mOp2 dAdd (mVar 2) w2a))
   sNil)
 (sSeq w35
 (sSeq (sOwn 4 (mLst mNil))
 (sSeq (sFor (q30 (q00 (mOp1 dLen (mVar 2)) mNil)) (gSet 5)
   w3e)
 (q5w 4))))))
def f_y47:List D->Option D:=runP true 2 7 qor
theorem qv9:q1q 2 f_y47:=q1f
theorem qr3(T:Txt K mg a):FnOk P w K mg base CX0 3 a.f_y47 a.fd_y47 w13 (spP K true 2 f_y47):=by
 have G_y46:=@qr4 P w K mg base a T;have G_y45:=@qr5 P w K mg base a T;refine T.F_y47.ok sc_y47 (λ_ _ _ _ h=>h.1) (λcdv A outer s H vs Q E hr h=>?_)
 ·refine⟨_,(q06 (zsA 2 sc_y47.nd (q2v (q67 (K:=K) rfl) (by rfl) T.z_list (by rfl) (q01 (pv 1) q05))) (q06 (q3y (q1b (q32 (K:=K) rfl hr.units) (q1g (q0j (K:=K) rfl) (pv 0) q07) q38 (q1m _)) (q0b (zsA 2 sc_y47.nd (q13 (q1u (K:=K) rfl) (pv 2) (q13 qcl (q2r (q01 q07 q05)) (q1g (q0j (K:=K) rfl) (pv 0) q07))))) q26) (q06 (zsA 3 sc_y47.nd (q0d G_y46 hr.m (by rfl) T.mg_y46 T.F_y46.kp T.B_y46 .nil q14 (q01 (pv 0) (q01 (pv 1) q05)))) (q06 (zsA 4 sc_y47.nd (q2r q05)) (q06 (q31 jv rfl (q20 (by rfl) T.z_range (q01 (q11 (q1e (K:=K) rfl) (by rfl) T.z_len (by rfl) (q01 (pv 2) q05)) q05)) (zgA 5 sc_y47.nd) (q06 (q9n (q0d G_y45 hr.m (by rfl) T.mg_y45 T.F_y45.kp T.B_y45 .nil q14 (q01 (pv 0) (q01 (pv 5) (q01 (pv 3) (q01 (q1g (q0j (K:=K) rfl) (pv 2) (pv 5)) q05))))) (q4b (K:=K) rfl rfl (q1v (zgA 3 sc_y47.nd) (q1v (zgA 6 sc_y47.nd) q4a)))) (q0b (zsA 4 sc_y47.nd (q13 (q1u (K:=K) rfl) (pv 4) (pv 6)))))) (q0b (q0y (pv 4)))))))),?_⟩;exact q0l (O':=[]) (Nms:=w1z) (f:=qor) (by unfold qor;exact(q0f (O1:=[]) (q18 (q1o (q8w qbq (q03 (i:=1))))) (q0f (O1:=[]) (q40 (q1c (q1n os_eq (q0g q1k (q03 (i:=0)) me_int) me_str.mb)) (q18 (q0g q2m (q03 (i:=2)) (q1o (qcw (q2w (q02 me_int q08)) (q0g q1k (q03 (i:=0)) me_int))))) (q2s rfl)) (q0f (O1:=[]) (q18 (q0i qva (q02 (q03 (i:=0)) (q02 (q03 (i:=1)) q08)))) (q0f (O1:=[4]) (q3o (q2w q08) rfl) (q0f (O1:=[4]) (q36 (O':=[4]) (q21 (q02 (q19 q2i q1x) q08)) rfl (q0t (i:=5)) (q0f (O1:=[]) (qsf (q0i qvb (q02 (q03 (i:=0)) (q02 (q03 (i:=5)) (q02 (q03 (i:=3)) (q02 (q0g q1k (q03 (i:=2)) (q03 (i:=5))) q08))))) rfl (q5h (q1w (q0t (i:=3)) (q1w (q0t (i:=6)) q4d)))) (q3o (qsg qlm (q03 (i:=4)) (q03 (i:=6))) rfl))) (q77 rfl (by first|decide|simp) rfl (by first|decide|simp)))))))) h
abbrev w1e:=(mOp2 dSub (mRet (.int 1)) (mOp2 q44 (mRet (.int 2)) (mOp2 dMod (mOp2 dDiv (mVar 3) (mRet (.int 27))) (mRet (.int 2)))))
abbrev w3q:=(q0q (mOp2 dLt (mVar 4) (mRet (.int 4))))
abbrev w1d:=(sIf w3q (sRet (mTup (q00 (mRet (.str "clear")) (q00 (mVar 2) mNil)))) sNil)
abbrev w14:=(sIf (q0q (mOp2 dEq (mVar 4) (mRet (.int 4)))) (sRet (mTup (q00 (mRet (.str "clear")) (q00 (mOp2 dSub (mRet (.int 1)) (mVar 2)) mNil)))) sNil)
abbrev w0q:=(sRet (mTup (q00 (mRet (.str "soft")) (q00 (mOp2 dMod (mOp2 dDiv (mVar 3) (mRet (.int 9))) (mRet (.int 4))) (q00 (mOp2 dMod (mOp2 dDiv (mVar 3) (mRet (.int 36))) (mRet (.int 4))) mNil)))))
abbrev w2z:=(mOp2 q44 (mOp2 q44 (mVar 1) (mVar 1)) (mRet (.int 104729)))
abbrev w2u:=(mOp2 dMod (mVar 0) (mOp2 dPow (mRet (.int 10)) (mRet (.int 18))))
abbrev w1w:=(q00 (mOp2 dSub (mOp2 dMod (mOp2 dDiv (mVar 3) (mRet (.int 9))) (mRet (.int 3))) (mRet (.int 1))) mNil)
abbrev w1v:=(sIf (q0q (mOp2 dEq (mVar 4) (mRet (.int 5)))) (sRet (mTup (q00 (mRet (.str "gap")) mNil))) sNil)
abbrev w3r:=(q0q (mOp2 dEq (mVar 4) (mRet (.int 6))))
abbrev w3i:=(sSet 4 (mOp2 dMod (mVar 3) (mRet (.int 9))))
def qoq:RhO:=
 (sSeq (sSet 3 (mOp2 dMod (mOp2 q44 (mOp2 dAdd (mOp2 dAdd w2u (mRet (.int 1))) w2z) (mRet (.int 742938285))) (mRet (.int 2147483647))))
 (sSeq w3i
 (sSeq w1d
 (sSeq w14
 (sSeq w1v
 (sSeq (sIf w3r
   (sRet (mTup (q00 (mRet (.str "soft")) (q00 (mOp2 q44 (mOp2 dMod (mVar 0) w18) w1e) w1w))))
   sNil)
 w0q))))))
def f_y48:List D->Option D:=runP false 3 5 qoq
theorem qv8:q1q 3 f_y48:=q1f
theorem qr2(T:Txt K mg a):FnOk P w K mg base CX0 1 a.f_y48 a.fd_y48 w2w (spP K false 3 f_y48):=by
 refine T.F_y48.ok sc_y48 (λ_ _ _ _ h=>h.1) (λcdv A outer s H vs Q E hr h=>?_)
 ·refine⟨_,(q06 (zsA 3 sc_y48.nd (q13 q2k (q13 (q3g (K:=K) rfl) (q13 (q1u (K:=K) rfl) (q13 (q1u (K:=K) rfl) (q13 q2k (pv 0) (q13 qcm q07 q07)) q07) (q13 (q3g (K:=K) rfl) (q13 (q3g (K:=K) rfl) (pv 1) (pv 1)) q07)) q07) q07)) (q06 (zsA 4 sc_y48.nd (q13 q2k (pv 3) q07)) (q06 (q3y (q1b qj7 (pv 4) q07 (q1m _)) (q0b (q0y (q37 (q01 q38 (q01 (pv 2) q05))))) q26) (q06 (q3y (q1b (q32 (K:=K) rfl hr.units) (pv 4) q07 (q1m _)) (q0b (q0y (q37 (q01 q38 (q01 (q13 qcj q07 (pv 2)) q05))))) q26) (q06 (q3y (q1b (q32 (K:=K) rfl hr.units) (pv 4) q07 (q1m _)) (q0b (q0y (q37 (q01 q38 q05)))) q26) (q06 (q3y (q1b (q32 (K:=K) rfl hr.units) (pv 4) q07 (q1m _)) (q0b (q0y (q37 (q01 q38 (q01 (q13 (q3g (K:=K) rfl) (q13 q2k (pv 0) (q13 qcm q07 q07)) (q13 qcj q07 (q13 (q3g (K:=K) rfl) q07 (q13 q2k (q13 q55 (pv 3) q07) q07)))) (q01 (q13 qcj (q13 q2k (q13 q55 (pv 3) q07) q07) q07) q05)))))) q26) (q0b (q0y (q37 (q01 q38 (q01 (q13 q2k (q13 q55 (pv 3) q07) q07) (q01 (q13 q2k (q13 q55 (pv 3) q07) q07) q05)))))))))))),?_⟩;exact q0l (O':=[]) (Nms:=w32) (f:=qoq) (by unfold qoq;exact(q0f (O1:=[]) (q18 (q0g q2l (q0g q3h (q0g q2m (q0g q2m (q0g q2l (q03 (i:=0)) (q0g qcr me_int me_int)) me_int) (q0g q3h (q0g q3h (q03 (i:=1)) (q03 (i:=1))) me_int)) me_int) me_int)) (q0f (O1:=[]) (q18 (q0g q2l (q03 (i:=3)) me_int)) (q0f (O1:=[]) (q40 (q1c (q1n q7q (q03 (i:=4)) me_int.mb)) (q16 rfl (q3a (q02 me_str (q02 (q03 (i:=2)) q08))) rfl) (q2s rfl)) (q0f (O1:=[]) (q40 (q1c (q1n os_eq (q03 (i:=4)) me_int.mb)) (q16 rfl (q3a (q02 me_str (q02 (q0g qcp me_int (q03 (i:=2))) q08))) rfl) (q2s rfl)) (q0f (O1:=[]) (q40 (q1c (q1n os_eq (q03 (i:=4)) me_int.mb)) (q16 rfl (q3a (q02 me_str q08)) rfl) (q2s rfl)) (q0f (O1:=[]) (q40 (q1c (q1n os_eq (q03 (i:=4)) me_int.mb)) (q16 rfl (q3a (q02 me_str (q02 (q0g q3h (q0g q2l (q03 (i:=0)) (q0g qcr me_int me_int)) (q0g qcp me_int (q0g q3h me_int (q0g q2l (q0g q75 (q03 (i:=3)) me_int) me_int)))) (q02 (q0g qcp (q0g q2l (q0g q75 (q03 (i:=3)) me_int) me_int) me_int) q08)))) rfl) (q2s rfl)) (q16 rfl (q3a (q02 me_str (q02 (q0g q2l (q0g q75 (q03 (i:=3)) me_int) me_int) (q02 (q0g q2l (q0g q75 (q03 (i:=3)) me_int) me_int) q08)))) rfl)))))))) h
abbrev w0y:=(q00 (mRet (.int 1)) (q00 (mOp2 dSub (mOp1 dLen (mVar 0)) (mRet (.int 2))) mNil))
abbrev w31:=(q7u (mOf (q1y f_y47 (q00 (mVar 1) (q00 (mVar 2) mNil)))))
def qop:RhO:=
 (sSeq (sOwn 3 (mLst mNil))
 (sSeq (sFor w31 (q2b 2 (q0n (gSet 4) (q0n (gSet 5) q2c)))
   (sMut q25 3 (q00 (q0k f_y48 (q00 (q0k f_y40 (q00 (mVar 0) (q00 (mOp2 dAdd (mRet (.int 2)) (mOp2 dMod (mVar 4) (mMM (λi j=>if j>i then j else i) w0y))) mNil))) (q00 (mVar 4) (q00 (mVar 5) mNil)))) mNil)))
 (q5w 3)))
def f_y49:List D->Option D:=runP true 3 6 qop
theorem qs5:q1q 3 f_y49:=q1f
theorem qr1(T:Txt K mg a):FnOk P w K mg base CX0 4 a.f_y49 a.fd_y49 w26 (spP K true 3 f_y49):=by
 have G_y47:=@qr3 P w K mg base a T;have G_y40:=@qlo P w K mg base a T;have G_y48:=@qr2 P w K mg base a T;refine T.F_y49.ok sc_y49 (λ_ _ _ _ h=>h.1) (λcdv A outer s H vs Q E hr h=>?_)
 ·refine⟨_,(q06 (zsA 3 sc_y49.nd (q2r q05)) (q06 (q31 jv rfl (qay (K:=K) rfl (by rfl) T.z_enumerate (q0d G_y47 hr.m (by rfl) T.mg_y47 T.F_y47.kp T.B_y47 .nil q14 (q01 (pv 1) (q01 (pv 2) q05)))) (q4b (K:=K) rfl rfl (q1v (zgA 4 sc_y49.nd) (q1v (zgA 5 sc_y49.nd) q4a))) (q0b (q3u (q9q PySem.F.plainAttrs_list PySem.F.slot_list_append PySem.F.type_list_append q3i (pv 3) (q01 (q0d G_y48 hr.m (by rfl) T.mg_y48 T.F_y48.kp T.B_y48 .nil q14 (q01 (q0d G_y40 hr.m (by rfl) T.mg_y40 T.F_y40.kp T.B_y40 .nil q14 (q01 (pv 0) (q01 (q13 (q1u (K:=K) rfl) q07 (q13 q2k (pv 4) (q11 (qi1 rfl) (by rfl) T.z_max (by rfl) (q01 q07 (q01 (q13 qcj (q11 (q1e (K:=K) rfl) (by rfl) T.z_len (by rfl) (q01 (pv 0) q05)) q07) q05))))) q05))) (q01 (pv 4) (q01 (pv 5) q05)))) q05))))) (q0b (q0y (pv 3))))),?_⟩;exact q0l (O':=[]) (Nms:=w2d) (f:=qop) (by unfold qop;exact(q0f (O1:=[3]) (q3o (q2w q08) rfl) (q0f (O1:=[3]) (q36 (O':=[3]) (qbc (q1o (q2x qv9 (q02 (q03 (i:=1)) (q02 (q03 (i:=2)) q08))))) rfl (q5h (q1w (q0t (i:=4)) (q1w (q0t (i:=5)) q4d))) (q86 q3z (by decide) (q02 (q0i qv8 (q02 (q0i qn5 (q02 (q03 (i:=0)) (q02 (q0g q2m me_int (q0g q2l (q03 (i:=4)) (qso (q02 me_int (q02 (q0g qcp (q19 q2i q1x) me_int) q08))))) q08))) (q02 (q03 (i:=4)) (q02 (q03 (i:=5)) q08)))) q08) rfl)) (q77 rfl (by first|decide|simp) rfl (by first|decide|simp))))) h
def qkg:RhO:=
 (sRet (qbf (mOp1 (dIsi (q7v "int")) (mVar 0)) (qjg (mOp1 (dIsi (q7v "bool")) (mVar 0)))))
def f_y50:List D->Option D:=runP false 1 1 qkg
theorem qv7:q1q 1 f_y50:=q1f
theorem qr0(T:Txt K mg a):FnOk P w K mg base CX0 1 a.f_y50 a.fd_y50 ["_law_found"] (spP K false 1 f_y50):=by
 refine T.F_y50.ok qps (λ_ _ _ _ h=>h.1) (λcdv A outer s H vs Q E hr h=>?_)
 ·refine⟨_,(q0b (q0y (qlj (q11 (q99 (K:=K) rfl) (by rfl) T.z_isinstance (by rfl) (q01 (pv 0) (q01 (qb1 (v:=.ty "int") (by rfl) T.z_int (by rfl) rfl) q05))) (qli (qqo (q11 (q99 (K:=K) rfl) (by rfl) T.z_isinstance (by rfl) (q01 (pv 0) (q01 (qb1 (v:=.ty "bool") (by rfl) T.z_bool (by rfl) rfl) q05)))))))),?_⟩;exact q0l (O':=[]) (Nms:=["_law_found"]) (f:=qkg) (by unfold qkg;exact(q16 rfl (qlw (qgx (qnl T) q1x) (qsm (qgx (qjo T) q1x))) rfl)) h
abbrev w15:=(sIf (mOr (mNot (q0q (mOp1 (dIsi (q7v "list")) (mVar 0)))) (q0q (mOp2 dNe (mOp1 dLen (mVar 0)) (mVar 1)))) (sRet (mRet (.bl false))) sNil)
abbrev w0u:=(qbf (q0k f_y50 (q00 (mVar 0) mNil)) (q87 dLe dLe (mRet (.int 0)) (mVar 0) (mRet (.int 1))))
def qkf:RhO:=
 (sSeq w15
 (sRet (mOp1 dAll (mOf (q22 1 [] none (mSeq (mVar 0)) (gSet 0) (mRet true) w0u)))))
def f_y51:List D->Option D:=runP false 2 2 qkf
theorem qv6:q1q 2 f_y51:=q1f
theorem qqz(T:Txt K mg a):FnOk P w K mg base CX0 2 a.f_y51 a.fd_y51 w1i (spP K false 2 f_y51):=by
 have G_y50:=@qr0 P w K mg base a T;refine T.F_y51.ok qpr (λ_ _ _ _ h=>h.1) (λcdv A outer s H vs Q E hr h=>?_)
 ·refine⟨_,(q06 (q3y (PW.pt (pw_or (qlh (q9m (q11 (q99 (K:=K) rfl) (by rfl) T.z_isinstance (by rfl) (q01 (pv 0) (q01 (qb1 (v:=.ty "list") (by rfl) T.z_list (by rfl) rfl) q05))))) (pw_or1 (q1b (q85 (K:=K) rfl hr.units) (q11 (q1e (K:=K) rfl) (by rfl) T.z_len (by rfl) (q01 (pv 0) q05)) (pv 1) (q1m _))))) (q0b (q0y qe5)) q26) (q0b (q0y (q11 (qkd (K:=K) rfl rfl) (by rfl) T.z_all (by rfl) (q01 (q2p (sc:=q04 qds) (N0:=w1i) rfl rfl rfl (show q23 _ _ ["_law_bit"] 1 [] _=true by decide+kernel) (q2t (K:=K) rfl (pv 0)) (λ_ _ _ _ _=>(q0s (i:=0) (show List.Nodup (["_law_bit"]:List Str)from(by decide+kernel)) rfl (Or.inl rfl))) (q1s (by decide)) (λ_ _ _ _ _=>q2h) (λ_ _ _ _ _=>(qlj (q0d G_y50 hr.m (by rfl) T.mg_y50 T.F_y50.kp T.B_y50 .nil q14 (q01 (pv 0) q05)) (qli (qiz qqu qqu q07 (pv 0) q07))))) q05))))),?_⟩;exact q0l (O':=[]) (Nms:=w1i) (f:=qkf) (by unfold qkf;exact(q0f (O1:=[]) (q40 (qsc (qlt (q9w (qgx (qjn T) q1x))) (q1c (q1n qe7 (q19 q2i q1x) q1x))) (q16 rfl qed rfl) (q2s rfl)) (q16 rfl (q19 qu6 (q1o (q27 (bw:=none) (q3p (q03 (i:=0))) (q0t (i:=0)) q39 (qlw (q0i qv7 (q02 (q03 (i:=0)) q08)) (qje q7q q7q me_int (q03 (i:=0)) me_int)))).mb) rfl))) h
abbrev w0m:=(mOp2 dIx (mOp2 dIx (mVar 1) (mRet (.int 2))) (mOp2 dMod (mVar 0) (mOp1 dLen (mOp2 dIx (mVar 1) (mRet (.int 2))))))
def qoo:RhO:=
 (sRet (mOp1 dSum (mOf (q22 1 [0] none (q30 (q00 (mVar 1) mNil)) (gSet 0) (mRet true) (mOp1 qbp w0m)))))
def f_y52:List D->Option D:=runP false 2 2 qoo
theorem qs4:q1q 2 f_y52:=q1f
theorem qqy(T:Txt K mg a):FnOk P w K mg base CX0 1 a.f_y52 a.fd_y52 w11 (spP K false 2 f_y52):=by
 refine T.F_y52.ok qpq (λ_ _ _ _ h=>h.1) (λcdv A outer s H vs Q E hr h=>?_)
 ·refine⟨_,(q0b (q0y (q11 (qdd (K:=K) rfl rfl) (by rfl) T.z_sum (by rfl) (q01 (q2p (sc:=q04 qdr) (N0:=w11) rfl rfl rfl (show q23 _ _ ["_law_number","_law_scheme_here"] 1 [0] _=true by decide+kernel) (q20 (by rfl) T.z_range (q01 (pv 1) q05)) (λ_ _ _ _ _=>(q0s (i:=0) (show List.Nodup (["_law_number","_law_scheme_here"]:List Str)from(by decide+kernel)) rfl (Or.inl rfl))) (q1s (by decide)) (λ_ _ _ _ _=>q2h) (λ_ _ _ _ _=>(q11 (qhx (K:=K) rfl rfl) (by rfl) T.z_sum (by rfl) (q01 (q1g (q0j (K:=K) rfl) (q1g (q0j (K:=K) rfl) (pv 1) q07) (q13 q2k (pv 0) (q11 (q1e (K:=K) rfl) (by rfl) T.z_len (by rfl) (q01 (q1g (q0j (K:=K) rfl) (pv 1) q07) q05)))) q05)))) q05)))),?_⟩;exact q0l (O':=[]) (Nms:=w11) (f:=qoo) (by unfold qoo;exact(q16 rfl (q19 qm5 (q1o (q27 (bw:=none) (q21 (q02 (q03 (i:=1)) q08)) (q0t (i:=0)) q39 (q19 qod (q0g q1k (q0g q1k (q03 (i:=1)) me_int) (q0g q2l (q03 (i:=0)) (q19 q2i (q0g q1k (q03 (i:=1)) me_int).mb))).mb))).mb) rfl)) h
abbrev w1n:=(sOwn 3 (q1y f_y41 (q00 (q0k f_y40 (q00 (mVar 0) (q00 (mRet (.int 1)) mNil))) (q00 (mRet (.int 1)) mNil))))
abbrev w1j:=(mSl (mVar 5) (mRet none) (q29 (mVar 7)))
abbrev w1c:=(mOr (mNot (q0q (q0k f_y51 (q00 (mVar 9) (q00 (mOp1 dLen (mVar 9)) mNil))))) (q0q (mOp2 dGt (mOp1 dLen (mVar 9)) (mVar 7))))
abbrev w19:=(sSet 2 (q17 f_y43 1 (q00 (mRet (.int 3)) (q00 (mOf (mLst (q00 (mRet (.str "open")) (q00 (mRet (.str "ended")) mNil)))) mNil))))
abbrev w16:=(mSl (mVar 0) (q29 (mRet (.int 2))) (mRet none))
abbrev w0v:=(q0q (mOp2 dNe (mSl (mOp2 dIx (q0k f_y39 (q00 (mVar 2) (q00 (mVar 4) (q00 (mOf (q7d dSeq (mVar 6))) mNil)))) (mRet (.int 1))) (mRet none) (q29 (mOp1 dLen (mVar 9)))) (mVar 9)))
abbrev w0r:=(sOwn 13 (q1y f_y41 (q00 (mVar 12) (q00 (mRet (.int 3)) mNil))))
abbrev w37:=(q00 (q17 f_y42 13 (q00 (mRet (.int 5)) mNil)) mNil)
abbrev w08:=(mOf (q22 1 [13] (some (13,1)) (q30 w37) (gSet 0) (mRet true) (q17 f_y42 1 (q00 (mRet (.int 2)) mNil))))
abbrev w1s:=(q0q (mOp2 dNe (mSl (mVar 9) (mRet none) (q29 (mOp1 dLen (mVar 11)))) (mSl (mVar 11) (mRet none) (q29 (mOp1 dLen (mVar 9))))))
abbrev w1q:=(sSet 11 (q0k f_y37 (q00 (mVar 2) (q00 (mVar 10) (q00 (mSl (mVar 6) (mRet none) (q29 (q0k f_y52 (q00 (mVar 2) (q00 (mVar 10) mNil))))) mNil)))))
abbrev w03:=(sSeq w1q (sIf w1s (sRet (mRet (.bl false))) sNil))
abbrev w30:=(q00 (mOp1 dLen (mVar 8)) (q00 (mOp1 dLen (mVar 15)) mNil))
abbrev w1p:=(q0q (mOp2 dNe (mSl (mOp2 dIx (q0k f_y39 (q00 (mVar 2) (q00 (mOp1 dLen (mVar 14)) (q00 (mVar 15) mNil)))) (mRet (.int 1))) (mRet none) (q29 (mOp1 dLen (mVar 9)))) (mVar 9)))
abbrev w3d:=(q0q (mOp2 dEq (q17 f_y42 13 (q00 (mRet (.int 3)) mNil)) (mRet (.int 0))))
abbrev w3c:=(mTup (q00 (mRet (.str "clear")) (q00 (q17 f_y42 13 (q00 (mRet (.int 2)) mNil)) mNil)))
abbrev w1o:=(sIf w3d (q4x 15 w3c (mVar 16)) sNil)
abbrev w00:=(sSeq (sFor (qbe w30) (gSet 16) w1o) (sIf w1p (sRet (mRet (.bl false))) sNil))
abbrev w3a:=(sSet 4 (q17 f_y42 3 (q00 (mRet (.int 15)) mNil)))
abbrev w2v:=(mSeq (mSl (mVar 0) (q29 (mRet (.int 2))) (q29 (mRet (.int 8)))))
abbrev w2n:=(sSet 6 (mOf (q1y f_y49 (q00 (mVar 0) (q00 (mVar 2) (q00 (mVar 5) mNil))))))
abbrev w28:=(sSet 9 (q0k f_y37 (q00 (mVar 2) (q00 (mVar 7) (q00 (mOf (q7d dSeq (mVar 8))) mNil)))))
abbrev w27:=(sSet 8 (mSl (mVar 6) (mRet none) (q29 (q0k f_y52 (q00 (mVar 2) (q00 (mVar 7) mNil))))))
abbrev w1t:=(sOwn 1 (q1y f_y41 (q00 (q0k f_y40 (q00 (mVar 0) (q00 (mRet (.int 0)) mNil))) (q00 (mRet (.int 0)) mNil))))
def qow:RhO:=
 (sSeq w1t
 (sSeq w19
 (sSeq w1n
 (sSeq w3a
 (sSeq (sSet 5 (mOf (q22 1 [3] (some (3,1)) (q30 (q00 (mVar 4) mNil)) (gSet 0) (mRet true) (q17 f_y42 1 (q00 (mRet (.int 2)) mNil)))))
 (sSeq w2n
 (sSeq (sSet 7 (q17 f_y42 3 (q00 (mOp2 dAdd (mVar 4) (mRet (.int 1))) mNil)))
 (sSeq w27
 (sSeq w28
 (sSeq (sIf w1c
   (sRet (mRet (.bl false)))
   sNil)
 (sSeq (sIf w0v
   (sRet (mRet (.bl false)))
   sNil)
 (sSeq (sFor (q30 (q00 (mVar 7) mNil)) (gSet 10)
   w03)
 (sSeq (sFor w2v (gSet 12)
   (sSeq w0r (sSeq (sSet 14 (mOp2 dAdd w1j w08)) (sSeq (sOwn 15 (q7t q7x (mVar 8) (mSl (mOf (q1y f_y49 (q00 (mOp2 dAdd (mOf (mLst w0t)) w16) (q00 (mVar 2) (q00 (mVar 14) mNil))))) (q29 (mOp1 dLen (mVar 8))) (mRet none)))) w00))))
 (sRet (mRet (.bl true))))))))))))))))
def f_law:List D->Option D:=runP false 1 17 qow
theorem qrz(T:Txt K mg a):FnOk P w K mg base CX0 9 a.f_law a.fd_law ["_law_script"] (spP K false 1 f_law):=by
 have G_y40:=@qlo P w K mg base a T;have G_y41:=@qr8 P w K mg base a T;have G_y43:=@qr7 P w K mg base a T;have G_y42:=@qln P w K mg base a T;have G_y49:=@qr1 P w K mg base a T;have G_y52:=@qqy P w K mg base a T;have G_y37:=@qrc P w K mg base a T;have G_y51:=@qqz P w K mg base a T;have G_y39:=@qra P w K mg base a T;refine T.F_law.ok sc_law (λ_ _ _ _ h=>h.1) (λcdv A outer s H vs Q E hr h=>?_)
 ·refine⟨_,(q06 (zsA 1 sc_law.nd (q0d G_y41 hr.m (by rfl) T.mg_y41 T.F_y41.kp T.B_y41 .nil q14 (q01 (q0d G_y40 hr.m (by rfl) T.mg_y40 T.F_y40.kp T.B_y40 .nil q14 (q01 (pv 0) (q01 q07 q05))) (q01 q07 q05)))) (q06 (zsA 2 sc_law.nd (q0d G_y43 hr.m (by rfl) T.mg_y43 T.F_y43.kp T.B_y43 .nil q14 (q01 (pv 1) (q01 q07 (q01 (q2r (q01 q38 (q01 q38 q05))) q05))))) (q06 (zsA 3 sc_law.nd (q0d G_y41 hr.m (by rfl) T.mg_y41 T.F_y41.kp T.B_y41 .nil q14 (q01 (q0d G_y40 hr.m (by rfl) T.mg_y40 T.F_y40.kp T.B_y40 .nil q14 (q01 (pv 0) (q01 q07 q05))) (q01 q07 q05)))) (q06 (zsA 4 sc_law.nd (q0d G_y42 hr.m (by rfl) T.mg_y42 T.F_y42.kp T.B_y42 .nil q14 (q01 (pv 3) (q01 q07 q05)))) (q06 (q5x (k:=5) (sc:=q04 qao) (N0:=w02) rfl rfl rfl (show q23 _ _ ["_law_k","_law_second"] 1 [3] _=true by decide+kernel) sc_law.nd rfl (Or.inl rfl) (q20 (by rfl) T.z_range (q01 (pv 4) q05)) (λ_ _ _ _ _=>(q0s (i:=0) (show List.Nodup (["_law_k","_law_second"]:List Str)from(by decide+kernel)) rfl (Or.inl rfl))) (q1s (by decide)) (λ_ _ _ _ _=>q2h) (λ_ _ _ _ _=>(q0d G_y42 hr.m (by rfl) T.mg_y42 T.F_y42.kp T.B_y42 .nil q14 (q01 (pv 1) (q01 q07 q05))))) (q06 (zsA 6 sc_law.nd (q0d G_y49 hr.m (by rfl) T.mg_y49 T.F_y49.kp T.B_y49 .nil q14 (q01 (pv 0) (q01 (pv 2) (q01 (pv 5) q05))))) (q06 (zsA 7 sc_law.nd (q0d G_y42 hr.m (by rfl) T.mg_y42 T.F_y42.kp T.B_y42 .nil q14 (q01 (pv 3) (q01 (q13 (q1u (K:=K) rfl) (pv 4) q07) q05)))) (q06 (zsA 8 sc_law.nd (q34 (q3t (K:=K) rfl) (pv 6) q48 (q3f (q0d G_y52 hr.m (by rfl) T.mg_y52 T.F_y52.kp T.B_y52 .nil q14 (q01 (pv 2) (q01 (pv 7) q05)))))) (q06 (zsA 9 sc_law.nd (q0d G_y37 hr.m (by rfl) T.mg_y37 T.F_y37.kp T.B_y37 .nil q14 (q01 (pv 2) (q01 (pv 7) (q01 (q2v (q67 (K:=K) rfl) (by rfl) T.z_list (by rfl) (q01 (pv 8) q05)) q05))))) (q06 (q3y (PW.pt (pw_or (qlh (q9m (q0d G_y51 hr.m (by rfl) T.mg_y51 T.F_y51.kp T.B_y51 .nil q14 (q01 (pv 9) (q01 (q11 (q1e (K:=K) rfl) (by rfl) T.z_len (by rfl) (q01 (pv 9) q05)) q05))))) (pw_or1 (q1b qj8 (q11 (q1e (K:=K) rfl) (by rfl) T.z_len (by rfl) (q01 (pv 9) q05)) (pv 7) (q1m _))))) (q0b (q0y qe5)) q26) (q06 (q3y (q1b (q85 (K:=K) rfl hr.units) (q34 (q3t (K:=K) rfl) (q1g (q0j (K:=K) rfl) (q0d G_y39 hr.m (by rfl) T.mg_y39 T.F_y39.kp T.B_y39 .nil q14 (q01 (pv 2) (q01 (pv 4) (q01 (q2v (q67 (K:=K) rfl) (by rfl) T.z_list (by rfl) (q01 (pv 6) q05)) q05)))) q07) q48 (q3f (q11 (q1e (K:=K) rfl) (by rfl) T.z_len (by rfl) (q01 (pv 9) q05)))) (pv 9) (q1m _)) (q0b (q0y qe5)) q26) (q06 (q31 jv rfl (q20 (by rfl) T.z_range (q01 (pv 7) q05)) (zgA 10 sc_law.nd) (q06 (zsA 11 sc_law.nd (q0d G_y37 hr.m (by rfl) T.mg_y37 T.F_y37.kp T.B_y37 .nil q14 (q01 (pv 2) (q01 (pv 10) (q01 (q34 (q3t (K:=K) rfl) (pv 6) q48 (q3f (q0d G_y52 hr.m (by rfl) T.mg_y52 T.F_y52.kp T.B_y52 .nil q14 (q01 (pv 2) (q01 (pv 10) q05))))) q05))))) (q0b (q3y (q1b (q85 (K:=K) rfl hr.units) (q34 (q3t (K:=K) rfl) (pv 9) q48 (q3f (q11 (q1e (K:=K) rfl) (by rfl) T.z_len (by rfl) (q01 (pv 11) q05)))) (q34 (q3t (K:=K) rfl) (pv 11) q48 (q3f (q11 (q1e (K:=K) rfl) (by rfl) T.z_len (by rfl) (q01 (pv 9) q05)))) (q1m _)) (q0b (q0y qe5)) q26)))) (q06 (q31 jv rfl (q2t (K:=K) rfl (q34 (q3t (K:=K) rfl) (pv 0) (q3f q07) (q3f q07))) (zgA 12 sc_law.nd) (q06 (zsA 13 sc_law.nd (q0d G_y41 hr.m (by rfl) T.mg_y41 T.F_y41.kp T.B_y41 .nil q14 (q01 (pv 12) (q01 q07 q05)))) (q06 (zsA 14 sc_law.nd (q13 (q1u (K:=K) rfl) (q34 (q3t (K:=K) rfl) (pv 5) q48 (q3f (pv 7))) (q2p (sc:=q04 qao) (N0:=w02) rfl rfl rfl (show q23 _ _ ["_law_k","_law_state_here"] 1 [13] _=true by decide+kernel) (q20 (by rfl) T.z_range (q01 (q0d G_y42 hr.m (by rfl) T.mg_y42 T.F_y42.kp T.B_y42 .nil q14 (q01 (pv 13) (q01 q07 q05))) q05)) (λ_ _ _ _ _=>(q0s (i:=0) (show List.Nodup (["_law_k","_law_state_here"]:List Str)from(by decide+kernel)) rfl (Or.inl rfl))) (q1s (by decide)) (λ_ _ _ _ _=>q2h) (λ_ _ _ _ _=>(q0d G_y42 hr.m (by rfl) T.mg_y42 T.F_y42.kp T.B_y42 .nil q14 (q01 (pv 1) (q01 q07 q05))))))) (q06 (zsA 15 sc_law.nd (q13 (q1u (K:=K) rfl) (pv 8) (q34 (q3t (K:=K) rfl) (q0d G_y49 hr.m (by rfl) T.mg_y49 T.F_y49.kp T.B_y49 .nil q14 (q01 (q13 (q1u (K:=K) rfl) (q2r (q01 q07 (q01 q07 q05))) (q34 (q3t (K:=K) rfl) (pv 0) (q3f q07) q48)) (q01 (pv 2) (q01 (pv 14) q05)))) (q3f (q11 (q1e (K:=K) rfl) (by rfl) T.z_len (by rfl) (q01 (pv 8) q05))) q48))) (q06 (q31 jv rfl (qg7 (by rfl) T.z_range (q01 (q11 (q1e (K:=K) rfl) (by rfl) T.z_len (by rfl) (q01 (pv 8) q05)) (q01 (q11 (q1e (K:=K) rfl) (by rfl) T.z_len (by rfl) (q01 (pv 15) q05)) q05))) (zgA 16 sc_law.nd) (q0b (q3y (q1b (q32 (K:=K) rfl hr.units) (q0d G_y42 hr.m (by rfl) T.mg_y42 T.F_y42.kp T.B_y42 .nil q14 (q01 (pv 13) (q01 q07 q05))) q07 (q1m _)) (q0b (q9n (q37 (q01 q38 (q01 (q0d G_y42 hr.m (by rfl) T.mg_y42 T.F_y42.kp T.B_y42 .nil q14 (q01 (pv 13) (q01 q07 q05))) q05))) (qcb (pv 15) (pv 16) set_list))) q26))) (q0b (q3y (q1b (q85 (K:=K) rfl hr.units) (q34 (q3t (K:=K) rfl) (q1g (q0j (K:=K) rfl) (q0d G_y39 hr.m (by rfl) T.mg_y39 T.F_y39.kp T.B_y39 .nil q14 (q01 (pv 2) (q01 (q11 (q1e (K:=K) rfl) (by rfl) T.z_len (by rfl) (q01 (pv 14) q05)) (q01 (pv 15) q05)))) q07) q48 (q3f (q11 (q1e (K:=K) rfl) (by rfl) T.z_len (by rfl) (q01 (pv 9) q05)))) (pv 9) (q1m _)) (q0b (q0y qe5)) q26))))))) (q0b (q0y qe5))))))))))))))),?_⟩;exact q0l (O':=[]) (Nms:=w02) (f:=qow) (by unfold qow;exact(q0f (O1:=[1]) (q3o (q2x qn4 (q02 (q0i qn5 (q02 (q03 (i:=0)) (q02 me_int q08))) (q02 me_int q08))) rfl) (q0f (O1:=[]) (q18 (q2e (i:=1) qvd (by decide) (q02 me_int (q02 (q1o (q2w (q02 me_str (q02 me_str q08)))) q08)))) (q0f (O1:=[3]) (q3o (q2x qn4 (q02 (q0i qn5 (q02 (q03 (i:=0)) (q02 me_int q08))) (q02 me_int q08))) rfl) (q0f (O1:=[3]) (q18 (q2e (i:=3) q5z (by decide) (q02 me_int q08))) (q0f (O1:=[3]) (q76 (q27 (bw:=(some (3,1))) (q21 (q02 (q03 (i:=4)) q08)) (q0t (i:=0)) q39 (q2e (i:=1) q5z (by decide) (q02 me_int q08))) rfl (by decide)) (q0f (O1:=[3]) (q18 (q1o (q2x qs5 (q02 (q03 (i:=0)) (q02 (q03 (i:=2)) (q02 (q03 (i:=5)) q08)))))) (q0f (O1:=[]) (q18 (q2e (i:=3) q5z (by decide) (q02 (q0g q2m (q03 (i:=4)) me_int) q08))) (q0f (O1:=[]) (q18 (q35 (q03 (i:=6)) q4c (q3j (q0i qs4 (q02 (q03 (i:=2)) (q02 (q03 (i:=7)) q08)))))) (q0f (O1:=[]) (q18 (q0i qs7 (q02 (q03 (i:=2)) (q02 (q03 (i:=7)) (q02 (q1o (q8w qbq (q03 (i:=8)))) q08))))) (q0f (O1:=[]) (q40 (qsc (qlt (q9w (q0i qv6 (q02 (q03 (i:=9)) (q02 (q19 q2i q1x) q08))))) (q1c (q1n q7q (q19 q2i q1x) q1x))) (q16 rfl qed rfl) (q2s rfl)) (q0f (O1:=[]) (q40 (q1c (q1n qe7 (q35 (q0g q1k (q0i qs6 (q02 (q03 (i:=2)) (q02 (q03 (i:=4)) (q02 (q1o (q8w qbq (q03 (i:=6)))) q08)))) me_int) q4c (q3j (q19 q2i q1x))) q1x)) (q16 rfl qed rfl) (q2s rfl)) (q0f (O1:=[]) (q36 (O':=[]) (q21 (q02 (q03 (i:=7)) q08)) rfl (q0t (i:=10)) (q0f (O1:=[]) (q18 (q0i qs7 (q02 (q03 (i:=2)) (q02 (q03 (i:=10)) (q02 (q35 (q03 (i:=6)) q4c (q3j (q0i qs4 (q02 (q03 (i:=2)) (q02 (q03 (i:=10)) q08))))) q08))))) (q40 (q1c (q1n qe7 (q35 (q03 (i:=9)) q4c (q3j (q19 q2i q1x))) (q35 (q03 (i:=11)) q4c (q3j (q19 q2i q1x))).mb)) (q16 rfl qed rfl) (q2s rfl)))) (q0f (O1:=[]) (q36 (O':=[]) (q3p (q35 (q03 (i:=0)) (q3j me_int) (q3j me_int))) rfl (q0t (i:=12)) (q0f (O1:=[13]) (q3o (q2x qn4 (q02 (q03 (i:=12)) (q02 me_int q08))) rfl) (q0f (O1:=[13]) (q18 (q0g q2m (q35 (q03 (i:=5)) q4c (q3j (q03 (i:=7)))) (q1o (q27 (bw:=(some (13,1))) (q21 (q02 (q2e (i:=13) q5z (by decide) (q02 me_int q08)) q08)) (q0t (i:=0)) q39 (q2e (i:=1) q5z (by decide) (q02 me_int q08)))))) (q0f (O1:=[13,15]) (q3o (qsg qlm (q03 (i:=8)) (q35 (q1o (q2x qs5 (q02 (q0g q2m (q1o (q2w (q02 me_int (q02 me_int q08)))) (q35 (q03 (i:=0)) (q3j me_int) q4c)) (q02 (q03 (i:=2)) (q02 (q03 (i:=14)) q08))))) (q3j (q19 q2i q1x)) q4c)) rfl) (q0f (O1:=[]) (q60 (q36 (O':=[13,15]) (qgv (q02 (q19 q2i q1x) (q02 (q19 q2i q1x) q08))) rfl (q0t (i:=16)) (q40 (q1c (q1n os_eq (q2e (i:=13) q5z (by decide) (q02 me_int q08)) me_int.mb)) (qba (by decide) (q3a (q02 me_str (q02 (q2e (i:=13) q5z (by decide) (q02 me_int q08)) q08))) (q03 (i:=16)) rfl) (q2s rfl))) rfl) (q40 (q1c (q1n qe7 (q35 (q0g q1k (q0i qs6 (q02 (q03 (i:=2)) (q02 (q19 q2i q1x) (q02 (q03 (i:=15)) q08)))) me_int) q4c (q3j (q19 q2i q1x))) q1x)) (q16 rfl qed rfl) (q2s rfl))))))) (q16 rfl qed rfl))))))))))))))) h
end
section
variable{r:Int}{taps:List Int}{rows:List (List Int)}{e:Str}
theorem p_y1(ok:q2g r taps rows e):f_y1 [schD r taps rows e]=some (.int (2^r.toNat)):=by
 have r0:=ok.r0;have r4:=ok.r4;have r6:r<=1000000:=by omega
 have hr:f_y0 [.int r]=some (.int (2^r.toNat)):=by unfold f_y0 b_y0;clear ok;walk_at "ev"
 unfold f_y1 b_y1 schD;clear ok;walk_at "ev"
theorem qgb(n:D):∀(f zm:Nat) (l o:Int),0<=l->l.toNat<2^f->(o=0∨o=1)->f<zm->∃l':Int,q2d w2e
 w0i zm [some n,some (.int l),some (.int o)]=some (.nx [some n,some (.int l'),some (.int ((o+(parF f l.toNat:Nat)) % 2))])
 |_,0,_,_,_,_,_,h=>absurd h (Nat.not_lt_zero _)
 | f,zm+1,l,o,l0,lf,ho,hf=>by
  have ht:w2e [some n,some (.int l),some (.int o)]=some (decide (0<l),[some n,some (.int l),some (.int o)]):=by walk_at "ev"
  by_cases hl:0<l
  ·cases f with
   |zero=>exact absurd lf (by omega)
   | succ f=>
    have hb:w0i [some n,some (.int l),some (.int o)]=some (.nx [some n,some (.int (l / 2)),some (.int (Builtin.bitXor o (Builtin.bitAnd l 1)))]):=by clear ht;walk_at "ev"
    have ex:Builtin.bitXor o (Builtin.bitAnd l 1)=(o+l % 2) % 2:=by rw[qoz l0];exact qid ho (by omega)
    have e2:(l / 2).toNat=l.toNat / 2:=by omega
    have lt2:(l / 2).toNat<2^f:=by rw[e2];rw[Nat.pow_succ]at lf;omega
    obtain⟨l',ih⟩:=qgb n f zm (l / 2) (Builtin.bitXor o (Builtin.bitAnd l 1)) (by omega) lt2 (by rw[ex];omega) (by omega);refine⟨l',?_⟩;rw[decide_eq_true hl]at ht;unfold q2d;rw[ht];dsimp only;rw[hb];dsimp only;rw[ih,ex,e2];have u:parF (f+1) l.toNat=(l.toNat % 2+parF f (l.toNat / 2)) % 2:=rfl;rw[u];have ev:((o+l % 2) % 2+(parF f (l.toNat / 2):Nat)) % 2=(o+(((l.toNat % 2+parF f (l.toNat / 2)) % 2:Nat):Int)) % 2:=by omega
    rw[ev]
  ·rw[decide_eq_false hl]at ht;refine⟨l,?_⟩;unfold q2d;rw[ht];dsimp only;have e0:l=0:=by omega
   subst e0;rw[show((0:Int)).toNat=0 from rfl,q9t];have ev:(o+((0:Nat):Int)) % 2=o:=by omega
   rw[ev]
theorem p_y2(n:Int)(h0:0<=n)(h:n<32):f_y2 [.int n]=some (.int (parF 5 n.toNat:Nat)):=by
 obtain⟨l',hw⟩:=qgb (.int n) 5 1000 n 0 h0 (by omega) (.inl rfl) (by decide);have e1:((0:Int)+(parF 5 n.toNat:Nat)) % 2=(parF 5 n.toNat:Nat):=by have:=qmp 5 n.toNat;omega
 rw[e1]at hw;generalize parF 5 n.toNat=p at hw ⊢;unfold f_y2 b_y2;generalize (1000:Nat)=zm at hw ⊢;clear h0 h e1;walk_at "ev"
theorem p_y3(ok:q2g r taps rows e)(z9 bit:Int)(a0:0<=z9)(a1:z9<2^r.toNat)(hb:bit=0∨bit=1):
 f_y3 [schD r taps rows e,.int z9,.int bit]=some (.tup [.int ((2*z9+bit) % 2^r.toNat),.tup ((taps.map (sgn (2*z9+bit))).map D.int)]):=by
 have p16:=q3e ok.r0 ok.r4;have hr:=p_y1 ok;have hp:=p_y2;have m0:(0:Int)<2^r.toNat:=by omega
 have cm:=q4p (n:=1) (js:=[3]) (fg:=gSet 0) (fe:=q0k f_y2 w12) (ρ:=[some (schD r taps rows e),some (.int z9),some (.int bit),some (.int (2*z9+bit)),none]) (λd=>match d with|.int t=>.int (sgn (2*z9+bit) t)|d=>d) (taps.map D.int) (λx hx=>by
  obtain⟨t,ht,rfl⟩:=List.mem_map.mp hx;refine⟨[some (.int t),some (.int (2*z9+bit))],rfl,?_⟩;have tb:=ok.tb t ht;have w0:0<=2*z9+bit:=by omega
  have ea:=qia w0 tb.1;have lt:(2*z9+bit).toNat &&& t.toNat<32:=Nat.lt_of_le_of_lt Nat.and_le_left (by omega);have hq:=p_y2 (((2*z9+bit).toNat &&& t.toNat:Nat):Int) (by omega) (by omega);rw[jm,<-ea]at hq;show _=some (D.int (sgn (2*z9+bit) t));unfold sgn;generalize 2*z9+bit=W at hq ⊢;generalize parF 5 (W.toNat &&& t.toNat)=z at hq ⊢;clear hx ht tb w0 ea lt hr hp hb a0 a1 m0 p16;walk_at "ev")
 have e2:(taps.map D.int).map (λd=>match d with|.int t=>D.int (sgn (2*z9+bit) t)|d=>d)=(taps.map (sgn (2*z9+bit))).map D.int:=by rw[jl,jl];rfl
 rw[e2]at cm;have ll:(taps.map D.int).length<=sizeLine:=by rw[j4];exact q1d (by have:=ok.t4;omega)
 unfold f_y3 b_y3;unfold schD at cm hr ⊢;generalize (taps.map (sgn (2*z9+bit))).map D.int=S at cm ⊢;generalize taps.map D.int=TS at cm hr ll ⊢;generalize (2:Int)^r.toNat=m at hr m0 a1 p16 ⊢;have two:2<=sizeLine:=by decide
 clear ok hp hb a0 a1 p16 e2;walk_at "ev"
theorem qgd(ok:q2g r taps rows e):f_y5 [schD r taps rows e]=some (.bl (isRing e)):=by
 have h1:=s_or;have h2:=s_er;have h3:=s_rr;unfold f_y5 b_y5 schD isRing;rcases ok.en with rfl|rfl|rfl
 ·rw[decide_eq_false (by decide)];clear ok;walk_at "ev"
 ·rw[decide_eq_false (by decide)];clear ok;walk_at "ev"
 ·rw[decide_eq_true rfl];clear ok;walk_at "ev"
theorem qmr(ok:q2g r taps rows e)(n:Int)(h:e="ring"->r<=n):f_y6 [schD r taps rows e,.int n]=some .non:=by
 have hr:=qgd ok;unfold f_y6 b_y6;cases hi:isRing e with
 | false=>
  rw[hi]at hr;clear ok hi;generalize schD r taps rows e=S at hr ⊢;walk_at "ev"
 | true=>
  rw[hi]at hr;have hn:¬n<r:=by have:=h (of_decide_eq_true hi);omega
  unfold schD at hr ⊢;clear ok hi h;walk_at "ev"
theorem qj6(ok:q2g r taps rows e):f_y7 [schD r taps rows e]=some (.int (q0a r e:Nat)):=by
 have h1:=s_oe;have h2:=s_ee;have h3:=s_re;have r0:=ok.r0;have er:((r.toNat:Nat):Int)=r:=by omega
 unfold f_y7 b_y7 schD q0a;rcases ok.en with rfl|rfl|rfl
 ·rw[if_neg (by decide)];clear ok;walk_at "ev"
 ·rw[if_pos rfl,er];clear ok er;walk_at "ev"
 ·rw[if_neg (by decide)];clear ok;walk_at "ev"
theorem q3c(ok:q2g r taps rows e):q0a r e<=4:=by have:=ok.r4;unfold q0a;split<;>omega
theorem qg1(ok:q2g r taps rows e)(k:Nat):atI (rows.map rowD) ((k:Int) % ((rows.map rowD).length:Nat))=some (.tup ((rowAt rows k).map D.int)):=by
 have m1:=ok.m1;have hk:k % rows.length<rows.length:=Nat.mod_lt _ (by omega);have e1:((k:Int) % ((rows.map rowD).length:Nat))=((k % rows.length:Nat):Int):=by rw[j4];exact(Int.natCast_emod k rows.length).symm
 rw[e1,q4h (by omega) (by rw[j4];omega),jm,j9];unfold rowAt;rw[jb hk];rfl
theorem qcf(ok:q2g r taps rows e)(k:Nat)(signs:List Int)(hl:signs.length<=1000):
 f_y4 [schD r taps rows e,.int k,.tup (signs.map D.int)]=some (.tup ((q73 (rowAt rows k) signs).map D.int)):=by
 have hr:=qg1 ok k;have ze:0<(rows.map rowD).length:=by have:=ok.m1;rw[j4];omega
 have hz:zipD (signs.map D.int) ((rowAt rows k).map D.int)=(signs.zip (rowAt rows k)).map λq=>D.tup [.int q.1,.int q.2]:=q9b _ _;have cm:∀ρ:Rho,q12 2 [] none (q2b 2 (q0n (gSet 0) (q0n (gSet 1) q2c))) (q0q (mOp2 dEq (mVar 1) (mRet (.int 1)))) (mVar 0) ((signs.zip (rowAt rows k)).map λq=>D.tup [.int q.1,.int q.2]) ρ=some ((q73 (rowAt rows k) signs).map D.int,ρ):=λρ=>by
  have:=q4q (n:=2) (js:=[]) (fg:=q2b 2 (q0n (gSet 0) (q0n (gSet 1) q2c))) (ft:=q0q (mOp2 dEq (mVar 1) (mRet (.int 1)))) (fe:=mVar 0) (ρ:=ρ) (λd=>match d with|.tup [_,.int b]=>b==1|_=>false) (λd=>match d with|.tup [x,_]=>x|d=>d) ((signs.zip (rowAt rows k)).map λq=>D.tup [.int q.1,.int q.2]) (λx hx=>by obtain⟨q,_,rfl⟩:=List.mem_map.mp hx;refine⟨[some (.int q.1),some (.int q.2)],rfl,?_,λ_=>rfl⟩;clear hr hz hx;walk_at "ev")
  rw[this,List.filter_map,jl];unfold q73;rw[jl];rfl
 have ll:((signs.zip (rowAt rows k)).map λq=>D.tup [.int q.1,.int q.2]).length<=sizeLine:=by rw[j4,kc];exact q1d (by have:=ke signs.length (rowAt rows k).length;omega)
 unfold f_y4 b_y4 schD;generalize (signs.zip (rowAt rows k)).map (λq=>D.tup [.int q.1,.int q.2])=Z at hz cm ll;generalize (q73 (rowAt rows k) signs).map D.int=Y at cm ⊢;generalize (rowAt rows k).map D.int=R at hr hz;generalize rows.map rowD=RS at hr ze ⊢;generalize signs.map D.int=S at hz ⊢;clear ok hl;walk_at "ev"
theorem qj3(t:Told):f_y19 [q1a t]=some (objD t):=by
 have h1:=t_cg;have h2:=t_cs;have h3:=t_gs;have h4:=t_cc;have h5:=t_gg;unfold f_y19 ql0;cases t with
 |clear b=>unfold q1a objD;walk_at "ev"
 |gap=>unfold q1a objD;walk_at "ev"
 |soft z o=>unfold q1a objD;walk_at "ev"
theorem p_cc(c b:Int):f_y13 [.obj "Clear" [("bit",.int c)],.int b]=some (.int (if b=c then 0 else 1)):=by
 have h1:fldO "Clear" "bit" (.obj "Clear" [("bit",.int c)])=some (.int c):=qbm (by simp[List.lookup_cons]);unfold f_y13 ql3;generalize D.obj "Clear" [("bit",.int c)]=X at h1 ⊢;by_cases h:b=c
 ·rw[if_pos h];have h':(b==c)=true:=beq_iff_eq.mpr h;clear h;walk_at "ev"
 ·rw[if_neg h];have h':(b==c)=false:=beq_eq_false_iff_ne.mpr h;walk_at "ev"
theorem p_gc(X:D)(b:Int):f_y15 [X,.int b]=some (.int 0):=by unfold f_y15 ql2;walk_at "ev"
theorem p_sc(z o b:Int):f_y18 [.obj "Soft" [("zero",.int z),("one",.int o)],.int b]=some (.int (if b=1 then o else z)):=by
 have nz:(("one":Str)=="zero")=false:=by decide+kernel
 have h1:fldO "Soft" "one" (.obj "Soft" [("zero",.int z),("one",.int o)])=some (.int o):=qbm (by rw[List.lookup_cons,nz];simp[List.lookup_cons]);have h2:fldO "Soft" "zero" (.obj "Soft" [("zero",.int z),("one",.int o)])=some (.int z):=qbm (by simp[List.lookup_cons]);unfold f_y18 ql1;generalize D.obj "Soft" [("zero",.int z),("one",.int o)]=X at h1 h2 ⊢;by_cases h:b=1
 ·rw[if_pos h];subst h;walk_at "ev"
 ·rw[if_neg h];have h':(b==1)=false:=beq_eq_false_iff_ne.mpr h;walk_at "ev"
theorem qmq(t:Told)(b:Int):w04 [some (objD t),some (.int b)]=some (.int (q6i t b),[some (objD t),some (.int b)]):=by
 have n1:¬(("Gap":Str)="Clear"):=by decide+kernel
 have n2:¬(("Soft":Str)="Clear"):=by decide+kernel
 have n3:¬(("Soft":Str)="Gap"):=by decide+kernel
 have m1:(("cost":Str)=="bit")=false:=by decide+kernel
 have m2:(("cost":Str)=="zero")=false:=by decide+kernel
 have m3:(("cost":Str)=="one")=false:=by decide+kernel
 cases t with
 | clear c=>
  have h1:q7r "Clear" "cost" f_y13 (objD (.clear c)) [.int b]=some (.int (q6i (.clear c) b)):=(q8x (by rw[List.lookup_cons,m1];rfl)).trans (p_cc c b);generalize objD (.clear c)=X at h1 ⊢;generalize q6i (.clear c) b=z at h1 ⊢;clear n1 n2 n3 m1 m2 m3;walk_at "ev"
 | gap=>
  have h1:q7r "Clear" "cost" f_y13 (objD .gap) [.int b]=none:=q7a n1;have h2:q7r "Gap" "cost" f_y15 (objD .gap) [.int b]=some (.int (q6i .gap b)):=(q8x rfl).trans (p_gc _ b);generalize objD .gap=X at h1 h2 ⊢;generalize q6i .gap b=z at h2 ⊢;clear n1 n2 n3 m1 m2 m3;walk_at "ev"
 | soft z o=>
  have h1:q7r "Clear" "cost" f_y13 (objD (.soft z o)) [.int b]=none:=q7a n2;have h2:q7r "Gap" "cost" f_y15 (objD (.soft z o)) [.int b]=none:=q7a n3;have h3:q7r "Soft" "cost" f_y18 (objD (.soft z o)) [.int b]=some (.int (q6i (.soft z o) b)):=(q8x (by rw[List.lookup_cons,m2,List.lookup_cons,m3];rfl)).trans (p_sc z o b);generalize objD (.soft z o)=X at h1 h2 h3 ⊢;generalize q6i (.soft z o) b=y at h3 ⊢;clear n1 n2 n3 m1 m2 m3;walk_at "ev"
theorem qgc(ok:q2g r taps rows e)(n:Nat)(h:e="ring"->r.toNat<=n):f_y9 [schD r taps rows e,.int n]=some (.int ((n+q0a r e:Nat):Int)):=by
 have r0:=ok.r0;have hc:=qmr ok n (λq=>by have:=h q;omega);have hz:=qj6 ok;have e1:((n+q0a r e:Nat):Int)=(n:Int)+(q0a r e:Nat):=by omega
 rw[e1];unfold f_y9 b_y9;generalize schD r taps rows e=S at hc hz ⊢;generalize (q0a r e:Nat)=z at hz ⊢;clear ok h e1 r0;walk_at "ev"
theorem qqj(S:D)(n' N nz:Int)(S2 F:List D)(v4:Option D)(z0:0<=sizeLine)(hst:f_y3 [S,.int 0,.int 0]=some (.tup [.int nz,.tup S2]))(hs:f_y9 [S,.int n']=some (.int N))(bg:big N=true)
 (l1:q1p (gSet 4) w3h (q15 0 N.toNat) [some S,some (.int n'),some (.tup S2),some (.lst []),none]=some (.nx [some S,some (.int n'),some (.tup S2),some (.lst F),v4])):f_y10 [S,.int n']=some (.lst F):=by
 unfold f_y10 ql4;walk_at "ev"
theorem qcg(ok:q2g r taps rows e)(n:Nat)(hn:n<=60)(h:e="ring"->r.toNat<=n):f_y10 [schD r taps rows e,.int n]=some (.lst ((q0c taps rows (n+q0a r e)).map D.int)):=by
 have z4:=q3c ok;have hs:=qgc ok n h;have p16:=q3e ok.r0 ok.r4;have hst:=p_y3 ok 0 0 (by omega) (by omega) (.inl rfl);have ht:=qcf ok;have sl:∀k,(q73 (rowAt rows k) (taps.map (sgn (2*0+0)))).length=(selK taps rows k).length:=λk=>by rw[q9p,j4];rfl
 have s4:∀k,(selK taps rows k).length<=4:=λk=>by unfold selK;refine ju (List.length_filter_le _ _) ?_;rw[kc];have:=ok.t4;have:=ke taps.length (rowAt rows k).length;omega
 have st:=λk:Nat=>ht k (taps.map (sgn (2*0+0))) (by rw[j4];have:=ok.t4;omega);generalize hS2:(taps.map (sgn (2*0+0))).map D.int=S2 at hst st;obtain⟨ρ',l1,v4,hρ⟩:=q2q (fg:=gSet 4) (fb:=sExt 3 (mRep (mLst (q00 (mVar 4) mNil)) w0c))
  (λk ρ=>∃v4,ρ=[some (schD r taps rows e),some (.int (n:Int)),some (.tup S2),some (.lst ((q0c taps rows k).map D.int)),v4]) (q15 0 (n+q0a r e)) 0
  [some (schD r taps rows e),some (.int (n:Int)),some (.tup S2),some (.lst []),none] ⟨none,rfl⟩ (λi x ρ hx ⟨v4,hρ⟩=>by
   subst hρ;obtain⟨hi,rfl⟩:=q1t hx;rw[jo,Int.zero_add];have eP:q0c taps rows (i+1)=q0c taps rows i++List.replicate (selK taps rows i).length (i:Int):=q42 _ _;rw[eP,jt,List.map_replicate];have hsa:=st i;have hln:(((q73 (rowAt rows i) (taps.map (sgn (2*0+0)))).map D.int).length:Int)=((selK taps rows i).length:Nat):=by rw[j4,sl]
   have hrp:repO [D.int (i:Int)] (.int ((selK taps rows i).length:Nat))=some (List.replicate (selK taps rows i).length (.int (i:Int))):=by rw[qat _ (by omega) (by have:=s4 i;omega),jm]
   have ln:((q0c taps rows i).map D.int).length+(List.replicate (selK taps rows i).length (D.int (i:Int))).length<=sizeLine:=by have q1:(q0c taps rows i).length<=i*4:=q6s _ 4 (λk=>by rw[jj];exact s4 k) i;have q2:=s4 i;rw[j4,jj];exact q1d (by omega)
   generalize (q73 (rowAt rows i) (taps.map (sgn (2*0+0)))).map D.int=PK at hsa hln;rw[<-hln]at hrp;generalize List.replicate (selK taps rows i).length (D.int (i:Int))=RP at hrp ln ⊢;generalize (q0c taps rows i).map D.int=F at ln ⊢;refine⟨_,[some (schD r taps rows e),some (.int (n:Int)),some (.tup S2),some (.lst (F++RP)),some (.int (i:Int))],rfl,.inl ?_,some (.int (i:Int)),rfl⟩;have one:1<=sizeLine:=by decide
   generalize schD r taps rows e=S at hsa ⊢;clear hln eP hst st sl s4 hs ok ht hi hx p16 hS2 h;have hrep:(mRep (mLst (q00 (mVar 4) mNil)) w0c) [some S,some (.int (n:Int)),some (.tup S2),some (.lst F),some (.int (i:Int))]=some (RP,[some S,some (.int (n:Int)),some (.tup S2),some (.lst F),some (.int (i:Int))]):=by
    refine qc2 (xs:=[.int (i:Int)]) (y:=.int (PK.length:Nat)) (ρ1:=[some S,some (.int (n:Int)),some (.tup S2),some (.lst F),some (.int (i:Int))]) ?_ ?_ hrp
    ·clear hrp hsa ln;generalize (n:Int)=n';generalize (i:Int)=i';walk_at "ev"
    ·clear hrp ln;generalize (n:Int)=n';generalize (i:Int)=i' at hsa ⊢;walk_at "ev"
   generalize (mRep (mLst (q00 (mVar 4) mNil)) w0c)=FR at hrep ⊢;clear hrp hsa;generalize (n:Int)=n' at hrep ⊢;generalize (i:Int)=i' at hrep ⊢;walk_at "ev")
 subst hρ;rw[q1h,jo]at l1;have bg:big ((n+q0a r e:Nat):Int)=true:=by unfold big;simp;omega
 have z0:0<=sizeLine:=by decide
 have tn:((n+q0a r e:Nat):Int).toNat=n+q0a r e:=jm _;rw[<-tn]at l1;exact qqj _ _ _ _ _ _ _ z0 hst hs bg l1
theorem qj5(ok:q2g r taps rows e)(n:Nat)(hn:n<=60)(h:e="ring"->r.toNat<=n)(hs:List D)(hl:hs.length=(q0c taps rows (n+q0a r e)).length):f_y20 [schD r taps rows e,.int n,.lst hs]=some .non:=by
 have hp:=qcg ok n hn h;have hl2:hs.length=((q0c taps rows (n+q0a r e)).map D.int).length:=by rw[j4,hl]
 unfold f_y20 qkz;generalize (q0c taps rows (n+q0a r e)).map D.int=F at hp hl2;generalize schD r taps rows e=S at hp ⊢;clear ok h hl hn;walk_at "ev"
end
section
variable{r:Int}{taps:List Int}{rows:List (List Int)}{e:Str}
theorem qu7{n:Nat}{js:List Nat}{fg:RhG}{fe:RhD}{ρ:Rho}(G:D->Prop):∀(xs:List D),(∀x∈xs,∃ρ1 y,fg x (q5b n js ρ)=some ρ1/\(fe ρ1).map (·.1)=some y/\G y)->∃ys,q12 n js none fg (mRet true) fe xs ρ=some (ys,ρ)/\ys.length=xs.length/\∀y∈ys,G y
 |[],_=>⟨[],rfl,rfl,λ_ h=>nomatch h⟩
 | x::xs,h=>by
  obtain⟨ρ1,y,h1,h2,h3⟩:=h x jg;obtain⟨ρ2,h2⟩:=q92 h2;obtain⟨ys,g1,g2,g3⟩:=qu7 (fg:=fg) (fe:=fe) (ρ:=ρ) G xs λy hy=>h y (jh _ hy);refine⟨y::ys,?_,by rw[ji,ji,g2],λz hz=>?_⟩
  ·simp only[q12,h1,mRet,h2,q50];rw[g1]
  ·rcases List.mem_cons.mp hz with rfl|hz
   ·exact h3
   ·exact g3 z hz
theorem qqa{ρ ρ1:Rho}{fs:RhL}{n:Int}(h:fs ρ=some ([.int n],ρ1))(bg:big n=true):q30 fs ρ=some (q15 0 n.toNat,ρ1):=by rw[qhl,h];show((if big n=true then some (q15 0 n.toNat)else none).map λx=>(x,ρ1))=_;rw[if_pos bg];rfl
theorem q0v{f g:RhO}{ρ ρ1:Rho}(h:f ρ=some (.nx ρ1)):sSeq f g ρ=g ρ1:=by rw[qbo,h];rfl
theorem qc1{f g:RhO}{ρ ρ1:Rho}{d:D}(h:f ρ=some (.rt d ρ1)):sSeq f g ρ=some (.rt d ρ1):=by rw[qbo,h];rfl
theorem q4k{b:RhO}{n k:Nat}{ds:List D}{d:D}(hl:ds.length=n)(h:∃ρ,b (ds.map some++List.replicate (k-n) none)=some (.rt d ρ)):runP false n k b ds=some d:=by obtain⟨ρ,h⟩:=h;unfold runP;rw[if_pos hl,h]
end
section
variable{r:Int}{taps:List Int}{rows:List (List Int)}{e:Str}
theorem qj2(ts:List Told)(bits:List Int)(hl:ts.length<=1000):f_y21 [.lst (ts.map objD),.tup (bits.map D.int)]=some (.int (q4z ts bits)):=by
 have hz:zipD (ts.map objD) (bits.map D.int)=(ts.zip bits).map λq=>D.tup [objD q.1,.int q.2]:=by rw[q8j,q6o,jl];rfl
 have cm:∀ρ:Rho,q12 2 [] none (q2b 2 (q0n (gSet 0) (q0n (gSet 1) q2c))) (mRet true) w04 ((ts.zip bits).map λq=>D.tup [objD q.1,.int q.2]) ρ=some (((ts.zip bits).map λq=>q6i q.1 q.2).map D.int,ρ):=λρ=>by
  have:∀zs:List (Told×Int),q12 2 [] none (q2b 2 (q0n (gSet 0) (q0n (gSet 1) q2c))) (mRet true) w04 (zs.map λq=>D.tup [objD q.1,.int q.2]) ρ=some ((zs.map λq=>q6i q.1 q.2).map D.int,ρ):=λzs=>by
   induction zs with
   |nil=>rfl
   | cons q zs ih=>
    have hg:(q2b 2 (q0n (gSet 0) (q0n (gSet 1) q2c))) (D.tup [objD q.1,.int q.2]) (q5b 2 [] ρ)=some [some (objD q.1),some (.int q.2)]:=rfl;rw[jr];unfold q12;rw[hg];dsimp only[mRet];rw[qmq q.1 q.2];dsimp only[q50];rw[ih];rfl
  exact this _
 have ll:((ts.zip bits).map λq=>D.tup [objD q.1,.int q.2]).length<=sizeLine:=by rw[j4,kc];exact q1d (by have:=ke ts.length bits.length;omega)
 have hi:=q3k ((ts.zip bits).map λq=>q6i q.1 q.2);unfold f_y21 qky q4z;generalize (ts.zip bits).map (λq=>D.tup [objD q.1,.int q.2])=Z at hz cm ll;generalize (ts.zip bits).map (λq=>q6i q.1 q.2)=Y at cm hi ⊢;generalize ts.map objD=TS at hz ⊢;generalize bits.map D.int=B at hz ⊢;generalize Y.map D.int=YD at cm hi;clear hl;walk_at "ev"
theorem qmd(S T:D)(n' N:Int)(hs:f_y9 [S,.int n']=some (.int N))(bg:big N=true):qei [some S,some (.int n'),some T,none,none,none]=some (q15 0 N.toNat,[some S,some (.int n'),some T,none,none,none]):=by unfold qei;walk_at "ev"
theorem qq7(S:D)(n':Int)(T P Z:List D)(hp:f_y10 [S,.int n']=some (.lst P))(hz:zipD P T=Z):(mZip (q00 w1x (q00 (mVar 2) mNil))) [some S,some (.int n'),some (.lst T),none,none,none]=some (Z,[some S,some (.int n'),some (.lst T),none,none,none]):=by walk_at "ev"
theorem qq8(S T u t o:D)(n':Int)(h:f_y19 [t]=some o):(q00 (q0k f_y19 (q00 (mVar 5) mNil)) mNil) [some S,some (.int n'),some T,none,some u,some t]=some ([o],[some S,some (.int n'),some T,none,some u,some t]):=by walk_at "ev"
theorem qv0(ok:q2g r taps rows e)(n:Nat)(hn:n<=60)(h:e="ring"->r.toNat<=n)(ts:List Told)(hl:ts.length=(q0c taps rows (n+q0a r e)).length):
 f_y22 [schD r taps rows e,.int n,.lst (ts.map q1a)]=some (.lst ((List.range (n+q0a r e)).map λk=>D.lst ((chunk taps rows ts k).map objD))):=by
 have z4:=q3c ok;have hs:=qgc ok n h;have hp:=qcg ok n hn h;have s4:∀k,(selK taps rows k).length<=4:=λk=>by unfold selK;refine ju (List.length_filter_le _ _) ?_;rw[kc];have:=ok.t4;have:=ke taps.length (rowAt rows k).length;omega
 have q1:(q0c taps rows (n+q0a r e)).length<=(n+q0a r e)*4:=q6s _ 4 (λk=>by rw[jj];exact s4 k) _;have bg:big ((n+q0a r e:Nat):Int)=true:=by unfold big;simp;omega
 have hi:=qmd (schD r taps rows e) (.lst (ts.map q1a)) n _ hs bg;rw[jm]at hi;have hz:zipD ((q0c taps rows (n+q0a r e)).map D.int) (ts.map q1a)=((q0c taps rows (n+q0a r e)).zip ts).map λq=>D.tup [.int q.1,q1a q.2]:=by rw[q8j,q6o,jl];rfl
 have hzz:=qq7 (schD r taps rows e) n (ts.map q1a) _ _ hp hz;obtain⟨u',v',hr⟩:=qc4 (i:=3) (a:=4) (b:=5) (fe:=mVar 4) (fs:=q00 (q0k f_y19 (q00 (mVar 5) mNil)) mNil) q1a objD (λu v=>[some (schD r taps rows e),some (.int n),some (.lst (ts.map q1a)),none,u,v]) (λ_ _=>rfl) (λ_ _ _ _=>rfl) (λ_ _=>rfl) (λk t=>qq8 _ _ _ _ _ _ (qj3 t))
  ((q0c taps rows (n+q0a r e)).zip ts) (List.replicate (n+q0a r e) []) none none (λq hq=>by
    have hm:=(List.of_mem_zip hq).1;unfold q0c at hm;obtain⟨k,hk,hm⟩:=List.mem_flatMap.mp hm;rw[List.eq_of_mem_replicate hm,jj];exact⟨by omega,by rw[jm];exact List.mem_range.mp hk⟩) (λg hg=>by
    rw[List.eq_of_mem_replicate hg,kc];have:=ke (q0c taps rows (n+q0a r e)).length ts.length;exact jn (by simp;omega:_<1000) (by decide))
 rw[qg4 (n+q0a r e) (by omega),List.map_replicate,jl]at hr;show qep (qa7 _)=_;have hD:qa7 [schD r taps rows e,.int n,.lst (ts.map q1a)]=some ((List.range (n+q0a r e)).map ((λg=>g.map objD)∘chunk taps rows ts)):=by
  unfold qa7 qas;refine(if_pos rfl).trans ?_;show(match qei [some (schD r taps rows e),some (.int n),some (.lst (ts.map q1a)),none,none,none]with
   | some (xs,ρ1)=>if 3<ρ1.length/\xs.length<=sizeLine then(match qeu (ρ1.set 3 none) (List.replicate xs.length [])with
    |some p=>some p.2
    |none=>none)else none
   |none=>none)=_
  rw[hi];simp only;rw[if_pos ⟨by simp,by rw[q1h];exact q1d (by omega)⟩,q1h];have hb:qeu [some (schD r taps rows e),some (.int n),some (.lst (ts.map q1a)),none,none,none] (List.replicate (n+q0a r e) [])=some ([some (schD r taps rows e),some (.int n),some (.lst (ts.map q1a)),none,u',v'],(List.range (n+q0a r e)).map ((λg=>g.map objD)∘chunk taps rows ts)):=by unfold qeu qd5;rw[hzz];exact(if_pos rfl).trans hr
  have es:([some (schD r taps rows e),some (.int n),some (.lst (ts.map q1a)),none,none,none]:Rho).set 3 none=[some (schD r taps rows e),some (.int n),some (.lst (ts.map q1a)),none,none,none]:=rfl;rw[es,hb]
 rw[hD];show some (D.lst _)=some (D.lst _);rw[jl];rfl
theorem qsb(S:D)(k' z9 bit nx c:Int)(G S2 P:List D)(two:2<=sizeLine)(h1:f_y3 [S,.int z9,.int bit]=some (.tup [.int nx,.tup S2]))(h2:f_y4 [S,.int k',.tup S2]=some (.tup P))(h3:f_y21 [.lst G,.tup P]=some (.int c)):f_y23 [S,.int k',.lst G,.int z9,.int bit]=some (.tup [.int nx,.int c]):=by unfold f_y23 qkx;walk_at "ev"
theorem quz(ok:q2g r taps rows e)(k:Nat)(ts:List Told)(hl:(chunk taps rows ts k).length<=1000)(z9 bit:Int)(a0:0<=z9)(a1:z9<2^r.toNat)(hb:bit=0∨bit=1):f_y23 [schD r taps rows e,.int k,.lst ((chunk taps rows ts k).map objD),.int z9,.int bit]=some (mvD (mvK r taps rows ts k z9 bit)):=
 qsb _ _ _ _ _ _ _ _ _ (by decide) (p_y3 ok z9 bit a0 a1 hb) (qcf ok k _ (by rw[j4];have:=ok.t4;omega)) (qj2 _ _ hl)
theorem qsk(S:D)(k' z9:Int)(G BS YS:List D)(ll:BS.length<=sizeLine)(cm:q12 1 [0,1,2,3] none (gSet 0) (mRet true) (q0k f_y23 w0j) BS [some S,some (.int k'),some (.lst G),some (.int z9),some (.tup BS)]=some (YS,[some S,some (.int k'),some (.lst G),some (.int z9),some (.tup BS)])):f_y24 [S,.int k',.lst G,.int z9,.tup BS]=some (.lst YS):=by unfold f_y24 qkw;walk_at "ev"
theorem qsl(S:D)(k' z9 b:Int)(G:List D)(y:D)(h:f_y23 [S,.int k',.lst G,.int z9,.int b]=some y):((q0k f_y23 w0j) [some (.int b),some S,some (.int k'),some (.lst G),some (.int z9)]).map (·.1)=some y:=by walk_at "ev"
theorem p_mf(ok:q2g r taps rows e)(k:Nat)(ts:List Told)(hl:(chunk taps rows ts k).length<=1000)(z9:Int)(a0:0<=z9)(a1:z9<2^r.toNat)(n:Nat):f_y24 [schD r taps rows e,.int k,.lst ((chunk taps rows ts k).map objD),.int z9,.tup ((q3x n k).map D.int)]=some (chD ((q3x n k).map λb=>mvK r taps rows ts k z9 b)):=by
 have l2:(q3x n k).length<=2:=by unfold q3x;split<;>simp
 have hb:∀b∈q3x n k,b=0∨b=1:=by unfold q3x;split<;>simp
 have cm:=q4p (n:=1) (js:=[0,1,2,3]) (fg:=gSet 0) (fe:=q0k f_y23 w0j)
  (ρ:=[some (schD r taps rows e),some (.int k),some (.lst ((chunk taps rows ts k).map objD)),some (.int z9),some (.tup ((q3x n k).map D.int))]) (λd=>match d with|.int b=>mvD (mvK r taps rows ts k z9 b)|d=>d) ((q3x n k).map D.int) (λx hx=>by obtain⟨b,hm,rfl⟩:=List.mem_map.mp hx;exact⟨_,rfl,qsl _ _ _ _ _ _ (quz ok k ts hl z9 b a0 a1 (hb b hm))⟩)
 rw[jl]at cm;have:=qsk _ _ _ _ _ _ (q1d (by rw[j4];omega)) cm;rw[this];unfold chD;rw[jl];rfl
theorem qj9(S T:D)(n' k':Int)(F:List D)(g:D)(v6:Option D)(two:2<=sizeLine)(n k:Nat)(hn:n'=(n:Nat))(hk:k'=(k:Nat)):w1r [some S,some (.int n'),some T,some (.lst F),some (.int k'),some g,v6]=some (.nx [some S,some (.int n'),some T,some (.lst F),some (.int k'),some g,some (.tup ((q3x n k).map D.int))]):=by
 have one:1<=sizeLine:=by decide
 unfold q3x;by_cases h:k<n
 ·have h':k'<n':=by omega
  rw[if_pos h];show _=some (Out.nx [_,_,_,_,_,_,some (.tup [.int 0,.int 1])]);clear hn hk h;walk_at "ev"
 ·have h':¬k'<n':=by omega
  rw[if_neg h];show _=some (Out.nx [_,_,_,_,_,_,some (.tup [.int 0])]);clear hn hk h;walk_at "ev"
theorem qn8(S T:D)(n' k' M:Int)(F YS:List D)(g bs:D)(FE:RhD)(hr:f_y1 [S]=some (.int M))(bg:big M=true)(l1:(q15 0 M.toNat).length<=sizeLine)(l2:F.length<sizeLine)
 (cm:q12 1 [0,4,5,6] none (gSet 0) (mRet true) FE (q15 0 M.toNat) [some S,some (.int n'),some T,some (.lst F),some (.int k'),some g,some bs]=some (YS,[some S,some (.int n'),some T,some (.lst F),some (.int k'),some g,some bs])):
 (sMut q25 3 (q00 (mOf (q22 1 [0,4,5,6] none w0g (gSet 0) (mRet true) FE)) mNil)) [some S,some (.int n'),some T,some (.lst F),some (.int k'),some g,some bs]=some (.nx [some S,some (.int n'),some T,some (.lst (F++[.lst YS])),some (.int k'),some g,some bs]):=by
 walk_at "ev"
abbrev w0k:=w2g
theorem qn7(S:D)(k' z9:Int)(g bs y:D)(h:f_y24 [S,.int k',g,.int z9,bs]=some y):((q0k f_y24 w0k) [some (.int z9),some S,some (.int k'),some g,some bs]).map (·.1)=some y:=by walk_at "ev"
theorem qn6(S:D)(n':Int)(T G F:List D)(v4 v5 v6:Option D)(FB:RhO)(z0:0<=sizeLine)(hc:f_y20 [S,.int n',.lst T]=some .non)(hg:f_y22 [S,.int n',.lst T]=some (.lst G))
 (l1:q1p (q2b 2 (q0n (gSet 4) (q0n (gSet 5) q2c))) FB (q43 G) [some S,some (.int n'),some (.lst T),some (.lst []),none,none,none]=some (.nx [some S,some (.int n'),some (.lst T),some (.lst F),v4,v5,v6])):
 (runP false 3 7 (sSeq (qar (q0k f_y20 w07)) (sSeq (sOwn 3 (mLst mNil)) (sSeq (sFor (q7u (q0k f_y22 w07)) (q2b 2 (q0n (gSet 4) (q0n (gSet 5) q2c))) FB) (sRet (mVar 3)))))) [S,.int n',.lst T]=some (.lst F):=by
 walk_at "ev"
theorem qqr(ok:q2g r taps rows e)(n:Nat)(hn:n<=60)(h:e="ring"->r.toNat<=n)(ts:List Told)(hl:ts.length=(q0c taps rows (n+q0a r e)).length):
 f_y25 [schD r taps rows e,.int n,.lst (ts.map q1a)]=some (stD (q0z r taps rows ts n 0 (n+q0a r e))):=by
 have z4:=q3c ok;have p16:=q3e ok.r0 ok.r4;have hc:=qj5 ok n hn h (ts.map q1a) (by rw[j4];exact hl);have hg:=qv0 ok n hn h ts hl;have hr:=p_y1 ok;have pn:=q2o (r:=r);have s4:∀k,(selK taps rows k).length<=4:=λk=>by unfold selK;refine ju (List.length_filter_le _ _) ?_;rw[kc];have:=ok.t4;have:=ke taps.length (rowAt rows k).length;omega
 have c4:∀k,(chunk taps rows ts k).length<=1000:=λk=>by unfold chunk;rw[x6];have:=s4 k;omega
 have bg:big ((2:Int)^r.toNat)=true:=by unfold big;simp;omega
 have tn:((2:Int)^r.toNat).toNat=2^r.toNat:=by omega
 have lr:(q15 0 ((2:Int)^r.toNat).toNat).length<=sizeLine:=by rw[q1h,tn];exact q1d (by omega)
 obtain⟨ρ',l1,v4,v5,v6,hρ⟩:=q2q (fg:=q2b 2 (q0n (gSet 4) (q0n (gSet 5) q2c))) (fb:=w05)
  (λk ρ=>∃v4 v5 v6,ρ=[some (schD r taps rows e),some (.int (n:Int)),some (.lst (ts.map q1a)),some (.lst ((q0z r taps rows ts n 0 k).map sxD)),v4,v5,v6]) (q43 ((List.range (n+q0a r e)).map λk=>D.lst ((chunk taps rows ts k).map objD))) 0
  [some (schD r taps rows e),some (.int (n:Int)),some (.lst (ts.map q1a)),some (.lst []),none,none,none] ⟨none,none,none,rfl⟩ (λi x ρ hx ⟨v4,v5,v6,hρ⟩=>by
   subst hρ;rw[q5n,j9]at hx;have hi:i<n+q0a r e:=by
    rcases Nat.lt_or_ge i (n+q0a r e)with z|z
    ·exact z
    ·rw[xg (by simp;omega)]at hx;cases hx
   rw[xn hi]at hx;have hx:x=D.tup [.int (i:Int),.lst ((chunk taps rows ts i).map objD)]:=(ja hx).symm;subst hx;rw[jo];have cm:=q4p (n:=1) (js:=[0,4,5,6]) (fg:=gSet 0) (fe:=q0k f_y24 w0k)
    (ρ:=[some (schD r taps rows e),some (.int (n:Int)),some (.lst (ts.map q1a)),some (.lst ((q0z r taps rows ts n 0 i).map sxD)),some (.int (i:Int)),some (.lst ((chunk taps rows ts i).map objD)),some (.tup ((q3x n i).map D.int))])
    (λd=>match d with|.int z9=>chD ((q3x n i).map λb=>mvK r taps rows ts i z9 b)|d=>d) (q15 0 ((2:Int)^r.toNat).toNat) (λx hx=>by obtain⟨k,hk⟩:=List.mem_iff_getElem?.mp hx;obtain⟨hk1,rfl⟩:=q1t hk;rw[Int.zero_add];exact⟨_,rfl,qn7 _ _ _ _ _ _ (p_mf ok i ts (c4 i) (k:Int) (by omega) (by omega) n)⟩)
   have ey:(q15 0 ((2:Int)^r.toNat).toNat).map (λd=>match d with|.int z9=>chD ((q3x n i).map λb=>mvK r taps rows ts i z9 b)|d=>d)=(stepK r taps rows ts n i).map chD:=by unfold q15 L2.stepK;rw[tn,jl,jl];refine List.map_congr_left λk _=>?_;simp
   rw[ey]at cm;have es:q0z r taps rows ts n 0 (i+1)=q0z r taps rows ts n 0 i++[stepK r taps rows ts n i]:=by unfold q0z;rw[List.range'_concat,jt];simp
   have lf:((q0z r taps rows ts n 0 i).map sxD).length<sizeLine:=by unfold q0z;rw[j4,j4,List.length_range'];exact jn (by omega:i<1000) (by decide)
   refine⟨_,[some (schD r taps rows e),some (.int (n:Int)),some (.lst (ts.map q1a)),some (.lst ((q0z r taps rows ts n 0 (i+1)).map sxD)),some (.int (i:Int)),some (.lst ((chunk taps rows ts i).map objD)),some (.tup ((q3x n i).map D.int))],rfl,.inl ?_,_,_,_,rfl⟩;refine(q0v (qj9 _ _ _ _ _ _ _ (by decide) n i rfl rfl)).trans ?_;rw[es,jt];exact qn8 _ _ _ _ _ _ _ _ _ _ hr bg lr lf cm)
 subst hρ;have le:(q43 ((List.range (n+q0a r e)).map λk=>D.lst ((chunk taps rows ts k).map objD))).length=n+q0a r e:=by unfold q43;simp
 rw[le,jo]at l1;unfold f_y25 qkv stD;exact qn6 _ _ _ _ _ _ _ _ _ (by decide) hc hg l1
end
theorem qog(a c x:Int)(B:List D)(h:atI B a=some (.int x)):f_y27 [.tup [.int a,.int c],.lst B]=some (.int (c+x)):=by unfold f_y27 qi8;walk_at "ev"
theorem qoh(a c:Int)(B:List D)(h:atI B a=some .non):f_y27 [.tup [.int a,.int c],.lst B]=some .non:=by unfold f_y27 qi8;walk_at "ev"
theorem qbv{t:Rw}{a:Int}(h0:0<=a)(h1:a.toNat<t.length):atI (t.map optI) a=some (optI (atR t a)):=by rw[q4h h0 (by rw[j4];omega),j9];unfold atR;rw[jb h1];rfl
theorem qch(q:Mv)(t:Rw)(h0:0<=q.1)(h1:q.1.toNat<t.length):f_y27 [mvD q,rwD t]=some (optI (q1z q t)):=by
 have h:=qbv h0 h1;unfold q1z;cases e:atR t q.1 with
 | none=>
  rw[e]at h;exact qoh _ _ _ h
 | some x=>
  rw[e]at h;exact qog _ _ _ _ h
theorem qsq(q zb y:D)(h:f_y27 [q,zb]=some y):((q0k f_y27 (q00 (mVar 0) (q00 (mVar 1) mNil))) [some q,some zb]).map (·.1)=some y:=by walk_at "ev"
theorem qsp(CH YS ZS:List D)(zb m:D)(l1:CH.length<=sizeLine)(l2:YS.length<=sizeLine)(cm:q12 1 [1] none (gSet 0) (mRet true) (q0k f_y27 (q00 (mVar 0) (q00 (mVar 1) mNil))) CH [some (.lst CH),some zb,none]=some (YS,[some (.lst CH),some zb,none]))
 (cf:q12 1 [] none (gSet 0) (q0q (mOp2 q5a (mVar 0) (mRet .non))) (mVar 0) YS [some (.lst CH),some zb,some (.lst YS)]=some (ZS,[some (.lst CH),some zb,some (.lst YS)])) (hm:qeo (.lst ZS)=some m):f_y28 [.lst CH,zb]=some m:=by
 unfold f_y28 qkt;generalize hd:qeo=dm at hm ⊢;walk_at "ev"
theorem q93:∀ys:List (Option Int),((ys.map optI).filter λd=>match d with|.non=>false|_=>true)=(ys.filterMap id).map D.int
 |[]=>rfl
 | none::ys=>by rw[jr,List.filter_cons];exact q93 ys
 | some x::ys=>by rw[jr,List.filter_cons];show D.int x::_=D.int x::_;rw[q93 ys]
theorem q9u(ch:List Mv)(t:Rw)(hl:ch.length<=1000)(h:∀q∈ch,0<=q.1/\q.1.toNat<t.length):f_y28 [chD ch,rwD t]=some (optI (q2a ch t)):=by
 have cm:=q4p (n:=1) (js:=[1]) (fg:=gSet 0) (fe:=q0k f_y27 (q00 (mVar 0) (q00 (mVar 1) mNil))) (ρ:=[some (chD ch),some (rwD t),none])
  (λd=>match d with|.tup [.int a,.int c]=>optI (q1z (a,c) t)|d=>d) (ch.map mvD) (λx hx=>by obtain⟨q,hq,rfl⟩:=List.mem_map.mp hx;exact⟨_,rfl,qsq _ _ _ (qch q t (h q hq).1 (h q hq).2)⟩)
 have e1:(ch.map mvD).map (λd=>match d with|.tup [.int a,.int c]=>optI (q1z (a,c) t)|d=>d)=(ch.map λq=>q1z q t).map optI:=by rw[jl,jl];rfl
 rw[e1]at cm;have cf:=q4q (n:=1) (js:=[]) (fg:=gSet 0) (ft:=q0q (mOp2 q5a (mVar 0) (mRet .non))) (fe:=mVar 0) (ρ:=[some (chD ch),some (rwD t),some (.lst ((ch.map λq=>q1z q t).map optI))])
  (λd=>match d with|.non=>false|_=>true) (λd=>d) ((ch.map λq=>q1z q t).map optI) (λx hx=>by
    obtain⟨o,_,rfl⟩:=List.mem_map.mp hx;refine⟨[some (optI o)],rfl,?_,λ_=>rfl⟩;cases o with
    |none=>rfl
    |some y=>rfl)
 have e2:∀zs:List D,zs.map (λd=>d)=zs:=λzs=>by simp
 rw[q93,e2]at cf;refine qsp _ _ _ _ _ (q1d (by rw[j4];omega)) (q1d (by rw[j4,j4];omega)) cm cf ?_;show(q3d _).map (λns=>optI (minI ns))=_;rw[q3k];rfl
theorem qlx{ch:List Mv}{hh:Rw}{y:D}(h:f_y28 [chD ch,rwD hh]=some y):(match chD ch with|.lst xs=>(match f_y28 [.lst xs,rwD hh]with|some y=>y|none=>.non)|d=>d)=y:=by unfold chD at h ⊢;dsimp only;rw[h]
theorem qub(ch zb y:D)(h:f_y28 [ch,zb]=some y):((q0k f_y28 (q00 (mVar 0) (q00 (mVar 1) mNil))) [some ch,some zb]).map (·.1)=some y:=by walk_at "ev"
theorem qp1(ST EN x:D)(TB:List D)(v4:Option D)(b:D)(h:atI TB (-1)=some b):w3j [some ST,some EN,some (.lst TB),some x,v4]=some (.nx [some ST,some EN,some (.lst TB),some x,some b]):=by walk_at "ev"
theorem quc(ST EN b:D)(TB CH YS:List D)(FE:RhD)(l1:CH.length<=sizeLine)(l2:TB.length<sizeLine)(cm:q12 1 [4] none (gSet 0) (mRet true) FE CH [some ST,some EN,some (.lst TB),some (.lst CH),some b]=some (YS,[some ST,some EN,some (.lst TB),some (.lst CH),some b])):
 (sMut q25 2 (q00 (mOf (q22 1 [4] none (mSeq (mVar 3)) (gSet 0) (mRet true) FE)) mNil)) [some ST,some EN,some (.lst TB),some (.lst CH),some b]=some (.nx [some ST,some EN,some (.lst (TB++[.lst YS])),some (.lst CH),some b]):=by
 walk_at "ev"
theorem qua(SS TB:List D)(EN:D)(v3 v4:Option D)(FB:RhO)(one:1<=sizeLine)(l1:q1p (gSet 3) FB SS.reverse [some (.lst SS),some EN,some (.lst [EN]),none,none]=some (.nx [some (.lst SS),some EN,some (.lst TB),v3,v4])):
 (runP false 2 5 (sSeq (sOwn 2 (mLst (q00 (mVar 1) mNil))) (sSeq (sFor (mRev (mVar 0)) (gSet 3) FB) (sRet (mOf (mRev (mVar 2))))))) [.lst SS,EN]=some (.lst TB.reverse):=by
 walk_at "ev"
theorem q91{z6:List Sx}{za:Rw}{M:Nat}(he:za.length=M)(hs:∀st∈z6,st.length=M):((q0e z6 za).headD []).length=M:=by
 cases z6 with
 |nil=>exact he
 | cons st rest=>
  show(st.map _).length=M;rw[j4];exact hs st jg
theorem qge(z6:List Sx)(za:Rw)(M:Nat)(hM:M<=1000)(hN:z6.length<=1000)(he:za.length=M)(hs:∀st∈z6,st.length=M/\∀ch∈st,ch.length<=2/\∀q∈ch,0<=q.1/\q.1.toNat<M):
 f_y29 [stD z6,rwD za]=some (tbD (q0e z6 za)):=by
 obtain⟨ρ',l1,v3,v4,hρ⟩:=q2q (fg:=gSet 3) (fb:=w0s)
  (λk ρ=>∃v3 v4,ρ=[some (stD z6),some (rwD za),some (.lst ((q0e (z6.drop (z6.length-k)) za).reverse.map rwD)),v3,v4]) (z6.map sxD).reverse 0
  [some (stD z6),some (rwD za),some (.lst [rwD za]),none,none] ⟨none,none,by rw[Nat.sub_zero,List.drop_length];rfl⟩ (λi x ρ hx ⟨v3,v4,hρ⟩=>by
   subst hρ;rw[jo];have hi:i<z6.length:=by have:=(List.getElem?_eq_some_iff.mp hx).1;simpa using this
   have hlt:z6.length-1-i<z6.length:=by omega
   rw[List.getElem?_reverse (by rw[j4];exact hi),j4,j9,jb hlt]at hx;have hx:x=sxD z6[z6.length-1-i]:=(ja hx).symm;subst hx;have hst:=hs _ (xo hlt);have ed:z6.drop (z6.length-(i+1))=z6[z6.length-1-i]::z6.drop (z6.length-i):=by rw[show z6.length-(i+1)=z6.length-1-i from by omega,xr hlt];congr 2;omega
   generalize z6[z6.length-1-i]=st at hst ed ⊢;rw[ed];have hd:((q0e (z6.drop (z6.length-i)) za).headD []).length=M:=q91 he λz hz=>(hs z (List.mem_of_mem_drop hz)).1;have hla:=q69 (z6.drop (z6.length-i)) za;have hlast:atI ((q0e (z6.drop (z6.length-i)) za).reverse.map rwD) (-1)=some (rwD ((q0e (z6.drop (z6.length-i)) za).headD [])):=by
    generalize q0e (z6.drop (z6.length-i)) za=tt at hla ⊢;cases tt with
    |nil=>simp at hla
    | cons a b=>
     rw[List.reverse_cons,jt];exact qoy _ _
   have eA:q0e (st::z6.drop (z6.length-i)) za=(st.map λch=>q2a ch ((q0e (z6.drop (z6.length-i)) za).headD []))::q0e (z6.drop (z6.length-i)) za:=rfl;rw[eA];generalize (q0e (z6.drop (z6.length-i)) za).headD []=hh at hd hlast ⊢;generalize q0e (z6.drop (z6.length-i)) za=tt at hla hlast ⊢;have cm:=q4p (n:=1) (js:=[4]) (fg:=gSet 0) (fe:=q0k f_y28 (q00 (mVar 0) (q00 (mVar 1) mNil))) (ρ:=[some (stD z6),some (rwD za),some (.lst (tt.reverse.map rwD)),some (sxD st),some (rwD hh)])
    (λd=>match d with|.lst xs=>(match f_y28 [.lst xs,rwD hh]with|some y=>y|none=>.non)|d=>d) (st.map chD) (λx hx=>by obtain⟨ch,hc,rfl⟩:=List.mem_map.mp hx;have hp:=q9u ch hh (by have:=(hst.2 ch hc).1;omega) (λq hq=>by rw[hd];exact(hst.2 ch hc).2 q hq);refine⟨_,rfl,?_⟩;rw[qlx hp];exact qub _ _ _ hp)
   have ey:(st.map chD).map (λd=>match d with|.lst xs=>(match f_y28 [.lst xs,rwD hh]with|some y=>y|none=>.non)|d=>d)=(st.map λch=>q2a ch hh).map optI:=by rw[jl,jl];refine List.map_congr_left λch hc=>?_;exact qlx (q9u ch hh (by have:=(hst.2 ch hc).1;omega) (λq hq=>by rw[hd];exact(hst.2 ch hc).2 q hq))
   rw[ey]at cm;have lt:(tt.reverse.map rwD).length<sizeLine:=by rw[j4,List.length_reverse,hla,xf];exact jn (by omega:_<2000) (by decide)
   refine⟨_,[some (stD z6),some (rwD za),some (.lst (((st.map λch=>q2a ch hh)::tt).reverse.map rwD)),some (sxD st),some (rwD hh)],rfl,.inl ?_,_,_,rfl⟩;refine(q0v (qp1 _ _ _ _ _ _ hlast)).trans ?_;rw[List.reverse_cons,jt];exact quc _ _ _ _ _ _ _ (q1d (by rw[j4];omega)) lt cm)
 subst hρ;rw[List.length_reverse,j4,jo,Nat.sub_self,List.drop_zero]at l1;unfold f_y29 qks;refine(qua (z6.map sxD) _ _ _ _ _ (by decide) l1).trans ?_;unfold tbD;rw[<-List.map_reverse,List.reverse_reverse]
section
variable{r:Int}{taps:List Int}{rows:List (List Int)}{e:Str}
theorem o_oo:eqD (.str "open") (.str "open")=some true:=by rw[q2y (by decide+kernel) (by decide+kernel)];decide+kernel
theorem o_eo:eqD (.str "ended") (.str "open")=some false:=by rw[q2y (by decide+kernel) (by decide+kernel)];decide+kernel
theorem o_ro:eqD (.str "ring") (.str "open")=some false:=by rw[q2y (by decide+kernel) (by decide+kernel)];decide+kernel
theorem qoa(R TS RS:D)(s M:Int)(Y:List D)(h:eqD (.str e) (.str "open")=some true)(hr:f_y1 [.tup [R,TS,RS,.str e]]=some (.int M))(hy:repO [.int 0] (.int M)=some Y)(one:1<=sizeLine):f_y26 [.tup [R,TS,RS,.str e],.int s]=some (.lst Y):=by
 unfold f_y26 qku;have hrep:(mRep (mLst (q00 (mRet (.int 0)) mNil)) (q0k f_y1 (q00 (mVar 0) mNil))) [some (.tup [R,TS,RS,.str e]),some (.int s),none]=some (Y,[some (.tup [R,TS,RS,.str e]),some (.int s),none]):=by
  refine qc2 (xs:=[.int 0]) (y:=.int M) (ρ1:=[some (.tup [R,TS,RS,.str e]),some (.int s),none]) ?_ ?_ hy
  ·clear hy h hr;walk_at "ev"
  ·clear hy h;walk_at "ev"
 generalize (mRep (mLst (q00 (mRet (.int 0)) mNil)) (q0k f_y1 (q00 (mVar 0) mNil)))=FR at hrep ⊢;clear hy hr;walk_at "ev"
theorem qtz(z9 en:Int):(w0o [some (.int z9),some (.int en)]).map (·.1)=some (optI (if z9=en then some 0 else none)):=by
 by_cases h:z9=en
 ·subst h;rw[if_pos rfl];walk_at "ev"
 ·have h':(z9==en)=false:=beq_eq_false_iff_ne.mpr h;rw[if_neg h];walk_at "ev"
theorem ec_0(R TS RS:D)(s:Int)(FR:RhO)(h:eqD (.str e) (.str "open")=some false):(sIf w2q FR sNil) [some (.tup [R,TS,RS,.str e]),some (.int s),none]=some (.nx [some (.tup [R,TS,RS,.str e]),some (.int s),none]):=by walk_at "ev"
theorem ec_1(S:D)(s en:Int)(b:Bool)(hb:f_y5 [S]=some (.bl b))(hen:en=(if b=true then s else 0)):w2o [some S,some (.int s),none]=some (.nx [some S,some (.int s),some (.int en)]):=by
 cases b with
 | true=>
  have hen:en=s:=hen;rw[hen];clear hen;walk_at "ev"
 | false=>
  have hen:en=0:=hen;rw[hen];clear hen;walk_at "ev"
theorem ec_2(S:D)(s M en:Int)(Y:List D)(FE:RhD)(hr:f_y1 [S]=some (.int M))(bg:big M=true)(l1:(q15 0 M.toNat).length<=sizeLine)(cm:q12 1 [2] none (gSet 0) (mRet true) FE (q15 0 M.toNat) [some S,some (.int s),some (.int en)]=some (Y,[some S,some (.int s),some (.int en)])):
 (sRet (mOf (q22 1 [2] none w0g (gSet 0) (mRet true) FE))) [some S,some (.int s),some (.int en)]=some (.rt (.lst Y) [some S,some (.int s),some (.int en)]):=by
 walk_at "ev"
theorem qk6(R TS RS:D)(s M en:Int)(b:Bool)(Y:List D)(h:eqD (.str e) (.str "open")=some false)(hb:f_y5 [.tup [R,TS,RS,.str e]]=some (.bl b))(hen:en=(if b=true then s else 0))(hr:f_y1 [.tup [R,TS,RS,.str e]]=some (.int M))(bg:big M=true)(l1:(q15 0 M.toNat).length<=sizeLine)
 (cm:q12 1 [2] none (gSet 0) (mRet true) w0o (q15 0 M.toNat) [some (.tup [R,TS,RS,.str e]),some (.int s),some (.int en)]=some (Y,[some (.tup [R,TS,RS,.str e]),some (.int s),some (.int en)])):
 f_y26 [.tup [R,TS,RS,.str e],.int s]=some (.lst Y):=by
 refine q4k rfl ⟨[some (.tup [R,TS,RS,.str e]),some (.int s),some (.int en)],?_⟩;refine(q0v (ec_0 _ _ _ _ _ h)).trans ?_;exact(q0v (ec_1 _ _ _ _ hb hen)).trans (ec_2 _ _ _ _ _ _ hr bg l1 cm)
theorem qqs(ok:q2g r taps rows e)(s:Int):f_y26 [schD r taps rows e,.int s]=some (rwD (q4y r e s)):=by
 have p16:=q3e ok.r0 ok.r4;have pn:=q2o (r:=r);have hr:=p_y1 ok;have hb:=qgd ok;have tn:((2:Int)^r.toNat).toNat=2^r.toNat:=by omega
 unfold rwD q4y;rw[jl];by_cases q:e="open"
 ·subst q;have hy:repO [D.int 0] (.int (2^r.toNat))=some (List.replicate (2^r.toNat) (.int 0)):=by rw[qat _ (by omega) (by omega),tn]
  have h1:f_y26 [schD r taps rows "open",.int s]=some (.lst (List.replicate (2^r.toNat) (.int 0))):=qoa (e:="open") (.int r) (.tup (taps.map D.int)) (.tup (rows.map rowD)) s (2^r.toNat) _ o_oo hr hy (by decide);rw[h1];refine congrArg (λx=>some (D.lst x)) ?_;apply List.ext_getElem?;intro i;by_cases h:i<2^r.toNat
  ·rw[j9,xn h,xy,if_pos h];simp[optI]
  ·rw[xg (by simp;omega),xg (by simp;omega)]
 ·have ho:eqD (.str e) (.str "open")=some false:=by
   rcases ok.en with h|h|h
   ·exact absurd h q
   ·rw[h];exact o_eo
   ·rw[h];exact o_ro
  have bg:big ((2:Int)^r.toNat)=true:=by unfold big;simp;omega
  have cm:=q4p (n:=1) (js:=[2]) (fg:=gSet 0) (fe:=w0o) (ρ:=[some (schD r taps rows e),some (.int s),some (.int (if isRing e=true then s else 0))]) (λd=>match d with|.int z9=>optI (if z9=(if isRing e=true then s else 0)then some 0 else none)|d=>d) (q15 0 ((2:Int)^r.toNat).toNat) (λx hx=>by obtain⟨k,hk⟩:=List.mem_iff_getElem?.mp hx;obtain⟨hk1,rfl⟩:=q1t hk;exact⟨_,rfl,qtz _ _⟩)
  have h1:=qk6 (e:=e) (.int r) (.tup (taps.map D.int)) (.tup (rows.map rowD)) s (2^r.toNat) _ (isRing e) _ ho hb rfl hr bg (by rw[q1h,tn];exact q1d (by omega)) cm;refine(show f_y26 [schD r taps rows e,.int s]=_ from h1).trans ?_;refine congrArg (λx=>some (D.lst x)) ?_;unfold q15;rw[tn,jl];refine List.map_congr_left λk _=>?_;refine congrArg optI ?_;have e1:(if isRing e=true then s else 0)=(if e="ring" then s else 0):=by
   unfold isRing;by_cases z:e="ring"
   ·simp[z]
   ·simp[z]
  rw[e1,Int.zero_add];show(if((k:Nat):Int)=(if e="ring" then s else 0)then some 0 else none)=if e="open"∨((k:Nat):Int)=(if e="ring" then s else 0)then some 0 else none
  generalize (if e="ring" then s else 0)=E;by_cases z:((k:Nat):Int)=E
  ·rw[if_pos z,if_pos (Or.inr z)]
  ·rw[if_neg z,if_neg (λh=>Or.elim h (λh=>q h) λh=>z h)]
theorem qnn(S:D)(M:Int)(Y:List D)(hb:f_y5 [S]=some (.bl true))(hr:f_y1 [S]=some (.int M))(hy:upsO (.int M)=some Y):f_y8 [S]=some (.lst Y):=by unfold f_y8 b_y8;generalize hu:upsO=uo at hy ⊢;clear hu;walk_at "ev"
theorem qjv(S:D)(one:1<=sizeLine)(hb:f_y5 [S]=some (.bl false)):f_y8 [S]=some (.lst [.int 0]):=by unfold f_y8 b_y8;walk_at "ev"
theorem qj1(ok:q2g r taps rows e):f_y8 [schD r taps rows e]=some (.lst ((q1j r e).map D.int)):=by
 have p16:=q3e ok.r0 ok.r4;have pn:=q2o (r:=r);have hr:=p_y1 ok;have hb:=qgd ok;have tn:((2:Int)^r.toNat).toNat=2^r.toNat:=by omega
 unfold q1j;by_cases q:e="ring"
 ·rw[if_pos q];have h1:isRing e=true:=by unfold isRing;simp[q]
  rw[h1]at hb;refine qnn _ _ _ hb hr ?_;show(if(0:Int)<=2^r.toNat/\(2:Int)^r.toNat<=1000000 then some ((ups (2^r.toNat)).map D.int)else none)=_;rw[if_pos ⟨by omega,by omega⟩];unfold ups;rw[tn]
 ·rw[if_neg q];have h1:isRing e=false:=by unfold isRing;simp[q]
  rw[h1]at hb;exact qjv _ (by decide) hb
theorem qm8(S ST EN TB:D)(s:Int)(gs gs':List (Key×D))(he:f_y26 [S,.int s]=some EN)(ha:f_y29 [ST,EN]=some TB)(hp:qe3 gs s TB=some gs'):w0n [some S,some ST,some (.dct gs),some (.int s)]=some (.nx [some S,some ST,some (.dct gs'),some (.int s)]):=by
 refine qnv (ρ1:=[some S,some ST,some (.dct gs),some (.int s)]) (ρ2:=[some S,some ST,some (.dct gs),some (.int s)]) (d:=TB) ?_ ?_ rfl hp
 ·clear hp;walk_at "ev"
 ·rfl
theorem qp9(S ST:D)(SS:List D)(gs:List (Key×D))(v3:Option D)(FB:RhO)(hs:f_y8 [S]=some (.lst SS))(l1:q1p (gSet 3) FB SS [some S,some ST,some (.dct []),none]=some (.nx [some S,some ST,some (.dct gs),v3])):
 (runP false 2 4 (sSeq (qaq 2) (sSeq (sFor w3n (gSet 3) FB) (sRet (mVar 2))))) [S,ST]=some (.dct gs):=by
 have h1:qaq 2 [some S,some ST,none,none]=some (.nx [some S,some ST,some (.dct []),none]):=qnx (by simp);walk_at "ev"
theorem q9h:(q1j r e).Nodup:=by
 unfold q1j;by_cases q:e="ring"
 ·rw[if_pos q];rw[List.Nodup,List.pairwise_map];exact List.nodup_range.imp λh z=>h (by omega)
 ·rw[if_neg q];simp
theorem qj0(ok:q2g r taps rows e)(ts:List Told)(n:Nat)(hn:n<=60):f_y30 [schD r taps rows e,stD (q0z r taps rows ts n 0 (n+q0a r e))]=some (.dct ((q1j r e).map λs=>(Sum.inl s,tbD (q4j r taps rows e ts n s)))):=by
 have p16:=q3e ok.r0 ok.r4;have pn:=q2o (r:=r);have z4:=q3c ok;have hs:=qj1 ok;have ls:(q1j r e).length<=16:=by
  unfold q1j;split
  ·simp;omega
  ·simp
 have hst:∀st∈q0z r taps rows ts n 0 (n+q0a r e),st.length=2^r.toNat/\∀ch∈st,ch.length<=2/\∀q∈ch,0<=q.1/\q.1.toNat<2^r.toNat:=λst h=>by
  have:∀(len k:Nat) (st:Sx),st∈q0z r taps rows ts n k len->st.length=2^r.toNat/\∀ch∈st,ch.length<=2/\∀q∈ch,0<=q.1/\q.1.toNat<2^r.toNat:=by
   intro len;induction len with
   |zero=>intro k st h;cases h
   | succ len ih=>
    intro k st h;have ok1:=q5g (r:=r) (taps:=taps) (rows:=rows) (ts:=ts) (n:=n) (len+1) k;rw[q46]at h ok1;rcases List.mem_cons.mp h with h|h
    ·subst h;refine⟨ok1.1,λch hc=>⟨?_,(ok1.2.1 ch hc).2⟩⟩;rw[(ok1.2.1 ch hc).1];split<;>omega
    ·exact ih _ _ h
  exact this _ _ _ h
 have lst':(q0z r taps rows ts n 0 (n+q0a r e)).length<=1000:=by unfold q0z;rw[j4,List.length_range'];omega
 obtain⟨ρ',l1,v3,hρ⟩:=q2q (fg:=gSet 3) (fb:=w0n)
  (λk ρ=>∃v3,ρ=[some (schD r taps rows e),some (stD (q0z r taps rows ts n 0 (n+q0a r e))),some (.dct (((q1j r e).take k).map λs=>(Sum.inl s,tbD (q4j r taps rows e ts n s)))),v3]) ((q1j r e).map D.int) 0
  [some (schD r taps rows e),some (stD (q0z r taps rows ts n 0 (n+q0a r e))),some (.dct []),none] ⟨none,rfl⟩ (λi x ρ hx ⟨v3,hρ⟩=>by
   subst hρ;rw[jo];rw[j9]at hx;cases hs1:(q1j r e)[i]? with
   |none=>rw[hs1]at hx;cases hx
   | some s=>
    rw[hs1]at hx;cases hx;have hb:=qqs ok s;have ha:=qge (q0z r taps rows ts n 0 (n+q0a r e)) (q4y r e s) (2^r.toNat) (by omega) lst' (by unfold q4y;simp) hst;refine⟨_,[some (schD r taps rows e),some (stD (q0z r taps rows ts n 0 (n+q0a r e))),some (.dct (((q1j r e).take (i+1)).map λs=>(Sum.inl s,tbD (q4j r taps rows e ts n s)))),some (.int s)],rfl,.inl (qm8 _ _ _ _ _ _ _ hb ha ?_),_,rfl⟩;unfold qe3;rw[if_pos]
    ·rw[take_snoc hs1,jt];rfl
    ·refine⟨?_,?_⟩
     ·rw[j4,x6];exact jn (by omega:_<1000) (by decide)
     ·rw[List.all_eq_true];intro g hg;obtain⟨t,ht,rfl⟩:=List.mem_map.mp hg;have:t≠s:=λz=>by
       subst z;obtain⟨j,hj⟩:=List.mem_iff_getElem?.mp ht;have hj1:j<i:=by have:=(List.getElem?_eq_some_iff.mp hj).1;rw[x6]at this;omega
       rw[List.getElem?_take_of_lt hj1]at hj;have hi:=(List.getElem?_eq_some_iff.mp hs1).1;have hjl:=(List.getElem?_eq_some_iff.mp hj).1;have e1:=(List.getElem?_eq_some_iff.mp hj).2;have e2:=(List.getElem?_eq_some_iff.mp hs1).2;exact List.pairwise_iff_getElem.mp q9h j i hjl hi hj1 (e1.trans e2.symm)
      simp[this])
 subst hρ;rw[j4,jo,List.take_length]at l1;unfold f_y30 qkr;exact qp9 _ _ _ _ _ _ hs l1
end
theorem nf_7(s0 n' k' z9:Int)(ST TB WD SR CH:List D)(v7 v8:Option D)(a1:atI ST k'=some (.lst SR))(a2:atI SR z9=some (.lst CH)):w1m [some (.int s0),some (.lst ST),some (.lst TB),some (.int n'),some (.lst WD),some (.int z9),some (.int k'),v7,v8]=some (.nx [some (.int s0),some (.lst ST),some (.lst TB),some (.int n'),some (.lst WD),some (.int z9),some (.int k'),some (.lst CH),v8]):=by walk_at "ev"
theorem nf_8(s0 n' k' z9 bit:Int)(ST TB WD CH T0:List D)(q0 t1 x y:D)(b:Bool)(v8:Option D)(a3:atI CH 0=some q0)(a4:atI TB (k'+1)=some t1)(hc:f_y27 [q0,t1]=some x)(a5:atI TB k'=some (.lst T0))(a6:atI T0 z9=some y)(he:eqD x y=some b)(hb:bit=if b=true then 0 else 1):
 (sSet 8 (mIf (q0q (mOp2 dEq (q0k f_y27 (q00 (mOp2 dIx (mVar 7) (mRet (.int 0))) (q00 (mOp2 dIx (mVar 2) (mOp2 dAdd (mVar 6) (mRet (.int 1)))) mNil))) w23)) (mRet (.int 0)) (mRet (.int 1)))) [some (.int s0),some (.lst ST),some (.lst TB),some (.int n'),some (.lst WD),some (.int z9),some (.int k'),some (.lst CH),v8]=some (.nx [some (.int s0),some (.lst ST),some (.lst TB),some (.int n'),some (.lst WD),some (.int z9),some (.int k'),some (.lst CH),some (.int bit)]):=by
 cases b with
 | true=>
  have hb:bit=0:=hb;rw[hb];clear hb;walk_at "ev"
 | false=>
  have hb:bit=1:=hb;rw[hb];clear hb;walk_at "ev"
theorem nf_4(s0 n' k' z9 bit:Int)(ST TB WD CH:List D)(l:WD.length<sizeLine):(sMut q25 4 (q00 (mVar 8) mNil)) [some (.int s0),some (.lst ST),some (.lst TB),some (.int n'),some (.lst WD),some (.int z9),some (.int k'),some (.lst CH),some (.int bit)]=some (.nx [some (.int s0),some (.lst ST),some (.lst TB),some (.int n'),some (.lst (WD++[.int bit])),some (.int z9),some (.int k'),some (.lst CH),some (.int bit)]):=by walk_at "ev"
theorem nf_5(s0 n' k' z9 bit nx:Int)(c:D)(ST TB WD CH:List D)(a7:atI CH bit=some (.tup [.int nx,c])):w1a [some (.int s0),some (.lst ST),some (.lst TB),some (.int n'),some (.lst WD),some (.int z9),some (.int k'),some (.lst CH),some (.int bit)]=some (.nx [some (.int s0),some (.lst ST),some (.lst TB),some (.int n'),some (.lst WD),some (.int nx),some (.int k'),some (.lst CH),some (.int bit)]):=by walk_at "ev"
theorem qs2(s0 n':Int)(ST TB T0 W:List D)(y:D)(v5 v6 v7 v8:Option D)(FB:RhO)(two:2<=sizeLine)(z0:0<=sizeLine)(bg:big n'=true)(a1:atI TB 0=some (.lst T0))(a2:atI T0 s0=some y)(l1:q1p (gSet 6) FB (q15 0 n'.toNat) [some (.int s0),some (.lst ST),some (.lst TB),some (.int n'),some (.lst []),some (.int s0),none,none,none]=some (.nx [some (.int s0),some (.lst ST),some (.lst TB),some (.int n'),some (.lst W),v5,v6,v7,v8])):
 (runP false 4 9 (sSeq (sOwn 4 (mLst mNil)) (sSeq (sSet 5 (mVar 0)) (sSeq (sFor (q30 (q00 (mVar 3) mNil)) (gSet 6) FB) w22)))) [.int s0,.lst ST,.lst TB,.int n']=some (.tup [y,.lst W]):=by
 walk_at "ev"
theorem qtw(a b:Option Int):eqD (optI a) (optI b)=some (decide (a=b)):=by
 cases a with
 | none=>
  cases b with
  |none=>exact eqD_none.trans (by simp)
  |some y=>exact(q6d y).trans (by simp)
 | some x=>
  cases b with
  |none=>exact(q6e x).trans (by simp)
  | some y=>
   refine(qhn x y).trans ?_;congr 1;by_cases h:x=y
   ·simp[h]
   ·simp[h]
theorem qe6(z6:List Sx)(za:Rw)(M n:Nat)(s:Int)(hM:M<=1000)(hn:n<=1000)(hN:n<=z6.length)(ok:OkS M n z6)(he:za.length=M)(ze:∀st∈z6,st.length=M)(hs:0<=s/\s.toNat<M)(m:Int)(hm:atR ((q0e z6 za).headD []) s=some m):
 f_y38 [.int s,stD z6,tbD (q0e z6 za),.int n]=some (pairD (m,q3b n z6 (q0e z6 za) s)):=by
 have lt:=q69 z6 za;obtain⟨ρ',l1,zf,z9,v6,v7,v8,hρ,lw,hr,ok2,hg⟩:=q2q (fg:=gSet 6) (fb:=(sSeq w1m
 (sSeq (sSet 8 (mIf (q0q (mOp2 dEq (q0k f_y27 (q00 (mOp2 dIx (mVar 7) (mRet (.int 0))) (q00 (mOp2 dIx (mVar 2) (mOp2 dAdd (mVar 6) (mRet (.int 1)))) mNil))) w23)) (mRet (.int 0)) (mRet (.int 1))))
 w3l)))
  (λk ρ=>∃(zf:List Int) (z9:Int) (v6 v7 v8:Option D),ρ=[some (.int s),some (stD z6),some (tbD (q0e z6 za)),some (.int (n:Int)),some (.lst (zf.map D.int)),some (.int z9),v6,v7,v8]/\zf.length=k/\(0<=z9/\z9.toNat<M)/\OkS M (n-k) (z6.drop k)/\zf++q3b (n-k) (z6.drop k) ((q0e z6 za).drop k) z9=q3b n z6 (q0e z6 za) s)
  (q15 0 n) 0 [some (.int s),some (stD z6),some (tbD (q0e z6 za)),some (.int (n:Int)),some (.lst []),some (.int s),none,none,none] ⟨[],s,none,none,none,rfl,rfl,hs,ok,rfl⟩ (λi x ρ hx ⟨zf,z9,v6,v7,v8,hρ,lw,hr,ok2,hg⟩=>by
    subst hρ;rw[jo]at*;obtain⟨hi,rfl⟩:=q1t hx;rw[Int.zero_add];have hi1:i<z6.length:=by omega
    have e1:z6[i]? =some z6[i]:=jb hi1;have ed:z6.drop i=z6[i]::z6.drop (i+1):=xr hi1;have hti:i<(q0e z6 za).length:=by omega
    have hti2:i+1<(q0e z6 za).length:=by omega
    have et:(q0e z6 za).drop i=(q0e z6 za)[i]::(q0e z6 za).drop (i+1):=xr hti;have et2:((q0e z6 za).drop (i+1)).headD []=(q0e z6 za)[i+1]:=by rw[xr hti2];rfl
    have en:n-i=(n-(i+1))+1:=by omega
    rw[ed]at ok2;obtain⟨o1,o2,o3⟩:=ok2;rw[Nat.sub_sub]at o3;have hlt:z9.toNat<z6[i].length:=by rw[o1];exact hr.2
    have es:z6[i][z9.toNat]? =some z6[i][z9.toNat]:=jb hlt;obtain⟨c1,c2⟩:=o2 _ (xo hlt);rw[if_neg (by omega)]at c1;obtain⟨q0,q1,eq⟩:=ql6 c1;have ech:chAt z6[i] z9=[q0,q1]:=by rw[q5s es,eq]
    rw[en,ed,et,q58,et2,ech]at hg
    -- rows' lengths
    have lrow:∀k (hk:k<(q0e z6 za).length),(q0e z6 za)[k].length=M:=λk hk=>by
     have:=q7p z6 za k (by omega);have h1:((q0e z6 za).drop k).headD []=(q0e z6 za)[k]:=by rw[xr hk];rfl
     rw[<-h1,this];exact q91 he λz hz=>ze z (List.mem_of_mem_drop hz)
    have hq0:=c2 q0 (by rw[eq];simp);have hq1:=c2 q1 (by rw[eq];simp);have a1:atI (z6.map sxD) (i:Int)=some (.lst (z6[i].map chD)):=by rw[q4h (by omega) (by rw[j4];omega),jm,j9,e1];rfl
    have a2:atI (z6[i].map chD) z9=some (.lst ([q0,q1].map mvD)):=by rw[q4h hr.1 (by rw[j4];omega),j9,es,eq];rfl
    have a3:atI ([q0,q1].map mvD) 0=some (mvD q0):=at0 _ _;have a4:atI ((q0e z6 za).map rwD) ((i:Int)+1)=some (rwD (q0e z6 za)[i+1]):=by rw[q4h (by omega) (by rw[j4];omega),show((i:Int)+1).toNat=i+1 from by omega,j9,jb hti2];rfl
    have hc:=qch q0 (q0e z6 za)[i+1] hq0.1 (by rw[lrow _ hti2];exact hq0.2);have a5:atI ((q0e z6 za).map rwD) (i:Int)=some (.lst ((q0e z6 za)[i].map optI)):=by rw[q4h (by omega) (by rw[j4];omega),jm,j9,jb hti];rfl
    have a6:atI ((q0e z6 za)[i].map optI) z9=some (optI (atR (q0e z6 za)[i] z9)):=qbv hr.1 (by rw[lrow _ hti];exact hr.2);have he2:=qtw (q1z q0 (q0e z6 za)[i+1]) (atR (q0e z6 za)[i] z9);have hbit:q68 z6[i] (q0e z6 za)[i] (q0e z6 za)[i+1] z9=if decide (q1z q0 (q0e z6 za)[i+1]=atR (q0e z6 za)[i] z9)=true then 0 else 1:=by
     unfold q68;rw[ech];by_cases z:q1z q0 (q0e z6 za)[i+1]=atR (q0e z6 za)[i] z9
     ·rw[if_pos (by exact z),decide_eq_true z];rfl
     ·rw[if_neg (by exact z),decide_eq_false z];rfl
    have hb01:q68 z6[i] (q0e z6 za)[i] (q0e z6 za)[i+1] z9=0∨q68 z6[i] (q0e z6 za)[i] (q0e z6 za)[i+1] z9=1:=by
     rw[hbit];split
     ·exact .inl rfl
     ·exact .inr rfl
    generalize q68 z6[i] (q0e z6 za)[i] (q0e z6 za)[i+1] z9=bit at hg hbit hb01;obtain⟨nx,hnx,c,a7,hrn⟩:∃nx:Int,([q0,q1].getD bit.toNat (0,0)).1=nx/\∃c:D,atI ([q0,q1].map mvD) bit=some (.tup [.int nx,c])/\(0<=nx/\nx.toNat<M):=by
     rcases hb01 with z|z
     ·rw[z];exact⟨q0.1,rfl,.int q0.2,at0 _ _,hq0⟩
     ·rw[z];exact⟨q1.1,rfl,.int q1.2,at1 _ _ _,hq1⟩
    rw[hnx]at hg;refine⟨_,[some (.int s),some (stD z6),some (tbD (q0e z6 za)),some (.int (n:Int)),some (.lst ((zf++[bit]).map D.int)),some (.int nx),some (.int (i:Int)),some (.lst ([q0,q1].map mvD)),some (.int bit)],rfl,.inl ?_,zf++[bit],nx,_,_,_,rfl,by rw[je,lw];rfl,hrn,o3,by rw[List.append_assoc];exact hg⟩;refine(q0v (nf_7 _ _ _ _ _ _ _ _ _ _ _ a1 a2)).trans ?_;refine(q0v (nf_8 _ _ _ _ bit _ _ _ _ _ _ _ _ _ _ _ a3 a4 hc a5 a6 he2 hbit)).trans ?_;refine(q0v (nf_4 _ _ _ _ _ _ _ _ _ (by rw[j4,lw];exact jn (by omega:i<2000) (by decide)))).trans ?_;rw[jt];exact nf_5 _ _ _ _ _ _ _ _ _ _ _ a7)
 subst hρ;rw[q1h,jo]at lw hg;rw[Nat.sub_self]at hg;have hg:zf++[]=q3b n z6 (q0e z6 za) s:=hg;rw[List.append_nil]at hg;subst hg;have bg:big (n:Int)=true:=by unfold big;simp;omega
 have h0:0<(q0e z6 za).length:=by omega
 have eh:(q0e z6 za).headD []=(q0e z6 za)[0]:=by
  generalize q0e z6 za=tt at h0 ⊢;cases tt with
  |nil=>simp at h0
  |cons a b=>rfl
 have a1:atI ((q0e z6 za).map rwD) 0=some (.lst (((q0e z6 za)[0]).map optI)):=by rw[q4h (by omega) (by rw[j4];omega),show(0:Int).toNat=0 from rfl,j9,jb h0];rfl
 have hl0:((q0e z6 za).headD []).length=M:=q91 he ze;have a2:atI (((q0e z6 za)[0]).map optI) s=some (.int m):=by have:=qbv (t:=(q0e z6 za).headD []) hs.1 (by rw[hl0];exact hs.2);rw[hm,eh]at this;exact this
 have tn:((n:Nat):Int).toNat=n:=jm n;rw[<-tn]at l1;unfold f_y38 qkl;exact qs2 s n _ _ _ _ _ _ _ _ _ _ (by decide) (by decide) bg a1 a2 (by rw[tn]at l1 ⊢;exact l1)
section
variable{r:Int}{taps:List Int}{rows:List (List Int)}{e:Str}
theorem qb3(q:Int×List Int):qb4 (pairD q)=some q:=by show(q3d (q.2.map D.int)).map (λns=>(q.1,ns))=some q;rw[q3k];rfl
theorem qce:∀qs:List (Int×List Int),q6c (qs.map pairD)=some qs
 |[]=>rfl
 | q::qs=>by rw[jr];unfold q6c;rw[qb3,qce qs]
theorem qsi{qs:List (Int×List Int)}{n:Nat}(h:qs≠[])(hl:∀q∈qs,q.2.length=n):qk8 (.lst (qs.map pairD))=some (pairD (q4n qs)):=by
 show(match q6c (qs.map pairD)with
  |some qs=>if qs≠[]/\(qs.all λq=>decide (q.2.length=(q4n qs).2.length))=true then some (pairD (q4n qs))else none
  |none=>none)=_
 rw[qce];refine if_pos ⟨h,List.all_eq_true.mpr λq hq=>?_⟩;rw[hl q hq,hl _ (qa2 h).1];simp
theorem ne_3(S T ST:D)(n':Int)(hm:f_y25 [S,.int n',T]=some ST):(sSet 3 (q0k f_y25 w07)) [some S,some (.int n'),some T,none,none]=some (.nx [some S,some (.int n'),some T,some ST,none]):=by walk_at "ev"
theorem ne_4(S T ST TB:D)(n':Int)(ht:f_y30 [S,ST]=some TB):w34 [some S,some (.int n'),some T,some ST,none]=some (.nx [some S,some (.int n'),some T,some ST,some TB]):=by walk_at "ev"
theorem ne_r(S T ST y:D)(n':Int)(gs:List (Key×D))(KS YS:List D)(FE:RhD)(dm:D->Option D)(hk:qa4 (.dct gs)=some KS)(l1:KS.length<=sizeLine)(cm:q12 1 [3,1,4] none (gSet 0) (mRet true) FE KS [some S,some (.int n'),some T,some ST,some (.dct gs)]=some (YS,[some S,some (.int n'),some T,some ST,some (.dct gs)]))(hy:dm (.lst YS)=some y):
 (sRet (mOp1 dm (mOf (q22 1 [3,1,4] none (q7e (mVar 4)) (gSet 0) (mRet true) FE)))) [some S,some (.int n'),some T,some ST,some (.dct gs)]=some (.rt y [some S,some (.int n'),some T,some ST,some (.dct gs)]):=by
 have h1:q7e (mVar 4) [some S,some (.int n'),some T,some ST,some (.dct gs)]=some (KS,[some S,some (.int n'),some T,some ST,some (.dct gs)]):=by rw[qd7];show((qa4 (.dct gs)).map λx=>(x,_))=_;rw[hk];rfl
 generalize q7e (mVar 4)=FK at h1 ⊢;clear hk;walk_at "ev"
theorem qs3(ST TB y:D)(s n':Int)(gs:List (Key×D))(hg:dIxK (.dct gs) (.int s)=some TB)(h:f_y38 [.int s,ST,TB,.int n']=some y):((q0k f_y38 (q00 (mVar 0) (q00 (mVar 1) (q00 (mOp2 dIxK (mVar 3) (mVar 0)) (q00 (mVar 2) mNil))))) [some (.int s),some ST,some (.int n'),some (.dct gs)]).map (·.1)=some y:=by generalize hd:dIxK=dx at hg ⊢;clear hd;walk_at "ev"
theorem qhf{ss:List Int}{f:Int->D}{s:Int}(h:s∈ss):qbl (ss.map λs=>(Sum.inl s,f s)) s=some (f s):=by
 induction ss with
 |nil=>cases h
 | cons a r ih=>
  unfold qbl;rw[jr];by_cases z:a=s
  ·subst z;simp[List.find?_cons]
  ·have h1:s∈r:=by
    rcases List.mem_cons.mp h with h|h
    ·exact absurd h.symm z
    ·exact h
   have:=ih h1;unfold qbl at this;rw[<-this];simp[List.find?_cons,z]
theorem quv(ok:q2g r taps rows e)(n:Nat)(hn:n<=60)(h:e="ring"->r.toNat<=n)(ts:List Told)(hl:ts.length=(q0c taps rows (n+q0a r e)).length):
 f_y39 [schD r taps rows e,.int n,.lst (ts.map q1a)]=some (pairD (qgo r taps rows e ts n)):=by
 have p16:=q3e ok.r0 ok.r4;have pn:=q2o (r:=r);have z4:=q3c ok;have hm:=qqr ok n hn h ts hl;have ht:=qj0 ok ts n hn;have ls:(q0z r taps rows ts n 0 (n+q0a r e)).length=n+q0a r e:=by unfold q0z;rw[j4,List.length_range']
 have ze:∀st∈q0z r taps rows ts n 0 (n+q0a r e),st.length=2^r.toNat:=λst hst=>by unfold q0z at hst;obtain⟨k,_,rfl⟩:=List.mem_map.mp hst;unfold L2.stepK;simp
 have cm:=q4p (n:=1) (js:=[3,1,4]) (fg:=gSet 0) (fe:=q0k f_y38 (q00 (mVar 0) (q00 (mVar 1) (q00 (mOp2 dIxK (mVar 3) (mVar 0)) (q00 (mVar 2) mNil)))))
  (ρ:=[some (schD r taps rows e),some (.int n),some (.lst (ts.map q1a)),some (stD (q0z r taps rows ts n 0 (n+q0a r e))),some (.dct ((q1j r e).map λs=>(Sum.inl s,tbD (q4j r taps rows e ts n s))))])
  (λd=>match d with|.int s=>pairD (bestOf r taps rows e ts n s)|d=>d) ((q1j r e).map D.int) (λx hx=>by obtain⟨s,hs,rfl⟩:=List.mem_map.mp hx;have h1:=q5d hs;obtain⟨b1,_⟩:=q9a (ts:=ts) (taps:=taps) (rows:=rows) hs h ok.en hl;have hp:=qe6 (q0z r taps rows ts n 0 (n+q0a r e)) (q4y r e s) (2^r.toNat) n s (by omega) (by omega) (by rw[ls];omega) (q5g (n:=n) (n+q0a r e) 0) (by unfold q4y;simp) ze ⟨h1.1,by omega⟩ _ b1;exact⟨_,rfl,qs3 _ _ _ _ _ _ (qhf hs) hp⟩)
 rw[jl]at cm;have lst':(q1j r e).length<=16:=by
  unfold q1j;split
  ·simp;omega
  ·simp
 have hk:qa4 (.dct ((q1j r e).map λs=>(Sum.inl s,tbD (q4j r taps rows e ts n s))))=some ((q1j r e).map D.int):=by show some _=some _;rw[jl];rfl
 have hne:(q1j r e).map (bestOf r taps rows e ts n)≠[]:=by have hf:=q64 (r:=r) (e:=e) (w:=List.replicate n 0) (q3r _) (by rw[jj];exact h);intro z;rw[List.map_eq_nil_iff.mp z]at hf;cases hf
 have hy:=qsi (n:=n) hne (λq hq=>by obtain⟨s,hs,rfl⟩:=List.mem_map.mp hq;exact(q9a (ts:=ts) (taps:=taps) (rows:=rows) hs h ok.en hl).2.2.1)
 rw[jl]at hy;refine q4k rfl ⟨[some (schD r taps rows e),some (.int n),some (.lst (ts.map q1a)),some (stD (q0z r taps rows ts n 0 (n+q0a r e))),some (.dct ((q1j r e).map λs=>(Sum.inl s,tbD (q4j r taps rows e ts n s))))],?_⟩;refine(q0v (ne_3 _ _ _ _ hm)).trans ?_;refine(q0v (ne_4 _ _ _ _ _ ht)).trans ?_;exact ne_r _ _ _ _ _ _ _ _ _ _ hk (q1d (by rw[j4];omega)) cm hy
end
def koD:Option (Int×List Int)->D
 |none=>.non
 |some p=>pairD p
def krD(row:Kr):D:=.lst (row.map koD)
theorem qom(y:D)(FM:RhD):(runP false 2 2 (sRet (mIf (q0q (mOp2 dIsN (mVar 0) (mRet .non))) (mVar 1) FM))) [.non,y]=some y:=by walk_at "ev"
theorem qol(a:Int)(W y z:D)(FM:RhD)(h:FM [some (.tup [.int a,W]),some y]=some (z,[some (.tup [.int a,W]),some y])):(runP false 2 2 (sRet (mIf (q0q (mOp2 dIsN (mVar 0) (mRet .non))) (mVar 1) FM))) [.tup [.int a,W],y]=some z:=by walk_at "ev"
theorem qon(x y:D):(q00 (mVar 0) (q00 (mVar 1) mNil)) [some x,some y]=some ([x,y],[some x,some y]):=by walk_at "ev"
theorem qux(o:Option (Int×List Int))(p:Int×List Int)(hl:∀q,o=some q->q.2.length=p.2.length):f_y33 [koD o,pairD p]=some (pairD (betP o p)):=by
 unfold f_y33 qko;cases o with
 |none=>exact qom _ _
 |some q=>exact qol _ _ _ _ _ (qo1 (qon _ _) (hl q rfl))
theorem ko_7(KN CB LG FD CH bit led m:D)(v7:Option D):w0x [some KN,some CB,some LG,some FD,some CH,some bit,some (.tup [led,m]),v7]=some (.nx [some KN,some CB,some LG,some FD,some CH,some bit,some (.tup [led,m]),some led]):=by walk_at "ev"
theorem ko_v(KN CB CH:D)(L W:List D)(bit led m c:Int)(o y:D)(two:2<=sizeLine)(one:1<=sizeLine)(lw:W.length+1<=sizeLine)(ho:atI L led=some o)(hb:f_y33 [o,.tup [.int (c+m),.lst (W++[.int bit])]]=some y):
 (q0k f_y33 (q00 (mIxO 2 (mVar 7)) (q00 (mTup (q00 (mOp2 dAdd (mOp2 dIx (mVar 3) (mRet (.int 0))) (mOp2 dIx (mVar 6) (mRet (.int 1)))) (q00 (mOp2 dAdd (mOp2 dIx (mVar 3) (mRet (.int 1))) (mOf (mLst (q00 (mVar 5) mNil)))) mNil))) mNil))) [some KN,some CB,some (.lst L),some (.tup [.int c,.lst W]),some CH,some (.int bit),some (.tup [.int led,.int m]),some (.int led)]=some (y,[some KN,some CB,some (.lst L),some (.tup [.int c,.lst W]),some CH,some (.int bit),some (.tup [.int led,.int m]),some (.int led)]):=by
 walk_at "ev"
theorem ko_s(KN CB FD CH bit tk y:D)(L:List D)(led:Int)(i:Nat)(FM:RhD)(hm:FM [some KN,some CB,some (.lst L),some FD,some CH,some bit,some tk,some (.int led)]=some (y,[some KN,some CB,some (.lst L),some FD,some CH,some bit,some tk,some (.int led)]))(hi:ixN L.length led=some i):
 (q4x 2 FM (mVar 7)) [some KN,some CB,some (.lst L),some FD,some CH,some bit,some tk,some (.int led)]=some (.nx [some KN,some CB,some (.lst (L.set i y)),some FD,some CH,some bit,some tk,some (.int led)]):=by
 rw[q94,hm];show((ixN L.length led).map λm=>D.lst (L.set m y)).map _=_;rw[hi];rfl
theorem qw0(KN CB LG CH:D)(v5 v6 v7:Option D)(FX:RhO):(sIf (q0q (mOp2 q5a (mVar 3) (mRet .non))) FX sNil) [some KN,some CB,some LG,some .non,some CH,v5,v6,v7]=some (.nx [some KN,some CB,some LG,some .non,some CH,v5,v6,v7]):=by walk_at "ev"
theorem qst(KN CB LG LG' a W:D)(CH:List D)(v5 v6 v7 w5 w6 w7:Option D)(FB:RhO)(h:q1p (q2b 2 (q0n (gSet 5) (q0n (gSet 6) q2c))) FB (q43 CH) [some KN,some CB,some LG,some (.tup [a,W]),some (.lst CH),v5,v6,v7]=some (.nx [some KN,some CB,some LG',some (.tup [a,W]),some (.lst CH),w5,w6,w7])):
 (sIf (q0q (mOp2 q5a (mVar 3) (mRet .non))) (sFor (q7u (mVar 4)) (q2b 2 (q0n (gSet 5) (q0n (gSet 6) q2c))) FB) sNil) [some KN,some CB,some LG,some (.tup [a,W]),some (.lst CH),v5,v6,v7]=some (.nx [some KN,some CB,some LG',some (.tup [a,W]),some (.lst CH),w5,w6,w7]):=by
 walk_at "ev"
theorem qsv(KN:List D)(CB:D):(mOp1 dLen (mVar 0)) [some (.lst KN),some CB,none,none,none,none,none,none]=some (.int ((KN.length:Nat):Int),[some (.lst KN),some CB,none,none,none,none,none,none]):=by walk_at "ev"
theorem qsu(KN:List D)(CB:D)(one:1<=sizeLine):(mLst (q00 (mRet .non) mNil)) [some (.lst KN),some CB,none,none,none,none,none,none]=some ([.non],[some (.lst KN),some CB,none,none,none,none,none,none]):=by walk_at "ev"
theorem qsw(KN CB Z L0 L:List D)(v3 v4 v5 v6 v7:Option D)(FR:RhL)(FB:RhO)(hr:FR [some (.lst KN),some (.lst CB),none,none,none,none,none,none]=some (L0,[some (.lst KN),some (.lst CB),none,none,none,none,none,none]))(hz:zipD KN CB=Z)(h:q1p (q2b 2 (q0n (gSet 3) (q0n (gSet 4) q2c))) FB Z [some (.lst KN),some (.lst CB),some (.lst L0),none,none,none,none,none]=some (.nx [some (.lst KN),some (.lst CB),some (.lst L),v3,v4,v5,v6,v7])):
 (runP true 2 8 (sSeq (sOwn 2 FR) (sSeq (sFor w10 (q2b 2 (q0n (gSet 3) (q0n (gSet 4) q2c))) FB) (q5w 2)))) [.lst KN,.lst CB]=some (.lst L):=by
 walk_at "ev"
def q45(p:Int×List Int)(ch:List Mv):List (Int×(Int×List Int)):=ch.zipIdx.map λm=>(m.1.1,(p.1+m.1.2,p.2++[(m.2:Int)]))
theorem qoi{p:Int×List Int}{ch:List Mv}{i:Nat}{mv:Mv}(h:ch[i]? =some mv):(q45 p ch)[i]? =some (mv.1,(p.1+mv.2,p.2++[(i:Int)])):=by unfold q45;rw[j9,List.getElem?_zipIdx,h];simp
theorem qab{p:Int×List Int}{ch:List Mv}{x:Int×(Int×List Int)}(h:x∈q45 p ch):x.2.2.length=p.2.length+1:=by unfold q45 at h;obtain⟨m,_,rfl⟩:=List.mem_map.mp h;show(p.2++[_]).length=_;rw[je];rfl
theorem qw1(KN CB:D)(p:Int×List Int)(ch:List Mv)(L0:Kr)(hch:∀q∈ch,0<=q.1/\q.1.toNat<L0.length)(hL:∀(q:Nat) (x:Int×List Int),L0[q]? =some (some x)->x.2.length=p.2.length+1)(hp:p.2.length<=900)(v5 v6 v7:Option D):
 ∃w5 w6 w7,q1p (q2b 2 (q0n (gSet 5) (q0n (gSet 6) q2c))) (sSeq w0x (q4x 2 (q0k f_y33 (q00 (mIxO 2 (mVar 7)) (q00 (mTup (q00 (mOp2 dAdd (mOp2 dIx (mVar 3) (mRet (.int 0))) (mOp2 dIx (mVar 6) (mRet (.int 1)))) (q00 (mOp2 dAdd (mOp2 dIx (mVar 3) (mRet (.int 1))) (mOf (mLst (q00 (mVar 5) mNil)))) mNil))) mNil))) (mVar 7))) (q43 (ch.map mvD)) [some KN,some CB,some (krD L0),some (pairD p),some (chD ch),v5,v6,v7]=some (.nx [some KN,some CB,some (krD ((q45 p ch).foldl putK L0)),some (pairD p),some (chD ch),w5,w6,w7]):=by
 have lc:(q45 p ch).length=ch.length:=by unfold q45;rw[j4,List.length_zipIdx]
 obtain⟨ρ',l1,w5,w6,w7,hρ⟩:=q2q (fg:=q2b 2 (q0n (gSet 5) (q0n (gSet 6) q2c))) (fb:=(sSeq w0x
 (q4x 2 (q0k f_y33 (q00 (mIxO 2 (mVar 7)) (q00 (mTup (q00 (mOp2 dAdd (mOp2 dIx (mVar 3) (mRet (.int 0))) (mOp2 dIx (mVar 6) (mRet (.int 1)))) (q00 (mOp2 dAdd (mOp2 dIx (mVar 3) (mRet (.int 1))) (mOf (mLst (q00 (mVar 5) mNil)))) mNil))) mNil))) (mVar 7))))
   (λk ρ=>∃w5 w6 w7,ρ=[some KN,some CB,some (krD (((q45 p ch).take k).foldl putK L0)),some (pairD p),some (chD ch),w5,w6,w7]) (q43 (ch.map mvD)) 0 [some KN,some CB,some (krD L0),some (pairD p),some (chD ch),v5,v6,v7] ⟨v5,v6,v7,rfl⟩ (λi x ρ hx ⟨u5,u6,u7,hρ⟩=>by
     subst hρ;rw[jo];rw[q5n,j9]at hx;cases hq:ch[i]? with
     |none=>rw[hq]at hx;cases hx
     | some mv=>
      rw[hq]at hx;cases hx;obtain⟨m0,m1⟩:=hch mv (xk hq);have lL:(((q45 p ch).take i).foldl putK L0).length=L0.length:=q6r _ _;have hw:∀(q:Nat) (y:Int×List Int),(((q45 p ch).take i).foldl putK L0)[q]? =some (some y)->y.2.length=p.2.length+1:=λq y h=>by
         rcases q5l _ _ _ _ h with g|⟨z,hz,_,g⟩
         ·exact hL q y g
         ·rw[<-g];exact qab (List.mem_of_mem_take hz)
      rw[take_snoc (qoi (p:=p) hq),List.foldl_append];show∃ρ1 ρ2,_/\_/\∃w5 w6 w7,ρ2=[some KN,some CB,some (krD (putK (((q45 p ch).take i).foldl putK L0) (mv.1,(p.1+mv.2,p.2++[(i:Int)])))),some (pairD p),some (chD ch),w5,w6,w7];generalize ((q45 p ch).take i).foldl putK L0=L at lL hw;have hlt:mv.1.toNat<L.length:=by omega
      have ho:atI (L.map koD) mv.1=some (koD (L.getD mv.1.toNat none)):=by rw[q4h m0 (by rw[j4];omega),j9,jk,jb hlt];rfl
      have hix:ixN (L.map koD).length mv.1=some mv.1.toNat:=by unfold ixN;rw[j4,if_pos m0,if_pos (by omega)]
      have hb:=qux (L.getD mv.1.toNat none) (p.1+mv.2,p.2++[(i:Int)]) (λq e=>by rw[hw mv.1.toNat q (by rw[jb hlt];rw[jk,jb hlt]at e;exact congrArg some e)];show _=(p.2++[(i:Int)]).length;rw[je];rfl)
      have e2:pairD (p.1+mv.2,p.2++[(i:Int)])=.tup [.int (p.1+mv.2),.lst (p.2.map D.int++[.int (i:Int)])]:=by unfold pairD;rw[jt];rfl
      rw[e2]at hb;have e3:krD (putK L (mv.1,(p.1+mv.2,p.2++[(i:Int)])))=.lst ((L.map koD).set mv.1.toNat (pairD (betP (L.getD mv.1.toNat none) (p.1+mv.2,p.2++[(i:Int)])))):=by unfold krD putK;rw[List.map_set];rfl
      rw[e3];exact⟨_,_,rfl,.inl ((q0v (ko_7 _ _ _ _ _ _ _ _ _)).trans (ko_s _ _ _ _ _ _ _ _ _ _ _ (ko_v _ _ _ _ _ _ _ _ _ _ _ (by decide) (by decide) (q1d (by rw[j4];omega)) ho hb) hix)),_,_,_,rfl⟩)
 subst hρ;have le:(q43 (ch.map mvD)).length=ch.length:=by unfold q43;simp
 rw[le,jo,<-lc,List.take_length]at l1;exact⟨w5,w6,w7,l1⟩
def qac(q:Option (Int×List Int)×List Mv):List (Int×(Int×List Int)):=match q.1 with
 |none=>[]
 |some p=>q45 p q.2
theorem qj4(row:Kr)(st:Sx)(len:Nat)(hr:∀(q:Nat) (p:Int×List Int),row[q]? =some (some p)->p.2.length=len)(ze:len<=900)(hm:row.length<=1000)(hst:∀ch∈st,∀q∈ch,0<=q.1/\q.1.toNat<row.length):f_y34 [krD row,sxD st]=some (krD (q5i row st)):=by
 have hz:zipD (row.map koD) (st.map chD)=(row.zip st).map λq=>D.tup [koD q.1,chD q.2]:=by rw[q8j,q6o,jl];rfl
 have hrep:(mRep (mLst (q00 (mRet .non) mNil)) (mOp1 dLen (mVar 0))) [some (.lst (row.map koD)),some (.lst (st.map chD)),none,none,none,none,none,none]=some ((List.replicate row.length (none:Option (Int×List Int))).map koD,[some (.lst (row.map koD)),some (.lst (st.map chD)),none,none,none,none,none,none]):=by
  refine qc2 (qsu _ _ (by decide)) (qsv _ _) ?_;rw[j4];simp only[repO];rw[if_pos ⟨by omega,by omega,by rw[jm];exact q1d (by simp;omega)⟩,jm,List.map_replicate];congr 1;generalize row.length=m;induction m with
  |zero=>rfl
  |succ m ih=>rw[List.replicate_succ,List.flatten_cons,ih];rfl
 obtain⟨ρ',l1,v3,v4,v5,v6,v7,hρ⟩:=q2q (fg:=q2b 2 (q0n (gSet 3) (q0n (gSet 4) q2c))) (fb:=(sIf (q0q (mOp2 q5a (mVar 3) (mRet .non)))
  (sFor (q7u (mVar 4)) (q2b 2 (q0n (gSet 5) (q0n (gSet 6) q2c)))
  (sSeq w0x (q4x 2 (q0k f_y33 (q00 (mIxO 2 (mVar 7)) (q00 (mTup (q00 (mOp2 dAdd (mOp2 dIx (mVar 3) (mRet (.int 0))) (mOp2 dIx (mVar 6) (mRet (.int 1)))) (q00 (mOp2 dAdd (mOp2 dIx (mVar 3) (mRet (.int 1))) (mOf (mLst (q00 (mVar 5) mNil)))) mNil))) mNil))) (mVar 7))))
  sNil))
  (λk ρ=>∃v3 v4 v5 v6 v7,ρ=[some (.lst (row.map koD)),some (.lst (st.map chD)),some (krD ((((row.zip st).take k).flatMap qac).foldl putK (List.replicate row.length none))),v3,v4,v5,v6,v7]) ((row.zip st).map λq=>D.tup [koD q.1,chD q.2]) 0
  [some (.lst (row.map koD)),some (.lst (st.map chD)),some (.lst ((List.replicate row.length (none:Option (Int×List Int))).map koD)),none,none,none,none,none] ⟨none,none,none,none,none,rfl⟩ (λi x ρ hx ⟨v3,v4,v5,v6,v7,hρ⟩=>by
   subst hρ;rw[jo];rw[j9]at hx;cases hq:(row.zip st)[i]? with
   |none=>rw[hq]at hx;cases hx
   | some z=>
    rw[hq]at hx;cases hx;obtain⟨z1,z2⟩:=List.getElem?_zip_eq_some.mp hq;rw[take_snoc hq,List.flatMap_append,List.foldl_append];have e1:[z].flatMap qac=qac z:=by simp
    rw[e1];have lL:((((row.zip st).take i).flatMap qac).foldl putK (List.replicate row.length none)).length=row.length:=by rw[q6r,jj]
    have hL:∀(q:Nat) (y:Int×List Int),((((row.zip st).take i).flatMap qac).foldl putK (List.replicate row.length none))[q]? =some (some y)->y.2.length=len+1:=λq y h=>by
     rcases q5l _ _ _ _ h with g|⟨c,hc,_,g⟩
     ·rw[xy]at g;split at g<;>cases g
     ·obtain⟨w,hw,hc⟩:=List.mem_flatMap.mp hc;obtain⟨j,hj⟩:=List.mem_iff_getElem?.mp (List.mem_of_mem_take hw);obtain⟨j1,j2⟩:=List.getElem?_zip_eq_some.mp hj;unfold qac at hc;split at hc
      ·cases hc
      ·rename_i p e;rw[e]at j1;rw[<-g,qab hc,hr j p j1]
    generalize (((row.zip st).take i).flatMap qac).foldl putK (List.replicate row.length none)=L at lL hL;obtain⟨o,ch⟩:=z;cases o with
    |none=>exact⟨_,_,rfl,.inl (qw0 _ _ _ _ _ _ _ _),_,_,_,_,_,rfl⟩
    | some p=>
     have hp:=hr i p z1;obtain⟨w5,w6,w7,hin⟩:=qw1 (.lst (row.map koD)) (.lst (st.map chD)) p ch L (λq hq=>by rw[lL];exact hst ch (xk z2) q hq) (by rw[hp];exact hL) (by omega) v5 v6 v7;exact⟨_,_,rfl,.inl (qst _ _ _ _ _ _ _ _ _ _ _ _ _ _ hin),_,_,_,_,_,rfl⟩)
 subst hρ;rw[j4,jo,List.take_length]at l1;have ec:(row.zip st).flatMap qac=qhw row st:=rfl;rw[ec]at l1;unfold f_y34 qkn krD sxD;exact qsw _ _ _ _ _ _ _ _ _ _ _ _ hrep hz l1
theorem qwc(W O:D)(F:List D)(a b:Int)(h:(a==b)=false)(FM:RhO):(sSeq w3b FM) [some W,some O,some (.lst F),some (.int a),some (.int b)]=some (.bk [some W,some O,some (.lst F),some (.int a),some (.int b)]):=by walk_at "ev"
theorem qwd(W O:D)(F:List D)(a:Int)(l:F.length<sizeLine):w0w [some W,some O,some (.lst F),some (.int a),some (.int a)]=some (.nx [some W,some O,some (.lst (F++[.int a])),some (.int a),some (.int a)]):=by walk_at "ev"
theorem qib(W O:D):∀(w o acc:List Int) (v3 v4:Option D),acc.length+w.length<=1000->∃w3 w4,q1p (q2b 2 (q0n (gSet 3) (q0n (gSet 4) q2c))) w0w ((w.zip o).map λq=>D.tup [.int q.1,.int q.2]) [some W,some O,some (.lst (acc.map D.int)),v3,v4]=some (.nx [some W,some O,some (.lst ((acc++q2z w o).map D.int)),w3,w4])
 |[],o,acc,v3,v4,_=>⟨v3,v4,by rw[show q2z [] o=[]from by cases o<;>rfl,List.append_nil];rfl⟩
 |a::w,[],acc,v3,v4,_=>⟨v3,v4,by rw[show q2z (a::w) []=[]from rfl,List.append_nil];rfl⟩
 | a::w,b::o,acc,v3,v4,hl=>by
  rw[List.zip_cons_cons,jr];have hg:(q2b 2 (q0n (gSet 3) (q0n (gSet 4) q2c))) (D.tup [.int a,.int b]) [some W,some O,some (.lst (acc.map D.int)),v3,v4]=some [some W,some O,some (.lst (acc.map D.int)),some (.int a),some (.int b)]:=rfl;by_cases z:a=b
  ·subst z;have e1:q2z (a::w) (a::o)=a::q2z w o:=if_pos rfl;obtain⟨w3,w4,ih⟩:=qib W O w o (acc++[a]) (some (.int a)) (some (.int a)) (by rw[je];simp at hl ⊢;omega);refine⟨w3,w4,?_⟩;rw[e1,show acc++a::q2z w o=acc++[a]++q2z w o from by simp,<-ih];have hb:=qwd W O (acc.map D.int) a (by rw[j4];exact jn (by simp at hl;omega:acc.length<2000) (by decide));rw[jt];simp only[q1p,hg];rw[hb];rfl
  ·have e1:q2z (a::w) (b::o)=[]:=if_neg z;refine⟨some (.int a),some (.int b),?_⟩;rw[e1,List.append_nil];simp only[q1p,hg];have hb:w0w [some W,some O,some (.lst (acc.map D.int)),some (.int a),some (.int b)]=some (.bk [some W,some O,some (.lst (acc.map D.int)),some (.int a),some (.int b)]):=qwc _ _ _ _ _ (beq_eq_false_iff_ne.mpr z) _;rw[hb]
theorem qu9(W O Z F:List D)(v3 v4:Option D)(FB:RhO)(z0:0<=sizeLine)(hz:zipD W O=Z)(h:q1p (q2b 2 (q0n (gSet 3) (q0n (gSet 4) q2c))) FB Z [some (.lst W),some (.lst O),some (.lst []),none,none]=some (.nx [some (.lst W),some (.lst O),some (.lst F),v3,v4])):
 (runP true 2 5 (sSeq (sOwn 2 (mLst mNil)) (sSeq (sFor w10 (q2b 2 (q0n (gSet 3) (q0n (gSet 4) q2c))) FB) (q5w 2)))) [.lst W,.lst O]=some (.lst F):=by
 walk_at "ev"
theorem qms(w o:List Int)(hl:w.length<=1000):f_y36 [.lst (w.map D.int),.lst (o.map D.int)]=some (.lst ((q2z w o).map D.int)):=by obtain⟨w3,w4,h⟩:=qib (.lst (w.map D.int)) (.lst (o.map D.int)) w o [] none none (by simpa using hl);unfold f_y36 qkm;exact qu9 _ _ _ _ w3 w4 _ (by decide) (q9b w o) h
theorem qw3(two:2<=sizeLine)(z0:0<=sizeLine):(w0l [some (.int 0)]).map (·.1)=some (.tup [.int 0,.lst []]):=by walk_at "ev"
theorem qw2(k:Int)(h:(k==0)=false)(FX:RhD):((mIf w3s FX (mRet .non)) [some (.int k)]).map (·.1)=some .non:=by walk_at "ev"
theorem qsx(S:D)(M:Int)(Y:List D)(FE:RhD)(hr:f_y1 [S]=some (.int M))(bg:big M=true)(l1:(q15 0 M.toNat).length<=sizeLine)(cm:q12 1 [] none (gSet 0) (mRet true) FE (q15 0 M.toNat) [some S]=some (Y,[some S])):
 (runP false 1 1 (sRet (mOf (q22 1 [] none w0g (gSet 0) (mRet true) FE)))) [S]=some (.lst Y):=by
 walk_at "ev"
theorem qqw(R TS RS E:D)(four:4<=sizeLine):f_y31 [.tup [R,TS,RS,E]]=some (.tup [R,TS,RS,.str "open"]):=by unfold f_y31 qkq;walk_at "ev"
theorem ke_3(S n T x:D)(h:f_y32 [S]=some x):w3u [some S,some n,some T,none,none]=some (.nx [some S,some n,some T,some x,none]):=by walk_at "ev"
theorem ke_t(S n T x st:D)(Y:List D)(h:f_y34 [x,st]=some (.lst Y)):w1g [some S,some n,some T,some x,some st]=some (.nx [some S,some n,some T,some (.lst Y),some st]):=by walk_at "ev"
theorem ke_l(S S' n T x y:D)(ST:List D)(v4:Option D)(FB:RhO)(ho:f_y31 [S]=some S')(hm:f_y25 [S',n,T]=some (.lst ST))(h:q1p (gSet 4) FB ST [some S,some n,some T,some x,none]=some (.nx [some S,some n,some T,some y,v4])):
 (sSeq (sFor w24 (gSet 4) FB) (sRet (mVar 3))) [some S,some n,some T,some x,none]=some (.rt y [some S,some n,some T,some y,v4]):=by
 walk_at "ev"
theorem se_t(d:D)(b:Bool)(h:q5a d .non=some (.bl b)):(q0q (mOp2 q5a (mVar 0) (mRet .non))) [some d]=some (b,[some d]):=by generalize q5a=F at h ⊢;walk_at "ev"
theorem se_e(a w:D):((mOp2 dIx (mVar 0) (mRet (.int 1))) [some (.tup [a,w])]).map (·.1)=some w:=by walk_at "ev"
theorem se_3(S n T:D)(KP WS:List D)(FT:RhB)(FE:RhD)(hk:f_y35 [S,n,T]=some (.lst KP))(lk:KP.length<=sizeLine)(cm:q12 1 [] none (gSet 0) FT FE KP [some S,some n,some T,none,none,none]=some (WS,[some S,some n,some T,none,none,none])):
 (sSet 3 (mOf (q22 1 [] none (mSeq (q0k f_y35 w07)) (gSet 0) FT FE))) [some S,some n,some T,none,none,none]=some (.nx [some S,some n,some T,some (.lst WS),none,none]):=by
 walk_at "ev"
theorem se_4(S n T w:D)(WS:List D)(h:atI WS 0=some w):w3k [some S,some n,some T,some (.lst WS),none,none]=some (.nx [some S,some n,some T,some (.lst WS),some w,none]):=by walk_at "ev"
theorem se_5(S n T WS w v:D)(Y:List D)(h:f_y36 [w,v]=some (.lst Y)):w1f [some S,some n,some T,some WS,some w,some v]=some (.nx [some S,some n,some T,some WS,some (.lst Y),some v]):=by walk_at "ev"
theorem se_l(S n T w y:D)(WS:List D)(v5:Option D)(FB:RhO)(h:q1p (gSet 5) FB WS [some S,some n,some T,some (.lst WS),some w,none]=some (.nx [some S,some n,some T,some (.lst WS),some y,v5])):
 (sSeq (sFor (mSeq (mVar 3)) (gSet 5) FB) (sRet (mVar 4))) [some S,some n,some T,some (.lst WS),some w,none]=some (.rt y [some S,some n,some T,some (.lst WS),some y,v5]):=by
 walk_at "ev"
def q6w(row:Kr):List (List Int):=row.filterMap λo=>o.map (·.2)
def q10(row:Kr):List Int:=(q6w row).foldl q2z ((q6w row).headD [])
section
variable{r:Int}{taps:List Int}{rows:List (List Int)}{e:Str}
theorem qmy(ok:q2g r taps rows e):q2g r taps rows "open":={ok with en:=.inl rfl}
theorem quy:f_y31 [schD r taps rows e]=some (schD r taps rows "open"):=qqw _ _ _ _ (by decide)
theorem qb5(ok:q2g r taps rows e):f_y32 [schD r taps rows e]=some (krD (q6l (2^r.toNat))):=by
 have p16:=q3e ok.r0 ok.r4;have pn:=q2o (r:=r);have bg:big ((2:Int)^r.toNat)=true:=by unfold big;simp;omega
 have tn:((2:Int)^r.toNat).toNat=2^r.toNat:=by omega
 have cm:=q4p (n:=1) (js:=[]) (fg:=gSet 0) (fe:=w0l) (ρ:=[some (schD r taps rows e)])
  (λd=>match d with|.int k=>koD (if k=0 then some (0,[])else none)|d=>d) (q15 0 ((2:Int)^r.toNat).toNat) (λx hx=>by
    obtain⟨k,hk⟩:=List.mem_iff_getElem?.mp hx;obtain⟨hk1,rfl⟩:=q1t hk;rw[Int.zero_add];refine⟨_,rfl,?_⟩;by_cases z:(k:Int)=0
    ·show _=some (koD (if(k:Int)=0 then some (0,[])else none));rw[if_pos z,z];exact qw3 (by decide) (by decide)
    ·show _=some (koD (if(k:Int)=0 then some (0,[])else none));rw[if_neg z];exact qw2 _ (beq_eq_false_iff_ne.mpr z) _)
 have ey:(q15 0 ((2:Int)^r.toNat).toNat).map (λd=>match d with|.int k=>koD (if k=0 then some (0,[])else none)|d=>d)=(q6l (2^r.toNat)).map koD:=by
  unfold q15 q6l;rw[tn,jl,jl];refine List.map_congr_left λk _=>?_;show koD (if(0:Int)+(k:Int)=0 then some (0,[])else none)=koD (if k=0 then some (0,[])else none);by_cases z:k=0
  ·rw[if_pos z,if_pos (by omega)]
  ·rw[if_neg z,if_neg (by omega)]
 rw[ey]at cm;unfold f_y32 qkp krD;exact qsx _ _ _ _ (p_y1 ok) bg (by rw[q1h,tn];exact q1d (by omega)) cm
theorem qm9(ts:List Told)(n:Nat){i:Nat}{len:Nat}(h:i<=len):(q0z r taps rows ts n 0 len).take i=q0z r taps rows ts n 0 i:=by
 apply List.ext_getElem?;intro j;rw[List.getElem?_take];unfold q0z;by_cases z:j<i
 ·rw[if_pos z,j9,j9,List.getElem?_range' (by omega),List.getElem?_range' z]
 ·rw[if_neg z,xg (by rw[j4,List.length_range'];omega)]
theorem quw(ok:q2g r taps rows e)(k:Nat)(hk:k<=60)(ts:List Told)(hl:ts.length=(q0c taps rows k).length):
 f_y35 [schD r taps rows e,.int k,.lst (ts.map q1a)]=some (krD (qbk (2^r.toNat) (q0z r taps rows ts k 0 k))):=by
 have p16:=q3e ok.r0 ok.r4;have pn:=q2o (r:=r);have hz:q0a r "open"=0:=if_neg (by decide);have hm:=qqr (qmy ok) k hk (λq=>absurd q (by decide)) ts (by rw[hz];exact hl);rw[hz,Nat.add_zero]at hm;have kok:∀i,i<=k->q2n (r:=r) (taps:=taps) (rows:=rows) (ts:=ts) i ((q0z r taps rows ts k 0 i).foldl q5i (q6l (2^r.toNat))):=λi hi=>by have:=q8z (n:=k) i 0 _ (by omega) (q61 (r:=r) (taps:=taps) (rows:=rows) (ts:=ts));rw[jo]at this;exact this
 have ls:(q0z r taps rows ts k 0 k).length=k:=by unfold q0z;rw[j4,List.length_range']
 obtain⟨ρ',l1,v4,hρ⟩:=q2q (fg:=gSet 4) (fb:=w1g)
  (λi ρ=>∃v4,ρ=[some (schD r taps rows e),some (.int (k:Int)),some (.lst (ts.map q1a)),some (krD (((q0z r taps rows ts k 0 k).take i).foldl q5i (q6l (2^r.toNat)))),v4]) ((q0z r taps rows ts k 0 k).map sxD) 0
  [some (schD r taps rows e),some (.int (k:Int)),some (.lst (ts.map q1a)),some (krD (q6l (2^r.toNat))),none] ⟨none,rfl⟩ (λi x ρ hx ⟨v4,hρ⟩=>by
   subst hρ;rw[jo];rw[j9]at hx;cases hq:(q0z r taps rows ts k 0 k)[i]? with
   |none=>rw[hq]at hx;cases hx
   | some st=>
    rw[hq]at hx;cases hx;have hi:i<k:=by have:=(List.getElem?_eq_some_iff.mp hq).1;rw[ls]at this;exact this
    rw[take_snoc hq,List.foldl_append,qm9 ts k (by omega:i<=k)];have K:=kok i (by omega);have est:st=stepK r taps rows ts k i:=by unfold q0z at hq;rw[j9,List.getElem?_range' hi]at hq;simpa using hq.symm
    generalize (q0z r taps rows ts k 0 i).foldl q5i (q6l (2^r.toNat))=row at K;have hst:∀ch∈st,∀q∈ch,0<=q.1/\q.1.toNat<row.length:=λch hch q hq=>by rw[est]at hch;unfold L2.stepK at hch;obtain⟨z9,_,rfl⟩:=List.mem_map.mp hch;obtain⟨b,_,rfl⟩:=List.mem_map.mp hq;have h1:(0:Int)<2^r.toNat:=Int.pow_pos (by decide);have h2:=Int.emod_nonneg (2*(z9:Int)+b) (by omega:(2:Int)^r.toNat≠0);have h3:=Int.emod_lt_of_pos (2*(z9:Int)+b) h1;rw[K.len];refine⟨h2,?_⟩;show((2*(z9:Int)+b) % 2^r.toNat).toNat<_;omega
    have hon:=qj4 row st i (λq p h=>(K.is q p h).2.1) (by omega) (by rw[K.len];omega) hst;exact⟨_,_,rfl,.inl (ke_t _ _ _ _ _ _ hon),_,rfl⟩)
 subst hρ;rw[j4,jo,List.take_length]at l1;exact q4k rfl ⟨_,(q0v (ke_3 _ _ _ _ (qb5 ok))).trans (ke_l _ _ _ _ _ _ _ _ _ quy hm l1)⟩
theorem qqq(ok:q2g r taps rows e)(k:Nat)(hk:k<=60)(ts:List Told)(hl:ts.length=(q0c taps rows k).length):
 f_y37 [schD r taps rows e,.int k,.lst (ts.map q1a)]=some (.lst ((q10 (qbk (2^r.toNat) (q0z r taps rows ts k 0 k))).map D.int)):=by
 have p16:=q3e ok.r0 ok.r4;have pn:=q2o (r:=r);have hkept:=quw ok k hk ts hl;have K:q2n (r:=r) (taps:=taps) (rows:=rows) (ts:=ts) k (qbk (2^r.toNat) (q0z r taps rows ts k 0 k)):=by have:=q8z (n:=k) k 0 _ (by omega) (q61 (r:=r) (taps:=taps) (rows:=rows) (ts:=ts));rw[jo]at this;exact this
 generalize qbk (2^r.toNat) (q0z r taps rows ts k 0 k)=row at hkept K;have cf:=q4q (n:=1) (js:=[]) (fg:=gSet 0) (ft:=q0q (mOp2 q5a (mVar 0) (mRet .non))) (fe:=(mOp2 dIx (mVar 0) (mRet (.int 1)))) (ρ:=[some (schD r taps rows e),some (.int (k:Int)),some (.lst (ts.map q1a)),none,none,none])
  (λd=>match d with|.non=>false|_=>true) (λd=>match d with|.tup [_,w]=>w|d=>d) (row.map koD) (λx hx=>by
    obtain⟨o,_,rfl⟩:=List.mem_map.mp hx;cases o with
    |none=>exact⟨_,rfl,se_t _ _ rfl,λh=>nomatch h⟩
    |some p=>exact⟨_,rfl,se_t _ _ rfl,λ_=>se_e _ _⟩)
 have ew:∀row:Kr,((row.map koD).filter (λd=>match d with|.non=>false|_=>true)).map (λd=>match d with|.tup [_,w]=>w|d=>d)=(q6w row).map λw=>D.lst (w.map D.int):=λrow=>by
  induction row with
  |nil=>rfl
  | cons o row ih=>
   cases o with
   |none=>exact ih
   | some p=>
    show D.lst (p.2.map D.int)::_=D.lst (p.2.map D.int)::_;rw[ih];rfl
 rw[ew]at cf;have hword:∀w∈q6w row,w.length=k:=λw hw=>by
  obtain⟨o,ho,e1⟩:=List.mem_filterMap.mp hw;obtain⟨q,hq⟩:=List.mem_iff_getElem?.mp ho;cases o with
  |none=>cases e1
  | some p=>
   have e1:p.2=w:=ja e1;rw[<-e1];exact(K.is q p hq).2.1
 have hne:q6w row≠[]:=by obtain⟨p,h1,_⟩:=K.best (List.replicate k 0) (q3r _) jj;intro z;have:p.2∈q6w row:=List.mem_filterMap.mpr ⟨some p,xk h1,rfl⟩;rw[z]at this;cases this
 unfold q10;generalize q6w row=ws at cf hword hne;obtain⟨w0,ws',rfl⟩:∃w0 ws',ws=w0::ws':=by
  cases ws with
  |nil=>exact absurd rfl hne
  |cons a b=>exact⟨a,b,rfl⟩
 have h0:=hword w0 jg;obtain⟨ρ',l1,v5,hρ⟩:=q2q (fg:=gSet 5) (fb:=w1f)
  (λi ρ=>∃v5,ρ=[some (schD r taps rows e),some (.int (k:Int)),some (.lst (ts.map q1a)),some (.lst ((w0::ws').map λw=>D.lst (w.map D.int))),some (.lst ((((w0::ws').take i).foldl q2z w0).map D.int)),v5]) ((w0::ws').map λw=>D.lst (w.map D.int)) 0
  [some (schD r taps rows e),some (.int (k:Int)),some (.lst (ts.map q1a)),some (.lst ((w0::ws').map λw=>D.lst (w.map D.int))),some (.lst (w0.map D.int)),none] ⟨none,rfl⟩ (λi x ρ hx ⟨v5,hρ⟩=>by
   subst hρ;rw[jo];rw[j9]at hx;cases hq:(w0::ws')[i]? with
   |none=>rw[hq]at hx;cases hx
   | some w=>
    rw[hq]at hx;cases hx;rw[take_snoc hq,List.foldl_append];have hle:=(q65 ((w0::ws').take i) w0).1.length_le;exact⟨_,_,rfl,.inl (se_5 _ _ _ _ _ _ _ (qms _ w (by omega))),_,rfl⟩)
 subst hρ;rw[j4,jo,List.take_length]at l1;refine q4k rfl ⟨_,(q0v (se_3 _ _ _ _ _ _ _ hkept (q1d (by rw[j4,K.len];omega)) cf)).trans<|(q0v (se_4 _ _ _ _ _ (at0 _ _))).trans (se_l _ _ _ _ _ _ _ _ l1)⟩
end
def nxK(s:Int):Int:=(s*1181783497276652981+12345678910987) % 2305843009213693951
def drK(s m:Int):Int:=nxK s / 65537 % m
theorem q5q(s:Int){m:Int}(h:0<m):0<=drK s m:=Int.emod_nonneg _ (by omega)
theorem q5r(s:Int){m:Int}(h:0<m):drK s m<m:=Int.emod_lt_of_pos _ h
theorem q4e(s m:Int)(h:0<m):f_y42 [.int s] [.int m]=some (.int (drK s m),[.int (nxK s)]):=by unfold f_y42 qkj;walk_at "ev";simp[nxK,drK]
theorem qaj(c k:Int)(one:1<=sizeLine):f_y41 [.int c,.int k]=some (.lst [.int ((c % 10^60*7368787+1000003*k+17) % 2305843009213693951)]):=by unfold f_y41 qkk;walk_at "ev"
theorem cell_in(N:List D)(k x:Int)(h:k<(N.length:Nat))(h0:0<=k)(ha:atI N k=some (.int x)):f_y40 [.lst N,.int k]=some (.int (x % 10^60)):=by unfold f_y40 qi7;walk_at "ev"
theorem cell_out(N:List D)(k:Int)(h:¬k<(N.length:Nat)):f_y40 [.lst N,.int k]=some (.int 0):=by unfold f_y40 qi7;walk_at "ev"
theorem q8k(ns:List Int)(k:Int)(h0:0<=k):∃c:Int,f_y40 [.lst (ns.map D.int),.int k]=some (.int c):=by
 by_cases h:k<ns.length
 ·refine⟨ns[k.toNat] % 10^60,cell_in _ _ _ (by rw[j4];omega) h0 ?_⟩;rw[q4h (by omega) (by rw[j4];omega),j9,jb (by omega)];rfl
 ·exact⟨0,cell_out _ _ (by rw[j4];omega)⟩
theorem s0(s x m:Int)(E:D)(nine:9<=sizeLine)(hx:atI [D.int 0,D.int 1,D.int 2,D.int 2,D.int 3,D.int 1,D.int 2,D.int 3,D.int 4] (drK s 9)=some (.int x))(hm:(if x<3 then x else 3)=m):
 (sSet 3 (mMM (λi j=>if j<i then j else i) w09)) [some (.lst [.int s]),some (.int 3),some E,none,none,none,none]=some (.nx [some (.lst [.int (nxK s)]),some (.int 3),some E,some (.int m),none,none,none]):=by
 have h:=q4e s 9 (by decide);rw[<-hm];clear hm;walk_at "ev"
theorem s1e(x s m:Int)(r:Int)(hm:dShl (.int 2) (.int r)=some (.int m))(h0:0<m):(q17 f_y42 1 (q00 (mOp2 dShl (mRet (.int 2)) (mVar 2)) mNil)) [some (.int x),some (.lst [.int s]),some (.int r)]=some (.int (drK s m),[some (.int x),some (.lst [.int (nxK s)]),some (.int r)]):=by have h:=q4e s m h0;generalize dShl=SH at hm ⊢;walk_at "ev"
theorem s1r(s:Int)(v1 v2 v3 v4 v5 v6:Option D):(q00 (mOp2 dAdd (mRet (.int 1)) w2m) mNil) [some (.lst [.int s]),v1,v2,v3,v4,v5,v6]=some ([.int (1+drK s 4)],[some (.lst [.int (nxK s)]),v1,v2,v3,v4,v5,v6]):=by have h:=q4e s 4 (by decide);walk_at "ev"
theorem s1x(s s1 s2 r:Int)(E:D)(X Y:List D)(FI:RhL)(FE:RhD)(lx:X.length<=sizeLine)
 (hI:FI [some (.lst [.int s]),some (.int 3),some E,some (.int r),none,none,none]=some (X,[some (.lst [.int s1]),some (.int 3),some E,some (.int r),none,none,none]))
 (cm:q12 1 [0,3] (some (0,1)) (gSet 0) (mRet true) FE X [some (.lst [.int s1]),some (.int 3),some E,some (.int r),none,none,none]=some (Y,[some (.lst [.int s2]),some (.int 3),some E,some (.int r),none,none,none])):
 (sSet 4 (mOf (q22 1 [0,3] (some (0,1)) FI (gSet 0) (mRet true) FE))) [some (.lst [.int s]),some (.int 3),some E,some (.int r),none,none,none]=some (.nx [some (.lst [.int s2]),some (.int 3),some E,some (.int r),some (.lst Y),none,none]):=by
 walk_at "ev"
theorem q4l{ρ ρ1:Rho}{fs:RhL}{n:Int}(h:fs ρ=some ([.int n],ρ1))(n0:0<=n)(n1:n<=1000):q30 fs ρ=some (q15 0 n.toNat,ρ1):=by refine qqa h ?_;unfold big;simp;omega
theorem s1(s r:Int)(E:D)(r0:0<=r)(r4:r<=4):∃(ts:List Int) (s':Int),(sSet 4 (mOf (q22 1 [0,3] (some (0,1)) (q30 (q00 (mOp2 dAdd (mRet (.int 1)) w2m) mNil)) (gSet 0) (mRet true) (q17 f_y42 1 (q00 (mOp2 dShl (mRet (.int 2)) (mVar 2)) mNil))))) [some (.lst [.int s]),some (.int 3),some E,some (.int r),none,none,none]=some (.nx [some (.lst [.int s']),some (.int 3),some E,some (.int r),some (.lst (ts.map D.int)),none,none])
 /\1<=ts.length/\ts.length<=4/\∀t∈ts,0<=t/\t<2*2^r.toNat:=by
 have d0:=q5q s (m:=4) (by decide);have d3:=q5r s (m:=4) (by decide);have zl:(0:Int)<2*2^r.toNat:=Int.mul_pos (by decide) (Int.pow_pos (by decide));have hsh:dShl (.int 2) (.int r)=some (.int (2*2^r.toNat)):=by
  have r6:r<=1000000:=by omega
  simp[dShl,dI2,qb8,r0,r6]
 obtain⟨ys,s2,c1,c2,c3⟩:=q6u (n:=1) (p:=0) (q:=1) (js:=[0,3]) (fg:=gSet 0) (fe:=q17 f_y42 1 (q00 (mOp2 dShl (mRet (.int 2)) (mVar 2)) mNil))
  (λs:Int=>[some (.lst [.int s]),some (.int 3),some E,some (.int r),none,none,none]) (λy=>∃t:Int,y=.int t/\0<=t/\t<2*2^r.toNat) (q15 0 (1+drK s 4).toNat) (λx hx s=>by obtain⟨k,hk⟩:=List.mem_iff_getElem?.mp hx;obtain⟨_,rfl⟩:=q1t hk;exact⟨[some (.int (0+(k:Int))),some (.lst [.int s]),some (.int r)],[some (.int (0+(k:Int))),some (.lst [.int (nxK s)]),some (.int r)],.int (drK s (2*2^r.toNat)),nxK s,rfl,s1e _ _ _ _ hsh zl,rfl,_,rfl,q5q s zl,q5r s zl⟩) (nxK s)
 obtain⟨ts,rfl,tb⟩:=q7j c3;rw[j4,q1h]at c2;exact⟨ts,s2,s1x _ _ _ _ _ _ _ _ _ (by rw[q1h];exact q1d (by omega)) (q4l (s1r _ _ _ _ _ _ _) (by omega) (by omega)) c1,by omega,by omega,tb⟩
abbrev w0h:=w2s
theorem s4e(x s:Int)(h:(0:Int)<4):(mOp1 dInt w0h) [some (.int x),some (.lst [.int s])]=some (.int (if drK s 4>0 then 1 else 0),[some (.int x),some (.lst [.int (nxK s)])]):=by have h4:=q4e s 4 h;walk_at "ev"
theorem s4r(s:Int)(v1 v2 v3 v4 v5 v6:Option D):(q00 (mOp2 dAdd (mRet (.int 1)) w2l) mNil) [some (.lst [.int s]),v1,v2,v3,v4,v5,v6]=some ([.int (1+drK s 6)],[some (.lst [.int (nxK s)]),v1,v2,v3,v4,v5,v6]):=by have h:=q4e s 6 (by decide);walk_at "ev"
theorem s4t(s s' r:Int)(E k:D)(TS RS RW:List D)(FE:RhD)(l3:TS.length<=sizeLine)(l6:RS.length<sizeLine)
 (g1:q12 1 [0] (some (0,1)) (gSet 0) (mRet true) FE TS [some (.lst [.int s]),some (.int 3),some E,some (.int r),some (.lst TS),some (.lst RS),some k]=some (RW,[some (.lst [.int s']),some (.int 3),some E,some (.int r),some (.lst TS),some (.lst RS),some k])):
 (sMut q25 5 (q00 (mOp1 q4g (mOf (q22 1 [0] (some (0,1)) (mSeq (mVar 4)) (gSet 0) (mRet true) FE))) mNil)) [some (.lst [.int s]),some (.int 3),some E,some (.int r),some (.lst TS),some (.lst RS),some k]=some (.nx [some (.lst [.int s']),some (.int 3),some E,some (.int r),some (.lst TS),some (.lst (RS++[.tup RW])),some k]):=by
 walk_at "ev"
theorem s4f(s s1:Int)(s' r:Int)(E:D)(v:Option D)(X TS RS:List D)(FI:RhL)(FB:RhO)
 (hI:FI [some (.lst [.int s]),some (.int 3),some E,some (.int r),some (.lst TS),some (.lst []),none]=some (X,[some (.lst [.int s1]),some (.int 3),some E,some (.int r),some (.lst TS),some (.lst []),none]))
 (f1:q1p (gSet 6) FB X [some (.lst [.int s1]),some (.int 3),some E,some (.int r),some (.lst TS),some (.lst []),none]=some (.nx [some (.lst [.int s']),some (.int 3),some E,some (.int r),some (.lst TS),some (.lst RS),v])):
 (sFor FI (gSet 6) FB) [some (.lst [.int s]),some (.int 3),some E,some (.int r),some (.lst TS),some (.lst []),none]=some (.nx [some (.lst [.int s']),some (.int 3),some E,some (.int r),some (.lst TS),some (.lst RS),v]):=by
 walk_at "ev"
theorem s4(s r:Int)(E:D)(taps:List Int)(h1:1<=taps.length)(h4:taps.length<=4):∃(rows:List (List Int)) (s':Int) (v:Option D),(sFor (q30 (q00 (mOp2 dAdd (mRet (.int 1)) w2l) mNil)) (gSet 6)
 w06) [some (.lst [.int s]),some (.int 3),some E,some (.int r),some (.lst (taps.map D.int)),some (.lst []),none]=some (.nx [some (.lst [.int s']),some (.int 3),some E,some (.int r),some (.lst (taps.map D.int)),some (.lst (rows.map rowD)),v])
 /\1<=rows.length/\rows.length<=6/\∀row∈rows,row.length=taps.length/\∀b∈row,b=0∨b=1:=by
 have d0:=q5q s (m:=6) (by decide);have d6:=q5r s (m:=6) (by decide);obtain⟨ρ',f1,rows,s3,v,rfl,lr,hrow⟩:=q2q (fg:=gSet 6) (fb:=w06)
  (λi ρ=>∃(rows:List (List Int)) (s:Int) (v:Option D),ρ=[some (.lst [.int s]),some (.int 3),some E,some (.int r),some (.lst (taps.map D.int)),some (.lst (rows.map rowD)),v]/\rows.length=i/\∀row∈rows,row.length=taps.length/\∀b∈row,b=0∨b=1)
  (q15 0 (1+drK s 6).toNat) 0 [some (.lst [.int (nxK s)]),some (.int 3),some E,some (.int r),some (.lst (taps.map D.int)),some (.lst []),none] ⟨[],_,none,rfl,rfl,λ_ h=>nomatch h⟩ (by
    rintro i x ρ hx ⟨rows,s,v,rfl,lr,hrow⟩;obtain⟨hi,rfl⟩:=q1t hx;obtain⟨bs,s4,g1,g2,g3⟩:=q6u (n:=1) (p:=0) (q:=1) (js:=[0]) (fg:=gSet 0) (fe:=mOp1 dInt w0h)
     (λs':Int=>[some (.lst [.int s']),some (.int 3),some E,some (.int r),some (.lst (taps.map D.int)),some (.lst (rows.map rowD)),some (.int (0+(i:Int)))]) (λy=>∃t:Int,y=.int t/\(t=0∨t=1)) (taps.map D.int) (λx hx s'=>by
       obtain⟨z,_,rfl⟩:=List.mem_map.mp hx;refine⟨[some (.int z),some (.lst [.int s'])],[some (.int z),some (.lst [.int (nxK s')])],_,nxK s',rfl,s4e z s' (by decide),rfl,_,rfl,?_⟩;split
       ·exact .inr rfl
       ·exact .inl rfl) s
    obtain⟨row,rfl,hb⟩:=q7j g3;rw[j4,j4]at g2;refine⟨_,[some (.lst [.int s4]),some (.int 3),some E,some (.int r),some (.lst (taps.map D.int)),some (.lst ((rows++[row]).map rowD)),some (.int (0+(i:Int)))],rfl,.inl ?_,rows++[row],s4,_,rfl,by rw[je,lr];simp,λz hz=>?_⟩
    ·have e6:(rows++[row]).map rowD=rows.map rowD++[.tup (row.map D.int)]:=by rw[jt];rfl
     rw[e6];exact s4t _ _ _ _ _ _ _ _ _ (by rw[j4];exact q1d (by omega)) (by rw[j4];exact jn (by omega:rows.length<1000) (by decide)) g1
    ·rcases List.mem_append.mp hz with hz|hz
     ·exact hrow z hz
     ·rw[List.mem_singleton.mp hz];exact⟨g2,hb⟩)
 rw[q1h]at lr;exact⟨rows,s3,v,s4f _ _ _ _ _ _ _ _ _ _ _ (q4l (s4r _ _ _ _ _ _ _) (by omega) (by omega)) f1,by omega,by omega,hrow⟩
theorem s3(s r:Int)(E T:D)(z0:0<=sizeLine):(sOwn 5 (mLst mNil)) [some (.lst [.int s]),some (.int 3),some E,some (.int r),some T,none,none]=some (.nx [some (.lst [.int s]),some (.int 3),some E,some (.int r),some T,some (.lst []),none]):=by walk_at "ev"
theorem s5(s r:Int)(E TS RS:List D)(x:D)(v:Option D)(four:4<=sizeLine)(hE:((E.length:Nat):Int)=2)(hx:atI E (drK s 2)=some x):
 w0z [some (.lst [.int s]),some (.int 3),some (.lst E),some (.int r),some (.lst TS),some (.lst RS),v]=some (.rt (.tup [.int r,.tup TS,.tup RS,x]) [some (.lst [.int (nxK s)]),some (.int 3),some (.lst E),some (.int r),some (.lst TS),some (.lst RS),v]):=by
 have h:=q4e s 2 (by decide);walk_at "ev"
theorem qak(s:Int):∃r taps rows e s',f_y43 [.int s] [.int 3,.lst [.str "open",.str "ended"]]=some (schD r taps rows e,[.int s'])/\q2g r taps rows e/\e≠"ring":=by
 obtain⟨x,hx,x0,x4⟩:∃x:Int,atI [D.int 0,D.int 1,D.int 2,D.int 2,D.int 3,D.int 1,D.int 2,D.int 3,D.int 4] (drK s 9)=some (.int x)/\0<=x/\x<=4:=by have d0:=q5q s (m:=9) (by decide);have d9:=q5r s (m:=9) (by decide);rcases(by omega:drK s 9=0∨drK s 9=1∨drK s 9=2∨drK s 9=3∨drK s 9=4∨drK s 9=5∨drK s 9=6∨drK s 9=7∨drK s 9=8)with q|q|q|q|q|q|q|q|q<;>(rw[q];exact⟨_,rfl,by decide,by decide⟩)
 obtain⟨r,hr⟩:∃r,(if x<3 then x else 3)=r:=⟨_,rfl⟩;have r0:0<=r/\r<=4:=by split at hr<;>omega
 have a0:=s0 s x r (.lst [.str "open",.str "ended"]) (by decide) hx hr;obtain⟨taps,s1',a1,b1,b4,tb⟩:=s1 (nxK s) r (.lst [.str "open",.str "ended"]) r0.1 r0.2;have a3:=s3 s1' r (.lst [.str "open",.str "ended"]) (.lst (taps.map D.int)) (by decide);obtain⟨rows,s4',v,a4,m1,m6,hrow⟩:=s4 s1' r (.lst [.str "open",.str "ended"]) taps b1 b4;obtain⟨e,he,hen⟩:∃e:Str,atI [D.str "open",D.str "ended"] (drK s4' 2)=some (.str e)/\(e="open"∨e="ended"):=by
  have d0:=q5q s4' (m:=2) (by decide);have d2:=q5r s4' (m:=2) (by decide);rcases(by omega:drK s4' 2=0∨drK s4' 2=1)with q|q
  ·rw[q];exact⟨_,rfl,.inl rfl⟩
  ·rw[q];exact⟨_,rfl,.inr rfl⟩
 have a5:=s5 s4' r [.str "open",.str "ended"] (taps.map D.int) (rows.map rowD) (.str e) v (by decide) rfl he;refine⟨r,taps,rows,e,nxK s4',?_,⟨r0.1,r0.2,b1,b4,tb,m1,m6,hrow,by rcases hen with q|q;exact .inl q;exact .inr (.inl q)⟩,by rcases hen with q|q<;>(rw[q];decide)⟩;have body:=(q0v a0).trans<|(q0v a1).trans<|(q0v a3).trans<|(q0v a4).trans a5;unfold f_y43 runS;rw[if_pos (show [D.int 3,D.lst [.str "open",.str "ended"]].length+1=3 from rfl)];show(match qi6 [some (.lst [.int s]),some (.int 3),some (.lst [.str "open",.str "ended"]),none,none,none,none]with
  | some (.rt d ρ)=>(match (ρ[0]? :Option (Option D))with
   |some (some (D.lst ys))=>some (d,ys)
   |_=>none)
  | some (.nx ρ)=>if false=true then none else(match (ρ[0]? :Option (Option D))with
   |some (some (D.lst ys))=>some (.non,ys)
   |_=>none)
  |_=>none)=_
 unfold qi6;rw[body];rfl
theorem od_t(l o:Int):w2f [some (.int l),some (.int o)]=some (decide (0<l),[some (.int l),some (.int o)]):=by walk_at "ev"
theorem od_b(l o:Int):(sSeq (sSet 1 (mOp2 dMod (mOp2 dAdd (mVar 1) (mOp2 dMod (mVar 0) (mRet (.int 2)))) (mRet (.int 2))))
 w29) [some (.int l),some (.int o)]=some (.nx [some (.int (l / 2)),some (.int ((o+l % 2) % 2))]):=by
 walk_at "ev"
theorem qgl:∀(f zm:Nat) (l o:Int),0<=l->l.toNat<2^f->f<zm->∃l' o':Int,q2d w2f
 (sSeq (sSet 1 (mOp2 dMod (mOp2 dAdd (mVar 1) (mOp2 dMod (mVar 0) (mRet (.int 2)))) (mRet (.int 2)))) w29) zm [some (.int l),some (.int o)]=some (.nx [some (.int l'),some (.int o')])
 |_,0,_,_,_,_,h=>absurd h (Nat.not_lt_zero _)
 | f,zm+1,l,o,l0,lf,hf=>by
  have ht:=od_t l o;by_cases hl:0<l
  ·cases f with
   |zero=>exact absurd lf (by omega)
   | succ f=>
    have e2:(l / 2).toNat=l.toNat / 2:=by omega
    have lt2:(l / 2).toNat<2^f:=by rw[e2];rw[Nat.pow_succ]at lf;omega
    obtain⟨l',o',ih⟩:=qgl f zm (l / 2) ((o+l % 2) % 2) (by omega) lt2 (by omega);refine⟨l',o',?_⟩;rw[decide_eq_true hl]at ht;unfold q2d;rw[ht];dsimp only;rw[od_b];exact ih
  ·rw[decide_eq_false hl]at ht;refine⟨l,o,?_⟩;unfold q2d;rw[ht]
theorem quh(n:Int)(h0:0<=n)(h:n<32):∃o:Int,f_y44 [.int n]=some (.int o):=by obtain⟨l',o',hw⟩:=qgl 5 1000 n 0 h0 (by omega) (by decide);refine⟨o',?_⟩;unfold f_y44 qki;generalize (1000:Nat)=zm at hw ⊢;clear h0 h;walk_at "ev"
theorem st_4(S k:D)(z9 bit:Int):(sSet 4 (mOp2 dAdd (mOp2 q44 (mRet (.int 2)) (mVar 2)) (mVar 3))) [some S,some k,some (.int z9),some (.int bit),none,none,none]=some (.nx [some S,some k,some (.int z9),some (.int bit),some (.int (2*z9+bit)),none,none]):=by walk_at "ev"
theorem st_e(t zh o:Int)(h:f_y44 [.int (Builtin.bitAnd zh t)]=some (.int o)):((q0k f_y44 w12) [some (.int t),some (.int zh)]).map (·.1)=some (.int o):=by walk_at "ev"
theorem st_5(R RS e k z9 bit zh:D)(TS Y:List D)(FE:RhD)(lt:TS.length<=sizeLine)(cm:q12 1 [4] none (gSet 0) (mRet true) FE TS [some (.tup [R,.tup TS,RS,e]),some k,some z9,some bit,some zh,none,none]=some (Y,[some (.tup [R,.tup TS,RS,e]),some k,some z9,some bit,some zh,none,none])):
 (sSet 5 (mOf (q22 1 [4] none w2c (gSet 0) (mRet true) FE))) [some (.tup [R,.tup TS,RS,e]),some k,some z9,some bit,some zh,none,none]=some (.nx [some (.tup [R,.tup TS,RS,e]),some k,some z9,some bit,some zh,some (.lst Y),none]):=by
 walk_at "ev"
theorem st_6(R TS e z9 bit zh Y:D)(RS RW:List D)(k':Int)(ze:0<RS.length)(hr:atI RS (k' % (RS.length:Nat))=some (.tup RW)):
 w1b [some (.tup [R,TS,.tup RS,e]),some (.int k'),some z9,some bit,some zh,some Y,none]=some (.nx [some (.tup [R,TS,.tup RS,e]),some (.int k'),some z9,some bit,some zh,some Y,some (.tup RW)]):=by
 walk_at "ev"
theorem st_n(S k z9 bit zh L:D)(Y:List D):(q00 (mOp1 dLen (mVar 5)) mNil) [some S,some k,some z9,some bit,some zh,some (.lst Y),some L]=some ([.int ((Y.length:Nat):Int)],[some S,some k,some z9,some bit,some zh,some (.lst Y),some L]):=by walk_at "ev"
theorem st_t(Y RW:List D)(i b:Int)(h:atI RW i=some (.int b)):(q0q w1u) [some (.int i),some (.lst Y),some (.tup RW)]=some (b==1,[some (.int i),some (.lst Y),some (.tup RW)]):=by walk_at "ev"
theorem st_v(Y RW:List D)(i:Int)(y:D)(h:atI Y i=some y):((mOp2 dIx (mVar 1) (mVar 0)) [some (.int i),some (.lst Y),some (.tup RW)]).map (·.1)=some y:=by walk_at "ev"
theorem st_r(r zh m:Int)(TS RS e k z9 bit Y L:D)(X Z:List D)(FI:RhL)(FT:RhB)(FE:RhD)(two:2<=sizeLine)(lx:X.length<=sizeLine)(hs:dShl (.int 1) (.int r)=some (.int m))(m0:0<m)
 (hI:FI [some (.tup [.int r,TS,RS,e]),some k,some z9,some bit,some (.int zh),some Y,some L]=some (X,[some (.tup [.int r,TS,RS,e]),some k,some z9,some bit,some (.int zh),some Y,some L]))
 (cm:q12 1 [5,6] none (gSet 0) FT FE X [some (.tup [.int r,TS,RS,e]),some k,some z9,some bit,some (.int zh),some Y,some L]=some (Z,[some (.tup [.int r,TS,RS,e]),some k,some z9,some bit,some (.int zh),some Y,some L])):
 (sRet (mTup (q00 (mOp2 dMod (mVar 4) (mOp2 dShl (mRet (.int 1)) (mOp2 dIx (mVar 0) (mRet (.int 0))))) (q00 (mOf (q22 1 [5,6] none FI (gSet 0) FT FE)) mNil)))) [some (.tup [.int r,TS,RS,e]),some k,some z9,some bit,some (.int zh),some Y,some L]=some (.rt (.tup [.int (zh % m),.lst Z]) [some (.tup [.int r,TS,RS,e]),some k,some z9,some bit,some (.int zh),some Y,some L]):=by
 generalize dShl=SH at hs ⊢;walk_at "ev"
section
variable{r:Int}{taps:List Int}{rows:List (List Int)}{e:Str}
theorem quk(ok:q2g r taps rows e):dShl (.int 1) (.int r)=some (.int (2^r.toNat)):=by
 have r0:=ok.r0;have r4:=ok.r4;have r6:r<=1000000:=by omega
 simp[dShl,dI2,qb8,r0,r6]
theorem qlf(ok:q2g r taps rows e)(k:Nat):(rowAt rows k).length=taps.length/\∀b∈rowAt rows k,b=0∨b=1:=by have m1:=ok.m1;have hk:k % rows.length<rows.length:=Nat.mod_lt _ (by omega);unfold rowAt;rw[jb hk];exact ok.rw _ (xo hk)
theorem q72:∀(taps row:List Int),row.length=taps.length->(row.filter λb=>b==1).length=((taps.zip row).filter λq=>q.2==1).length
 |[],[],_=>rfl
 |[],_::_,h=>by cases h
 |_::_,[],h=>by cases h
 | t::ts,b::bs,h=>by
  have ih:=q72 ts bs (by simpa using h);rw[List.zip_cons_cons];by_cases hb:(b==1)=true
  ·rw[List.filter_cons_of_pos (p:=λb=>b==1) hb,List.filter_cons_of_pos (p:=λq:Int×Int=>q.2==1) (show((t,b).2==1)=true from hb),ji,ji,ih]
  ·rw[List.filter_cons_of_neg (p:=λb=>b==1) hb,List.filter_cons_of_neg (p:=λq:Int×Int=>q.2==1) (show¬((t,b).2==1)=true from hb),ih]
theorem qke(row:List Int):((List.range row.length).filter λk=>row.getD k 0==1).length=(row.filter λb=>b==1).length:=by
 have e1:row=(List.range row.length).map λk=>row.getD k 0:=by
  apply List.ext_getElem
  ·simp
  ·intro i h1 h2;simp[h1]
 have e2:(row.filter λb=>b==1)=(((List.range row.length).map λk=>row.getD k 0).filter λb=>b==1):=by rw[<-e1]
 rw[e2,List.filter_map,j4];rfl
theorem v_y3(ok:q2g r taps rows e)(k:Nat)(z9 bit:Int)(a0:0<=z9)(hb:0<=bit):∃ss:List Int,f_y45 [schD r taps rows e,.int k,.int z9,.int bit]=some (.tup [.int ((2*z9+bit) % 2^r.toNat),.lst (ss.map D.int)])/\ss.length=(selK taps rows k).length:=by
 have p16:=q3e ok.r0 ok.r4;obtain⟨ys,c1,c2,c3⟩:=qu7 (n:=1) (js:=[4]) (fg:=gSet 0) (fe:=q0k f_y44 w12) (ρ:=[some (schD r taps rows e),some (.int (k:Int)),some (.int z9),some (.int bit),some (.int (2*z9+bit)),none,none])
  (λy=>∃t:Int,y=.int t/\True) (taps.map D.int) (λx hx=>by obtain⟨t,ht,rfl⟩:=List.mem_map.mp hx;have tb:=ok.tb t ht;have ea:=qia (x:=2*z9+bit) (y:=t) (by omega) tb.1;have le:(2*z9+bit).toNat &&& t.toNat<=t.toNat:=Nat.and_le_right;obtain⟨o,ho⟩:=quh (Builtin.bitAnd (2*z9+bit) t) (by omega) (by omega);exact⟨[some (.int t),some (.int (2*z9+bit))],.int o,rfl,st_e _ _ _ ho,o,rfl,trivial⟩)
 obtain⟨signs,rfl,_⟩:=q7j c3;rw[j4,j4]at c2;have hrow:=qlf ok k;have hat:∀i:Nat,i<signs.length->atI ((rowAt rows k).map D.int) (i:Int)=some (.int ((rowAt rows k).getD i 0))/\atI (signs.map D.int) (i:Int)=some (.int (signs.getD i 0)):=λi hi=>by
  refine⟨?_,?_⟩
  ·rw[q4h (by omega) (by rw[j4];omega),jm,j9,jb (by omega),jk,jb (by omega)];rfl
  ·rw[q4h (by omega) (by rw[j4];omega),jm,j9,jb hi,jk,jb hi];rfl
 have cf:=q4q (n:=1) (js:=[5,6]) (fg:=gSet 0) (ft:=q0q w1u) (fe:=mOp2 dIx (mVar 1) (mVar 0)) (ρ:=[some (schD r taps rows e),some (.int (k:Int)),some (.int z9),some (.int bit),some (.int (2*z9+bit)),some (.lst (signs.map D.int)),some (.tup ((rowAt rows k).map D.int))])
  (λd=>match d with|.int i=>(rowAt rows k).getD i.toNat 0==1|_=>false) (λd=>match d with|.int i=>.int (signs.getD i.toNat 0)|d=>d) (q15 0 signs.length) (λx hx=>by obtain⟨i,hx1⟩:=List.mem_iff_getElem?.mp hx;obtain⟨hi,rfl⟩:=q1t hx1;rw[Int.zero_add];obtain⟨h1,h2⟩:=hat i hi;exact⟨_,rfl,st_t _ _ _ _ h1,λ_=>st_v _ _ _ _ h2⟩)
 have ey:((q15 0 signs.length).filter (λd=>match d with|.int i=>(rowAt rows k).getD i.toNat 0==1|_=>false)).map (λd=>match d with|.int i=>D.int (signs.getD i.toNat 0)|d=>d)=(((List.range signs.length).filter λi=>(rowAt rows k).getD i 0==1).map λi=>signs.getD i 0).map D.int:=by
  unfold q15;rw[List.filter_map,jl,jl];have e3:((λd=>match d with|D.int i=>(rowAt rows k).getD i.toNat 0==1|_=>false)∘λ(i:Nat)=>D.int (0+(i:Int)))=λi=>(rowAt rows k).getD i 0==1:=by funext i;show((rowAt rows k).getD ((0:Int)+(i:Int)).toNat 0==1)=_;rw[Int.zero_add,jm]
  rw[e3];refine List.map_congr_left λi _=>?_;show D.int (signs.getD ((0:Int)+(i:Int)).toNat 0)=_;rw[Int.zero_add,jm];rfl
 rw[ey]at cf;refine⟨((List.range signs.length).filter λi=>(rowAt rows k).getD i 0==1).map λi=>signs.getD i 0,?_,?_⟩
 ·have hl:0<(rows.map rowD).length:=by have:=ok.m1;rw[j4];omega
  have ln:((signs.map D.int).length:Int)=(signs.length:Nat):=by rw[j4]
  have t4:=ok.t4;have hI:=q4l (st_n (schD r taps rows e) (.int (k:Int)) (.int z9) (.int bit) (.int (2*z9+bit)) (.tup ((rowAt rows k).map D.int)) (signs.map D.int)) (by omega) (by rw[ln];omega);rw[ln,jm]at hI;exact q4k rfl ⟨_,(q0v (st_4 _ _ _ _)).trans<|(q0v (st_5 _ _ _ _ _ _ _ _ _ _ (by rw[j4];exact q1d (by omega)) c1)).trans<|(q0v (st_6 _ _ _ _ _ _ _ _ _ _ hl (qg1 ok k))).trans<|st_r _ _ _ _ _ _ _ _ _ _ _ _ _ _ _ _ (by decide) (by rw[q1h];exact q1d (by omega)) (quk ok) (by omega) hI cf⟩
 ·rw[j4,c2,<-hrow.1,qke];exact q72 taps (rowAt rows k) hrow.1
end
theorem qim(R TS RS W:D)(e:Str)(h:eqD (.str e) (.str "ring")=some false):f_y46 [.tup [R,TS,RS,.str e],W]=some (.int 0):=by unfold f_y46 qkh;walk_at "ev"
theorem sn_2(S:D)(W:List D)(lw:W.length<=sizeLine):(sSet 2 (mOf (q7d dSeq (mVar 1)))) [some S,some (.lst W),none,none,none,none,none]=some (.nx [some S,some (.lst W),some (.lst W),none,none,none,none]):=by walk_at "ev"
theorem sn_n(R TS RS W B:D)(e:Str)(FX:RhO)(h:eqD (.str e) (.str "ended")=some false):(sIf w0b FX sNil) [some (.tup [R,TS,RS,.str e]),some W,some B,none,none,none,none]=some (.nx [some (.tup [R,TS,RS,.str e]),some W,some B,none,none,none,none]):=by walk_at "ev"
theorem sn_y(TS RS W:D)(r:Int)(B Z:List D)(e:Str)(FR:RhL)(h:eqD (.str e) (.str "ended")=some true)(hr:FR [some (.tup [.int r,TS,RS,.str e]),some W,some (.lst B),none,none,none,none]=some (Z,[some (.tup [.int r,TS,RS,.str e]),some W,some (.lst B),none,none,none,none]))(l:B.length+Z.length<=sizeLine):
 (sIf w0b (sSet 2 (mOp2 dAdd (mVar 2) (mOf FR))) sNil) [some (.tup [.int r,TS,RS,.str e]),some W,some (.lst B),none,none,none,none]=some (.nx [some (.tup [.int r,TS,RS,.str e]),some W,some (.lst (B++Z)),none,none,none,none]):=by
 walk_at "ev"
theorem sn_1(r:Int)(TS RS W B e:D)(one:1<=sizeLine):(mLst (q00 (mRet (.int 0)) mNil)) [some (.tup [.int r,TS,RS,e]),some W,some B,none,none,none,none]=some ([.int 0],[some (.tup [.int r,TS,RS,e]),some W,some B,none,none,none,none]):=by walk_at "ev"
theorem sn_k(r:Int)(TS RS W B e:D):(mOp2 dIx (mVar 0) (mRet (.int 0))) [some (.tup [.int r,TS,RS,e]),some W,some B,none,none,none,none]=some (.int r,[some (.tup [.int r,TS,RS,e]),some W,some B,none,none,none,none]):=by walk_at "ev"
theorem sn_3(S W B:D)(a:D)(h:f_y46 [S,W]=some a):w35 [some S,some W,some B,none,none,none,none]=some (.nx [some S,some W,some B,some a,none,none,none]):=by walk_at "ev"
theorem sn_4(S W B a:D)(z0:0<=sizeLine):(sOwn 4 (mLst mNil)) [some S,some W,some B,some a,none,none,none]=some (.nx [some S,some W,some B,some a,some (.lst []),none,none]):=by walk_at "ev"
theorem sn_t(S W:D)(z k' nz b:Int)(B F S2:List D)(v6:Option D)(hb:atI B k'=some (.int b))(st:f_y45 [S,.int k',.int z,.int b]=some (.tup [.int nz,.lst S2]))(ln:F.length+S2.length<=sizeLine):
 w3e [some S,some W,some (.lst B),some (.int z),some (.lst F),some (.int k'),v6]=some (.nx [some S,some W,some (.lst B),some (.int nz),some (.lst (F++S2)),some (.int k'),some (.lst S2)]):=by
 walk_at "ev"
theorem sn_r(S W a F:D)(B:List D):(q00 (mOp1 dLen (mVar 2)) mNil) [some S,some W,some (.lst B),some a,some F,none,none]=some ([.int ((B.length:Nat):Int)],[some S,some W,some (.lst B),some a,some F,none,none]):=by walk_at "ev"
theorem qpm(S W B a:D)(X F:List D)(v3 v5 v6:Option D)(FI:RhL)(FB:RhO)(hI:FI [some S,some W,some B,some a,some (.lst []),none,none]=some (X,[some S,some W,some B,some a,some (.lst []),none,none]))
 (l1:q1p (gSet 5) FB X [some S,some W,some B,some a,some (.lst []),none,none]=some (.nx [some S,some W,some B,v3,some (.lst F),v5,v6])):
 (sSeq (sFor FI (gSet 5) FB) (q5w 4)) [some S,some W,some B,some a,some (.lst []),none,none]=some (.rt (.lst F) [some S,some W,some B,v3,none,v5,v6]):=by
 walk_at "ev"
theorem qfz{b:RhO}{n k:Nat}{ds:List D}{F:List D}(hl:ds.length=n)(h:∃ρ,b (ds.map some++List.replicate (k-n) none)=some (.rt (.lst F) ρ)):runP true n k b ds=some (.lst F):=by obtain⟨ρ,h⟩:=h;unfold runP;rw[if_pos hl,h]
section
variable{r:Int}{taps:List Int}{rows:List (List Int)}{e:Str}
theorem sel4(ok:q2g r taps rows e)(k:Nat):(selK taps rows k).length<=4:=by unfold selK;refine ju (List.length_filter_le _ _) ?_;rw[kc];have:=ok.t4;have:=ke taps.length (rowAt rows k).length;omega
theorem q8r(ok:q2g r taps rows e)(k:Nat):(q0c taps rows k).length<=k*4:=q6s _ 4 (λk=>by rw[jj];exact sel4 ok k) _
theorem qp5(ok:q2g r taps rows e)(he:e≠"ring")(w:List Int)(hb:Bits w)(hl:w.length<=60):∃ss:List Int,f_y47 [schD r taps rows e,.lst (w.map D.int)]=some (.lst (ss.map D.int))/\ss.length=(q0c taps rows (w.length+q0a r e)).length:=by
 have z4:=q3c ok;have r0:=ok.r0;have r4:=ok.r4;have her:eqD (.str e) (.str "ring")=some false:=by
  rcases ok.en with g|g|g
  ·rw[g];exact s_or
  ·rw[g];exact s_er
  ·exact absurd g he
 have hB:(sIf w0b
  (sSet 2 (mOp2 dAdd (mVar 2) w2a))
  sNil) [some (schD r taps rows e),some (.lst (w.map D.int)),some (.lst (w.map D.int)),none,none,none,none]=some (.nx [some (schD r taps rows e),some (.lst (w.map D.int)),some (.lst ((w++List.replicate (q0a r e) 0).map D.int)),none,none,none,none]):=by
  rcases ok.en with g|g|g
  ·have ez:q0a r e=0:=by rw[g];exact if_neg (by decide)
   rw[ez,List.replicate_zero,List.append_nil];exact sn_n _ _ _ _ _ _ _ (by rw[g];exact s_oe)
  ·have ez:q0a r e=r.toNat:=by rw[g];exact if_pos rfl
   have hrep:(mRep (mLst (q00 (mRet (.int 0)) mNil)) (mOp2 dIx (mVar 0) (mRet (.int 0)))) [some (schD r taps rows e),some (.lst (w.map D.int)),some (.lst (w.map D.int)),none,none,none,none]=some (List.replicate r.toNat (D.int 0),[some (schD r taps rows e),some (.lst (w.map D.int)),some (.lst (w.map D.int)),none,none,none,none]):=qc2 (sn_1 _ _ _ _ _ _ (by decide)) (sn_k _ _ _ _ _ _) (qat _ r0 (by omega));have:=sn_y (.tup (taps.map D.int)) (.tup (rows.map rowD)) (.lst (w.map D.int)) r (w.map D.int) _ e _ (by rw[g];exact s_ee) hrep (by rw[j4,jj];exact q1d (by omega));rw[ez,jt,List.map_replicate];exact this
  ·exact absurd g he
 have hul:(w++List.replicate (q0a r e) 0).length=w.length+q0a r e:=by rw[je,jj]
 have hbb:Bits (w++List.replicate (q0a r e) 0):=q3s hb (q3r _);generalize w++List.replicate (q0a r e) 0=u at hB hul hbb;have m0:(0:Int)<2^r.toNat:=Int.pow_pos (by decide);obtain⟨ρ',l1,z,ss,v5,v6,hρ,hz,hs⟩:=q2q (fg:=gSet 5) (fb:=sSeq w0a
 (sOwn 4 (q7t q7x (mVar 4) (mVar 6))))
   (λk ρ=>∃(z:Int) (ss:List Int) (v5 v6:Option D),ρ=[some (schD r taps rows e),some (.lst (w.map D.int)),some (.lst (u.map D.int)),some (.int z),some (.lst (ss.map D.int)),v5,v6]/\0<=z/\ss.length=(q0c taps rows k).length) (q15 0 u.length) 0
   [some (schD r taps rows e),some (.lst (w.map D.int)),some (.lst (u.map D.int)),some (.int 0),some (.lst []),none,none] ⟨0,[],none,none,rfl,by decide,rfl⟩ (by
    rintro i x ρ hx ⟨z,ss,v5,v6,rfl,hz,hs⟩;obtain⟨hi,rfl⟩:=q1t hx;rw[jo]at hs ⊢;rw[Int.zero_add];have hbi:=hbb _ (xo hi);have ga:atI (u.map D.int) (i:Int)=some (.int u[i]):=by rw[q4h (by omega) (by rw[j4];omega),jm,j9,jb hi];rfl
    obtain⟨s2,st,l2⟩:=v_y3 ok i z u[i] hz (by omega);have p4:=q8r ok i;have q4:=sel4 ok i;have hle:(ss.map D.int).length+(s2.map D.int).length<=sizeLine:=by rw[j4,j4];exact q1d (by omega)
    refine⟨_,_,rfl,.inl (sn_t _ _ _ _ _ _ _ _ _ v6 ga st hle),(2*z+u[i]) % 2^r.toNat,ss++s2,_,_,by rw[jt],Int.emod_nonneg _ (by omega),?_⟩;rw[je,q28,hs,l2])
 subst hρ;rw[q1h,jo,hul]at hs;refine⟨ss,?_,hs⟩;have ln:((u.map D.int).length:Int)=(u.length:Nat):=by rw[j4]
 have hI:=q4l (sn_r (schD r taps rows e) (.lst (w.map D.int)) (.int 0) (.lst []) (u.map D.int)) (by omega) (by rw[ln];omega);rw[ln,jm]at hI;exact qfz rfl ⟨_,(q0v (sn_2 _ _ (by rw[j4];exact q1d (by omega)))).trans<|(q0v hB).trans<|(q0v (sn_3 _ _ _ _ (qim _ _ _ _ _ her))).trans<|
  (q0v (sn_4 _ _ _ _ (by decide))).trans<|qpm _ _ _ _ _ _ _ _ _ _ _ hI l1⟩
end
theorem sg_3(c k b m:Int)(hm:(c % 10^18+1+k*k*104729)*742938285 % 2147483647=m)(q1: -18446744073709551616<k)(q2:k<18446744073709551616):
 (sSet 3 (mOp2 dMod (mOp2 q44 (mOp2 dAdd (mOp2 dAdd w2u (mRet (.int 1))) w2z) (mRet (.int 742938285))) (mRet (.int 2147483647)))) [some (.int c),some (.int k),some (.int b),none,none]=some (.nx [some (.int c),some (.int k),some (.int b),some (.int m),none]):=by
 rw[<-hm];clear hm;walk_at "ev"
theorem sg_4(c k b:D)(m:Int):w3i [some c,some k,some b,some (.int m),none]=some (.nx [some c,some k,some b,some (.int m),some (.int (m % 9))]):=by walk_at "ev"
theorem sg_a(c k b m:D)(y:Int)(two:2<=sizeLine)(h:y<4):w1d [some c,some k,some b,some m,some (.int y)]=some (.rt (.tup [.str "clear",b]) [some c,some k,some b,some m,some (.int y)]):=by walk_at "ev"
theorem qin(c k b m:D)(y:Int)(FX:RhO)(h:¬y<4):(sIf w3q FX
 sNil) [some c,some k,some b,some m,some (.int y)]=some (.nx [some c,some k,some b,some m,some (.int y)]):=by
 walk_at "ev"
theorem qdm(c k b m:D)(y z:Int)(FX:RhO)(h:(y==z)=false):(sIf (q0q (mOp2 dEq (mVar 4) (mRet (.int z)))) FX
 sNil) [some c,some k,some b,some m,some (.int y)]=some (.nx [some c,some k,some b,some m,some (.int y)]):=by
 walk_at "ev"
theorem sg_b(c k m:D)(b:Int)(two:2<=sizeLine):w14 [some c,some k,some (.int b),some m,some (.int 4)]=some (.rt (.tup [.str "clear",.int (1-b)]) [some c,some k,some (.int b),some m,some (.int 4)]):=by walk_at "ev"
theorem sg_c(c k b m:D)(one:1<=sizeLine):w1v [some c,some k,some b,some m,some (.int 5)]=some (.rt (.tup [.str "gap"]) [some c,some k,some b,some m,some (.int 5)]):=by walk_at "ev"
theorem sg_j(c k b:D)(m j:Int)(hj:1-2*(m / 27 % 2)=j):w1e [some c,some k,some b,some (.int m),some (.int 6)]=some (.int j,[some c,some k,some b,some (.int m),some (.int 6)]):=by rw[<-hj];clear hj;walk_at "ev"
theorem sg_d(k b:D)(c m j:Int)(FB:RhD)(three:3<=sizeLine)(q1: -18446744073709551616<j)(q2:j<18446744073709551616)(h2:FB [some (.int c),some k,some b,some (.int m),some (.int 6)]=some (.int j,[some (.int c),some k,some b,some (.int m),some (.int 6)])):(sIf w3r
 (sRet (mTup (q00 (mRet (.str "soft")) (q00 (mOp2 q44 (mOp2 dMod (mVar 0) w18) FB) w1w))))
 sNil) [some (.int c),some k,some b,some (.int m),some (.int 6)]=some (.rt (.tup [.str "soft",.int (c % 10^60*j),.int (m / 9 % 3-1)]) [some (.int c),some k,some b,some (.int m),some (.int 6)]):=by
 walk_at "ev"
theorem sg_e(c k b y:D)(m:Int)(three:3<=sizeLine):w0q [some c,some k,some b,some (.int m),some y]=some (.rt (.tup [.str "soft",.int (m / 9 % 4),.int (m / 36 % 4)]) [some c,some k,some b,some (.int m),some y]):=by walk_at "ev"
theorem qp4(c b:Int)(k:Nat)(hk:k<=100000):∃t:Told,f_y48 [.int c,.int k,.int b]=some (q1a t):=by
 obtain⟨m,hm⟩:∃m,(c % 10^18+1+(k:Int)*k*104729)*742938285 % 2147483647=m:=⟨_,rfl⟩;have a3:=sg_3 c k b m hm (by omega) (by omega);have a4:=sg_4 (.int c) (.int k) (.int b) m;by_cases h1:m % 9<4
 ·exact⟨.clear b,q4k rfl ⟨_,(q0v a3).trans<|(q0v a4).trans<|qc1 (sg_a _ _ _ _ _ (by decide) h1)⟩⟩
 ·by_cases h2:m % 9=4
  ·rw[h2]at a4;exact⟨.clear (1-b),q4k rfl ⟨_,(q0v a3).trans<|(q0v a4).trans<|(q0v (qin _ _ _ _ _ _ (by decide))).trans<|qc1 (sg_b _ _ _ _ (by decide))⟩⟩
  ·by_cases h3:m % 9=5
   ·rw[h3]at a4;exact⟨.gap,q4k rfl ⟨_,(q0v a3).trans<|(q0v a4).trans<|(q0v (qin _ _ _ _ _ _ (by decide))).trans<|(q0v (qdm _ _ _ _ _ 4 _ rfl)).trans<|qc1 (sg_c _ _ _ _ (by decide))⟩⟩
   ·by_cases h4:m % 9=6
    ·rw[h4]at a4;exact⟨.soft (c % 10^60*(1-2*(m / 27 % 2))) (m / 9 % 3-1),q4k rfl ⟨_,(q0v a3).trans<|(q0v a4).trans<|(q0v (qin _ _ _ _ _ _ (by decide))).trans<|(q0v (qdm _ _ _ _ _ 4 _ rfl)).trans<|(q0v (qdm _ _ _ _ _ 5 _ rfl)).trans<|qc1 (sg_d _ _ _ _ _ _ (by decide) (by omega) (by omega) (sg_j _ _ _ _ _ rfl))⟩⟩
    ·exact⟨.soft (m / 9 % 4) (m / 36 % 4),q4k rfl ⟨_,(q0v a3).trans<|(q0v a4).trans<|(q0v (qin _ _ _ _ _ _ h1)).trans<|(q0v (qdm _ _ _ _ _ 4 _ (beq_eq_false_iff_ne.mpr h2))).trans<|(q0v (qdm _ _ _ _ _ 5 _ (beq_eq_false_iff_ne.mpr h3))).trans<|(q0v (qdm _ _ _ _ _ 6 _ (beq_eq_false_iff_ne.mpr h4))).trans<|sg_e _ _ _ _ _ (by decide)⟩⟩
theorem hd_3(N S W:D)(z0:0<=sizeLine):(sOwn 3 (mLst mNil)) [some N,some S,some W,none,none,none]=some (.nx [some N,some S,some W,some (.lst []),none,none]):=by walk_at "ev"
theorem hd_m(N:List D)(S W F k b:D)(mx:Int)(hm:(if((N.length:Nat):Int)-2>1 then((N.length:Nat):Int)-2 else 1)=mx):(mMM (λi j=>if j>i then j else i) w0y) [some (.lst N),some S,some W,some F,some k,some b]=some (.int mx,[some (.lst N),some S,some W,some F,some k,some b]):=by rw[<-hm];clear hm;walk_at "ev"
theorem hd_i(N S W F b:D)(k' j mx:Int)(FM:RhD)(m0:0<mx)(hj:2+k' % mx=j)(h2:FM [some N,some S,some W,some F,some (.int k'),some b]=some (.int mx,[some N,some S,some W,some F,some (.int k'),some b])):
 (mOp2 dAdd (mRet (.int 2)) (mOp2 dMod (mVar 4) FM)) [some N,some S,some W,some F,some (.int k'),some b]=some (.int j,[some N,some S,some W,some F,some (.int k'),some b]):=by
 rw[<-hj];clear hj;walk_at "ev"
theorem hd_t(N S W:D)(F:List D)(k' b j c T:D)(FI:RhD)(hI:FI [some N,some S,some W,some (.lst F),some k',some b]=some (j,[some N,some S,some W,some (.lst F),some k',some b]))(hc:f_y40 [N,j]=some c)(hs:f_y48 [c,k',b]=some T)(l:F.length<sizeLine):
 (sMut q25 3 (q00 (q0k f_y48 (q00 (q0k f_y40 (q00 (mVar 0) (q00 FI mNil))) (q00 (mVar 4) (q00 (mVar 5) mNil)))) mNil)) [some N,some S,some W,some (.lst F),some k',some b]=some (.nx [some N,some S,some W,some (.lst (F++[T])),some k',some b]):=by
 walk_at "ev"
theorem qtd(N S W:D)(SE T X:List D)(v4 v5:Option D)(FB:RhO)(hs:f_y47 [S,W]=some (.lst SE))(hX:q43 SE=X)(l1:q1p (q2b 2 (q0n (gSet 4) (q0n (gSet 5) q2c))) FB X [some N,some S,some W,some (.lst []),none,none]=some (.nx [some N,some S,some W,some (.lst T),v4,v5])):
 (sSeq (sFor w31 (q2b 2 (q0n (gSet 4) (q0n (gSet 5) q2c))) FB) (q5w 3)) [some N,some S,some W,some (.lst []),none,none]=some (.rt (.lst T) [some N,some S,some W,none,v4,v5]):=by
 walk_at "ev"
section
variable{r:Int}{taps:List Int}{rows:List (List Int)}{e:Str}
theorem qey(ok:q2g r taps rows e)(he:e≠"ring")(ns w:List Int)(hb:Bits w)(hl:w.length<=60):∃ts:List Told,f_y49 [.lst (ns.map D.int),schD r taps rows e,.lst (w.map D.int)]=some (.lst (ts.map q1a))/\ts.length=(q0c taps rows (w.length+q0a r e)).length:=by
 obtain⟨ss,hs,ls⟩:=qp5 ok he w hb hl;have z4:=q3c ok;have p4:=q8r ok (w.length+q0a r e);obtain⟨mx,hmx⟩:∃mx,(if(((ns.map D.int).length:Nat):Int)-2>1 then(((ns.map D.int).length:Nat):Int)-2 else 1)=mx:=⟨_,rfl⟩;have m0:0<mx:=by split at hmx<;>omega
 obtain⟨ρ',l1,ts,v4,v5,hρ,hts⟩:=q2q (fg:=q2b 2 (q0n (gSet 4) (q0n (gSet 5) q2c))) (fb:=(sMut q25 3 (q00 (q0k f_y48 (q00 (q0k f_y40 (q00 (mVar 0) (q00 (mOp2 dAdd (mRet (.int 2)) (mOp2 dMod (mVar 4) (mMM (λi j=>if j>i then j else i) w0y))) mNil))) (q00 (mVar 4) (q00 (mVar 5) mNil)))) mNil)))
  (λk ρ=>∃(ts:List Told) (v4 v5:Option D),ρ=[some (.lst (ns.map D.int)),some (schD r taps rows e),some (.lst (w.map D.int)),some (.lst (ts.map q1a)),v4,v5]/\ts.length=k) (q43 (ss.map D.int)) 0
  [some (.lst (ns.map D.int)),some (schD r taps rows e),some (.lst (w.map D.int)),some (.lst []),none,none] ⟨[],none,none,rfl,rfl⟩ (by
   rintro i x ρ hx ⟨ts,v4,v5,rfl,hts⟩;rw[q5n,j9]at hx;cases q:ss[i]? with
   |none=>rw[q]at hx;cases hx
   | some b=>
    rw[q]at hx;cases hx;have hi:i<ss.length:=(List.getElem?_eq_some_iff.mp q).1;rw[jo]at hts ⊢;have j0:0<=2+(i:Int) % mx:=by have:=Int.emod_nonneg (i:Int) (by omega:mx≠0);omega
    obtain⟨c,hc⟩:=q8k ns (2+(i:Int) % mx) j0;obtain⟨t,ht⟩:=qp4 c b i (by omega);refine⟨_,_,rfl,.inl (hd_t _ _ _ _ _ _ _ _ _ _ (hd_i _ _ _ _ _ _ _ _ _ m0 rfl (hd_m _ _ _ _ _ _ _ hmx)) hc ht (by rw[j4];exact jn (by omega:ts.length<2000) (by decide))),ts++[t],_,_,by rw[jt];rfl,by rw[je,hts];rfl⟩)
 subst hρ;have el:(q43 (ss.map D.int)).length=ss.length:=by unfold q43;simp
 rw[el,jo,ls]at hts;exact⟨ts,qfz rfl ⟨_,(q0v (hd_3 _ _ _ (by decide))).trans (qtd _ _ _ _ _ _ _ _ _ hs rfl l1)⟩,hts⟩
end
theorem wh_1(b:Int):f_y50 [.int b]=some (.bl true):=by unfold f_y50 qkg;walk_at "ev"
theorem iw_e(b:Int)(h0:0<=b)(h1:b<=1):(w0u [some (.int b)]).map (·.1)=some (.bl true):=by have h:=wh_1 b;walk_at "ev"
theorem qt4(W Y:List D)(n':Int)(FE:RhD)(DA:D->Option D)(hn:((W.length:Nat):Int)=n')(lw:W.length<=sizeLine)(cm:q12 1 [] none (gSet 0) (mRet true) FE W [some (.lst W),some (.int n')]=some (Y,[some (.lst W),some (.int n')]))(ha:DA (.lst Y)=some (.bl true)):
 (runP false 2 2 (sSeq w15 (sRet (mOp1 DA (mOf (q22 1 [] none (mSeq (mVar 0)) (gSet 0) (mRet true) FE)))))) [.lst W,.int n']=some (.bl true):=by
 subst hn;walk_at "ev"
theorem qu8:∀k:Nat,dAll (.lst (List.replicate k (.bl true)))=some (.bl true):=λk=>by have h:=q8e (List.replicate k true);rw[List.map_replicate]at h;show(q4r (List.replicate k (.bl true))).map _=_;rw[h];simp
theorem map_one{x:D}:∀xs:List D,xs.map (λ_=>x)=List.replicate xs.length x
 |[]=>rfl
 |_::xs=>by rw[jr,map_one xs];rfl
theorem qif(w:List Int)(hb:Bits w)(n:Nat)(hl:w.length=n)(hn:n<=1000):f_y51 [.lst (w.map D.int),.int n]=some (.bl true):=by
 have cm:=q4p (n:=1) (js:=[]) (fg:=gSet 0) (fe:=w0u) (ρ:=[some (.lst (w.map D.int)),some (.int (n:Int))]) (λ_=>.bl true) (w.map D.int) (λx hx=>by obtain⟨b,hm,rfl⟩:=List.mem_map.mp hx;have:=hb b hm;exact⟨_,rfl,iw_e b (by omega) (by omega)⟩)
 rw[map_one]at cm;unfold f_y51 qkf;exact qt4 _ _ _ _ _ (by rw[j4,hl]) (q1d (by rw[j4];omega)) cm (qu8 _)
theorem mn_e(k':Int)(R TS e:D)(RS RW:List D)(ns:List Int)(ze:0<RS.length)(hr:atI RS (k' % (RS.length:Nat))=some (.tup RW))(hi:q3d RW=some ns):
 ((mOp1 qbp w0m) [some (.int k'),some (.tup [R,TS,.tup RS,e])]).map (·.1)=some (.int ns.sum):=by
 have h2:qbp (.tup RW)=some (.int ns.sum):=by show(q3d RW).map _=_;rw[hi];rfl
 generalize qbp=DS at h2 ⊢;walk_at "ev"
theorem qsh(S:D)(k':Int)(X Y:List D)(ns:List Int)(FI:RhL)(FE:RhD)(lx:X.length<=sizeLine)(hI:FI [some S,some (.int k')]=some (X,[some S,some (.int k')]))(cm:q12 1 [0] none (gSet 0) (mRet true) FE X [some S,some (.int k')]=some (Y,[some S,some (.int k')]))(hi:q3d Y=some ns):
 (runP false 2 2 (sRet (mOp1 dSum (mOf (q22 1 [0] none FI (gSet 0) (mRet true) FE))))) [S,.int k']=some (.int ns.sum):=by
 walk_at "ev"
theorem mn_r(S:D)(k':Int):(q00 (mVar 1) mNil) [some S,some (.int k')]=some ([.int k'],[some S,some (.int k')]):=by walk_at "ev"
theorem qcn:∀row:List Int,(∀b∈row,b=0∨b=1)->row.sum=((row.filter λb=>b==1).length:Nat)
 |[],_=>rfl
 | b::row,h=>by
  have ih:=qcn row λc hc=>h c (jh _ hc);rw[List.sum_cons,ih];rcases h b jg with q|q
  ·subst q;rw[List.filter_cons_of_neg (by decide)];omega
  ·subst q;rw[List.filter_cons_of_pos (by decide),ji];omega
section
variable{r:Int}{taps:List Int}{rows:List (List Int)}{e:Str}
theorem q83:∀k:Nat,((List.range k).map λi=>(((selK taps rows i).length:Nat):Int)).sum=((q0c taps rows k).length:Nat)
 |0=>rfl
 | k+1=>by rw[List.range_succ,jt,List.sum_append,q83 k,q28];simp
theorem ql5(ok:q2g r taps rows e)(k:Nat)(hk:k<=1000):f_y52 [schD r taps rows e,.int k]=some (.int ((q0c taps rows k).length:Nat)):=by
 have hl:0<(rows.map rowD).length:=by have:=ok.m1;rw[j4];omega
 have cm:=q4p (n:=1) (js:=[0]) (fg:=gSet 0) (fe:=(mOp1 qbp w0m)) (ρ:=[some (schD r taps rows e),some (.int (k:Int))])
  (λd=>match d with|.int i=>.int (((selK taps rows i.toNat).length:Nat):Int)|d=>d) (q15 0 k) (λx hx=>by
    obtain⟨i,hx1⟩:=List.mem_iff_getElem?.mp hx;obtain⟨hi,rfl⟩:=q1t hx1;rw[Int.zero_add];have hrow:=qlf ok i;have h:=mn_e (i:Int) (.int r) (.tup (taps.map D.int)) (.str e) (rows.map rowD) ((rowAt rows i).map D.int) (rowAt rows i) hl (qg1 ok i) (q3k _);have es:(rowAt rows i).sum=((selK taps rows i).length:Nat):=by rw[qcn _ hrow.2,q72 taps _ hrow.1];rfl
    rw[es]at h;refine⟨_,rfl,?_⟩;show _=some (D.int (((selK taps rows ((i:Int)).toNat).length:Nat):Int));rw[jm];exact h)
 have ey:(q15 0 k).map (λd=>match d with|.int i=>D.int (((selK taps rows i.toNat).length:Nat):Int)|d=>d)=((List.range k).map λi=>(((selK taps rows i).length:Nat):Int)).map D.int:=by unfold q15;rw[jl,jl];refine List.map_congr_left λi _=>?_;show D.int (((selK taps rows ((0:Int)+(i:Int)).toNat).length:Nat):Int)=_;rw[Int.zero_add,jm];rfl
 rw[ey]at cm;have hI:=q4l (mn_r (schD r taps rows e) (k:Int)) (by omega) (by omega);rw[jm]at hI;have:=qsh (schD r taps rows e) (k:Int) _ _ _ _ _ (by rw[q1h];exact q1d (by omega)) hI cm (q3k _);rw[q83]at this;exact this
end
section
variable{r:Int}{taps:List Int}{rows:List (List Int)}{ts ts':List Told}{k:Nat}
theorem q49:∀{i j:Nat},i<=j->(q0c taps rows i).length<=(q0c taps rows j).length:=λ{i j} h=>by
 induction j with
 |zero=>rw[Nat.le_zero.mp h];exact j8 _
 | succ j ih=>
  by_cases z:i=j+1
  ·rw[z];exact j8 _
  ·rw[q28];exact ju (ih (by omega)) (Nat.le_add_right _ _)
theorem q8c{j:Nat}(hj:j<k):chunk taps rows (ts.take (q0c taps rows k).length) j=chunk taps rows ts j:=by have h1:=q49 (taps:=taps) (rows:=rows) (show j+1<=k from hj);rw[q28]at h1;unfold chunk;rw[List.drop_take,List.take_take,Nat.min_eq_left (by omega)]
theorem q9r(h:ts.take (q0c taps rows k).length=ts'.take (q0c taps rows k).length)(u:List Int):pcK r taps rows ts k u=pcK r taps rows ts' k u:=by
 unfold pcK;congr 1;refine List.map_congr_left λj hj=>?_;have hj:j<k:=by have:=List.mem_range'_1.mp hj;omega
 rw[<-q8c (ts:=ts) hj,h,q8c hj]
theorem q62{row:Kr}(h:ts.take (q0c taps rows k).length=ts'.take (q0c taps rows k).length)(g:q2n (r:=r) (taps:=taps) (rows:=rows) (ts:=ts) k row):q2n (r:=r) (taps:=taps) (rows:=rows) (ts:=ts') k row where
 len:=g.len
 is:=λq p hp=>by have:=g.is q p hp;rw[q9r h]at this;exact this
 best:=λu hu lu=>by have:=g.best u hu lu;rw[q9r h]at this;exact this
theorem q4s{row:Kr}{q:Nat}{p:Int×List Int}(h:row[q]? =some (some p)):q10 row<+:p.2:=(q65 _ _).2 _ (List.mem_filterMap.mpr ⟨some p,xk h,rfl⟩)
theorem q6a{row:Kr}(g:q2n (r:=r) (taps:=taps) (rows:=rows) (ts:=ts) k row):∃(q:Nat) (p:Int×List Int),row[q]? =some (some p):=by obtain⟨p,h1,_⟩:=g.best (List.replicate k 0) (q3r _) jj;exact⟨_,p,h1⟩
theorem qdn{row:Kr}(g:q2n (r:=r) (taps:=taps) (rows:=rows) (ts:=ts) k row):Bits (q10 row)/\(q10 row).length<=k:=by obtain⟨q,p,h1⟩:=q6a g;have h2:=q4s h1;obtain⟨b1,b2,_⟩:=g.is q p h1;exact⟨λb hb=>b1 b (h2.subset hb),by rw[<-b2];exact h2.length_le⟩
theorem q9j{e:Str}{n:Nat}(he:e≠"ring")(ht:ts.length=(q0c taps rows (n+q0a r e)).length){x:Int×List Int}(hx:Near n (q6n r taps rows e ts) x)(hk:k<=n){row:Kr}(g:q2n (r:=r) (taps:=taps) (rows:=rows) (ts:=ts) k row):x.2.take (q10 row).length=q10 row:=by obtain⟨p,h1,h2⟩:=qb9 he ht hx hk g;have h3:=q4s h1;rw[h2]at h3;exact(List.prefix_iff_eq_take.mp (h3.trans (List.take_prefix _ _))).symm
theorem q8o{k':Nat}(hk:k'<=k){row zo:Kr}(g:q2n (r:=r) (taps:=taps) (rows:=rows) (ts:=ts) k row)(g':q2n (r:=r) (taps:=taps) (rows:=rows) (ts:=ts) k' zo):(q10 row).take (q10 zo).length=(q10 zo).take (q10 row).length:=by obtain⟨q,p,h1⟩:=q6a g;have h2:=q4s h1;obtain⟨q0,p0,h3,h4⟩:=qbj hk g' g h1;have h5:=q4s h3;rw[h4]at h5;have h6:=h5.trans (List.take_prefix _ _);generalize q10 row=a at h2 ⊢;generalize q10 zo=b at h6 ⊢;have e1:=List.prefix_iff_eq_take.mp h2;have e2:=List.prefix_iff_eq_take.mp h6;rw[e1,e2,List.take_take,List.take_take,<-e1,<-e2,Nat.min_comm]
end
theorem l0(N:D)(F:List D)(c:Int)(hc:f_y40 [N,.int 0]=some (.int c))(hs:f_y41 [.int c,.int 0]=some (.lst F)):
 w1t [some N,none,none,none,none,none,none,none,none,none,none,none,none,none,none,none,none]=some (.nx [some N,some (.lst F),none,none,none,none,none,none,none,none,none,none,none,none,none,none,none]):=by
 walk_at "ev"
theorem l1(N S:D)(F F':List D)(two:2<=sizeLine)(hs:f_y43 F [.int 3,.lst [.str "open",.str "ended"]]=some (S,F')):
 w19 [some N,some (.lst F),none,none,none,none,none,none,none,none,none,none,none,none,none,none,none]=some (.nx [some N,some (.lst F'),some S,none,none,none,none,none,none,none,none,none,none,none,none,none,none]):=by
 walk_at "ev"
theorem l2(N S A:D)(F:List D)(c:Int)(hc:f_y40 [N,.int 1]=some (.int c))(hs:f_y41 [.int c,.int 1]=some (.lst F)):
 w1n [some N,some A,some S,none,none,none,none,none,none,none,none,none,none,none,none,none,none]=some (.nx [some N,some A,some S,some (.lst F),none,none,none,none,none,none,none,none,none,none,none,none,none]):=by
 walk_at "ev"
theorem l3(N S A:D)(s:Int):w3a [some N,some A,some S,some (.lst [.int s]),none,none,none,none,none,none,none,none,none,none,none,none,none]=some (.nx [some N,some A,some S,some (.lst [.int (nxK s)]),some (.int (drK s 15)),none,none,none,none,none,none,none,none,none,none,none,none]):=by have h:=q4e s 15 (by decide);walk_at "ev"
theorem l4n(N S A:D)(F:D)(n:D):(q00 (mVar 4) mNil) [some N,some A,some S,some F,some n,none,none,none,none,none,none,none,none,none,none,none,none]=some ([n],[some N,some A,some S,some F,some n,none,none,none,none,none,none,none,none,none,none,none,none]):=by walk_at "ev"
theorem l4e(x s:Int):(q17 f_y42 1 (q00 (mRet (.int 2)) mNil)) [some (.int x),some (.lst [.int s])]=some (.int (drK s 2),[some (.int x),some (.lst [.int (nxK s)])]):=by have h:=q4e s 2 (by decide);walk_at "ev"
theorem l4x(N S A n:D)(F F' X Y:List D)(FI:RhL)(FE:RhD)(lx:X.length<=sizeLine)
 (hI:FI [some N,some A,some S,some (.lst F),some n,none,none,none,none,none,none,none,none,none,none,none,none]=some (X,[some N,some A,some S,some (.lst F),some n,none,none,none,none,none,none,none,none,none,none,none,none]))
 (cm:q12 1 [3] (some (3,1)) (gSet 0) (mRet true) FE X [some N,some A,some S,some (.lst F),some n,none,none,none,none,none,none,none,none,none,none,none,none]=some (Y,[some N,some A,some S,some (.lst F'),some n,none,none,none,none,none,none,none,none,none,none,none,none])):
 (sSet 5 (mOf (q22 1 [3] (some (3,1)) FI (gSet 0) (mRet true) FE))) [some N,some A,some S,some (.lst F),some n,none,none,none,none,none,none,none,none,none,none,none,none]=some (.nx [some N,some A,some S,some (.lst F'),some n,some (.lst Y),none,none,none,none,none,none,none,none,none,none,none]):=by
 walk_at "ev"
theorem l5(N S A F n W:D)(H:List D)(h:f_y49 [N,S,W]=some (.lst H)):w2n [some N,some A,some S,some F,some n,some W,none,none,none,none,none,none,none,none,none,none,none]=some (.nx [some N,some A,some S,some F,some n,some W,some (.lst H),none,none,none,none,none,none,none,none,none,none]):=by walk_at "ev"
theorem l6(N S A W H:D)(s n m:Int)(hm:n+1=m)(m0:0<m):(sSet 7 (q17 f_y42 3 (q00 (mOp2 dAdd (mVar 4) (mRet (.int 1))) mNil))) [some N,some A,some S,some (.lst [.int s]),some (.int n),some W,some H,none,none,none,none,none,none,none,none,none,none]=some (.nx [some N,some A,some S,some (.lst [.int (nxK s)]),some (.int n),some W,some H,some (.int (drK s m)),none,none,none,none,none,none,none,none,none]):=by have h:=q4e s m m0;rw[<-hm]at h ⊢;clear hm m0;walk_at "ev"
theorem l7(N S A F n W H k G:D)(P:Int)(h:f_y52 [S,k]=some (.int P))(sl:dSl H none (some P)=some G):w27 [some N,some A,some S,some F,some n,some W,some H,some k,none,none,none,none,none,none,none,none,none]=some (.nx [some N,some A,some S,some F,some n,some W,some H,some k,some G,none,none,none,none,none,none,none,none]):=by walk_at "ev"
theorem l8(N S A F n W H k T:D)(G:List D)(lg:G.length<=sizeLine)(h:f_y37 [S,k,.lst G]=some T):w28 [some N,some A,some S,some F,some n,some W,some H,some k,some (.lst G),none,none,none,none,none,none,none,none]=some (.nx [some N,some A,some S,some F,some n,some W,some H,some k,some (.lst G),some T,none,none,none,none,none,none,none]):=by walk_at "ev"
theorem l9(N S A F n W H G:D)(T:List D)(k' m:Int)(FX:RhO)(hm:((T.length:Nat):Int)=m)(h:f_y51 [.lst T,.int m]=some (.bl true))(le:¬k'<m):(sIf w1c FX sNil) [some N,some A,some S,some F,some n,some W,some H,some (.int k'),some G,some (.lst T),none,none,none,none,none,none,none]=some (.nx [some N,some A,some S,some F,some n,some W,some H,some (.int k'),some G,some (.lst T),none,none,none,none,none,none,none]):=by subst hm;walk_at "ev"
theorem l10(N S A F n W k G c:D)(H X T:List D)(FX:RhO)(lh:H.length<=sizeLine)(h:f_y39 [S,n,.lst H]=some (.tup [c,.lst X]))(E:eqD (.lst (X.take T.length)) (.lst T)=some true):(sIf w0v FX sNil) [some N,some A,some S,some F,some n,some W,some (.lst H),some k,some G,some (.lst T),none,none,none,none,none,none,none]=some (.nx [some N,some A,some S,some F,some n,some W,some (.lst H),some k,some G,some (.lst T),none,none,none,none,none,none,none]):=by walk_at "ev"
theorem f0(N S A F n W H k G T j HB X:D)(P:Int)(v11:Option D)(hm:f_y52 [S,j]=some (.int P))(sl:dSl H none (some P)=some HB)(hs:f_y37 [S,j,HB]=some X):
 w1q [some N,some A,some S,some F,some n,some W,some H,some k,some G,some T,some j,v11,none,none,none,none,none]=some (.nx [some N,some A,some S,some F,some n,some W,some H,some k,some G,some T,some j,some X,none,none,none,none,none]):=by
 walk_at "ev"
theorem f1(N S A F n W H k G j:D)(T L:List D)(FX:RhO)(E:eqD (.lst (T.take L.length)) (.lst (L.take T.length))=some true):(sIf w1s FX sNil) [some N,some A,some S,some F,some n,some W,some H,some k,some G,some (.lst T),some j,some (.lst L),none,none,none,none,none]=some (.nx [some N,some A,some S,some F,some n,some W,some H,some k,some G,some (.lst T),some j,some (.lst L),none,none,none,none,none]):=by walk_at "ev"
theorem l11n(N S A F n W H k G T:D):(q00 (mVar 7) mNil) [some N,some A,some S,some F,some n,some W,some H,some k,some G,some T,none,none,none,none,none,none,none]=some ([k],[some N,some A,some S,some F,some n,some W,some H,some k,some G,some T,none,none,none,none,none,none,none]):=by walk_at "ev"
theorem l11(N S A F n W H k G T:D)(X:List D)(v10 v11:Option D)(FI:RhL)(FB:RhO)(hI:FI [some N,some A,some S,some F,some n,some W,some H,some k,some G,some T,none,none,none,none,none,none,none]=some (X,[some N,some A,some S,some F,some n,some W,some H,some k,some G,some T,none,none,none,none,none,none,none]))(l:q1p (gSet 10) FB X [some N,some A,some S,some F,some n,some W,some H,some k,some G,some T,none,none,none,none,none,none,none]=some (.nx [some N,some A,some S,some F,some n,some W,some H,some k,some G,some T,v10,v11,none,none,none,none,none])):
 (sFor FI (gSet 10) FB) [some N,some A,some S,some F,some n,some W,some H,some k,some G,some T,none,none,none,none,none,none,none]=some (.nx [some N,some A,some S,some F,some n,some W,some H,some k,some G,some T,v10,v11,none,none,none,none,none]):=by
 walk_at "ev"
theorem b0(N S A F n W H k G T c:D)(v10 v11 v13 v14 v15 v16:Option D)(Y:List D)(h:f_y41 [c,.int 3]=some (.lst Y)):w0r [some N,some A,some S,some F,some n,some W,some H,some k,some G,some T,v10,v11,some c,v13,v14,v15,v16]=some (.nx [some N,some A,some S,some F,some n,some W,some H,some k,some G,some T,v10,v11,some c,some (.lst Y),v14,v15,v16]):=by walk_at "ev"
theorem b1n(N S A F n W H k G T c:D)(s:Int)(v10 v11 v14 v15 v16:Option D):w37 [some N,some A,some S,some F,some n,some W,some H,some k,some G,some T,v10,v11,some c,some (.lst [.int s]),v14,v15,v16]=some ([.int (drK s 5)],[some N,some A,some S,some F,some n,some W,some H,some k,some G,some T,v10,v11,some c,some (.lst [.int (nxK s)]),v14,v15,v16]):=by have h:=q4e s 5 (by decide);walk_at "ev"
theorem b1(N S A F n W H G T c:D)(k':Int)(s s1 s2:D)(v10 v11 v14 v15 v16:Option D)(WB X Y:List D)(FI:RhL)(FE:RhD)(sl:dSl W none (some k')=some (.lst WB))(lx:X.length<=sizeLine)(ly:WB.length+Y.length<=sizeLine)
 (hI:FI [some N,some A,some S,some F,some n,some W,some H,some (.int k'),some G,some T,v10,v11,some c,some s,v14,v15,v16]=some (X,[some N,some A,some S,some F,some n,some W,some H,some (.int k'),some G,some T,v10,v11,some c,some s1,v14,v15,v16]))
 (cm:q12 1 [13] (some (13,1)) (gSet 0) (mRet true) FE X [some N,some A,some S,some F,some n,some W,some H,some (.int k'),some G,some T,v10,v11,some c,some s1,v14,v15,v16]=some (Y,[some N,some A,some S,some F,some n,some W,some H,some (.int k'),some G,some T,v10,v11,some c,some s2,v14,v15,v16])):
 (sSet 14 (mOp2 dAdd w1j (mOf (q22 1 [13] (some (13,1)) FI (gSet 0) (mRet true) FE)))) [some N,some A,some S,some F,some n,some W,some H,some (.int k'),some G,some T,v10,v11,some c,some s,v14,v15,v16]=some (.nx [some N,some A,some S,some F,some n,some W,some H,some (.int k'),some G,some T,v10,v11,some c,some s2,some (.lst (WB++Y)),v15,v16]):=by
 walk_at "ev"
theorem b2n(S A F n W H k G T c s O:D)(N N2:List D)(v10 v11 v15 v16:Option D)(two:2<=sizeLine)(sl:dSl (.lst N) (some 2) none=some (.lst N2))(l:N2.length+2<=sizeLine)(l':2+N2.length<=sizeLine):(mOp2 dAdd (mOf (mLst w0t)) w16) [some (.lst N),some A,some S,some F,some n,some W,some H,some k,some G,some T,v10,v11,some c,some s,some O,v15,v16]=some (.lst (.int 0::.int 0::N2),[some (.lst N),some A,some S,some F,some n,some W,some H,some k,some G,some T,v10,v11,some c,some s,some O,v15,v16]):=by
 have e2:∀x:D,dAdd (.lst [.int 0,.int 0]) (.lst N2)=some (.lst (.int 0::.int 0::N2)):=λ_=>by simp[dAdd,l,l']
 replace e2:=e2 .non;generalize dAdd=AD at e2 ⊢;walk_at "ev"
theorem b2(N S A F n W H k T c s O N2:D)(G H2 GO:List D)(v10 v11 v15 v16:Option D)(FN:RhD)(hN:FN [some N,some A,some S,some F,some n,some W,some H,some k,some (.lst G),some T,v10,v11,some c,some s,some O,v15,v16]=some (N2,[some N,some A,some S,some F,some n,some W,some H,some k,some (.lst G),some T,v10,v11,some c,some s,some O,v15,v16]))(hh:f_y49 [N2,S,O]=some (.lst H2))(l:G.length+(H2.length-G.length)<=sizeLine)(hg:G++H2.drop G.length=GO):
 (sOwn 15 (q7t q7x (mVar 8) (mSl (mOf (q1y f_y49 (q00 FN (q00 (mVar 2) (q00 (mVar 14) mNil))))) (q29 (mOp1 dLen (mVar 8))) (mRet none)))) [some N,some A,some S,some F,some n,some W,some H,some k,some (.lst G),some T,v10,v11,some c,some s,some O,v15,v16]=some (.nx [some N,some A,some S,some F,some n,some W,some H,some k,some (.lst G),some T,v10,v11,some c,some s,some O,some (.lst GO),v16]):=by
 walk_at "ev"
theorem b3t(N S A F n W H k G T c O X j:D)(s:Int)(b:Bool)(v10 v11:Option D)(hb:(drK s 3==0)=b):w3d [some N,some A,some S,some F,some n,some W,some H,some k,some G,some T,v10,v11,some c,some (.lst [.int s]),some O,some X,some j]=some (b,[some N,some A,some S,some F,some n,some W,some H,some k,some G,some T,v10,v11,some c,some (.lst [.int (nxK s)]),some O,some X,some j]):=by have h:=q4e s 3 (by decide);generalize drK s 3=d at h hb;walk_at "ev"
theorem b3c(N S A F n W H k G T c O X j:D)(s:Int)(v10 v11:Option D)(two:2<=sizeLine):w3c [some N,some A,some S,some F,some n,some W,some H,some k,some G,some T,v10,v11,some c,some (.lst [.int s]),some O,some X,some j]=some (.tup [.str "clear",.int (drK s 2)],[some N,some A,some S,some F,some n,some W,some H,some k,some G,some T,v10,v11,some c,some (.lst [.int (nxK s)]),some O,some X,some j]):=by have h:=q4e s 2 (by decide);walk_at "ev"
theorem b3v(N S A F n W H k G T c s O X j:D)(v10 v11:Option D):(mVar 16) [some N,some A,some S,some F,some n,some W,some H,some k,some G,some T,v10,v11,some c,some s,some O,some X,some j]=some (j,[some N,some A,some S,some F,some n,some W,some H,some k,some G,some T,v10,v11,some c,some s,some O,some X,some j]):=by walk_at "ev"
theorem qt8{ft:RhB}{fa fb:RhO}{ρ ρ1:Rho}{b:Bool}(h:ft ρ=some (b,ρ1)):sIf ft fa fb ρ=if b=true then fa ρ1 else fb ρ1:=by rw[qm3,h];rfl
theorem qmb{i m:Nat}{fa fb:RhD}{ρ ρ1 ρ2:Rho}{x:D}{j:Int}{xs:List D}(h1:fa ρ=some (x,ρ1))(h2:fb ρ1=some (.int j,ρ2))(h3:ρ2[i]? =some (some (.lst xs)))(h4:ixN xs.length j=some m):q4x i fa fb ρ=some (.nx (ρ2.set i (some (.lst (xs.set m x))))):=by rw[q94,h1];show(fb ρ1).bind _=_;rw[h2];show((ρ2[i]?).join).bind _=_;rw[h3];show((ixN xs.length j).map λm=>D.lst (xs.set m x)).map _=_;rw[h4];rfl
theorem b3n(N S A F n W H k T c s O:D)(G X:List D)(v10 v11 v16:Option D):w30 [some N,some A,some S,some F,some n,some W,some H,some k,some (.lst G),some T,v10,v11,some c,some s,some O,some (.lst X),v16]=some ([.int ((G.length:Nat):Int),.int ((X.length:Nat):Int)],[some N,some A,some S,some F,some n,some W,some H,some k,some (.lst G),some T,v10,v11,some c,some s,some O,some (.lst X),v16]):=by walk_at "ev"
theorem qmg{ρ ρ1:Rho}{fs:RhL}{i j:Int}(h:fs ρ=some ([.int i,.int j],ρ1))(i0:0<=i)(i1:i<=10000)(j0:0<=j)(j1:j<=10000):qbe fs ρ=some (q15 i (j-i).toNat,ρ1):=by rw[qhk,h];show((if(big i&&big j)=true then some (q15 i (j-i).toNat)else none).map λx=>(x,ρ1))=_;rw[if_pos (by unfold big;simp;omega)];rfl
theorem b3{FI:RhL}{fg:RhG}{FB:RhO}{ρ ρ1 ρ2:Rho}{X:List D}(hI:FI ρ=some (X,ρ1))(l:q1p fg FB X ρ1=some (.nx ρ2)):(sFor FI fg FB) ρ=some (.nx ρ2):=by rw[qhj,hI];exact l
theorem b4(N S A F n W H k G c s C x:D)(O GO X T:List D)(v10 v11 v16:Option D)(FX:RhO)(m:Int)(hm:((O.length:Nat):Int)=m)(h:f_y39 [S,.int m,.lst GO]=some (.tup [x,.lst X]))(E:eqD (.lst (X.take T.length)) (.lst T)=some true):(sIf w1p FX sNil) [some N,some A,some S,some F,some n,some W,some H,some k,some G,some (.lst T),v10,v11,some c,some s,some (.lst O),some (.lst GO),v16]=some (.nx [some N,some A,some S,some F,some n,some W,some H,some k,some G,some (.lst T),v10,v11,some c,some s,some (.lst O),some (.lst GO),v16]):=by subst hm;walk_at "ev"
theorem l12(S A F n W H k G T:D)(N N6:List D)(v10 v11 v12 v13 v14 v15 v16:Option D)(FB:RhO)(sl:dSl (.lst N) (some 2) (some 8)=some (.lst N6))(l:q1p (gSet 12) FB N6 [some (.lst N),some A,some S,some F,some n,some W,some H,some k,some G,some T,v10,v11,none,none,none,none,none]=some (.nx [some (.lst N),some A,some S,some F,some n,some W,some H,some k,some G,some T,v10,v11,v12,v13,v14,v15,v16])):
 (sSeq (sFor w2v (gSet 12) FB) (sRet (mRet (.bl true)))) [some (.lst N),some A,some S,some F,some n,some W,some H,some k,some G,some T,v10,v11,none,none,none,none,none]=some (.rt (.bl true) [some (.lst N),some A,some S,some F,some n,some W,some H,some k,some G,some T,v10,v11,v12,v13,v14,v15,v16]):=by
 walk_at "ev"
theorem qhm{a b:List Int}(h:a=b):eqD (.lst (a.map D.int)) (.lst (b.map D.int))=some true:=by rw[qk3,decide_eq_true h]
theorem draws(ρ:Int->Rho)(p:Nat)(hc:∀s,q5b 1 [p] (ρ s)=[none,some (.lst [.int s])])(hb:∀s s' x,q50 (some (p,1)) (ρ s) [some (.int x),some (.lst [.int s'])]=ρ s')(n:Nat)(s:Int):
 ∃(w:List Int) (s':Int),q12 1 [p] (some (p,1)) (gSet 0) (mRet true) (q17 f_y42 1 (q00 (mRet (.int 2)) mNil)) (q15 0 n) (ρ s)=some (w.map D.int,ρ s')/\w.length=n/\Bits w:=by
 obtain⟨ys,s2,c1,c2,c3⟩:=q6u (n:=1) (p:=p) (q:=1) (js:=[p]) (fg:=gSet 0) (fe:=q17 f_y42 1 (q00 (mRet (.int 2)) mNil)) ρ (λy=>∃t:Int,y=.int t/\(t=0∨t=1)) (q15 0 n) (λx hx s=>by obtain⟨k,hk⟩:=List.mem_iff_getElem?.mp hx;obtain⟨_,rfl⟩:=q1t hk;have d0:=q5q s (m:=2) (by decide);have d2:=q5r s (m:=2) (by decide);exact⟨[some (.int (0+(k:Int))),some (.lst [.int s])],[some (.int (0+(k:Int))),some (.lst [.int (nxK s)])],.int (drK s 2),nxK s,by rw[hc];rfl,l4e _ _,hb _ _ _,_,rfl,by omega⟩) s
 obtain⟨w,rfl,hw⟩:=q7j c3;rw[j4,q1h]at c2;exact⟨w,s2,c1,c2,hw⟩
section
variable{r:Int}{taps:List Int}{rows:List (List Int)}{e:Str}
theorem qgn(ok:q2g r taps rows e)(he:e≠"ring")(n:Nat)(hn:n<=60)(ts:List Told)(ht:ts.length=(q0c taps rows (n+q0a r e)).length){k:Nat}(hk:k<=n){row:Kr}(g:q2n (r:=r) (taps:=taps) (rows:=rows) (ts:=ts) k row):
 ∃(c:Int) (w:List Int),f_y39 [schD r taps rows e,.int n,.lst (ts.map q1a)]=some (.tup [.int c,.lst (w.map D.int)])/\eqD (.lst ((w.map D.int).take ((q10 row).map D.int).length)) (.lst ((q10 row).map D.int))=some true:=by
 have hr:e="ring"->r.toNat<=n:=λz=>absurd z he;have hx:=qn3 (taps:=taps) (rows:=rows) hr ok.en ht;refine⟨(qgo r taps rows e ts n).1,(qgo r taps rows e ts n).2,quv ok n hn hr ts ht,?_⟩;rw[j4,<-List.map_take];exact qhm (q9j he ht hx hk g)
theorem qh7(k:Nat)(ts:List Told):q2n (r:=r) (taps:=taps) (rows:=rows) (ts:=ts) k (qbk (2^r.toNat) (q0z r taps rows ts k 0 k)):=by have:=q8z (n:=k) k 0 _ (by omega) (q61 (r:=r) (taps:=taps) (rows:=rows) (ts:=ts));rw[jo]at this;exact this
theorem qel(ok:q2g r taps rows e)(k:Nat)(hk:k<=60)(ts:List Told)(hl:(q0c taps rows k).length<=ts.length)(row:Kr)(g:q2n (r:=r) (taps:=taps) (rows:=rows) (ts:=ts) k row)(N A F n W G:D):
 ∃v10 v11,q1p (gSet 10) w03 (q15 0 k) [some N,some A,some (schD r taps rows e),some F,some n,some W,some (.lst (ts.map q1a)),some (.int (k:Int)),some G,some (.lst ((q10 row).map D.int)),none,none,none,none,none,none,none]=some (.nx [some N,some A,some (schD r taps rows e),some F,some n,some W,some (.lst (ts.map q1a)),some (.int (k:Int)),some G,some (.lst ((q10 row).map D.int)),v10,v11,none,none,none,none,none]):=by
 obtain⟨ρ',l1,v10,v11,hρ⟩:=qhg (fg:=gSet 10) (fb:=w03) (λρ=>∃v10 v11,ρ=[some N,some A,some (schD r taps rows e),some F,some n,some W,some (.lst (ts.map q1a)),some (.int (k:Int)),some G,some (.lst ((q10 row).map D.int)),v10,v11,none,none,none,none,none]) (q15 0 k) [some N,some A,some (schD r taps rows e),some F,some n,some W,some (.lst (ts.map q1a)),some (.int (k:Int)),some G,some (.lst ((q10 row).map D.int)),none,none,none,none,none,none,none] ⟨none,none,rfl⟩ (λx ρ hx ⟨v10,v11,hρ⟩=>by
  subst hρ;obtain⟨j,hx1⟩:=List.mem_iff_getElem?.mp hx;obtain⟨hj,rfl⟩:=q1t hx1;rw[Int.zero_add];have hmono:=q49 (taps:=taps) (rows:=rows) (show j<=k by omega);have lj:(ts.take (q0c taps rows j).length).length=(q0c taps rows j).length:=by rw[x6];omega
  have hs:=qqq ok j (by omega) (ts.take (q0c taps rows j).length) lj;have gj:=q62 (ts':=ts) (by rw[List.take_take,Nat.min_self]) (qh7 (r:=r) (taps:=taps) (rows:=rows) j (ts.take (q0c taps rows j).length));have sl:dSl (.lst (ts.map q1a)) none (some ((q0c taps rows j).length:Nat))=some (.lst ((ts.take (q0c taps rows j).length).map q1a)):=by rw[q95 (by omega),jm,List.map_take]
  generalize qbk (2^r.toNat) (q0z r taps rows (ts.take (q0c taps rows j).length) j 0 j)=zo at hs gj;have E:eqD (.lst (((q10 row).map D.int).take ((q10 zo).map D.int).length)) (.lst (((q10 zo).map D.int).take ((q10 row).map D.int).length))=some true:=by rw[j4,j4,<-List.map_take,<-List.map_take];exact qhm (q8o (by omega) g gj)
  exact⟨_,_,rfl,.inl ((q0v (f0 _ _ _ _ _ _ _ _ _ _ _ _ _ _ v11 (ql5 ok j (by omega)) sl hs)).trans (f1 _ _ _ _ _ _ _ _ _ _ _ _ _ E)),_,_,rfl⟩)
 subst hρ;exact⟨v10,v11,l1⟩
abbrev w01:=w1o
theorem qio(N S A F n W H k G T c O:D)(v10 v11 v16:Option D)(P L:Nat)(zc:List Told)(hP:P<=L)(hL:L<=1000)(s:Int)(ts:List Told)(lt:ts.length=L)(hb:ts.take P=zc):
 ∃(s':Int) (ts':List Told) (zw:Option D),q1p (gSet 16) w01 (q15 (P:Int) (L-P)) [some N,some A,some S,some F,some n,some W,some H,some k,some G,some T,v10,v11,some c,some (.lst [.int s]),some O,some (.lst (ts.map q1a)),v16]=some (.nx [some N,some A,some S,some F,some n,some W,some H,some k,some G,some T,v10,v11,some c,some (.lst [.int s']),some O,some (.lst (ts'.map q1a)),zw])/\ts'.length=L/\ts'.take P=zc:=by
 obtain⟨ρ',l1,s',ts',zw,hρ,lt',hb'⟩:=q2q (fg:=gSet 16) (fb:=w01) (λ_ ρ=>∃(s':Int) (ts':List Told) (zw:Option D),ρ=[some N,some A,some S,some F,some n,some W,some H,some k,some G,some T,v10,v11,some c,some (.lst [.int s']),some O,some (.lst (ts'.map q1a)),zw]/\ts'.length=L/\ts'.take P=zc) (q15 (P:Int) (L-P)) 0
  [some N,some A,some S,some F,some n,some W,some H,some k,some G,some T,v10,v11,some c,some (.lst [.int s]),some O,some (.lst (ts.map q1a)),v16] ⟨s,ts,v16,rfl,lt,hb⟩ (by
   rintro i x ρ hx ⟨s,ts,v16,rfl,lt,hb⟩;obtain⟨hi,rfl⟩:=q1t hx;by_cases z:drK s 3=0
   ·have hm:ixN (ts.map q1a).length ((P:Int)+(i:Int))=some (P+i):=by
     rw[j4,lt];unfold ixN;rw[if_pos (by omega),if_pos (by omega)];congr 1
    refine⟨_,_,rfl,.inl ((qt8 (b3t _ _ _ _ _ _ _ _ _ _ _ _ _ _ _ true _ _ (beq_iff_eq.mpr z))).trans ((if_pos rfl).trans (qmb (b3c _ _ _ _ _ _ _ _ _ _ _ _ _ _ _ _ _ (by decide)) (b3v _ _ _ _ _ _ _ _ _ _ _ _ _ _ _ _ _) rfl hm))),nxK (nxK s),ts.set (P+i) (.clear (drK (nxK s) 2)),_,by rw[List.map_set];rfl,by rw[jx,lt],?_⟩;rw[<-hb];apply List.ext_getElem?;intro j;rw[List.getElem?_take,List.getElem?_take];split
    ·rw[jc (by omega)]
    ·rfl
   ·exact⟨_,_,rfl,.inl ((qt8 (b3t _ _ _ _ _ _ _ _ _ _ _ _ _ _ _ false _ _ (beq_eq_false_iff_ne.mpr z))).trans ((if_neg (by decide)).trans rfl)),nxK s,ts,_,rfl,lt,hb⟩)
 subst hρ;exact⟨s',ts',zw,l1,lt',hb'⟩
end
section
variable{r:Int}{taps:List Int}{rows:List (List Int)}{e:Str}
theorem qer(ok:q2g r taps rows e)(he:e≠"ring")(ns:List Int)(hns:ns.length<=63)(zf:List Int)(hw:Bits zf)(k:Nat)(hk:k<=zf.length)(hl:zf.length<=20)(zc:List Told)(lb:zc.length=(q0c taps rows k).length)(row:Kr)(g:q2n (r:=r) (taps:=taps) (rows:=rows) (ts:=zc) k row)(A F n H:D)(v10 v11:Option D)(cs:List Int):
 ∃v12 v13 v14 v15 v16,q1p (gSet 12) (sSeq w0r (sSeq (sSet 14 (mOp2 dAdd w1j w08)) (sSeq (sOwn 15 (q7t q7x (mVar 8) (mSl (mOf (q1y f_y49 (q00 (mOp2 dAdd (mOf (mLst w0t)) w16) (q00 (mVar 2) (q00 (mVar 14) mNil))))) (q29 (mOp1 dLen (mVar 8))) (mRet none)))) w00))) (cs.map D.int) [some (.lst (ns.map D.int)),some A,some (schD r taps rows e),some F,some n,some (.lst (zf.map D.int)),some H,some (.int (k:Int)),some (.lst (zc.map q1a)),some (.lst ((q10 row).map D.int)),v10,v11,none,none,none,none,none]=some (.nx [some (.lst (ns.map D.int)),some A,some (schD r taps rows e),some F,some n,some (.lst (zf.map D.int)),some H,some (.int (k:Int)),some (.lst (zc.map q1a)),some (.lst ((q10 row).map D.int)),v10,v11,v12,v13,v14,v15,v16]):=by
 have z4:=q3c ok;obtain⟨ρ',l1,v12,v13,v14,v15,v16,hρ⟩:=qhg (fg:=gSet 12) (fb:=(sSeq w0r
 (sSeq (sSet 14 (mOp2 dAdd w1j w08))
 (sSeq (sOwn 15 (q7t q7x (mVar 8) (mSl (mOf (q1y f_y49 (q00 (mOp2 dAdd (mOf (mLst w0t)) w16) (q00 (mVar 2) (q00 (mVar 14) mNil))))) (q29 (mOp1 dLen (mVar 8))) (mRet none))))
 w00)))) (λρ=>∃v12 v13 v14 v15 v16,ρ=[some (.lst (ns.map D.int)),some A,some (schD r taps rows e),some F,some n,some (.lst (zf.map D.int)),some H,some (.int (k:Int)),some (.lst (zc.map q1a)),some (.lst ((q10 row).map D.int)),v10,v11,v12,v13,v14,v15,v16]) (cs.map D.int) [some (.lst (ns.map D.int)),some A,some (schD r taps rows e),some F,some n,some (.lst (zf.map D.int)),some H,some (.int (k:Int)),some (.lst (zc.map q1a)),some (.lst ((q10 row).map D.int)),v10,v11,none,none,none,none,none] ⟨none,none,none,none,none,rfl⟩ (λx ρ hx ⟨v12,v13,v14,v15,v16,hρ⟩=>by
  subst hρ;obtain⟨c,_,rfl⟩:=List.mem_map.mp hx;have hs:=qaj c 3 (by decide);generalize (c % 10^60*7368787+1000003*3+17) % 2305843009213693951=s at hs;have d0:=q5q s (m:=5) (by decide);have d5:=q5r s (m:=5) (by decide);obtain⟨w2,s2,cm,lw2,hw2⟩:=draws (λs=>[some (.lst (ns.map D.int)),some A,some (schD r taps rows e),some F,some n,some (.lst (zf.map D.int)),some H,some (.int (k:Int)),some (.lst (zc.map q1a)),some (.lst ((q10 row).map D.int)),v10,v11,some (.int c),some (.lst [.int s]),v14,v15,v16]) 13 (λ_=>rfl) (λ_ _ _=>rfl) (drK s 5).toNat (nxK s);have slw:dSl (.lst (zf.map D.int)) none (some (k:Int))=some (.lst ((zf.take k).map D.int)):=by rw[q95 (by omega),jm,List.map_take]
  have ltk:(zf.take k).length=k:=by rw[x6];omega
  have a1:=b1 (.lst (ns.map D.int)) (schD r taps rows e) A F n (.lst (zf.map D.int)) H (.lst (zc.map q1a)) (.lst ((q10 row).map D.int)) (.int c) (k:Int) (.lst [.int s]) (.lst [.int (nxK s)]) (.lst [.int s2]) v10 v11 v14 v15 v16 _ _ _ _ _ slw (by rw[q1h];exact q1d (by omega)) (by rw[j4,j4];exact q1d (by omega)) (q4l (b1n _ _ _ _ _ _ _ _ _ _ _ _ _ _ _ _ _) d0 (by omega)) cm;rw[<-jt]at a1;have hob:Bits (zf.take k++w2):=q3s (λb hb=>hw b (List.mem_of_mem_take hb)) hw2;have hol:(zf.take k++w2).length=k+w2.length:=by rw[je,ltk]
  generalize zf.take k++w2=other at a1 hob hol;have sln:dSl (.lst (ns.map D.int)) (some 2) none=some (.lst ((ns.drop 2).map D.int)):=by rw[qa9 (by decide),List.map_drop];rfl
  have lns:((ns.drop 2).map D.int).length<=63:=by rw[j4,xf];omega
  have hN:=b2n (schD r taps rows e) A F n (.lst (zf.map D.int)) H (.int (k:Int)) (.lst (zc.map q1a)) (.lst ((q10 row).map D.int)) (.int c) (.lst [.int s2]) (.lst (other.map D.int)) (ns.map D.int) _ v10 v11 v15 v16 (by decide) sln (q1d (by omega)) (q1d (by omega));obtain⟨ts2,hh,l2⟩:=qey ok he (0::0::ns.drop 2) other hob (by omega);have hmono:=q49 (taps:=taps) (rows:=rows) (show k<=other.length+q0a r e by omega);have p4:=q8r ok (other.length+q0a r e);have eg:zc.map q1a++(ts2.map q1a).drop (zc.map q1a).length=(zc++ts2.drop zc.length).map q1a:=by rw[j4,<-List.map_drop,<-jt]
  have a2:=b2 (.lst (ns.map D.int)) (schD r taps rows e) A F n (.lst (zf.map D.int)) H (.int (k:Int)) (.lst ((q10 row).map D.int)) (.int c) (.lst [.int s2]) (.lst (other.map D.int)) _ (zc.map q1a) (ts2.map q1a) _ v10 v11 v15 v16 _ hN hh (by rw[j4,j4];exact q1d (by omega)) eg;have l3:(zc++ts2.drop zc.length).length=ts2.length:=by rw[je,xf];omega
  have t3:(zc++ts2.drop zc.length).take (q0c taps rows k).length=zc:=by rw[<-lb,List.take_left]
  generalize zc++ts2.drop zc.length=ts3 at a2 l3 t3;obtain⟨s4,ts4,zw,a3,l4,t4⟩:=qio (.lst (ns.map D.int)) (schD r taps rows e) A F n (.lst (zf.map D.int)) H (.int (k:Int)) (.lst (zc.map q1a)) (.lst ((q10 row).map D.int)) (.int c) (.lst (other.map D.int)) v10 v11 v16 (q0c taps rows k).length ts2.length zc (by omega) (by omega) s2 ts3 l3 t3;have hI:=qmg (b3n (.lst (ns.map D.int)) (schD r taps rows e) A F n (.lst (zf.map D.int)) H (.int (k:Int)) (.lst ((q10 row).map D.int)) (.int c) (.lst [.int s2]) (.lst (other.map D.int)) (zc.map q1a) (ts3.map q1a) v10 v11 v16) (by omega) (by rw[j4];omega) (by omega) (by rw[j4];omega);rw[j4,j4,lb,l3,show(((ts2.length:Nat):Int)-((q0c taps rows k).length:Nat)).toNat=ts2.length-(q0c taps rows k).length from by omega]at hI;have hb4:zc.take (q0c taps rows k).length=ts4.take (q0c taps rows k).length:=by rw[t4,<-lb,List.take_length]
  obtain⟨cx,wx,hnr,E⟩:=qgn ok he other.length (by omega) ts4 (by rw[l4,l2]) (show k<=other.length by omega) (q62 hb4 g);exact⟨_,_,rfl,.inl ((q0v (b0 _ _ _ _ _ _ _ _ _ _ _ _ _ _ _ _ _ _ hs)).trans<|(q0v a1).trans<|(q0v a2).trans<|(q0v (b3 hI a3)).trans (b4 _ _ _ _ _ _ _ _ _ _ _ (.int 0) _ _ _ _ _ _ _ _ _ _ (by rw[j4]) hnr E)),_,_,_,_,_,rfl⟩)
 subst hρ;exact⟨v12,v13,v14,v15,v16,l1⟩
end
theorem quj(N:List D):dSl (.lst N) (some 2) (some 8)=some (.lst ((N.drop 2).take 6)):=by
 have e1:cutD N (some 2) (some 8)=(N.drop 2).take 6:=by
  unfold cutD;rw[q8p (by decide),q8p (by decide),show(2:Int).toNat=2 from rfl,show(8:Int).toNat=8 from rfl];by_cases q:2<=N.length
  ·rw[Nat.min_eq_left q];by_cases q8:8<=N.length
   ·rw[Nat.min_eq_left q8]
   ·rw[Nat.min_eq_right (by omega),List.take_of_length_le (by rw[xf];exact j8 _),List.take_of_length_le (by rw[xf];omega)]
  ·rw[List.drop_eq_nil_of_le (by omega),List.drop_eq_nil_of_le (by omega),List.take_nil,List.take_nil]
 show some (D.lst (cutD N (some 2) (some 8)))=_;rw[e1]
theorem law_true(ns:List Int)(h:ns.length<=63):f_law [.lst (ns.map D.int)]=some (.bl true):=by
 obtain⟨c0,hc0⟩:=q8k ns 0 (by decide);have hs0:=qaj c0 0 (by decide);generalize (c0 % 10^60*7368787+1000003*0+17) % 2305843009213693951=s0' at hs0;obtain⟨r,taps,rows,e,s1',hsch,ok,he⟩:=qak s0';obtain⟨c1,hc1⟩:=q8k ns 1 (by decide);have hs1:=qaj c1 1 (by decide);generalize (c1 % 10^60*7368787+1000003*1+17) % 2305843009213693951=s2' at hs1;have z4:=q3c ok;have a3:=l3 (.lst (ns.map D.int)) (schD r taps rows e) (.lst [.int s1']) s2';obtain⟨n,hn,hn14⟩:∃n:Nat,drK s2' 15=(n:Int)/\n<=14:=by have d0:=q5q s2' (m:=15) (by decide);have d1:=q5r s2' (m:=15) (by decide);exact⟨(drK s2' 15).toNat,by omega,by omega⟩
 rw[hn]at a3;obtain⟨zf,s3',cm,lw,hw⟩:=draws (λs=>[some (.lst (ns.map D.int)),some (.lst [.int s1']),some (schD r taps rows e),some (.lst [.int s]),some (.int (n:Int)),none,none,none,none,none,none,none,none,none,none,none,none]) 3 (λ_=>rfl) (λ_ _ _=>rfl) n (nxK s2');have hI4:=q4l (l4n (.lst (ns.map D.int)) (schD r taps rows e) (.lst [.int s1']) (.lst [.int (nxK s2')]) (.int (n:Int))) (by omega) (by omega);rw[jm]at hI4;have a4:=l4x (.lst (ns.map D.int)) (schD r taps rows e) (.lst [.int s1']) (.int (n:Int)) _ _ _ _ _ _ (by rw[q1h];exact q1d (by omega)) hI4 cm;obtain⟨ts,hts,lts⟩:=qey ok he ns zf hw (by omega);rw[lw]at lts;have a6:=l6 (.lst (ns.map D.int)) (schD r taps rows e) (.lst [.int s1']) (.lst (zf.map D.int)) (.lst (ts.map q1a)) s3' (n:Int) ((n:Int)+1) rfl (by omega);obtain⟨k,hk,hkn⟩:∃k:Nat,drK s3' ((n:Int)+1)=(k:Int)/\k<=n:=by have d0:=q5q s3' (m:=(n:Int)+1) (by omega);have d1:=q5r s3' (m:=(n:Int)+1) (by omega);exact⟨(drK s3' ((n:Int)+1)).toNat,by omega,by omega⟩
 rw[hk]at a6;have hmono:=q49 (taps:=taps) (rows:=rows) (show k<=n+q0a r e by omega);have p4:=q8r ok (n+q0a r e);have sl:dSl (.lst (ts.map q1a)) none (some ((q0c taps rows k).length:Nat))=some (.lst ((ts.take (q0c taps rows k).length).map q1a)):=by rw[q95 (by omega),jm,List.map_take]
 have lb:(ts.take (q0c taps rows k).length).length=(q0c taps rows k).length:=by rw[x6];omega
 have gB:=qh7 (r:=r) (taps:=taps) (rows:=rows) k (ts.take (q0c taps rows k).length);have hset:=qqq ok k (by omega) (ts.take (q0c taps rows k).length) lb;have gT:=q62 (ts':=ts) (by rw[List.take_take,Nat.min_self]) gB;generalize qbk (2^r.toNat) (q0z r taps rows (ts.take (q0c taps rows k).length) k 0 k)=row at gB hset gT;generalize ts.take (q0c taps rows k).length=zc at sl lb gB hset;obtain⟨hb,hle⟩:=qdn gB;obtain⟨cx,wx,hnr,E⟩:=qgn ok he n (by omega) ts lts hkn gT;obtain⟨v10,v11,hf⟩:=qel ok k (by omega) ts (by omega) row gT (.lst (ns.map D.int)) (.lst [.int s1']) (.lst [.int (nxK s3')]) (.int (n:Int)) (.lst (zf.map D.int)) (.lst (zc.map q1a));have hI11:=q4l (l11n (.lst (ns.map D.int)) (schD r taps rows e) (.lst [.int s1']) (.lst [.int (nxK s3')]) (.int (n:Int)) (.lst (zf.map D.int)) (.lst (ts.map q1a)) (.int (k:Int)) (.lst (zc.map q1a)) (.lst ((q10 row).map D.int))) (by omega) (by omega);rw[jm]at hI11;have slc:dSl (.lst (ns.map D.int)) (some 2) (some 8)=some (.lst (((ns.drop 2).take 6).map D.int)):=by rw[List.map_take,List.map_drop];exact quj _
 obtain⟨v12,v13,v14,v15,v16,hc⟩:=qer ok he ns h zf hw k (by omega) (by omega) zc lb row gB (.lst [.int s1']) (.lst [.int (nxK s3')]) (.int (n:Int)) (.lst (ts.map q1a)) v10 v11 ((ns.drop 2).take 6);exact q4k rfl ⟨_,(q0v (l0 _ _ c0 hc0 hs0)).trans<|
  (q0v (l1 _ _ _ _ (by decide) hsch)).trans<|
  (q0v (l2 _ _ _ _ c1 hc1 hs1)).trans<|
  (q0v a3).trans<|
  (q0v a4).trans<|
  (q0v (l5 _ _ _ _ _ _ _ hts)).trans<|
  (q0v a6).trans<|
  (q0v (l7 _ _ _ _ _ _ _ _ _ _ (ql5 ok k (by omega)) sl)).trans<|
  (q0v (l8 _ _ _ _ _ _ _ _ _ _ (by rw[j4];exact q1d (by omega)) hset)).trans<|
  (q0v (l9 _ _ _ _ _ _ _ _ _ _ _ _ (by rw[j4]) (qif _ hb _ rfl (by omega)) (by omega))).trans<|
  (q0v (l10 _ _ _ _ _ _ _ _ _ _ _ _ _ (by rw[j4];exact q1d (by omega)) hnr E)).trans<|
  (q0v (l11 _ _ _ _ _ _ _ _ _ _ _ _ _ _ _ hI11 hf)).trans<|
  l12 _ _ _ _ _ _ _ _ _ _ _ _ _ _ _ _ _ _ _ slc hc⟩
theorem qsr{P:Program}{w:World}{K mg a base}(T:Txt K mg a):FnOk P w K mg base CX0 9 a.f_law a.fd_law ["_law_script"] (qma K 63):=qss (qrz T) law_true
local macro_rules|`(tactic|walk_at "k")=>`(tactic|as_aux_lemma=>kernel_rfl)
local macro_rules|`(tactic|walk_at "f")=>`(tactic|exact qte (oc:=.type "function") (od:=none) (osl:=#[]) (by walk_at "k") (by walk_at "k") (by walk_at "k"))
noncomputable def ad:Ad:=⟨169,195,228,58,(PySem.W.fnOf "rooms_at" "rooms_at" (q0o s_y0) (q0m s_y0) (q04 s_y0) .none (.none) (.none) (.str "trellisway.schemes" 239) none (.ref 57) (.none)),65,(PySem.W.fnOf "rooms" "rooms" (q0o s_y1) (q0m s_y1) (q04 s_y1) .none (.none) (.none) (.str "trellisway.schemes" 239) none (.ref 64) (.none)),72,(PySem.W.fnOf "parity" "parity" (q0o s_y2) (q0m s_y2) (q04 s_y2) .none (.none) (.none) (.str "trellisway.schemes" 239) none (.ref 71) (.none)),77,(PySem.W.fnOf "step" "step" (q0o s_y3) (q0m s_y3) (q04 s_y3) .none (.none) (.none) (.str "trellisway.schemes" 239) none (.ref 76) (.none)),82,(PySem.W.fnOf "sent_at" "sent_at" (q0o s_y4) (q0m s_y4) (q04 s_y4) .none (.none) (.none) (.str "trellisway.schemes" 239) none (.ref 81) (.none)),89,(PySem.W.fnOf "is_ring" "is_ring" (q0o s_y5) (q0m s_y5) (q04 s_y5) .none (.none) (.none) (.str "trellisway.sending" 276) none (.ref 88) (.none)),96,(PySem.W.fnOf "check_size" "check_size" (q0o s_y6) (q0m s_y6) (q04 s_y6) .none (.none) (.none) (.str "trellisway.sending" 276) none (.ref 95) (.none)),103,(PySem.W.fnOf "bits_behind" "bits_behind" (q0o s_y7) (q0m s_y7) (q04 s_y7) .none (.none) (.none) (.str "trellisway.sending" 276) none (.ref 102) (.none)),110,(PySem.W.fnOf "first_rooms" "first_rooms" (q0o s_y8) (q0m s_y8) (q04 s_y8) .none (.none) (.none) (.str "trellisway.sending" 276) none (.ref 109) (.none)),117,(PySem.W.fnOf "steps_of" "steps_of" (q0o s_y9) (q0m s_y9) (q04 s_y9) .none (.none) (.none) (.str "trellisway.sending" 276) none (.ref 116) (.none)),124,(PySem.W.fnOf "places_of" "places_of" (q0o qfy) (q0m qfy) (q04 qfy) .none (.none) (.none) (.str "trellisway.sending" 276) none (.ref 123) (.none)),152,(PySem.W.fnOf "__init__" "Clear.__init__" (q0o qfx) (q0m qfx) (q04 qfx) .none (.none) (.none) (.str "trellisway.signs" 326) none (.ref 151) (.none)),166,(PySem.W.fnOf "cost" "Clear.cost" (q0o qfw) (q0m qfw) (q04 qfw) .none (.none) (.none) (.str "trellisway.signs" 326) none (.ref 165) (.none)),192,(PySem.W.fnOf "cost" "Gap.cost" (q0o qfv) (q0m qfv) (q04 qfv) .none (.none) (.none) (.str "trellisway.signs" 326) none (.ref 191) (.none)),211,(PySem.W.fnOf "__init__" "Soft.__init__" (q0o qfu) (q0m qfu) (q04 qfu) .none (.none) (.none) (.str "trellisway.signs" 326) none (.ref 210) (.none)),225,(PySem.W.fnOf "cost" "Soft.cost" (q0o qft) (q0m qft) (q04 qft) .none (.none) (.none) (.str "trellisway.signs" 326) none (.ref 224) (.none)),237,(PySem.W.fnOf "sign_of" "sign_of" (q0o qfs) (q0m qfs) (q04 qfs) .none (.none) (.none) (.str "trellisway.signs" 326) none (.ref 236) (.none)),244,(PySem.W.fnOf "check_heard" "check_heard" (q0o qfr) (q0m qfr) (q04 qfr) .none (.none) (.none) (.str "trellisway.costs" 468) none (.ref 243) (.none)),249,(PySem.W.fnOf "signs_cost" "signs_cost" (q0o qe1) (q0m qe1) (q04 qe1) .none (.none) (.none) (.str "trellisway.costs" 468) none (.ref 248) (.none)),254,(PySem.W.fnOf "signs_by_step" "signs_by_step" (q0o qe0) (q0m qe0) (q04 qe0) .none (.none) (.none) (.str "trellisway.costs" 468) none (.ref 253) (.none)),261,(PySem.W.fnOf "move" "move" (q0o qfq) (q0m qfq) (q04 qfq) .none (.none) (.none) (.str "trellisway.costs" 468) none (.ref 260) (.none)),266,(PySem.W.fnOf "moves_from" "moves_from" (q0o qdz) (q0m qdz) (q04 qdz) .none (.none) (.none) (.str "trellisway.costs" 468) none (.ref 265) (.none)),271,(PySem.W.fnOf "moves" "moves" (q0o qdy) (q0m qdy) (q04 qdy) .none (.none) (.none) (.str "trellisway.costs" 468) none (.ref 270) (.none)),276,(PySem.W.fnOf "end_costs" "end_costs" (q0o qdx) (q0m qdx) (q04 qdx) .none (.none) (.none) (.str "trellisway.costs" 468) none (.ref 275) (.none)),283,(PySem.W.fnOf "cost_by" "cost_by" (q0o qfp) (q0m qfp) (q04 qfp) .none (.none) (.none) (.str "trellisway.costs" 468) none (.ref 282) (.none)),288,(PySem.W.fnOf "least_by" "least_by" (q0o qan) (q0m qan) (q04 qan) .none (.none) (.none) (.str "trellisway.costs" 468) none (.ref 287) (.none)),293,(PySem.W.fnOf "ahead_by" "ahead_by" (q0o qdw) (q0m qdw) (q04 qdw) .none (.none) (.none) (.str "trellisway.costs" 468) none (.ref 292) (.none)),300,(PySem.W.fnOf "ahead_by_start" "ahead_by_start" (q0o qfo) (q0m qfo) (q04 qfo) .none (.none) (.none) (.str "trellisway.costs" 468) none (.ref 299) (.none)),307,(PySem.W.fnOf "opened" "opened" (q0o qfn) (q0m qfn) (q04 qfn) .none (.none) (.none) (.str "trellisway.pieces" 553) none (.ref 306) (.none)),312,(PySem.W.fnOf "kept_at_first" "kept_at_first" (q0o qdv) (q0m qdv) (q04 qdv) .none (.none) (.none) (.str "trellisway.pieces" 553) none (.ref 311) (.none)),319,(PySem.W.fnOf "better" "better" (q0o qfm) (q0m qfm) (q04 qfm) .none (.none) (.none) (.str "trellisway.pieces" 553) none (.ref 318) (.none)),326,(PySem.W.fnOf "kept_on" "kept_on" (q0o qfl) (q0m qfl) (q04 qfl) .none (.none) (.none) (.str "trellisway.pieces" 553) none (.ref 325) (.none)),333,(PySem.W.fnOf "kept" "kept" (q0o qfk) (q0m qfk) (q04 qfk) .none (.none) (.none) (.str "trellisway.pieces" 553) none (.ref 332) (.none)),340,(PySem.W.fnOf "begun_alike" "begun_alike" (q0o qfj) (q0m qfj) (q04 qfj) .none (.none) (.none) (.str "trellisway.pieces" 553) none (.ref 339) (.none)),345,(PySem.W.fnOf "settled" "settled" (q0o qdu) (q0m qdu) (q04 qdu) .none (.none) (.none) (.str "trellisway.pieces" 553) none (.ref 344) (.none)),352,(PySem.W.fnOf "nearest_from" "nearest_from" (q0o qfi) (q0m qfi) (q04 qfi) .none (.none) (.none) (.str "trellisway.nearest" 618) none (.ref 351) (.none)),357,(PySem.W.fnOf "nearest" "nearest" (q0o qdt) (q0m qdt) (q04 qdt) .none (.none) (.none) (.str "trellisway.nearest" 618) none (.ref 356) (.none)),364,(PySem.W.fnOf "_law_cell_at" "_law_cell_at" (q0o qfh) (q0m qfh) (q04 qfh) .none (.none) (.none) (.str zlw 641) none (.ref 363) (.none)),371,(PySem.W.fnOf "_law_state" "_law_state" (q0o qfg) (q0m qfg) (q04 qfg) .none (.none) (.none) (.str zlw 641) none (.ref 370) (.none)),378,(PySem.W.fnOf "_law_next" "_law_next" (q0o qff) (q0m qff) (q04 qff) .none (.none) (.none) (.str zlw 641) none (.ref 377) (.none)),383,(PySem.W.fnOf "_law_scheme" "_law_scheme" (q0o qam) (q0m qam) (q04 qam) .none (.none) (.none) (.str zlw 641) none (.ref 382) (.none)),390,(PySem.W.fnOf "_law_odd" "_law_odd" (q0o qfe) (q0m qfe) (q04 qfe) .none (.none) (.none) (.str zlw 641) none (.ref 389) (.none)),395,(PySem.W.fnOf "_law_step" "_law_step" (q0o qal) (q0m qal) (q04 qal) .none (.none) (.none) (.str zlw 641) none (.ref 394) (.none)),402,(PySem.W.fnOf "_law_start" "_law_start" (q0o qfd) (q0m qfd) (q04 qfd) .none (.none) (.none) (.str zlw 641) none (.ref 401) (.none)),409,(PySem.W.fnOf "_law_sent" "_law_sent" (q0o qfc) (q0m qfc) (q04 qfc) .none (.none) (.none) (.str zlw 641) none (.ref 408) (.none)),416,(PySem.W.fnOf "_law_sign" "_law_sign" (q0o qfb) (q0m qfb) (q04 qfb) .none (.none) (.none) (.str zlw 641) none (.ref 415) (.none)),423,(PySem.W.fnOf "_law_heard" "_law_heard" (q0o qfa) (q0m qfa) (q04 qfa) .none (.none) (.none) (.str zlw 641) none (.ref 422) (.none)),430,(PySem.W.fnOf "_law_whole" "_law_whole" (q0o qf9) (q0m qf9) (q04 qf9) .none (.none) (.none) (.str zlw 641) none (.ref 429) (.none)),435,(PySem.W.fnOf "_law_is_word" "_law_is_word" (q0o qds) (q0m qds) (q04 qds) .none (.none) (.none) (.str zlw 641) none (.ref 434) (.none)),440,(PySem.W.fnOf "_law_many" "_law_many" (q0o qdr) (q0m qdr) (q04 qdr) .none (.none) (.none) (.str zlw 641) none (.ref 439) (.none)),445,(PySem.W.fnOf "law" "law" (q0o qao) (q0m qao) (q04 qao) .none (.none) (.none) (.str zlw 641) none (.ref 444) (.none))⟩
theorem txt{P:Params}{h:Heap}{mg:Str->Option Value}{fa:Addr}(X:(H25.KH P).In h)(G:h.Ns mainGlobals mg)(hfa:mg "law"=some (.ref fa)):∃a:Ad,Txt (H25.KH P) mg a/\a.f_law=fa/\∀(s:Shared) (v:Value),BindsTo s a.fd_law ⟨[v],[]⟩ [("_law_script",v)]:=by have e0:445=fa:=Value.ref.inj (ja ((PySem.W.mg_of X G (show PySem.W.nsIn (H25.KH P) mainGlobals "law"=some (some (.ref 445))from by walk_at "k")).symm.trans hfa));subst e0;have g {x:Str} {v:Value} (h:PySem.W.nsIn (H25.KH P) mainGlobals x=some (some v)):mg x=some v:=PySem.W.mg_of X G h;refine⟨ad,⟨g ?_,?_,⟨?_,?_,?_,?_⟩,(show PySem.W.findIn (H25.KH P) (.ref 169) "bit"=some none from by walk_at "k"),g ?_,?_,⟨?_,?_,?_,?_⟩,g ?_,?_,⟨?_,?_,?_,?_⟩,(show PySem.W.findIn (H25.KH P) (.ref 228) "zero"=some none from by walk_at "k"),(show PySem.W.findIn (H25.KH P) (.ref 228) "one"=some none from by walk_at "k"),(by walk_at "f"),.all λus hl=>match us,hl with|[_],_=>rfl,g ?_,(by walk_at "f"),.all λus hl=>match us,hl with|[_],_=>rfl,g ?_,(by walk_at "f"),.all λus hl=>match us,hl with|[_],_=>rfl,g ?_,(by walk_at "f"),.all λus hl=>match us,hl with|[_,_,_],_=>rfl,g ?_,(by walk_at "f"),.all λus hl=>match us,hl with|[_,_,_],_=>rfl,g ?_,(by walk_at "f"),.all λus hl=>match us,hl with|[_],_=>rfl,g ?_,(by walk_at "f"),.all λus hl=>match us,hl with|[_,_],_=>rfl,g ?_,(by walk_at "f"),.all λus hl=>match us,hl with|[_],_=>rfl,g ?_,(by walk_at "f"),.all λus hl=>match us,hl with|[_],_=>rfl,g ?_,(by walk_at "f"),.all λus hl=>match us,hl with|[_,_],_=>rfl,g ?_,(by walk_at "f"),.all λus hl=>match us,hl with|[_,_],_=>rfl,g ?_,(by walk_at "f"),.all λus hl=>match us,hl with|[_,_],_=>rfl,(by walk_at "f"),.all λus hl=>match us,hl with|[_,_],_=>rfl,⟨?_,?_,?_⟩,(by walk_at "f"),.all λus hl=>match us,hl with|[_,_],_=>rfl,⟨?_,?_,?_⟩,(by walk_at "f"),.all λus hl=>match us,hl with|[_,_,_],_=>rfl,(by walk_at "f"),.all λus hl=>match us,hl with|[_,_],_=>rfl,⟨?_,?_,?_⟩,(by walk_at "f"),.all λus hl=>match us,hl with|[_],_=>rfl,g ?_,(by walk_at "f"),.all λus hl=>match us,hl with|[_,_,_],_=>rfl,g ?_,(by walk_at "f"),.all λus hl=>match us,hl with|[_,_],_=>rfl,g ?_,(by walk_at "f"),.all λus hl=>match us,hl with|[_,_,_],_=>rfl,g ?_,(by walk_at "f"),.all λus hl=>match us,hl with|[_,_,_,_,_],_=>rfl,g ?_,(by walk_at "f"),.all λus hl=>match us,hl with|[_,_,_,_,_],_=>rfl,g ?_,(by walk_at "f"),.all λus hl=>match us,hl with|[_,_,_],_=>rfl,g ?_,(by walk_at "f"),.all λus hl=>match us,hl with|[_,_],_=>rfl,g ?_,(by walk_at "f"),.all λus hl=>match us,hl with|[_,_],_=>rfl,g ?_,(by walk_at "f"),.all λus hl=>match us,hl with|[_,_],_=>rfl,g ?_,(by walk_at "f"),.all λus hl=>match us,hl with|[_,_],_=>rfl,g ?_,(by walk_at "f"),.all λus hl=>match us,hl with|[_,_],_=>rfl,g ?_,(by walk_at "f"),.all λus hl=>match us,hl with|[_],_=>rfl,g ?_,(by walk_at "f"),.all λus hl=>match us,hl with|[_],_=>rfl,g ?_,(by walk_at "f"),.all λus hl=>match us,hl with|[_,_],_=>rfl,g ?_,(by walk_at "f"),.all λus hl=>match us,hl with|[_,_],_=>rfl,g ?_,(by walk_at "f"),.all λus hl=>match us,hl with|[_,_,_],_=>rfl,g ?_,(by walk_at "f"),.all λus hl=>match us,hl with|[_,_],_=>rfl,g ?_,(by walk_at "f"),.all λus hl=>match us,hl with|[_,_,_],_=>rfl,g ?_,(by walk_at "f"),.all λus hl=>match us,hl with|[_,_,_,_],_=>rfl,g ?_,(by walk_at "f"),.all λus hl=>match us,hl with|[_,_,_],_=>rfl,g ?_,(by walk_at "f"),.all λus hl=>match us,hl with|[_,_],_=>rfl,g ?_,(by walk_at "f"),.all λus hl=>match us,hl with|[_,_],_=>rfl,g ?_,(by walk_at "f"),.all λus hl=>match us,hl with|[_,_],_=>rfl,g ?_,(by walk_at "f"),.all λus hl=>match us,hl with|[_,_,_],_=>rfl,g ?_,(by walk_at "f"),.all λus hl=>match us,hl with|[_],_=>rfl,g ?_,(by walk_at "f"),.all λus hl=>match us,hl with|[_,_,_,_],_=>rfl,g ?_,(by walk_at "f"),.all λus hl=>match us,hl with|[_,_],_=>rfl,g ?_,(by walk_at "f"),.all λus hl=>match us,hl with|[_,_],_=>rfl,g ?_,(by walk_at "f"),.all λus hl=>match us,hl with|[_,_,_],_=>rfl,g ?_,(by walk_at "f"),.all λus hl=>match us,hl with|[_,_,_],_=>rfl,g ?_,(by walk_at "f"),.all λus hl=>match us,hl with|[_],_=>rfl,g ?_,(by walk_at "f"),.all λus hl=>match us,hl with|[_,_],_=>rfl,g ?_,(by walk_at "f"),.all λus hl=>match us,hl with|[_,_],_=>rfl,g ?_,(by walk_at "f"),.all λus hl=>match us,hl with|[_],_=>rfl,g ?_,⟨?_,?_,?_,?_⟩,⟨?_,?_,?_⟩,⟨?_,?_,?_,?_⟩,PySem.W.mg_none_of X G ?_,PySem.W.mg_none_of X G ?_,PySem.W.mg_none_of X G ?_,PySem.W.mg_none_of X G ?_,PySem.W.mg_none_of X G ?_,PySem.W.mg_none_of X G ?_,PySem.W.mg_none_of X G ?_,PySem.W.mg_none_of X G ?_,PySem.W.mg_none_of X G ?_,PySem.W.mg_none_of X G ?_,PySem.W.mg_none_of X G ?_,PySem.W.mg_none_of X G ?_,PySem.W.mg_none_of X G ?_,PySem.W.mg_none_of X G ?_,q33 (by decide+kernel) ?_ (by decide+kernel),q8y,q33 (by decide+kernel) ?_ (by decide+kernel),q33 (by decide+kernel) ?_ (by decide+kernel),q33 (by decide+kernel) ?_ (by decide+kernel),q33 (by decide+kernel) ?_ (by decide+kernel),q33 (by decide+kernel) ?_ (by decide+kernel),q33 (by decide+kernel) ?_ (by decide+kernel),q33 (by decide+kernel) ?_ (by decide+kernel),q8y,q33 (by decide+kernel) ?_ (by decide+kernel),q33 (by decide+kernel) ?_ (by decide+kernel),q33 (by decide+kernel) ?_ (by decide+kernel),q33 (by decide+kernel) ?_ (by decide+kernel),q33 (by decide+kernel) ?_ (by decide+kernel),q33 (by decide+kernel) ?_ (by decide+kernel),q33 (by decide+kernel) ?_ (by decide+kernel),q33 (by decide+kernel) ?_ (by decide+kernel),q8y,q33 (by decide+kernel) ?_ (by decide+kernel),q33 (by decide+kernel) ?_ (by decide+kernel)⟩,rfl,λs v=>.of_eq rfl⟩<;>walk_at "k"
theorem walk{l:PySem.W.OpenLaw}{q:Program}{loose:List Str}{XP:(Str->Option Value)->Heap->Prop}{YP:World->Heap->Prop}{d:DefRec}{K:Params->PySem.W.Frag}(hn:l.most=some 63)(hdf:d.params.defaults=[])(hd:d.name="law")
 (hY:∀(w:World) (h:Heap),YP w h->(K w.params).In h)
 (F:∀(w:World) (mg:Str->Option Value) (fa:Addr) (h:Heap),(K w.params).In h->h.Ns mainGlobals mg->mg "law"=some (.ref fa)->∃a:Ad,Txt (K w.params) mg a/\a.f_law=fa/\∀(s:Shared) (v:Value),BindsTo s a.fd_law ⟨[v],[]⟩ [("_law_script",v)]):
 PySem.W.WalkO q loose XP YP l.row.toRowW d [] (λf vs=>PySem.call f vs):=
 L2.walk_of (n:=63) (k:=9) (x:="_law_script") (CX:=λ_=>CX0) (sp:=λw=>qma (K w.params) 63) hn (by decide) hdf ⟨rfl,by decide,by decide⟩ hY
  (λw mg fa h KX G hm=>by rw[hd]at hm;obtain⟨a,T,e,b⟩:=F w mg fa h KX G hm;subst e;exact⟨a.fd_law,b,λbase _ _=>qsr T⟩)
  (λ_ _ a ns hl _ hS=>⟨a,ns,rfl,hS,hl,λ_=>rfl⟩) λ_ _ _ _ _ z=>z
end K25
open PySem PySem.W PyProof.Rows
set_option maxRecDepth 100000 in
set_option maxHeartbeats 0 in
theorem PySem.Challenge.cw_trellisway_k25_whole_settled_stays_holds : PySem.Challenge.rw_trellisway_k25_whole_settled_stays.Holds := by
 w_on;o_law
 refine holds_open (r:=PySem.Challenge.rw_trellisway_k25_whole_settled_stays.row) (q:=H25.V) (loose:=[]) (Xt:=(λs=>xlAt H25.V [] s&&recOk (RowW.records (OpenRow.toRowW PySem.Challenge.rw_trellisway_k25_whole_settled_stays.row)) s)) (XP:=XL H25.V []) (Yf:=Hook.obs (kHook H25.KH H25.KA H25.ka_eq)) (Ya:=Hook.val (kHook H25.KH H25.KA H25.ka_eq)) (YP:=Hook.says (kHook H25.KH H25.KA H25.ka_eq)) (N:=6360) H25.leftR (Hook.of (kHook H25.KH H25.KA H25.ka_eq)) (Hook.keeps (kHook H25.KH H25.KA H25.ka_eq)) (λs e=>xl_of s (Bool.and_eq_true_iff.mp e).1) XL.keeps (by rfl) (by rfl) (by rfl) (λs e=>recFacts_of (Bool.and_eq_true_iff.mp e).2) (by rfl) (by first|assumption|decide+kernel) (by decide+kernel) ⟨rfl,rfl,rfl,rfl,rfl,by decide+kernel⟩ ?hw ?hc
 case hw=>w_witness2
 case hc=>exact K25.walk (l:=PySem.Challenge.rw_trellisway_k25_whole_settled_stays) rfl rfl rfl (λw h Y=>PySem.W.kIn_of Y) λw mg fa h KX G hmg=>K25.txt KX G hmg
